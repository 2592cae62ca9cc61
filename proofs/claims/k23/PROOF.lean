import PyProof.Rows.All
import Wide.All
import OpenK.AllK
import Wide.FinOn
import KE.KStateDown
import Lean
import HandS.Base
import HandS.Call
import HandS.List
import HandS.Comp
import HandS.Ends
import HandS.Dict
import HandS.Iter
import HandS.Text
import HandS.More
import HandS.Words
import HandS.WordsList
import HandS.WordsDict
import HandS.Exc
import HandS.ExcOwn
import HandS.TryOnly
import HandS.WordsExc
import HandS.ExcCtx
import HandS.HotCalls
import KE.KExcIs
import HandS.Defaults
import HandS.Codes
import HandS.CallSlots
import HandS.Steps
import HandS.Style
import HandS.Wide
import HandS.WideMore
import HandS.WideBits
import HandS.IsInst
import HandS.ExcInit
import HandS.ExcField
import HandS.ExcIs
import HandS.Gcd
import HandS.FStr
import HandS.RaiseMore
import HandS.Head0
import HandS.Head1
import HandS.Head2
import HandS.Head3
import HandS.HeadEnd
import HandS.HeadHook1
import HandS.HeadHook2
import HandS.HeadHook3
import HandS.HeadHook4
import HandS.Evl
import KE.KExcInit
import HandS.ExcValue
import HandS.ClsMeth
import HandS.Strs
import PyProof.Rows.StrRev
import OpenK.KMeth
import PyProof.InstNe
import HandS.Walk
import HandS.Deep
import PyProof.Rows.StrFit
import KE.KParD
import HandS.Star
import PyProof.ReprRoads
import PyProof.Rows.NestFoldShow
import PyProof.CallFns
import PyProof.ReprLen
import KE.KIntText
import PyProof.FitsInt
import PyProof.StrLawsFirst
import PyProof.StrLawsAffix
import HandS.StrMore
import PyProof.StrBlock2
import KE.KxIndex
import HandS.DictComp
import HandS.Conv
import HandS.Small
import PyProof.NeKinds
import HandS.HeadNt
import PySem.Challenge.RW_mendrounds_k23_errors_made
set_option Elab.async false
set_option linter.all false
set_option maxRecDepth 100000
set_option maxHeartbeats 4000000
namespace Md
open PySem PySem.Spec PyProof.Rows PySem.Calls L2

/-! ### where the classes and tables of the program stand -/
structure Ads where
  cMendroundsError : Addr := 0
  cBadNumber : Addr := 0
  cBadLayout : Addr := 0
  cBadField : Addr := 0
  cBadValue : Addr := 0
  cBadFilling : Addr := 0
  cBadCondition : Addr := 0
  cBadCheck : Addr := 0
  cBadForm : Addr := 0
  cBadPattern : Addr := 0
  cNoFilling : Addr := 0
  cUnlike : Addr := 0
  cTooMany : Addr := 0
  cBadTelling : Addr := 0
  cBadChange : Addr := 0
  cBadBatch : Addr := 0
  cNoCheck : Addr := 0
  cNotTold : Addr := 0
  cRefused : Addr := 0
  cLocked : Addr := 0
  cUnmet : Addr := 0
  cClosed : Addr := 0
  cStarted : Addr := 0
  cLayout : Addr := 0
  cSpace : Addr := 0
  gRESERVED : Addr := 0

/-! ### readings by short names -/
abbrev rAdd : R2 := rI0 fun i j => .int (i + j)
abbrev rSub : R2 := rI0 fun i j => .int (i - j)
abbrev rMulW : R2 := rI CMulW fun i j => .int (i * j)
abbrev rMul : R2 := rI CMul fun i j => .int (i * j)
abbrev rFdvW : R2 := rI CDivW fun i j => .int (i / j)
abbrev rMod : R2 := rI (fun _ j => 0 < j) fun i j => .int (i % j)
abbrev rPow : R2 := rI CPow fun i j => .int (i ^ j.toNat)
abbrev rLt : R2 := rI0 fun i j => .bl (decide (i < j))
abbrev rLe : R2 := rI0 fun i j => .bl (decide (i ≤ j))
abbrev rGt : R2 := rI0 fun i j => .bl (decide (j < i))
abbrev rGe : R2 := rI0 fun i j => .bl (decide (j ≤ i))
abbrev rNeg : V → Hp → VK → Prop := rU fun i => .int (-i)
abbrev rAbs : List V → Hp → VK → Prop := fun xs H Q => ∃ i, xs = [.int i] ∧ Q (.int (if i < 0 then -i else i)) H
abbrev rMax2 : List V → Hp → VK → Prop := fun xs H Q => ∃ i j, xs = [.int i, .int j] ∧ Q (.int (if j > i then j else i)) H
abbrev rMin2 : List V → Hp → VK → Prop := fun xs H Q => ∃ i j, xs = [.int i, .int j] ∧ Q (.int (if j < i then j else i)) H
abbrev rInt1 : List V → Hp → VK → Prop := fun xs H Q => (∃ i, xs = [.int i] ∧ Q (.int i) H) ∨ ∃ k, xs = [.bl k] ∧ Q (.int (if k then 1 else 0)) H
abbrev rStrI : List V → Hp → VK → Prop := fun xs H Q => ∃ i : Int, xs = [.int i] ∧ i.natAbs.log2 < 1920 ∧ Q (.str (toString i)) H
abbrev rAddS : R2 := fun x y H Q => ∃ i j, x = .str i ∧ y = .str j ∧ i.length + j.length ≤ sizeLine ∧ Q (.str (i ++ j)) H
abbrev tRaise (E : XK) (t : L2.St → Hp → XK → Prop) : TS := fun _ σ H => t σ H fun cls d H' => E cls d H'
abbrev tTru (K : PySem.W.Frag) (ta : TE) : TT := fun σ H Q => ta σ H fun x H' => ∃ k, TruV K x H' k ∧ Q k H'
/-- // by any divisor but 0 -/
def CDivG (_ j : Int) : Prop := j ≠ 0 ∧ j.natAbs.log2 < 9000
abbrev rFdvG : R2 := rI CDivG fun i j => .int (i.fdiv j)
theorem op_fdivG {X : Cx} : OpR X (binaryOp .FloorDiv) rFdvG := opI fun i j _ _ _ _ _ hc q => floordiv_int hc.1 q (.inl (PyProof.noPylong_of_log2 hc.2))
theorem gStr {mg : Str → Option Value} {x z : Str} (h : ∃ t, mg x = some (.str z t)) : ∃ u, mg x = some u ∧ RelV (.str z) u := by
  obtain ⟨t, e⟩ := h
  exact ⟨_, e, t, rfl⟩
theorem gInt {mg : Str → Option Value} {x : Str} {i : Int} (h : ∃ t, mg x = some (.int i t)) : ∃ u, mg x = some u ∧ RelV (.int i) u := by
  obtain ⟨t, e⟩ := h
  exact ⟨_, e, t, rfl⟩

theorem passN {X : Cx} : Passes (L2N.CX X.prog X.w) X E0 := fun _ _ _ _ _ _ _ h => by
  obtain ⟨_, _, _, _, _, _, _, _, _, _, _, _, z⟩ := h
  exact z.elim
/-- around a body nothing is let out -/
theorem takesN {X : Cx} : L2N.Takes X (fun _ _ _ _ => False) := fun _ _ x => by
  obtain ⟨_, _, _, _, _, _, _, _, _, _, _, _, _, _, _, _, z⟩ := x
  exact z.elim
theorem mk_endN {X : Cx} {pins : List (Addr × Obj)} {σ : L2.St} {H1 H2 : Hp} {Q : XK} {hp hp2 h2 : Heap} {g1 g2 : Array GenState} {d1 d2 : Drawn} {t1 t2 : Nat} {os1 os2 : OsState} {a C d : Addr} {fs : List (Str × V)} (T : Raises X (.ref C)) (I1 : Inv X pins σ H1 ⟨hp, g1, d1, t1, os1⟩)
    (ha : hp.objs.size ≤ a) (k : ∀ b o, hp.get? b = some o → hp2.get? b = some o) (un : Un (frs X.stack) [] (upd H1 a (exo a C none)) H2 hp2 h2) (hok : HOk X.prog X.w H2 h2) (ho : os2 = os1) (hb : AllBare g2)
    (ea : H2 a = some (exo a C (some d))) (ed : H2 d = some (exd d fs)) (hd1 : H1 d = none) (q : Q (.ref C) (some d) (upd (del H2 a) d (.xd fs))) : L2N.MkP X pins σ Q (.ref a) ⟨h2, g2, d2, t2, os2⟩ := by
  obtain ⟨t0, G, J, kG, ge, hoe, na⟩ := mk_end0 (d2 := d2) (t2 := t2) I1 ha k un hok ho hb ea ed hd1
  exact ⟨a, _, _, ⟨G, g2, d2, t2, os2⟩, _, .ref C, some d, rfl, J, kG, ge, hoe, ⟨rfl, rfl, fun vs e => by cases e; rfl⟩, rfl, rfl, na, rfl, hb, T, q⟩
theorem pmk_oexN {X : Cx} {e : Expr} {es : List Expr} {ta : TA} {p pos : Pos} {CX : CXT} {x : Str} {C fI : Addr} {k : Nat} {fd : FuncData} {ps : List Str} {sp : Sp} {ds : List Value} {dvs : List V} (T : OexC X.K C) (iC : PySem.W.findIn X.K (.ref C) "__init__" = some (some (.ref fI))) (tI : PySem.W.typeIn X.K (.ref fI) = some (.type "function"))
    (F1 : FnOk X.prog X.w X.K X.mg X.base CX k fI fd ps sp) (hr : Room (k + 1) X.A) (hb : Binds X.K fd ps ds) (hd : Vals dvs ds) (hx : Passes CX X (fun _ _ _ => False)) (hg : Gl X x) (hm : X.mg x = some (.ref C)) (ha : PA X (e :: es) ta)
    (hdb : (x == ("__debug__" : Str)) = false := by decide) (he : starEach (e :: es) X.env = (false, eval e X.env) :: starEach es X.env := by rfl) (hpl : (backTo pos (starEach es X.env)).any (·.1) = false := by rfl) :
    L2N.PMk X (.Call (.Name x p) (e :: es) [] pos) (tMkO C sp dvs ta) := by
  intro pins s σ H Q I h
  obtain ⟨nm, q, N, bs, bm, sn, sub, ab, col, dd, k0, k1, k2, k3, k5, hC, hbm⟩ := T.cls
  refine wpAny_Call_Name_kw (ld_glob I hg hm ?_ hdb)
  refine PySem.W.callWith_K (h₀ := X.base) I.ok.mod.kin T.kC (thn (ha.run pos pins s σ H _ I h) fun us s1 ⟨vs, H1, I1, r1, hz, q1⟩ => ⟨I1.kIn, ?_⟩) he hpl
  show wpAny _ _ (call (.ref C) us) _ _ _
  obtain ⟨hp, g, dr, tk, os⟩ := s1
  have hsz : hp.objs.size ≤ hp.objs.size + 1 := Nat.le_succ _
  have hn : H1 (hp.objs.size + 1) = none := I1.hok.fresh hsz
  have hq := q1 (hp.objs.size + 1) hn
  have kk : ∀ b o, hp.get? b = some o → ((hp.push (PySem.W.kdv_tup us)).push (PySem.HandSPX.excO C hp.objs.size)).get? b = some o := fun b o e => Heap.get?_push_of_some _ (Heap.get?_push_of_some _ e)
  have hget : ((hp.push (PySem.W.kdv_tup us)).push (PySem.HandSPX.excO C hp.objs.size)).get? (hp.objs.size + 1) = some (PySem.HandSPX.excO C hp.objs.size) := by heap_get
  have I2 : Inv X pins σ (upd H1 (hp.objs.size + 1) (exo (hp.objs.size + 1) C none)) ⟨(hp.push (PySem.W.kdv_tup us)).push (PySem.HandSPX.excO C hp.objs.size), g, dr, tk, os⟩ :=
    I1.laid (t' := tk) (a := hp.objs.size + 1) (o := exo (hp.objs.size + 1) C none) (h' := (hp.push (PySem.W.kdv_tup us)).push (PySem.HandSPX.excO C hp.objs.size)) kk hsz (exo_ok hget)
  have r2 : Vals (V.ref (hp.objs.size + 1) :: (vs ++ dvs)) (Value.ref (hp.objs.size + 1) :: (us ++ ds)) := .cons rfl (r1.append hd)
  have hl : (Value.ref (hp.objs.size + 1) :: us ++ ds).length = ps.length := by
    have e := r2.length
    rw [F1.len _ _ _ _ hq] at e
    exact e.symm
  have hus : us.length ≤ sizeLine := by
    rw [← Paired.length r1, sizeLine_eq]
    omega
  refine wpAny_call (PySem.HandSPX.call_own F.excBase_ValueError (fun Y => PySem.HandSPX.refsVE_contains Y bm hbm) (I1.kIn _ _ hC) (PySem.W.looks_findIn I1.kIn iC) (fun self => PySem.W.bind_fn I1.kIn self tI) hus
    (codeAny_mono (F1.run _ X.stack _ _ ⟨Value.ref (hp.objs.size + 1) :: us, []⟩ (Value.ref (hp.objs.size + 1) :: (us ++ ds)) _ _ (fun _ _ _ => False) (hr.make C us []) (I2.env0.make C us []) (hb _ (Value.ref (hp.objs.size + 1) :: us) I2.kIn hl) r2 hq) fun r s' hq' => ?_))
  cases r with
  | error er => exact (hx pins σ _ _ er s' I2 hq')
  | ok fl =>
    cases fl with
    | ret u =>
      obtain ⟨v, H2, os2, bare2, un2, hok2, rv, ev, d, fs, ea, ed, hd1, q2⟩ := hq'
      subst ev
      obtain ⟨h2, g2, d2, t2, os'⟩ := s'
      exact ⟨rv, mk_endN (raises_own T.exC T.tyC) I1 hsz kk un2 hok2 os2 bare2 ea ed hd1 q2⟩
    | next => exact False.elim hq'
    | brk => exact False.elim hq'
    | cont => exact False.elim hq'

/-! ### isinstance of the error that a suite holds, whatever its dict -/
theorem kitx_excD {K : PySem.W.Frag} {x D : Addr} {ox : Obj} {od : Option Obj} (hga : PySem.W.findIn K (.ref D) "__getattribute__" = some (some (.builtin "BaseException.__getattribute__"))) (hgt : PySem.W.findIn K (.ref D) "__getattr__" = some none) (hsub : PySem.W.subIn K (.ref D) (.type "BaseException") = some true) (hdct : PySem.W.hasDictIn K D = true) (ha : PySem.W.findIn K (.ref D) "__class__" = some (some (.builtin "object.__class__")))
    (hn : PySem.W.specialIn K (.builtin "object.__class__") "__get__" = some (some (.builtin "getset_descriptor.__get__"))) (htk : PySem.W.takesIn K (.builtin "object.__class__") = some true) (hm : PySem.W.mroIn K D (.type "object") = some true) :
    PySem.W.KitX K (.ref x) (.ref D) (fun h => PySem.W.InstAt h x ox D od) where
  ty := fun _ _ _ I => I.type
  it := fun _ _ X _ => by
    obtain ⟨cdD, hcD, _⟩ := PySem.W.any_some hdct
    unfold PySem.W.clsIn at hcD
    split at hcD
    · rename_i c' d' cd' sl' ho
      intro A' Q' E' s' k q
      unfold isType loadHead
      exact wpAny_bind (wpAny_loadPart (k _ _ (X _ _ ho)) (wpAny_pure q))
    · cases hcD
  ne := fun h tp dd its n sl X htp => by
    obtain ⟨cdD, hcD, _⟩ := PySem.W.any_some hdct
    refine Bool.eq_false_iff.mpr fun q => ?_
    have e : D = tp := Value.ref.inj (beq_iff_eq.mp q)
    subst e
    unfold PySem.W.clsIn at hcD
    split at hcD
    · rename_i c' d' cd' sl' ho
      have z := (X _ _ ho).symm.trans htp
      cases z
    · cases hcD
  ca := fun X I k => PySem.W.kx_classE X I hga hgt hsub (PySem.W.findObj_dataE (by obtain ⟨cd, hc, _⟩ := PySem.W.any_some hdct; rw [hc]; rfl) ha hn htk) hm k
/-- isinstance(e, c), e the error that the suite holds -/
def rIsX (K : PySem.W.Frag) (a : Addr) (cls : Value) (d : Option Addr) : List V → Hp → VK → Prop := fun xs H Q => ∃ (D dd : Addr) (fs : List (Str × V)) (c : V) (cv : Value) (b : Bool), cls = .ref D ∧ d = some dd ∧ ExcC K D ∧ H dd = some (.xd fs) ∧ xs = [.ref a, c] ∧ ClsV c cv ∧ PySem.W.kitOne K (.ref D) cv = some b ∧ Q (.bl b) H
theorem call_isX {X : Cx} {a : Addr} {oe : Obj} {pn : List (Addr × Obj)} {cls : Value} {d : Option Addr} (hz : Zc cls d oe) (hf : ∃ vs, oe.data = .fields vs) : CallR (X.suite a ((a, oe) :: pn)) (.builtin "isinstance") (rIsX X.K a cls d) := by
  intro pins s σ H xs us Q I r h
  obtain ⟨D, dd, fs, c, cv, b, rfl, rfl, C, hdd, rfl, hcv, e, q⟩ := h
  cases r with
  | cons rx rr =>
    cases rr with
    | cons rt rr =>
      cases rr
      cases rx
      have ec := hcv.eq rt
      subst ec
      obtain ⟨hget, _⟩ := I.pin (a, oe) (List.mem_append.mpr (.inl List.mem_cons_self))
      obtain ⟨vs, hv⟩ := hf
      have hx : ObjOk X.prog X.w H s.heap dd (.xd fs) := I.hok dd _ hdd
      obtain ⟨mA, hns, hr⟩ := hx
      obtain ⟨od, ho, hl⟩ := lookIn_ns hns
      have J : PySem.W.InstAt s.heap a oe D (some od) := by
        obtain ⟨oc, od', oda, osl⟩ := oe
        obtain ⟨h1, h2⟩ := hz
        dsimp only at h1 h2 hv
        subst h1 h2 hv
        exact ⟨hget, rfl, rfl, ho⟩
      exact PySem.W.kia_one (kitx_excD C.hg C.hk C.hs C.hd C.ha C.hn C.ht C.hm) I.kIn J e (fun z => nomatch z) fun tk => ⟨.bl b, H, I.kept (t' := tk) fun _ _ z => z, rfl, q⟩
/-- what ExcC asks, as one Bool -/
def xcB (K : PySem.W.Frag) (D : Addr) : Bool := xfB K D && (decide (PySem.W.findIn K (.ref D) "__class__" = some (some (.builtin "object.__class__"))) && (decide (PySem.W.specialIn K (.builtin "object.__class__") "__get__" = some (some (.builtin "getset_descriptor.__get__"))) &&
  (decide (PySem.W.takesIn K (.builtin "object.__class__") = some true) && decide (PySem.W.mroIn K D (.type "object") = some true))))
theorem xcB_ok {K : PySem.W.Frag} {D : Addr} (h : xcB K D = true) : ExcC K D := by
  obtain ⟨h1, h⟩ := Bool.and_eq_true_iff.mp h
  obtain ⟨h2, h⟩ := Bool.and_eq_true_iff.mp h
  obtain ⟨h3, h⟩ := Bool.and_eq_true_iff.mp h
  obtain ⟨h4, h5⟩ := Bool.and_eq_true_iff.mp h
  have x := xfB_ok h1
  exact ⟨x.ga, x.gg, x.exC, x.hdC, of_decide_eq_true h2, of_decide_eq_true h3, of_decide_eq_true h4, of_decide_eq_true h5⟩
/-- what a law asks of an error class: which classes its errors are of, the clause that catches them -/
structure XcA (K : PySem.W.Frag) (D : Addr) : Prop where
  xc : ExcC K D
  me : PySem.W.exmOne K (.ref D) (.ref D) = some true

/-! ### a def as its callers see it -/
/-- the same where an error is handled -/
structure ClH (P : Program) (w : World) (K : PySem.W.Frag) (mg : Str → Option Value) (base : Heap) (k : Nat) (x : Str) (sp : Sp) : Prop where
  ex : ∃ (f : Addr) (fd : FuncData) (ps : List Str), L2H.FnH P w K mg base (L2N.CX P w) k f fd ps sp ∧ mg x = some (.ref f) ∧ PySem.W.keepIn K (.ref f) = true ∧ Binds K fd ps []
/-- as FunD.ok, where an error is handled -/
theorem funD_okH {P : Program} {w : World} {K : PySem.W.Frag} {mg : Str → Option Value} {base : Heap} {x qual : Str} {params : Arguments} {body : List Stmt} {scope : Scope} {dvs : List V} {kws : List (Str × V)} {f : Addr} {fd : FuncData} {CX : CXT} {N ps : List Str} {k : Nat} {sp : Sp} (F : FunD K x qual params body scope dvs kws f fd) (S : FnScope N ps scope) (len : ∀ vs H Q E, sp vs H Q E → vs.length = ps.length)
    (hbody : ∀ (cdv : Value) (A : Around) (outer : List Env) (s : Shared) (H : Hp) (vs : List V) (Q : VK) (E : XK) (p : Addr × Obj), L2H.Hot1 A p → L2H.RoomH k (A.deeper (envOfC qual scope s.heap.objs.size f cdv)) → sp vs H Q E →
      ∃ t, PSs (L2H.cxH CX P w K mg base N qual scope f cdv A outer s H E p) body t ∧ t { nx := fun _ H' => Q .non H', rt := Q } (L2.start N vs) H) : L2H.FnH P w K mg base CX (k + 1) f fd ps sp := by
  obtain ⟨oc, od, dV, kV, doc, pm, an, cdv, ct, osl, rfl, lk, hcd, _, _⟩ := F.ex
  exact L2H.fn_ofH lk hcd S len fun A outer s H vs Q E p hp hr hsp => hbody cdv A outer s H vs Q E p hp hr hsp
structure Cl (P : Program) (w : World) (K : PySem.W.Frag) (mg : Str → Option Value) (base : Heap) (k : Nat) (x : Str) (sp : Sp) (dvs : List V) : Prop where
  ex : ∃ (f : Addr) (fd : FuncData) (ps : List Str) (ds : List Value), FnOk P w K mg base (L2N.CX P w) k f fd ps sp ∧ mg x = some (.ref f) ∧ PySem.W.keepIn K (.ref f) = true ∧ Binds K fd ps ds ∧ Vals dvs ds
/-- a class over ValueError with an __init__ of its own, as it is raised -/
structure Kx (P : Program) (w : World) (K : PySem.W.Frag) (mg : Str → Option Value) (base : Heap) (k : Nat) (x : Str) (C : Addr) (sp : Sp) : Prop where
  T : OexC K C
  ex : ∃ (fI : Addr) (fd : FuncData) (ps : List Str), PySem.W.findIn K (.ref C) "__init__" = some (some (.ref fI)) ∧ PySem.W.typeIn K (.ref fI) = some (.type "function") ∧ FnOk P w K mg base (L2N.CX P w) k fI fd ps sp ∧ Binds K fd ps [] ∧ mg x = some (.ref C)
/-- a plain class, as it is made; a method of it -/
structure Km (P : Program) (w : World) (K : PySem.W.Frag) (mg : Str → Option Value) (base : Heap) (k : Nat) (x : Str) (C : Addr) (sp : Sp) : Prop where
  ex : ∃ (fI : Addr) (fd : FuncData) (ps : List Str), Mk K C fI ∧ FnOk P w K mg base (L2N.CX P w) k fI fd ps sp ∧ Binds K fd ps [] ∧ mg x = some (.ref C)
structure Mt (P : Program) (w : World) (K : PySem.W.Frag) (mg : Str → Option Value) (base : Heap) (k : Nat) (C : Addr) (m : Str) (sp : Sp) : Prop where
  ex : ∃ (f : Addr) (fd : FuncData) (ps : List Str), Cls K C ∧ Meth K C m f ∧ FnOk P w K mg base (L2N.CX P w) k f fd ps sp ∧ Binds K fd ps []
section
variable {X : Cx} {k j : Nat} {C : Addr} {sp : Sp} {dvs : List V} {E : XK} {W : WX} {x m : Str} {p pos apos : Pos} {e o : Expr} {es : List Expr} {ta : TE} {t : TA}
theorem pe_cl (c : Cl X.prog X.w X.K X.mg X.base k x sp dvs) (hr : Room j X.A) (hk : k ≤ j) (hg : Gl X x) (hx : Passes (L2N.CX X.prog X.w) X E) (ha : PA X (e :: es) t)
    (hdb : (x == ("__debug__" : Str)) = false := by decide) (he : starEach (e :: es) X.env = (false, eval e X.env) :: starEach es X.env := by rfl) (hpl : (backTo pos (starEach es X.env)).any (·.1) = false := by rfl) :
    PE X (.Call (.Name x p) (e :: es) [] pos) (tCall sp dvs E t) := by
  obtain ⟨f, fd, ps, ds, F, hm, kp, b, d⟩ := c.ex
  exact pe_call F (hr.mono hk) hg hm kp b d hx ha hdb he hpl
theorem pe_clS (c : Cl X.prog X.w X.K X.mg X.base k x sp dvs) (hr : Room j X.A) (hk : k ≤ j) (hg : Gl X x) (hx : ∀ σ, PassesAt (L2N.CX X.prog X.w) X σ (WE W σ)) (ha : PA X (e :: es) t)
    (hdb : (x == ("__debug__" : Str)) = false := by decide) (he : starEach (e :: es) X.env = (false, eval e X.env) :: starEach es X.env := by rfl) (hpl : (backTo pos (starEach es X.env)).any (·.1) = false := by rfl) :
    PE X (.Call (.Name x p) (e :: es) [] pos) (tCallSD sp dvs (WE W) t) := by
  obtain ⟨f, fd, ps, ds, F, hm, kp, b, d⟩ := c.ex
  exact pe_callSD F (hr.mono hk) hg hm kp b d hx ha hdb he hpl
theorem hot_of {X : Cx} {a : Addr} {oe : Obj} {pn : List (Addr × Obj)} {cls : Value} {d : Option Addr} (hz : L2N.Zn cls d oe) (hf : ∃ vs, oe.data = .fields vs) : L2H.HotC (X.suite a ((a, oe) :: pn)) := by
  obtain ⟨vs, hv⟩ := hf
  exact ⟨(a, oe), ⟨rfl, vs, hv, hz.2.2 vs hv⟩, List.mem_cons_self⟩
theorem roomH_suite {X : Cx} {a : Addr} {pn : List (Addr × Obj)} (hr : Room j X.A) : L2H.RoomH j (X.suite a pn).A := ⟨hr.dp, hr.un⟩
theorem passH {X : Cx} (σ : L2.St) : PassesAt (L2N.CX X.prog X.w) X σ E0 := fun _ _ _ _ _ _ h => by
  obtain ⟨_, _, _, _, _, _, _, _, _, _, _, _, z⟩ := h
  exact z.elim
theorem pe_clH (c : ClH X.prog X.w X.K X.mg X.base k x sp) (hr : L2H.RoomH j X.A) (hc : L2H.HotC X) (hk : k ≤ j) (hg : Gl X x) (ha : PA X (e :: es) t)
    (hdb : (x == ("__debug__" : Str)) = false := by decide) (he : starEach (e :: es) X.env = (false, eval e X.env) :: starEach es X.env := by rfl) (hpl : (backTo pos (starEach es X.env)).any (·.1) = false := by rfl) :
    PE X (.Call (.Name x p) (e :: es) [] pos) (tCallS sp (fun _ => E0) t) := by
  obtain ⟨f, fd, ps, F, hm, kp, b⟩ := c.ex
  exact L2H.pe_callH F (hr.mono hk) hc hg hm kp b (fun σ => passH σ) ha hdb he hpl
theorem pmk_cl (c : Kx X.prog X.w X.K X.mg X.base k x C sp) (hr : Room j X.A) (hk : k + 1 ≤ j) (hg : Gl X x) (ha : PA X (e :: es) t)
    (hdb : (x == ("__debug__" : Str)) = false := by decide) (he : starEach (e :: es) X.env = (false, eval e X.env) :: starEach es X.env := by rfl) (hpl : (backTo pos (starEach es X.env)).any (·.1) = false := by rfl) :
    L2N.PMk X (.Call (.Name x p) (e :: es) [] pos) (tMkO C sp [] t) := by
  obtain ⟨fI, fd, ps, h1, h2, F, b, hm⟩ := c.ex
  exact pmk_oexN c.T h1 h2 F (hr.mono hk) b .nil passN hg hm ha hdb he hpl
theorem pe_mk2 (c : Km X.prog X.w X.K X.mg X.base k x C sp) (hr : Room j X.A) (hk : k + 1 ≤ j) (hg : Gl X x) (hx : Passes (L2N.CX X.prog X.w) X E) (ha : PA X (e :: es) t)
    (hdb : (x == ("__debug__" : Str)) = false := by decide) (he : starEach (e :: es) X.env = (false, eval e X.env) :: starEach es X.env := by rfl) (hpl : (backTo pos (starEach es X.env)).any (·.1) = false := by rfl) :
    PE X (.Call (.Name x p) (e :: es) [] pos) (tMake C sp [] E t) := by
  obtain ⟨fI, fd, ps, M, F, b, hm⟩ := c.ex
  exact pe_make M F (hr.mono hk) hg hm b .nil hx ha hdb he hpl
end
/-! ### calls with keywords -/
structure ClK (P : Program) (w : World) (K : PySem.W.Frag) (mg : Str → Option Value) (base : Heap) (k : Nat) (x : Str) (sp : Sp) (n : Nat) (ks : List Str) (gV : List V → List V → List V) : Prop where
  ex : ∃ (f : Addr) (fd : FuncData) (ps : List Str) (g : List Value → List Value → List Value), FnOk P w K mg base (L2N.CX P w) k f fd ps sp ∧ mg x = some (.ref f) ∧ PySem.W.keepIn K (.ref f) = true ∧ KBn K fd ps n ks g gV
section
variable {X : Cx} {k j n m : Nat} {sp : Sp} {ks : List Str} {gV : List V → List V → List V} {E : XK} {x : Str} {p pos : Pos} {e : Expr} {es : List Expr} {kws : List Keyword} {t tk : TA}
theorem pe_clK (c : ClK X.prog X.w X.K X.mg X.base k x sp n ks gV) (hr : Room j X.A) (hk : k ≤ j) (hg : Gl X x) (hx : Passes (L2N.CX X.prog X.w) X E) (ha : PA X (e :: es) t) (hkw : PK X kws tk)
    (hall : (backToKw pos (keywordEach kws X.env)).all (·.1.isSome) = true := by rfl) (hks : (backToKw pos (keywordEach kws X.env)).filterMap (·.1) = ks := by rfl)
    (hdb : (x == ("__debug__" : Str)) = false := by decide) (he : starEach (e :: es) X.env = (false, eval e X.env) :: starEach es X.env := by rfl)
    (hpl : ((backTo pos (starEach (e :: es) X.env)).any (·.1) || (backToKw pos (keywordEach kws X.env)).any (·.1.isNone)) = false := by rfl)
    (hlen : ks.length = m := by rfl) : PE X (.Call (.Name x p) (e :: es) kws pos) (tCallN n m sp gV E t tk) := by
  subst hlen
  obtain ⟨f, fd, ps, g, F, hm, kp, b⟩ := c.ex
  exact pe_callN F (hr.mono hk) hg hm kp b hx ha hkw hall hks hdb he hpl
theorem pe_clK0 (c : ClK X.prog X.w X.K X.mg X.base k x sp 0 ks gV) (hr : Room j X.A) (hk : k ≤ j) (hg : Gl X x) (hx : Passes (L2N.CX X.prog X.w) X E) (hkw : PK X kws tk)
    (hall : (backToKw pos (keywordEach kws X.env)).all (·.1.isSome) = true := by rfl) (hks : (backToKw pos (keywordEach kws X.env)).filterMap (·.1) = ks := by rfl)
    (hdb : (x == ("__debug__" : Str)) = false := by decide)
    (hpl : ((backTo pos (starEach [] X.env)).any (·.1) || (backToKw pos (keywordEach kws X.env)).any (·.1.isNone)) = false := by rfl)
    (hlen : ks.length = m := by rfl) : PE X (.Call (.Name x p) [] kws pos) (tCallN 0 m sp gV E tNil tk) := by
  subst hlen
  obtain ⟨f, fd, ps, g, F, hm, kp, b⟩ := c.ex
  refine ⟨fun pins s σ H Q I h => ?_⟩
  refine wpAny_Call_Name_kw (ld_glob I hg hm ?_ hdb)
  refine PySem.W.callWith_KW0 (h₀ := X.base) I.ok.mod.kin kp hall (thn (hkw.run pos pins s σ H _ I h) fun ws s2 ⟨zs, H2, I2, rz, l1, l2, q2⟩ => ⟨I2.kIn, ?_⟩) hpl
  rw [hks]
  exact run_fnN (us := []) F (hr.mono hk) b hx I2 .nil rz l1 l2 q2
end
def srcOf {α : Type} (us its ws : List α) : Nat → List α
  | 0 => us
  | 1 => its
  | _ + 2 => ws
/-- the parameters' values: from the positional ones (0), the defaults (1), the keywords' (2) -/
def pick {α : Type} (idx : List (Nat × Nat)) (us its ws : List α) : List α := idx.filterMap fun p => (srcOf us its ws p.1)[p.2]?
theorem src_rel {vs ds zs : List V} {us its ws : List Value} (r1 : Vals vs us) (r2 : Vals ds its) (r3 : Vals zs ws) : ∀ s, Vals (srcOf vs ds zs s) (srcOf us its ws s)
  | 0 => r1
  | 1 => r2
  | _ + 2 => r3
theorem pick_rel {vs ds zs : List V} {us its ws : List Value} (r1 : Vals vs us) (r2 : Vals ds its) (r3 : Vals zs ws) : ∀ idx : List (Nat × Nat), Vals (pick idx vs ds zs) (pick idx us its ws)
  | [] => .nil
  | (s, i) :: r => by
    have ih := pick_rel r1 r2 r3 r
    have rr := src_rel r1 r2 r3 s
    unfold pick at ih ⊢
    rw [List.filterMap_cons, List.filterMap_cons]
    cases e : (srcOf vs ds zs s)[i]? with
    | some v =>
      obtain ⟨u, h1, h2⟩ := Vals.get rr e
      rw [h1]
      exact .cons h2 ih
    | none =>
      rw [Vals.none_of rr e]
      exact ih
/-- n positional values and keywords ks for a def with defaults dvs -/
theorem funD_kb1 {K : PySem.W.Frag} {x qual : Str} {params : Arguments} {body : List Stmt} {scope : Scope} {dvs : List V} {f : Addr} {fd : FuncData} {ps : List Str} (F : FunD K x qual params body scope dvs [] f fd) (n : Nat) (ks : List Str) (g : {α : Type} → List α → List α → List α → List α) (hd : dvs ≠ [])
    (hrel : ∀ {vs ds zs : List V} {us its ws : List Value}, Vals vs us → Vals ds its → Vals zs ws → Vals (g vs ds zs) (g us its ws))
    (h : ∀ (T : Addr) (kV doc pm : Value) (an : Option Addr) (cdv ct : Value) (us its ws : List Value), us.length = n → its.length = dvs.length → ws.length = ks.length →
      ∃ k, bindArgs (PySem.W.fnOf x qual params body scope (.ref T) kV doc pm an cdv ct) ⟨us, ks.zip ws⟩ = seqItems? (.ref T) >>= k ∧ k (some its.toArray) = pure (ps.zip (g us its ws))) :
    ∃ its : List Value, KBn K fd ps n ks (fun us ws => g us its ws) (fun vs zs => g vs dvs zs) := by
  obtain ⟨oc, od, dV, kV, doc, pm, an, cdv, ct, osl, rfl, lk, hcd, hD, hK⟩ := F.ex
  rcases hD with ⟨e, _⟩ | ⟨_, T, o, its, m, rfl, lT, oT, rT⟩
  · exact absurd e hd
  · refine ⟨its, ⟨fun s us ws X l1 l2 => ?_, fun r1 r2 => hrel r1 rT r2⟩⟩
    obtain ⟨k, e1, e2⟩ := h T kV doc pm an cdv ct us its ws l1 rT.length.symm l2
    refine BindsTo.of_looks fun M => ?_
    rw [e1]
    exact looks_items X lT oT (.of_pure e2)
/-- the same of a def without defaults -/
theorem funD_kb0 {K : PySem.W.Frag} {x qual : Str} {params : Arguments} {body : List Stmt} {scope : Scope} {f : Addr} {fd : FuncData} {ps : List Str} (F : FunD K x qual params body scope [] [] f fd) (n : Nat) (ks : List Str) (g : {α : Type} → List α → List α → List α)
    (hrel : ∀ {vs zs : List V} {us ws : List Value}, Vals vs us → Vals zs ws → Vals (g vs zs) (g us ws))
    (h : ∀ (kV doc pm : Value) (an : Option Addr) (cdv ct : Value) (us ws : List Value), us.length = n → ws.length = ks.length → bindArgs (PySem.W.fnOf x qual params body scope .none kV doc pm an cdv ct) ⟨us, ks.zip ws⟩ = pure (ps.zip (g us ws))) :
    KBn K fd ps n ks (fun us ws => g us ws) (fun vs zs => g vs zs) := by
  obtain ⟨oc, od, dV, kV, doc, pm, an, cdv, ct, osl, rfl, lk, hcd, hD, hK⟩ := F.ex
  rcases hD with ⟨_, rfl⟩ | ⟨e, _⟩
  · exact ⟨fun s us ws X l1 l2 => .of_eq (h kV doc pm an cdv ct us ws l1 l2), fun r1 r2 => hrel r1 r2⟩
  · exact absurd rfl e
/-! ### the end of a def's row -/
theorem cl_of {P : Program} {w : World} {K : PySem.W.Frag} {mg : Str → Option Value} {base : Heap} {k : Nat} {x : Str} {f : Addr} {fd : FuncData} {ps : List Str} {sp : Sp}
    (G : FnOk P w K mg base (L2N.CX P w) k f fd ps sp) (g : mg x = some (.ref f)) (kp : PySem.W.keepIn K (.ref f) = true) (b : Binds K fd ps []) : Cl P w K mg base k x sp [] := ⟨_, _, _, _, G, g, kp, b, .nil⟩
/-- what the written part says of such a class, as one Bool -/
def clsB (K : PySem.W.Frag) (C : Addr) : Bool := match K.lookup C with
  | some ⟨.type "type", _, .cls cd, sl⟩ => (match cd.mro, sl.toList with
    | .ref C' :: bm, [_, _, _, _, some (.builtin n), _] => C' == C && (n == "ValueError.__new__" && (!cd.hasDel && (cd.hasDict && PySem.HandSPX.refsVE bm)))
    | _, _ => false)
  | _ => false
theorem clsB_ok {K : PySem.W.Frag} {C : Addr} (h : clsB K C = true) : ∃ nm q N bs bm sn sub ab col dd k0 k1 k2 k3 k5, K.lookup C = some (excClassObj nm q C N bs bm true sn sub ab col dd k0 k1 k2 k3 k5 "ValueError.__new__") ∧ PySem.HandSPX.refsVE bm = true := by
  unfold clsB at h
  split at h
  · rename_i dd cd sl e
    split at h
    · rename_i C' bm a b c d n f e1 e2
      obtain ⟨nm, bs, mro, ns, qn, hd, sn, sb, ab, col, del⟩ := cd
      obtain ⟨h1, h⟩ := Bool.and_eq_true_iff.mp h
      obtain ⟨h2, h⟩ := Bool.and_eq_true_iff.mp h
      obtain ⟨h3, h⟩ := Bool.and_eq_true_iff.mp h
      obtain ⟨h4, h5⟩ := Bool.and_eq_true_iff.mp h
      have e3 : C' = C := eq_of_beq h1
      have e4 : n = "ValueError.__new__" := eq_of_beq h2
      have e5 : del = false := by
        cases del with
        | false => rfl
        | true => cases h3
      have e6 : hd = true := h4
      have e7 : mro = .ref C' :: bm := e1
      have e8 : sl = #[a, b, c, d, some (.builtin n), f] := by
        have := congrArg List.toArray e2
        simpa using this
      subst e3 e4 e5 e6 e7 e8
      exact ⟨nm, qn, ns, bs, bm, sn, sb, ab, col, dd, a, b, c, d, f, e, h5⟩
    · cases h
  · cases h
def oexB (K : PySem.W.Frag) (C : Addr) : Bool := clsB K C && (decide (PySem.W.findIn K (.ref C) "__setattr__" = some (some (.builtin "object.__setattr__"))) && (decide (PySem.W.subIn K (.ref C) (.type "BaseException") = some true) &&
  (decide (PySem.W.typeIn K (.ref C) = some (.type "type")) && PySem.W.keepIn K (.ref C))))
theorem oexB_ok {K : PySem.W.Frag} {C : Addr} (h : oexB K C = true) : OexC K C := by
  obtain ⟨h1, h⟩ := Bool.and_eq_true_iff.mp h
  obtain ⟨h2, h⟩ := Bool.and_eq_true_iff.mp h
  obtain ⟨h3, h⟩ := Bool.and_eq_true_iff.mp h
  obtain ⟨h4, h5⟩ := Bool.and_eq_true_iff.mp h
  exact ⟨clsB_ok h1, of_decide_eq_true h2, of_decide_eq_true h3, of_decide_eq_true h4, h5⟩
/-- __init__ of such a class is the def at ma -/
def inoB (K : PySem.W.Frag) (C : Addr) : Bool := decide (PySem.W.findIn K (.ref C) "__init__" = some (some (.ref (He.ma K C "__init__")))) && decide (PySem.W.typeIn K (.ref (He.ma K C "__init__")) = some (.type "function"))
theorem inoB_ok {K : PySem.W.Frag} {C : Addr} (h : inoB K C = true) : PySem.W.findIn K (.ref C) "__init__" = some (some (.ref (He.ma K C "__init__"))) ∧ PySem.W.typeIn K (.ref (He.ma K C "__init__")) = some (.type "function") := by
  obtain ⟨h1, h2⟩ := Bool.and_eq_true_iff.mp h
  exact ⟨of_decide_eq_true h1, of_decide_eq_true h2⟩
def noB (K : PySem.W.Frag) (C : Addr) (f : Str) : Bool := decide (PySem.W.findIn K (.ref C) f = some none)
theorem noB_ok {K : PySem.W.Frag} {C : Addr} {f : Str} (h : noB K C f = true) : PySem.W.findIn K (.ref C) f = some none := of_decide_eq_true h
end Md

set_option Elab.async false
set_option linter.all false
set_option maxRecDepth 100000
set_option maxHeartbeats 4000000
namespace Md
open PySem PySem.Spec PyProof.Rows PySem.Calls L2

/-! ### ways of a test -/
theorem iteD {p A B : Prop} [Decidable p] (h1 : p → A) (h2 : ¬ p → B) : if decide p = true then A else B := by
  by_cases h : p
  · rw [if_pos (decide_eq_true h)]; exact h1 h
  · rw [if_neg (by simp [h])]; exact h2 h
theorem iteN {p A B : Prop} [Decidable p] (h1 : p → B) (h2 : ¬ p → A) : if (!decide p) = true then A else B := by
  by_cases h : p
  · rw [if_neg (by simp [h])]; exact h1 h
  · rw [if_pos (by simp [h])]; exact h2 h
theorem iteB {b : Bool} {A B : Prop} (h1 : b = true → A) (h2 : b = false → B) : if b = true then A else B := by
  cases b with
  | true => rw [if_pos rfl]; exact h1 rfl
  | false => rw [if_neg (by decide)]; exact h2 rfl
theorem iteBN {b : Bool} {A B : Prop} (h1 : b = true → B) (h2 : b = false → A) : if (!b) = true then A else B := by
  cases b with
  | true => rw [if_neg (by decide)]; exact h1 rfl
  | false => rw [if_pos (by decide)]; exact h2 rfl
/-! ### heaps: all but the list at b stands -/
def Xb (b : Addr) (H H' : Hp) : Prop := ∀ a o, a ≠ b → H a = some o → H' a = some o
theorem Xb.refl {b : Addr} {H : Hp} : Xb b H H := fun _ _ _ h => h
theorem Xb.trans {b : Addr} {H H1 H2 : Hp} (x : Xb b H H1) (y : Xb b H1 H2) : Xb b H H2 := fun a o n h => y a o n (x a o n h)
theorem Xb.upd {b : Addr} {H H' : Hp} {o : HO} (x : Xb b H H') : Xb b H (upd H' b o) := fun a u n h => by
  rw [upd_ne n]
  exact x a u n h
theorem Xb.of {b : Addr} {H H' : Hp} (x : Same H H') : Xb b H H' := fun a o _ h => x a o h
theorem Same.new {H : Hp} {p : Addr} {o : HO} (h : H p = none) : Same H (L2.upd H p o) := fun a u e => by
  rw [upd_ne (ne_of_none e h)]
  exact e
theorem Xb.tup {b a : Addr} {H H' : Hp} {L xs : List V} (x : Xb b H H') (hb : H b = some (.lst L)) (h : H a = some (.tup xs)) : H' a = some (.tup xs) :=
  x a _ (ne_of h hb (by intro z; cases z)) h
/-- the draws' list: the digits, the seed, the count; n draws are left -/
def Bag (n : Nat) (H : Hp) (b : Addr) : Prop := ∃ L S C : Int, H b = some (.lst [.int L, .int S, .int C]) ∧ 0 ≤ L ∧ 0 ≤ S ∧ S < 16140901064496457664 ∧ 0 ≤ C ∧ C + n ≤ 549755813888
theorem Bag.mono {n m : Nat} {H : Hp} {b : Addr} (h : Bag n H b) (l : m ≤ n) : Bag m H b := by
  obtain ⟨L, S, C, e, h1, h2, h3, h4, h5⟩ := h
  exact ⟨L, S, C, e, h1, h2, h3, h4, by omega⟩
theorem Bag.same {n : Nat} {H H' : Hp} {b : Addr} (h : Bag n H b) (s : Same H H') : Bag n H' b := by
  obtain ⟨L, S, C, e, h⟩ := h
  exact ⟨L, S, C, s _ _ e, h⟩
theorem Bag.at_ {n : Nat} {H : Hp} {b : Addr} (h : Bag n H b) : ∃ L, H b = some (.lst L) := by
  obtain ⟨L, S, C, e, _⟩ := h
  exact ⟨_, e⟩
theorem Xb.tupB {n : Nat} {b a : Addr} {H H' : Hp} {xs : List V} (x : Xb b H H') (hb : Bag n H b) (h : H a = some (.tup xs)) : H' a = some (.tup xs) := by
  obtain ⟨L, e⟩ := hb.at_
  exact x.tup e h
theorem pow_lt {x : Int} {k : Nat} (h : x.natAbs < 2 ^ k) (hk : 0 < k) : x.natAbs.log2 < k := PySem.Flt.log2_lt_of hk h

theorem CMulW.small {i j : Int} (hi : i.natAbs < 2 ^ 64) (h0 : 0 ≤ j) (h1 : j < 2 ^ 64) : CMulW i j := wide_mul (a := 64) (b := 64) hi (by omega) (by decide) (by decide) (by decide)
/-! ### _law_take -/
def t__law_take (K : PySem.W.Frag) (A : Ads) (E : XK) : TS :=
    (tSeq (tIfS (tTest (tOp rGt (tOp (rIx K) (tVar 0) (tC (.int 0))) (tC (.int 0)))) (tSeq (tAsg (tOp rMod (tCB rInt1 (tCons (tOp (rIx K) (tVar 0) (tC (.int 0))) tNil)) (tVar 1)) (gName 3))
    (tSeq (tAsg (tOp rFdvW (tOp (rIx K) (tVar 0) (tC (.int 0))) (tVar 1)) (gSub (tVar 0) (tC (.int 0)) rSetL))
    (tRet (tVar 3)))) tNext)
    (tSeq (tAsg (tOp rAdd (tOp (rIx K) (tVar 0) (tC (.int 2))) (tC (.int 1))) (gSub (tVar 0) (tC (.int 2)) rSetL))
    (tSeq (tAsg (tOp rMod (tCB rInt1 (tCons (tOp rPow (tOp rAdd (tOp (rIx K) (tVar 0) (tC (.int 1))) (tOp rMulW (tC (.int 1000003)) (tOp (rIx K) (tVar 0) (tC (.int 2))))) (tC (.int 3))) tNil)) (tC (.int 2305843009213693921))) (gName 2))
    (tSeq (tAsg (tOp rMod (tCB rInt1 (tCons (tOp rPow (tOp rAdd (tVar 2) (tOp rMulW (tC (.int 15485863)) (tOp (rIx K) (tVar 0) (tC (.int 2))))) (tC (.int 2))) tNil)) (tC (.int 2305843009213693951))) (gName 2))
    (tRet (tOp rMod (tCB rInt1 (tCons (tOp rFdvW (tVar 2) (tC (.int 8192))) tNil)) (tVar 1)))))))
def n__law_take : List Str := ["_law_bag_here", "_law_many", "_law_mixed", "_law_digit"]
def sp__law_take (K : PySem.W.Frag) (A : Ads) : Sp := fun vs H Q _ => ∃ (b : Addr) (many : Int) (n : Nat), vs = [.ref b, .int many] ∧ Bag (n + 1) H b ∧ 0 < many ∧ many.natAbs < 2 ^ 9000 ∧
  ∀ d H', 0 ≤ d → d < many → Xb b H H' → Bag n H' b → Q (.int d) H'
theorem len__law_take {K : PySem.W.Frag} {A : Ads} {vs : List V} {H : Hp} {Q : VK} {E : XK} (h : sp__law_take K A vs H Q E) : vs.length = 2 := by
  obtain ⟨b, many, n, rfl, _⟩ := h
  rfl
local macro_rules | `(tactic| walk_at "v") => `(tactic| refine ⟨_, rfl, ?_⟩)
local macro_rules | `(tactic| walk_at "ii") => `(tactic| refine ⟨_, _, rfl, rfl, ?_⟩)
local macro_rules | `(tactic| walk_at "ixL") => `(tactic| refine Or.inl ⟨_, _, _, _, rfl, rfl, SqL.of (by assumption), rfl, ?_⟩)
set_option maxHeartbeats 400000 in
theorem pure__law_take {K : PySem.W.Frag} {A : Ads} {vs : List V} {H : Hp} {Q : VK} {E : XK} (h : sp__law_take K A vs H Q E) :
    t__law_take K A E { nx := fun _ H' => Q .non H', rt := Q } (start n__law_take vs) H := by
  obtain ⟨b, many, n, rfl, ⟨L, S, C, hb, hL, hS, hS2, hC, hCn⟩, hm, hm2, q⟩ := h
  have em : many.natAbs.log2 < 9000 := pow_lt hm2 (by decide)
  walk_at "v"; walk_at "ixL"; walk_at "ii"; walk_at "v"
  refine iteD (fun h0 => ?_) (fun h0 => ?_)
  · walk_at "v"; walk_at "ixL"; refine Or.inl ⟨_, rfl, ?_⟩; walk_at "v"; refine ⟨_, _, rfl, rfl, hm, ?_⟩
    walk_at "v"; walk_at "ixL"; walk_at "v"; refine ⟨_, _, rfl, rfl, ⟨hm, em⟩, ?_⟩
    walk_at "v"; refine ⟨_, _, _, _, rfl, rfl, hb, rfl, ?_⟩
    walk_at "v"
    refine q _ _ (Int.emod_nonneg _ (by omega)) (Int.emod_lt_of_pos _ hm) (Xb.upd Xb.refl) ⟨_, S, C, upd_same, Int.ediv_nonneg hL (by omega), hS, hS2, hC, by omega⟩
  · walk_at "v"; walk_at "ixL"; walk_at "ii"; walk_at "v"; refine ⟨_, _, _, _, rfl, rfl, hb, rfl, ?_⟩
    generalize e2 : upd H b _ = H2
    have hb2 : H2 b = some (.lst [V.int L, V.int S, V.int (C + 1)]) := by rw [← e2]; exact upd_same
    have x2 : Xb b H H2 := by rw [← e2]; exact Xb.upd Xb.refl
    walk_at "v"; walk_at "ixL"; walk_at "v"; walk_at "ixL"; refine ⟨_, _, rfl, rfl, CMulW.small (by decide) (by omega) (by omega), ?_⟩
    walk_at "ii"; refine ⟨_, _, rfl, rfl, ⟨by decide, by decide, by omega⟩, ?_⟩; refine Or.inl ⟨_, rfl, ?_⟩; refine ⟨_, _, rfl, rfl, (by decide : (0 : Int) < 2305843009213693921), ?_⟩
    have b1 := Int.emod_nonneg ((S + 1000003 * (C + 1)) ^ (3 : Int).toNat) (by decide : (2305843009213693921 : Int) ≠ 0)
    have b2 := Int.emod_lt_of_pos ((S + 1000003 * (C + 1)) ^ (3 : Int).toNat) (by decide : (0 : Int) < 2305843009213693921)
    generalize (S + 1000003 * (C + 1)) ^ (3 : Int).toNat % 2305843009213693921 = M at b1 b2 ⊢
    walk_at "v"; walk_at "v"; walk_at "ixL"; refine ⟨_, _, rfl, rfl, CMulW.small (by decide) (by omega) (by omega), ?_⟩
    walk_at "ii"; refine ⟨_, _, rfl, rfl, ⟨by decide, by decide, by omega⟩, ?_⟩; refine Or.inl ⟨_, rfl, ?_⟩; refine ⟨_, _, rfl, rfl, (by decide : (0 : Int) < 2305843009213693951), ?_⟩
    walk_at "v"; refine ⟨_, _, rfl, rfl, ⟨(by decide : (0 : Int) < 8192), by decide +kernel⟩, ?_⟩; refine Or.inl ⟨_, rfl, ?_⟩; walk_at "v"; refine ⟨_, _, rfl, rfl, hm, ?_⟩
    exact q _ _ (Int.emod_nonneg _ (by omega)) (Int.emod_lt_of_pos _ hm) x2 ⟨L, S, C + 1, hb2, hL, hS, hS2, by omega, by omega⟩
end Md

set_option Elab.async false
set_option linter.all false
set_option maxRecDepth 100000
set_option maxHeartbeats 4000000
namespace Md
/-! ### fractions in lowest terms (plain Lean) -/
/-- the greatest common divisor -/
def gI (p q : Int) : Int := ((Nat.gcd p.natAbs q.natAbs : Nat) : Int)
def lowN (p q : Int) : Int := p / gI p q
def lowD (p q : Int) : Int := q / gI p q
def Cop (p q : Int) : Prop := Nat.gcd p.natAbs q.natAbs = 1
theorem gI_pos {p q : Int} (h : q ≠ 0) : 0 < gI p q := by
  unfold gI
  have : 0 < Nat.gcd p.natAbs q.natAbs := Nat.gcd_pos_of_pos_right _ (by omega)
  omega
theorem gI_dvd_l (p q : Int) : gI p q ∣ p := Int.ofNat_dvd_left.mpr (Nat.gcd_dvd_left ..)
theorem gI_dvd_r (p q : Int) : gI p q ∣ q := Int.ofNat_dvd_left.mpr (Nat.gcd_dvd_right ..)
theorem low_l (p q : Int) : gI p q * lowN p q = p := Int.mul_ediv_cancel' (gI_dvd_l p q)
theorem low_r (p q : Int) : gI p q * lowD p q = q := Int.mul_ediv_cancel' (gI_dvd_r p q)
theorem lowD_pos {p q : Int} (h : 0 < q) : 0 < lowD p q := by
  have h1 := gI_pos (p := p) (q := q) (by omega)
  have h2 := low_r p q
  rcases Int.lt_or_le 0 (lowD p q) with h3 | h3
  · exact h3
  · have := Int.mul_nonpos_of_nonneg_of_nonpos (Int.le_of_lt h1) h3
    omega
theorem low_cop {p q : Int} (h : q ≠ 0) : Cop (lowN p q) (lowD p q) := by
  have h1 := gI_pos (p := p) (q := q) h
  have e1 : (gI p q).natAbs * (lowN p q).natAbs = p.natAbs := by rw [← Int.natAbs_mul, low_l]
  have e2 : (gI p q).natAbs * (lowD p q).natAbs = q.natAbs := by rw [← Int.natAbs_mul, low_r]
  have e3 : (gI p q).natAbs = Nat.gcd p.natAbs q.natAbs := by unfold gI; omega
  have e4 : Nat.gcd ((gI p q).natAbs * (lowN p q).natAbs) ((gI p q).natAbs * (lowD p q).natAbs) = (gI p q).natAbs * Nat.gcd (lowN p q).natAbs (lowD p q).natAbs := Nat.gcd_mul_left ..
  rw [e1, e2, ← e3] at e4
  have h5 : 0 < (gI p q).natAbs := by omega
  have e6 : (gI p q).natAbs * 1 = (gI p q).natAbs * Nat.gcd (lowN p q).natAbs (lowD p q).natAbs := by rw [Nat.mul_one]; exact e4
  exact (Nat.eq_of_mul_eq_mul_left h5 e6).symm
theorem low_cross {p q : Int} : lowN p q * q = p * lowD p q := by
  have h1 := low_l p q
  have h2 := low_r p q
  calc lowN p q * q = lowN p q * (gI p q * lowD p q) := by rw [h2]
    _ = (gI p q * lowN p q) * lowD p q := by rw [← Int.mul_assoc, Int.mul_comm (lowN p q)]
    _ = p * lowD p q := by rw [h1]
/-- two fractions in lowest terms of one value are one -/
theorem cop_uniq {p q p' q' : Int} (h : Cop p q) (h' : Cop p' q') (hq : 0 < q) (hq' : 0 < q') (e : p * q' = p' * q) : p = p' ∧ q = q' := by
  have e2 : p.natAbs * q'.natAbs = p'.natAbs * q.natAbs := by rw [← Int.natAbs_mul, ← Int.natAbs_mul, e]
  have d1 : q.natAbs ∣ q'.natAbs := by
    have : q.natAbs ∣ p.natAbs * q'.natAbs := by rw [e2]; exact Nat.dvd_mul_left ..
    exact (Nat.Coprime.symm h : Nat.Coprime q.natAbs p.natAbs).dvd_of_dvd_mul_left this
  have d2 : q'.natAbs ∣ q.natAbs := by
    have : q'.natAbs ∣ p'.natAbs * q.natAbs := by rw [← e2]; exact Nat.dvd_mul_left ..
    exact (Nat.Coprime.symm h' : Nat.Coprime q'.natAbs p'.natAbs).dvd_of_dvd_mul_left this
  have e3 : q.natAbs = q'.natAbs := Nat.dvd_antisymm d1 d2
  have e4 : q = q' := by omega
  subst e4
  exact ⟨Int.eq_of_mul_eq_mul_right (by omega) e, rfl⟩
theorem low_of_cop {p q : Int} (h : Cop p q) (hq : 0 < q) : lowN p q = p ∧ lowD p q = q := by
  have e : gI p q = 1 := by unfold gI; rw [h]; rfl
  unfold lowN lowD
  rw [e, Int.ediv_one, Int.ediv_one]
  exact ⟨rfl, rfl⟩
theorem low_mul {p q c : Int} (hq : 0 < q) (hc : 0 < c) : lowN (p * c) (q * c) = lowN p q ∧ lowD (p * c) (q * c) = lowD p q := by
  have hqc : 0 < q * c := Int.mul_pos hq hc
  refine cop_uniq (low_cop (by omega)) (low_cop (by omega)) (lowD_pos hqc) (lowD_pos hq) ?_
  have h1 : lowN (p * c) (q * c) * (q * c) = (p * c) * lowD (p * c) (q * c) := low_cross
  have h2 : lowN p q * q = p * lowD p q := low_cross
  -- cancel q * c
  refine Int.eq_of_mul_eq_mul_right (a := q * c) (by omega) ?_
  calc lowN (p * c) (q * c) * lowD p q * (q * c) = (lowN (p * c) (q * c) * (q * c)) * lowD p q := by rw [Int.mul_assoc, Int.mul_comm (lowD p q), ← Int.mul_assoc]
    _ = (p * c * lowD (p * c) (q * c)) * lowD p q := by rw [h1]
    _ = (p * lowD p q) * (c * lowD (p * c) (q * c)) := by
      rw [Int.mul_assoc p, Int.mul_assoc p, Int.mul_assoc p, Int.mul_comm (lowD p q)]
    _ = (lowN p q * q) * (c * lowD (p * c) (q * c)) := by rw [h2]
    _ = lowN p q * lowD (p * c) (q * c) * (q * c) := by
      rw [Int.mul_assoc, Int.mul_assoc, ← Int.mul_assoc q c, Int.mul_comm (q * c)]
theorem low_one (p : Int) : lowN p 1 = p ∧ lowD p 1 = 1 := low_of_cop (by unfold Cop; simp) (by decide)
theorem low_neg (p q : Int) : lowN (-p) q = -lowN p q ∧ lowD (-p) q = lowD p q := by
  have e : gI (-p) q = gI p q := by unfold gI; rw [Int.natAbs_neg]
  unfold lowN lowD
  rw [e]
  exact ⟨Int.neg_ediv_of_dvd (gI_dvd_l p q), rfl⟩
theorem lowN_le (p q : Int) (h : q ≠ 0) : (lowN p q).natAbs ≤ p.natAbs := by
  have e1 : (gI p q).natAbs * (lowN p q).natAbs = p.natAbs := by rw [← Int.natAbs_mul, low_l]
  have h1 := gI_pos (p := p) (q := q) h
  rw [← e1]
  exact Nat.le_mul_of_pos_left _ (by omega)
theorem lowD_le (p q : Int) (h : q ≠ 0) : (lowD p q).natAbs ≤ q.natAbs := by
  have e1 : (gI p q).natAbs * (lowD p q).natAbs = q.natAbs := by rw [← Int.natAbs_mul, low_r]
  have h1 := gI_pos (p := p) (q := q) h
  rw [← e1]
  exact Nat.le_mul_of_pos_left _ (by omega)
/-- the fraction top/bottom, bottom of either sign -/
def frN (p q : Int) : Int := if q < 0 then lowN (-p) (-q) else lowN p q
def frD (p q : Int) : Int := if q < 0 then lowD (-p) (-q) else lowD p q
theorem gI_neg (p q : Int) : gI (-p) (-q) = gI p q := by unfold gI; rw [Int.natAbs_neg, Int.natAbs_neg]
theorem frD_pos {p q : Int} (h : q ≠ 0) : 0 < frD p q := by
  unfold frD
  split
  · exact lowD_pos (by omega)
  · exact lowD_pos (by omega)
theorem fr_cop {p q : Int} (h : q ≠ 0) : Cop (frN p q) (frD p q) := by
  unfold frN frD
  split
  · exact low_cop (by omega)
  · exact low_cop h
/-! ### sizes -/
theorem nat_mul_lt {a b m n : Nat} (h1 : a < 2 ^ m) (h2 : b < 2 ^ n) : a * b < 2 ^ (m + n) := by
  rw [Nat.pow_add]
  exact Nat.mul_lt_mul'' h1 h2
theorem int_mul_lt {a b : Int} {m n : Nat} (h1 : a.natAbs < 2 ^ m) (h2 : b.natAbs < 2 ^ n) : (a * b).natAbs < 2 ^ (m + n) := by
  rw [Int.natAbs_mul]
  exact nat_mul_lt h1 h2
theorem pow_mono {m n : Nat} {a : Nat} (h : a < 2 ^ m) (l : m ≤ n) : a < 2 ^ n := Nat.lt_of_lt_of_le h (Nat.pow_le_pow_right (by decide) l)
end Md

set_option Elab.async false
set_option linter.all false
set_option maxRecDepth 100000
set_option maxHeartbeats 4000000
namespace Md
open PySem PySem.Spec PyProof.Rows PySem.Calls L2
local macro_rules | `(tactic| walk_at "v") => `(tactic| refine ⟨_, rfl, ?_⟩)
local macro_rules | `(tactic| walk_at "ii") => `(tactic| refine ⟨_, _, rfl, rfl, ?_⟩)
local macro_rules | `(tactic| walk_at "ixL") => `(tactic| refine Or.inl ⟨_, _, _, _, rfl, rfl, SqL.of (by assumption), rfl, ?_⟩)
local macro_rules | `(tactic| walk_at "ixT") => `(tactic| refine Or.inr (Or.inl ⟨_, _, _, _, rfl, rfl, SqT.of (by assumption), rfl, ?_⟩))

/-! ### types of values -/
def isIntV : V → Bool
  | .int _ => true
  | _ => false
def isBoolV : V → Bool
  | .bl _ => true
  | _ => false
theorem isi_of {K : PySem.W.Frag} {H : Hp} {x : V} {T C : String} {b : Bool} {Q : VK} (ty : TyX K H x (.type T)) (h : kitB T C = some b) (q : Q (.bl b) H) : rIsi K [x, .ty C] H Q := ⟨x, .ty C, _, _, b, rfl, .ty C, ty, kit_ty h, q⟩
theorem kit_int {K : PySem.W.Frag} {H : Hp} {x : V} {T : String} (ty : TyX K H x (.type T)) : kitB T "int" = some (isIntV x || isBoolV x) ∧ kitB T "bool" = some (isBoolV x) := by
  cases ty with
  | base b => cases b <;> (constructor <;> (simp only [isIntV, isBoolV, Bool.or_false, Bool.or_true, Bool.false_or, Bool.true_or]; decide +kernel))
  | _ => constructor <;> (simp only [isIntV, isBoolV, Bool.or_false, Bool.or_true, Bool.false_or, Bool.true_or]; decide +kernel)
theorem ty_int {K : PySem.W.Frag} {H : Hp} {i : Int} : TyX K H (.int i) (.type "int") := .base (.int i)
theorem ty_tup {K : PySem.W.Frag} {H : Hp} {a : Addr} {xs : List V} (h : H a = some (.tup xs)) : TyX K H (.ref a) (.type "tuple") := .base (.tup h)

/-! ### an error class of one field -/
def spXi (C : Addr) (f : Str) : Sp := fun vs H Q _ => ∃ (a : Addr) (x : V), vs = [.ref a, x] ∧ H a = some (exo a C none) ∧ ∀ d, H d = none → d ≠ a → Q .non (upd (upd H d (exd d [(f, x)])) a (exo a C (some d)))
theorem len_xi {C : Addr} {f : Str} {vs : List V} {H : Hp} {Q : VK} {E : XK} (h : spXi C f vs H Q E) : vs.length = 2 := by
  obtain ⟨a, x, rfl, _⟩ := h
  rfl
def t_xi (K : PySem.W.Frag) (f : Str) : TS := tOst K f (tVar 0) (tVar 1)
theorem pure_xi {K : PySem.W.Frag} {C : Addr} {f n : Str} (T : OexC K C) (hn : PySem.W.findIn K (.ref C) f = some none) {vs : List V} {H : Hp} {Q : VK} {E : XK} (h : spXi C f vs H Q E) :
    t_xi K f { nx := fun _ H' => Q .non H', rt := Q } (start ["self", n] vs) H := by
  obtain ⟨a, x, rfl, ha, q⟩ := h
  walk_at "v"; walk_at "v"
  exact ⟨a, C, rfl, T, hn, .inl ⟨ha, fun dx h1 h2 => q dx h1 h2⟩⟩
/-- such an error is made -/
theorem mk_xi {C : Addr} {f : Str} {x : V} {H : Hp} {Q : XK} (q : ∀ d H', Same H H' → H' d = some (.xd [(f, x)]) → Q (.ref C) (some d) H') :
    [x].length ≤ 1000 ∧ ∀ a, H a = none → spXi C f (.ref a :: ([x] ++ [])) (upd H a (exo a C none)) (fun v H2 => v = .non ∧ ∃ (d : Addr) (fs : List (Str × V)), H2 a = some (exo a C (some d)) ∧ H2 d = some (exd d fs) ∧ H d = none ∧ Q (.ref C) (some d) (upd (del H2 a) d (.xd fs))) (fun _ _ _ => False) := by
  refine ⟨by show 1 ≤ 1000; decide, fun a ha => ⟨a, x, rfl, upd_same, fun d hd hda => ⟨rfl, d, [(f, x)], upd_same, ?_, ?_, ?_⟩⟩⟩
  · rw [upd_ne hda, upd_same]
  · rw [upd_ne hda] at hd; exact hd
  · rw [upd_ne hda] at hd
    refine q d _ (fun b o e => ?_) upd_same
    have nb : b ≠ d := ne_of_none e hd
    have na : b ≠ a := ne_of_none e ha
    rw [upd_ne nb, del_ne na, upd_ne na, upd_ne nb, upd_ne na]
    exact e

/-! ### numbers in the heap -/
def NumAt (H : Hp) (x : V) (p q : Int) : Prop := (x = .int p ∧ q = 1) ∨ ∃ a, x = .ref a ∧ H a = some (.tup [.int p, .int q]) ∧ 2 ≤ q ∧ Cop p q
def PairAt (H : Hp) (x : V) (p q : Int) : Prop := ∃ a, x = .ref a ∧ H a = some (.tup [.int p, .int q])
theorem NumAt.same {H H' : Hp} {x : V} {p q : Int} (h : NumAt H x p q) (s : Same H H') : NumAt H' x p q := by
  rcases h with h | ⟨a, e, ha, h⟩
  · exact .inl h
  · exact .inr ⟨a, e, s _ _ ha, h⟩
theorem NumAt.xb {H H' : Hp} {x : V} {p q : Int} {b : Addr} {n : Nat} (h : NumAt H x p q) (hb : Bag n H b) (s : Xb b H H') : NumAt H' x p q := by
  rcases h with h | ⟨a, e, ha, h⟩
  · exact .inl h
  · exact .inr ⟨a, e, s.tupB hb ha, h⟩
theorem NumAt.pos {H : Hp} {x : V} {p q : Int} (h : NumAt H x p q) : 0 < q := by
  rcases h with ⟨_, h⟩ | ⟨a, e, ha, h, _⟩ <;> omega
theorem NumAt.cop {H : Hp} {x : V} {p q : Int} (h : NumAt H x p q) : Cop p q := by
  rcases h with ⟨_, h⟩ | ⟨a, e, ha, h, c⟩
  · subst h; unfold Cop; simp
  · exact c
theorem NumAt.ty {K : PySem.W.Frag} {H : Hp} {x : V} {p q : Int} (h : NumAt H x p q) : ∃ T, TyX K H x (.type T) := by
  rcases h with ⟨rfl, h⟩ | ⟨a, rfl, ha, h, _⟩
  · exact ⟨_, ty_int⟩
  · exact ⟨_, ty_tup ha⟩
theorem PairAt.same {H H' : Hp} {x : V} {p q : Int} (h : PairAt H x p q) (s : Same H H') : PairAt H' x p q := by
  obtain ⟨a, e, ha⟩ := h
  exact ⟨a, e, s _ _ ha⟩
theorem PairAt.xb {H H' : Hp} {x : V} {p q : Int} {b : Addr} {n : Nat} (h : PairAt H x p q) (hb : Bag n H b) (s : Xb b H H') : PairAt H' x p q := by
  obtain ⟨a, e, ha⟩ := h
  exact ⟨a, e, s.tupB hb ha⟩
theorem NumAt.int (H : Hp) (p : Int) : NumAt H (.int p) p 1 := .inl ⟨rfl, rfl⟩
/-- a fraction in lowest terms, laid as a number -/
theorem NumAt.eqv {H : Hp} {x : V} {p q p' q' : Int} (h : NumAt H x p q) (e1 : p = p') (e2 : q = q') : NumAt H x p' q' := by subst e1 e2; exact h

/-! ### is_whole, _law_is_int -/
def t_is_whole (K : PySem.W.Frag) (A : Ads) (E : XK) : TS :=
    (tRet (tAndV (tCB (rIsi K) (tCons (tVar 0) (tCons (tC (.ty "int")) tNil))) (tNotV (tCB (rIsi K) (tCons (tVar 0) (tCons (tC (.ty "bool")) tNil))))))
def n_is_whole : List Str := ["thing"]
def sp_is_whole (K : PySem.W.Frag) (A : Ads) : Sp := fun vs H Q _ => ∃ (x : V) (T : String), vs = [x] ∧ TyX K H x (.type T) ∧ Q (.bl (isIntV x)) H
theorem len_is_whole {K : PySem.W.Frag} {A : Ads} {vs : List V} {H : Hp} {Q : VK} {E : XK} (h : sp_is_whole K A vs H Q E) : vs.length = 1 := by
  obtain ⟨x, T, rfl, _⟩ := h
  rfl
theorem pure_is_whole {K : PySem.W.Frag} {A : Ads} {vs : List V} {H : Hp} {Q : VK} {E : XK} (h : sp_is_whole K A vs H Q E) : t_is_whole K A E { nx := fun _ H' => Q .non H', rt := Q } (start n_is_whole vs) H := by
  obtain ⟨x, T, rfl, ty, q⟩ := h
  obtain ⟨e1, e2⟩ := kit_int ty
  walk_at "v"
  refine ⟨_, _, _, _, _, rfl, .ty _, ty, kit_ty e1, ?_⟩
  refine ⟨_, rfl, ?_⟩
  refine iteB (fun h1 => ?_) (fun h1 => ?_)
  · walk_at "v"
    refine ⟨_, _, _, _, _, rfl, .ty _, ty, kit_ty e2, ?_⟩
    refine ⟨_, rfl, ?_⟩
    cases x <;> first | exact q | (simp [isIntV, isBoolV] at h1)
  · cases x <;> first | exact q | (simp [isIntV, isBoolV] at h1)
def t__law_is_int (K : PySem.W.Frag) (A : Ads) (E : XK) : TS :=
    (tRet (tAndV (tCB (rIsi K) (tCons (tVar 0) (tCons (tC (.ty "int")) tNil))) (tNotV (tCB (rIsi K) (tCons (tVar 0) (tCons (tC (.ty "bool")) tNil))))))
def n__law_is_int : List Str := ["_law_thing"]
def sp__law_is_int (K : PySem.W.Frag) (A : Ads) : Sp := sp_is_whole K A
theorem len__law_is_int {K : PySem.W.Frag} {A : Ads} {vs : List V} {H : Hp} {Q : VK} {E : XK} (h : sp__law_is_int K A vs H Q E) : vs.length = 1 := len_is_whole h
theorem pure__law_is_int {K : PySem.W.Frag} {A : Ads} {vs : List V} {H : Hp} {Q : VK} {E : XK} (h : sp__law_is_int K A vs H Q E) : t__law_is_int K A E { nx := fun _ H' => Q .non H', rt := Q } (start n__law_is_int vs) H := pure_is_whole h

/-! ### number -/
def sp_BadNumber___init__ (K : PySem.W.Frag) (A : Ads) : Sp := spXi A.cBadNumber "thing"
def t_number (K : PySem.W.Frag) (A : Ads) (E : XK) : TS :=
    (tSeq (tIfS (tTest (tOp rEq (tVar 1) (tC (.int 0)))) (tRaise E (tMkO A.cBadNumber (sp_BadNumber___init__ K A) [] (tCons (tVar 1) tNil))) tNext)
    (tSeq (tAsg (tCB rGcd (tCons (tVar 0) (tCons (tVar 1) tNil))) (gName 2))
    (tSeq (tIfS (tTest (tOp rLt (tVar 1) (tC (.int 0)))) (tAsg (tUn rNeg (tVar 2)) (gName 2)) tNext)
    (tSeq (tIfS (tTest (tOp rEq (tVar 1) (tVar 2))) (tRet (tOp rFdvG (tVar 0) (tVar 2))) tNext)
    (tRet (tTup (tCons (tOp rFdvG (tVar 0) (tVar 2)) (tCons (tOp rFdvG (tVar 1) (tVar 2)) tNil))))))))
def n_number : List Str := ["top", "bottom", "shared"]
def sp_number (K : PySem.W.Frag) (A : Ads) : Sp := fun vs H Q E => ∃ p q : Int, vs = [.int p, .int q] ∧ q.natAbs < 2 ^ 9000 ∧ (q ≠ 0 → ∀ x H', Same H H' → NumAt H' x (frN p q) (frD p q) → Q x H') ∧
  (q = 0 → ∀ d H', Same H H' → H' d = some (.xd [("thing", .int 0)]) → E (.ref A.cBadNumber) (some d) H')
theorem len_number {K : PySem.W.Frag} {A : Ads} {vs : List V} {H : Hp} {Q : VK} {E : XK} (h : sp_number K A vs H Q E) : vs.length = 2 := by
  obtain ⟨p, q, rfl, _⟩ := h
  rfl
theorem fdiv_exact {p s k : Int} (hs : s ≠ 0) (e : p = s * k) : p.fdiv s = k := by rw [e]; exact Int.mul_fdiv_cancel_left k hs
theorem gI_size {p q : Int} (h : q ≠ 0) : (gI p q).natAbs ≤ q.natAbs := by
  have e1 : (gI p q).natAbs * (lowD p q).natAbs = q.natAbs := by rw [← Int.natAbs_mul, low_r]
  have : 0 < (lowD p q).natAbs := by
    rcases Nat.eq_zero_or_pos (lowD p q).natAbs with z | z
    · rw [z] at e1; omega
    · exact z
  rw [← e1]
  exact Nat.le_mul_of_pos_right _ this
theorem pure_number {K : PySem.W.Frag} {A : Ads} {vs : List V} {H : Hp} {Q : VK} {E : XK} (h : sp_number K A vs H Q E) : t_number K A E { nx := fun _ H' => Q .non H', rt := Q } (start n_number vs) H := by
  obtain ⟨p, q, rfl, hz, kQ, kE⟩ := h
  walk_at "v"; refine ⟨rfl, ?_⟩; walk_at "v"
  refine iteD (fun h0 => ?_) (fun h0 => ?_)
  · have e0 : q = 0 := V.int.inj h0
    subst e0
    walk_at "v"
    exact mk_xi fun d H' s e => kE rfl d H' s e
  have hq : q ≠ 0 := fun z => h0 (by rw [z])
  have hg := gI_pos (p := p) (q := q) hq
  have hs := gI_size (p := p) hq
  walk_at "v"; walk_at "v"; refine ⟨_, _, rfl, ?_⟩
  have main : ∀ s : Int, (s = gI p q ∧ 0 < q ∨ s = -gI p q ∧ q < 0) → (tSeq (tIfS (tTest (tOp rEq (tVar 1) (tVar 2))) (tRet (tOp rFdvG (tVar 0) (tVar 2))) tNext) (tRet (tTup (tCons (tOp rFdvG (tVar 0) (tVar 2)) (tCons (tOp rFdvG (tVar 1) (tVar 2)) tNil)))))
      { nx := fun _ H' => Q .non H', rt := Q } [some (.int p), some (.int q), some (.int s)] H := by
    intro s hs2
    have s0 : s ≠ 0 := by omega
    have sz : s.natAbs.log2 < 9000 := pow_lt (Nat.lt_of_le_of_lt (by omega) hz) (by decide)
    obtain ⟨eN, eD⟩ : p.fdiv s = frN p q ∧ q.fdiv s = frD p q := by
      unfold frN frD
      rcases hs2 with ⟨e, h1⟩ | ⟨e, h1⟩
      · rw [if_neg (by omega), if_neg (by omega), e]
        exact ⟨fdiv_exact (by omega) (low_l p q).symm, fdiv_exact (by omega) (low_r p q).symm⟩
      · rw [if_pos h1, if_pos h1]
        have l1 := low_l (-p) (-q)
        have l2 := low_r (-p) (-q)
        rw [gI_neg] at l1 l2
        refine ⟨fdiv_exact s0 ?_, fdiv_exact s0 ?_⟩
        · rw [e, Int.neg_mul, l1, Int.neg_neg]
        · rw [e, Int.neg_mul, l2, Int.neg_neg]
    have hD := frD_pos (p := p) hq
    have hC := fr_cop (p := p) hq
    walk_at "v"; walk_at "v"; refine ⟨rfl, ?_⟩; walk_at "v"
    refine iteD (fun h1 => ?_) (fun h1 => ?_)
    · have e1 : q = s := V.int.inj h1
      walk_at "v"; walk_at "v"; refine ⟨_, _, rfl, rfl, ⟨s0, sz⟩, ?_⟩
      refine kQ hq _ _ (Same.refl H) (.inl ⟨congrArg V.int eN, ?_⟩)
      rw [← eD, ← e1]
      exact fdiv_exact hq (by omega)
    · walk_at "v"; walk_at "v"; refine ⟨_, _, rfl, rfl, ⟨s0, sz⟩, ?_⟩
      walk_at "v"; walk_at "v"; refine ⟨_, _, rfl, rfl, ⟨s0, sz⟩, ?_⟩
      refine ⟨by show 2 ≤ sizeLine; decide, fun a ha => ?_⟩
      refine kQ hq _ _ (Same.new ha) (.inr ⟨a, rfl, ?_, ?_, hC⟩)
      · exact upd_same.trans (by show some (HO.tup [V.int (p.fdiv s), V.int (q.fdiv s)]) = _; rw [eN, eD])
      · rcases Int.lt_or_le (frD p q) 2 with z | z
        · exfalso
          have z1 : frD p q = 1 := by omega
          apply h1
          have : q = s * frD p q := by
            rcases hs2 with ⟨e, h2⟩ | ⟨e, h2⟩
            · unfold frD; rw [if_neg (by omega), e, low_r]
            · unfold frD
              have l2 := low_r (-p) (-q)
              rw [gI_neg] at l2
              rw [if_pos h2, e, Int.neg_mul, l2, Int.neg_neg]
          rw [z1, Int.mul_one] at this
          rw [this]
        · exact z
  walk_at "v"; walk_at "ii"; walk_at "v"
  refine iteD (fun h1 => ?_) (fun h1 => ?_)
  · walk_at "v"; walk_at "v"
    exact main _ (.inr ⟨rfl, h1⟩)
  · exact main _ (.inl ⟨rfl, by omega⟩)
end Md

set_option Elab.async false
set_option linter.all false
set_option maxRecDepth 100000
set_option maxHeartbeats 4000000
namespace Md
open PySem PySem.Spec PyProof.Rows PySem.Calls L2
local macro_rules | `(tactic| walk_at "v") => `(tactic| refine ⟨_, rfl, ?_⟩)
local macro_rules | `(tactic| walk_at "ii") => `(tactic| refine ⟨_, _, rfl, rfl, ?_⟩)
local macro_rules | `(tactic| walk_at "ixL") => `(tactic| refine Or.inl ⟨_, _, _, _, rfl, rfl, SqL.of (by assumption), rfl, ?_⟩)
local macro_rules | `(tactic| walk_at "ixT") => `(tactic| refine Or.inr (Or.inl ⟨_, _, _, _, rfl, rfl, SqT.of (by assumption), rfl, ?_⟩))

/-! ### _over -/
def t__over (K : PySem.W.Frag) (A : Ads) (E : XK) : TS :=
    (tSeq (tIfS (tB (tCall (sp_is_whole K A) [] E0 (tCons (tVar 0) tNil))) (tRet (tTup (tCons (tVar 0) (tCons (tC (.int 1)) tNil)))) tNext)
    (tRet (tVar 0)))
def n__over : List Str := ["value"]
def sp__over (K : PySem.W.Frag) (A : Ads) : Sp := fun vs H Q _ => ∃ (x : V) (p q : Int), vs = [x] ∧ NumAt H x p q ∧ ∀ y H', Same H H' → PairAt H' y p q → Q y H'
theorem len__over {K : PySem.W.Frag} {A : Ads} {vs : List V} {H : Hp} {Q : VK} {E : XK} (h : sp__over K A vs H Q E) : vs.length = 1 := by
  obtain ⟨x, p, q, rfl, _⟩ := h
  rfl
theorem pure__over {K : PySem.W.Frag} {A : Ads} {vs : List V} {H : Hp} {Q : VK} {E : XK} (h : sp__over K A vs H Q E) : t__over K A E { nx := fun _ H' => Q .non H', rt := Q } (start n__over vs) H := by
  obtain ⟨x, p, q, rfl, hn, k⟩ := h
  rcases hn with ⟨rfl, rfl⟩ | ⟨a, rfl, ha, h2, hc⟩
  · walk_at "v"
    refine ⟨_, _, rfl, ty_int, ⟨_, rfl, ?_⟩⟩
    show (if true = true then _ else _)
    refine iteT ?_
    walk_at "v"
    refine ⟨by show 2 ≤ sizeLine; decide, fun t ht => ?_⟩
    exact k _ _ (Same.new ht) ⟨t, rfl, upd_same⟩
  · walk_at "v"
    refine ⟨_, _, rfl, ty_tup ha, ⟨_, rfl, ?_⟩⟩
    refine iteF ?_
    walk_at "v"
    exact k _ _ (Same.refl H) ⟨a, rfl, ha⟩
/-! ### compare -/
def cmpI (a b : Int) : Int := if a < b then -1 else if b < a then 1 else 0
def t_compare (K : PySem.W.Frag) (A : Ads) (E : XK) : TS :=
    (tSeq (tAsg (tCall (sp__over K A) [] E0 (tCons (tVar 0) tNil)) (gTup K 2 (gCons (gName 4) (gCons (gName 5) gNil))))
    (tSeq (tAsg (tCall (sp__over K A) [] E0 (tCons (tVar 1) tNil)) (gTup K 2 (gCons (gName 6) (gCons (gName 7) gNil))))
    (tSeq (tAsg (tOp rMulW (tVar 4) (tVar 7)) (gName 2))
    (tSeq (tAsg (tOp rMulW (tVar 6) (tVar 5)) (gName 3))
    (tSeq (tIfS (tTest (tOp rLt (tVar 2) (tVar 3))) (tRet (tUn rNeg (tC (.int 1)))) tNext)
    (tRet (tIf (tTest (tOp rGt (tVar 2) (tVar 3))) (tC (.int 1)) (tC (.int 0)))))))))
def n_compare : List Str := ["one", "other", "left", "right", "top", "bottom", "other_top", "other_bottom"]
def sp_compare (K : PySem.W.Frag) (A : Ads) : Sp := fun vs H Q _ => ∃ (x y : V) (p q p' q' : Int), vs = [x, y] ∧ NumAt H x p q ∧ NumAt H y p' q' ∧ (p.natAbs < 2 ^ 9000 ∧ q.natAbs < 2 ^ 9000 ∧ p'.natAbs < 2 ^ 9000 ∧ q'.natAbs < 2 ^ 9000) ∧
  ∀ H', Same H H' → Q (.int (cmpI (p * q') (p' * q))) H'
theorem len_compare {K : PySem.W.Frag} {A : Ads} {vs : List V} {H : Hp} {Q : VK} {E : XK} (h : sp_compare K A vs H Q E) : vs.length = 2 := by
  obtain ⟨x, y, p, q, p', q', rfl, _⟩ := h
  rfl
theorem mulW {i j : Int} (h1 : i.natAbs < 2 ^ 9001) (h2 : j.natAbs < 2 ^ 9001) : CMulW i j := wide_mul h1 h2 (by decide) (by decide) (by decide)
theorem mulW0 {i j : Int} (h1 : i.natAbs < 2 ^ 9000) (h2 : j.natAbs < 2 ^ 9000) : CMulW i j := mulW (pow_mono h1 (by decide)) (pow_mono h2 (by decide))
theorem pure_compare {K : PySem.W.Frag} {A : Ads} {vs : List V} {H : Hp} {Q : VK} {E : XK} (h : sp_compare K A vs H Q E) : t_compare K A E { nx := fun _ H' => Q .non H', rt := Q } (start n_compare vs) H := by
  obtain ⟨x, y, p, q, p', q', rfl, h1, h2, ⟨z1, z2, z3, z4⟩, k⟩ := h
  walk_at "v"
  refine ⟨_, _, _, rfl, h1, fun u H1 s1 hu => ?_⟩
  obtain ⟨a, rfl, ha⟩ := hu
  refine ⟨a, _, rfl, SqT.of ha, rfl, _, _, rfl, _, _, rfl, rfl, ?_⟩
  walk_at "v"
  refine ⟨_, _, _, rfl, h2.same s1, fun u2 H2 s2 hu2 => ?_⟩
  obtain ⟨a2, rfl, ha2⟩ := hu2
  refine ⟨a2, _, rfl, SqT.of ha2, rfl, _, _, rfl, _, _, rfl, rfl, ?_⟩
  have s3 := Same.trans s1 s2
  walk_at "v"; walk_at "v"; refine ⟨_, _, rfl, rfl, mulW0 z1 z4, ?_⟩
  walk_at "v"; walk_at "v"; refine ⟨_, _, rfl, rfl, mulW0 z3 z2, ?_⟩
  have kk := k H2 s3
  unfold cmpI at kk
  walk_at "v"; walk_at "v"; walk_at "ii"; walk_at "v"
  refine iteD (fun h0 => ?_) (fun h0 => ?_)
  · refine ⟨_, rfl, ?_⟩
    rw [if_pos h0] at kk
    exact kk
  · rw [if_neg h0] at kk
    walk_at "v"; walk_at "v"; walk_at "ii"; walk_at "v"
    refine iteD (fun h3 => ?_) (fun h3 => ?_)
    · rw [if_pos h3] at kk
      exact kk
    · rw [if_neg h3] at kk
      exact kk
/-! ### _negative -/
def t__negative (K : PySem.W.Frag) (A : Ads) (E : XK) : TS :=
    (tRet (tTup (tCons (tUn rNeg (tOp (rIx K) (tVar 0) (tC (.int 0)))) (tCons (tOp (rIx K) (tVar 0) (tC (.int 1))) tNil))))
def n__negative : List Str := ["over"]
def sp__negative (K : PySem.W.Frag) (A : Ads) : Sp := fun vs H Q _ => ∃ (x : V) (p q : Int), vs = [x] ∧ PairAt H x p q ∧ ∀ y H', Same H H' → PairAt H' y (-p) q → Q y H'
theorem len__negative {K : PySem.W.Frag} {A : Ads} {vs : List V} {H : Hp} {Q : VK} {E : XK} (h : sp__negative K A vs H Q E) : vs.length = 1 := by
  obtain ⟨x, p, q, rfl, _⟩ := h
  rfl
theorem pure__negative {K : PySem.W.Frag} {A : Ads} {vs : List V} {H : Hp} {Q : VK} {E : XK} (h : sp__negative K A vs H Q E) : t__negative K A E { nx := fun _ H' => Q .non H', rt := Q } (start n__negative vs) H := by
  obtain ⟨x, p, q, rfl, ⟨a, rfl, ha⟩, k⟩ := h
  walk_at "v"; walk_at "ixT"; walk_at "v"; walk_at "v"; walk_at "ixT"
  refine ⟨by show 2 ≤ sizeLine; decide, fun t ht => ?_⟩
  exact k _ _ (Same.new ht) ⟨t, rfl, upd_same⟩

/-! ### _law_bag -/
def t__law_bag (K : PySem.W.Frag) (A : Ads) (E : XK) : TS :=
    (tSeq (tAsg (tIf (tTest (tOp rLt (tVar 1) (tCB (rLen K) (tCons (tVar 0) tNil)))) (tOp (rIx K) (tVar 0) (tVar 1)) (tC (.int 0))) (gName 2))
    (tSeq (tAsg (tIf (tTest (tOp rGe (tCB rAbs (tCons (tVar 2) tNil)) (tOp rPow (tC (.int 10)) (tC (.int 18))))) (tCB rAbs (tCons (tVar 2) tNil)) (tC (.int 0))) (gName 3))
    (tRet (tLst (tCons (tVar 3) (tCons (tOp rAdd (tOp rAdd (tOp rMulW (tOp rMod (tCB rInt1 (tCons (tVar 2) tNil)) (tC (.int 2305843009213693951))) (tC (.int 7))) (tOp rMulW (tC (.int 9176)) (tVar 1))) (tC (.int 7001))) (tCons (tC (.int 0)) tNil)))))))
def n__law_bag : List Str := ["_law_script", "_law_at", "_law_cell", "_law_large"]
def sp__law_bag (K : PySem.W.Frag) (A : Ads) : Sp := fun vs H Q _ => ∃ (s : Addr) (ns : List Int) (at_ : Int), vs = [.ref s, .int at_] ∧ SqL K H s (ns.map V.int) ∧ ns.length ≤ 63 ∧ 0 ≤ at_ ∧ at_ ≤ 62 ∧ ∀ b H', H b = none → Same H H' → Bag 549755813888 H' b → Q (.ref b) H'
theorem len__law_bag {K : PySem.W.Frag} {A : Ads} {vs : List V} {H : Hp} {Q : VK} {E : XK} (h : sp__law_bag K A vs H Q E) : vs.length = 2 := by
  obtain ⟨x, p, q, rfl, _⟩ := h
  rfl
theorem atI_map {ns : List Int} {i : Int} (h0 : 0 ≤ i) (h1 : i < ns.length) : ∃ c, atI (ns.map V.int) i = some (.int c) := by
  have h2 : i.toNat < ns.length := by omega
  refine ⟨ns[i.toNat], ?_⟩
  unfold atI ixN
  rw [if_pos h0, List.length_map, if_pos h1]
  show (ns.map V.int)[i.toNat]? = _
  rw [List.getElem?_map, List.getElem?_eq_getElem h2]
  rfl
theorem pure__law_bag {K : PySem.W.Frag} {A : Ads} {vs : List V} {H : Hp} {Q : VK} {E : XK} (h : sp__law_bag K A vs H Q E) : t__law_bag K A E { nx := fun _ H' => Q .non H', rt := Q } (start n__law_bag vs) H := by
  obtain ⟨s, ns, i, rfl, hs, hn, h0, h1, k⟩ := h
  have main : ∀ c : Int, (tSeq (tAsg (tIf (tTest (tOp rGe (tCB rAbs (tCons (tVar 2) tNil)) (tOp rPow (tC (.int 10)) (tC (.int 18))))) (tCB rAbs (tCons (tVar 2) tNil)) (tC (.int 0))) (gName 3))
    (tRet (tLst (tCons (tVar 3) (tCons (tOp rAdd (tOp rAdd (tOp rMulW (tOp rMod (tCB rInt1 (tCons (tVar 2) tNil)) (tC (.int 2305843009213693951))) (tC (.int 7))) (tOp rMulW (tC (.int 9176)) (tVar 1))) (tC (.int 7001))) (tCons (tC (.int 0)) tNil))))))
     { nx := fun _ H' => Q .non H', rt := Q } [some (.ref s), some (.int i), some (.int c), none] H := by
    intro c
    have fin : ∀ L : Int, 0 ≤ L → (tRet (tLst (tCons (tVar 3) (tCons (tOp rAdd (tOp rAdd (tOp rMulW (tOp rMod (tCB rInt1 (tCons (tVar 2) tNil)) (tC (.int 2305843009213693951))) (tC (.int 7))) (tOp rMulW (tC (.int 9176)) (tVar 1))) (tC (.int 7001))) (tCons (tC (.int 0)) tNil)))))
     { nx := fun _ H' => Q .non H', rt := Q } [some (.ref s), some (.int i), some (.int c), some (.int L)] H := by
      intro L hL
      have b1 := Int.emod_nonneg c (by decide : (2305843009213693951 : Int) ≠ 0)
      have b2 := Int.emod_lt_of_pos c (by decide : (0 : Int) < 2305843009213693951)
      walk_at "v"; walk_at "v"; refine Or.inl ⟨_, rfl, ?_⟩; refine ⟨_, _, rfl, rfl, (by decide : (0 : Int) < 2305843009213693951), ?_⟩
      refine ⟨_, _, rfl, rfl, CMulW.small (by omega) (by decide) (by decide), ?_⟩
      walk_at "v"; refine ⟨_, _, rfl, rfl, CMulW.small (by decide) (by omega) (by omega), ?_⟩
      walk_at "ii"; walk_at "ii"
      refine ⟨by show 3 ≤ sizeLine; decide, fun t ht => ?_⟩
      refine k t _ ht (Same.new ht) ⟨L, _, 0, upd_same, hL, by omega, by omega, by omega, by omega⟩
    walk_at "v"; walk_at "v"; refine ⟨_, _, rfl, rfl, ⟨by decide, by decide, by decide⟩, ?_⟩; walk_at "ii"; walk_at "v"
    refine iteD (fun h2 => ?_) (fun h2 => ?_)
    · walk_at "v"; walk_at "v"
      refine fin _ ?_
      split <;> omega
    · exact fin 0 (by omega)
  walk_at "v"; walk_at "v"; refine ⟨_, _, rfl, Or.inl ⟨_, hs, rfl⟩, ?_⟩; walk_at "ii"; walk_at "v"
  refine iteD (fun h2 => ?_) (fun h2 => ?_)
  · rw [List.length_map] at h2
    obtain ⟨c, hc⟩ := atI_map h0 h2
    walk_at "v"; walk_at "v"
    refine Or.inl ⟨_, _, _, _, rfl, rfl, hs, hc, ?_⟩
    exact main c
  · exact main 0

/-! ### _law_value -/
def t__law_value (K : PySem.W.Frag) (A : Ads) (E : XK) : TS :=
    (tSeq (tPar 2 3 (tCons (tCB rAbs (tCons (tVar 0) tNil)) (tCons (tVar 1) tNil)))
    (tSeq (tWhile (tTest (tOp rGt (tVar 2) (tC (.int 0)))) (tPar 2 3 (tCons (tOp rMod (tCB rInt1 (tCons (tVar 3) tNil)) (tVar 2)) (tCons (tVar 2) tNil))))
    (tRet (tIf (tTest (tOp rEq (tVar 1) (tVar 3))) (tOp rFdvW (tVar 0) (tVar 3)) (tTup (tCons (tOp rFdvW (tVar 0) (tVar 3)) (tCons (tOp rFdvW (tVar 1) (tVar 3)) tNil)))))))
def n__law_value : List Str := ["_law_p", "_law_q", "_law_low", "_law_high"]
def sp__law_value (K : PySem.W.Frag) (A : Ads) : Sp := fun vs H Q _ => ∃ p q : Int, vs = [.int p, .int q] ∧ 0 < q ∧ q.natAbs < 2 ^ 9000 ∧ ∀ x H', Same H H' → NumAt H' x (lowN p q) (lowD p q) → Q x H'
theorem len__law_value {K : PySem.W.Frag} {A : Ads} {vs : List V} {H : Hp} {Q : VK} {E : XK} (h : sp__law_value K A vs H Q E) : vs.length = 2 := by
  obtain ⟨p, q, rfl, _⟩ := h
  rfl
theorem gI_step {l h : Int} (hl : 0 < l) (hh : 0 ≤ h) : gI (h % l) l = gI l h := by
  unfold gI
  obtain ⟨m, rfl⟩ := Int.eq_ofNat_of_zero_le (Int.le_of_lt hl)
  obtain ⟨n, rfl⟩ := Int.eq_ofNat_of_zero_le hh
  have e : ((n : Int) % (m : Int)).natAbs = n % m := by rw [← Int.natCast_emod]; rfl
  rw [e]
  show ((Nat.gcd (n % m) m : Nat) : Int) = ((Nat.gcd m n : Nat) : Int)
  rw [Nat.gcd_rec m n]
theorem pure__law_value {K : PySem.W.Frag} {A : Ads} {vs : List V} {H : Hp} {Q : VK} {E : XK} (h : sp__law_value K A vs H Q E) : t__law_value K A E { nx := fun _ H' => Q .non H', rt := Q } (start n__law_value vs) H := by
  obtain ⟨p, q, rfl, hq, hz, k⟩ := h
  walk_at "v"; walk_at "v"; walk_at "v"
  refine ⟨_, _, rfl, ?_⟩
  refine ⟨fun m σ H' => H' = H ∧ ∃ l h : Int, σ = [some (.int p), some (.int q), some (.int l), some (.int h)] ∧ 0 ≤ l ∧ 0 < h ∧ gI l h = gI p q ∧ m = l.toNat, ⟨_, rfl, _, _, rfl, ?_, hq, ?_, rfl⟩, ?_⟩
  · split <;> omega
  · show gI (if p < 0 then -p else p) q = gI p q
    unfold gI
    split
    · rw [Int.natAbs_neg]
    · rfl
  · rintro m σ H' ⟨rfl, l, h, rfl, h0, h1, hg, rfl⟩
    walk_at "v"; walk_at "ii"; walk_at "v"
    refine iteD (fun h2 => ?_) (fun h2 => ?_)
    · refine ⟨_, fun σ' H' z => z, ?_⟩
      · walk_at "v"; refine Or.inl ⟨_, rfl, ?_⟩; walk_at "v"; refine ⟨_, _, rfl, rfl, h2, ?_⟩; walk_at "v"
        refine ⟨_, _, rfl, ?_⟩
        have b1 := Int.emod_nonneg h (by omega : l ≠ 0)
        have b2 := Int.emod_lt_of_pos h h2
        exact ⟨(h % l).toNat, by omega, rfl, h % l, l, rfl, b1, h2, by rw [gI_step h2 (by omega), hg], rfl⟩
    · have e0 : l = 0 := by omega
      subst e0
      have eh : h = gI p q := by
        rw [← hg]
        unfold gI
        show h = ((Nat.gcd 0 h.natAbs : Nat) : Int)
        rw [Nat.gcd_zero_left]
        omega
      have hs := gI_size (p := p) (q := q) (by omega)
      have hd : CDivW p h := ⟨h1, pow_lt (Nat.lt_of_le_of_lt (by omega) hz) (by decide)⟩
      have hD := lowD_pos (p := p) hq
      walk_at "v"; walk_at "v"; refine ⟨rfl, ?_⟩; walk_at "v"
      refine iteD (fun h3 => ?_) (fun h3 => ?_)
      · have e3 : q = h := V.int.inj h3
        walk_at "v"; walk_at "v"; refine ⟨_, _, rfl, rfl, hd, ?_⟩
        refine k _ _ (Same.refl _) (.inl ⟨by unfold lowN; rw [← eh], ?_⟩)
        unfold lowD
        rw [← eh, e3, Int.ediv_self (by omega)]
      · walk_at "v"; walk_at "v"; refine ⟨_, _, rfl, rfl, hd, ?_⟩
        walk_at "v"; walk_at "v"; refine ⟨_, _, rfl, rfl, hd, ?_⟩
        refine ⟨by show 2 ≤ sizeLine; decide, fun a ha => ?_⟩
        refine k _ _ (Same.new ha) (.inr ⟨a, rfl, ?_, ?_, low_cop (by omega)⟩)
        · refine upd_same.trans ?_
          show some (HO.tup [V.int (p / h), V.int (q / h)]) = _
          rw [eh]; rfl
        · rcases Int.lt_or_le (lowD p q) 2 with z | z
          · exfalso
            apply h3
            have e1 : lowD p q = 1 := by omega
            have e2 := low_r p q
            rw [e1, Int.mul_one] at e2
            rw [eh, e2]
          · exact z
end Md

set_option Elab.async false
set_option linter.all false
set_option maxRecDepth 100000
set_option maxHeartbeats 4000000
set_option exponentiation.threshold 20000
namespace Md
open PySem PySem.Spec PyProof.Rows PySem.Calls L2
local macro_rules | `(tactic| walk_at "v") => `(tactic| refine ⟨_, rfl, ?_⟩)
local macro_rules | `(tactic| walk_at "ii") => `(tactic| refine ⟨_, _, rfl, rfl, ?_⟩)
local macro_rules | `(tactic| walk_at "ixL") => `(tactic| refine Or.inl ⟨_, _, _, _, rfl, rfl, SqL.of (by assumption), rfl, ?_⟩)
local macro_rules | `(tactic| walk_at "ixT") => `(tactic| refine Or.inr (Or.inl ⟨_, _, _, _, rfl, rfl, SqT.of (by assumption), rfl, ?_⟩))

/-! ### _law_number -/
def t__law_number (K : PySem.W.Frag) (A : Ads) (E : XK) : TS :=
    (tSeq (tIfS (tTest (tOp rGt (tCall (sp__law_take K A) [] E0 (tCons (tVar 0) (tCons (tC (.int 3)) tNil))) (tC (.int 0)))) (tRet (tCall (sp__law_value K A) [] E0 (tCons (tOp rSub (tCall (sp__law_take K A) [] E0 (tCons (tVar 0) (tCons (tC (.int 11)) tNil))) (tC (.int 5))) (tCons (tOp rAdd (tC (.int 1)) (tCall (sp__law_take K A) [] E0 (tCons (tVar 0) (tCons (tC (.int 3)) tNil)))) tNil)))) tNext)
    (tRet (tCall (sp__law_value K A) [] E0 (tCons (tOp rSub (tCall (sp__law_take K A) [] E0 (tCons (tVar 0) (tCons (tOp rAdd (tOp rMulW (tC (.int 2)) (tOp rPow (tC (.int 10)) (tC (.int 20)))) (tC (.int 1))) tNil))) (tOp rPow (tC (.int 10)) (tC (.int 20)))) (tCons (tOp rAdd (tC (.int 1)) (tCall (sp__law_take K A) [] E0 (tCons (tVar 0) (tCons (tOp rPow (tC (.int 10)) (tC (.int 9))) tNil)))) tNil)))))
def n__law_number : List Str := ["_law_bag_here"]
def sp__law_number (K : PySem.W.Frag) (A : Ads) : Sp := fun vs H Q _ => ∃ (b : Addr) (n : Nat), vs = [.ref b] ∧ Bag (n + 3) H b ∧ ∀ x p q H', Xb b H H' → Bag n H' b → NumAt H' x p q → p.natAbs ≤ 10 ^ 20 → q.natAbs ≤ 10 ^ 9 → Q x H'
theorem len__law_number {K : PySem.W.Frag} {A : Ads} {vs : List V} {H : Hp} {Q : VK} {E : XK} (h : sp__law_number K A vs H Q E) : vs.length = 1 := by
  obtain ⟨p, q, rfl, _⟩ := h
  rfl
theorem pure__law_number {K : PySem.W.Frag} {A : Ads} {vs : List V} {H : Hp} {Q : VK} {E : XK} (h : sp__law_number K A vs H Q E) : t__law_number K A E { nx := fun _ H' => Q .non H', rt := Q } (start n__law_number vs) H := by
  obtain ⟨b, n, rfl, hb, k⟩ := h
  walk_at "v"
  refine ⟨b, 3, n + 2, rfl, hb, by decide, by decide, fun d H1 d0 d1 x1 hb1 => ?_⟩
  walk_at "ii"; walk_at "v"
  refine iteD (fun h0 => ?_) (fun h0 => ?_)
  · walk_at "v"
    refine ⟨b, 11, n + 1, rfl, hb1, by decide, by decide, fun d2 H2 d3 d4 x2 hb2 => ?_⟩
    walk_at "ii"; walk_at "v"
    refine ⟨b, 3, n, rfl, hb2, by decide, by decide, fun d5 H3 d6 d7 x3 hb3 => ?_⟩
    walk_at "ii"
    refine ⟨d2 - 5, 1 + d5, rfl, by omega, by omega, fun x H4 s4 hn => ?_⟩
    have l1 := lowN_le (d2 - 5) (1 + d5) (by omega)
    have l2 := lowD_le (d2 - 5) (1 + d5) (by omega)
    exact k x _ _ H4 ((x1.trans x2).trans (x3.trans (Xb.of s4))) (hb3.same s4) hn (by omega) (by omega)
  · walk_at "v"; refine ⟨_, _, rfl, rfl, ⟨by decide, by decide, by decide⟩, ?_⟩
    refine ⟨_, _, rfl, rfl, wide_mul (a := 8) (b := 128) (by decide) (by decide) (by decide) (by decide) (by decide), ?_⟩
    walk_at "ii"
    refine ⟨b, _, n + 1, rfl, hb1, by decide, by decide, fun d2 H2 d3 d4 x2 hb2 => ?_⟩
    refine ⟨_, _, rfl, rfl, ⟨by decide, by decide, by decide⟩, ?_⟩
    walk_at "ii"; walk_at "v"
    refine ⟨_, _, rfl, rfl, ⟨by decide, by decide, by decide⟩, ?_⟩
    refine ⟨b, _, n, rfl, hb2, by decide, by decide, fun d5 H3 d6 d7 x3 hb3 => ?_⟩
    walk_at "ii"
    have e1 : (10 : Int) ^ (20 : Int).toNat = 100000000000000000000 := by decide
    have e2 : (10 : Int) ^ (9 : Int).toNat = 1000000000 := by decide
    rw [e1] at d4
    rw [e2] at d7
    refine ⟨d2 - 10 ^ (20 : Int).toNat, 1 + d5, rfl, by omega, by omega, fun x H4 s4 hn => ?_⟩
    rw [e1] at hn
    have l1 := lowN_le (d2 - 100000000000000000000) (1 + d5) (by omega)
    have l2 := lowD_le (d2 - 100000000000000000000) (1 + d5) (by omega)
    refine k x _ _ H4 ((x1.trans x2).trans (x3.trans (Xb.of s4))) (hb3.same s4) hn ?_ ?_
    · have : (10 : Nat) ^ 20 = 100000000000000000000 := by decide
      omega
    · have : (10 : Nat) ^ 9 = 1000000000 := by decide
      omega
/-! ### _law_pair, _law_order -/
def t__law_pair (K : PySem.W.Frag) (A : Ads) (E : XK) : TS :=
    (tRet (tIf (tB (tCB (rIsi K) (tCons (tVar 0) (tCons (tC (.ty "tuple")) tNil)))) (tVar 0) (tTup (tCons (tVar 0) (tCons (tC (.int 1)) tNil)))))
def n__law_pair : List Str := ["_law_value_here"]
def sp__law_pair (K : PySem.W.Frag) (A : Ads) : Sp := sp__over K A
theorem len__law_pair {K : PySem.W.Frag} {A : Ads} {vs : List V} {H : Hp} {Q : VK} {E : XK} (h : sp__law_pair K A vs H Q E) : vs.length = 1 := len__over h
theorem pure__law_pair {K : PySem.W.Frag} {A : Ads} {vs : List V} {H : Hp} {Q : VK} {E : XK} (h : sp__law_pair K A vs H Q E) : t__law_pair K A E { nx := fun _ H' => Q .non H', rt := Q } (start n__law_pair vs) H := by
  obtain ⟨x, p, q, rfl, hn, k⟩ := h
  rcases hn with ⟨rfl, rfl⟩ | ⟨a, rfl, ha, h2, hc⟩
  · walk_at "v"
    refine ⟨_, _, _, _, _, rfl, .ty _, ty_int, kit_ty (by decide +kernel : kitB "int" "tuple" = some false), ?_⟩
    walk_at "v"
    refine iteF ?_
    walk_at "v"
    refine ⟨by show 2 ≤ sizeLine; decide, fun t ht => ?_⟩
    exact k _ _ (Same.new ht) ⟨t, rfl, upd_same⟩
  · walk_at "v"
    refine ⟨_, _, _, _, _, rfl, .ty _, ty_tup ha, kit_ty (by decide +kernel : kitB "tuple" "tuple" = some true), ?_⟩
    walk_at "v"
    refine iteT ?_
    walk_at "v"
    exact k _ _ (Same.refl H) ⟨a, rfl, ha⟩
def t__law_order (K : PySem.W.Frag) (A : Ads) (E : XK) : TS :=
    (tSeq (tPar 2 3 (tCons (tCall (sp__law_pair K A) [] E0 (tCons (tVar 0) tNil)) (tCons (tCall (sp__law_pair K A) [] E0 (tCons (tVar 1) tNil)) tNil)))
    (tRet (tOp rSub (tOp rMulW (tOp (rIx K) (tVar 2) (tC (.int 0))) (tOp (rIx K) (tVar 3) (tC (.int 1)))) (tOp rMulW (tOp (rIx K) (tVar 3) (tC (.int 0))) (tOp (rIx K) (tVar 2) (tC (.int 1)))))))
def n__law_order : List Str := ["_law_one", "_law_other", "_law_left", "_law_right"]
def sp__law_order (K : PySem.W.Frag) (A : Ads) : Sp := fun vs H Q _ => ∃ (x y : V) (p q p' q' : Int), vs = [x, y] ∧ NumAt H x p q ∧ NumAt H y p' q' ∧ (p.natAbs < 2 ^ 9000 ∧ q.natAbs < 2 ^ 9000 ∧ p'.natAbs < 2 ^ 9000 ∧ q'.natAbs < 2 ^ 9000) ∧
  ∀ H', Same H H' → Q (.int (p * q' - p' * q)) H'
theorem len__law_order {K : PySem.W.Frag} {A : Ads} {vs : List V} {H : Hp} {Q : VK} {E : XK} (h : sp__law_order K A vs H Q E) : vs.length = 2 := by
  obtain ⟨x, y, p, q, p', q', rfl, _⟩ := h
  rfl
theorem pure__law_order {K : PySem.W.Frag} {A : Ads} {vs : List V} {H : Hp} {Q : VK} {E : XK} (h : sp__law_order K A vs H Q E) : t__law_order K A E { nx := fun _ H' => Q .non H', rt := Q } (start n__law_order vs) H := by
  obtain ⟨x, y, p, q, p', q', rfl, h1, h2, ⟨z1, z2, z3, z4⟩, k⟩ := h
  walk_at "v"
  refine ⟨_, _, _, rfl, h1, fun u H1 s1 hu => ?_⟩
  obtain ⟨a, rfl, ha⟩ := hu
  walk_at "v"
  refine ⟨_, _, _, rfl, h2.same s1, fun u2 H2 s2 hu2 => ?_⟩
  obtain ⟨a2, rfl, ha2⟩ := hu2
  have ha1 := s2 _ _ ha
  refine ⟨_, _, rfl, ?_⟩
  walk_at "v"; walk_at "ixT"; walk_at "v"; walk_at "ixT"; refine ⟨_, _, rfl, rfl, mulW0 z1 z4, ?_⟩
  walk_at "v"; walk_at "ixT"; walk_at "v"; walk_at "ixT"; refine ⟨_, _, rfl, rfl, mulW0 z3 z2, ?_⟩
  walk_at "ii"
  exact k H2 (Same.trans s1 s2)
/-! ### _law_same, _law_is_lowest -/
theorem dp_pair {K : PySem.W.Frag} {H : Hp} {a : Addr} {p q : Int} (h : H a = some (.tup [.int p, .int q])) : Dp K H (.ref a) (.tuple [.int p, .int q]) := .tup (SqT.of h) (.cons (.int p) (.cons (.int q) .nil))
theorem shaped_int (p : Int) : SeqAt.shaped (.int p) = true := rfl
theorem shaped_pair (p q : Int) : SeqAt.shaped (.tuple [.int p, .int q]) = true := by
  unfold SeqAt.shaped
  simp [PyData.canLay0, PyData.canLayAll0, PyData.depth, PyData.depthAll]
theorem NumAt.eqD {K : PySem.W.Frag} {H : Hp} {x y : V} {p q : Int} {Q : VK} (h1 : NumAt H x p q) (h2 : NumAt H y p q) (k : Q (.bl true) H) : rEqD K x y H Q := by
  rcases h1 with ⟨rfl, rfl⟩ | ⟨a, rfl, ha, h3, _⟩
  · rcases h2 with ⟨rfl, _⟩ | ⟨b, rfl, hb, h4, _⟩
    · refine ⟨_, _, .int p, .int p, shaped_int p, shaped_int p, ?_⟩
      have e : PyData.eqv (.int p) (.int p) = true := by simp [PyData.eqv]
      rw [e]; exact k
    · omega
  · rcases h2 with ⟨rfl, h4⟩ | ⟨b, rfl, hb, h4, _⟩
    · omega
    · refine ⟨_, _, dp_pair ha, dp_pair hb, shaped_pair p q, shaped_pair p q, ?_⟩
      have e : PyData.eqv (.tuple [.int p, .int q]) (.tuple [.int p, .int q]) = true := by simp [PyData.eqv, PyData.eqvAll]
      rw [e]; exact k
def t__law_same (K : PySem.W.Frag) (A : Ads) (E : XK) : TS :=
    (tSeq (tIfS (tNot (tB (tCB (rIsi K) (tCons (tVar 1) (tCons (tC (.ty "tuple")) tNil))))) (tRet (tAndV (tCall (sp__law_is_int K A) [] E0 (tCons (tVar 0) tNil)) (tOp (rEqD K) (tVar 0) (tVar 1)))) tNext)
    (tSeq (tIfS (tOr (tNot (tB (tCB (rIsi K) (tCons (tVar 0) (tCons (tC (.ty "tuple")) tNil))))) (tTest (tOp rNe (tCB (rLen K) (tCons (tVar 0) tNil)) (tC (.int 2))))) (tRet (tC (.bl false))) tNext)
    (tRet (tAndV (tCall (sp__law_is_int K A) [] E0 (tCons (tOp (rIx K) (tVar 0) (tC (.int 0))) tNil)) (tAndV (tCall (sp__law_is_int K A) [] E0 (tCons (tOp (rIx K) (tVar 0) (tC (.int 1))) tNil)) (tOp (rEqD K) (tVar 0) (tVar 1)))))))
def n__law_same : List Str := ["_law_actual", "_law_due"]
def sp__law_same (K : PySem.W.Frag) (A : Ads) : Sp := fun vs H Q _ => ∃ (x y : V) (p q : Int), vs = [x, y] ∧ NumAt H x p q ∧ NumAt H y p q ∧ ∀ H', Same H H' → Q (.bl true) H'
theorem len__law_same {K : PySem.W.Frag} {A : Ads} {vs : List V} {H : Hp} {Q : VK} {E : XK} (h : sp__law_same K A vs H Q E) : vs.length = 2 := by
  obtain ⟨x, y, p, q, rfl, _⟩ := h
  rfl
theorem pure__law_same {K : PySem.W.Frag} {A : Ads} {vs : List V} {H : Hp} {Q : VK} {E : XK} (h : sp__law_same K A vs H Q E) : t__law_same K A E { nx := fun _ H' => Q .non H', rt := Q } (start n__law_same vs) H := by
  obtain ⟨x, y, p, q, rfl, h1, h2, k⟩ := h
  have kk := k H (Same.refl H)
  have ee := fun {Q : VK} => NumAt.eqD (K := K) (Q := Q) h1 h2
  rcases h1 with ⟨rfl, rfl⟩ | ⟨a, rfl, ha, h3, _⟩
  · rcases h2 with ⟨rfl, _⟩ | ⟨b, rfl, hb, h4, _⟩
    · walk_at "v"
      refine ⟨_, _, _, _, _, rfl, .ty _, ty_int, kit_ty (by decide +kernel : kitB "int" "tuple" = some false), ?_⟩
      walk_at "v"
      show (if (!false) = true then _ else _)
      refine iteT ?_
      walk_at "v"
      refine ⟨_, _, rfl, ty_int, ⟨_, rfl, ?_⟩⟩
      refine iteT ?_
      walk_at "v"; walk_at "v"
      exact ee kk
    · omega
  · rcases h2 with ⟨rfl, h4⟩ | ⟨b, rfl, hb, h4, _⟩
    · omega
    · walk_at "v"
      refine ⟨_, _, _, _, _, rfl, .ty _, ty_tup hb, kit_ty (by decide +kernel : kitB "tuple" "tuple" = some true), ?_⟩
      walk_at "v"
      show (if (!true) = true then _ else _)
      refine iteF ?_
      walk_at "v"
      refine ⟨_, _, _, _, _, rfl, .ty _, ty_tup ha, kit_ty (by decide +kernel : kitB "tuple" "tuple" = some true), ?_⟩
      walk_at "v"
      show (if (!true) = true then _ else _)
      refine iteF ?_
      walk_at "v"
      refine ⟨_, _, rfl, .inr ⟨_, SqT.of ha, rfl⟩, ?_⟩
      refine ⟨rfl, ?_⟩
      walk_at "v"
      show (if (!decide (V.int 2 = V.int 2)) = true then _ else _)
      refine iteF ?_
      walk_at "v"; walk_at "ixT"
      refine ⟨_, _, rfl, ty_int, ⟨_, rfl, ?_⟩⟩
      refine iteT ?_
      walk_at "v"; walk_at "ixT"
      refine ⟨_, _, rfl, ty_int, ⟨_, rfl, ?_⟩⟩
      refine iteT ?_
      walk_at "v"; walk_at "v"
      exact ee kk
def t__law_is_lowest (K : PySem.W.Frag) (A : Ads) (E : XK) : TS :=
    (tSeq (tIfS (tB (tCall (sp__law_is_int K A) [] E0 (tCons (tVar 0) tNil))) (tRet (tC (.bl true))) tNext)
    (tSeq (tIfS (tOr (tNot (tB (tCB (rIsi K) (tCons (tVar 0) (tCons (tC (.ty "tuple")) tNil))))) (tOr (tTest (tOp rNe (tCB (rLen K) (tCons (tVar 0) tNil)) (tC (.int 2)))) (tOr (tNot (tB (tCall (sp__law_is_int K A) [] E0 (tCons (tOp (rIx K) (tVar 0) (tC (.int 0))) tNil)))) (tNot (tB (tCall (sp__law_is_int K A) [] E0 (tCons (tOp (rIx K) (tVar 0) (tC (.int 1))) tNil))))))) (tRet (tC (.bl false))) tNext)
    (tRet (tAndV (tOp rGt (tOp (rIx K) (tVar 0) (tC (.int 1))) (tC (.int 1))) (tOp (rEqD K) (tCall (sp__law_value K A) [] E0 (tCons (tOp (rIx K) (tVar 0) (tC (.int 0))) (tCons (tOp (rIx K) (tVar 0) (tC (.int 1))) tNil))) (tVar 0))))))
def n__law_is_lowest : List Str := ["_law_value_here"]
def sp__law_is_lowest (K : PySem.W.Frag) (A : Ads) : Sp := fun vs H Q _ => ∃ (x : V) (p q : Int), vs = [x] ∧ NumAt H x p q ∧ q.natAbs < 2 ^ 9000 ∧ ∀ H', Same H H' → Q (.bl true) H'
theorem len__law_is_lowest {K : PySem.W.Frag} {A : Ads} {vs : List V} {H : Hp} {Q : VK} {E : XK} (h : sp__law_is_lowest K A vs H Q E) : vs.length = 1 := by
  obtain ⟨x, p, q, rfl, _⟩ := h
  rfl
theorem pure__law_is_lowest {K : PySem.W.Frag} {A : Ads} {vs : List V} {H : Hp} {Q : VK} {E : XK} (h : sp__law_is_lowest K A vs H Q E) : t__law_is_lowest K A E { nx := fun _ H' => Q .non H', rt := Q } (start n__law_is_lowest vs) H := by
  obtain ⟨x, p, q, rfl, h1, hz, k⟩ := h
  have h0 := h1
  rcases h1 with ⟨rfl, rfl⟩ | ⟨a, rfl, ha, h3, hc⟩
  · walk_at "v"
    refine ⟨_, _, rfl, ty_int, ⟨_, rfl, ?_⟩⟩
    refine iteT ?_
    exact k H (Same.refl H)
  · walk_at "v"
    refine ⟨_, _, rfl, ty_tup ha, ⟨_, rfl, ?_⟩⟩
    refine iteF ?_
    walk_at "v"
    refine ⟨_, _, _, _, _, rfl, .ty _, ty_tup ha, kit_ty (by decide +kernel : kitB "tuple" "tuple" = some true), ?_⟩
    walk_at "v"
    show (if (!true) = true then _ else _)
    refine iteF ?_
    walk_at "v"
    refine ⟨_, _, rfl, .inr ⟨_, SqT.of ha, rfl⟩, ?_⟩
    refine ⟨rfl, ?_⟩
    walk_at "v"
    show (if (!decide (V.int 2 = V.int 2)) = true then _ else _)
    refine iteF ?_
    walk_at "v"; walk_at "ixT"
    refine ⟨_, _, rfl, ty_int, ⟨_, rfl, ?_⟩⟩
    show (if (!true) = true then _ else _)
    refine iteF ?_
    walk_at "v"; walk_at "ixT"
    refine ⟨_, _, rfl, ty_int, ⟨_, rfl, ?_⟩⟩
    show (if (!true) = true then _ else _)
    refine iteF ?_
    walk_at "v"; walk_at "ixT"; walk_at "ii"; walk_at "v"
    refine iteD (fun h5 => ?_) (fun h5 => absurd (by omega) h5)
    walk_at "v"; walk_at "ixT"; walk_at "v"; walk_at "ixT"
    obtain ⟨e1, e2⟩ := low_of_cop hc (by omega)
    refine ⟨p, q, rfl, by omega, hz, fun y H1 s1 hy => ?_⟩
    walk_at "v"
    rw [e1, e2] at hy
    exact NumAt.eqD hy (h0.same s1) (k H1 s1)
end Md

set_option Elab.async false
set_option linter.all false
set_option maxRecDepth 100000
set_option maxHeartbeats 4000000
set_option exponentiation.threshold 20000
namespace Md
open PySem PySem.Spec PyProof.Rows PySem.Calls L2
local macro_rules | `(tactic| walk_at "v") => `(tactic| refine ⟨_, rfl, ?_⟩)
local macro_rules | `(tactic| walk_at "fls") => `(tactic| (refine ⟨_, rfl, ?_⟩; show (if (!true) = true then _ else _); refine iteF ?_))
local macro_rules | `(tactic| walk_at "isnt") => `(tactic| (refine ⟨_, _, rfl, rfl, _, rfl, ?_⟩; refine iteN (fun _ => ?_) fun h => absurd rfl h))
local macro_rules | `(tactic| walk_at "ii") => `(tactic| refine ⟨_, _, rfl, rfl, ?_⟩)
local macro_rules | `(tactic| walk_at "ixL") => `(tactic| refine Or.inl ⟨_, _, _, _, rfl, rfl, SqL.of (by assumption), rfl, ?_⟩)
local macro_rules | `(tactic| walk_at "ixT") => `(tactic| refine Or.inr (Or.inl ⟨_, _, _, _, rfl, rfl, SqT.of (by assumption), rfl, ?_⟩))
/-! ### is_number -/
def pairB : V → V → Bool
  | .int p, .int q => decide (2 ≤ q) && decide (Nat.gcd p.natAbs q.natAbs = 1)
  | _, _ => false
def NumB (K : PySem.W.Frag) (H : Hp) (x : V) (r : Bool) : Prop := (∃ T, TyX K H x (.type T) ∧ T ≠ "tuple" ∧ r = isIntV x) ∨ (∃ a xs, x = .ref a ∧ H a = some (.tup xs) ∧ xs.length ≠ 2 ∧ r = false) ∨
  (∃ a u v T1 T2, x = .ref a ∧ H a = some (.tup [u, v]) ∧ TyX K H u (.type T1) ∧ TyX K H v (.type T2) ∧ r = pairB u v)
theorem kit_tup {K : PySem.W.Frag} {H : Hp} {x : V} {T : String} (ty : TyX K H x (.type T)) (hn : T ≠ "tuple") : kitB T "tuple" = some false := by
  cases ty with
  | base b => cases b <;> first | (exact absurd rfl hn) | decide +kernel
  | _ => first | (exact absurd rfl hn) | decide +kernel
theorem NumB.same {K : PySem.W.Frag} {H H' : Hp} {x : V} {r : Bool} (h : NumB K H x r) (s : Same H H') (ht : ∀ y T, TyX K H y (.type T) → TyX K H' y (.type T)) : NumB K H' x r := by
  rcases h with ⟨T, h1, h2⟩ | ⟨a, xs, e, ha, h⟩ | ⟨a, u, v, T1, T2, e, ha, h1, h2, h3⟩
  · exact .inl ⟨T, ht _ _ h1, h2⟩
  · exact .inr (.inl ⟨a, xs, e, s _ _ ha, h⟩)
  · exact .inr (.inr ⟨a, u, v, T1, T2, e, s _ _ ha, ht _ _ h1, ht _ _ h2, h3⟩)
theorem tyX_same {K : PySem.W.Frag} {H H' : Hp} {x : V} {T : String} (s : Same H H') (h : TyX K H x (.type T)) : TyX K H' x (.type T) := by
  cases h with
  | base b =>
    refine .base ?_
    cases b with
    | non => exact .non
    | bl b => exact .bl b
    | int b => exact .int b
    | str b => exact .str b
    | flt b => exact .flt b
    | lst e => exact .lst (s _ _ e)
    | frz e => exact .frz (s _ _ e)
    | tup e => exact .tup (s _ _ e)
    | dK e => exact .dK (s _ _ e)
    | dT e => exact .dT (s _ _ e)
  | byt b => exact .byt b
  | set e => exact .set (s _ _ e)
  | kList e c => exact .kList e c
  | kTuple e c => exact .kTuple e c
  | kDict e c => exact .kDict e c
  | fTuple e => exact .fTuple (s _ _ e)
  | fDict e => exact .fDict (s _ _ e)
theorem NumB.mono {K : PySem.W.Frag} {H H' : Hp} {x : V} {r : Bool} (h : NumB K H x r) (s : Same H H') : NumB K H' x r := h.same s fun _ _ t => tyX_same s t
def t_is_number (K : PySem.W.Frag) (A : Ads) (E : XK) : TS :=
    (tSeq (tIfS (tB (tCall (sp_is_whole K A) [] E0 (tCons (tVar 0) tNil))) (tRet (tC (.bl true))) tNext)
    (tSeq (tIfS (tOr (tNot (tB (tCB (rIsi K) (tCons (tVar 0) (tCons (tC (.ty "tuple")) tNil))))) (tTest (tOp rNe (tCB (rLen K) (tCons (tVar 0) tNil)) (tC (.int 2))))) (tRet (tC (.bl false))) tNext)
    (tSeq (tAsg (tVar 0) (gTup K 2 (gCons (gName 1) (gCons (gName 2) gNil))))
    (tRet (tAndV (tCall (sp_is_whole K A) [] E0 (tCons (tVar 1) tNil)) (tAndV (tCall (sp_is_whole K A) [] E0 (tCons (tVar 2) tNil)) (tAndV (tOp rGe (tVar 2) (tC (.int 2))) (tOp rEq (tCB rGcd (tCons (tVar 1) (tCons (tVar 2) tNil))) (tC (.int 1))))))))))
def n_is_number : List Str := ["thing", "top", "bottom"]
def sp_is_number (K : PySem.W.Frag) (A : Ads) : Sp := fun vs H Q _ => ∃ (x : V) (r : Bool), vs = [x] ∧ NumB K H x r ∧ Q (.bl r) H
theorem len_is_number {K : PySem.W.Frag} {A : Ads} {vs : List V} {H : Hp} {Q : VK} {E : XK} (h : sp_is_number K A vs H Q E) : vs.length = 1 := by
  obtain ⟨x, T, rfl, _⟩ := h
  rfl
theorem pure_is_number {K : PySem.W.Frag} {A : Ads} {vs : List V} {H : Hp} {Q : VK} {E : XK} (h : sp_is_number K A vs H Q E) : t_is_number K A E { nx := fun _ H' => Q .non H', rt := Q } (start n_is_number vs) H := by
  obtain ⟨x, r, rfl, hn, k⟩ := h
  rcases hn with ⟨T, ty, hT, rfl⟩ | ⟨a, xs, rfl, ha, hl, rfl⟩ | ⟨a, u, v, T1, T2, rfl, ha, t1, t2, rfl⟩
  · walk_at "v"
    refine ⟨_, _, rfl, ty, ⟨_, rfl, ?_⟩⟩
    refine iteB (fun h1 => ?_) (fun h1 => ?_)
    · rw [h1] at k
      exact k
    · walk_at "v"
      refine ⟨_, _, _, _, _, rfl, .ty _, ty, kit_ty (kit_tup ty hT), ?_⟩
      walk_at "v"
      show (if (!false) = true then _ else _)
      refine iteT ?_
      refine iteT ?_
      rw [h1] at k
      exact k
  · walk_at "v"
    refine ⟨_, _, rfl, ty_tup ha, ⟨_, rfl, ?_⟩⟩
    refine iteF ?_
    walk_at "v"
    refine ⟨_, _, _, _, _, rfl, .ty _, ty_tup ha, kit_ty (by decide +kernel : kitB "tuple" "tuple" = some true), ?_⟩
    walk_at "v"
    show (if (!true) = true then _ else _)
    refine iteF ?_
    walk_at "v"
    refine ⟨_, _, rfl, .inr ⟨_, SqT.of ha, rfl⟩, ?_⟩
    refine ⟨rfl, ?_⟩
    walk_at "v"
    refine iteN (fun h1 => ?_) (fun h1 => k)
    exact absurd (by have := V.int.inj h1; omega) hl
  · walk_at "v"
    refine ⟨_, _, rfl, ty_tup ha, ⟨_, rfl, ?_⟩⟩
    refine iteF ?_
    walk_at "v"
    refine ⟨_, _, _, _, _, rfl, .ty _, ty_tup ha, kit_ty (by decide +kernel : kitB "tuple" "tuple" = some true), ?_⟩
    walk_at "v"
    show (if (!true) = true then _ else _)
    refine iteF ?_
    walk_at "v"
    refine ⟨_, _, rfl, .inr ⟨_, SqT.of ha, rfl⟩, ?_⟩
    refine ⟨rfl, ?_⟩
    walk_at "v"
    refine iteN (fun _ => ?_) (fun h1 => absurd rfl h1)
    walk_at "v"
    refine ⟨a, _, rfl, SqT.of ha, rfl, _, _, rfl, _, _, rfl, rfl, ?_⟩
    walk_at "v"
    refine ⟨_, _, rfl, t1, ⟨_, rfl, ?_⟩⟩
    cases u with
    | int p =>
      refine iteT ?_
      walk_at "v"
      refine ⟨_, _, rfl, t2, ⟨_, rfl, ?_⟩⟩
      cases v with
      | int q =>
        refine iteT ?_
        walk_at "v"; walk_at "ii"; walk_at "v"
        refine iteD (fun h2 => ?_) (fun h2 => ?_)
        · walk_at "v"; walk_at "v"; refine ⟨_, _, rfl, ?_⟩; refine ⟨rfl, ?_⟩
          have e : decide (V.int ((Nat.gcd p.natAbs q.natAbs : Nat) : Int) = V.int 1) = pairB (.int p) (.int q) := by
            show _ = (decide (2 ≤ q) && decide (Nat.gcd p.natAbs q.natAbs = 1))
            rw [decide_eq_true h2, Bool.true_and]
            congr 1
            apply propext
            constructor
            · intro h; have := V.int.inj h; omega
            · intro h; rw [h]; rfl
          show Q (.bl (decide (V.int ((Nat.gcd p.natAbs q.natAbs : Nat) : Int) = V.int 1))) H
          rw [e]
          exact k
        · have e : pairB (.int p) (.int q) = false := by
            show (decide (2 ≤ q) && decide (Nat.gcd p.natAbs q.natAbs = 1)) = false
            rw [decide_eq_false (by omega)]
            rfl
          rw [e] at k
          exact k
      | _ => exact iteF k
    | _ => exact iteF k
/-! ### _law_of -/
def t__law_of (K : PySem.W.Frag) (A : Ads) (E : XK) : TS :=
    (tRet (tOp (rIx K) (tVar 1) (tCall (sp__law_take K A) [] E0 (tCons (tVar 0) (tCons (tCB (rLen K) (tCons (tVar 1) tNil)) tNil)))))
def n__law_of : List Str := ["_law_bag_here", "_law_some"]
def sp__law_of (K : PySem.W.Frag) (A : Ads) : Sp := fun vs H Q _ => ∃ (b : Addr) (n : Nat), Bag (n + 1) H b ∧
  ((∃ (l : Addr) (xs : List V), vs = [.ref b, .ref l] ∧ H l = some (.lst xs) ∧ l ≠ b ∧ 0 < xs.length ∧ xs.length ≤ 1000000 ∧ ∀ (i : Nat) x H', xs[i]? = some x → Xb b H H' → Bag n H' b → Q x H') ∨
   (∃ z : Str, vs = [.ref b, .str z] ∧ 0 < z.length ∧ z.length ≤ 1000000 ∧ ∀ c H', c ∈ z.cps.toList → Xb b H H' → Bag n H' b → Q (.str ⟨#[c]⟩) H'))
theorem len__law_of {K : PySem.W.Frag} {A : Ads} {vs : List V} {H : Hp} {Q : VK} {E : XK} (h : sp__law_of K A vs H Q E) : vs.length = 2 := by
  obtain ⟨b, n, _, h⟩ := h
  rcases h with ⟨l, xs, rfl, _⟩ | ⟨z, rfl, _⟩ <;> rfl
theorem atI_of {α : Type} {xs : List α} {d : Int} (h0 : 0 ≤ d) (h1 : d < xs.length) : ∃ x, atI xs d = some x ∧ xs[d.toNat]? = some x := by
  have h2 : d.toNat < xs.length := by omega
  refine ⟨xs[d.toNat], ?_, List.getElem?_eq_getElem h2⟩
  unfold atI ixN
  rw [if_pos h0, if_pos h1]
  exact List.getElem?_eq_getElem h2
theorem size_1e6 {n : Nat} (h : n ≤ 1000000) : n ≤ sizeLine := Nat.le_trans h (by decide)
theorem len_bits {n : Nat} (h : n ≤ 1000000) : ((n : Int)).natAbs < 2 ^ 9000 := Nat.lt_of_le_of_lt (show ((n : Int)).natAbs ≤ 1000000 by omega) (Nat.lt_of_lt_of_le (by decide : 1000000 < 2 ^ 20) (Nat.pow_le_pow_right (by decide) (by decide)))
theorem pure__law_of {K : PySem.W.Frag} {A : Ads} {vs : List V} {H : Hp} {Q : VK} {E : XK} (h : sp__law_of K A vs H Q E) : t__law_of K A E { nx := fun _ H' => Q .non H', rt := Q } (start n__law_of vs) H := by
  obtain ⟨b, n, hB, h⟩ := h
  rcases h with ⟨l, xs, rfl, hl, hn, h0, h1, k⟩ | ⟨z, rfl, h0, h1, k⟩
  · walk_at "v"; walk_at "v"; walk_at "v"
    refine ⟨_, _, rfl, .inl ⟨_, SqL.of hl, rfl⟩, ?_⟩
    refine ⟨b, _, n, rfl, hB, by omega, len_bits h1, fun d H1 d0 d1 x1 hB1 => ?_⟩
    obtain ⟨x, e1, e2⟩ := atI_of d0 d1
    refine Or.inl ⟨l, xs, d, x, rfl, rfl, SqL.of (x1 _ _ hn hl), e1, k _ x H1 e2 x1 hB1⟩
  · walk_at "v"; walk_at "v"; walk_at "v"
    refine ⟨.str z, _, rfl, ⟨size_1e6 h1, rfl⟩, ?_⟩
    refine ⟨b, _, n, rfl, hB, by omega, len_bits h1, fun d H1 d0 d1 x1 hB1 => ?_⟩
    have ez : z.length = z.cps.toList.length := by simp [Str.length]
    obtain ⟨x, e1, e2⟩ := atI_of (xs := z.cps.toList) d0 (by rw [← ez]; exact d1)
    refine Or.inr (Or.inr ⟨z, d, x, rfl, rfl, size_1e6 h1, e1, k x H1 (List.mem_of_getElem? e2) x1 hB1⟩)
theorem Same.sqL {K : PySem.W.Frag} {H H' : Hp} {a : Addr} {xs : List V} (e : Same H H') (h : SqL K H a xs) : SqL K H' a xs := Evl.ex_l e h
theorem SqL.xbN {K : PySem.W.Frag} {H H1 H2 : Hp} {a b : Addr} {xs : List V} (h : SqL K H a xs) (hb : H b = none) (s : Same H H1) (x : Xb b H1 H2) : SqL K H2 a xs := by
  rcases h with (h | ⟨o, h⟩) | h
  · exact .inl (.inl (x _ _ (ne_of_none h hb) (s _ _ h)))
  · exact .inl (.inr ⟨o, x _ _ (ne_of_none h hb) (s _ _ h)⟩)
  · exact .inr h
/-- the script, away from the draws' list -/
def ScrAt (K : PySem.W.Frag) (H : Hp) (a b : Addr) (xs : List V) : Prop := ∃ H0 H1, SqL K H0 a xs ∧ H0 b = none ∧ Same H0 H1 ∧ Xb b H1 H
theorem ScrAt.seq {K : PySem.W.Frag} {H : Hp} {a b : Addr} {xs : List V} (h : ScrAt K H a b xs) : SqL K H a xs := by
  obtain ⟨H0, H1, h1, h2, h3, h4⟩ := h
  exact SqL.xbN h1 h2 h3 h4
theorem ScrAt.xb {K : PySem.W.Frag} {H H' : Hp} {a b : Addr} {xs : List V} (h : ScrAt K H a b xs) (x : Xb b H H') : ScrAt K H' a b xs := by
  obtain ⟨H0, H1, h1, h2, h3, h4⟩ := h
  exact ⟨H0, H1, h1, h2, h3, h4.trans x⟩
end Md

set_option Elab.async false
set_option linter.all false
set_option maxRecDepth 100000
set_option maxHeartbeats 4000000
namespace Md
open PySem PySem.Spec PyProof.Rows PySem.Calls L2
/-! own errors over any built-in one, with fields of their own: made as values, read, told apart -/
/-- own classes, then the built-in error's classes -/
def refsT (tl : List Value) : List Value → Bool
  | .ref _ :: r => refsT tl r
  | l => l == tl
theorem refsT_cases {tl : List Value} : ∀ l : List Value, refsT tl l = true → (∃ c r, l = .ref c :: r ∧ refsT tl r = true) ∨ l = tl := by
  intro l h
  unfold refsT at h
  split at h
  · exact .inl ⟨_, _, rfl, h⟩
  · exact .inr (beq_iff_eq.mp h)
/-- what the built-in error's classes tell -/
structure BaseX (B newId initId : String) (tl : List Value) : Prop where
  F : ExcBaseFacts B newId initId tl
  pass : ∀ self, refuseLoop self "__setattr__" tl = pure ()
  ob : tl.contains (.type "object") = true
theorem BaseX.passes {B newId initId : String} {tl : List Value} (b : BaseX B newId initId tl) (self : Value) : ∀ l : List Value, refsT tl l = true → refuseLoop self "__setattr__" l = pure () := by
  intro l
  induction l with
  | nil =>
    intro e
    rcases refsT_cases _ e with ⟨c, r, z, _⟩ | z
    · cases z
    · rw [z]; exact b.pass self
  | cons a r ih =>
    intro e
    rcases refsT_cases _ e with ⟨c, r', z, h⟩ | z
    · obtain ⟨rfl, rfl⟩ := List.cons.inj z
      rw [refuseLoop_ref]
      exact ih h
    · rw [z]; exact b.pass self
theorem refsT_has {tl : List Value} (X : String) : ∀ l : List Value, refsT tl l = true → l.contains (.type X) = tl.contains (.type X) := by
  intro l
  induction l with
  | nil =>
    intro e
    rcases refsT_cases _ e with ⟨c, r, z, _⟩ | z
    · cases z
    · rw [z]
  | cons a r ih =>
    intro e
    rcases refsT_cases _ e with ⟨c, r', z, h⟩ | z
    · obtain ⟨rfl, rfl⟩ := List.cons.inj z
      rw [List.contains_cons, ih h]
      rfl
    · rw [z]
theorem base_V : BaseX "ValueError" "ValueError.__new__" "ValueError.__init__" [.type "ValueError", .type "Exception", .type "BaseException", .type "object"] := ⟨F.excBase_ValueError, F.store_ValueError.passes, by decide +kernel⟩
theorem base_L : BaseX "LookupError" "LookupError.__new__" "LookupError.__init__" [.type "LookupError", .type "Exception", .type "BaseException", .type "object"] := ⟨F.excBase_LookupError, F.store_LookupError.passes, by decide +kernel⟩
theorem base_R : BaseX "RuntimeError" "RuntimeError.__new__" "RuntimeError.__init__" [.type "RuntimeError", .type "Exception", .type "BaseException", .type "object"] := ⟨F.excBase_RuntimeError, F.store_RuntimeError.passes, by decide +kernel⟩
/-- what the written part says of such a class -/
structure XoC (K : PySem.W.Frag) (C : Addr) : Prop where
  cls : ∃ B newId initId tl, BaseX B newId initId tl ∧ ∃ nm q N bs bm sn sub ab col dd k0 k1 k2 k3 k5, K.lookup C = some (excClassObj nm q C N bs bm true sn sub ab col dd k0 k1 k2 k3 k5 newId) ∧ refsT tl bm = true
  sa : PySem.W.findIn K (.ref C) "__setattr__" = some (some (.builtin "object.__setattr__"))
  exC : PySem.W.subIn K (.ref C) (.type "BaseException") = some true
  tyC : PySem.W.typeIn K (.ref C) = some (.type "type")
  kC : PySem.W.keepIn K (.ref C) = true
section
open Builtin Builtin.ObjectAttr PySem.HandSPX
variable {prog : Program} {w : World} {A : Around} {R : Result → Shared → Prop} {hp : Heap} {g : Array GenState} {d : Drawn} {t : Nat} {os : OsState}
/-- object.__setattr__ comes to the object's own dict -/
theorem to_own {K : PySem.W.Frag} {name : Str} {tk : Tok} {v : Value} {x C : Addr} {ox : Obj} {od : Option Obj} {cd : ClassData} (X : K.In hp) (I : PySem.W.InstAt hp x ox C od) (hcd : PySem.W.clsIn K C = some cd)
    (pass : ∀ self, refuseLoop self "__setattr__" cd.mro = pure ()) (ne : cd.mro.isEmpty = false) (hob : cd.mro.contains (.type "object") = true) (ha : PySem.W.findIn K (.ref C) name = some none)
    (h : wpAny (model prog w) A.in1 (storeInOwnDict (.ref x) (.ref C) (.str name tk) name v false) (fun fin s' => match fin with
      | .done f => R (.ok f) s'
      | .again c => c.quiet = true ∧ codeAny (model prog w) A c R s') (fun e s' => R (.error e) s') ⟨hp, g, d, t, os⟩) :
    codeAny (model prog w) A (.call (.builtin "object.__setattr__") ⟨[.ref x, .str name tk, v], []⟩) R ⟨hp, g, d, t, os⟩ := by
  have SF := F.store_object
  have sub : PySem.W.Looks (model prog w) hp (isInstance (.ref x) (.type "object")) true := I.type.andThen (PySem.W.looks_mroIn X (by unfold PySem.W.mroIn; rw [hcd, Option.bind_some, if_neg (by rw [ne]; decide), hob]))
  refine codeAny_call_builtin SF.slot.plain SF.entry (@PySem.W.check_slot (model prog w) _ _ ⟨hp, g, d, t, os⟩ "object.__setattr__" "object" "__setattr__" (.ref x) [.str name tk, v] [] _ SF.kind SF.split sub (SF.args (.ref x) (.str name tk) v) ?_)
  have hmr : PySem.W.Looks (model prog w) hp (mroOf (.ref C)) cd.mro := (PySem.W.looks_clsIn X hcd).andThen .now
  have none_ : PySem.W.Looks (model prog w) hp (storeTaker? none) none := .now
  rw [PySem.W.osa_eq, refuse_eq]
  refine wpAny_bind (wpAny_bind (I.type.at (wpAny_bind (hmr.at ?_))))
  rw [pass]
  exact wpAny_pure (wpAny_bind (I.type.at (wpAny_bind ((PySem.W.looks_findIn X ha).at (wpAny_bind (none_.at h))))))
theorem store_first {K : PySem.W.Frag} {name : Str} {tk : Tok} {v : Value} {x C : Addr} {fv : Array Value} {cd : ClassData} (X : K.In hp) (hx : hp.get? x = some { cls := .ref C, data := .fields fv }) (hcd : PySem.W.clsIn K C = some cd)
    (pass : ∀ self, refuseLoop self "__setattr__" cd.mro = pure ()) (ne : cd.mro.isEmpty = false) (hob : cd.mro.contains (.type "object") = true) (hh : cd.hasDict = true) (ha : PySem.W.findIn K (.ref C) name = some none)
    (q : ∀ h' tk' dx, (∀ b o, b ≠ x → hp.get? b = some o → h'.get? b = some o) → hp.objs.size ≤ dx → dx ≠ x → h'.get? x = some { cls := .ref C, dict := some dx, data := .fields fv } →
      h'.Ns1 dx (fun y => if y = name then some v else none) → R (.ok (.ret .none)) ⟨h', g, d, tk', os⟩) :
    codeAny (model prog w) A (.call (.builtin "object.__setattr__") ⟨[.ref x, .str name tk, v], []⟩) R ⟨hp, g, d, t, os⟩ := by
  have hxs : x ≠ hp.objs.size := Nat.ne_of_lt (Heap.lt_size hx)
  refine to_own X (od := none) ⟨hx, rfl, rfl, trivial⟩ hcd pass ne hob ha ?_
  have look : PySem.W.Looks (model prog w) hp (classData C) cd := PySem.W.looks_clsIn X hcd
  obtain ⟨nm, bs, mro, ns, qn, hd, sn, sb, ab, col, del⟩ := cd
  dsimp only at hh
  subst hh
  unfold storeInOwnDict ownDictForStores
  repeat (first | with_reducible refine store_in_new ?_ ?_ | with_reducible refine wpAny_loadPart_at hx ?_ | with_reducible refine look.at ?_ | wp_step)
  · exact ⟨_, #[], _, (Heap.get?_update_ne _ _ _ _ hxs.symm).trans (Heap.get?_push_at rfl rfl), rfl, fun e he => absurd he (by simp), fun _ => rfl⟩
  · intro h' tk' hn' hs
    have old : (hp.push { cls := .type "dict", data := .dict #[] }).get? x = some { cls := .ref C, data := .fields fv } := Heap.get?_push_of_some _ hx
    exact q h' tk' hp.objs.size (fun b o hb ho => (hs.2 b (Nat.ne_of_lt (Heap.lt_size ho))).trans ((Heap.get?_update_ne _ _ _ _ hb).trans (Heap.get?_push_of_some _ ho))) (Nat.le_refl _) hxs.symm ((hs.2 x hxs).trans (Heap.get?_update_self _ old rfl)) hn'
theorem store_more {K : PySem.W.Frag} {name : Str} {tk : Tok} {v : Value} {x C dx : Addr} {fv : Array Value} {cd : ClassData} {m0 : Str → Option Value} {nl : List Str} (X : K.In hp) (hx : hp.get? x = some { cls := .ref C, dict := some dx, data := .fields fv }) (hns : hp.Ns1 dx m0) (hw : Within m0 nl) (hz : nl.length ≤ 1000)
    (hcd : PySem.W.clsIn K C = some cd) (pass : ∀ self, refuseLoop self "__setattr__" cd.mro = pure ()) (ne : cd.mro.isEmpty = false) (hob : cd.mro.contains (.type "object") = true) (hh : cd.hasDict = true) (ha : PySem.W.findIn K (.ref C) name = some none)
    (q : ∀ h' tk', (∀ b o, b ≠ dx → hp.get? b = some o → h'.get? b = some o) → h'.Ns1 dx (fun y => if y = name then some v else m0 y) → R (.ok (.ret .none)) ⟨h', g, d, tk', os⟩) :
    codeAny (model prog w) A (.call (.builtin "object.__setattr__") ⟨[.ref x, .str name tk, v], []⟩) R ⟨hp, g, d, t, os⟩ := by
  obtain ⟨oD, esD, epD, hoD, hdD, _⟩ := hns.count hw
  refine to_own X (od := some oD) ⟨hx, rfl, rfl, hoD⟩ hcd pass ne hob ha ?_
  have look : PySem.W.Looks (model prog w) hp (classData C) cd := PySem.W.looks_clsIn X hcd
  obtain ⟨nm, bs, mro, ns, qn, hd, sn, sb, ab, col, del⟩ := cd
  dsimp only at hh
  subst hh
  unfold storeInOwnDict ownDictForStores
  repeat (first | with_reducible refine PySem.OEX.store_in_old hns hw hz ?_ | with_reducible refine wpAny_loadPart_at hx ?_ | with_reducible refine look.at ?_ | wp_step)
  intro h' tk' hn' hs
  exact q h' tk' (fun b o hb ho => (hs.2 b hb).trans ho) hn'
end
section
variable {X : Cx} {pins : List (Addr × Obj)} {σ : L2.St} {H : Hp} {s : Shared} {a C dx : Addr} {f : Str} {y : V} {u : Value} {fs : List (Str × V)} {Q : Unit → Shared → Prop} {E : Value → Shared → Prop} {A : Around}
theorem XoC.data {K : PySem.W.Frag} (T : XoC K C) : ∃ cd, PySem.W.clsIn K C = some cd ∧ (∀ self, refuseLoop self "__setattr__" cd.mro = pure ()) ∧ cd.mro.isEmpty = false ∧ cd.mro.contains (.type "object") = true ∧ cd.hasDict = true := by
  obtain ⟨B, nI, iI, tl, b, nm, q, N, bs, bm, sn, sub, ab, col, dd, k0, k1, k2, k3, k5, hC, hbm⟩ := T.cls
  have h1 : refsT tl (.ref C :: bm) = true := hbm
  exact ⟨{ name := nm, bases := bs, mro := .ref C :: bm, ns := N, qualname := q, hasDict := true, slotNames := sn, subclasses := sub, abstract := ab, collection := col, hasDel := false }, by unfold PySem.W.clsIn; rw [hC] <;> rfl,
    fun self => b.passes self _ h1, rfl, (refsT_has "object" _ h1).trans b.ob, rfl⟩
/-- self.f = y, the first one -/
theorem fld_first (T : XoC X.K C) (I : Inv X pins σ H s) (e : H a = some (exo a C none)) (hno : PySem.W.findIn X.K (.ref C) f = some none) (ry : RelV y u)
    (h : ∀ dx s', H dx = none → dx ≠ a → Inv X pins σ (L2.upd (L2.upd H dx (exd dx [(f, y)])) a (exo a C (some dx))) s' → Q () s') : wpAny (model X.prog X.w) A (setAttr (.ref a) f u) Q E s := by
  obtain ⟨cd, hcd, pass, ne, hob, hh⟩ := T.data
  obtain ⟨t1, ho⟩ := exo_at I.hok e
  obtain ⟨hp, g, d, t, os⟩ := s
  refine PySem.W.set_plain I.kIn (ox := { cls := .ref C, dict := none, data := .fields #[.ref t1, .none, .none, .none, .bool false, .none] }) (od := none) ⟨ho, rfl, rfl, trivial⟩ T.sa ?_
  refine store_first I.kIn ho hcd pass ne hob hh hno fun h' tk' dx k dn dne hx hn => ?_
  have hnd : H dx = none := I.hok.fresh dn
  have nd : ∀ {b : Addr} {o : Obj}, hp.get? b = some o → b ≠ dx := fun q => Nat.ne_of_lt (Nat.lt_of_lt_of_le (Heap.lt_size q) dn)
  have na : ∀ {b : Addr}, H b = none → b ≠ a := by
    rintro b n rfl
    rw [e] at n
    cases n
  refine h dx _ hnd dne (I.un (t' := tk') (Un.mk (fun b o q n _ _ => k b o (na n) q) (fun b o q n _ _ => ⟨o.slots, k b o (na n) q⟩) (fun b o q n _ => by rw [upd_ne (na n), upd_ne (nd q)]; exact n) (fun b o q _ => ?_)
    (fun b xs q => by rw [upd_ne (at_ne e q exo_tup), upd_ne (ne_of_none q hnd)]; exact q) (fun b o v q => by rw [upd_ne (at_ne e q exo_frz), upd_ne (ne_of_none q hnd)]; exact q)
    fun b ps q => ⟨#[], by rw [upd_ne (at_ne e q exo_tbl), upd_ne (ne_of_none q hnd), q]; simp⟩) fun b o q => ?_)
  · by_cases hb : b = a
    · exact ⟨_, by rw [hb]; exact hx⟩
    · exact ⟨o, k b o hb q⟩
  · by_cases hb : b = a
    · subst hb
      rw [upd_same] at q
      cases q
      exact exo_ok hx
    rw [upd_ne hb] at q
    by_cases hd : b = dx
    · subst hd
      rw [upd_same] at q
      cases q
      exact exd_ok hn (relO_put (fs := []) ry fun g => True.intro)
    rw [upd_ne hd] at q
    refine (I.hok b o q).stay (fun c v hc z => k c v ?_ z) (fun c hc => by rw [upd_ne (at_ne e hc exo_own), upd_ne (ne_of_none hc hnd)]; exact hc) fun c xs hc => by rw [upd_ne (at_ne e hc exo_tup), upd_ne (ne_of_none hc hnd)]; exact hc
    rcases hc with hc | hc
    · rw [hc]; exact hb
    · exact at_ne e hc exo_own
/-- self.f = y, a further one -/
theorem fld_more (T : XoC X.K C) (I : Inv X pins σ H s) (e : H a = some (exo a C (some dx))) (ed : H dx = some (exd dx fs)) (hl : fs.length ≤ 900) (hno : PySem.W.findIn X.K (.ref C) f = some none) (ry : RelV y u)
    (h : ∀ s', Inv X pins σ (L2.upd H dx (exd dx ((f, y) :: fs))) s' → Q () s') : wpAny (model X.prog X.w) A (setAttr (.ref a) f u) Q E s := by
  obtain ⟨cd, hcd, pass, ne, hob, hh⟩ := T.data
  obtain ⟨t1, ho⟩ := exo_at I.hok e
  obtain ⟨mA, hns, rel⟩ := exd_at I.hok ed
  have hw := within_of rel
  obtain ⟨hp, g, d, t, os⟩ := s
  obtain ⟨oD, _, _, hoD, _, _⟩ := hns.count hw
  refine PySem.W.set_plain I.kIn (ox := { cls := .ref C, dict := some dx, data := .fields #[.ref t1, .none, .none, .none, .bool false, .none] }) (od := some oD) ⟨ho, rfl, rfl, hoD⟩ T.sa ?_
  refine store_more I.kIn ho hns hw (by rw [List.length_map]; omega) hcd pass ne hob hh hno fun h' tk' k hn => ?_
  have hd : ∃ o, h'.get? dx = some o := by
    obtain ⟨o, _, _, e', _⟩ := hn
    exact ⟨o, e'⟩
  exact h _ (I.write (t' := tk') (x := dx) (e := dx) (o := exd dx ((f, y) :: fs)) (by rw [ed]; exact True.intro) (.inl rfl) k hd (exd_ok hn (relO_put ry rel)))
end
/-- self.f = e in such a class -/
def tOx (K : PySem.W.Frag) (f : Str) (to te : TE) : TS := fun D σ H => te σ H fun y H1 => to σ H1 fun x H2 => ∃ a C : Addr, x = .ref a ∧ XoC K C ∧ PySem.W.findIn K (.ref C) f = some none ∧
  ((H2 a = some (exo a C none) ∧ ∀ dx, H2 dx = none → dx ≠ a → D.nx σ (L2.upd (L2.upd H2 dx (exd dx [(f, y)])) a (exo a C (some dx)))) ∨
    ∃ (dx : Addr) (fs : List (Str × V)), H2 a = some (exo a C (some dx)) ∧ H2 dx = some (exd dx fs) ∧ fs.length ≤ 900 ∧ D.nx σ (L2.upd H2 dx (exd dx ((f, y) :: fs))))
theorem ps_ox {X : Cx} {o e : Expr} {to te : TE} {f : Str} {p' pos : Pos} (ho : PE X o to) (he : PE X e te) (hs : swapsWith e (some (.Attribute o f p')) pos.line X.env = pure false := by rfl) : PS X (.Assign [.Attribute o f p'] e pos) (tOx X.K f to te) := by
  refine ⟨fun pins s σ H D I h => plainObj_wpAny_Assign_Attribute (thn (he.run pins s σ H _ I h) ?_) hs⟩
  rintro v s1 ⟨y, H1, I1, r1, q1⟩
  refine thn (ho.run pins s1 σ H1 _ I1 q1) ?_
  rintro u s2 ⟨x, H2, I2, r2, a, C, rfl, T, hno, q⟩
  obtain rfl : u = Value.ref a := r2
  rcases q with ⟨ea, q⟩ | ⟨dx, fs, ea, ed, hl, q⟩
  · exact fld_first T I2 ea hno r1 fun dx s' n ne J => ⟨σ, _, J, q dx n ne⟩
  · exact fld_more T I2 ea ed hl hno r1 fun s' J => ⟨σ, _, J, q⟩
end Md

set_option Elab.async false
set_option linter.all false
set_option maxRecDepth 100000
set_option maxHeartbeats 4000000
namespace Md
open PySem PySem.Spec PyProof.Rows PySem.Calls L2
/-! own errors as values -/
/-- such a class with an __init__ of its own -/
structure Ky (P : Program) (w : World) (K : PySem.W.Frag) (mg : Str → Option Value) (base : Heap) (k : Nat) (x : Str) (C : Addr) (sp : Sp) : Prop where
  T : XoC K C
  ex : ∃ (fI : Addr) (fd : FuncData) (ps : List Str), PySem.W.findIn K (.ref C) "__init__" = some (some (.ref fI)) ∧ PySem.W.typeIn K (.ref fI) = some (.type "function") ∧ FnOk P w K mg base (L2N.CX P w) k fI fd ps sp ∧ Binds K fd ps [] ∧ mg x = some (.ref C)
/-- C(e, ..) as a value -/
def tMkV (C : Addr) (sp : Sp) (t : TA) : TE := fun σ H Q => t σ H fun vs H1 => vs.length ≤ 1000 ∧ ∀ a, H1 a = none → sp (.ref a :: vs) (L2.upd H1 a (exo a C none)) (fun v H2 => v = .non ∧ Q (.ref a) H2) E0
theorem pe_mkV {X : Cx} {e : Expr} {es : List Expr} {t : TA} {p pos : Pos} {x : Str} {C : Addr} {k j : Nat} {sp : Sp} (c : Ky X.prog X.w X.K X.mg X.base k x C sp) (hr : Room j X.A) (hk : k + 1 ≤ j) (hg : Gl X x) (ha : PA X (e :: es) t)
    (hdb : (x == ("__debug__" : Str)) = false := by decide) (he : starEach (e :: es) X.env = (false, eval e X.env) :: starEach es X.env := by rfl) (hpl : (backTo pos (starEach es X.env)).any (·.1) = false := by rfl) :
    PE X (.Call (.Name x p) (e :: es) [] pos) (tMkV C sp t) := by
  obtain ⟨fI, fd, ps, iC, tI, F1, hb, hm⟩ := c.ex
  obtain ⟨B, nI, iI, tl, bx, nm, q, N, bs, bm, sn, sub, ab, col, dd, k0, k1, k2, k3, k5, hC, hbm⟩ := c.T.cls
  have hrk := hr.mono hk
  refine ⟨fun pins s σ H Q I h => wpAny_Call_Name_kw (ld_glob I hg hm ?_ hdb)⟩
  refine PySem.W.callWith_K (h₀ := X.base) I.ok.mod.kin c.T.kC (thn (ha.run pos pins s σ H _ I h) ?_) he hpl
  rintro us s1 ⟨vs, H1, I1, r1, hz, q1⟩
  refine ⟨I1.kIn, ?_⟩
  show wpAny _ _ (call (.ref C) us) _ _ _
  obtain ⟨hp, g, dr, tk, os⟩ := s1
  have hsz : hp.objs.size ≤ hp.objs.size + 1 := Nat.le_succ _
  have hn : H1 (hp.objs.size + 1) = none := I1.hok.fresh hsz
  have hq := q1 (hp.objs.size + 1) hn
  have kk : ∀ b o, hp.get? b = some o → ((hp.push (PySem.W.kdv_tup us)).push (PySem.HandSPX.excO C hp.objs.size)).get? b = some o := fun b o e => Heap.get?_push_of_some _ (Heap.get?_push_of_some _ e)
  have hget : ((hp.push (PySem.W.kdv_tup us)).push (PySem.HandSPX.excO C hp.objs.size)).get? (hp.objs.size + 1) = some (PySem.HandSPX.excO C hp.objs.size) := by heap_get
  have I2 : Inv X pins σ (L2.upd H1 (hp.objs.size + 1) (exo (hp.objs.size + 1) C none)) ⟨(hp.push (PySem.W.kdv_tup us)).push (PySem.HandSPX.excO C hp.objs.size), g, dr, tk, os⟩ :=
    I1.laid (t' := tk) (a := hp.objs.size + 1) (o := exo (hp.objs.size + 1) C none) (h' := (hp.push (PySem.W.kdv_tup us)).push (PySem.HandSPX.excO C hp.objs.size)) kk hsz (exo_ok hget)
  have r2 : Vals (V.ref (hp.objs.size + 1) :: vs) (Value.ref (hp.objs.size + 1) :: us) := .cons rfl r1
  have hl : (Value.ref (hp.objs.size + 1) :: us ++ []).length = ps.length := by
    rw [List.append_nil, ← r2.length]
    exact F1.len _ _ _ _ hq
  have hus : us.length ≤ sizeLine := by
    rw [← Paired.length r1, sizeLine_eq]
    omega
  refine wpAny_call (PySem.HandSPX.call_own bx.F (fun Y => refsT_has Y bm hbm) (I1.kIn _ _ hC) (PySem.W.looks_findIn I1.kIn iC) (fun self => PySem.W.bind_fn I1.kIn self tI) hus
    (codeAny_mono (F1.run _ X.stack _ _ ⟨Value.ref (hp.objs.size + 1) :: us, []⟩ (Value.ref (hp.objs.size + 1) :: us) _ _ E0 (hrk.make C us []) (I2.env0.make C us []) (by
      have z := hb _ (Value.ref (hp.objs.size + 1) :: us) I2.kIn hl
      rw [List.append_nil] at z
      exact z) r2 hq) fun r s' hq' => ?_))
  cases r with
  | error er => exact passN pins σ _ _ er s' I2 hq'
  | ok fl =>
    cases fl with
    | ret u =>
      obtain ⟨v, H', I3, rv, rfl, q3⟩ := I2.after hq'
      exact ⟨rv, ⟨.ref (hp.objs.size + 1), H', I3, rfl, q3⟩⟩
    | next => exact False.elim hq'
    | brk => exact False.elim hq'
    | cont => exact False.elim hq'
/-- C(), no __init__ of its own -/
theorem pe_mkV0 {X : Cx} {C : Addr} {bmB : List Value} {B newId initId : String} {x : Str} {p pos : Pos} (F : ExcBaseFacts B newId initId bmB) (q : PySem.W.excIn X.K C bmB newId = true) (gC : X.mg x = some (.ref C)) (kC : PySem.W.keepIn X.K (.ref C) = true) (hg : Gl X x)
    (hdb : (x == ("__debug__" : Str)) = false := by decide) :
    PE X (.Call (.Name x p) [] [] pos) (fun σ H Q => ∀ a, H a = none → Q (.ref a) (L2.upd H a (exo a C none))) := by
  refine ⟨fun pins s σ H Q I h => wpAny_Call_Name_kw (ld_glob I hg gC ?_ hdb)⟩
  refine PySem.W.callWith_K0 I.kIn kC ?_
  show wpAny _ _ (call (.ref C) []) _ _ _
  obtain ⟨bm, N, nm, qn, bs, hdct, sn, sub, ab, col, dd, k0, k1, k2, k3, k5, mN, hC, hN, hni, T⟩ := exc_obj I.kIn q
  refine wpAny_call_exc_subT F T hC hN hni (fun h' a hm => ?_) (by show 0 ≤ sizeLine; omega)
  have hn : H a = none := I.hok.gone hm.new
  obtain ⟨t, ht, _, _⟩ := hm.there
  exact ⟨.ref a, _, I.laidN hm.keeps hm.new hn (exo_ok ht), rfl, h a hn⟩
/-- e.f of such a value -/
def tXo (K : PySem.W.Frag) (f : Str) (te : TE) : TE := fun σ H Q => te σ H fun x H1 => ∃ (a C d : Addr) (fs : List (Str × V)) (v : V), x = .ref a ∧ H1 a = some (exo a C (some d)) ∧ H1 d = some (exd d fs) ∧ XfC K C ∧ PySem.W.findIn K (.ref C) f = some none ∧ fs.lookup f = some v ∧ Q v H1
theorem pe_xo {X : Cx} {e : Expr} {te : TE} {pos : Pos} {f : Str} (he : PE X e te) (hb : attributeBase e f X.env (eval e X.env) = eval e X.env := by rfl) : PE X (.Attribute e f pos) (tXo X.K f te) := by
  refine ⟨fun pins s σ H Q I h => attr_of hb (thn (he.run pins s σ H _ I h) ?_)⟩
  rintro u s1 ⟨x, H1, I1, rx, a, C, d, fs, v, rfl, ha, hd, T, hno, l, q⟩
  obtain rfl : u = Value.ref a := rx
  obtain ⟨t1, ho⟩ := exo_at I1.hok ha
  obtain ⟨mA, hns, hr⟩ := exd_at I1.hok hd
  obtain ⟨od, hod, hl⟩ := lookIn_ns hns
  obtain ⟨u, hu, ru⟩ := RelO.some_of (v := v) (o := mA f) (by rw [← l]; exact hr f)
  have J : PySem.W.InstAt s1.heap a _ C (some od) := ⟨ho, rfl, by unfold PySem.W.notCls; rfl, hod⟩
  exact HandSPX.exc_get I1.kIn J T.ga T.gg T.exC (PySem.W.findObj_own T.hdC hno rfl (by rw [hl, hu])) (handed_of ru) ⟨v, H1, I1.tok _, ru, q⟩
/-- isinstance(e, c) of such a value -/
def rIsO (K : PySem.W.Frag) : List V → Hp → VK → Prop := fun xs H Q => ∃ (a D : Addr) (c : V) (cv : Value) (b : Bool), xs = [.ref a, c] ∧ (H a = some (exo a D none) ∨ ∃ d fs, H a = some (exo a D (some d)) ∧ H d = some (exd d fs)) ∧ ExcC K D ∧ ClsV c cv ∧ PySem.W.kitOne K (.ref D) cv = some b ∧ Q (.bl b) H
theorem call_isO {X : Cx} : CallR X (.builtin "isinstance") (rIsO X.K) := by
  rintro pins s σ H xs us Q I r ⟨a, D, c, cv, b, rfl, hh, C, hcv, e, q⟩
  cases r with
  | cons rx rr =>
    cases rr with
    | cons rt rr =>
      cases rr
      cases rx
      have ec := hcv.eq rt
      subst ec
      have fin : ∀ tk, EP X pins σ Q (.bool b) { s with toks := tk } := fun tk => ⟨.bl b, H, I.kept (t' := tk) fun _ _ z => z, rfl, q⟩
      rcases hh with ha | ⟨d, fs, ha, hd⟩
      · obtain ⟨t1, ho⟩ := exo_at I.hok ha
        have J : PySem.W.InstAt s.heap a _ D none := ⟨ho, rfl, rfl, trivial⟩
        exact PySem.W.kia_one (kitx_excD C.hg C.hk C.hs C.hd C.ha C.hn C.ht C.hm) I.kIn J e (fun z => nomatch z) fin
      · obtain ⟨t1, ho⟩ := exo_at I.hok ha
        obtain ⟨mA, hns, _⟩ := exd_at I.hok hd
        obtain ⟨od, hod, _⟩ := lookIn_ns hns
        have J : PySem.W.InstAt s.heap a _ D (some od) := ⟨ho, rfl, rfl, hod⟩
        exact PySem.W.kia_one (kitx_excD C.hg C.hk C.hs C.hd C.ha C.hn C.ht C.hm) I.kIn J e (fun z => nomatch z) fin
end Md

set_option Elab.async false
set_option linter.all false
set_option maxRecDepth 100000
set_option maxHeartbeats 4000000
/-! plain classes: methods called, instances made in a try, len by an own __len__, constants read off a class -/
namespace Md
open PySem PySem.Spec PyProof.Rows PySem.Calls L2
section
variable {X : Cx} {k j : Nat} {C : Addr} {sp : Sp} {E : XK} {W : WX} {x m : Str} {p pos apos : Pos} {e o : Expr} {es : List Expr} {ta : TE} {t : TA}
theorem pe_gc {v : V} (hg : Gl X x) (h : ∃ u, X.mg x = some u ∧ RelV v u) (hd : (x == ("__debug__" : Str)) = false := by decide) : PE X (.Name x pos) (tC v) := C8.pe_gc hg h hd
theorem pe_cl0 {dvs : List V} (c : Cl X.prog X.w X.K X.mg X.base k x sp dvs) (hr : Room j X.A) (hk : k ≤ j) (hg : Gl X x) (hx : Passes (L2N.CX X.prog X.w) X E) (hdb : (x == ("__debug__" : Str)) = false := by decide) :
    PE X (.Call (.Name x p) [] [] pos) (tCall sp dvs E tNil) := by
  obtain ⟨f, fd, ps, ds, F, hm, kp, b, d⟩ := c.ex
  exact pe_call0 F (hr.mono hk) hg hm kp b d hx hdb
theorem pe_mt2 {pl : Sem Bool} (c : Mt X.prog X.w X.K X.mg X.base k C m sp) (hr : Room j X.A) (hk : k ≤ j) (hx : Passes (L2N.CX X.prog X.w) X E) (he : PE X o ta) (ha : PA X (e :: es) t)
    (hst : starEach (e :: es) X.env = (false, eval e X.env) :: starEach es X.env := by rfl) (hpl : (backTo pos (starEach es X.env)).any (·.1) = false := by rfl)
    (ht : eval (.Call (.Attribute o m apos) (e :: es) [] pos) X.env = (do
      let ov ← eval o X.env
      standAt apos.atName
      let (f, first) ← holding [ov] (getMethod ov m pl)
      callWith pos f first (backTo pos (starEach (e :: es) X.env)) (backToKw pos (keywordEach [] X.env))) := by rfl) :
    PE X (.Call (.Attribute o m apos) (e :: es) [] pos) (tMeth C m sp [] E ta t) := by
  obtain ⟨f, fd, ps, c1, hm, F, b⟩ := c.ex
  exact pe_meth he c1 hm F (hr.mono hk) b .nil hx ha hst hpl ht
theorem pe_mt20 {pl : Sem Bool} (c : Mt X.prog X.w X.K X.mg X.base k C m sp) (hr : Room j X.A) (hk : k ≤ j) (hx : Passes (L2N.CX X.prog X.w) X E) (he : PE X o ta)
    (ht : eval (.Call (.Attribute o m apos) [] [] pos) X.env = (do
      let ov ← eval o X.env
      standAt apos.atName
      let (f, first) ← holding [ov] (getMethod ov m pl)
      callWith pos f first (backTo pos (starEach [] X.env)) (backToKw pos (keywordEach [] X.env))) := by rfl) :
    PE X (.Call (.Attribute o m apos) [] [] pos) (tMeth C m sp [] E ta tNil) := by
  obtain ⟨f, fd, ps, c1, hm, F, b⟩ := c.ex
  exact pe_meth0 he c1 hm F (hr.mono hk) b .nil hx ht
/-- C(..) in a try: what __init__ raises, the try takes -/
def tMakeS (C : Addr) (sp : Sp) (E : L2.St → XK) (t : TA) : TE := fun σ H Q => t σ H fun vs H1 => ∀ x dx, H1 x = none → H1 dx = none → dx ≠ x →
  sp (.ref x :: (vs ++ [])) (upd (upd H1 dx (.own x)) x (.ins C dx [])) (fun v H2 => v = .non ∧ Q (.ref x) H2) (E σ)
theorem run_makeS {pins : List (Addr × Obj)} {σ : L2.St} {H : Hp} {s : Shared} {Q : VK} {us : List Value} {vs : List V} {f : Addr} {fd : FuncData} {ps : List Str} (M : Mk X.K C f) (F : FnOk X.prog X.w X.K X.mg X.base (L2N.CX X.prog X.w) k f fd ps sp) (hr : Room (k + 1) X.A)
    (hb : Binds X.K fd ps []) (hx : PassesAt (L2N.CX X.prog X.w) X σ E) (I : Inv X pins σ H s) (r : Vals vs us)
    (h : ∀ x dx, H x = none → H dx = none → dx ≠ x → sp (.ref x :: (vs ++ [])) (upd (upd H dx (.own x)) x (.ins C dx [])) (fun v H2 => v = .non ∧ Q (.ref x) H2) E) :
    wpAny (model X.prog X.w) X.A (call (.ref C) us) (EP X pins σ Q) X.xe s := by
  have hq := h (s.heap.objs.size + 1) s.heap.objs.size (I.hok.fresh (Nat.le_succ _)) (I.hok.fresh (Nat.le_refl _)) (Nat.ne_of_lt (Nat.lt_succ_self _))
  have I2 := Inv.made (C := C) I
  have r2 : Vals (V.ref (s.heap.objs.size + 1) :: (vs ++ [])) (Value.ref (s.heap.objs.size + 1) :: (us ++ [])) := .cons rfl (r.append .nil)
  have hl : (Value.ref (s.heap.objs.size + 1) :: us ++ []).length = ps.length := by
    have e := r2.length
    rw [F.len _ _ _ _ hq] at e
    exact e.symm
  refine wpAny_call (make_map (f := f) I.kIn M.makes M.init (beq_iff_eq.mp M.fn) (codeAny_mono (F.run _ X.stack _ _ ⟨Value.ref (s.heap.objs.size + 1) :: us, []⟩ (Value.ref (s.heap.objs.size + 1) :: (us ++ [])) _ _ E (hr.make C us [])
    (I2.env0.make C us []) (by
      have z := hb _ (Value.ref (s.heap.objs.size + 1) :: us) I2.kIn hl
      rw [List.cons_append] at z
      exact z) r2 hq) fun r s' hq' => ?_))
  cases r with
  | error e => exact hx pins _ _ e s' I2 hq'
  | ok fl =>
    cases fl with
    | ret u =>
      obtain ⟨v, H', I3, rv, ev, q3⟩ := I2.after hq'
      subst ev
      exact ⟨rv, ⟨V.ref (s.heap.objs.size + 1), H', I3, rfl, q3⟩⟩
    | next => exact False.elim hq'
    | brk => exact False.elim hq'
    | cont => exact False.elim hq'
theorem pe_mkS (c : Km X.prog X.w X.K X.mg X.base k x C sp) (hr : Room j X.A) (hk : k + 1 ≤ j) (hg : Gl X x) (hx : ∀ σ, PassesAt (L2N.CX X.prog X.w) X σ (WE W σ)) (ha : PA X (e :: es) t)
    (hdb : (x == ("__debug__" : Str)) = false := by decide) (he : starEach (e :: es) X.env = (false, eval e X.env) :: starEach es X.env := by rfl) (hpl : (backTo pos (starEach es X.env)).any (·.1) = false := by rfl) :
    PE X (.Call (.Name x p) (e :: es) [] pos) (tMakeS C sp (WE W) t) := by
  obtain ⟨fI, fd, ps, M, F, b, hm⟩ := c.ex
  refine ⟨fun pins s σ H Q I h => ?_⟩
  refine wpAny_Call_Name_kw (ld_glob I hg hm ?_ hdb)
  refine PySem.W.callWith_K (h₀ := X.base) I.ok.mod.kin M.kp (thn (ha.run pos pins s σ H _ I h) fun us s1 ⟨vs, H1, I1, r, q⟩ => ⟨I1.kIn, ?_⟩) he hpl
  exact run_makeS M F (hr.mono hk) b (hx σ) I1 r q
/-- len(o) by the class's own __len__ -/
def rLenO (C : Addr) (sp : Sp) (E : XK) : List V → Hp → VK → Prop := fun xs H Q => ∃ a dx fs, xs = [.ref a] ∧ H a = some (.ins C dx fs) ∧ sp [.ref a] H (fun v H1 => ∃ n : Int, v = .int n ∧ 0 ≤ n ∧ n < 2 ^ 63 ∧ Q (.int n) H1) E
theorem call_lenO (c : Mt X.prog X.w X.K X.mg X.base k C "__len__" sp) (hr : Room j X.A) (hk : k + 1 ≤ j) (hx : Passes (L2N.CX X.prog X.w) X E) : CallR X (.builtin "len") (rLenO C sp E) := by
  intro pins s σ H xs us Q I r h
  obtain ⟨a, dx, fs, rfl, ha, q⟩ := h
  obtain ⟨u, rfl, rx⟩ := vals1 r
  obtain rfl : u = .ref a := rx
  obtain ⟨f, fd, ps, c1, hm, F, b⟩ := c.ex
  obtain ⟨mA, O, _, _, _, _⟩ := ins_get I.hok ha
  obtain ⟨od, J, _⟩ := O.look
  obtain ⟨m, Fr⟩ := I.fr
  refine PySem.W.len_K Fr I.ok.mod.kin J hm.at_ hm.fn ?_
  have hl : ([Value.ref a] ++ []).length = ps.length := by
    have e := F.len _ _ _ _ q
    rw [← e]
    rfl
  refine wpAny_call (codeAny_mono (F.run X.A.in1 X.stack s H ⟨[.ref a], []⟩ [.ref a] [.ref a] _ E (hr.mono hk).in1 I.env0.in1 (b s [.ref a] I.kIn hl) (.cons rfl .nil) q) fun r s' hq => ?_)
  cases r with
  | error e => exact hx pins σ H s e s' I hq
  | ok fl =>
    cases fl with
    | ret u =>
      obtain ⟨v, H', I3, rv, n, rfl, h0, h1, q3⟩ := I.after hq
      obtain ⟨t, rfl⟩ := (show ∃ t, u = Value.int n t from rv)
      exact ⟨⟨h0, h1⟩, ⟨.int n, H', I3.tok _, ⟨_, rfl⟩, q3⟩⟩
    | next => exact False.elim hq
    | brk => exact False.elim hq
    | cont => exact False.elim hq
/-- C.f, a constant of the class -/
structure CCon (K : PySem.W.Frag) (C : Addr) (f : Str) (v : V) : Prop where
  ex : ∃ mc u, ClX.CRead K C mc ∧ ClX.CVal K C mc f v u
theorem pe_ccon {f : Str} {v : V} (h : CCon X.K C f v) (he : PE X e (tC (.ref C))) (hb : attributeBase e f X.env (eval e X.env) = eval e X.env := by rfl) : PE X (.Attribute e f pos) (tC v) := by
  obtain ⟨mc, u, h1, h2⟩ := h.ex
  exact ⟨fun pins s σ H Q I q => (ClX.pe_cval he hb).run pins s σ H Q I ⟨C, mc, v, u, rfl, h1, h2, q⟩⟩
end
def cconB (K : PySem.W.Frag) (C : Addr) (f : Str) (v : V) : Bool := match K.lookup C with
  | some o => PySem.W.readsIn K C o.cls && (He.eqO (PySem.W.specialIn K (.ref C) "__getattribute__") (some (some (.builtin "type.__getattribute__"))) && match PySem.W.findCls K (.ref C) o.cls f with
    | some (.val u) => He.relB v u
    | _ => false)
  | none => false
theorem cconB_ok {K : PySem.W.Frag} {C : Addr} {f : Str} {v : V} (h : cconB K C f v = true) : CCon K C f v := by
  unfold cconB at h
  split at h
  · rename_i o _
    obtain ⟨h1, h⟩ := Bool.and_eq_true_iff.mp h
    obtain ⟨h2, h⟩ := Bool.and_eq_true_iff.mp h
    split at h
    · rename_i u hu
      exact ⟨_, u, ⟨h1, He.eqO_ok h2⟩, ⟨hu, He.relB_ok h⟩⟩
    · cases h
  · cases h
end Md

set_option Elab.async false
set_option linter.all false
set_option maxRecDepth 100000
set_option maxHeartbeats 4000000
/-! texts: z[::-1]; readings by name -/
namespace Md
open PySem PySem.Spec PyProof.Rows PySem.Calls L2
def revS (z : Str) : Str := ⟨z.cps.toList.reverse.toArray⟩
theorem revS_picked (z : Str) : (Builtin.Str.strSliceIndices none none (-1) z.length).filterMap (z.cps[·]?) = z.cps.toList.reverse := by
  rw [PyProof.Rows.picked_rev, PyProof.Rows.filterMap_get, List.map_map]
  · refine List.ext_getElem (by simp [Str.length]) fun i h1 h2 => ?_
    simp only [List.getElem_map, List.getElem_range, Function.comp, List.getElem_reverse, Array.getElem_toList, Array.length_toList]
    have h3 : i < z.cps.size := by simpa using h2
    have e : z.length - 1 - i = z.cps.size - 1 - i := rfl
    rw [e, Array.getD, dif_pos (by omega)]
    rfl
  · intro i hi
    obtain ⟨k, hk, rfl⟩ := List.mem_map.mp hi
    have hk' : k < z.length := List.mem_range.mp hk
    show z.length - 1 - k < z.length
    omega
def tRevS (te : TE) : TE := fun σ H Q => te σ H fun x H1 => ∃ z, x = .str z ∧ z.length ≤ sizeLine ∧ Q (.str (revS z)) H1
section
variable {X : Cx}
theorem pe_revS {e : Expr} {te : TE} {k : Nat} {p1 p2 p3 pos : Pos} (he : PE X e te) : PE X (.Subscript e (.Slice none none (some (.UnaryOp .USub (.Constant (.int 1) k p1) p2)) p3) pos) (tRevS te) := by
  refine ⟨fun pins s σ H Q I h => ?_⟩
  refine Subscript_ (thn (he.run pins s σ H _ I h) fun v s1 ⟨x, H1, I1, r1, q1⟩ => ?_)
  obtain ⟨z, ex, hz, q⟩ := q1
  subst ex
  obtain ⟨t, rfl⟩ := r1
  have hst : PO X (some (.UnaryOp .USub (.Constant (.int 1) k p1) p2)) (tPart (tUn (rU fun i => .int (-i)) (tC (.int 1)))) := po_some (pe_un un_neg pe_int)
  refine wpAny_Slice (thn (po_none.run pins s1 σ H1 (fun o H2 => o = none ∧ H2 = H1) I1 ⟨rfl, rfl⟩) fun vl s2 ⟨l, H2, I2, pl, el, e2⟩ => ?_)
  subst el e2
  refine thn (po_none.run pins s2 σ H2 (fun o H3 => o = none ∧ H3 = H2) I2 ⟨rfl, rfl⟩) fun vu s3 ⟨u, H3, I3, pu, eu, e3⟩ => ?_
  subst eu e3
  refine thn (hst.run pins s3 σ H3 (fun o H4 => o = some (-1) ∧ H4 = H3) I3 ⟨1, rfl, -1, rfl, rfl, rfl⟩) fun vs s4 ⟨o, H4, I4, ps, eo, e4⟩ => ?_
  subst eo e4
  have I5 : Inv X pins σ H4 { s4 with heap := s4.heap.push { cls := .type "slice", data := .fields #[vl, vu, vs] } } := I4.kept (t' := s4.toks) fun b ob q => Heap.get?_push_of_some _ q
  obtain ⟨l, rfl, el⟩ := IsPart.raw pl
  obtain ⟨u, rfl, eu⟩ := IsPart.raw pu
  obtain ⟨w, rfl, ew⟩ := IsPart.raw ps
  obtain rfl : l = none := by cases l <;> first | rfl | cases el
  obtain rfl : u = none := by cases u <;> first | rfl | cases eu
  obtain ⟨wt, rfl⟩ : ∃ wt, w = some (-1, wt) := by
    cases w with
    | none => cases ew
    | some p =>
      obtain ⟨i, wt⟩ := p
      cases ew
      exact ⟨wt, rfl⟩
  refine tail_any (ops := [.str z t, .ref s4.heap.objs.size]) (typeIs_str _ _ _) (PySem.F.slot_str_getitem.lookup) ?_ (by with_unfolding_all rfl)
  refine wpAny_getItem_str_slice (l := none) (u := none) (st := some (-1, wt)) (Heap.IsSliceOf.new _ _ _ _) rfl ?_
  show Made.post (if ((-1 : Int) == 1 && (Builtin.Str.strSliceIndices none none (-1) z.length).length == z.length) = true then Made.val (.str z t)
    else Made.str ⟨((Builtin.Str.strSliceIndices none none (-1) z.length).filterMap (z.cps[·]?)).toArray⟩) (EP X pins σ Q) _
  rw [if_neg (by simp), revS_picked]
  refine ⟨?_, .str _, H4, I5.tok _, ⟨_, rfl⟩, q⟩
  show z.cps.toList.reverse.toArray.size ≤ sizeLine
  rw [List.size_toArray, List.length_reverse, Array.length_toList]
  exact hz
def rTIdx (K : PySem.W.Frag) : V → List V → Hp → VK → Prop := fun x xs H Q => ∃ p, ∃ ys : List Str, ∃ z j, x = .ref p ∧ xs = [.str z] ∧ SqT K H p (ys.map V.str) ∧ ys[j]? = some z ∧ (∀ m, m < j → ys[m]? ≠ some z) ∧ Q (.int (j : Nat)) H
theorem mt_tidx : MtR X "tuple.index" (rTIdx X.K) := mt_tup_index
/-- a tuple made by tuple(x) or displayed: of no dict -/
def TupF (H : Hp) (a : Addr) (ys : List V) : Prop := ∃ o, H a = some (.frz o (.tup ys)) ∧ o.cls = .type "tuple" ∧ o.dict = none
theorem TupF.seq {K : PySem.W.Frag} {H : Hp} {a : Addr} {ys : List V} (h : TupF H a ys) : SqT K H a ys := by
  obtain ⟨o, h, _⟩ := h
  exact .inl (.inr ⟨o, h⟩)
def rTupF (K : PySem.W.Frag) : List V → Hp → VK → Prop := fun xs H Q => ∃ p ys, xs = [.ref p] ∧ SqL K H p ys ∧ ∀ l (o : Obj), H l = none → o.cls = .type "tuple" → o.dict = none → Q (.ref l) (upd H l (.frz o (.tup ys)))
theorem call_tupF : CallR X (.type "tuple") (rTupF X.K) := by
  intro pins s σ H xs us Q I r h
  obtain ⟨p, ys, rfl, hq, q⟩ := h
  obtain ⟨u, rfl, rx⟩ := vals1 r
  cases rx
  obtain ⟨its, r', pl, hz⟩ := I.list hq
  have hlen := r'.length
  refine call_tuple_list pl.isList (fun h' kp => ?_) (by simp only [List.size_toArray] <;> omega)
  have I1 : Inv X pins σ H { s with heap := h' } := I.kept (t' := s.toks) kp
  have I2 : Inv X pins σ (upd H h'.objs.size (.frz { cls := .type "tuple", data := .seq its.toArray } (.tup ys))) { s with heap := h'.push { cls := .type "tuple", data := .seq its.toArray } } :=
    I1.laid (t' := s.toks) (fun b o e => Heap.get?_push_of_some _ e) (Nat.le_refl _) (show ObjOk X.prog X.w _ _ _ (.frz _ (.tup ys)) from ⟨Heap.get?_push_size _ rfl, hz, its, r', IsTup.new _ _⟩)
  exact ⟨.ref h'.objs.size, _, I2, rfl, q _ _ (I1.hok.fresh (Nat.le_refl _)) rfl rfl⟩
def tBMF (r : V → List V → Hp → VK → Prop) (to : TE) (t : TA) : TE := fun σ H Q => to σ H fun x H1 => (∃ p ys, x = .ref p ∧ TupF H1 p ys) ∧ t σ H1 fun xs H2 => r x xs H2 Q
theorem pe_bmF {o e : Expr} {es : List Expr} {to : TE} {t : TA} {name : Str} {apos cpos : Pos} {id : String} {r : V → List V → Hp → VK → Prop} (pa : PlainAttrs "tuple") (slot : Slot "tuple" name id) (hty : typeOf (.builtin id) = pure (.type "method_descriptor")) (hm : MtR X id r) (ho : PE X o to) (ha : PA X (e :: es) t)
    (hbase : attributeBase o name X.env (eval o X.env) = eval o X.env := by rfl)
    (hfew : ((backTo cpos (starEach (e :: es) X.env)).all (fun x => !x.1) && (backToKw cpos (keywordEach [] X.env)).all (fun x => x.1.isSome)
      && decide ((e :: es).length + ([] : List Keyword).length + (if ([] : List Keyword).isEmpty then 0 else 1) < 30)) = true := by rfl)
    (hline : (apos.endLine == cpos.line) = true := by rfl) (hs : starEach (e :: es) X.env = (false, eval e X.env) :: starEach es X.env := by rfl) (hplain : (backTo cpos (starEach es X.env)).any (·.1) = false := by rfl) :
    PE X (.Call (.Attribute o name apos) (e :: es) [] cpos) (tBMF r to t) := by
  refine ⟨fun pins s σ H Q I h => ?_⟩
  refine wpAny_Call_method_late hbase hfew hline rfl (thn (ho.run pins s σ H _ I h) fun v s1 ⟨x, H1, I1, r1, ty, q1⟩ => ?_)
  have h12 : s1.TypeIs v "tuple" ∧ ∀ a, v = .ref a → ∃ ob, s1.heap.get? a = some ob ∧ ob.dict = none := by
    obtain ⟨p, ys, rfl, ob, hp, hc, hd⟩ := ty
    cases r1
    have g := (show ObjOk X.prog X.w H1 s1.heap p (.frz ob (.tup ys)) from I1.hok p _ hp).1
    refine ⟨⟨ob, g, hc⟩, fun a e2 => ?_⟩
    cases e2
    exact ⟨ob, g, hd⟩
  refine ⟨"tuple", id, pa, slot, hty, h12.1, h12.2, ?_⟩
  have hA := ha.run cpos pins s1 σ H1 _ I1 q1
  rw [hs] at hA ⊢
  refine Calls.callWith_builtin (by show (false || (backTo cpos (starEach es X.env)).any (·.1)) = false; rw [hplain] <;> rfl) (Calls.evalArgs_plain ?_)
  exact thn hA fun us s2 ⟨vs, H2, I2, r2, q2⟩ => hm pins s2 σ H2 x vs v us Q I2 r1 r2 q2
def rLenD : List V → Hp → VK → Prop := fun xs H Q => ∃ a kvs, xs = [V.ref a] ∧ H a = some (.dK kvs) ∧ Q (.int kvs.length) H
def rJoin (K : PySem.W.Frag) : V → List V → Hp → VK → Prop := fun x xs H Q => ∃ a p, ∃ ys : List Str, x = .str a ∧ xs = [.ref p] ∧ (SqL K H p (ys.map V.str) ∨ SqT K H p (ys.map V.str)) ∧ (ys.map (·.length)).sum + ys.length * a.length ≤ 16777216 ∧ Q (.str (Txt.join a ys)) H
def rSplitS : V → List V → Hp → VK → Prop := fun x xs H Q => ∃ a b, x = .str a ∧ xs = [.str b] ∧ (b.length == 0) = false ∧ a.length + 2 ≤ sizeLine ∧ rNewStrs (Txt.split a b) H Q
def rUpperS : V → List V → Hp → VK → Prop := fun x xs H Q => ∃ a, x = .str a ∧ xs = [] ∧ a.length ≤ 5592405 ∧ Q (.str (Txt.upper a)) H
end
end Md

set_option Elab.async false
set_option linter.all false
set_option maxRecDepth 100000
set_option maxHeartbeats 4000000
/-! own operators: ==, !=, in, not in by the methods of a plain class -/
namespace Md
open PySem PySem.Spec PyProof.Rows PySem.Calls L2
/-- the type of a class's objects is found -/
structure TyC (K : PySem.W.Frag) (C : Addr) : Prop where
  ha : PySem.W.findIn K (.ref C) "__class__" = some (some (.builtin "object.__class__"))
  hn : PySem.W.specialIn K (.builtin "object.__class__") "__get__" = some (some (.builtin "getset_descriptor.__get__"))
  htk : PySem.W.takesIn K (.builtin "object.__class__") = some true
  hm : PySem.W.mroIn K C (.type "object") = some true
  kc : ((PySem.W.clsIn K C).isSome && PySem.W.typeIn K (.ref C) == some (.type "type")) = true
def tycB (K : PySem.W.Frag) (C : Addr) : Bool := decide (PySem.W.findIn K (.ref C) "__class__" = some (some (.builtin "object.__class__"))) && (decide (PySem.W.specialIn K (.builtin "object.__class__") "__get__" = some (some (.builtin "getset_descriptor.__get__"))) &&
  (decide (PySem.W.takesIn K (.builtin "object.__class__") = some true) && (decide (PySem.W.mroIn K C (.type "object") = some true) && ((PySem.W.clsIn K C).isSome && PySem.W.typeIn K (.ref C) == some (.type "type")))))
theorem tycB_ok {K : PySem.W.Frag} {C : Addr} (h : tycB K C = true) : TyC K C := by
  obtain ⟨h1, h⟩ := Bool.and_eq_true_iff.mp h
  obtain ⟨h2, h⟩ := Bool.and_eq_true_iff.mp h
  obtain ⟨h3, h⟩ := Bool.and_eq_true_iff.mp h
  obtain ⟨h4, h5⟩ := Bool.and_eq_true_iff.mp h
  exact ⟨of_decide_eq_true h1, of_decide_eq_true h2, of_decide_eq_true h3, of_decide_eq_true h4, h5⟩
def isTyV : Value → Bool
  | .type _ => true
  | _ => false
/-- a built-in type whose line holds built-in types alone -/
def offB (T : String) : Bool := match PySem.fastBuiltinMro T with
  | some l => l.all isTyV
  | none => false
theorem off_sub {K : PySem.W.Frag} {T : String} (h : offB T = true) (C : Addr) : PySem.W.subIn K (.type T) (.ref C) = some false := by
  unfold offB at h
  show (PySem.fastBuiltinMro T).map (·.contains (.ref C)) = some false
  split at h
  · rename_i l e
    rw [e]
    show some (l.contains (.ref C)) = some false
    congr 1
    cases c : l.contains (Value.ref C) with
    | false => rfl
    | true =>
      have hm := List.contains_iff_mem.mp c
      have := List.all_eq_true.mp h _ hm
      cases this
  · cases h
theorem TyC.off {K : PySem.W.Frag} {C : Addr} (t : TyC K C) {T : String} (h : offB T = true) : PySem.W.kitOne K (.type T) (.ref C) = some false := by
  unfold PySem.W.kitOne
  rw [if_neg (by simp)]
  show (if _ then PySem.W.subIn K (.type T) (.ref C) else none) = _
  rw [if_pos t.kc]
  exact off_sub h C
theorem TyC.self {K : PySem.W.Frag} {C : Addr} : PySem.W.kitOne K (.ref C) (.ref C) = some true := by
  unfold PySem.W.kitOne
  rw [if_pos (by simp)]
theorem nf_off {K : PySem.W.Frag} {C : Addr} {T : String} (h : offB T = true) : PySem.W.notFirst K C (.type T) = true := by
  unfold PySem.W.notFirst
  rw [off_sub h C]
  simp
theorem nf_self {K : PySem.W.Frag} {C : Addr} : PySem.W.notFirst K C (.ref C) = true := by
  unfold PySem.W.notFirst
  simp
theorem off_list : offB "list" = true := by decide +kernel
theorem off_tuple : offB "tuple" = true := by decide +kernel
theorem off_str : offB "str" = true := by decide +kernel
theorem off_none : offB "NoneType" = true := by decide +kernel
theorem off_dict : offB "dict" = true := by decide +kernel
theorem off_int : offB "int" = true := by decide +kernel
theorem off_bool : offB "bool" = true := by decide +kernel
theorem TyC.ty {K : PySem.W.Frag} {C a dx : Addr} {H : Hp} {fs : List (Str × V)} (t : TyC K C) (cl : Cls K C) (e : H a = some (.ins C dx fs)) : TyX K H (.ref a) (.ref C) := .base (.ins e cl t.ha t.hn t.htk t.hm)
/-- no __ne__ of its own -/
def NeC (K : PySem.W.Frag) (C : Addr) : Prop := PySem.W.findIn K (.ref C) "__ne__" = some (some (.builtin "object.__ne__"))
def necB (K : PySem.W.Frag) (C : Addr) : Bool := decide (PySem.W.findIn K (.ref C) "__ne__" = some (some (.builtin "object.__ne__"))) && decide (PySem.W.mroIn K C (.type "object") = some true)
theorem necB_ok {K : PySem.W.Frag} {C : Addr} (h : necB K C = true) : NeC K C := by
  unfold NeC
  exact of_decide_eq_true (Bool.and_eq_true_iff.mp h).1
def rEqO (K : PySem.W.Frag) (C : Addr) (sp : Sp) (E : XK) : R2 := fun x y H Q => ∃ a dx fs t, x = .ref a ∧ H a = some (.ins C dx fs) ∧ TyX K H y t ∧ PySem.W.notFirst K C t = true ∧ sp [.ref a, y] H (fun v H1 => ∃ b, v = .bl b ∧ Q (.bl b) H1) E
def rNeO (K : PySem.W.Frag) (C : Addr) (sp : Sp) (E : XK) : R2 := fun x y H Q => ∃ a dx fs t, x = .ref a ∧ H a = some (.ins C dx fs) ∧ TyX K H y t ∧ PySem.W.notFirst K C t = true ∧ sp [.ref a, y] H (fun v H1 => ∃ b, v = .bl b ∧ Q (.bl (!b)) H1) E
/-- x in o -/
def rInO (C : Addr) (sp : Sp) (E : XK) : R2 := fun x y H Q => ∃ a dx fs, y = .ref a ∧ H a = some (.ins C dx fs) ∧ sp [.ref a, x] H (fun v H1 => ∃ b, v = .bl b ∧ Q (.bl b) H1) E
def rNotInO (C : Addr) (sp : Sp) (E : XK) : R2 := fun x y H Q => ∃ a dx fs, y = .ref a ∧ H a = some (.ins C dx fs) ∧ sp [.ref a, x] H (fun v H1 => ∃ b, v = .bl b ∧ Q (.bl (!b)) H1) E
section
variable {X : Cx} {k j : Nat} {C : Addr} {sp : Sp} {E : XK}
theorem op_eqO (c : Mt X.prog X.w X.K X.mg X.base k C "__eq__" sp) (hr : Room j X.A) (hk : k ≤ j) (hx : Passes (L2N.CX X.prog X.w) X E) : OpR X (compareOp .Eq) (rEqO X.K C sp E) := by
  intro pins s σ H x y v u Q I rx ry h
  obtain ⟨a, dx, fs, t, rfl, ha, ty, hn, q⟩ := h
  obtain rfl : v = .ref a := rx
  obtain ⟨P, Z, p, _⟩ := kit_of I ry ty
  obtain ⟨f, fd, ps, c1, hm, F, b⟩ := c.ex
  obtain ⟨mA, O, _, _, _, _⟩ := ins_get I.hok ha
  obtain ⟨od, J, _⟩ := O.look
  obtain ⟨m, Fr⟩ := I.fr
  refine PySem.W.cmp_ofEq (PySem.W.cmp_K (by have := hr.un; omega) Fr I.ok.mod.kin J (Z.ty _ _ I.kIn p) hn hm.at_ hm.fn ?_)
  have hl : ([Value.ref a, u] ++ []).length = ps.length := by
    have e := F.len _ _ _ _ q
    rw [← e]
    rfl
  refine wpAny_call (codeAny_mono (F.run X.A X.stack s H ⟨[.ref a, u], []⟩ [.ref a, u] [.ref a, y] _ E (hr.mono hk) I.env0 (b s [.ref a, u] I.kIn hl) (.cons rfl (.cons ry .nil)) q) fun r s' hq => ?_)
  cases r with
  | error e => exact hx pins σ H s e s' I hq
  | ok fl =>
    cases fl with
    | ret u =>
      obtain ⟨v, H', I3, rv, b, rfl, q3⟩ := I.after hq
      obtain rfl : u = .bool b := rv
      exact ⟨.bl b, H', I3, rfl, q3⟩
    | next => exact False.elim hq
    | brk => exact False.elim hq
    | cont => exact False.elim hq
theorem ne_bind (self : Value) : bindSpecial (.builtin "object.__ne__") self = pure (.builtin "object.__ne__", [self]) :=
  (Slot.of (T := "object") (name := "__ne__") (owner := "object") (n := "__ne__") (by rw [typeLookup_type, builtinLookup_eq_fast]; kernel_rfl) (by decide +kernel) (by decide +kernel) (by decide +kernel)
    (.inl (by decide +kernel)) (by rw [isSubtype_type]; kernel_rfl)).bind self
theorem ne_plain : plainId "object.__ne__" = true := by decide +kernel
theorem ifBound_B {K : PySem.W.Frag} {M : Model} {A : Around} {E : Value → Shared → Prop} {s : Shared} {x C : Addr} {ox : Obj} {od : Option Obj} {name : Str} {id : String} {args : List Value} {Q : Option Value → Shared → Prop} (X : K.In s.heap) (I : PySem.W.InstAt s.heap x ox C od)
    (hs : PySem.W.findIn K (.ref C) name = some (some (.builtin id))) (hb : bindSpecial (.builtin id) (.ref x) = pure (.builtin id, [.ref x]))
    (h : wpAny M A (call (.builtin id) (.ref x :: args)) (fun v => Q (some v)) E s) : wpAny M A (callSpecialIfBound? (.ref x) name args) Q E s := by
  simp only [callSpecialIfBound?, bindSpecialIfBound?]
  refine wpAny_holding (wpAny_bind (wpAny_bind (wpAny_bind (I.type.here ((PySem.W.looks_findIn X hs).here ?_)))))
  refine wpAny_bind (wpAny_askSetting (wpAny_ite ?_))
  have fin : wpAny M A (call (.builtin id) ([.ref x] ++ args) >>= fun v => pure (some v)) Q E s := wpAny_bind (wpAny_mono h (fun v s' h' => wpAny_pure h') fun _ _ h' => h')
  rw [hb]
  split
  · exact wpAny_bind (wpAny_pure (wpAny_pure (by exact fin)))
  · exact wpAny_tryCatch (wpAny_bind (wpAny_pure (wpAny_pure (by exact fin))))
theorem ne_K {prog : Program} {w : World} {A : Around} {E : Value → Shared → Prop} {s : Shared} {K : PySem.W.Frag} {x C L f : Addr} {h₀ : Heap} {m : Str → Option Value} {ox : Obj} {od : Option Obj} {b tb : Value} {Q : Value → Shared → Prop}
    (hu : A.units + 1 < cLine) (Fr0 : Fr h₀ L s.heap m) (X₀ : K.In h₀) (I : PySem.W.InstAt s.heap x ox C od) (hb : PySem.W.Looks (model prog w) s.heap (typeOf b) tb) (hn : PySem.W.notFirst K C tb = true)
    (nc : NeC K C) (ho : PySem.W.mroIn K C (.type "object") = some true) (hs : PySem.W.findIn K (.ref C) "__eq__" = some (some (.ref f))) (hf : PySem.W.isFn K (.ref f) = true)
    (h : wpAny (model prog w) A.in1 (call (.ref f) [.ref x, b]) (fun v s' => ∃ r, v = .bool r ∧ Q (.bool (!r)) s') E s) : wpAny (model prog w) A (richCompare .NotEq (.ref x) b) Q E s := by
  have X := X₀.keeps Fr0.keep
  have one : wpAny (model prog w) A (tryCompare (.ref x) "__ne__" b) (fun r s' => ∃ v, r = some v ∧ Q v s') E s := by
    have hu1 : A.in1.units < cLine := hu
    unfold tryCompare
    refine wpAny_bind (ifBound_B X I nc (ne_bind _) (wpAny_call (codeAny_call_builtin ne_plain F.cmpEntry_ne
      (PySem.W.check_slot F.cmpKind_ne F.cmpSplit_ne (I.type.andThen (PySem.W.looks_subIn X ho)) (F.cmpArgs_ne _ _) ?_))))
    unfold Builtin.«object.__ne__»
    repeat (first
      | with_reducible refine wpAny_cRoomFor hu1 ?_
      | (refine wpAny_bind (m := callSpecialIfBound? (.ref x) (Str.ofString "__eq__") [b])
          (PySem.W.ifBound_K X I hs hf (wpAny_mono h (fun r s' hr => by
            obtain ⟨r, rfl, hq⟩ := hr
            repeat (first | exact wpAny_truthy_bool (wpAny_pure (wpAny_pure ⟨_, rfl, hq⟩)) | (refine wpAny_bind (m := truthy (.bool _)) (wpAny_truthy_bool ?_)) | exact wpAny_pure ⟨_, rfl, hq⟩ | exact ⟨_, rfl, hq⟩ | wp_step)) fun _ _ e => e)))
      | wp_step)
  unfold richCompare
  simp only [oneThing_ref]
  refine wpAny_holding (wpAny_bind (wpAny_cRoomFor (by omega) ?_))
  refine wpAny_bind (I.type.here (wpAny_bind (hb.here ?_)))
  split
  · rename_i q
    have e : PySem.W.subIn K tb (.ref C) = some false := by
      rcases Bool.or_eq_true_iff.mp hn with e | e
      · rw [beq_iff_eq.mp e] at q; simp at q
      · exact beq_iff_eq.mp e
    refine wpAny_bind ((PySem.W.looks_subIn X e).here ?_)
    simp only [Bool.false_eq_true, if_false]
    refine wpAny_bind (wpAny_mono one (fun r s' z => ?_) fun _ _ e => e)
    obtain ⟨v, rfl, hq⟩ := z
    exact wpAny_pure hq
  · refine wpAny_bind (wpAny_pure ?_)
    simp only [Bool.false_eq_true, if_false]
    refine wpAny_bind (wpAny_mono one (fun r s' z => ?_) fun _ _ e => e)
    obtain ⟨v, rfl, hq⟩ := z
    exact wpAny_pure hq
theorem op_neO (c : Mt X.prog X.w X.K X.mg X.base k C "__eq__" sp) (nc : NeC X.K C) (tc : TyC X.K C) (hr : Room j X.A) (hk : k + 1 ≤ j) (hx : Passes (L2N.CX X.prog X.w) X E) : OpR X (compareOp .NotEq) (rNeO X.K C sp E) := by
  intro pins s σ H x y v u Q I rx ry h
  obtain ⟨a, dx, fs, t, rfl, ha, ty, hn, q⟩ := h
  obtain rfl : v = .ref a := rx
  obtain ⟨P, Z, p, _⟩ := kit_of I ry ty
  obtain ⟨f, fd, ps, c1, hm, F, b⟩ := c.ex
  obtain ⟨mA, O, _, _, _, _⟩ := ins_get I.hok ha
  obtain ⟨od, J, _⟩ := O.look
  obtain ⟨m, Fr⟩ := I.fr
  refine PySem.W.cmp_ofNotEq (ne_K (by have := hr.un; omega) Fr I.ok.mod.kin J (Z.ty _ _ I.kIn p) hn nc tc.hm hm.at_ hm.fn ?_)
  have hl : ([Value.ref a, u] ++ []).length = ps.length := by
    have e := F.len _ _ _ _ q
    rw [← e]
    rfl
  refine wpAny_call (codeAny_mono (F.run X.A.in1 X.stack s H ⟨[.ref a, u], []⟩ [.ref a, u] [.ref a, y] _ E (hr.mono hk).in1 I.env0.in1 (b s [.ref a, u] I.kIn hl) (.cons rfl (.cons ry .nil)) q) fun r s' hq => ?_)
  cases r with
  | error e => exact hx pins σ H s e s' I hq
  | ok fl =>
    cases fl with
    | ret u =>
      obtain ⟨v, H', I3, rv, b, rfl, q3⟩ := I.after hq
      obtain rfl : u = .bool b := rv
      exact ⟨b, rfl, ⟨.bl (!b), H', I3, rfl, q3⟩⟩
    | next => exact False.elim hq
    | brk => exact False.elim hq
    | cont => exact False.elim hq
theorem op_inO (c : Mt X.prog X.w X.K X.mg X.base k C "__contains__" sp) (hr : Room j X.A) (hk : k ≤ j) (hx : Passes (L2N.CX X.prog X.w) X E) : OpR X (compareOp .In) (rInO C sp E) := by
  intro pins s σ H x y v u Q I rx ry h
  obtain ⟨a, dx, fs, rfl, ha, q⟩ := h
  obtain rfl : u = .ref a := ry
  obtain ⟨f, fd, ps, c1, hm, F, b⟩ := c.ex
  obtain ⟨mA, O, _, _, _, _⟩ := ins_get I.hok ha
  obtain ⟨od, J, _⟩ := O.look
  obtain ⟨m, Fr⟩ := I.fr
  refine PySem.W.in_K Fr I.ok.mod.kin J hm.at_ hm.fn ?_
  have hl : ([Value.ref a, v] ++ []).length = ps.length := by
    have e := F.len _ _ _ _ q
    rw [← e]
    rfl
  refine wpAny_call (codeAny_mono (F.run X.A X.stack s H ⟨[.ref a, v], []⟩ [.ref a, v] [.ref a, x] _ E (hr.mono hk) I.env0 (b s [.ref a, v] I.kIn hl) (.cons rfl (.cons rx .nil)) q) fun r s' hq => ?_)
  cases r with
  | error e => exact hx pins σ H s e s' I hq
  | ok fl =>
    cases fl with
    | ret u =>
      obtain ⟨v, H', I3, rv, b, rfl, q3⟩ := I.after hq
      obtain rfl : u = .bool b := rv
      exact wpAny_truthy_bool ⟨.bl b, H', I3, rfl, q3⟩
    | next => exact False.elim hq
    | brk => exact False.elim hq
    | cont => exact False.elim hq
theorem op_notInO (c : Mt X.prog X.w X.K X.mg X.base k C "__contains__" sp) (hr : Room j X.A) (hk : k ≤ j) (hx : Passes (L2N.CX X.prog X.w) X E) : OpR X (compareOp .NotIn) (rNotInO C sp E) := by
  intro pins s σ H x y v u Q I rx ry h
  obtain ⟨a, dx, fs, rfl, ha, q⟩ := h
  obtain rfl : u = .ref a := ry
  obtain ⟨f, fd, ps, c1, hm, F, b⟩ := c.ex
  obtain ⟨mA, O, _, _, _, _⟩ := ins_get I.hok ha
  obtain ⟨od, J, _⟩ := O.look
  obtain ⟨m, Fr⟩ := I.fr
  refine PySem.W.notIn_K Fr I.ok.mod.kin J hm.at_ hm.fn ?_
  have hl : ([Value.ref a, v] ++ []).length = ps.length := by
    have e := F.len _ _ _ _ q
    rw [← e]
    rfl
  refine wpAny_call (codeAny_mono (F.run X.A X.stack s H ⟨[.ref a, v], []⟩ [.ref a, v] [.ref a, x] _ E (hr.mono hk) I.env0 (b s [.ref a, v] I.kIn hl) (.cons rfl (.cons rx .nil)) q) fun r s' hq => ?_)
  cases r with
  | error e => exact hx pins σ H s e s' I hq
  | ok fl =>
    cases fl with
    | ret u =>
      obtain ⟨v, H', I3, rv, b, rfl, q3⟩ := I.after hq
      obtain rfl : u = .bool b := rv
      exact wpAny_truthy_bool ⟨.bl (!b), H', I3, rfl, q3⟩
    | next => exact False.elim hq
    | brk => exact False.elim hq
    | cont => exact False.elim hq
end
/-! methods called in a try -/
def tMethW (C : Addr) (m : Str) (sp : Sp) (E : L2.St → XK) (ta : TE) (t : TA) : TE := fun σ H Q => ta σ H fun x H1 => ∃ a dx fs, x = .ref a ∧ H1 a = some (.ins C dx fs) ∧ fs.lookup m = none ∧ t σ H1 fun vs H2 => sp (x :: (vs ++ [])) H2 Q (E σ)
theorem pe_mtS {X : Cx} {k j : Nat} {C : Addr} {sp : Sp} {W : WX} {m : Str} {pos apos : Pos} {e o : Expr} {es : List Expr} {ta : TE} {t : TA} {pl : Sem Bool} (c : Mt X.prog X.w X.K X.mg X.base k C m sp) (hr : Room j X.A) (hk : k ≤ j)
    (hx : ∀ σ, PassesAt (L2N.CX X.prog X.w) X σ (WE W σ)) (he : PE X o ta) (ha : PA X (e :: es) t) (hst : starEach (e :: es) X.env = (false, eval e X.env) :: starEach es X.env := by rfl) (hpl : (backTo pos (starEach es X.env)).any (·.1) = false := by rfl)
    (ht : eval (.Call (.Attribute o m apos) (e :: es) [] pos) X.env = (do
      let ov ← eval o X.env
      standAt apos.atName
      let (f, first) ← holding [ov] (getMethod ov m pl)
      callWith pos f first (backTo pos (starEach (e :: es) X.env)) (backToKw pos (keywordEach [] X.env))) := by rfl) :
    PE X (.Call (.Attribute o m apos) (e :: es) [] pos) (tMethW C m sp (WE W) ta t) := by
  obtain ⟨f, fd, ps, c1, hm, F, b⟩ := c.ex
  refine ⟨fun pins s σ H Q I h => PySem.W.methodCall_KW (pl := pl) (thn (he.run pins s σ H _ I h) ?_) ht⟩
  rintro u s1 ⟨x, H1, I1, rx, a, dx, fs, rfl, at_, l, q⟩
  obtain rfl : u = Value.ref a := rx
  refine getmeth_ok I1 at_ c1 hm l (PySem.W.callWith_K (first := [.ref a]) (h₀ := X.base) I.ok.mod.kin hm.kp (thn (ha.run pos pins s1 σ H1 _ I1 q) ?_) hst hpl)
  rintro us s2 ⟨vs, H2, I2, r, q2⟩
  exact ⟨I2.kIn, run_fnSD (us := .ref a :: us) (vs := .ref a :: vs) F (hr.mono hk) b .nil (hx σ) I2 (.cons rfl r) q2⟩
/-- list(x) -/
def rListOf (K : PySem.W.Frag) : List V → Hp → VK → Prop := fun xs H Q => ∃ p ys, xs = [.ref p] ∧ (SqL K H p ys ∨ SqT K H p ys) ∧ ∀ l, H l = none → Q (.ref l) (upd H l (.lst ys))
end Md

set_option Elab.async false
set_option linter.all false
set_option maxRecDepth 100000
set_option maxHeartbeats 4000000
namespace Md
open PySem PySem.Spec PyProof.Rows PySem.Calls L2
/-! an own error and itself: != -/
section
variable {prog : Program} {w : World} {A : Around} {E : Value → Shared → Prop} {s : Shared} {K : PySem.W.Frag} {x C : Addr} {ox : Obj} {od : Option Obj}
theorem same_self {R : Bool → Shared → Prop} {M : Model} (h : R true s) : wpAny M A (isSame (.ref x) (.ref x)) R E s := wpAny_of_eq (show isSame (.ref x) (.ref x) = pure true by unfold isSame; simp) h
theorem call_eqSelf {Q : Value → Shared → Prop} (X : K.In s.heap) (I : PySem.W.InstAt s.heap x ox C od) (hm : PySem.W.mroIn K C (.type "object") = some true) (hq : Q (.bool true) s) : wpAny (model prog w) A (call (.builtin "object.__eq__") [.ref x, .ref x]) Q E s := by
  refine wpAny_call (codeAny_call_builtin F.cmp_object.eq.plain F.cmpEntry_eq (PySem.W.check_slot F.cmpKind_eq F.cmpSplit_eq (I.type.andThen (PySem.W.looks_mroIn X hm)) (F.cmpArgs_eq _ _) ?_))
  unfold Builtin.«object.__eq__»
  repeat (first | with_reducible refine same_self ?_ | wp_step)
  exact hq
end
theorem ne_self {prog : Program} {w : World} {A : Around} {E : Value → Shared → Prop} {s : Shared} {K : PySem.W.Frag} {x C : Addr} {ox : Obj} {od : Option Obj} {Q : Value → Shared → Prop} (hu : A.units + 1 < cLine) (X : K.In s.heap) (I : PySem.W.InstAt s.heap x ox C od)
    (nc : NeC K C) (ho : PySem.W.mroIn K C (.type "object") = some true) (hs : PySem.W.findIn K (.ref C) "__eq__" = some (some (.builtin "object.__eq__"))) (h : Q (.bool false) s) : wpAny (model prog w) A (richCompare .NotEq (.ref x) (.ref x)) Q E s := by
  have one : wpAny (model prog w) A (tryCompare (.ref x) "__ne__" (.ref x)) (fun r s' => ∃ v, r = some v ∧ Q v s') E s := by
    have hu1 : A.in1.units < cLine := hu
    unfold tryCompare
    refine wpAny_bind (ifBound_B X I nc (ne_bind _) (wpAny_call (codeAny_call_builtin ne_plain F.cmpEntry_ne
      (PySem.W.check_slot F.cmpKind_ne F.cmpSplit_ne (I.type.andThen (PySem.W.looks_mroIn X ho)) (F.cmpArgs_ne _ _) ?_))))
    unfold Builtin.«object.__ne__»
    repeat (first
      | with_reducible refine wpAny_cRoomFor hu1 ?_
      | (refine wpAny_bind (m := callSpecialIfBound? (.ref x) (Str.ofString "__eq__") [.ref x]) (HN.ifBound_objEq X I hs (call_eqSelf X I ho ?_)))
      | (refine wpAny_bind (m := truthy (.bool _)) (wpAny_truthy_bool ?_))
      | exact wpAny_pure ⟨_, rfl, h⟩
      | exact ⟨_, rfl, h⟩
      | wp_step)
  unfold richCompare
  simp only [oneThing_ref]
  refine wpAny_holding (wpAny_bind (wpAny_cRoomFor (by omega) ?_))
  refine wpAny_bind (I.type.here (wpAny_bind (I.type.here ?_)))
  split
  · rename_i q
    simp at q
  · refine wpAny_bind (wpAny_pure ?_)
    simp only [Bool.false_eq_true, if_false]
    refine wpAny_bind (wpAny_mono one (fun r s' z => ?_) fun _ _ e => e)
    obtain ⟨v, rfl, hq⟩ := z
    exact wpAny_pure hq
/-- e != e -/
def rNeE (K : PySem.W.Frag) : R2 := fun x y H Q => ∃ (a C d : Addr) (fs : List (Str × V)), x = .ref a ∧ y = .ref a ∧ H a = some (exo a C (some d)) ∧ H d = some (exd d fs) ∧ NeC K C ∧ PySem.W.mroIn K C (.type "object") = some true ∧ PySem.W.findIn K (.ref C) "__eq__" = some (some (.builtin "object.__eq__")) ∧ Q (.bl false) H
theorem op_neE {X : Cx} (hu : X.A.units + 1 < cLine) : OpR X (compareOp .NotEq) (rNeE X.K) := by
  rintro pins s σ H x y v u Q I rx ry ⟨a, C, d, fs, rfl, rfl, ha, hd, nc, ho, hs, q⟩
  obtain rfl : v = .ref a := rx
  obtain rfl : u = .ref a := ry
  obtain ⟨t1, hoe⟩ := exo_at I.hok ha
  obtain ⟨mA, hns, _⟩ := exd_at I.hok hd
  obtain ⟨od, hod, _⟩ := lookIn_ns hns
  exact PySem.W.cmp_ofNotEq (ne_self (od := some od) hu I.kIn ⟨hoe, rfl, rfl, hod⟩ nc ho hs ⟨.bl false, H, I, rfl, q⟩)
end Md

set_option Elab.async false
set_option linter.all false
set_option maxRecDepth 100000
set_option maxHeartbeats 4000000
namespace Md
open PySem PySem.Spec PyProof.Rows PySem.Calls L2
local macro_rules | `(tactic| walk_at "v") => `(tactic| refine ⟨_, rfl, ?_⟩)
local macro_rules | `(tactic| walk_at "ii") => `(tactic| refine ⟨_, _, rfl, rfl, ?_⟩)
/-! ### words -/
def isL (c : Nat) : Bool := decide (c ∈ (Str.ofString "abcdefghijklmnopqrstuvwxyz").cps.toList)
def isWord (z : Str) : Bool := (decide (1 ≤ z.length) && decide (z.length ≤ 8)) && z.cps.toList.all isL
def WordB (K : PySem.W.Frag) (H : Hp) (x : V) (w : Bool) : Prop := (∃ T, TyX K H x (.type T) ∧ T ≠ "str" ∧ w = false) ∨ ∃ z : Str, x = .str z ∧ z.length ≤ 1000000 ∧ w = isWord z
theorem kit_str {K : PySem.W.Frag} {H : Hp} {x : V} {T : String} (ty : TyX K H x (.type T)) (hn : T ≠ "str") : kitB T "str" = some false := by
  cases ty with
  | base b => cases b <;> first | exact absurd rfl hn | decide +kernel
  | _ => first | exact absurd rfl hn | decide +kernel
def t_is_word (K : PySem.W.Frag) (A : Ads) (E : XK) : TS :=
    (tSeq (tIfS (tOr (tNot (tB (tCB (rIsi K) (tCons (tVar 0) (tCons (tC (.ty "str")) tNil))))) (tNot (tTest (tChain rLe rLe (tC (.int 1)) (tCB (rLen K) (tCons (tVar 0) tNil)) (tC (.int 8)))))) (tRet (tC (.bl false))) tNext)
    (tRet (tCB (rAll K) (tCons (tLc (iStr (tVar 0)) (gName 1) tYes (tOp rInS (tVar 1) (tC (.str "abcdefghijklmnopqrstuvwxyz"))) [1]) tNil))))
def n_is_word : List Str := ["thing", "letter"]
def sp_is_word (K : PySem.W.Frag) (A : Ads) : Sp := fun vs H Q _ => ∃ (x : V) (w : Bool), vs = [x] ∧ WordB K H x w ∧ ∀ H', Same H H' → Q (.bl w) H'
theorem len_is_word {K : PySem.W.Frag} {A : Ads} {vs : List V} {H : Hp} {Q : VK} {E : XK} (h : sp_is_word K A vs H Q E) : vs.length = 1 := by
  obtain ⟨x, w, rfl, _⟩ := h
  rfl
theorem pure_is_word {K : PySem.W.Frag} {A : Ads} {vs : List V} {H : Hp} {Q : VK} {E : XK} (h : sp_is_word K A vs H Q E) : t_is_word K A E { nx := fun _ H' => Q .non H', rt := Q } (start n_is_word vs) H := by
  obtain ⟨x, w, rfl, hw, k⟩ := h
  rcases hw with ⟨T, ty, hn, rfl⟩ | ⟨z, rfl, hz, rfl⟩
  · walk_at "v"
    refine ⟨_, _, _, _, _, rfl, .ty _, ty, kit_ty (kit_str ty hn), ?_⟩
    walk_at "v"
    show (if (!false) = true then _ else _)
    refine iteT ?_
    show (if true = true then _ else _)
    refine iteT ?_
    exact k H (Same.refl H)
  · have hz2 : z.length ≤ sizeLine := Nat.le_trans hz (by decide)
    walk_at "v"
    refine ⟨_, _, _, _, _, rfl, .ty _, .base (.str z), kit_ty (by decide +kernel : kitB "str" "str" = some true), ?_⟩
    walk_at "v"
    show (if (!true) = true then _ else _)
    refine iteF ?_
    walk_at "v"
    refine ⟨_, _, rfl, ⟨hz2, rfl⟩, ?_⟩
    refine ⟨_, _, rfl, rfl, ?_⟩
    refine ⟨_, rfl, ?_⟩
    refine iteD (fun h1 => ?_) (fun h1 => ?_)
    · walk_at "ii"
      refine ⟨_, rfl, ?_⟩
      refine iteN (fun h2 => ?_) (fun h2 => ?_)
      · walk_at "v"
        refine ⟨z, rfl, fun D hD => ?_⟩
        refine lc_it walk_str (fun i H' => Same H H' ∧ H' D = some (.lst ((z.cps.toList.take i).map fun c => V.bl (isL c)))) ⟨Same.new hD, upd_same⟩ (fun _ _ _ _ => True.intro) ?_ ?_
        · rintro i x H1 H1' hi ⟨s1, hl⟩ ⟨rfl, c, hc, rfl⟩
          refine ⟨rfl, ?_⟩
          walk_at "v"
          refine ⟨c, _, rfl, rfl, ?_⟩
          refine ⟨_, hl, ?_, ?_, ?_⟩
          · rw [List.length_map, List.length_take]
            have e : z.length = z.cps.size := rfl
            have e2 : z.cps.toList.length = z.cps.size := Array.length_toList
            omega
          · exact fun b o hb => by
              rw [upd_ne (ne_of_none hb hD)]
              exact s1 b o hb
          · rw [upd_same]
            have e : z.cps.toList[i]? = some c := by rw [Array.getElem?_toList]; exact hc
            rw [List.take_succ, e]
            simp [isL]
        · rintro H1 ⟨s1, hl⟩
          have e2 : z.cps.toList.take z.cps.size = z.cps.toList := List.take_of_length_le (by rw [Array.length_toList]; exact Nat.le_refl _)
          rw [e2] at hl
          refine ⟨D, z.cps.toList.map isL, rfl, SqL.of (by rw [List.map_map]; exact hl), ?_⟩
          have e3 : (z.cps.toList.map isL).all id = isWord z := by
            rw [List.all_map]
            unfold isWord
            rw [decide_eq_true (show 1 ≤ z.length by omega), decide_eq_true (show z.length ≤ 8 by omega)]
            simp
          rw [e3]
          exact k H1 s1
      · have e3 : isWord z = false := by
          unfold isWord
          rw [decide_eq_false (show ¬ z.length ≤ 8 by omega), Bool.and_false, Bool.false_and]
        rw [e3] at k
        exact k H (Same.refl H)
    · have e3 : isWord z = false := by
        unfold isWord
        rw [decide_eq_false (show ¬ 1 ≤ z.length by omega), Bool.false_and, Bool.false_and]
      rw [e3] at k
      refine ⟨_, rfl, ?_⟩
      show (if (!false) = true then _ else _)
      refine iteT ?_
      exact k H (Same.refl H)
/-! ### names -/
def kRES : List Str := ["and", "or", "not", "in", "given", "true", "false", "blank", "number", "word", "needs", "instead", "after", "blames", "check", "guard", "barrier", "repair", "default", "exit", "self"]
def kRESERVED : List V := kRES.map V.str
theorem inV_strs (z : Str) (xs : List Str) : inV (.str z) (xs.map V.str) = decide (z ∈ xs) := by
  unfold inV
  rw [List.any_map, Bool.eq_iff_iff, List.any_eq_true, decide_eq_true_eq]
  constructor
  · rintro ⟨y, hy, e⟩
    have e' : (y == z) = true := e
    rw [eq_of_beq e'] at hy
    exact hy
  · intro h
    exact ⟨z, h, (beq_self_eq_true z : (z == z) = true)⟩
theorem flat_strs (xs : List Str) : (xs.map V.str).all flatV = true := by
  rw [List.all_map, List.all_eq_true]
  intro x _
  rfl
theorem WordB.mono {K : PySem.W.Frag} {H H' : Hp} {x : V} {w : Bool} (h : WordB K H x w) (s : Same H H') : WordB K H' x w := by
  rcases h with ⟨T, ty, h⟩ | h
  · exact .inl ⟨T, tyX_same s ty, h⟩
  · exact .inr h
def NameW (K : PySem.W.Frag) (H : Hp) (u : V) (nm : Option Str) : Prop := (WordB K H u false ∧ nm = none) ∨ ∃ z : Str, u = .str z ∧ z.length ≤ 1000000 ∧ isWord z = true ∧ nm = if z ∈ kRES then none else some z
theorem NameW.mono {K : PySem.W.Frag} {H H' : Hp} {x : V} {w : Option Str} (h : NameW K H x w) (s : Same H H') : NameW K H' x w := by
  rcases h with ⟨h, e⟩ | h
  · exact .inl ⟨h.mono s, e⟩
  · exact .inr h
def t_is_name (K : PySem.W.Frag) (A : Ads) (E : XK) : TS :=
    (tRet (tAndV (tCall (sp_is_word K A) [] E0 (tCons (tVar 0) tNil)) (tOp (rIn K true) (tVar 0) (tC (.ref A.gRESERVED)))))
def n_is_name : List Str := ["thing"]
def sp_is_name (K : PySem.W.Frag) (A : Ads) : Sp := fun vs H Q _ => ∃ (x : V) (nm : Option Str), vs = [x] ∧ NameW K H x nm ∧ ∀ H', Same H H' → Q (.bl nm.isSome) H'
theorem len_is_name {K : PySem.W.Frag} {A : Ads} {vs : List V} {H : Hp} {Q : VK} {E : XK} (h : sp_is_name K A vs H Q E) : vs.length = 1 := by
  obtain ⟨x, w, rfl, _⟩ := h
  rfl
theorem pure_is_name {K : PySem.W.Frag} {A : Ads} (tb : ∀ H, SqT K H A.gRESERVED kRESERVED) {vs : List V} {H : Hp} {Q : VK} {E : XK} (h : sp_is_name K A vs H Q E) : t_is_name K A E { nx := fun _ H' => Q .non H', rt := Q } (start n_is_name vs) H := by
  obtain ⟨x, nm, rfl, hw, k⟩ := h
  walk_at "v"
  rcases hw with ⟨hw, rfl⟩ | ⟨z, rfl, hz, hw, rfl⟩
  · refine ⟨x, false, rfl, hw, fun H1 s1 => ?_⟩
    refine ⟨_, rfl, ?_⟩
    refine iteF ?_
    exact k H1 s1
  · refine ⟨.str z, true, rfl, .inr ⟨z, rfl, hz, hw.symm⟩, fun H1 s1 => ?_⟩
    refine ⟨_, rfl, ?_⟩
    refine iteT ?_
    walk_at "v"
    refine ⟨_, _, rfl, .inr (tb H1), rfl, flat_strs _, ?_⟩
    have e : (if true = true then !inV (V.str z) kRESERVED else inV (V.str z) kRESERVED) = (if z ∈ kRES then (none : Option Str) else some z).isSome := by
      rw [if_pos rfl]
      show (!inV (V.str z) (kRES.map V.str)) = _
      rw [inV_strs]
      by_cases c : z ∈ kRES
      · rw [decide_eq_true c, if_pos c]; rfl
      · rw [decide_eq_false c, if_neg c]; rfl
    rw [e]
    exact k H1 s1
/-! ### texts -/
def one (c : Nat) : Str := ⟨#[c]⟩
theorem glue_ones (a : Array Nat) : ∀ cs : List Nat, (cs.map one).foldl (fun acc p => acc ++ (#[] : Array Nat) ++ p.cps) a = a ++ cs.toArray
  | [] => by simp
  | c :: r => by
    rw [List.map_cons, List.foldl_cons, glue_ones]
    simp [one]
theorem join_ones (cs : List Nat) (h : cs ≠ []) : Txt.join "" (cs.map one) = ⟨cs.toArray⟩ := by
  cases cs with
  | nil => exact absurd rfl h
  | cons c r =>
    show (⟨(r.map one).foldl (fun acc p => acc ++ (#[] : Array Nat) ++ p.cps) (one c).cps⟩ : Str) = _
    rw [glue_ones]
    simp [one]
theorem ones_sum : ∀ cs : List Nat, ((cs.map one).map (·.length)).sum = cs.length
  | [] => rfl
  | c :: r => by
    rw [List.map_cons, List.map_cons, List.sum_cons, ones_sum r, List.length_cons]
    show 1 + r.length = _
    omega
theorem isWord_of {cs : List Nat} (h1 : 1 ≤ cs.length) (h8 : cs.length ≤ 8) (h : ∀ c ∈ cs, isL c = true) : isWord ⟨cs.toArray⟩ = true := by
  unfold isWord
  have e : (⟨cs.toArray⟩ : Str).length = cs.length := by show cs.toArray.size = _; simp
  rw [e, decide_eq_true h1, decide_eq_true h8]
  show cs.toArray.toList.all isL = true
  rw [List.toList_toArray]
  exact List.all_eq_true.mpr h
theorem word_all {z : Str} (h : isWord z = true) : 1 ≤ z.length ∧ z.length ≤ 8 ∧ ∀ c ∈ z.cps.toList, isL c = true := by
  unfold isWord at h
  obtain ⟨h1, h2⟩ := Bool.and_eq_true_iff.mp h
  obtain ⟨h3, h4⟩ := Bool.and_eq_true_iff.mp h1
  exact ⟨of_decide_eq_true h3, of_decide_eq_true h4, List.all_eq_true.mp h2⟩
theorem app_list (a b : Str) : (a ++ b).cps.toList = a.cps.toList ++ b.cps.toList := by
  show (a.cps ++ b.cps).toList = _
  exact Array.toList_append
theorem app_len (a b : Str) : (a ++ b).length = a.length + b.length := by
  show (a.cps ++ b.cps).size = _
  exact Array.size_append
theorem letters_small : ∀ c ∈ (Str.ofString "abcdefghijklmnopqrstuvwxyz").cps.toList, c < 0x110000 := by decide +kernel
theorem word_ok {z : Str} (h : isWord z = true) : PyData.strOk z = true := by
  have h3 := (word_all h).2.2
  show z.cps.all (· < 0x110000) = true
  rw [← Array.all_toList, List.all_eq_true]
  intro c hc
  exact decide_eq_true (letters_small c (of_decide_eq_true (h3 c hc)))
theorem dp_strs {K : PySem.W.Frag} {H : Hp} {a : Addr} {p q : Str} (h : SqT K H a [.str p, .str q]) : Dp K H (.ref a) (.tuple [.str p, .str q]) := .tup h (.cons (.str p) (.cons (.str q) .nil))
theorem shaped_strs {p q : Str} (hp : PyData.strOk p = true) (hq : PyData.strOk q = true) : SeqAt.shaped (.tuple [.str p, .str q]) = true := by
  unfold SeqAt.shaped
  simp [PyData.canLay0, PyData.canLayAll0, PyData.depth, PyData.depthAll, hp, hq]
theorem shaped_lst1 {p : Str} (hp : PyData.strOk p = true) : SeqAt.shaped (.list [.str p]) = true := by
  unfold SeqAt.shaped
  simp [PyData.canLay0, PyData.canLayAll0, PyData.depth, PyData.depthAll, hp]
theorem bad_app (z : Str) {w : Str} (h : w.cps.toList.all isL = false) : isWord (z ++ w) = false := by
  unfold isWord
  rw [app_list, List.all_append, h, Bool.and_false, Bool.and_false]
theorem bad_pre (z : Str) {w : Str} (h : w.cps.toList.all isL = false) : isWord (w ++ z) = false := by
  unfold isWord
  rw [app_list, List.all_append, h, Bool.false_and, Bool.and_false]
theorem bad_len {z : Str} (h : 8 < z.length) : isWord z = false := by
  unfold isWord
  rw [decide_eq_false (show ¬ z.length ≤ 8 by omega), Bool.and_false, Bool.false_and]
theorem upper_letters : ∀ c ∈ (Str.ofString "abcdefghijklmnopqrstuvwxyz").cps.toList, (Unicode.upperOf c).any (fun x => !isL x) = true := by decide +kernel
theorem bad_upper {z : Str} (h : isWord z = true) : isWord (Txt.upper z) = false := by
  obtain ⟨h1, h8, ha⟩ := word_all h
  cases hb : isWord (Txt.upper z) with
  | false => rfl
  | true =>
    obtain ⟨_, _, hu⟩ := word_all hb
    have h0 : 0 < z.cps.size := h1
    have hc := ha z.cps[0] (by simp)
    obtain ⟨x, hx, nx⟩ := List.any_eq_true.mp (upper_letters _ (of_decide_eq_true hc))
    have hm : x ∈ (Txt.upper z).cps.toList := by
      rw [Array.mem_toList_iff]
      show x ∈ (z.cps.mapIdx fun _ c => (Unicode.upperOf c).toArray).flatten
      refine Array.mem_flatten.mpr ⟨(Unicode.upperOf z.cps[0]).toArray, Array.mem_mapIdx.mpr ⟨0, h0, rfl⟩, by simpa using hx⟩
    have := hu x hm
    rw [this] at nx
    cases nx
theorem wordB_bad {K : PySem.W.Frag} {H : Hp} {z : Str} (hl : z.length ≤ 1000000) (h : isWord z = false) : WordB K H (.str z) false := .inr ⟨z, rfl, hl, h.symm⟩
theorem wordB_of {K : PySem.W.Frag} {H : Hp} {z : Str} (h : isWord z = true) : WordB K H (.str z) true := .inr ⟨z, rfl, by have := (word_all h).2.1; omega, h.symm⟩
theorem hu65 {A : Around} {k : Nat} (hr : Room k A) : A.units + 65 < cLine := by have := hr.un; omega
/-- x in a tuple, x a flat value, or any plain data -/
def rInT2 (K : PySem.W.Frag) : R2 := fun x y H Q => rIn K false x y H Q ∨ ∃ d ds, Dp K H x d ∧ Dp K H y (.tuple ds) ∧ SeqAt.shaped d = true ∧ SeqAt.shaped (.tuple ds) = true ∧ Q (.bl (ds.any fun z => PyData.eqv z d)) H
theorem op_inT2 {X : Cx} (hu : X.A.units + 65 < cLine) : OpR X (compareOp .In) (rInT2 X.K) := by
  intro pins s σ H x y v u Q I rx ry h
  rcases h with h | ⟨d, ds, hd, he, sd, se, q⟩
  · exact op_in_seq pins s σ H x y v u Q I rx ry h
  · obtain ⟨as, r1⟩ := Dp.reads I d x v hd rx
    obtain ⟨bs, r2⟩ := Dp.reads I (.tuple ds) y u he ry
    exact SeqAt.in_tuple_reads r2 r1 (SeqAt.canLay_of_shaped se) (SeqAt.canLay_of_shaped sd) (room_in_shaped sd hu) ⟨.bl _, H, I, rfl, q⟩
def rNotInT2 (K : PySem.W.Frag) : R2 := fun x y H Q => rIn K true x y H Q ∨ ∃ d ds, Dp K H x d ∧ Dp K H y (.tuple ds) ∧ SeqAt.shaped d = true ∧ SeqAt.shaped (.tuple ds) = true ∧ Q (.bl (!ds.any fun z => PyData.eqv z d)) H
theorem op_notInT2 {X : Cx} (hu : X.A.units + 65 < cLine) : OpR X (compareOp .NotIn) (rNotInT2 X.K) := by
  intro pins s σ H x y v u Q I rx ry h
  rcases h with h | ⟨d, ds, hd, he, sd, se, q⟩
  · exact op_notIn_seq pins s σ H x y v u Q I rx ry h
  · obtain ⟨as, r1⟩ := Dp.reads I d x v hd rx
    obtain ⟨bs, r2⟩ := Dp.reads I (.tuple ds) y u he ry
    exact SeqAt.notIn_tuple_reads r2 r1 (SeqAt.canLay_of_shaped se) (SeqAt.canLay_of_shaped sd) (room_in_shaped sd hu) ⟨.bl _, H, I, rfl, q⟩
/-- data among texts -/
def inD (ns : List Str) (d : PyData) : Bool := (ns.map PyData.str).any fun z => PyData.eqv z d
theorem inD_str (ns : List Str) (n : Str) : inD ns (.str n) = decide (n ∈ ns) := by
  unfold inD
  rw [List.any_map, Bool.eq_iff_iff, List.any_eq_true, decide_eq_true_eq]
  constructor
  · rintro ⟨y, hy, e⟩
    have e' : (y == n) = true := by simpa [PyData.eqv] using e
    rw [eq_of_beq e'] at hy
    exact hy
  · intro h
    exact ⟨n, h, by simp [PyData.eqv]⟩
theorem inD_true {ns : List Str} {d : PyData} (h : inD ns d = true) : ∃ n, d = .str n ∧ n ∈ ns := by
  unfold inD at h
  rw [List.any_map, List.any_eq_true] at h
  obtain ⟨y, hy, e⟩ := h
  cases d with
  | str z =>
    have e' : (y == z) = true := by simpa [PyData.eqv] using e
    rw [eq_of_beq e'] at hy
    exact ⟨z, rfl, hy⟩
  | _ => simp [PyData.eqv] at e
theorem dp_strAll {K : PySem.W.Frag} {H : Hp} : ∀ ns : List Str, DpAll K H (ns.map V.str) (ns.map PyData.str)
  | [] => .nil
  | n :: r => .cons (.str n) (dp_strAll r)
theorem dp_tupS {K : PySem.W.Frag} {H : Hp} {a : Addr} {ns : List Str} (h : SqT K H a (ns.map V.str)) : Dp K H (.ref a) (.tuple (ns.map PyData.str)) := .tup h (dp_strAll ns)
theorem dp_lstS {K : PySem.W.Frag} {H : Hp} {a : Addr} {ns : List Str} (h : SqL K H a (ns.map V.str)) : Dp K H (.ref a) (.list (ns.map PyData.str)) := .lst h (dp_strAll ns)
theorem lay_strs : ∀ ns : List Str, (∀ n ∈ ns, PyData.strOk n = true) → PyData.canLayAll0 (ns.map PyData.str) = true
  | [], _ => rfl
  | n :: r, h => by
    have h1 := h n List.mem_cons_self
    have h2 := lay_strs r fun m hm => h m (List.mem_cons_of_mem _ hm)
    simp [PyData.canLayAll0, PyData.canLay0, h1, h2]
theorem depth_strs : ∀ ns : List Str, PyData.depthAll (ns.map PyData.str) ≤ 1
  | [] => by simp [PyData.depthAll]
  | n :: r => by
    have := depth_strs r
    simp [PyData.depthAll, PyData.depth]
    try omega
theorem shaped_tupS {ns : List Str} (h : ∀ n ∈ ns, PyData.strOk n = true) : SeqAt.shaped (.tuple (ns.map PyData.str)) = true := by
  have h1 := lay_strs ns h
  have h2 := depth_strs ns
  unfold SeqAt.shaped
  simp [PyData.canLay0, PyData.depth, h1]
  try omega
theorem shaped_lstS {ns : List Str} (h : ∀ n ∈ ns, PyData.strOk n = true) : SeqAt.shaped (.list (ns.map PyData.str)) = true := by
  have h1 := lay_strs ns h
  have h2 := depth_strs ns
  unfold SeqAt.shaped
  simp [PyData.canLay0, PyData.depth, h1]
  try omega
theorem dp_str_inv {K : PySem.W.Frag} {H : Hp} {x : V} {n : Str} (h : Dp K H x (.str n)) : x = .str n := by
  cases h
  rfl
/-- a kind as it may be passed: a flat value, or a list of one word -/
def KindV (H : Hp) (v : V) : Prop := flatV v = true ∨ ∃ q w, v = .ref q ∧ H q = some (.lst [.str w]) ∧ isWord w = true
theorem KindV.mono {H H' : Hp} {v : V} (h : KindV H v) (s : Same H H') : KindV H' v := by
  rcases h with h | ⟨q, w, e, hq, hw⟩
  · exact .inl h
  · exact .inr ⟨q, w, e, s _ _ hq, hw⟩
/-! ### fields -/
def kindOf : V → Option Str
  | .str z => if z = "number" ∨ z = "word" then some z else none
  | _ => none
def FieldB (K : PySem.W.Frag) (H : Hp) (x : V) (r : Option (Str × Str)) : Prop := (∃ T, TyX K H x (.type T) ∧ T ≠ "tuple" ∧ r = none) ∨ (∃ a xs, x = .ref a ∧ H a = some (.tup xs) ∧ xs.length ≠ 2 ∧ r = none) ∨
  (∃ a u v nm, x = .ref a ∧ H a = some (.tup [u, v]) ∧ KindV H v ∧ NameW K H u nm ∧ r = nm.bind fun n => (kindOf v).map fun k => (n, k))
theorem FieldB.mono {K : PySem.W.Frag} {H H' : Hp} {x : V} {r : Option (Str × Str)} (h : FieldB K H x r) (s : Same H H') : FieldB K H' x r := by
  rcases h with ⟨T, ty, h⟩ | ⟨a, xs, e, ha, h⟩ | ⟨a, u, v, nm, e, ha, hf, hn, h⟩
  · exact .inl ⟨T, tyX_same s ty, h⟩
  · exact .inr (.inl ⟨a, xs, e, s _ _ ha, h⟩)
  · exact .inr (.inr ⟨a, u, v, nm, e, s _ _ ha, hf.mono s, hn.mono s, h⟩)
theorem in_kinds {v : V} (h : flatV v = true) : inV v [.str "number", .str "word"] = (kindOf v).isSome := by
  cases v with
  | str z =>
    show (inV (.str z) (([("number" : Str), "word"] : List Str).map V.str)) = _
    rw [inV_strs]
    show _ = (if z = "number" ∨ z = "word" then some z else none : Option Str).isSome
    by_cases c : z = "number" ∨ z = "word"
    · rw [if_pos c]; exact decide_eq_true (by simpa using c)
    · rw [if_neg c]; exact decide_eq_false (by simpa using c)
  | non => rfl
  | bl b => rfl
  | int i => rfl
  | _ => cases h
def t__is_field (K : PySem.W.Frag) (A : Ads) (E : XK) : TS :=
    (tRet (tAndV (tCB (rIsi K) (tCons (tVar 0) (tCons (tC (.ty "tuple")) tNil))) (tAndV (tOp rEq (tCB (rLen K) (tCons (tVar 0) tNil)) (tC (.int 2))) (tAndV (tCall (sp_is_name K A) [] E0 (tCons (tOp (rIx K) (tVar 0) (tC (.int 0))) tNil)) (tOp (rInT2 K) (tOp (rIx K) (tVar 0) (tC (.int 1))) (tTup (tCons (tC (.str "number")) (tCons (tC (.str "word")) tNil))))))))
def n__is_field : List Str := ["thing"]
def sp__is_field (K : PySem.W.Frag) (A : Ads) : Sp := fun vs H Q _ => ∃ (x : V) (r : Option (Str × Str)), vs = [x] ∧ FieldB K H x r ∧ ∀ H', Same H H' → Q (.bl r.isSome) H'
theorem len__is_field {K : PySem.W.Frag} {A : Ads} {vs : List V} {H : Hp} {Q : VK} {E : XK} (h : sp__is_field K A vs H Q E) : vs.length = 1 := by
  obtain ⟨x, w, rfl, _⟩ := h
  rfl
theorem pure__is_field {K : PySem.W.Frag} {A : Ads} {vs : List V} {H : Hp} {Q : VK} {E : XK} (h : sp__is_field K A vs H Q E) : t__is_field K A E { nx := fun _ H' => Q .non H', rt := Q } (start n__is_field vs) H := by
  obtain ⟨x, r, rfl, hf, k⟩ := h
  walk_at "v"
  rcases hf with ⟨T, ty, hn, rfl⟩ | ⟨a, xs, rfl, ha, hn, rfl⟩ | ⟨a, u, v, nm, rfl, ha, fv, hn, rfl⟩
  · refine ⟨_, _, _, _, _, rfl, .ty _, ty, kit_ty (kit_tup ty hn), ?_⟩
    refine ⟨_, rfl, ?_⟩
    exact iteF (k H (Same.refl H))
  · refine ⟨_, _, _, _, _, rfl, .ty _, ty_tup ha, kit_ty (by decide +kernel : kitB "tuple" "tuple" = some true), ?_⟩
    refine ⟨_, rfl, iteT ?_⟩
    walk_at "v"
    refine ⟨_, _, rfl, .inr ⟨xs, SqT.of ha, rfl⟩, ?_⟩
    refine ⟨rfl, ?_⟩
    refine ⟨_, rfl, ?_⟩
    refine iteD (fun h => ?_) (fun _ => k H (Same.refl H))
    exact absurd (by injection h with h; omega) hn
  · refine ⟨_, _, _, _, _, rfl, .ty _, ty_tup ha, kit_ty (by decide +kernel : kitB "tuple" "tuple" = some true), ?_⟩
    refine ⟨_, rfl, iteT ?_⟩
    walk_at "v"
    refine ⟨_, _, rfl, .inr ⟨_, SqT.of ha, rfl⟩, ?_⟩
    refine ⟨rfl, ?_⟩
    refine ⟨_, rfl, ?_⟩
    refine iteD (fun _ => ?_) (fun h => absurd rfl h)
    walk_at "v"
    refine Or.inr (Or.inl ⟨_, _, _, _, rfl, rfl, SqT.of ha, rfl, ?_⟩)
    refine ⟨u, nm, rfl, hn, fun H1 s1 => ?_⟩
    refine ⟨_, rfl, ?_⟩
    cases nm with
    | none =>
      refine iteF ?_
      exact k H1 s1
    | some n =>
      refine iteT ?_
      walk_at "v"
      refine Or.inr (Or.inl ⟨_, _, _, _, rfl, rfl, SqT.of (s1 _ _ ha), rfl, ?_⟩)
      refine ⟨by show 2 ≤ sizeLine; decide, fun t ht => ?_⟩
      rcases fv with fv | ⟨q, w, rfl, hq, hw⟩
      · refine .inl ⟨t, _, rfl, .inr (SqT.of upd_same), fv, rfl, ?_⟩
        show Q (.bl (inV v [.str "number", .str "word"])) _
        rw [in_kinds fv]
        have e : (kindOf v).isSome = ((some n).bind fun n => (kindOf v).map fun k => (n, k)).isSome := by cases kindOf v <;> rfl
        rw [e]
        exact k _ (Same.trans s1 (Same.new ht))
      · have st := Same.new (o := .tup [.str "number", .str "word"]) ht
        refine .inr ⟨.list [.str w], [.str "number", .str "word"], .lst (SqL.of (st _ _ (s1 _ _ hq))) (.cons (.str w) .nil), .tup (SqT.of upd_same) (.cons (.str _) (.cons (.str _) .nil)), shaped_lst1 (word_ok hw), by decide +kernel, ?_⟩
        have e : ([PyData.str "number", PyData.str "word"].any fun z => PyData.eqv z (.list [.str w])) = false := by simp [PyData.eqv]
        rw [e]
        exact k _ (Same.trans s1 st)
end Md

set_option Elab.async false
set_option linter.all false
set_option maxRecDepth 100000
set_option maxHeartbeats 4000000
namespace Md
open PySem PySem.Spec PyProof.Rows PySem.Calls L2
local macro_rules | `(tactic| walk_at "v") => `(tactic| refine ⟨_, rfl, ?_⟩)
local macro_rules | `(tactic| walk_at "ii") => `(tactic| refine ⟨_, _, rfl, rfl, ?_⟩)
/-! ### layouts in the heap -/
def LayOk (ns ks : List Str) : Prop := ∀ (i : Nat) n k, ns[i]? = some n → ks[i]? = some k → isWord n = true ∧ n ∉ kRES ∧ (k = "number" ∨ k = "word")
def LayAt (A : Ads) (H : Hp) (a : Addr) (ns ks : List Str) : Prop := ∃ dx tn tk, H a = some (.ins A.cLayout dx [("names", .ref tn), ("_kinds", .ref tk)]) ∧ TupF H tn (ns.map V.str) ∧ TupF H tk (ks.map V.str) ∧ ns.length = ks.length ∧
  ns.length ≤ 5 ∧ LayOk ns ks ∧ ∀ (i : Nat) n, ns[i]? = some n → ∀ j, j < i → ns[j]? ≠ some n
theorem TupF.same {H H' : Hp} {a : Addr} {ys : List V} (h : TupF H a ys) (s : Same H H') : TupF H' a ys := by
  obtain ⟨o, h, r⟩ := h
  exact ⟨o, s _ _ h, r⟩
theorem LayAt.same {A : Ads} {H H' : Hp} {a : Addr} {ns ks : List Str} (h : LayAt A H a ns ks) (s : Same H H') : LayAt A H' a ns ks := by
  obtain ⟨dx, tn, tk, h1, h2, h3, h⟩ := h
  exact ⟨dx, tn, tk, s _ _ h1, h2.same s, h3.same s, h⟩
theorem FieldB.some_ {K : PySem.W.Frag} {H : Hp} {x : V} {n k : Str} (h : FieldB K H x (some (n, k))) : ∃ t, x = .ref t ∧ H t = some (.tup [.str n, .str k]) := by
  rcases h with ⟨T, _, _, e⟩ | ⟨a, xs, _, _, _, e⟩ | ⟨a, u, v, nm, rfl, ha, hf, hn, e⟩
  · cases e
  · cases e
  · rcases hn with ⟨_, rfl⟩ | ⟨z, rfl, _, _, rfl⟩
    · cases e
    · by_cases c : z ∈ kRES
      · rw [if_pos c] at e; cases e
      · rw [if_neg c] at e
        cases v with
        | str w =>
          have e' : some (n, k) = (if w = "number" ∨ w = "word" then some w else none : Option Str).map fun k => (z, k) := e
          by_cases d : w = "number" ∨ w = "word"
          · rw [if_pos d] at e'
            cases e'
            exact ⟨a, rfl, ha⟩
          · rw [if_neg d] at e'; cases e'
        | _ => cases e
theorem FieldB.word {K : PySem.W.Frag} {H : Hp} {x : V} {n k : Str} (h : FieldB K H x (some (n, k))) : isWord n = true ∧ n ∉ kRES ∧ (k = "number" ∨ k = "word") := by
  rcases h with ⟨T, _, _, e⟩ | ⟨a, xs, _, _, _, e⟩ | ⟨a, u, v, nm, rfl, ha, hf, hn, e⟩
  · cases e
  · cases e
  · rcases hn with ⟨_, rfl⟩ | ⟨z, rfl, _, hw, rfl⟩
    · cases e
    · by_cases c : z ∈ kRES
      · rw [if_pos c] at e; cases e
      · rw [if_neg c] at e
        cases v with
        | str w =>
          have e' : some (n, k) = (if w = "number" ∨ w = "word" then some w else none : Option Str).map fun k => (z, k) := e
          by_cases d : w = "number" ∨ w = "word"
          · rw [if_pos d] at e'
            cases e'
            exact ⟨hw, c, d⟩
          · rw [if_neg d] at e'; cases e'
        | _ => cases e
theorem SqL.xbI {K : PySem.W.Frag} {H H2 H3 : Hp} {l a C dx : Addr} {xs : List V} {fs : List (Str × V)} (h : SqL K H l xs) (ha : H a = some (.ins C dx fs)) (s : Same H H2) (x : Xb a H2 H3) : SqL K H3 l xs := by
  rcases h with (h | ⟨o, h⟩) | h
  · exact .inl (.inl (x _ _ (ne_of h ha (by intro z; cases z)) (s _ _ h)))
  · exact .inl (.inr ⟨o, x _ _ (ne_of h ha (by intro z; cases z)) (s _ _ h)⟩)
  · exact .inr h
/-! ### Layout.__init__ -/
def t_BadLayout___init__ (K : PySem.W.Frag) (A : Ads) (E : XK) : TS :=
    (tOst K "at" (tVar 0) (tVar 1))
def n_BadLayout___init__ : List Str := ["self", "at"]
def sp_BadLayout___init__ (K : PySem.W.Frag) (A : Ads) : Sp := spXi A.cBadLayout "at"
def t_Layout___init__ (K : PySem.W.Frag) (A : Ads) (E : XK) : TS :=
    (tSeq (tIfS (tOr (tNot (tB (tCB (rIsi K) (tCons (tVar 1) (tCons (tC (.ty "list")) tNil))))) (tNot (tTest (tChain rLe rLe (tC (.int 1)) (tCB (rLen K) (tCons (tVar 1) tNil)) (tC (.int 5)))))) (tRaise E (tMkO A.cBadLayout (sp_BadLayout___init__ K A) [] (tCons (tUn rNeg (tC (.int 1))) tNil))) tNext)
    (tSeq (tAsg (tLst tNil) (gName 2))
    (tSeq (tFor (iEnum K (tCons (tVar 1) tNil)) (gTup K 2 (gCons (gName 3) (gCons (gName 4) gNil))) (tSeq (tIfS (tOr (tNot (tB (tCall (sp__is_field K A) [] E0 (tCons (tVar 4) tNil)))) (tTest (tOp (rIn K false) (tOp (rIx K) (tVar 4) (tC (.int 0))) (tVar 2)))) (tRaise E (tMkO A.cBadLayout (sp_BadLayout___init__ K A) [] (tCons (tVar 3) tNil))) tNext)
    (tDrop (tBM K "list" rAppend (tVar 2) (tCons (tOp (rIx K) (tVar 4) (tC (.int 0))) tNil)))))
    (tSeq (sFld K (tVar 0) (tCB (rTupF K) (tCons (tVar 2) tNil)) "names")
    (sFld K (tVar 0) (tCB (rTupF K) (tCons (tLc (iList K (tVar 1)) (gName 4) tYes (tOp (rIx K) (tVar 4) (tC (.int 1))) [4]) tNil)) "_kinds")))))
def n_Layout___init__ : List Str := ["self", "fields", "names", "at", "field"]
def NoLay (K : PySem.W.Frag) (H : Hp) (x : V) : Prop := (∃ T, TyX K H x (.type T) ∧ T ≠ "list") ∨ ∃ l xs, x = .ref l ∧ SqL K H l xs ∧ TyX K H x (.type "list") ∧ (xs.length = 0 ∨ 5 < xs.length)
theorem kit_list {K : PySem.W.Frag} {H : Hp} {x : V} {T : String} (ty : TyX K H x (.type T)) (hn : T ≠ "list") : kitB T "list" = some false := by
  cases ty with
  | base b => cases b <;> first | exact absurd rfl hn | decide +kernel
  | _ => first | exact absurd rfl hn | decide +kernel
def sp_Layout___init__ (K : PySem.W.Frag) (A : Ads) : Sp := fun vs H Q E => (∃ (a dx : Addr) (x : V), vs = [.ref a, x] ∧ H a = some (.ins A.cLayout dx []) ∧ NoLay K H x ∧ ∀ d H', Same H H' → H' d = some (.xd [("at", .int (-1))]) → E (.ref A.cBadLayout) (some d) H') ∨ ∃ (a dx l : Addr) (xs : List V) (rs : List (Option (Str × Str))) (ns ks : List Str), vs = [.ref a, .ref l] ∧ H a = some (.ins A.cLayout dx []) ∧ SqL K H l xs ∧ TyX K H (.ref l) (.type "list") ∧
  xs.length = rs.length ∧ 1 ≤ xs.length ∧ xs.length ≤ 5 ∧ (∀ (i : Nat) x r, xs[i]? = some x → rs[i]? = some r → FieldB K H x r) ∧ ns.length ≤ rs.length ∧ ks.length = ns.length ∧
  (∀ (i : Nat) n k, ns[i]? = some n → ks[i]? = some k → rs[i]? = some (some (n, k)) ∧ n ∉ ns.take i) ∧
  (ns.length = rs.length → ∀ H', Xb a H H' → LayAt A H' a ns ks → Q .non H') ∧
  (ns.length < rs.length → (∃ r, rs[ns.length]? = some r ∧ ∀ n k, r = some (n, k) → n ∈ ns) ∧ ∀ d H', Xb a H H' → H' d = some (.xd [("at", .int (ns.length : Nat))]) → E (.ref A.cBadLayout) (some d) H')
theorem len_Layout___init__ {K : PySem.W.Frag} {A : Ads} {vs : List V} {H : Hp} {Q : VK} {E : XK} (h : sp_Layout___init__ K A vs H Q E) : vs.length = 2 := by
  rcases h with ⟨a, dx, x, rfl, _⟩ | ⟨a, dx, l, xs, rs, ns, ks, rfl, _⟩ <;> rfl
theorem pure_Layout___init__ {K : PySem.W.Frag} {A : Ads} (cl : Cls K A.cLayout) (nk : NoAttr K A.cLayout "_kinds") (nn : NoAttr K A.cLayout "names") {vs : List V} {H : Hp} {Q : VK} {E : XK} (h : sp_Layout___init__ K A vs H Q E) :
    t_Layout___init__ K A E { nx := fun _ H' => Q .non H', rt := Q } (start n_Layout___init__ vs) H := by
  rcases h with ⟨a, dx, x, rfl, ha, hx, kb⟩ | ⟨a, dx, l, xs, rs, ns, ks, rfl, ha, hl, tl, hxr, h1, h5, hF, hnr, hkn, hG, kok, kbad⟩
  · walk_at "v"
    have fin : ∀ {D : Ends} {σ : L2.St}, tRaise E (tMkO A.cBadLayout (sp_BadLayout___init__ K A) [] (tCons (tUn rNeg (tC (.int 1))) tNil)) D σ H := fun {D σ} => by
      refine ⟨_, rfl, ?_⟩
      exact mk_xi fun d H' s h => kb d H' s h
    rcases hx with ⟨T, ty, hn⟩ | ⟨l, xs, rfl, hl, tl, hlen⟩
    · refine ⟨_, _, _, _, _, rfl, .ty _, ty, kit_ty (kit_list ty hn), ?_⟩
      refine ⟨_, rfl, ?_⟩
      show (if (!false) = true then _ else _)
      refine iteT ?_
      show (if true = true then _ else _)
      refine iteT ?_
      exact fin
    · refine ⟨_, _, _, _, _, rfl, .ty _, tl, kit_ty (by decide +kernel : kitB "list" "list" = some true), ?_⟩
      refine ⟨_, rfl, ?_⟩
      show (if (!true) = true then _ else _)
      refine iteF ?_
      walk_at "v"
      refine ⟨_, _, rfl, .inl ⟨_, hl, rfl⟩, ?_⟩
      walk_at "ii"
      refine ⟨_, rfl, ?_⟩
      refine iteD (fun h1 => ?_) (fun h1 => ?_)
      · walk_at "ii"
        refine ⟨_, rfl, ?_⟩
        refine iteN (fun h5 => absurd h5 (by omega)) (fun h5 => ?_)
        exact fin
      · refine ⟨_, rfl, ?_⟩
        show (if (!false) = true then _ else _)
        refine iteT ?_
        exact fin
  walk_at "v"
  refine ⟨_, _, _, _, _, rfl, .ty _, tl, kit_ty (by decide +kernel : kitB "list" "list" = some true), ?_⟩
  walk_at "v"
  show (if (!true) = true then _ else _)
  refine iteF ?_
  walk_at "v"
  refine ⟨_, _, rfl, .inl ⟨_, hl, rfl⟩, ?_⟩
  walk_at "ii"
  refine ⟨_, rfl, ?_⟩
  refine iteD (fun _ => ?_) (fun h => absurd (by omega) h)
  walk_at "ii"
  refine ⟨_, rfl, ?_⟩
  refine iteN (fun _ => ?_) (fun h => absurd (by omega) h)
  -- names = []
  refine ⟨by show 0 ≤ sizeLine; decide, fun nl hnl => ?_⟩
  have s0 := Same.new (o := .lst []) hnl
  walk_at "v"
  refine ⟨l, xs, rfl, Md.Same.sqL s0 hl, ?_⟩
  refine for_it (walk_enum (K := K) (a := l) (xs := xs)) (fun i σ H' => i ≤ ns.length ∧ Same H H' ∧ (∃ w3 w4, σ = [some (.ref a), some (.ref l), some (.ref nl), w3, w4]) ∧ H' nl = some (.lst ((ns.take i).map V.str)))
    ⟨Nat.zero_le _, s0, ⟨_, _, rfl⟩, upd_same⟩ (fun i σ H' _ z => Md.Same.sqL z.2.1 hl) ?_ ?_
  · rintro i x σ H1 H1' hi ⟨him, s1, ⟨w3, w4, rfl⟩, hnl1⟩ ⟨T, y0, y, rfl, hT, rfl, ey0, hy⟩
    cases ey0
    have sT := Same.new (o := .tup [.int (i : Nat), y]) hT
    have s2 := Same.trans s1 sT
    refine ⟨T, _, rfl, SqT.of upd_same, rfl, _, _, rfl, _, _, rfl, rfl, ?_⟩
    have hnl2 := sT _ _ hnl1
    generalize upd H1 T (.tup [.int (i : Nat), y]) = H2 at hnl2 s2 ⊢
    obtain ⟨r, hr⟩ : ∃ r, rs[i]? = some r := ⟨rs[i], List.getElem?_eq_getElem (by omega)⟩
    have hf := (hF i y r hy hr).mono s2
    walk_at "v"
    refine ⟨y, r, rfl, hf, fun H3 s3 => ?_⟩
    have hnl3 := s3 _ _ hnl2
    have s3' := Same.trans s2 s3
    refine ⟨_, rfl, ?_⟩
    rcases Nat.lt_or_ge i ns.length with hlt | hge
    · obtain ⟨n, en⟩ : ∃ n, ns[i]? = some n := ⟨ns[i], List.getElem?_eq_getElem hlt⟩
      obtain ⟨k, ek⟩ : ∃ k, ks[i]? = some k := ⟨ks[i], List.getElem?_eq_getElem (by omega)⟩
      obtain ⟨er, hni⟩ := hG i n k en ek
      rw [hr] at er
      cases er
      obtain ⟨t, rfl, ht⟩ := (hf.mono s3).some_
      show (if (!true) = true then _ else _)
      refine iteF ?_
      walk_at "v"
      refine Or.inr (Or.inl ⟨_, _, _, _, rfl, rfl, SqT.of ht, rfl, ?_⟩)
      walk_at "v"
      refine ⟨nl, _, rfl, .inl (SqL.of hnl3), rfl, flat_strs _, ?_⟩
      refine ⟨_, rfl, ?_⟩
      have e : inV (.str n) ((ns.take i).map V.str) = false := by rw [inV_strs]; exact decide_eq_false hni
      show (if inV (.str n) ((ns.take i).map V.str) = true then _ else _)
      rw [e]
      refine iteF ?_
      walk_at "v"
      refine ⟨.inl ⟨rfl, _, SqL.of hnl3⟩, ?_⟩
      walk_at "v"
      refine Or.inr (Or.inl ⟨_, _, _, _, rfl, rfl, SqT.of ht, rfl, ?_⟩)
      refine ⟨nl, _, _, rfl, rfl, hnl3, ?_, ?_⟩
      · rw [List.length_map, List.length_take]
        exact Nat.lt_of_le_of_lt (Nat.min_le_right _ _) (Nat.lt_of_lt_of_le (show ns.length < 6 by omega) (by decide))
      · refine ⟨hlt, fun b o hb => ?_, ⟨_, _, rfl⟩, ?_⟩
        · rw [upd_ne (ne_of_none hb hnl)]
          exact s3' b o hb
        · rw [upd_same, List.take_succ, en]
          simp
    · obtain ⟨⟨r', er', hr'⟩, kb⟩ := kbad (by omega)
      have ei : i = ns.length := by omega
      subst ei
      rw [hr] at er'
      cases er'
      cases r with
      | none =>
        show (if (!false) = true then _ else _)
        refine iteT ?_
        show (if true = true then _ else _)
        refine iteT ?_
        walk_at "v"
        exact mk_xi fun d H' s h => kb d H' (Xb.of (Same.trans s3' s)) h
      | some q =>
        obtain ⟨n, k⟩ := q
        have hin := hr' n k rfl
        obtain ⟨t, rfl, ht⟩ := (hf.mono s3).some_
        show (if (!true) = true then _ else _)
        refine iteF ?_
        walk_at "v"
        refine Or.inr (Or.inl ⟨_, _, _, _, rfl, rfl, SqT.of ht, rfl, ?_⟩)
        walk_at "v"
        refine ⟨nl, _, rfl, .inl (SqL.of hnl3), rfl, flat_strs _, ?_⟩
        refine ⟨_, rfl, ?_⟩
        have e : inV (.str n) ((ns.take ns.length).map V.str) = true := by rw [inV_strs, List.take_length]; exact decide_eq_true hin
        show (if inV (.str n) ((ns.take ns.length).map V.str) = true then _ else _)
        rw [e]
        refine iteT ?_
        walk_at "v"
        exact mk_xi fun d H' s h => kb d H' (Xb.of (Same.trans s3' s)) h
  · rintro σ H1 ⟨him, s1, ⟨w3, w4, rfl⟩, hnl1⟩
    have em : ns.length = rs.length := by omega
    have et : ns.take xs.length = ns := List.take_of_length_le (by omega)
    rw [et] at hnl1
    walk_at "v"
    refine ⟨nl, _, rfl, SqL.of hnl1, fun tn on htn hcn hdn => ?_⟩
    have sn := Same.new (o := .frz on (.tup (ns.map V.str))) htn
    have s2 := Same.trans s1 sn
    have gtn : TupF (upd H1 tn (.frz on (.tup (ns.map V.str)))) tn (ns.map V.str) := ⟨on, upd_same, hcn, hdn⟩
    generalize upd H1 tn (.frz on (.tup (ns.map V.str))) = H2 at gtn s2 ⊢
    walk_at "v"
    have ha2 := s2 _ _ ha
    refine ⟨a, A.cLayout, dx, [], rfl, ha2, cl, nn, by decide, ?_⟩
    have x3 : Xb a H2 (upd H2 a (.ins A.cLayout dx (putF "names" (.ref tn) []))) := Xb.upd Xb.refl
    have ha3 : (upd H2 a (.ins A.cLayout dx (putF "names" (.ref tn) []))) a = some (.ins A.cLayout dx [("names", .ref tn)]) := upd_same
    generalize upd H2 a (.ins A.cLayout dx (putF "names" (.ref tn) [])) = H3 at x3 ha3 ⊢
    have hl3 := SqL.xbI hl ha s2 x3
    have ntn : tn ≠ a := by
      obtain ⟨o, e, _⟩ := gtn
      exact ne_of e ha2 (by intro z; cases z)
    have gtn3 : TupF H3 tn (ns.map V.str) := by
      obtain ⟨o, e, r⟩ := gtn
      exact ⟨o, x3 _ _ ntn e, r⟩
    walk_at "v"
    refine ⟨l, rfl, ⟨xs, hl3⟩, fun D hD => ?_⟩
    refine lc_list (K := K) (a := l) (xs := xs) (fun i H' => Same H3 H' ∧ H' D = some (.lst ((ks.take i).map V.str))) ⟨Same.new hD, upd_same⟩ (fun i H' _ z => Same.sqL z.1 hl3) ?_ ?_
    · rintro i x H4 hx ⟨s4, hD4⟩
      have hi : i < ns.length := by
        have := (List.getElem?_eq_some_iff.mp hx).1
        omega
      obtain ⟨n, en⟩ : ∃ n, ns[i]? = some n := ⟨ns[i], List.getElem?_eq_getElem hi⟩
      obtain ⟨k, ek⟩ : ∃ k, ks[i]? = some k := ⟨ks[i], List.getElem?_eq_getElem (by omega)⟩
      obtain ⟨t, rfl, ht⟩ := (hF i x _ hx (hG i n k en ek).1).some_
      have ht2 := s2 _ _ ht
      have ht4 := s4 _ _ (x3 t _ (ne_of ht2 ha2 (by intro z; cases z)) ht2)
      refine ⟨rfl, ?_⟩
      walk_at "v"
      refine Or.inr (Or.inl ⟨_, _, _, _, rfl, rfl, SqT.of ht4, rfl, ?_⟩)
      refine ⟨_, hD4, ?_, fun b o hb => ?_, ?_⟩
      · rw [List.length_map, List.length_take]
        exact Nat.lt_of_le_of_lt (Nat.min_le_right _ _) (Nat.lt_of_lt_of_le (show ks.length < 6 by omega) (by decide))
      · rw [upd_ne (ne_of_none hb hD)]
        exact s4 b o hb
      · rw [upd_same, List.take_succ, ek]
        simp
    · rintro H4 ⟨s4, hD4⟩
      have ek : ks.take xs.length = ks := List.take_of_length_le (by omega)
      rw [ek] at hD4
      refine ⟨D, _, rfl, SqL.of hD4, fun tk ok_ htk hck hdk => ?_⟩
      have s5 := Same.trans s4 (Same.new (o := .frz ok_ (.tup (ks.map V.str))) htk)
      have gtk : TupF (upd H4 tk (.frz ok_ (.tup (ks.map V.str)))) tk (ks.map V.str) := ⟨ok_, upd_same, hck, hdk⟩
      generalize upd H4 tk (.frz ok_ (.tup (ks.map V.str))) = H5 at gtk s5 ⊢
      have ha5 := s5 _ _ ha3
      walk_at "v"
      refine ⟨a, A.cLayout, dx, _, rfl, ha5, cl, nk, by show 1 < 1000; decide, ?_⟩
      have ntk : tk ≠ a := by
        obtain ⟨o, e, _⟩ := gtk
        exact ne_of e ha5 (by intro z; cases z)
      refine kok em _ (fun b o nb hb => ?_) ⟨dx, tn, tk, upd_same, ?_, ?_, hkn.symm, by omega, fun i n k e1 e2 => ?_, fun i n hn j hj hjn => ?_⟩
      · rw [upd_ne nb]
        exact s5 _ _ (x3 _ _ nb (s2 _ _ hb))
      · obtain ⟨o, e, r⟩ := gtn3
        exact ⟨o, by rw [upd_ne ntn]; exact s5 _ _ e, r⟩
      · obtain ⟨o, e, r⟩ := gtk
        exact ⟨o, by rw [upd_ne ntk]; exact e, r⟩
      · have er := (hG i n k e1 e2).1
        have hi : i < rs.length := (List.getElem?_eq_some_iff.mp er).1
        have hx : xs[i]? = some xs[i] := List.getElem?_eq_getElem (by omega)
        exact (hF i _ _ hx er).word
      · have hi : i < ns.length := (List.getElem?_eq_some_iff.mp hn).1
        obtain ⟨k, ek⟩ : ∃ k, ks[i]? = some k := ⟨ks[i], List.getElem?_eq_getElem (by omega)⟩
        refine (hG i n k hn ek).2 (List.mem_of_getElem? (i := j) ?_)
        rw [List.getElem?_take_of_lt hj]
        exact hjn
/-! ### its length, a field's kind -/
def t_Layout___len__ (K : PySem.W.Frag) (A : Ads) (E : XK) : TS :=
    (tRet (tCB (rLen K) (tCons (tFld K (tVar 0) "names") tNil)))
def n_Layout___len__ : List Str := ["self"]
def sp_Layout___len__ (K : PySem.W.Frag) (A : Ads) : Sp := fun vs H Q _ => ∃ (a : Addr) (ns ks : List Str), vs = [.ref a] ∧ LayAt A H a ns ks ∧ Q (.int (ns.length : Nat)) H
theorem len_Layout___len__ {K : PySem.W.Frag} {A : Ads} {vs : List V} {H : Hp} {Q : VK} {E : XK} (h : sp_Layout___len__ K A vs H Q E) : vs.length = 1 := by
  obtain ⟨a, _, _, rfl, _⟩ := h
  rfl
theorem pure_Layout___len__ {K : PySem.W.Frag} {A : Ads} (cl : Cls K A.cLayout) (nn : NoAttr K A.cLayout "names") {vs : List V} {H : Hp} {Q : VK} {E : XK} (h : sp_Layout___len__ K A vs H Q E) :
    t_Layout___len__ K A E { nx := fun _ H' => Q .non H', rt := Q } (start n_Layout___len__ vs) H := by
  obtain ⟨a, ns, ks, rfl, ⟨dx, tn, tk, ha, gn, gk, r⟩, k⟩ := h
  walk_at "v"
  refine ⟨a, _, dx, _, _, rfl, ha, cl, nn, rfl, ?_⟩
  refine ⟨_, _, rfl, .inr ⟨_, gn.seq, rfl⟩, ?_⟩
  rw [List.length_map]
  exact k
def t_BadField___init__ (K : PySem.W.Frag) (A : Ads) (E : XK) : TS :=
    (tOst K "name" (tVar 0) (tVar 1))
def n_BadField___init__ : List Str := ["self", "name"]
def sp_BadField___init__ (K : PySem.W.Frag) (A : Ads) : Sp := spXi A.cBadField "name"
def t_Layout_kind (K : PySem.W.Frag) (A : Ads) (E : XK) : TS :=
    (tSeq (tIfS (tTest (tOp (rNotInT2 K) (tVar 1) (tFld K (tVar 0) "names"))) (tRaise E (tMkO A.cBadField (sp_BadField___init__ K A) [] (tCons (tVar 1) tNil))) tNext)
    (tRet (tOp (rIx K) (tFld K (tVar 0) "_kinds") (tBMF (rTIdx K) (tFld K (tVar 0) "names") (tCons (tVar 1) tNil)))))
def n_Layout_kind : List Str := ["self", "name"]
def sp_Layout_kind (K : PySem.W.Frag) (A : Ads) : Sp := fun vs H Q E => ∃ (a : Addr) (x : V) (d : PyData) (ns ks : List Str), vs = [.ref a, x] ∧ LayAt A H a ns ks ∧ Dp K H x d ∧ SeqAt.shaped d = true ∧
  (∀ (i : Nat) n k, x = .str n → ns[i]? = some n → ks[i]? = some k → Q (.str k) H) ∧ (inD ns d = false → ∀ dd H', Same H H' → H' dd = some (.xd [("name", x)]) → E (.ref A.cBadField) (some dd) H')
theorem len_Layout_kind {K : PySem.W.Frag} {A : Ads} {vs : List V} {H : Hp} {Q : VK} {E : XK} (h : sp_Layout_kind K A vs H Q E) : vs.length = 2 := by
  obtain ⟨a, _, _, _, _, rfl, _⟩ := h
  rfl
theorem LayOk.strs {ns ks : List Str} (h : LayOk ns ks) (e : ns.length = ks.length) : ∀ n ∈ ns, isWord n = true ∧ n ∉ kRES := fun n hn => by
  obtain ⟨i, hi, e1⟩ := List.getElem_of_mem hn
  have z := h i n (ks[i]) (by rw [List.getElem?_eq_getElem hi, e1]) (List.getElem?_eq_getElem (by omega))
  exact ⟨z.1, z.2.1⟩
theorem LayOk.shaped {ns ks : List Str} (h : LayOk ns ks) (e : ns.length = ks.length) : SeqAt.shaped (.tuple (ns.map PyData.str)) = true := shaped_tupS fun n hn => word_ok (h.strs e n hn).1
theorem LayOk.kinds {ns ks : List Str} (h : LayOk ns ks) (e : ns.length = ks.length) : ∀ k ∈ ks, k = "number" ∨ k = "word" := fun k hk => by
  obtain ⟨i, hi, e1⟩ := List.getElem_of_mem hk
  exact (h i (ns[i]) k (List.getElem?_eq_getElem (by omega)) (by rw [List.getElem?_eq_getElem hi, e1])).2.2
theorem LayOk.shapedK {ns ks : List Str} (h : LayOk ns ks) (e : ns.length = ks.length) : SeqAt.shaped (.tuple (ks.map PyData.str)) = true := shaped_tupS fun k hk => by
  rcases h.kinds e k hk with rfl | rfl <;> decide +kernel
theorem pure_Layout_kind {K : PySem.W.Frag} {A : Ads} (cl : Cls K A.cLayout) (nk : NoAttr K A.cLayout "_kinds") (nn : NoAttr K A.cLayout "names") {vs : List V} {H : Hp} {Q : VK} {E : XK} (h : sp_Layout_kind K A vs H Q E) :
    t_Layout_kind K A E { nx := fun _ H' => Q .non H', rt := Q } (start n_Layout_kind vs) H := by
  obtain ⟨a, x, d, ns, ks, rfl, ⟨dx, tn, tk, ha, gn, gk, hnk, h5, hok, hd⟩, hx, hs, k1, k2⟩ := h
  walk_at "v"; walk_at "v"
  refine ⟨a, _, dx, _, _, rfl, ha, cl, nn, rfl, ?_⟩
  refine .inr ⟨d, _, hx, dp_tupS gn.seq, hs, hok.shaped hnk, ?_⟩
  refine ⟨_, rfl, ?_⟩
  show (if (!inD ns d) = true then _ else _)
  refine iteBN (fun hin => ?_) (fun hin => ?_)
  · obtain ⟨n, rfl, hn⟩ := inD_true hin
    obtain rfl := dp_str_inv hx
    obtain ⟨i, hi, e⟩ := List.getElem_of_mem hn
    have en : ns[i]? = some n := by rw [List.getElem?_eq_getElem hi, e]
    obtain ⟨k, ek⟩ : ∃ k, ks[i]? = some k := ⟨ks[i], List.getElem?_eq_getElem (by omega)⟩
    walk_at "v"
    refine ⟨a, _, dx, _, _, rfl, ha, cl, nk, rfl, ?_⟩
    walk_at "v"
    refine ⟨a, _, dx, _, _, rfl, ha, cl, nn, rfl, ?_⟩
    refine ⟨⟨tn, _, rfl, gn⟩, ?_⟩
    walk_at "v"
    refine ⟨tn, ns, n, i, rfl, rfl, gn.seq, en, fun m hm => hd i n en m hm, ?_⟩
    refine Or.inr (Or.inl ⟨_, _, _, _, rfl, rfl, gk.seq, ?_, k1 i n k rfl en ek⟩)
    have hik : i < (ks.map V.str).length := by rw [List.length_map]; omega
    obtain ⟨x, e1, e2⟩ := atI_of (xs := ks.map V.str) (d := (i : Int)) (by omega) (by omega)
    rw [e1]
    have e3 : (i : Int).toNat = i := by omega
    rw [e3, List.getElem?_map, ek] at e2
    exact e2.symm
  · walk_at "v"
    exact mk_xi fun d H' s h => k2 hin d H' s h
/-! ### a name among the fields; equal layouts -/
def t_Layout___contains__ (K : PySem.W.Frag) (A : Ads) (E : XK) : TS :=
    (tRet (tOp (rInT2 K) (tVar 1) (tFld K (tVar 0) "names")))
def n_Layout___contains__ : List Str := ["self", "name"]
def sp_Layout___contains__ (K : PySem.W.Frag) (A : Ads) : Sp := fun vs H Q _ => ∃ (a : Addr) (x : V) (d : PyData) (ns ks : List Str), vs = [.ref a, x] ∧ LayAt A H a ns ks ∧ Dp K H x d ∧ SeqAt.shaped d = true ∧ Q (.bl (inD ns d)) H
theorem len_Layout___contains__ {K : PySem.W.Frag} {A : Ads} {vs : List V} {H : Hp} {Q : VK} {E : XK} (h : sp_Layout___contains__ K A vs H Q E) : vs.length = 2 := by
  obtain ⟨a, _, _, _, _, rfl, _⟩ := h
  rfl
theorem pure_Layout___contains__ {K : PySem.W.Frag} {A : Ads} (cl : Cls K A.cLayout) (nn : NoAttr K A.cLayout "names") {vs : List V} {H : Hp} {Q : VK} {E : XK} (h : sp_Layout___contains__ K A vs H Q E) :
    t_Layout___contains__ K A E { nx := fun _ H' => Q .non H', rt := Q } (start n_Layout___contains__ vs) H := by
  obtain ⟨a, x, d, ns, ks, rfl, ⟨dx, tn, tk, ha, gn, gk, hnk, h5, hok, hd⟩, hx, hs, k⟩ := h
  walk_at "v"; walk_at "v"
  refine ⟨a, _, dx, _, _, rfl, ha, cl, nn, rfl, ?_⟩
  exact .inr ⟨d, _, hx, dp_tupS gn.seq, hs, hok.shaped hnk, k⟩
theorem eqv_strs : ∀ (xs ys : List Str), PyData.eqvAll (xs.map PyData.str) (ys.map PyData.str) = decide (xs = ys)
  | [], [] => by simp [PyData.eqvAll]
  | x :: xs, [] => by simp [PyData.eqvAll]
  | [], y :: ys => by simp [PyData.eqvAll]
  | x :: xs, y :: ys => by
    have ih := eqv_strs xs ys
    simp only [List.map_cons, PyData.eqvAll, PyData.eqv, ih, List.cons.injEq]
    by_cases c : x = y <;> by_cases d : xs = ys <;> simp [c, d]
/-- what stands beside a layout in ==: another layout, or a thing of a built-in type -/
def LayEq (K : PySem.W.Frag) (A : Ads) (H : Hp) (ns ks : List Str) (y : V) (b : Bool) : Prop := (∃ T, TyX K H y (.type T) ∧ offB T = true ∧ b = false) ∨ ∃ a ms ls, y = .ref a ∧ LayAt A H a ms ls ∧ b = decide (ns = ms ∧ ks = ls)
theorem LayEq.ty {K : PySem.W.Frag} {A : Ads} {H : Hp} {ns ks : List Str} {y : V} {b : Bool} (cl : Cls K A.cLayout) (tc : TyC K A.cLayout) (h : LayEq K A H ns ks y b) : ∃ t, TyX K H y t ∧ PySem.W.notFirst K A.cLayout t = true := by
  rcases h with ⟨T, ty, ho, _⟩ | ⟨a, ms, ls, rfl, ⟨dx, _, _, ha, _⟩, _⟩
  · exact ⟨_, ty, nf_off ho⟩
  · exact ⟨_, tc.ty cl ha, nf_self⟩
def t_Layout___eq__ (K : PySem.W.Frag) (A : Ads) (E : XK) : TS :=
    (tRet (tAndV (tCB (rIsi K) (tCons (tVar 1) (tCons (tC (.ref A.cLayout)) tNil))) (tAndV (tOp (rEqD K) (tFld K (tVar 0) "names") (tFld K (tVar 1) "names")) (tOp (rEqD K) (tFld K (tVar 0) "_kinds") (tFld K (tVar 1) "_kinds")))))
def n_Layout___eq__ : List Str := ["self", "other"]
def sp_Layout___eq__ (K : PySem.W.Frag) (A : Ads) : Sp := fun vs H Q _ => ∃ (a : Addr) (y : V) (ns ks : List Str) (b : Bool), vs = [.ref a, y] ∧ LayAt A H a ns ks ∧ LayEq K A H ns ks y b ∧ Q (.bl b) H
theorem len_Layout___eq__ {K : PySem.W.Frag} {A : Ads} {vs : List V} {H : Hp} {Q : VK} {E : XK} (h : sp_Layout___eq__ K A vs H Q E) : vs.length = 2 := by
  obtain ⟨a, _, _, _, _, rfl, _⟩ := h
  rfl
theorem pure_Layout___eq__ {K : PySem.W.Frag} {A : Ads} (cl : Cls K A.cLayout) (nk : NoAttr K A.cLayout "_kinds") (nn : NoAttr K A.cLayout "names") (tc : TyC K A.cLayout) {vs : List V} {H : Hp} {Q : VK} {E : XK} (h : sp_Layout___eq__ K A vs H Q E) :
    t_Layout___eq__ K A E { nx := fun _ H' => Q .non H', rt := Q } (start n_Layout___eq__ vs) H := by
  obtain ⟨a, y, ns, ks, b, rfl, ⟨dx, tn, tk, ha, gn, gk, hnk, h5, hok, hd⟩, hy, k⟩ := h
  walk_at "v"
  rcases hy with ⟨T, ty, ho, rfl⟩ | ⟨a2, ms, ls, rfl, ⟨dx2, tn2, tk2, ha2, gn2, gk2, hnk2, h52, hok2, hd2⟩, rfl⟩
  · refine ⟨_, _, _, _, _, rfl, .own _, ty, tc.off ho, ?_⟩
    exact ⟨_, rfl, iteF k⟩
  · refine ⟨_, _, _, _, _, rfl, .own _, tc.ty cl ha2, TyC.self, ?_⟩
    refine ⟨_, rfl, iteT ?_⟩
    walk_at "v"
    refine ⟨a, _, dx, _, _, rfl, ha, cl, nn, rfl, ?_⟩
    walk_at "v"
    refine ⟨a2, _, dx2, _, _, rfl, ha2, cl, nn, rfl, ?_⟩
    refine ⟨_, _, dp_tupS gn.seq, dp_tupS gn2.seq, hok.shaped hnk, hok2.shaped hnk2, ?_⟩
    have e : PyData.eqv (.tuple (ns.map PyData.str)) (.tuple (ms.map PyData.str)) = decide (ns = ms) := by rw [← eqv_strs]; simp [PyData.eqv]
    rw [e]
    refine ⟨_, rfl, ?_⟩
    refine iteD (fun h1 => ?_) (fun h1 => ?_)
    · walk_at "v"
      refine ⟨a, _, dx, _, _, rfl, ha, cl, nk, rfl, ?_⟩
      walk_at "v"
      refine ⟨a2, _, dx2, _, _, rfl, ha2, cl, nk, rfl, ?_⟩
      refine ⟨_, _, dp_tupS gk.seq, dp_tupS gk2.seq, hok.shapedK hnk, hok2.shapedK hnk2, ?_⟩
      have e : PyData.eqv (.tuple (ks.map PyData.str)) (.tuple (ls.map PyData.str)) = decide (ns = ms ∧ ks = ls) := by
        have : decide (ns = ms ∧ ks = ls) = decide (ks = ls) := by simp [h1]
        rw [this, ← eqv_strs]; simp [PyData.eqv]
      rw [e]
      exact k
    · have e : decide (ns = ms ∧ ks = ls) = false := by simp [h1]
      rw [e] at k
      exact k
end Md

set_option Elab.async false
set_option linter.all false
set_option maxRecDepth 100000
set_option maxHeartbeats 4000000
namespace Md
open PySem PySem.Spec PyProof.Rows PySem.Calls L2
local macro_rules | `(tactic| walk_at "v") => `(tactic| refine ⟨_, rfl, ?_⟩)
local macro_rules | `(tactic| walk_at "ii") => `(tactic| refine ⟨_, _, rfl, rfl, ?_⟩)
/-! ### what a field may hold -/
def HoldB (K : PySem.W.Frag) (H : Hp) (kd : Str) (x : V) (b : Bool) : Prop := (x = .non ∧ b = true) ∨ (x ≠ .non ∧ ((kd = "number" ∧ NumB K H x b) ∨ (kd ≠ "number" ∧ WordB K H x b)))
theorem HoldB.mono {K : PySem.W.Frag} {H H' : Hp} {kd : Str} {x : V} {b : Bool} (h : HoldB K H kd x b) (s : Same H H') : HoldB K H' kd x b := by
  rcases h with h | ⟨h, ⟨e, h2⟩ | ⟨e, h2⟩⟩
  · exact .inl h
  · exact .inr ⟨h, .inl ⟨e, h2.mono s⟩⟩
  · exact .inr ⟨h, .inr ⟨e, h2.mono s⟩⟩
def t_is_value (K : PySem.W.Frag) (A : Ads) (E : XK) : TS :=
    (tRet (tIf (tTest (tOp rEq (tVar 0) (tC (.str "number")))) (tCall (sp_is_number K A) [] E0 (tCons (tVar 1) tNil)) (tCall (sp_is_word K A) [] E0 (tCons (tVar 1) tNil))))
def n_is_value : List Str := ["kind", "thing"]
def ValB (K : PySem.W.Frag) (H : Hp) (kd : Str) (x : V) (b : Bool) : Prop := (kd = "number" ∧ NumB K H x b) ∨ (kd ≠ "number" ∧ WordB K H x b)
theorem ValB.mono {K : PySem.W.Frag} {H H' : Hp} {kd : Str} {x : V} {b : Bool} (h : ValB K H kd x b) (s : Same H H') : ValB K H' kd x b := by
  rcases h with ⟨e, h2⟩ | ⟨e, h2⟩
  · exact .inl ⟨e, h2.mono s⟩
  · exact .inr ⟨e, h2.mono s⟩
def sp_is_value (K : PySem.W.Frag) (A : Ads) : Sp := fun vs H Q _ => ∃ (kd : Str) (x : V) (b : Bool), vs = [.str kd, x] ∧ ValB K H kd x b ∧ ∀ H', Same H H' → Q (.bl b) H'
theorem len_is_value {K : PySem.W.Frag} {A : Ads} {vs : List V} {H : Hp} {Q : VK} {E : XK} (h : sp_is_value K A vs H Q E) : vs.length = 2 := by
  obtain ⟨a, _, _, rfl, _⟩ := h
  rfl
theorem pure_is_value {K : PySem.W.Frag} {A : Ads} {vs : List V} {H : Hp} {Q : VK} {E : XK} (h : sp_is_value K A vs H Q E) : t_is_value K A E { nx := fun _ H' => Q .non H', rt := Q } (start n_is_value vs) H := by
  obtain ⟨kd, x, b, rfl, h, k⟩ := h
  walk_at "v"
  refine ⟨rfl, ?_⟩
  refine ⟨_, rfl, ?_⟩
  refine iteD (fun hk => ?_) (fun hk => ?_)
  · rcases h with ⟨_, h⟩ | ⟨h, _⟩
    · walk_at "v"
      exact ⟨x, b, rfl, h, k H (Same.refl H)⟩
    · exact absurd (by injection hk) h
  · rcases h with ⟨h, _⟩ | ⟨_, h⟩
    · exact absurd (congrArg V.str h) hk
    · walk_at "v"
      exact ⟨x, b, rfl, h, k⟩
/-! ### first_wrong -/
def Holds1 (K : PySem.W.Frag) (H : Hp) (ns ks : List Str) (kvs : List (Key × V)) (i : Nat) (b : Bool) : Prop := ∀ n k, ns[i]? = some n → ks[i]? = some k → (b = true ∧ valV kvs (.inr n) = none) ∨ ∃ v, valV kvs (.inr n) = some v ∧ HoldB K H k v b
theorem Holds1.mono {K : PySem.W.Frag} {H H' : Hp} {ns ks : List Str} {kvs : List (Key × V)} {i : Nat} {b : Bool} (h : Holds1 K H ns ks kvs i b) (s : Same H H') : Holds1 K H' ns ks kvs i b := fun n k e1 e2 => by
  rcases h n k e1 e2 with h | ⟨v, e, h⟩
  · exact .inl h
  · exact .inr ⟨v, e, h.mono s⟩
def t_first_wrong (K : PySem.W.Frag) (A : Ads) (E : XK) : TS :=
    (tSeq (tFor (iTup K (tFld K (tVar 0) "names")) (gName 2) (tSeq (tAsg (tDGet1 (tVar 1) (tVar 2)) (gName 3))
    (tIfS (tAnd (tTest (tOp rNotN (tVar 3) (tC .non))) (tNot (tB (tCall (sp_is_value K A) [] E0 (tCons (tMeth A.cLayout "kind" (sp_Layout_kind K A) [] E (tVar 0) (tCons (tVar 2) tNil)) (tCons (tVar 3) tNil)))))) (tRet (tVar 2)) tNext)))
    (tRet (tC .non)))
def n_first_wrong : List Str := ["layout", "values", "name", "value"]
def sp_first_wrong (K : PySem.W.Frag) (A : Ads) : Sp := fun vs H Q _ => ∃ (a d : Addr) (ns ks : List Str) (kvs : List (Key × V)) (m : Nat), vs = [.ref a, .ref d] ∧ LayAt A H a ns ks ∧ H d = some (.dK kvs) ∧ m ≤ ns.length ∧
  (∀ i, i < m → Holds1 K H ns ks kvs i true) ∧ (m = ns.length → ∀ H', Same H H' → Q .non H') ∧ (m < ns.length → Holds1 K H ns ks kvs m false ∧ ∀ n H', ns[m]? = some n → Same H H' → Q (.str n) H')
theorem len_first_wrong {K : PySem.W.Frag} {A : Ads} {vs : List V} {H : Hp} {Q : VK} {E : XK} (h : sp_first_wrong K A vs H Q E) : vs.length = 2 := by
  obtain ⟨a, _, _, _, _, _, rfl, _⟩ := h
  rfl
theorem pure_first_wrong {K : PySem.W.Frag} {A : Ads} (cl : Cls K A.cLayout) (nn : NoAttr K A.cLayout "names") {vs : List V} {H : Hp} {Q : VK} {E : XK} (h : sp_first_wrong K A vs H Q E) :
    t_first_wrong K A E { nx := fun _ H' => Q .non H', rt := Q } (start n_first_wrong vs) H := by
  obtain ⟨a, d, ns, ks, kvs, m, rfl, lay, hd, hm, hok, k1, k2⟩ := h
  have lay0 := lay
  obtain ⟨dx, tn, tk, ha, gn, gk, hnk, h5, hok0, hdup⟩ := lay0
  walk_at "v"
  refine ⟨a, _, dx, _, _, rfl, ha, cl, nn, rfl, ?_⟩
  refine ⟨tn, rfl, ⟨_, gn.seq⟩, ?_⟩
  refine for_tup (K := K) (a := tn) (xs := ns.map V.str) (fun i σ H' => i ≤ m ∧ Same H H' ∧ ∃ w2 w3, σ = [some (.ref a), some (.ref d), w2, w3]) ⟨Nat.zero_le _, Same.refl H, _, _, rfl⟩ (fun i σ H' _ z => (gn.same z.2.1).seq) ?_ ?_
  · rintro i x σ H1 hx ⟨him, s1, w2, w3, rfl⟩
    have hi : i < ns.length := by
      have := (List.getElem?_eq_some_iff.mp hx).1
      rwa [List.length_map] at this
    obtain ⟨n, en⟩ : ∃ n, ns[i]? = some n := ⟨ns[i], List.getElem?_eq_getElem hi⟩
    obtain ⟨k, ek⟩ : ∃ k, ks[i]? = some k := ⟨ks[i], List.getElem?_eq_getElem (by omega)⟩
    rw [List.getElem?_map, en] at hx
    cases hx
    have hd1 := s1 _ _ hd
    have lay1 := lay.same s1
    walk_at "v"
    refine ⟨d, rfl, .inl ⟨kvs, .inl hd1⟩, ?_⟩
    walk_at "v"
    refine ⟨valV kvs (.inr n), DGet.k (k := .inr n) hd1, ?_⟩
    generalize hx : (valV kvs (.inr n)).getD .non = x
    have sg : SeqAt.shaped (.str n) = true := by
      unfold SeqAt.shaped
      simp [PyData.canLay0, PyData.depth, word_ok (hok0.strs hnk n (List.mem_of_getElem? en)).1]
    -- the rest of the test, when the value is not blank
    have rest : ∀ b, ValB K H k x b → ∀ Q2 : Bool → Hp → Prop, (∀ H', Same H H' → Q2 (!b) H') →
        tNot (tB (tCall (sp_is_value K A) [] E0 (tCons (tMeth A.cLayout "kind" (sp_Layout_kind K A) [] E (tVar 0) (tCons (tVar 2) tNil)) (tCons (tVar 3) tNil)))) [some (.ref a), some (.ref d), some (.str n), some x] H1 Q2 := by
      intro b hb Q2 hQ2
      walk_at "v"
      refine ⟨a, dx, _, rfl, s1 _ _ ha, rfl, ?_⟩
      walk_at "v"
      refine ⟨a, .str n, .str n, ns, ks, rfl, lay1, .str n, sg, fun i' n' k' en' e1 e2 => ?_, fun hn => ?_⟩
      · cases en'
        have ei : i' = i := by
          rcases Nat.lt_trichotomy i' i with z | z | z
          · exact absurd e1 (hdup i n en i' z)
          · exact z
          · exact absurd en (hdup i' n e1 i z)
        subst ei
        rw [ek] at e2
        cases e2
        walk_at "v"
        refine ⟨k, x, b, rfl, hb.mono s1, fun H2 s2 => ?_⟩
        exact ⟨_, rfl, hQ2 _ (Same.trans s1 s2)⟩
      · rw [inD_str, decide_eq_false_iff_not] at hn
        exact absurd (List.mem_of_getElem? en) hn
    rcases Nat.lt_or_ge i m with hlt | hge
    · walk_at "v"
      refine ⟨rfl, ?_⟩
      refine ⟨_, rfl, ?_⟩
      refine iteN (fun hx0 => ?_) (fun hx0 => ?_)
      · refine iteF ?_
        exact ⟨hlt, s1, _, _, rfl⟩
      · rcases hok i hlt n k en ek with ⟨_, hv⟩ | ⟨v, hv, hb⟩
        · rw [hv] at hx
          exact absurd hx.symm hx0
        · rw [hv] at hx
          obtain rfl : v = x := hx
          rcases hb with ⟨z, _⟩ | ⟨_, hb⟩
          · exact absurd z hx0
          refine rest true hb _ fun H' s' => ?_
          refine iteF ?_
          exact ⟨hlt, s', _, _, rfl⟩
    · have ei : i = m := by omega
      subst ei
      obtain ⟨hw, kr⟩ := k2 hi
      rcases hw n k en ek with ⟨hb, _⟩ | ⟨v, hv, hb⟩
      · cases hb
      · rw [hv] at hx
        obtain rfl : v = x := hx
        rcases hb with ⟨_, z⟩ | ⟨hx0, hb⟩
        · cases z
        walk_at "v"
        refine ⟨rfl, ?_⟩
        refine ⟨_, rfl, ?_⟩
        refine iteN (fun z => absurd z hx0) (fun _ => ?_)
        refine rest false hb _ fun H' s' => ?_
        refine iteT ?_
        walk_at "v"
        exact kr n H' en s'
  · rintro σ H1 ⟨him, s1, w2, w3, rfl⟩
    rw [List.length_map] at him
    exact k1 (by omega) H1 s1
/-! ### is_filling -/
def HasB (K : PySem.W.Frag) (H : Hp) (ns : List Str) (x : V) (b : Bool) : Prop := (∃ T, TyX K H x (.type T) ∧ T ≠ "dict" ∧ b = false) ∨
  ∃ d kvs, x = .ref d ∧ H d = some (.dK kvs) ∧ b = (decide (kvs.length = ns.length) && ns.all fun n => (valV kvs (.inr n)).isSome)
theorem kit_dict {K : PySem.W.Frag} {H : Hp} {x : V} {T : String} (ty : TyX K H x (.type T)) (hn : T ≠ "dict") : kitB T "dict" = some false := by
  cases ty with
  | base b => cases b <;> first | exact absurd rfl hn | decide +kernel
  | _ => first | exact absurd rfl hn | decide +kernel
def t__has_all_fields (K : PySem.W.Frag) (A : Ads) (E : XK) : TS :=
    (tRet (tAndV (tCB (rIsi K) (tCons (tVar 1) (tCons (tC (.ty "dict")) tNil))) (tAndV (tOp rEq (tCB rLenD (tCons (tVar 1) tNil)) (tCB (rLenO A.cLayout (sp_Layout___len__ K A) E0) (tCons (tVar 0) tNil))) (tCB (rAll K) (tCons (tLc (iTup K (tFld K (tVar 0) "names")) (gName 2) tYes (tDIn (tVar 2) (tVar 1)) [2]) tNil)))))
def n__has_all_fields : List Str := ["layout", "thing", "name"]
def sp__has_all_fields (K : PySem.W.Frag) (A : Ads) : Sp := fun vs H Q _ => ∃ (a : Addr) (x : V) (ns ks : List Str) (b : Bool), vs = [.ref a, x] ∧ LayAt A H a ns ks ∧ HasB K H ns x b ∧ ∀ H', Same H H' → Q (.bl b) H'
theorem len__has_all_fields {K : PySem.W.Frag} {A : Ads} {vs : List V} {H : Hp} {Q : VK} {E : XK} (h : sp__has_all_fields K A vs H Q E) : vs.length = 2 := by
  obtain ⟨a, _, _, _, _, rfl, _⟩ := h
  rfl
theorem pure__has_all_fields {K : PySem.W.Frag} {A : Ads} (cl : Cls K A.cLayout) (nn : NoAttr K A.cLayout "names") {vs : List V} {H : Hp} {Q : VK} {E : XK} (h : sp__has_all_fields K A vs H Q E) :
    t__has_all_fields K A E { nx := fun _ H' => Q .non H', rt := Q } (start n__has_all_fields vs) H := by
  obtain ⟨a, x, ns, ks, b, rfl, lay, hb, k⟩ := h
  have lay0 := lay
  obtain ⟨dx, tn, tk, ha, gn, gk, hnk, h5, hok0, hdup⟩ := lay0
  walk_at "v"
  rcases hb with ⟨T, ty, hn, rfl⟩ | ⟨d, kvs, rfl, hd, rfl⟩
  · refine ⟨_, _, _, _, _, rfl, .ty _, ty, kit_ty (kit_dict ty hn), ?_⟩
    exact ⟨_, rfl, iteF (k H (Same.refl H))⟩
  · refine ⟨_, _, _, _, _, rfl, .ty _, .base (.dK hd), kit_ty (by decide +kernel : kitB "dict" "dict" = some true), ?_⟩
    refine ⟨_, rfl, iteT ?_⟩
    walk_at "v"
    refine ⟨d, kvs, rfl, hd, ?_⟩
    walk_at "v"
    refine ⟨a, dx, _, rfl, ha, a, ns, ks, rfl, lay, _, rfl, by omega, ?_, ?_⟩
    · have : (2 : Int) ^ 63 = 9223372036854775808 := by decide
      omega
    refine ⟨rfl, ?_⟩
    refine ⟨_, rfl, ?_⟩
    refine iteD (fun he => ?_) (fun he => ?_)
    · have he' : kvs.length = ns.length := by injection he with he; omega
      walk_at "v"
      refine ⟨a, _, dx, _, _, rfl, ha, cl, nn, rfl, ?_⟩
      refine ⟨tn, rfl, ⟨_, gn.seq⟩, fun D hD => ?_⟩
      refine lc_tup (K := K) (a := tn) (xs := ns.map V.str) (fun i H' => Same H H' ∧ H' D = some (.lst ((ns.take i).map fun n => V.bl (valV kvs (.inr n)).isSome))) ⟨Same.new hD, upd_same⟩ (fun i H' _ z => (gn.same z.1).seq) ?_ ?_
      · rintro i x H1 hx ⟨s1, hl⟩
        have hi : i < ns.length := by
          have := (List.getElem?_eq_some_iff.mp hx).1
          rwa [List.length_map] at this
        obtain ⟨n, en⟩ : ∃ n, ns[i]? = some n := ⟨ns[i], List.getElem?_eq_getElem hi⟩
        rw [List.getElem?_map, en] at hx
        cases hx
        refine ⟨rfl, ?_⟩
        walk_at "v"; walk_at "v"
        refine ⟨d, _, rfl, DGet.k (k := .inr n) (s1 _ _ hd), ?_⟩
        refine ⟨_, hl, ?_, fun b o hb => ?_, ?_⟩
        · rw [List.length_map, List.length_take]
          exact Nat.lt_of_le_of_lt (Nat.min_le_right _ _) (Nat.lt_of_lt_of_le (show ns.length < 6 by omega) (by decide))
        · rw [upd_ne (ne_of_none hb hD)]
          exact s1 b o hb
        · rw [upd_same, List.take_succ, en]
          simp
      · rintro H1 ⟨s1, hl⟩
        rw [List.length_map, List.take_length] at hl
        refine ⟨D, ns.map fun n => (valV kvs (.inr n)).isSome, rfl, SqL.of (by rw [List.map_map]; exact hl), ?_⟩
        have e3 : (ns.map fun n => (valV kvs (.inr n)).isSome).all id = (decide (kvs.length = ns.length) && ns.all fun n => (valV kvs (.inr n)).isSome) := by
          rw [List.all_map, decide_eq_true he', Bool.true_and]
          rfl
        rw [e3]
        exact k H1 s1
    · have e3 : (decide (kvs.length = ns.length) && ns.all fun n => (valV kvs (.inr n)).isSome) = false := by
        rw [decide_eq_false (fun z => he (by rw [z])), Bool.false_and]
      rw [e3] at k
      exact k H (Same.refl H)
def FillB (K : PySem.W.Frag) (H : Hp) (ns ks : List Str) (x : V) (b : Bool) : Prop := (HasB K H ns x false ∧ b = false) ∨ ∃ d kvs m, x = .ref d ∧ H d = some (.dK kvs) ∧ HasB K H ns x true ∧ m ≤ ns.length ∧ (∀ i, i < m → Holds1 K H ns ks kvs i true) ∧
  ((m = ns.length ∧ b = true) ∨ (m < ns.length ∧ Holds1 K H ns ks kvs m false ∧ b = false))
def t_Layout_is_filling (K : PySem.W.Frag) (A : Ads) (E : XK) : TS :=
    (tRet (tAndV (tCall (sp__has_all_fields K A) [] E0 (tCons (tVar 0) (tCons (tVar 1) tNil))) (tOp rIsN (tCall (sp_first_wrong K A) [] E (tCons (tVar 0) (tCons (tVar 1) tNil))) (tC .non))))
def n_Layout_is_filling : List Str := ["self", "thing"]
def sp_Layout_is_filling (K : PySem.W.Frag) (A : Ads) : Sp := fun vs H Q _ => ∃ (a : Addr) (x : V) (ns ks : List Str) (b : Bool), vs = [.ref a, x] ∧ LayAt A H a ns ks ∧ FillB K H ns ks x b ∧ ∀ H', Same H H' → Q (.bl b) H'
theorem len_Layout_is_filling {K : PySem.W.Frag} {A : Ads} {vs : List V} {H : Hp} {Q : VK} {E : XK} (h : sp_Layout_is_filling K A vs H Q E) : vs.length = 2 := by
  obtain ⟨a, _, _, _, _, rfl, _⟩ := h
  rfl
theorem pure_Layout_is_filling {K : PySem.W.Frag} {A : Ads} {vs : List V} {H : Hp} {Q : VK} {E : XK} (h : sp_Layout_is_filling K A vs H Q E) :
    t_Layout_is_filling K A E { nx := fun _ H' => Q .non H', rt := Q } (start n_Layout_is_filling vs) H := by
  obtain ⟨a, x, ns, ks, b, rfl, lay, hb, k⟩ := h
  walk_at "v"; walk_at "v"
  rcases hb with ⟨hb, rfl⟩ | ⟨d, kvs, m, rfl, hd, hb, hm, hok, hr⟩
  · refine ⟨a, x, ns, ks, false, rfl, lay, hb, fun H1 s1 => ?_⟩
    exact ⟨_, rfl, iteF (k H1 s1)⟩
  · refine ⟨a, .ref d, ns, ks, true, rfl, lay, hb, fun H1 s1 => ?_⟩
    refine ⟨_, rfl, iteT ?_⟩
    walk_at "v"; walk_at "v"
    refine ⟨a, d, ns, ks, kvs, m, rfl, lay.same s1, s1 _ _ hd, hm, fun i hi => (hok i hi).mono s1, fun em H2 s2 => ?_, fun hlt => ?_⟩
    · rcases hr with ⟨_, rfl⟩ | ⟨h, _⟩
      · exact ⟨rfl, k H2 (Same.trans s1 s2)⟩
      · omega
    · rcases hr with ⟨h, _⟩ | ⟨_, hw, rfl⟩
      · omega
      · exact ⟨hw.mono s1, fun n H2 en s2 => ⟨rfl, k H2 (Same.trans s1 s2)⟩⟩
end Md

set_option Elab.async false
set_option linter.all false
set_option maxRecDepth 100000
set_option maxHeartbeats 4000000
namespace Md
open PySem PySem.Spec PyProof.Rows PySem.Calls L2
/-! a method of ** alone, called by keywords -/
def kwFor (kws : List (Str × Value)) (d : Addr) : Sem PUnit := forIn kws PUnit.unit (fun x _ => (nsSet d x.1 x.2 >>= fun _ => pure (ForInStep.yield PUnit.unit)))
/-- where keywords go, in a def of one parameter and ** -/
def kwTo (kws : List (Str × Value)) (u0 : Value) (p0 pd : Str) : Sem (List (Str × Value)) :=
  (alloc ({ cls := .type "dict", data := .dict #[] } : Obj) : Sem Addr) >>= fun d => kwFor kws d >>= fun _ => pure [(p0, u0), (pd, Value.ref d)]
theorem loop_pure {α σ : Type} (f : α → σ → Sem (ForInStep σ)) (g : σ → α → σ) : ∀ (l : List α) (s : σ), (∀ x ∈ l, ∀ s, f x s = pure (.yield (g s x))) → forIn l s f = pure (l.foldl g s)
  | [], s, _ => rfl
  | x :: r, s, h => by
    rw [List.forIn_cons, h x (.head _)]
    show forIn r (g s x) f = _
    rw [loop_pure f g r _ fun y hy => h y (.tail _ hy)]
    rfl
theorem foldl_put {β : Type} (c : β) : ∀ (l acc : List (Str × Value)), l.foldl (fun (s : β × List (Str × Value)) x => (s.1, s.2 ++ [(x.1, x.2)])) (c, acc) = (c, acc ++ l)
  | [], acc => by rw [List.append_nil]; rfl
  | x :: r, acc => by
    show r.foldl _ (c, acc ++ [x]) = _
    rw [foldl_put c r, List.append_assoc]
    rfl
theorem bind_kw {fd : FuncData} {u0 : Value} {p0 pd : Str} {an ad : Arg} (h1 : fd.params.posonlyargs = []) (h2 : fd.params.args = [an]) (h3 : fd.params.vararg = none) (h4 : fd.params.kwonlyargs = []) (h5 : fd.params.kwarg = some ad) (h6 : fd.defaults = .none) (e1 : an.arg = p0) (e2 : ad.arg = pd)
    (kws : List (Str × Value)) (hk : ∀ x ∈ kws, x.1 ≠ p0) (hl : kws.length ≤ 1000) : bindArgs fd ⟨[u0], kws⟩ = kwTo kws u0 p0 pd := by
  have hc : ∀ x ∈ kws, [p0].contains x.1 = false := fun x hx => by
    show (x.1 == p0 || false) = false
    rw [beq_eq_false_iff_ne.mpr (hk x hx)]
    rfl
  have hz : ¬ ([] ++ kws).length > sizeLine + 1 := by rw [sizeLine_eq, List.nil_append]; omega
  have lk : List.lookup p0 [(p0, u0)] = some u0 := by rw [List.lookup_cons, beq_self_eq_true]
  unfold bindArgs
  simp only [h1, h2, h3, h4, h5, h6, e1, e2, List.map_nil, List.map_cons, List.nil_append, List.append_nil, List.zip_cons_cons, List.zip_nil_left]
  rw [loop_pure _ (fun (s : List (Str × Value) × List (Str × Value)) x => (s.1, s.2 ++ [(x.1, x.2)])) kws _ fun x hx s => by
    rw [hc x hx]
    rfl]
  rw [foldl_put]
  show (if (!(List.filter (fun n => (List.lookup n [(p0, u0)]).isNone) [p0]).isEmpty) = true then _ else _) = _
  refine (if_neg (fun z => ?_)).trans ?_
  · rw [List.filter_cons, lk] at z
    cases z
  · show (if ([] ++ kws).length > sizeLine + 1 then _ else _) = _
    refine (if_neg hz).trans ?_
    show ((alloc ({ cls := .type "dict", data := .dict #[] } : Obj) : Sem Addr) >>= fun d => forIn ([] ++ kws) PUnit.unit (fun x _ => (nsSet d x.1 x.2 >>= fun _ => pure (ForInStep.yield PUnit.unit))) >>= fun _ => pure (List.filterMap (fun n => (List.lookup n [(p0, u0)]).map (n, ·)) [p0] ++ [(pd, Value.ref d)])) = _
    rw [List.nil_append, List.filterMap_cons, lk]
    rfl

theorem push_upd (h : Heap) (o : Obj) (f : Obj → Obj) : (h.push o).update h.objs.size f = h.push (f o) := by
  obtain ⟨objs, l⟩ := h
  show (⟨(objs.push o).modify objs.size f, l⟩ : Heap) = ⟨objs.push (f o), l⟩
  congr 1
  apply Array.ext
  · simp
  · intro i h1 h2
    rw [Array.getElem_modify, Array.getElem_push, Array.getElem_push]
    have h3 : i < objs.size + 1 := by simpa using h2
    by_cases e : i < objs.size
    · simp [e, show objs.size ≠ i by omega]
    · have e2 : objs.size = i := by omega
      simp [e, e2]
theorem kwFor_ok {prog : Program} {w : World} {A : Around} {E : Value → Shared → Prop} {g : Array GenState} {dr : Drawn} {os : OsState} {h0 : Heap} {Q : PUnit → Shared → Prop} : ∀ (ex : List (Str × Value)) (es : List DictEntry) (n t : Nat),
    (∀ e ∈ es, ∀ x ∈ ex, e.key.isStr x.1 = false) → (∀ e ∈ es, e.refKey = false) → (ex.map (·.1)).Nodup → Q ⟨⟩ ⟨h0.push (PySem.W.dictOf (es ++ PySem.W.kwEs w.params t ex) (n + ex.length)), g, dr, t + ex.length, os⟩ →
    wpAny (model prog w) A (kwFor ex h0.objs.size) Q E ⟨h0.push (PySem.W.dictOf es n), g, dr, t, os⟩
  | [], es, n, t, _, _, _, q => by
    have q' : Q ⟨⟩ ⟨h0.push (PySem.W.dictOf (es ++ []) n), g, dr, t, os⟩ := q
    rw [List.append_nil] at q'
    exact wpAny_pure q'
  | x :: r, es, n, t, hs, hr, hn, q => by
    obtain ⟨n1, n2⟩ := List.nodup_cons.mp (show (x.1 :: r.map (·.1)).Nodup from hn)
    have e1 : es.any (·.key.isStr x.1) = false := List.any_eq_false.mpr fun e he => by rw [hs e he x (.head _)]; decide
    have e2 : es.any (·.refKey) = false := List.any_eq_false.mpr fun e he => by rw [hr e he]; decide
    have e3 : Obj.putName x.1 (PyData.keyHash w.params x.1) (.str x.1 t) x.2 (PySem.W.dictOf es n) = PySem.W.dictOf (es ++ [⟨PyData.keyHash w.params x.1, .str x.1 t, x.2⟩]) (n + 1) := by
      rw [PySem.W.putName_dict, PySem.W.putL_new fun e he => hs e he x (.head _)]
      show PySem.W.dictOf _ (if es.any (·.key.isStr x.1) then n else n + 1) = _
      rw [e1, if_neg Bool.false_ne_true]
    have e4 : aRefKeyMayBeTheName x.1 es.toArray = false := by
      rw [aRefKeyMayBeTheName_at, ← Array.any_toList, ← Array.any_toList]
      show (!es.any (·.key.isStr x.1) && es.any (·.refKey)) = false
      rw [e2, Bool.and_false]
    unfold kwFor
    rw [List.forIn_cons]
    refine wpAny_bind (wpAny_bind ?_)
    unfold nsSet
    refine wpAny_bind (wpAny_bind (wpAny_askSetting (wpAny_pure (wpAny_bind (wpAny_mkText (wpAny_bind (wpAny_loadPart (Heap.get?_push_size h0 rfl) ?_)))))))
    dsimp only
    rw [e4]
    refine wpAny_updatePart (Heap.get?_push_size h0 rfl) (wpAny_pure ?_)
    show wpAny _ _ (kwFor r h0.objs.size) _ _ ⟨(h0.push (PySem.W.dictOf es n)).update h0.objs.size (Obj.putName x.1 (PyData.keyHash w.params x.1) (.str x.1 t) x.2), g, dr, t + 1, os⟩
    rw [push_upd, e3]
    refine kwFor_ok r _ _ _ (fun e he y hy => ?_) (fun e he => ?_) n2 ?_
    · rcases List.mem_append.mp he with he | he
      · exact hs e he y (.tail _ hy)
      · obtain rfl := List.mem_singleton.mp he
        exact beq_eq_false_iff_ne.mpr fun z => n1 (List.mem_map.mpr ⟨y, hy, z.symm⟩)
    · rcases List.mem_append.mp he with he | he
      · exact hr e he
      · obtain rfl := List.mem_singleton.mp he
        rfl
    · have t1 : t + 1 + r.length = t + (r.length + 1) := by omega
      have t2 : n + 1 + r.length = n + (r.length + 1) := by omega
      rw [t1, t2, List.append_assoc]
      exact q
def kwD (ks : List Str) (vs : List V) : List (Key × V) := (ks.zip vs).map fun p => (.inr p.1, p.2)
theorem kw_pairs {prog : Program} {w : World} : ∀ (ex : List (Str × Value)) (t : Tok), Pairs (mixKind prog w) (PySem.W.kwEs w.params t ex) (ex.map fun p => ((.inr p.1 : Key), p.2))
  | [], _ => .nil
  | x :: r, t => .cons (show Value.isStrOf x.1 (.str x.1 t) = true by simp [Value.isStrOf]) rfl (kw_pairs r (t + 1))
theorem kw_kv : ∀ {ks : List Str} {vs : List V} {us : List Value}, Vals vs us → KV (kwD ks vs) ((ks.zip us).map fun p => ((.inr p.1 : Key), p.2))
  | [], _, _, _ => .nil
  | _ :: _, _, _, .nil => .nil
  | k :: ks, _, _, .cons a r => .cons ⟨rfl, a⟩ (kw_kv r)
theorem kw_ok {P : Program} {w : World} {H : Hp} {h : Heap} {ks : List Str} {vs : List V} {us : List Value} {t n : Nat} (hb : sysModules < h.objs.size) (hn : ks.Nodup) (hl : vs.length = ks.length) (hz : ks.length ≤ 1000) (r : Vals vs us) :
    ObjOk P w H (h.push (PySem.W.dictOf ([] ++ PySem.W.kwEs w.params t (ks.zip us)) n)) h.objs.size (.dK (kwD ks vs)) := by
  refine ⟨?_, beq_eq_false_iff_ne.mpr (Ne.symm (Nat.ne_of_lt hb)), _, kw_kv r, _, _, _, Heap.get?_push_size _ rfl, ⟨rfl, rfl, rfl⟩, rfl, fun e he => ?_, ?_, ?_⟩
  · unfold kwD
    rw [List.length_map, List.length_zip, sizeLine_eq]
    omega
  · obtain ⟨k, u, e1, e2⟩ := PySem.W.kwEs_key _ _ e (List.mem_toArray.mp he)
    exact ⟨.inr k, by rw [e1]; show Value.isStrOf k (.str k u) = true; simp [Value.isStrOf], e2⟩
  · rw [List.nil_append]
    exact kw_pairs _ _
  · rw [List.map_map]
    have e : ((ks.zip us).map ((fun x => x.1) ∘ fun p => ((.inr p.1 : Key), p.2))) = ks.map Sum.inr := by
      have l : us.length = ks.length := by rw [← r.length]; exact hl
      rw [show ((fun (x : Key × Value) => x.1) ∘ fun (p : Str × Value) => ((.inr p.1 : Key), p.2)) = Sum.inr ∘ Prod.fst from rfl, ← List.map_map, List.map_fst_zip (by omega)]
    rw [e]
    exact List.pairwise_map.mpr (hn.imp fun hne z => hne (Sum.inr.inj z))
theorem cxUpN {P : Program} {w : World} : StX.CXUp (L2N.CX P w) := by
  rintro outer s H s2 H2 E e s' un kp ho ⟨a, B, H', cls, d, ea, fl, hok, ub, na, os, ag, he⟩
  have fr : ∀ b o, s.heap.get? b = some o → H b = none → H2 b = none := fun b o q n => un.free b o q n (by simp)
  refine ⟨a, B, H', cls, d, ea, fl, hok, ?_, na, os.trans ho, ag, he⟩
  exact {
    keep := fun b o q n hb => ub.keep b o (kp b o q) (fr b o q n) hb
    slot := fun b o q hb => ub.slot b o (kp b o q) hb
    free := fun b o q n => ub.free b o (kp b o q) (fr b o q n)
    there := fun b o q hb => ub.there b o (kp b o q) hb
    tups := fun b xs q => ub.tups b xs (un.tups b xs q)
    frzs := fun b o xs q => ub.frzs b o xs (un.frzs b o xs q)
    tbls := fun b ps q => by
      obtain ⟨m1, e1⟩ := un.tbls b ps q
      obtain ⟨m2, e2⟩ := ub.tbls b _ e1
      exact ⟨m1 ++ m2, by rw [e2, Array.append_assoc]⟩ }
/-- a def of self and ** alone, called by keywords -/
def RunKw (P : Program) (w : World) (K : PySem.W.Frag) (mg : Str → Option Value) (base : Heap) (k : Nat) (f : Addr) (sp : Sp) : Prop :=
  ∀ (A : Around) (outer : List Env) (s : Shared) (H : Hp) (u0 : Value) (v0 : V) (ks : List Str) (us : List Value) (vs : List V) (Q : VK) (E : XK), Room k A → Env0 P w K mg base A outer s H → RelV v0 u0 → Vals vs us → vs.length = ks.length → ks.Nodup → ("self" : Str) ∉ ks → ks.length ≤ 1000 →
    (∀ d, H d = none → sp [v0, .ref d] (upd H d (.dK (kwD ks vs))) Q E) → codeAny (model P w) A (.call (.ref f) ⟨[u0], ks.zip us⟩) (CR (L2N.CX P w) outer P w H s Q E) s
theorem RunKw.mono {P : Program} {w : World} {K : PySem.W.Frag} {mg : Str → Option Value} {base : Heap} {j k : Nat} {f : Addr} {sp : Sp} (F : RunKw P w K mg base j f sp) (h : j ≤ k) : RunKw P w K mg base k f sp :=
  fun A outer s H u0 v0 ks us vs Q E hr => F A outer s H u0 v0 ks us vs Q E (hr.mono h)
theorem funD_kw {P : Program} {w : World} {K : PySem.W.Frag} {mg : Str → Option Value} {base : Heap} {x qual : Str} {params : Arguments} {body : List Stmt} {scope : Scope} {f : Addr} {fd : FuncData} {N : List Str} {pd : Str} {k : Nat} {sp : Sp} {an ad : Arg} (F : FunD K x qual params body scope [] [] f fd) (S : FnScope N ["self", pd] scope)
    (h1 : params.posonlyargs = []) (h2 : params.args = [an]) (h3 : params.vararg = none) (h4 : params.kwonlyargs = []) (h5 : params.kwarg = some ad) (e1 : an.arg = "self") (e2 : ad.arg = pd)
    (hbody : ∀ (cdv : Value) (A : Around) (outer : List Env) (s : Shared) (H : Hp) (vs : List V) (Q : VK) (E : XK), Room k (A.deeper (envOfC qual scope s.heap.objs.size f cdv)) → sp vs H Q E →
      ∃ t, PSs (cxOf (L2N.CX P w) P w K mg base N qual scope f cdv A outer s H E) body t ∧ t { nx := fun _ H' => Q .non H', rt := Q } (start N vs) H) : RunKw P w K mg base (k + 1) f sp := by
  intro A outer s H u0 v0 ks us vs Q E hr e0 r0 r hl hn hs hz hsp
  obtain ⟨oc, od, dV, kV, doc, pm, an', cdv, ct, osl, rfl, lk, hcd, dd, _⟩ := F.ex
  have hd : dV = .none := by
    rcases dd with ⟨_, z⟩ | ⟨z, _⟩
    · exact z
    · exact absurd rfl z
  subst hd
  have hnew : H s.heap.objs.size = none := e0.hok.fresh (Nat.le_refl _)
  have hlu : us.length = ks.length := by rw [← r.length]; exact hl
  refine StX.run_bnd lk hcd S hr e0 (G := fun xs H2 => ∃ d, H d = none ∧ xs = [v0, V.ref d] ∧ H2 = upd H d (.dK (kwD ks vs))) (fun A' Ex Q' h => ?_) fun s2 H2 xs ⟨d, hd, ex, eH⟩ hr' => ?_
  · rw [bind_kw (fd := PySem.W.fnOf x qual params body scope .none kV doc pm an' cdv ct) h1 h2 h3 h4 h5 rfl e1 e2 (ks.zip us) (fun y hy z => hs (by rw [← z]; exact (List.of_mem_zip hy).1)) (by rw [List.length_zip]; omega)]
    unfold kwTo
    refine wpAny_bind (wpAny_alloc (wpAny_bind ?_))
    have big := StX.env0_big e0
    obtain ⟨hp, g, dr, t, os⟩ := s
    refine kwFor_ok (h0 := hp) (ks.zip us) [] 0 t (fun _ z => nomatch z) (fun _ z => nomatch z) (by rw [List.map_fst_zip (by omega)]; exact hn) (wpAny_pure ?_)
    have new := kw_ok (P := P) (w := w) (H := upd H hp.objs.size (.dK (kwD ks vs))) (h := hp) (t := t) (n := 0 + (ks.zip us).length) big hn hl hz r
    have e3 := StX.env0_laid e0 new
    have un := StX.un_laid (fs := frs outer) (s := ⟨hp, g, dr, t, os⟩) (o := PySem.W.dictOf ([] ++ PySem.W.kwEs w.params t (ks.zip us)) (0 + (ks.zip us).length)) (u := .dK (kwD ks vs)) hnew
    exact h ⟨hp.push (PySem.W.dictOf ([] ++ PySem.W.kwEs w.params t (ks.zip us)) (0 + (ks.zip us).length)), g, dr, t + (ks.zip us).length, os⟩ _ [v0, V.ref hp.objs.size] [u0, Value.ref hp.objs.size]
      ⟨e3.frames, e3.mod, e3.bs, e3.bsz, e3.funs, e3.frf, e3.hok, e3.bare⟩ un rfl (fun e s' => cxUpN outer ⟨hp, g, dr, t, os⟩ H _ _ E e s' un (fun b o q => Heap.get?_push_of_some _ q) rfl) (.cons r0 (.cons rfl .nil)) rfl ⟨_, hnew, rfl, rfl⟩
  · subst ex eH
    exact hbody cdv A outer s2 _ _ Q E hr' (hsp d hd)
/-- a method of ** alone -/
structure MtK (P : Program) (w : World) (K : PySem.W.Frag) (mg : Str → Option Value) (base : Heap) (k : Nat) (C : Addr) (m : Str) (sp : Sp) : Prop where
  ex : ∃ (f : Addr), Cls K C ∧ Meth K C m f ∧ RunKw P w K mg base k f sp
def tMethKw (C : Addr) (m : Str) (ks : List Str) (sp : Sp) (E : L2.St → XK) (ta : TE) (tk : TA) : TE := fun σ H Q => ta σ H fun x H1 => ∃ a dx fs, x = .ref a ∧ H1 a = some (.ins C dx fs) ∧ fs.lookup m = none ∧
  tk σ H1 fun vs H2 => vs.length = ks.length ∧ ∀ d, H2 d = none → sp [x, .ref d] (upd H2 d (.dK (kwD ks vs))) Q (E σ)
theorem pe_mtKw {X : Cx} {k j : Nat} {C : Addr} {sp : Sp} {E : L2.St → XK} {m : Str} {ks : List Str} {pos apos : Pos} {o : Expr} {kws : List Keyword} {ta : TE} {tk : TA} {pl : Sem Bool} (c : MtK X.prog X.w X.K X.mg X.base k C m sp) (hr : Room j X.A) (hk : k ≤ j)
    (hx : ∀ σ, PassesAt (L2N.CX X.prog X.w) X σ (E σ)) (he : PE X o ta) (hkw : PK X kws tk)
    (hall : (backToKw pos (keywordEach kws X.env)).all (·.1.isSome) = true := by rfl) (hks : (backToKw pos (keywordEach kws X.env)).filterMap (·.1) = ks := by rfl) (hnd : ks.Nodup := by decide) (hself : ("self" : Str) ∉ ks := by decide) (hlen : ks.length ≤ 1000 := by decide)
    (hpl : ((backTo pos (starEach [] X.env)).any (·.1) || (backToKw pos (keywordEach kws X.env)).any (·.1.isNone)) = false := by rfl)
    (ht : eval (.Call (.Attribute o m apos) [] kws pos) X.env = (do
      let ov ← eval o X.env
      standAt apos.atName
      let (f, first) ← holding [ov] (getMethod ov m pl)
      callWith pos f first (backTo pos (starEach [] X.env)) (backToKw pos (keywordEach kws X.env))) := by rfl) :
    PE X (.Call (.Attribute o m apos) [] kws pos) (tMethKw C m ks sp E ta tk) := by
  obtain ⟨f, c1, hm, F⟩ := c.ex
  refine ⟨fun pins s σ H Q I h => PySem.W.methodCall_KW (pl := pl) (thn (he.run pins s σ H _ I h) ?_) ht⟩
  rintro u s1 ⟨x, H1, I1, rx, a, dx, fs, rfl, at_, l, q⟩
  obtain rfl : u = Value.ref a := rx
  refine getmeth_ok I1 at_ c1 hm l (PySem.W.callWith_KW0 (first := [.ref a]) (h₀ := X.base) I.ok.mod.kin hm.kp hall (thn (hkw.run pos pins s1 σ H1 _ I1 q) ?_) hpl)
  rintro us s2 ⟨vs, H2, I2, r, hl, q2⟩
  refine ⟨I2.kIn, ?_⟩
  rw [hks]
  refine wpAny_call (codeAny_mono (F X.A X.stack s2 H2 (.ref a) (.ref a) ks us vs Q (E σ) (hr.mono hk) I2.env0 rfl r hl hnd hself hlen q2) fun r s' hq => ?_)
  cases r with
  | error e => exact hx σ pins H2 s2 e s' I2 hq
  | ok fl =>
    cases fl with
    | ret u => exact I2.after hq
    | next => exact False.elim hq
    | brk => exact False.elim hq
    | cont => exact False.elim hq
end Md

set_option Elab.async false
set_option linter.all false
set_option maxRecDepth 100000
set_option maxHeartbeats 4000000
namespace Md
open PySem PySem.Spec PyProof.Rows PySem.Calls L2
/-! a try with several clauses, each with a name for its error -/
/-- an error a has come to the clauses: what is known of it, and of all that it left -/
structure Got (X : Cx) (pins : List (Addr × Obj)) (B : Heap) (sI : Shared) (σ : L2.St) (H : Hp) (a : Addr) (cls : Value) (d : Option Addr) (s : Shared) : Prop where
  inv : Inv X pins σ H sI
  nb : ∀ b o, sI.heap.get? b = some o → b ∉ frs X.stack → B.get? b = some o
  up : sI.heap.UpToSlots s.heap
  fl : HandSPX.FlyingZ B (X.env :: X.outer) a (L2N.Zn cls d) s.heap
  na : H a = none
  os : s.os = sI.os
  ag : AllBare s.gens
section
variable {X : Cx} {pins : List (Addr × Obj)} {B : Heap} {sI s : Shared} {σ : L2.St} {H : Hp} {a : Addr} {cls : Value} {d : Option Addr}
theorem Got.on (g : Got X pins B sI σ H a cls d s) {h : Heap} (fl : HandSPX.FlyingZ B (X.env :: X.outer) a (L2N.Zn cls d) h) (up : s.heap.UpToSlots h) : Got X pins B sI σ H a cls d { s with heap := h } :=
  ⟨g.inv, g.nb, g.up.trans up, fl, g.na, g.os, g.ag⟩
theorem Got.now (g : Got X pins B sI σ H a cls d s) : Inv X pins σ H s := by
  obtain ⟨hp, gs, dr, t, os⟩ := s
  exact L2.Inv.landed (s' := ⟨hp, gs, dr, t, os⟩) g.inv g.nb g.fl.1 g.up g.os g.ag
theorem Got.off (g : Got X pins B sI σ H a cls d s) : a ∉ frs (X.env :: X.outer) := fun hm => by
  obtain ⟨oe, vs, he, _, hd⟩ := g.fl.there
  obtain ⟨_, o, e, hnf⟩ := g.fl.2.2.1.mem hm
  rw [he] at e
  cases e
  exact hnf _ hd
theorem Got.hot (g : Got X pins B sI σ H a cls d s) (hf : X.env.frame = some X.env.locals) : ∃ oe, L2N.Zn cls d oe ∧ (∃ vs, oe.data = .fields vs) ∧ s.heap.get? a = some oe ∧ Inv (X.suite a ((a, oe) :: (X.pn ++ pins))) [] σ H s := by
  obtain ⟨oe, vs, he, hz, hd⟩ := g.fl.there
  refine ⟨oe, hz, ⟨_, hd⟩, he, L2.Inv.suite g.now he hd g.na (fun z => g.off ?_) fun hm => g.off ?_⟩
  · exact List.mem_filterMap.mpr ⟨X.env, List.mem_cons_self, by rw [hf, z]⟩
  · obtain ⟨e, he, q⟩ := List.mem_filterMap.mp hm
    exact List.mem_filterMap.mpr ⟨e, List.mem_cons_of_mem _ he, q⟩
/-- no clause takes it -/
theorem Got.pass {W : WX} {D : Ends} (g : Got X pins B sI σ H a cls d s) (hs : X.stack = X.env :: X.outer) (hf : X.env.frame = some X.env.locals) (tk : L2N.Takes X W) (w : W cls d σ H) :
    wpAny (model X.prog X.w) X.A (handleBy (.ref a) X.env []) (SP X pins D) X.xe s := by
  refine wpAny_handleBy_nil ?_
  have fl := g.fl
  obtain ⟨_, _, _, oe, vs, T, _, _, he, _, hd, h1, _⟩ := id fl
  unfold PySem.passOn
  refine wpAny_bind (wpAny_field he hd h1 ?_)
  rw [if_neg (show ¬ ((Value.ref T == Value.none) = true) from by simp)]
  have last : wpAny (model X.prog X.w) X.A (setFlight (.ref a) X.env.frame) (fun _ s4 => wpAny (model X.prog X.w) X.A (throw (.ref a) : Sem Flow) (SP X pins D) X.xe s4) X.xe s := by
    rw [hf]
    refine HandSPX.setFlight_upZ fl fun h4 hh up4 => wpAny_throw (tk _ _ ?_)
    exact ⟨a, B, sI, pins, σ, H, cls, d, rfl, g.inv, g.nb, g.up.trans up4, .inr (.inr (by rw [hs]; exact hh)), g.na, g.os, g.ag, w⟩
  first
    | exact wpAny_bind (wpAny_pure (wpAny_bind last))
    | exact wpAny_bind last
end
inductive HdsAs (X : Cx) : List ExceptHandler → List (Value × Option Nat × (Addr → Value → Option Addr → TS)) → Prop
  | nil : HdsAs X [] []
  | cons {x n : Str} {c : Value} {i : Nat} {ts : Addr → Value → Option Addr → TS} {b₀ : Stmt} {suite : List Stmt} {np pos' : Pos} {hds : List ExceptHandler} {l : List (Value × Option Nat × (Addr → Value → Option Addr → TS))} (hc : Names X x c)
      (hi : X.N[i]? = some n) (hln : X.env.kindOf n = some .local)
      (hsu : ∀ (a : Addr) (oe : Obj) (cls : Value) (d : Option Addr) (pn : List (Addr × Obj)), L2N.Zn cls d oe → (∃ vs, oe.data = .fields vs) → PSs (X.suite a ((a, oe) :: pn)) (b₀ :: suite) (ts a cls d)) (r : HdsAs X hds l) :
      HdsAs X (.ExceptHandler (some (.Name x np)) (some n) (b₀ :: suite) pos' :: hds) ((c, some i, ts) :: l)
  | bare {x : Str} {c : Value} {ts : Addr → Value → Option Addr → TS} {b₀ : Stmt} {suite : List Stmt} {np pos' : Pos} {hds : List ExceptHandler} {l : List (Value × Option Nat × (Addr → Value → Option Addr → TS))} (hc : Names X x c)
      (hsu : ∀ (a : Addr) (oe : Obj) (cls : Value) (d : Option Addr) (pn : List (Addr × Obj)), L2N.Zn cls d oe → (∃ vs, oe.data = .fields vs) → PSs (X.suite a ((a, oe) :: pn)) (b₀ :: suite) (ts a cls d)) (r : HdsAs X hds l) :
      HdsAs X (.ExceptHandler (some (.Name x np)) none (b₀ :: suite) pos' :: hds) ((c, none, ts) :: l)
def wBare (K : PySem.W.Frag) (c : Value) (ts : Addr → Value → Option Addr → TS) (Wout : WX) (D : Ends) : WX := fun cls d σ H => ∃ b, PySem.W.exmOne K cls c = some b ∧ (b = true → ∀ a, H a = none → ts a cls d D σ H) ∧ (b = false → Wout cls d σ H)
def wTries (K : PySem.W.Frag) (Wout : WX) (D : Ends) : List (Value × Option Nat × (Addr → Value → Option Addr → TS)) → WX
  | [] => Wout
  | (c, some i, ts) :: r => wAs K c i ts (wTries K Wout D r) D
  | (c, none, ts) :: r => wBare K c ts (wTries K Wout D r) D
theorem Got.go {X : Cx} {pins : List (Addr × Obj)} {B : Heap} {sI : Shared} {σ : L2.St} {H : Hp} {a : Addr} {cls : Value} {d : Option Addr} {W : WX} {D : Ends} (hs : X.stack = X.env :: X.outer) (hf : X.env.frame = some X.env.locals) (hN : X.N.Nodup) (tk : L2N.Takes X W) :
    ∀ {hds : List ExceptHandler} {l : List (Value × Option Nat × (Addr → Value → Option Addr → TS))} (s : Shared), HdsAs X hds l → Got X pins B sI σ H a cls d s → wTries X.K W D l cls d σ H → wpAny (model X.prog X.w) X.A (handleBy (.ref a) X.env hds) (SP X pins D) X.xe s := by
  intro hds l s hk
  induction hk with
  | nil => exact fun g w => g.pass hs hf tk w
  | @cons x n c i ts b₀ suite np pos' hds l hc hi hln hsu r ih =>
    rintro g ⟨b, hb, hyes, hno⟩
    have ok := g.inv.ok
    obtain ⟨oe, hz, _, he, S3⟩ := g.hot hf
    refine wpAny_handleBy_cons (codeAny_handlers_test ?_) (by intro q; cases q)
    have ty : PySem.W.Looks (model X.prog X.w) s.heap (typeOf (.ref a)) cls := fun A Q E s k q => wpAny_typeOf_ref (k _ _ he) (by rw [hz.1]; exact q)
    have name : ∀ {Q : Value → Shared → Prop} {E : Value → Shared → Prop}, Q c s → wpAny (model X.prog X.w) (X.A.mark (some (.ref a))) (eval (.Name x np) X.env) Q E s := fun {Q E} q => by
      rcases hc with ⟨hg, hdb, hm | ⟨hm, hv, hnn⟩⟩
      · exact ld_glob (X := X.suite a ((a, oe) :: (X.pn ++ pins))) S3 hg hm q hdb
      · exact ld_blt (X := X.suite a ((a, oe) :: (X.pn ++ pins))) S3 hg hm hv q hnn hdb
    refine name ((PySem.W.exm_one (M := model X.prog X.w) g.now.kIn ty hb).here ?_)
    cases b with
    | false =>
      show wpAny _ X.A (handleBy (.ref a) X.env hds) _ _ _
      exact ih g (hno rfl)
    | true =>
      refine codeAny_handlers_suite_as (HandSPX.lands_againZ g.fl fun h4 fl4 up4 => ?_)
      have g4 := g.on fl4 up4
      obtain ⟨oe4, hz4, hd4, _, S4⟩ := g4.hot hf
      refine store_ok (X := X.suite a ((a, oe4) :: (X.pn ++ pins))) (v := .ref a) S4 hN hi (.inl hln) rfl (fun s5 S5 => ?_) (.inr hln)
      refine wpAny_mono ((hsu a oe4 cls d (X.pn ++ pins) hz4 hd4).run [] s5 _ H _ S5 (hyes rfl a g.na)) (fun f s6 hf6 => ?_) fun _ _ z => False.elim z
      have out : ∀ {σ6 : L2.St} {H6 : Hp} {Q : Shared → Prop}, Inv (X.suite a ((a, oe4) :: (X.pn ++ pins))) [] σ6 H6 s6 → (∀ s7, Inv X pins (σ6.set i none) H6 s7 → Q s7) →
          wpAny (model X.prog X.w) X.A (do bindName X.env n .none; unbindBehindTheSuite X.env n pos') (fun _ s7 => Q s7) X.xe s6 := fun {σ6 H6 Q} S6 q => gone_ok (S6.unsuite ok) hN hi hln q
      cases f with
      | ret u =>
        obtain ⟨v6, σ6, H6, S6, r6, q6⟩ := hf6
        exact out S6 fun s7 J7 => ⟨_, _, _, J7, r6, q6⟩
      | _ =>
        obtain ⟨σ6, H6, S6, q6⟩ := hf6
        exact out S6 fun s7 J7 => ⟨_, _, J7, q6⟩
  | @bare x c ts b₀ suite np pos' hds l hc hsu r ih =>
    rintro g ⟨b, hb, hyes, hno⟩
    have ok := g.inv.ok
    obtain ⟨oe, hz, _, he, S3⟩ := g.hot hf
    refine wpAny_handleBy_cons (codeAny_handlers_test ?_) (by intro q; cases q)
    have ty : PySem.W.Looks (model X.prog X.w) s.heap (typeOf (.ref a)) cls := fun A Q E s k q => wpAny_typeOf_ref (k _ _ he) (by rw [hz.1]; exact q)
    have name : ∀ {Q : Value → Shared → Prop} {E : Value → Shared → Prop}, Q c s → wpAny (model X.prog X.w) (X.A.mark (some (.ref a))) (eval (.Name x np) X.env) Q E s := fun {Q E} q => by
      rcases hc with ⟨hg, hdb, hm | ⟨hm, hv, hnn⟩⟩
      · exact ld_glob (X := X.suite a ((a, oe) :: (X.pn ++ pins))) S3 hg hm q hdb
      · exact ld_blt (X := X.suite a ((a, oe) :: (X.pn ++ pins))) S3 hg hm hv q hnn hdb
    refine name ((PySem.W.exm_one (M := model X.prog X.w) g.now.kIn ty hb).here ?_)
    cases b with
    | false =>
      show wpAny _ X.A (handleBy (.ref a) X.env hds) _ _ _
      exact ih g (hno rfl)
    | true =>
      refine codeAny_handlers_suite (HandSPX.lands_againZ g.fl fun h4 fl4 up4 => ?_)
      have g4 := g.on fl4 up4
      obtain ⟨oe4, hz4, hd4, _, S4⟩ := g4.hot hf
      refine wpAny_mono ((hsu a oe4 cls d (X.pn ++ pins) hz4 hd4).run [] _ _ H _ S4 (hyes rfl a g.na)) (fun f s6 hf6 => ?_) fun _ _ z => False.elim z
      cases f with
      | ret u =>
        obtain ⟨v6, σ6, H6, S6, r6, q6⟩ := hf6
        exact ⟨_, _, _, S6.unsuite ok, r6, q6⟩
      | _ =>
        obtain ⟨σ6, H6, S6, q6⟩ := hf6
        exact ⟨_, _, S6.unsuite ok, q6⟩
theorem ps_tries {X : Cx} {body : List Stmt} {h₀ : ExceptHandler} {hds : List ExceptHandler} {l : List (Value × Option Nat × (Addr → Value → Option Addr → TS))} {pos : Pos} {tb : WX → TS} {Wout : WX} (hs : X.stack = X.env :: X.outer) (hf : X.env.frame = some X.env.locals) (hN : X.N.Nodup) (tk : L2N.Takes X Wout)
    (hb : ∀ (W : WX) (pn : List (Addr × Obj)) (xe : Value → Shared → Prop), L2N.Takes (X.tr pn xe) W → PassesOwn (model X.prog X.w) X.A X.env xe → PSs (X.tr pn xe) body (tb W))
    (hh : HdsAs X (h₀ :: hds) l) : PS X (.Try body (h₀ :: hds) [] [] pos) (fun D σ H => tb (wTries X.K Wout D l) D σ H) := by
  refine ⟨fun pins s σ H D I h => ?_⟩
  have ok := I.ok
  have hfr : X.A.frames = some (X.env :: X.outer) := by rw [ok.frames, hs]
  refine wpAny_Try_except (wpAny_mono ((hb (wTries X.K Wout D l) (X.pn ++ pins) (fun e s₁ => wpAny (model X.prog X.w) X.A (noteFrame e X.env) (fun _ s₂ => wpAny (model X.prog X.w) X.A (setFlight e none) (fun _ s₃ =>
    wpAny (model X.prog X.w) X.A (handleBy e X.env (h₀ :: hds)) (SP X pins D) X.xe s₃) X.xe s₂) X.xe s₁) ?_ PassesOwn.looking).run [] s σ H D (I.toTry _) h) (fun f s1 hsp => ?_) fun e s1 he => he)
  · rintro u s' ⟨a, B, sI, pins', σ', H', cls, d, rfl, J', nb, up, sky, na, os, ag, w⟩
    show wpAny (model X.prog X.w) X.A (noteFrame (.ref a) X.env) _ _ _
    refine L2N.Sky.land L2N.Zn.steady hfr hf (by rw [← hs]; exact sky) fun h3 fl3 up3 => ?_
    exact Got.go (W := Wout) (sI := sI) (B := B) hs hf hN tk { s' with heap := h3 } hh ⟨J'.ofTry ok, nb, up.trans up3, fl3, na, os, ag⟩ w
  · cases f with
    | next =>
      obtain ⟨σ', H', J', q⟩ := hsp
      exact wpAny_execs_nil ⟨σ', H', J'.ofTry ok, q⟩
    | ret u =>
      obtain ⟨v, σ', H', J', r, q⟩ := hsp
      exact ⟨v, σ', H', J'.ofTry ok, r, q⟩
    | _ =>
      obtain ⟨σ', H', J', q⟩ := hsp
      exact ⟨σ', H', J'.ofTry ok, q⟩
end Md

set_option Elab.async false
set_option linter.all false
set_option maxRecDepth 100000
set_option maxHeartbeats 4000000
namespace Md
open PySem PySem.Spec PyProof.Rows PySem.Calls L2
/-! own errors: what the head must find -/
def tlOf (B : String) : List Value := [.type B, .type "Exception", .type "BaseException", .type "object"]
def clsX (nid : String) (tl : List Value) (K : PySem.W.Frag) (C : Addr) : Bool := match K.lookup C with
  | some ⟨.type "type", _, .cls cd, sl⟩ => (match cd.mro, sl.toList with
    | .ref C' :: bm, [_, _, _, _, some (.builtin n), _] => C' == C && (n == nid && (!cd.hasDel && (cd.hasDict && refsT tl bm)))
    | _, _ => false)
  | _ => false
theorem clsX_ok {nid : String} {tl : List Value} {K : PySem.W.Frag} {C : Addr} (h : clsX nid tl K C = true) : ∃ nm q N bs bm sn sub ab col dd k0 k1 k2 k3 k5, K.lookup C = some (excClassObj nm q C N bs bm true sn sub ab col dd k0 k1 k2 k3 k5 nid) ∧ refsT tl bm = true := by
  unfold clsX at h
  split at h
  · rename_i dd cd sl e
    split at h
    · rename_i C' bm a b c d n f e1 e2
      obtain ⟨nm, bs, mro, ns, qn, hd, sn, sb, ab, col, del⟩ := cd
      obtain ⟨h1, h⟩ := Bool.and_eq_true_iff.mp h
      obtain ⟨h2, h⟩ := Bool.and_eq_true_iff.mp h
      obtain ⟨h3, h⟩ := Bool.and_eq_true_iff.mp h
      obtain ⟨h4, h5⟩ := Bool.and_eq_true_iff.mp h
      have e3 : C' = C := eq_of_beq h1
      have e4 : n = nid := eq_of_beq h2
      have e5 : del = false := by
        cases del with
        | false => rfl
        | true => cases h3
      have e6 : hd = true := h4
      have e7 : mro = .ref C' :: bm := e1
      have e8 : sl = #[a, b, c, d, some (.builtin n), f] := by
        have := congrArg List.toArray e2
        simpa using this
      subst e3 e4 e5 e6 e7 e8
      exact ⟨nm, qn, ns, bs, bm, sn, sb, ab, col, dd, a, b, c, d, f, e, h5⟩
    · cases h
  · cases h
def restX (K : PySem.W.Frag) (C : Addr) : Bool := decide (PySem.W.findIn K (.ref C) "__setattr__" = some (some (.builtin "object.__setattr__"))) && (decide (PySem.W.subIn K (.ref C) (.type "BaseException") = some true) &&
  (decide (PySem.W.typeIn K (.ref C) = some (.type "type")) && PySem.W.keepIn K (.ref C)))
def xoB (K : PySem.W.Frag) (C : Addr) : Bool := (clsX "ValueError.__new__" (tlOf "ValueError") K C || (clsX "LookupError.__new__" (tlOf "LookupError") K C || clsX "RuntimeError.__new__" (tlOf "RuntimeError") K C)) && restX K C
theorem xoB_ok {K : PySem.W.Frag} {C : Addr} (h : xoB K C = true) : XoC K C := by
  obtain ⟨h0, h⟩ := Bool.and_eq_true_iff.mp h
  obtain ⟨h2, h⟩ := Bool.and_eq_true_iff.mp h
  obtain ⟨h3, h⟩ := Bool.and_eq_true_iff.mp h
  obtain ⟨h4, h5⟩ := Bool.and_eq_true_iff.mp h
  refine ⟨?_, of_decide_eq_true h2, of_decide_eq_true h3, of_decide_eq_true h4, h5⟩
  rcases Bool.or_eq_true_iff.mp h0 with h | h
  · exact ⟨_, _, _, _, base_V, clsX_ok h⟩
  rcases Bool.or_eq_true_iff.mp h with h | h
  · exact ⟨_, _, _, _, base_L, clsX_ok h⟩
  · exact ⟨_, _, _, _, base_R, clsX_ok h⟩
/-- a class without __init__ of its own, over V (a RuntimeError or an own one over ValueError) -/
def x0B (K : PySem.W.Frag) (C : Addr) : Bool := (PySem.W.excIn K C (tlOf "ValueError") "ValueError.__new__" || (PySem.W.excIn K C (tlOf "LookupError") "LookupError.__new__" || PySem.W.excIn K C (tlOf "RuntimeError") "RuntimeError.__new__")) && PySem.W.keepIn K (.ref C)
structure X0 (K : PySem.W.Frag) (C : Addr) : Prop where
  ex : ∃ B nI iI bmB, ExcBaseFacts B nI iI bmB ∧ PySem.W.excIn K C bmB nI = true
  kC : PySem.W.keepIn K (.ref C) = true
theorem x0B_ok {K : PySem.W.Frag} {C : Addr} (h : x0B K C = true) : X0 K C := by
  obtain ⟨h0, h1⟩ := Bool.and_eq_true_iff.mp h
  refine ⟨?_, h1⟩
  rcases Bool.or_eq_true_iff.mp h0 with h | h
  · exact ⟨_, _, _, _, F.excBase_ValueError, h⟩
  rcases Bool.or_eq_true_iff.mp h with h | h
  · exact ⟨_, _, _, _, F.excBase_LookupError, h⟩
  · exact ⟨_, _, _, _, F.excBase_RuntimeError, h⟩
theorem pe_mk0 {X : Cx} {C : Addr} {x : Str} {p pos : Pos} (c : X0 X.K C) (gC : X.mg x = some (.ref C)) (hg : Gl X x) (hdb : (x == ("__debug__" : Str)) = false := by decide) :
    PE X (.Call (.Name x p) [] [] pos) (fun σ H Q => ∀ a, H a = none → Q (.ref a) (L2.upd H a (exo a C none))) := by
  obtain ⟨B, nI, iI, bmB, F, q⟩ := c.ex
  exact pe_mkV0 F q gC c.kC hg hdb
/-- such an error is made, to be raised -/
theorem pmk_y {X : Cx} {e : Expr} {es : List Expr} {ta : TA} {p pos : Pos} {x : Str} {C : Addr} {k j : Nat} {sp : Sp} (c : Ky X.prog X.w X.K X.mg X.base k x C sp) (hr : Room j X.A) (hk : k + 1 ≤ j) (hg : Gl X x) (ha : PA X (e :: es) ta)
    (hdb : (x == ("__debug__" : Str)) = false := by decide) (he : starEach (e :: es) X.env = (false, eval e X.env) :: starEach es X.env := by rfl) (hpl : (backTo pos (starEach es X.env)).any (·.1) = false := by rfl) :
    L2N.PMk X (.Call (.Name x p) (e :: es) [] pos) (tMkO C sp [] ta) := by
  obtain ⟨fI, fd, ps, iC, tI, F1, hb, hm⟩ := c.ex
  obtain ⟨B, nI, iI, tl, bx, nm, q, N, bs, bm, sn, sub, ab, col, dd, k0, k1, k2, k3, k5, hC, hbm⟩ := c.T.cls
  have hrk := hr.mono hk
  intro pins s σ H Q I h
  refine wpAny_Call_Name_kw (ld_glob I hg hm ?_ hdb)
  refine PySem.W.callWith_K (h₀ := X.base) I.ok.mod.kin c.T.kC (thn (ha.run pos pins s σ H _ I h) ?_) he hpl
  rintro us s1 ⟨vs, H1, I1, r1, hz, q1⟩
  refine ⟨I1.kIn, ?_⟩
  show wpAny _ _ (call (.ref C) us) _ _ _
  obtain ⟨hp, g, dr, tk, os⟩ := s1
  have hsz : hp.objs.size ≤ hp.objs.size + 1 := Nat.le_succ _
  have hn : H1 (hp.objs.size + 1) = none := I1.hok.fresh hsz
  have hq := q1 (hp.objs.size + 1) hn
  rw [List.append_nil] at hq
  have kk : ∀ b o, hp.get? b = some o → ((hp.push (PySem.W.kdv_tup us)).push (PySem.HandSPX.excO C hp.objs.size)).get? b = some o := fun b o e => Heap.get?_push_of_some _ (Heap.get?_push_of_some _ e)
  have hget : ((hp.push (PySem.W.kdv_tup us)).push (PySem.HandSPX.excO C hp.objs.size)).get? (hp.objs.size + 1) = some (PySem.HandSPX.excO C hp.objs.size) := by heap_get
  have I2 : Inv X pins σ (L2.upd H1 (hp.objs.size + 1) (exo (hp.objs.size + 1) C none)) ⟨(hp.push (PySem.W.kdv_tup us)).push (PySem.HandSPX.excO C hp.objs.size), g, dr, tk, os⟩ :=
    I1.laid (t' := tk) (a := hp.objs.size + 1) (o := exo (hp.objs.size + 1) C none) (h' := (hp.push (PySem.W.kdv_tup us)).push (PySem.HandSPX.excO C hp.objs.size)) kk hsz (exo_ok hget)
  have r2 : Vals (V.ref (hp.objs.size + 1) :: vs) (Value.ref (hp.objs.size + 1) :: us) := .cons rfl r1
  have hl : (Value.ref (hp.objs.size + 1) :: us ++ []).length = ps.length := by
    rw [List.append_nil, ← r2.length]
    exact F1.len _ _ _ _ hq
  have hus : us.length ≤ sizeLine := by
    rw [← Paired.length r1, sizeLine_eq]
    omega
  refine wpAny_call (PySem.HandSPX.call_own bx.F (fun Y => refsT_has Y bm hbm) (I1.kIn _ _ hC) (PySem.W.looks_findIn I1.kIn iC) (fun self => PySem.W.bind_fn I1.kIn self tI) hus
    (codeAny_mono (F1.run _ X.stack _ _ ⟨Value.ref (hp.objs.size + 1) :: us, []⟩ (Value.ref (hp.objs.size + 1) :: us) _ _ (fun _ _ _ => False) (hrk.make C us []) (I2.env0.make C us []) (by
      have z := hb _ (Value.ref (hp.objs.size + 1) :: us) I2.kIn hl
      rw [List.append_nil] at z
      exact z) r2 hq) fun r s' hq' => ?_))
  cases r with
  | error er => exact passN pins σ _ _ er s' I2 hq'
  | ok fl =>
    cases fl with
    | ret u =>
      obtain ⟨v, H2, os2, bare2, un2, hok2, rv, rfl, d, fs, ea, ed, hd1, q2⟩ := hq'
      obtain ⟨h2, g2, d2, t2, os'⟩ := s'
      exact ⟨rv, mk_endN (raises_own c.T.exC c.T.tyC) I1 hsz kk un2 hok2 os2 bare2 ea ed hd1 q2⟩
    | next => exact False.elim hq'
    | brk => exact False.elim hq'
    | cont => exact False.elim hq'
abbrev tMk0 (C : Addr) : TE := fun σ H Q => ∀ a, H a = none → Q (.ref a) (L2.upd H a (exo a C none))
abbrev tRaiseW (W : WX) (t : L2.St → Hp → XK → Prop) : TS := fun _ σ H => t σ H fun cls d H' => W cls d σ H'
/-- __init__ of one field -/
theorem pure_yi {K : PySem.W.Frag} {C : Addr} {f : Str} (T : XoC K C) (hn : PySem.W.findIn K (.ref C) f = some none) {vs : List V} {H : Hp} {Q : VK} {E : XK} (h : spXi C f vs H Q E) : tOx K f (tVar 0) (tVar 1) { nx := fun _ H' => Q .non H', rt := Q } (start ["self", f] vs) H := by
  obtain ⟨a, x, rfl, ha, k⟩ := h
  refine ⟨_, rfl, ?_⟩
  refine ⟨_, rfl, ?_⟩
  exact ⟨a, C, rfl, T, hn, .inl ⟨ha, fun dx n ne => k dx n ne⟩⟩
end Md

set_option Elab.async false
set_option linter.all false
set_option maxRecDepth 100000
set_option maxHeartbeats 4000000
/-! defs called where nothing is being shown (no repr around): repr of data in them -/
namespace Md
open PySem PySem.Spec PyProof.Rows PySem.Calls L2
/-- as FnOk, called where nothing is being shown -/
structure FnG (P : Program) (w : World) (K : PySem.W.Frag) (mg : Str → Option Value) (base : Heap) (CX : CXT) (k : Nat) (f : Addr) (fd : FuncData) (ps : List Str) (sp : Sp) : Prop where
  len : ∀ vs H Q E, sp vs H Q E → vs.length = ps.length
  run : ∀ (A : Around) (outer : List Env) (s : Shared) (H : Hp) (args : Args) (us : List Value) (vs : List V) (Q : VK) (E : XK), A.guards = some [] → Room k A →
    Env0 P w K mg base A outer s H → BindsTo s fd args (ps.zip us) → Vals vs us → sp vs H Q E → codeAny (model P w) A (.call (.ref f) args) (CR CX outer P w H s Q E) s
/-- the def at f, by its body: the body may use that nothing is being shown -/
theorem fnG_of {P : Program} {w : World} {K : PySem.W.Frag} {mg : Str → Option Value} {base : Heap} {x qual : Str} {params : Arguments} {body : List Stmt} {scope : Scope} {dvs : List V} {kws : List (Str × V)} {f : Addr} {fd : FuncData}
    {CX : CXT} {N ps : List Str} {k : Nat} {sp : Sp} (F : FunD K x qual params body scope dvs kws f fd) (S : FnScope N ps scope) (len : ∀ vs H Q E, sp vs H Q E → vs.length = ps.length)
    (bodyOk : ∀ (cdv : Value) (B : Around) (outer : List Env) (s : Shared) (H : Hp) (vs : List V) (Q : VK) (E : XK), (B.deeper (envOfC qual scope s.heap.objs.size f cdv)).guards = some [] →
      Room k (B.deeper (envOfC qual scope s.heap.objs.size f cdv)) → sp vs H Q E →
      ∃ t, PSs (cxOf CX P w K mg base N qual scope f cdv B outer s H E) body t ∧ t { nx := fun _ H' => Q .non H', rt := Q } (start N vs) H) :
    FnG P w K mg base CX (k + 1) f fd ps sp := by
  obtain ⟨oc, od, dV, kV, doc, pm, an, cdv, ct, osl, rfl, lk, hcd, _, _⟩ := F.ex
  refine ⟨len, ?_⟩
  intro B outer s H args us vs Q E gd room e0 bnd rel want
  have inK : K.In s.heap := e0.mod.kin.keeps fun q o z => (e0.bs q o z).1
  have known : ∀ y ∈ ps.zip us, scope.names.lookup y.1 = some .local ∨ (scope.names.lookup y.1 = some .cell ∧ ((cellsFrom (s.heap.objs.size + 1) scope.names []).lookup y.1).isSome = true) := by
    rintro ⟨n, v⟩ hy
    exact (S.par n (List.of_mem_zip hy).1).elim .inl fun z => .inr ⟨z, PySem.W.cellsFrom_some _ _ _ (.inl z)⟩
  refine codeAny_call_function room.depth (inK _ _ lk) rfl S.co S.gen rfl (PySem.W.codeRec_of inK hcd) (bnd _ _ _ _ ?_)
  refine wpAny_newFunctionEnv_cells S.kind known ?_
  rintro env rfl s1 x
  refine ⟨(e0.mod.nolimit.keeps fun q o z => (e0.bs q o z).1).keeps x.toInCall.keep, codeAny_func ?_⟩
  obtain ⟨t, walk, reads⟩ := bodyOk cdv B outer s H vs Q E (by show B.guards = _; exact gd) (room.deeper _) want
  have J := inv_start (E := E) (CX := CX) S room.hd e0 (len _ _ _ _ want) rel x
  refine wpAny_mono (walk.run [] s1 (start N vs) H _ J reads) ?_ fun _ _ z => z
  rintro (_ | _ | _ | u) s' z
  · obtain ⟨σ', H', J', q⟩ := z
    exact ⟨.non, H', J'.os, J'.bare, J'.base, J'.hok, rfl, q⟩
  · obtain ⟨_, _, _, q⟩ := z
    exact q.elim
  · obtain ⟨_, _, _, q⟩ := z
    exact q.elim
  · obtain ⟨v, σ', H', J', rv, q⟩ := z
    exact ⟨v, H', J'.os, J'.bare, J'.base, J'.hok, rv, q⟩
/-- such a def as its callers see it -/
structure ClG (P : Program) (w : World) (K : PySem.W.Frag) (mg : Str → Option Value) (base : Heap) (k : Nat) (x : Str) (sp : Sp) (dvs : List V) : Prop where
  ex : ∃ (f : Addr) (fd : FuncData) (ps : List Str) (ds : List Value), FnG P w K mg base (L2N.CX P w) k f fd ps sp ∧ mg x = some (.ref f) ∧ PySem.W.keepIn K (.ref f) = true ∧ Binds K fd ps ds ∧ Vals dvs ds
theorem clG_of {P : Program} {w : World} {K : PySem.W.Frag} {mg : Str → Option Value} {base : Heap} {k : Nat} {x : Str} {f : Addr} {fd : FuncData} {ps : List Str} {sp : Sp}
    (G : FnG P w K mg base (L2N.CX P w) k f fd ps sp) (g : mg x = some (.ref f)) (kp : PySem.W.keepIn K (.ref f) = true) (b : Binds K fd ps []) : ClG P w K mg base k x sp [] := ⟨_, _, _, _, G, g, kp, b, .nil⟩
section
variable {X : Cx} {k j : Nat} {sp : Sp} {dvs : List V} {E : XK} {x : Str} {p pos : Pos} {e : Expr} {es : List Expr} {t : TA}
theorem pe_clG (c : ClG X.prog X.w X.K X.mg X.base k x sp dvs) (gd : X.A.guards = some []) (hr : Room j X.A) (hk : k ≤ j) (hg : Gl X x) (hx : Passes (L2N.CX X.prog X.w) X E) (ha : PA X (e :: es) t)
    (hdb : (x == ("__debug__" : Str)) = false := by decide) (he : starEach (e :: es) X.env = (false, eval e X.env) :: starEach es X.env := by rfl) (hpl : (backTo pos (starEach es X.env)).any (·.1) = false := by rfl) :
    PE X (.Call (.Name x p) (e :: es) [] pos) (tCall sp dvs E t) := by
  obtain ⟨f, fd, ps, ds, F, hm, kp, b, d⟩ := c.ex
  refine ⟨fun pins s σ H Q I h => wpAny_Call_Name_kw (ld_glob I hg hm ?_ hdb)⟩
  refine PySem.W.callWith_K (h₀ := X.base) I.ok.mod.kin kp (thn (ha.run pos pins s σ H _ I h) fun us s1 z => ?_) he hpl
  obtain ⟨vs, H1, I1, r, q⟩ := z
  refine ⟨I1.kIn, ?_⟩
  have rd := r.append d
  have size : (us ++ ds).length = ps.length := (rd.length).symm.trans (F.len _ _ _ _ q)
  refine wpAny_call (codeAny_mono (F.run _ _ _ _ ⟨us, []⟩ _ _ _ _ gd (hr.mono hk) I1.env0 (b s1 us I1.kIn size) rd q) ?_)
  rintro (e | _ | _ | _ | u) s' z
  · exact hx _ _ _ _ _ _ I1 z
  · exact z.elim
  · exact z.elim
  · exact z.elim
  · exact I1.after z
end
/-! ### repr of data -/
def rRepr (K : PySem.W.Frag) : List V → Hp → VK → Prop := fun xs H Q => ∃ v d, xs = [v] ∧ Dp K H v d ∧ SeqAt.shaped d = true ∧ d.showable = true ∧ d.hasDict = false ∧ d.shown.length ≤ sizeLine ∧ Q (.str d.shown) H
theorem call_repr {X : Cx} (gd : X.A.guards = some []) (hu : X.A.units + 65 < cLine) : CallR X (.builtin "repr") (rRepr X.K) := by
  intro pins s σ H xs us Q I r h
  obtain ⟨v, d, rfl, hd, hs, sw, nd, hz, q⟩ := h
  obtain ⟨u, rfl, rx⟩ := vals1 r
  obtain ⟨as, rd⟩ := Dp.reads I d v u hd rx
  have dep : d.depth ≤ 64 := SeqAt.depth_of_shaped hs
  have box : ∀ a, u = .ref a → wpAny (model X.prog X.w) X.A (call (.builtin "repr") [u]) (EP X pins σ Q) X.xe s := by
    rintro a rfl
    refine repr_of_reads' rd sw (PyData.noDict_hsm nd) gd (by omega) (fun _ _ z => z) (fun h' t tk kp => ?_) hz
    exact ⟨.str d.shown, H, I.kept (t' := tk) kp, ⟨_, rfl⟩, q⟩
  have flat : ∀ tk, EP X pins σ Q (.str d.shown s.toks) { s with toks := tk } := fun tk => ⟨.str d.shown, H, I.tok tk, ⟨_, rfl⟩, q⟩
  cases hd with
  | non =>
    obtain rfl : u = .none := rx
    exact P.repr_of_none (flat _)
  | bl b =>
    obtain rfl : u = .bool b := rx
    exact P.repr_of_bool (flat _)
  | int i =>
    obtain ⟨t, rfl⟩ := rx
    exact P.repr_of_int (of_decide_eq_true sw) (flat _)
  | str z =>
    obtain ⟨t, rfl⟩ := rx
    exact P.repr_of_str (flat _) hz
  | @lst a ys ds h1 h2 => exact box a rx
  | @tup a ys ds h1 h2 => exact box a rx
theorem huS {X : Cx} {a : Addr} {pn : List (Addr × Obj)} {j : Nat} (hr : Room j X.A) : (X.suite a pn).A.units + 65 < cLine := by
  have := hr.un
  show X.A.units + 65 < cLine
  omega
end Md

set_option Elab.async false
set_option linter.all false
set_option maxRecDepth 100000
set_option maxHeartbeats 4000000
/-! data kept, data shown -/
namespace Md
open PySem PySem.Spec PyProof.Rows PySem.Calls L2
mutual
theorem Dp.same {K : PySem.W.Frag} {H H' : Hp} (s : Same H H') : ∀ {v : V} {d : PyData}, Dp K H v d → Dp K H' v d
  | _, _, .non => .non
  | _, _, .bl b => .bl b
  | _, _, .int i => .int i
  | _, _, .str x => .str x
  | _, _, .lst h r => .lst (Same.sqL s h) (DpAll.same s r)
  | _, _, .tup h r => .tup (Evl.ex_t s h) (DpAll.same s r)
theorem DpAll.same {K : PySem.W.Frag} {H H' : Hp} (s : Same H H') : ∀ {vs : List V} {ds : List PyData}, DpAll K H vs ds → DpAll K H' vs ds
  | _, _, .nil => .nil
  | _, _, .cons h r => .cons (Dp.same s h) (DpAll.same s r)
end
/-- data that is shown -/
structure ShowD (d : PyData) : Prop where
  sh : SeqAt.shaped d = true
  sw : d.showable = true
  nd : d.hasDict = false
  sz : d.shown.length ≤ sizeLine
theorem repr_len {z : Str} (h : z.length ≤ 20) (hs : PyData.strOk z = true) : (reprText z).length ≤ 202 := by
  have := StrLaws.reprText_len z fun c hc => by
    have h2 : z.cps.all (· < 0x110000) = true := hs
    rw [← Array.all_toList, List.all_eq_true] at h2
    exact Nat.lt_of_lt_of_le (of_decide_eq_true (h2 c hc)) (by decide)
  omega
theorem sz_ok {n : Nat} (h : n ≤ 100) : n ≤ sizeLine := Nat.le_trans h (by decide)
theorem show_str {z : Str} (h : z.length ≤ 20) (hs : PyData.strOk z = true) : ShowD (.str z) := by
  refine ⟨?_, rfl, rfl, Nat.le_trans (repr_len h hs) (by decide)⟩
  unfold SeqAt.shaped
  simp [PyData.canLay0, PyData.depth, hs]
theorem show_lst1 {z : Str} (h : z.length ≤ 20) (hs : PyData.strOk z = true) : ShowD (.list [.str z]) := by
  refine ⟨shaped_lst1 hs, by simp [PyData.showable, PyData.showableAll], by simp [PyData.hasDict, PyData.hasDictAll], ?_⟩
  have := listText_len_le [reprText z]
  have h2 := repr_len h hs
  simp only [PyData.shown, PyData.shownAll]
  simp only [List.map_cons, List.map_nil, List.sum_cons, List.sum_nil, List.length_cons, List.length_nil] at this
  exact Nat.le_trans (show _ ≤ 300 by omega) (by decide)
theorem show_tup1 {z : Str} (h : z.length ≤ 20) (hs : PyData.strOk z = true) : ShowD (.tuple [.str z]) := by
  refine ⟨shaped_tupS (ns := [z]) (fun n hn => by rw [List.mem_singleton.mp hn]; exact hs), by simp [PyData.showable, PyData.showableAll], by simp [PyData.hasDict, PyData.hasDictAll], ?_⟩
  have := tupleText_len_le [reprText z]
  have h2 := repr_len h hs
  simp only [PyData.shown, PyData.shownAll]
  simp only [List.map_cons, List.map_nil, List.sum_cons, List.sum_nil, List.length_cons, List.length_nil] at this
  exact Nat.le_trans (show _ ≤ 300 by omega) (by decide)
theorem show_tup2 {z w : Str} (h : z.length ≤ 20) (hs : PyData.strOk z = true) (h' : w.length ≤ 20) (hs' : PyData.strOk w = true) : ShowD (.tuple [.str z, .str w]) := by
  refine ⟨shaped_strs hs hs', by simp [PyData.showable, PyData.showableAll], by simp [PyData.hasDict, PyData.hasDictAll], ?_⟩
  have := tupleText_len_le [reprText z, reprText w]
  have h2 := repr_len h hs
  have h3 := repr_len h' hs'
  simp only [PyData.shown, PyData.shownAll]
  simp only [List.map_cons, List.map_nil, List.sum_cons, List.sum_nil, List.length_cons, List.length_nil] at this
  exact Nat.le_trans (show _ ≤ 500 by omega) (by decide)
end Md

set_option Elab.async false
set_option linter.all false
set_option maxRecDepth 100000
set_option maxHeartbeats 4000000
/-! the script's list away from lists that change -/
namespace Md
open PySem PySem.Spec PyProof.Rows PySem.Calls L2
theorem new_ne {n : Nat} {H : Hp} {b l : Addr} (hB : Bag n H b) (h : H l = none) : l ≠ b := by
  rintro rfl
  obtain ⟨L, e⟩ := hB.at_
  rw [h] at e
  cases e
/-- the script's list, away from the lists bs that change -/
def ScrN (K : PySem.W.Frag) (H : Hp) (a : Addr) (xs : List V) (bs : List Addr) : Prop := SqL K H a xs ∧ (a ∈ bs → ∀ H', SqL K H' a xs)
theorem ScrN.step {K : PySem.W.Frag} {H H' : Hp} {a : Addr} {xs : List V} {bs : List Addr} (h : ScrN K H a xs bs) (x : ∀ q o, q ∉ bs → H q = some o → H' q = some o) : ScrN K H' a xs bs := by
  refine ⟨?_, h.2⟩
  by_cases c : a ∈ bs
  · exact h.2 c H'
  · rcases h.1 with (e | ⟨o, e⟩) | e
    · exact .inl (.inl (x _ _ c e))
    · exact .inl (.inr ⟨o, x _ _ c e⟩)
    · exact .inr e
theorem ScrN.xb {K : PySem.W.Frag} {H H' : Hp} {a b : Addr} {xs : List V} {bs : List Addr} (h : ScrN K H a xs bs) (x : Xb b H H') (hb : b ∈ bs := by simp) : ScrN K H' a xs bs := h.step fun q o hq e => x q o (fun z => hq (by rw [z]; exact hb)) e
theorem ScrN.same {K : PySem.W.Frag} {H H' : Hp} {a : Addr} {xs : List V} {bs : List Addr} (h : ScrN K H a xs bs) (s : Same H H') : ScrN K H' a xs bs := h.step fun q o _ e => s q o e
theorem ScrN.new {K : PySem.W.Frag} {H : Hp} {a b : Addr} {xs : List V} {bs : List Addr} (h : ScrN K H a xs bs) (hb : H b = none) : ScrN K H a xs (b :: bs) := by
  refine ⟨h.1, fun hm H' => ?_⟩
  rcases List.mem_cons.mp hm with e | e
  · subst e
    rcases h.1 with (e | ⟨o, e⟩) | e
    · rw [hb] at e; cases e
    · rw [hb] at e; cases e
    · exact .inr e
  · exact h.2 e H'
end Md

set_option Elab.async false
set_option linter.all false
set_option maxRecDepth 100000
set_option maxHeartbeats 4000000
set_option exponentiation.threshold 20000
namespace Md
open PySem PySem.Spec PyProof.Rows PySem.Calls L2
local macro_rules | `(tactic| walk_at "v") => `(tactic| refine ⟨_, rfl, ?_⟩)
local macro_rules | `(tactic| walk_at "few") => `(tactic| (show _ ≤ sizeLine; rw [sizeLine_eq]; simp))
/-! ### the 22 classes -/
def csL (A : Ads) : List Addr := [A.cBadNumber, A.cBadLayout, A.cBadField, A.cBadValue, A.cBadFilling, A.cBadCondition, A.cBadCheck, A.cBadForm, A.cBadPattern, A.cNoFilling, A.cUnlike, A.cTooMany, A.cBadTelling, A.cBadChange, A.cBadBatch, A.cNoCheck, A.cNotTold, A.cRefused, A.cLocked, A.cUnmet, A.cClosed, A.cStarted]
/-- what isinstance says of them, class by class and base by base -/
structure KK (K : PySem.W.Frag) (A : Ads) : Prop where
  own : ∀ (i j : Nat) ci cj, (csL A)[i]? = some ci → (csL A)[j]? = some cj → PySem.W.kitOne K (.ref ci) (.ref cj) = some (decide (i = j))
  mend : ∀ (i : Nat) ci, (csL A)[i]? = some ci → PySem.W.kitOne K (.ref ci) (.ref A.cMendroundsError) = some (decide (i < 15))
  val : ∀ (i : Nat) ci, (csL A)[i]? = some ci → PySem.W.kitOne K (.ref ci) (.type "ValueError") = some (decide (i < 15))
  look : ∀ (i : Nat) ci, (csL A)[i]? = some ci → PySem.W.kitOne K (.ref ci) (.type "LookupError") = some (decide (15 ≤ i ∧ i < 17))
  run : ∀ (i : Nat) ci, (csL A)[i]? = some ci → PySem.W.kitOne K (.ref ci) (.type "RuntimeError") = some (decide (17 ≤ i))
  xc : ∀ c ∈ csL A, ExcC K c
def kkB (K : PySem.W.Frag) (m : Addr) (cs : List Addr) : Bool :=
  (cs.zipIdx.all fun p => (cs.zipIdx.all fun q => decide (PySem.W.kitOne K (.ref p.1) (.ref q.1) = some (decide (p.2 = q.2)))) && (decide (PySem.W.kitOne K (.ref p.1) (.ref m) = some (decide (p.2 < 15))) && (decide (PySem.W.kitOne K (.ref p.1) (.type "ValueError") = some (decide (p.2 < 15))) &&
    (decide (PySem.W.kitOne K (.ref p.1) (.type "LookupError") = some (decide (15 ≤ p.2 ∧ p.2 < 17))) && (decide (PySem.W.kitOne K (.ref p.1) (.type "RuntimeError") = some (decide (17 ≤ p.2))) && xcB K p.1)))))
theorem kkB_ok {K : PySem.W.Frag} {A : Ads} (h : kkB K A.cMendroundsError (csL A) = true) : KK K A := by
  have at_ : ∀ (i : Nat) ci, (csL A)[i]? = some ci → (ci, i) ∈ (csL A).zipIdx := fun i ci e => by
    rw [List.mem_zipIdx_iff_getElem?]
    exact e
  have all := List.all_eq_true.mp h
  have parts : ∀ (i : Nat) ci, (csL A)[i]? = some ci → _ := fun i ci e => Bool.and_eq_true_iff.mp (all _ (at_ i ci e))
  refine ⟨fun i j ci cj e1 e2 => ?_, fun i ci e => ?_, fun i ci e => ?_, fun i ci e => ?_, fun i ci e => ?_, fun c hc => ?_⟩
  · exact of_decide_eq_true (List.all_eq_true.mp (parts i ci e1).1 _ (at_ j cj e2))
  · exact of_decide_eq_true (Bool.and_eq_true_iff.mp (parts i ci e).2).1
  · exact of_decide_eq_true (Bool.and_eq_true_iff.mp (Bool.and_eq_true_iff.mp (parts i ci e).2).2).1
  · exact of_decide_eq_true (Bool.and_eq_true_iff.mp (Bool.and_eq_true_iff.mp (Bool.and_eq_true_iff.mp (parts i ci e).2).2).2).1
  · exact of_decide_eq_true (Bool.and_eq_true_iff.mp (Bool.and_eq_true_iff.mp (Bool.and_eq_true_iff.mp (Bool.and_eq_true_iff.mp (parts i ci e).2).2).2).2).1
  · obtain ⟨i, hi, e⟩ := List.getElem_of_mem hc
    exact xcB_ok (Bool.and_eq_true_iff.mp (Bool.and_eq_true_iff.mp (Bool.and_eq_true_iff.mp (Bool.and_eq_true_iff.mp (parts i c (by rw [List.getElem?_eq_getElem hi, e])).2).2).2).2).2
/-- an error of the i-th class stands at a -/
def ErrAt (A : Ads) (H : Hp) (a : Addr) (i : Nat) : Prop := ∃ ci, (csL A)[i]? = some ci ∧ (H a = some (exo a ci none) ∨ ∃ d fs, H a = some (exo a ci (some d)) ∧ H d = some (exd d fs))
theorem ErrAt.same {A : Ads} {H H' : Hp} {a : Addr} {i : Nat} (h : ErrAt A H a i) (s : Same H H') : ErrAt A H' a i := by
  obtain ⟨ci, e, h | ⟨d, fs, h1, h2⟩⟩ := h
  · exact ⟨ci, e, .inl (s _ _ h)⟩
  · exact ⟨ci, e, .inr ⟨d, fs, s _ _ h1, s _ _ h2⟩⟩
def AtE (H : Hp) (a ci : Addr) : Prop := H a = some (exo a ci none) ∨ ∃ d fs, H a = some (exo a ci (some d)) ∧ H d = some (exd d fs)
theorem AtE.same {H H' : Hp} {a ci : Addr} (h : AtE H a ci) (s : Same H H') : AtE H' a ci := by
  rcases h with h | ⟨d, fs, h1, h2⟩
  · exact .inl (s _ _ h)
  · exact .inr ⟨d, fs, s _ _ h1, s _ _ h2⟩
/-! ### _law_bases -/
def t__law_bases (K : PySem.W.Frag) (A : Ads) (E : XK) : TS :=
    (tSeq (tAsg (tLst (tCons (tCB (rIsO K) (tCons (tVar 0) (tCons (tC (.ref A.cMendroundsError)) tNil))) (tCons (tCB (rIsO K) (tCons (tVar 0) (tCons (tC (.ty "ValueError")) tNil))) (tCons (tCB (rIsO K) (tCons (tVar 0) (tCons (tC (.ty "LookupError")) tNil))) tNil)))) (gName 1))
    (tRet (tOp rCat (tVar 1) (tLst (tCons (tCB (rIsO K) (tCons (tVar 0) (tCons (tC (.ty "RuntimeError")) tNil))) tNil)))))
def n__law_bases : List Str := ["_law_e", "_law_found"]
def sp__law_bases (K : PySem.W.Frag) (A : Ads) : Sp := fun vs H Q _ => ∃ (a : Addr) (i : Nat), vs = [.ref a] ∧ ErrAt A H a i ∧ ∀ l H', Same H H' → H' l = some (.lst [.bl (decide (i < 15)), .bl (decide (i < 15)), .bl (decide (15 ≤ i ∧ i < 17)), .bl (decide (17 ≤ i))]) → Q (.ref l) H'
theorem len__law_bases {K : PySem.W.Frag} {A : Ads} {vs : List V} {H : Hp} {Q : VK} {E : XK} (h : sp__law_bases K A vs H Q E) : vs.length = 1 := by
  obtain ⟨a, i, rfl, _⟩ := h
  rfl
theorem pure__law_bases {K : PySem.W.Frag} {A : Ads} (kk : KK K A) {vs : List V} {H : Hp} {Q : VK} {E : XK} (h : sp__law_bases K A vs H Q E) : t__law_bases K A E { nx := fun _ H' => Q .non H', rt := Q } (start n__law_bases vs) H := by
  obtain ⟨a, i, rfl, ⟨ci, ei, hE⟩, k⟩ := h
  have xc := kk.xc ci (List.mem_of_getElem? ei)
  walk_at "v"
  refine ⟨a, ci, _, _, _, rfl, hE, xc, .own _, kk.mend i ci ei, ?_⟩
  walk_at "v"
  refine ⟨a, ci, _, _, _, rfl, hE, xc, .ty _, kk.val i ci ei, ?_⟩
  walk_at "v"
  refine ⟨a, ci, _, _, _, rfl, hE, xc, .ty _, kk.look i ci ei, ?_⟩
  refine ⟨by walk_at "few", fun l1 n1 => ?_⟩
  generalize e1 : L2.upd H l1 _ = H1
  have s1 : Same H H1 := by rw [← e1]; exact Same.new n1
  have g1 : H1 l1 = some (.lst [.bl (decide (i < 15)), .bl (decide (i < 15)), .bl (decide (15 ≤ i ∧ i < 17))]) := by rw [← e1, upd_same]
  walk_at "v"; walk_at "v"
  refine ⟨a, ci, _, _, _, rfl, AtE.same hE s1, xc, .ty _, kk.run i ci ei, ?_⟩
  refine ⟨by walk_at "few", fun l2 n2 => ?_⟩
  generalize e2 : L2.upd H1 l2 _ = H2
  have s2 : Same H1 H2 := by rw [← e2]; exact Same.new n2
  have g2 : H2 l2 = some (.lst [.bl (decide (17 ≤ i))]) := by rw [← e2, upd_same]
  refine ⟨l1, l2, _, _, rfl, rfl, s2 _ _ g1, g2, by show 4 ≤ sizeLine; rw [sizeLine_eq]; omega, fun p np => ?_⟩
  exact k p _ (Same.trans (Same.trans s1 s2) (Same.new np)) upd_same
end Md

set_option Elab.async false
set_option linter.all false
set_option maxRecDepth 100000
set_option maxHeartbeats 4000000
set_option exponentiation.threshold 20000
namespace Md
open PySem PySem.Spec PyProof.Rows PySem.Calls L2
local macro_rules | `(tactic| walk_at "v") => `(tactic| refine ⟨_, rfl, ?_⟩)
local macro_rules | `(tactic| walk_at "few") => `(tactic| (show _ ≤ sizeLine; rw [sizeLine_eq]; simp))
/-! ### making -/
theorem mk_one {C : Addr} {f : Str} {x : V} {H : Hp} {R : Addr → Hp → Prop} (q : ∀ a d H', Same H H' → H' a = some (exo a C (some d)) → H' d = some (exd d [(f, x)]) → R a H') :
    [x].length ≤ 1000 ∧ ∀ a, H a = none → spXi C f (.ref a :: [x]) (L2.upd H a (exo a C none)) (fun v H2 => v = .non ∧ R a H2) E0 := by
  refine ⟨by show 1 ≤ 1000; decide, fun a na => ⟨a, x, rfl, upd_same, fun d nd ne => ⟨rfl, q a d _ (fun b u e => ?_) upd_same ?_⟩⟩⟩
  · have nb : b ≠ a := ne_of_none e na
    have nb2 : b ≠ d := by
      rintro rfl
      rw [upd_ne nb, e] at nd
      cases nd
    rw [upd_ne nb, upd_ne nb2, upd_ne nb]
    exact e
  · rw [upd_ne ne, upd_same]
def sp_BadValue___init__ (K : PySem.W.Frag) (A : Ads) : Sp := spXi A.cBadValue "name"
def sp_BadFilling___init__ (K : PySem.W.Frag) (A : Ads) : Sp := spXi A.cBadFilling "name"
def sp_BadCondition___init__ (K : PySem.W.Frag) (A : Ads) : Sp := spXi A.cBadCondition "at"
def sp_BadCheck___init__ (K : PySem.W.Frag) (A : Ads) : Sp := spXi A.cBadCheck "what"
def sp_BadForm___init__ (K : PySem.W.Frag) (A : Ads) : Sp := spXi A.cBadForm "at"
def sp_BadPattern___init__ (K : PySem.W.Frag) (A : Ads) : Sp := spXi A.cBadPattern "pattern"
def sp_NoFilling___init__ (K : PySem.W.Frag) (A : Ads) : Sp := spXi A.cNoFilling "pattern"
def sp_TooMany___init__ (K : PySem.W.Frag) (A : Ads) : Sp := spXi A.cTooMany "what"
def sp_BadTelling___init__ (K : PySem.W.Frag) (A : Ads) : Sp := spXi A.cBadTelling "telling"
def sp_BadChange___init__ (K : PySem.W.Frag) (A : Ads) : Sp := spXi A.cBadChange "at"
def sp_BadBatch___init__ (K : PySem.W.Frag) (A : Ads) : Sp := spXi A.cBadBatch "at"
def sp_NoCheck___init__ (K : PySem.W.Frag) (A : Ads) : Sp := spXi A.cNoCheck "name"
def sp_NotTold___init__ (K : PySem.W.Frag) (A : Ads) : Sp := spXi A.cNotTold "name"
def sp_Locked___init__ (K : PySem.W.Frag) (A : Ads) : Sp := spXi A.cLocked "name"
def sp_Unmet___init__ (K : PySem.W.Frag) (A : Ads) : Sp := spXi A.cUnmet "names"
def t_Refused___init__ (K : PySem.W.Frag) (A : Ads) (E : XK) : TS :=
    (tSeq (tOx K "name" (tVar 0) (tVar 1))
    (tSeq (tOx K "blames" (tVar 0) (tVar 2))
    (tOx K "cause" (tVar 0) (tVar 3))))
def n_Refused___init__ : List Str := ["self", "name", "blames", "cause"]
def sp_Refused___init__ (K : PySem.W.Frag) (A : Ads) : Sp := fun vs H Q _ => ∃ (a : Addr) (x y z : V), vs = [.ref a, x, y, z] ∧ H a = some (exo a A.cRefused none) ∧
  ∀ d H', (∀ b u, b ≠ a → H b = some u → H' b = some u) → H' a = some (exo a A.cRefused (some d)) → H' d = some (exd d [("cause", z), ("blames", y), ("name", x)]) → H d = none → d ≠ a → Q .non H'
theorem len_Refused___init__ {K : PySem.W.Frag} {A : Ads} {vs : List V} {H : Hp} {Q : VK} {E : XK} (h : sp_Refused___init__ K A vs H Q E) : vs.length = 4 := by
  obtain ⟨a, _, _, _, rfl, _⟩ := h
  rfl
theorem pure_Refused___init__ {K : PySem.W.Frag} {A : Ads} (no_blames : PySem.W.findIn K (.ref A.cRefused) "blames" = some none) (no_cause : PySem.W.findIn K (.ref A.cRefused) "cause" = some none) (no_name : PySem.W.findIn K (.ref A.cRefused) "name" = some none) (xo : XoC K A.cRefused)
    {vs : List V} {H : Hp} {Q : VK} {E : XK} (h : sp_Refused___init__ K A vs H Q E) : t_Refused___init__ K A E { nx := fun _ H' => Q .non H', rt := Q } (start n_Refused___init__ vs) H := by
  obtain ⟨a, x, y, z, rfl, ha, k⟩ := h
  walk_at "v"; walk_at "v"
  refine ⟨a, A.cRefused, rfl, xo, no_name, .inl ⟨ha, fun d nd ne => ?_⟩⟩
  generalize e1 : L2.upd (L2.upd H d _) a _ = H1
  have a1 : H1 a = some (exo a A.cRefused (some d)) := by rw [← e1, upd_same]
  have d1 : H1 d = some (exd d [("name", x)]) := by rw [← e1, upd_ne ne, upd_same]
  have s1 : ∀ b u, b ≠ a → H b = some u → H1 b = some u := fun b u nb e => by rw [← e1, upd_ne nb, upd_ne (ne_of_none e nd)]; exact e
  walk_at "v"; walk_at "v"
  refine ⟨a, A.cRefused, rfl, xo, no_blames, .inr ⟨d, _, a1, d1, by show 1 ≤ 900; decide, ?_⟩⟩
  generalize e2 : L2.upd H1 d _ = H2
  have a2 : H2 a = some (exo a A.cRefused (some d)) := by rw [← e2, upd_ne (Ne.symm ne)]; exact a1
  have d2 : H2 d = some (exd d [("blames", y), ("name", x)]) := by rw [← e2, upd_same]
  walk_at "v"; walk_at "v"
  refine ⟨a, A.cRefused, rfl, xo, no_cause, .inr ⟨d, _, a2, d2, by show 2 ≤ 900; decide, ?_⟩⟩
  generalize e3 : L2.upd H2 d _ = H3
  refine k d H3 (fun b u nb e => ?_) (by rw [← e3, upd_ne (Ne.symm ne)]; exact a2) (by rw [← e3, upd_same]) nd ne
  rw [← e3, upd_ne (ne_of_none e nd), ← e2, upd_ne (ne_of_none e nd)]
  exact s1 b u nb e
theorem mk_three {K : PySem.W.Frag} {A : Ads} {x y z : V} {H : Hp} {R : Addr → Hp → Prop} (q : ∀ a d H', Same H H' → H' a = some (exo a A.cRefused (some d)) → H' d = some (exd d [("cause", z), ("blames", y), ("name", x)]) → R a H') :
    [x, y, z].length ≤ 1000 ∧ ∀ a, H a = none → sp_Refused___init__ K A (.ref a :: [x, y, z]) (L2.upd H a (exo a A.cRefused none)) (fun v H2 => v = .non ∧ R a H2) E0 := by
  refine ⟨by show 3 ≤ 1000; decide, fun a na => ⟨a, x, y, z, rfl, upd_same, fun d H' s ha hd nd ne => ⟨rfl, q a d H' (fun b u e => ?_) ha hd⟩⟩⟩
  have nb : b ≠ a := ne_of_none e na
  exact s b u nb (by rw [upd_ne nb]; exact e)
/-! ### _law_kinds -/
def t__law_kinds (K : PySem.W.Frag) (A : Ads) (E : XK) : TS :=
    (tSeq (tAsg (tLst (tCons (tCB (rIsO K) (tCons (tVar 0) (tCons (tC (.ref A.cBadNumber)) tNil))) (tCons (tCB (rIsO K) (tCons (tVar 0) (tCons (tC (.ref A.cBadLayout)) tNil))) (tCons (tCB (rIsO K) (tCons (tVar 0) (tCons (tC (.ref A.cBadField)) tNil))) (tCons (tCB (rIsO K) (tCons (tVar 0) (tCons (tC (.ref A.cBadValue)) tNil))) tNil))))) (gName 1))
    (tSeq (tAsg (tOp rCat (tVar 1) (tLst (tCons (tCB (rIsO K) (tCons (tVar 0) (tCons (tC (.ref A.cBadFilling)) tNil))) (tCons (tCB (rIsO K) (tCons (tVar 0) (tCons (tC (.ref A.cBadCondition)) tNil))) (tCons (tCB (rIsO K) (tCons (tVar 0) (tCons (tC (.ref A.cBadCheck)) tNil))) (tCons (tCB (rIsO K) (tCons (tVar 0) (tCons (tC (.ref A.cBadForm)) tNil))) tNil)))))) (gName 1))
    (tSeq (tAsg (tOp rCat (tVar 1) (tLst (tCons (tCB (rIsO K) (tCons (tVar 0) (tCons (tC (.ref A.cBadPattern)) tNil))) (tCons (tCB (rIsO K) (tCons (tVar 0) (tCons (tC (.ref A.cNoFilling)) tNil))) (tCons (tCB (rIsO K) (tCons (tVar 0) (tCons (tC (.ref A.cUnlike)) tNil))) (tCons (tCB (rIsO K) (tCons (tVar 0) (tCons (tC (.ref A.cTooMany)) tNil))) tNil)))))) (gName 1))
    (tSeq (tAsg (tOp rCat (tVar 1) (tLst (tCons (tCB (rIsO K) (tCons (tVar 0) (tCons (tC (.ref A.cBadTelling)) tNil))) (tCons (tCB (rIsO K) (tCons (tVar 0) (tCons (tC (.ref A.cBadChange)) tNil))) (tCons (tCB (rIsO K) (tCons (tVar 0) (tCons (tC (.ref A.cBadBatch)) tNil))) (tCons (tCB (rIsO K) (tCons (tVar 0) (tCons (tC (.ref A.cNoCheck)) tNil))) tNil)))))) (gName 1))
    (tSeq (tAsg (tOp rCat (tVar 1) (tLst (tCons (tCB (rIsO K) (tCons (tVar 0) (tCons (tC (.ref A.cNotTold)) tNil))) (tCons (tCB (rIsO K) (tCons (tVar 0) (tCons (tC (.ref A.cRefused)) tNil))) (tCons (tCB (rIsO K) (tCons (tVar 0) (tCons (tC (.ref A.cLocked)) tNil))) (tCons (tCB (rIsO K) (tCons (tVar 0) (tCons (tC (.ref A.cUnmet)) tNil))) tNil)))))) (gName 1))
    (tSeq (tAsg (tOp rCat (tVar 1) (tLst (tCons (tCB (rIsO K) (tCons (tVar 0) (tCons (tC (.ref A.cClosed)) tNil))) (tCons (tCB (rIsO K) (tCons (tVar 0) (tCons (tC (.ref A.cStarted)) tNil))) tNil)))) (gName 1))
    (tRet (tLc (iRng1 (tCons (tC (.int 22)) tNil)) (gName 2) (tB (tOp (rIx K) (tVar 1) (tVar 2))) (tVar 2) [2]))))))))
def n__law_kinds : List Str := ["_law_e", "_law_found", "_law_k"]
def sp__law_kinds (K : PySem.W.Frag) (A : Ads) : Sp := fun vs H Q _ => ∃ (a : Addr) (i : Nat), vs = [.ref a] ∧ ErrAt A H a i ∧ ∀ l H', Same H H' → H' l = some (.lst [.int (i : Nat)]) → Q (.ref l) H'
theorem len__law_kinds {K : PySem.W.Frag} {A : Ads} {vs : List V} {H : Hp} {Q : VK} {E : XK} (h : sp__law_kinds K A vs H Q E) : vs.length = 1 := by
  obtain ⟨a, i, rfl, _⟩ := h
  rfl
theorem pure__law_kinds {K : PySem.W.Frag} {A : Ads} (kk : KK K A) {vs : List V} {H : Hp} {Q : VK} {E : XK} (h : sp__law_kinds K A vs H Q E) : t__law_kinds K A E { nx := fun _ H' => Q .non H', rt := Q } (start n__law_kinds vs) H := by
  obtain ⟨a, i, rfl, ⟨ci, ei, hE⟩, k⟩ := h
  have xc := kk.xc ci (List.mem_of_getElem? ei)
  have hi : i < 22 := (List.getElem?_eq_some_iff.mp ei).1
  have hE : AtE H a ci := hE
  have S := Same.refl H
  walk_at "v"
  refine ⟨a, ci, _, _, _, rfl, hE, xc, .own _, kk.own i 0 ci _ ei rfl, ?_⟩
  walk_at "v"
  refine ⟨a, ci, _, _, _, rfl, hE, xc, .own _, kk.own i 1 ci _ ei rfl, ?_⟩
  walk_at "v"
  refine ⟨a, ci, _, _, _, rfl, hE, xc, .own _, kk.own i 2 ci _ ei rfl, ?_⟩
  walk_at "v"
  refine ⟨a, ci, _, _, _, rfl, hE, xc, .own _, kk.own i 3 ci _ ei rfl, ?_⟩
  refine ⟨by walk_at "few", fun l1 n1 => ?_⟩
  generalize e1 : L2.upd H l1 _ = H1
  have s1 : Same H H1 := by rw [← e1]; exact Same.new n1
  have g1 : H1 l1 = some (.lst [.bl (decide (i = 0)), .bl (decide (i = 1)), .bl (decide (i = 2)), .bl (decide (i = 3))]) := by rw [← e1, upd_same]
  have hE := AtE.same hE s1
  have S := Same.trans S s1
  walk_at "v"
  walk_at "v"
  refine ⟨a, ci, _, _, _, rfl, hE, xc, .own _, kk.own i 4 ci _ ei rfl, ?_⟩
  walk_at "v"
  refine ⟨a, ci, _, _, _, rfl, hE, xc, .own _, kk.own i 5 ci _ ei rfl, ?_⟩
  walk_at "v"
  refine ⟨a, ci, _, _, _, rfl, hE, xc, .own _, kk.own i 6 ci _ ei rfl, ?_⟩
  walk_at "v"
  refine ⟨a, ci, _, _, _, rfl, hE, xc, .own _, kk.own i 7 ci _ ei rfl, ?_⟩
  refine ⟨by walk_at "few", fun l2 n2 => ?_⟩
  generalize e2 : L2.upd H1 l2 _ = H2
  have s2 : Same H1 H2 := by rw [← e2]; exact Same.new n2
  have g2 : H2 l2 = some (.lst [.bl (decide (i = 4)), .bl (decide (i = 5)), .bl (decide (i = 6)), .bl (decide (i = 7))]) := by rw [← e2, upd_same]
  have hE := AtE.same hE s2
  have S := Same.trans S s2
  refine ⟨l1, l2, _, _, rfl, rfl, s2 _ _ g1, g2, by show 8 ≤ sizeLine; rw [sizeLine_eq]; omega, fun l3 n3 => ?_⟩
  generalize e3 : L2.upd H2 l3 _ = H3
  have s3 : Same H2 H3 := by rw [← e3]; exact Same.new n3
  have g3 : H3 l3 = some (.lst [.bl (decide (i = 0)), .bl (decide (i = 1)), .bl (decide (i = 2)), .bl (decide (i = 3)), .bl (decide (i = 4)), .bl (decide (i = 5)), .bl (decide (i = 6)), .bl (decide (i = 7))]) := by rw [← e3, upd_same]; rfl
  have hE := AtE.same hE s3
  have S := Same.trans S s3
  walk_at "v"
  walk_at "v"
  refine ⟨a, ci, _, _, _, rfl, hE, xc, .own _, kk.own i 8 ci _ ei rfl, ?_⟩
  walk_at "v"
  refine ⟨a, ci, _, _, _, rfl, hE, xc, .own _, kk.own i 9 ci _ ei rfl, ?_⟩
  walk_at "v"
  refine ⟨a, ci, _, _, _, rfl, hE, xc, .own _, kk.own i 10 ci _ ei rfl, ?_⟩
  walk_at "v"
  refine ⟨a, ci, _, _, _, rfl, hE, xc, .own _, kk.own i 11 ci _ ei rfl, ?_⟩
  refine ⟨by walk_at "few", fun l4 n4 => ?_⟩
  generalize e4 : L2.upd H3 l4 _ = H4
  have s4 : Same H3 H4 := by rw [← e4]; exact Same.new n4
  have g4 : H4 l4 = some (.lst [.bl (decide (i = 8)), .bl (decide (i = 9)), .bl (decide (i = 10)), .bl (decide (i = 11))]) := by rw [← e4, upd_same]
  have hE := AtE.same hE s4
  have S := Same.trans S s4
  refine ⟨l3, l4, _, _, rfl, rfl, s4 _ _ g3, g4, by show 12 ≤ sizeLine; rw [sizeLine_eq]; omega, fun l5 n5 => ?_⟩
  generalize e5 : L2.upd H4 l5 _ = H5
  have s5 : Same H4 H5 := by rw [← e5]; exact Same.new n5
  have g5 : H5 l5 = some (.lst [.bl (decide (i = 0)), .bl (decide (i = 1)), .bl (decide (i = 2)), .bl (decide (i = 3)), .bl (decide (i = 4)), .bl (decide (i = 5)), .bl (decide (i = 6)), .bl (decide (i = 7)), .bl (decide (i = 8)), .bl (decide (i = 9)), .bl (decide (i = 10)), .bl (decide (i = 11))]) := by rw [← e5, upd_same]; rfl
  have hE := AtE.same hE s5
  have S := Same.trans S s5
  walk_at "v"
  walk_at "v"
  refine ⟨a, ci, _, _, _, rfl, hE, xc, .own _, kk.own i 12 ci _ ei rfl, ?_⟩
  walk_at "v"
  refine ⟨a, ci, _, _, _, rfl, hE, xc, .own _, kk.own i 13 ci _ ei rfl, ?_⟩
  walk_at "v"
  refine ⟨a, ci, _, _, _, rfl, hE, xc, .own _, kk.own i 14 ci _ ei rfl, ?_⟩
  walk_at "v"
  refine ⟨a, ci, _, _, _, rfl, hE, xc, .own _, kk.own i 15 ci _ ei rfl, ?_⟩
  refine ⟨by walk_at "few", fun l6 n6 => ?_⟩
  generalize e6 : L2.upd H5 l6 _ = H6
  have s6 : Same H5 H6 := by rw [← e6]; exact Same.new n6
  have g6 : H6 l6 = some (.lst [.bl (decide (i = 12)), .bl (decide (i = 13)), .bl (decide (i = 14)), .bl (decide (i = 15))]) := by rw [← e6, upd_same]
  have hE := AtE.same hE s6
  have S := Same.trans S s6
  refine ⟨l5, l6, _, _, rfl, rfl, s6 _ _ g5, g6, by show 16 ≤ sizeLine; rw [sizeLine_eq]; omega, fun l7 n7 => ?_⟩
  generalize e7 : L2.upd H6 l7 _ = H7
  have s7 : Same H6 H7 := by rw [← e7]; exact Same.new n7
  have g7 : H7 l7 = some (.lst [.bl (decide (i = 0)), .bl (decide (i = 1)), .bl (decide (i = 2)), .bl (decide (i = 3)), .bl (decide (i = 4)), .bl (decide (i = 5)), .bl (decide (i = 6)), .bl (decide (i = 7)), .bl (decide (i = 8)), .bl (decide (i = 9)), .bl (decide (i = 10)), .bl (decide (i = 11)), .bl (decide (i = 12)), .bl (decide (i = 13)), .bl (decide (i = 14)), .bl (decide (i = 15))]) := by rw [← e7, upd_same]; rfl
  have hE := AtE.same hE s7
  have S := Same.trans S s7
  walk_at "v"
  walk_at "v"
  refine ⟨a, ci, _, _, _, rfl, hE, xc, .own _, kk.own i 16 ci _ ei rfl, ?_⟩
  walk_at "v"
  refine ⟨a, ci, _, _, _, rfl, hE, xc, .own _, kk.own i 17 ci _ ei rfl, ?_⟩
  walk_at "v"
  refine ⟨a, ci, _, _, _, rfl, hE, xc, .own _, kk.own i 18 ci _ ei rfl, ?_⟩
  walk_at "v"
  refine ⟨a, ci, _, _, _, rfl, hE, xc, .own _, kk.own i 19 ci _ ei rfl, ?_⟩
  refine ⟨by walk_at "few", fun l8 n8 => ?_⟩
  generalize e8 : L2.upd H7 l8 _ = H8
  have s8 : Same H7 H8 := by rw [← e8]; exact Same.new n8
  have g8 : H8 l8 = some (.lst [.bl (decide (i = 16)), .bl (decide (i = 17)), .bl (decide (i = 18)), .bl (decide (i = 19))]) := by rw [← e8, upd_same]
  have hE := AtE.same hE s8
  have S := Same.trans S s8
  refine ⟨l7, l8, _, _, rfl, rfl, s8 _ _ g7, g8, by show 20 ≤ sizeLine; rw [sizeLine_eq]; omega, fun l9 n9 => ?_⟩
  generalize e9 : L2.upd H8 l9 _ = H9
  have s9 : Same H8 H9 := by rw [← e9]; exact Same.new n9
  have g9 : H9 l9 = some (.lst [.bl (decide (i = 0)), .bl (decide (i = 1)), .bl (decide (i = 2)), .bl (decide (i = 3)), .bl (decide (i = 4)), .bl (decide (i = 5)), .bl (decide (i = 6)), .bl (decide (i = 7)), .bl (decide (i = 8)), .bl (decide (i = 9)), .bl (decide (i = 10)), .bl (decide (i = 11)), .bl (decide (i = 12)), .bl (decide (i = 13)), .bl (decide (i = 14)), .bl (decide (i = 15)), .bl (decide (i = 16)), .bl (decide (i = 17)), .bl (decide (i = 18)), .bl (decide (i = 19))]) := by rw [← e9, upd_same]; rfl
  have hE := AtE.same hE s9
  have S := Same.trans S s9
  walk_at "v"
  walk_at "v"
  refine ⟨a, ci, _, _, _, rfl, hE, xc, .own _, kk.own i 20 ci _ ei rfl, ?_⟩
  walk_at "v"
  refine ⟨a, ci, _, _, _, rfl, hE, xc, .own _, kk.own i 21 ci _ ei rfl, ?_⟩
  refine ⟨by walk_at "few", fun l10 n10 => ?_⟩
  generalize e10 : L2.upd H9 l10 _ = H10
  have s10 : Same H9 H10 := by rw [← e10]; exact Same.new n10
  have g10 : H10 l10 = some (.lst [.bl (decide (i = 20)), .bl (decide (i = 21))]) := by rw [← e10, upd_same]
  have hE := AtE.same hE s10
  have S := Same.trans S s10
  refine ⟨l9, l10, _, _, rfl, rfl, s10 _ _ g9, g10, by show 22 ≤ sizeLine; rw [sizeLine_eq]; omega, fun l11 n11 => ?_⟩
  generalize e11 : L2.upd H10 l11 _ = H11
  have s11 : Same H10 H11 := by rw [← e11]; exact Same.new n11
  have g11 : H11 l11 = some (.lst [.bl (decide (i = 0)), .bl (decide (i = 1)), .bl (decide (i = 2)), .bl (decide (i = 3)), .bl (decide (i = 4)), .bl (decide (i = 5)), .bl (decide (i = 6)), .bl (decide (i = 7)), .bl (decide (i = 8)), .bl (decide (i = 9)), .bl (decide (i = 10)), .bl (decide (i = 11)), .bl (decide (i = 12)), .bl (decide (i = 13)), .bl (decide (i = 14)), .bl (decide (i = 15)), .bl (decide (i = 16)), .bl (decide (i = 17)), .bl (decide (i = 18)), .bl (decide (i = 19)), .bl (decide (i = 20)), .bl (decide (i = 21))]) := by rw [← e11, upd_same]; rfl
  have hE := AtE.same hE s11
  have S := Same.trans S s11
  have gR : H11 l11 = some (.lst ((List.range 22).map fun j => V.bl (decide (i = j)))) := g11
  refine ⟨22, rfl, by omega, by omega, fun D hD => ?_⟩
  refine lc_range (lo := 0) (n := 22) (fun j H' => Same H11 H' ∧ H' D = some (.lst (if i < j then [.int (i : Nat)] else []))) ⟨Same.new hD, by rw [upd_same]; rfl⟩ ?_ ?_
  · rintro j H9 hj ⟨s9, hl⟩
    refine ⟨rfl, ?_⟩
    have at_ : atI ((List.range 22).map fun j => V.bl (decide (i = j))) (0 + (j : Int)) = some (.bl (decide (i = j))) := by
      obtain ⟨x, e1, e2⟩ := atI_of (xs := (List.range 22).map fun j => V.bl (decide (i = j))) (d := 0 + (j : Int)) (by omega) (by rw [List.length_map, List.length_range]; omega)
      rw [e1]
      have e3 : (0 + (j : Int)).toNat = j := by omega
      rw [e3, List.getElem?_map, List.getElem?_range (by omega)] at e2
      exact e2.symm
    walk_at "v"; walk_at "v"
    refine .inl ⟨l11, _, 0 + (j : Int), .bl (decide (i = j)), rfl, rfl, SqL.of (s9 _ _ gR), at_, ?_⟩
    refine ⟨_, rfl, ?_⟩
    show (if decide (i = j) = true then _ else _)
    refine iteD (fun c => ?_) (fun c => ?_)
    · subst c
      rw [if_neg (Nat.lt_irrefl i)] at hl
      walk_at "v"
      refine ⟨_, hl, by show 0 < sizeLine; rw [sizeLine_eq]; omega, fun b u e => ?_, ?_⟩
      · rw [upd_ne (ne_of_none e hD)]
        exact s9 b u e
      · rw [upd_same, if_pos (Nat.lt_succ_self i), List.nil_append]
        have e0 : (0 : Int) + (i : Nat) = (i : Nat) := by omega
        rw [e0]
    · refine ⟨s9, ?_⟩
      rw [hl]
      by_cases d : i < j
      · rw [if_pos d, if_pos (by omega)]
      · rw [if_neg d, if_neg (by omega)]
  · rintro H9 ⟨s9, hl⟩
    rw [if_pos hi] at hl
    exact k D H9 (Same.trans S s9) hl
/-! ### _law_first -/
def t__law_first (K : PySem.W.Frag) (A : Ads) (E : XK) : TS :=
    (tRet (tLst (tCons (tXo K "thing" (tMkV A.cBadNumber (sp_BadNumber___init__ K A) (tCons (tVar 0) tNil))) (tCons (tXo K "at" (tMkV A.cBadLayout (sp_BadLayout___init__ K A) (tCons (tVar 0) tNil))) (tCons (tXo K "name" (tMkV A.cBadField (sp_BadField___init__ K A) (tCons (tVar 0) tNil))) (tCons (tXo K "name" (tMkV A.cBadValue (sp_BadValue___init__ K A) (tCons (tVar 0) tNil))) (tCons (tXo K "name" (tMkV A.cBadFilling (sp_BadFilling___init__ K A) (tCons (tVar 0) tNil))) (tCons (tXo K "at" (tMkV A.cBadCondition (sp_BadCondition___init__ K A) (tCons (tVar 0) tNil))) (tCons (tXo K "what" (tMkV A.cBadCheck (sp_BadCheck___init__ K A) (tCons (tVar 0) tNil))) (tCons (tXo K "at" (tMkV A.cBadForm (sp_BadForm___init__ K A) (tCons (tVar 0) tNil))) (tCons (tXo K "pattern" (tMkV A.cBadPattern (sp_BadPattern___init__ K A) (tCons (tVar 0) tNil))) (tCons (tXo K "pattern" (tMkV A.cNoFilling (sp_NoFilling___init__ K A) (tCons (tVar 0) tNil))) (tCons (tXo K "what" (tMkV A.cTooMany (sp_TooMany___init__ K A) (tCons (tVar 0) tNil))) (tCons (tXo K "telling" (tMkV A.cBadTelling (sp_BadTelling___init__ K A) (tCons (tVar 0) tNil))) (tCons (tXo K "at" (tMkV A.cBadChange (sp_BadChange___init__ K A) (tCons (tVar 0) tNil))) (tCons (tXo K "at" (tMkV A.cBadBatch (sp_BadBatch___init__ K A) (tCons (tVar 0) tNil))) (tCons (tXo K "name" (tMkV A.cNoCheck (sp_NoCheck___init__ K A) (tCons (tVar 0) tNil))) (tCons (tXo K "name" (tMkV A.cNotTold (sp_NotTold___init__ K A) (tCons (tVar 0) tNil))) (tCons (tXo K "name" (tMkV A.cLocked (sp_Locked___init__ K A) (tCons (tVar 0) tNil))) (tCons (tXo K "names" (tMkV A.cUnmet (sp_Unmet___init__ K A) (tCons (tVar 0) tNil))) tNil))))))))))))))))))))
def n__law_first : List Str := ["_law_one"]
def sp__law_first (K : PySem.W.Frag) (A : Ads) : Sp := fun vs H Q _ => ∃ x : V, vs = [x] ∧ ∀ l H', Same H H' → H' l = some (.lst (List.replicate 18 x)) → Q (.ref l) H'
theorem len__law_first {K : PySem.W.Frag} {A : Ads} {vs : List V} {H : Hp} {Q : VK} {E : XK} (h : sp__law_first K A vs H Q E) : vs.length = 1 := by
  obtain ⟨x, rfl, _⟩ := h
  rfl
theorem pure__law_first {K : PySem.W.Frag} {A : Ads} (xf_BadBatch : XfC K A.cBadBatch) (xf_BadChange : XfC K A.cBadChange) (xf_BadCheck : XfC K A.cBadCheck) (xf_BadCondition : XfC K A.cBadCondition) (xf_BadField : XfC K A.cBadField) (xf_BadFilling : XfC K A.cBadFilling) (xf_BadForm : XfC K A.cBadForm) (xf_BadLayout : XfC K A.cBadLayout) (xf_BadNumber : XfC K A.cBadNumber) (xf_BadPattern : XfC K A.cBadPattern) (xf_BadTelling : XfC K A.cBadTelling) (xf_BadValue : XfC K A.cBadValue) (xf_Locked : XfC K A.cLocked) (xf_NoCheck : XfC K A.cNoCheck) (xf_NoFilling : XfC K A.cNoFilling) (xf_NotTold : XfC K A.cNotTold) (xf_TooMany : XfC K A.cTooMany) (xf_Unmet : XfC K A.cUnmet) (xn_BadBatch_at : PySem.W.findIn K (.ref A.cBadBatch) "at" = some none) (xn_BadChange_at : PySem.W.findIn K (.ref A.cBadChange) "at" = some none) (xn_BadCheck_what : PySem.W.findIn K (.ref A.cBadCheck) "what" = some none) (xn_BadCondition_at : PySem.W.findIn K (.ref A.cBadCondition) "at" = some none) (xn_BadField_name : PySem.W.findIn K (.ref A.cBadField) "name" = some none) (xn_BadFilling_name : PySem.W.findIn K (.ref A.cBadFilling) "name" = some none) (xn_BadForm_at : PySem.W.findIn K (.ref A.cBadForm) "at" = some none) (xn_BadLayout_at : PySem.W.findIn K (.ref A.cBadLayout) "at" = some none) (xn_BadNumber_thing : PySem.W.findIn K (.ref A.cBadNumber) "thing" = some none) (xn_BadPattern_pattern : PySem.W.findIn K (.ref A.cBadPattern) "pattern" = some none) (xn_BadTelling_telling : PySem.W.findIn K (.ref A.cBadTelling) "telling" = some none) (xn_BadValue_name : PySem.W.findIn K (.ref A.cBadValue) "name" = some none) (xn_Locked_name : PySem.W.findIn K (.ref A.cLocked) "name" = some none) (xn_NoCheck_name : PySem.W.findIn K (.ref A.cNoCheck) "name" = some none) (xn_NoFilling_pattern : PySem.W.findIn K (.ref A.cNoFilling) "pattern" = some none) (xn_NotTold_name : PySem.W.findIn K (.ref A.cNotTold) "name" = some none) (xn_TooMany_what : PySem.W.findIn K (.ref A.cTooMany) "what" = some none) (xn_Unmet_names : PySem.W.findIn K (.ref A.cUnmet) "names" = some none) {vs : List V} {H : Hp} {Q : VK} {E : XK} (h : sp__law_first K A vs H Q E) : t__law_first K A E { nx := fun _ H' => Q .non H', rt := Q } (start n__law_first vs) H := by
  obtain ⟨x, rfl, k⟩ := h
  have S := Same.refl H
  walk_at "v"
  refine mk_one fun a d H' s ha hd => ?_
  refine ⟨a, _, d, _, x, rfl, ha, hd, xf_BadNumber, xn_BadNumber_thing, rfl, ?_⟩
  have S := Same.trans S s
  clear s ha hd
  walk_at "v"
  refine mk_one fun a d H' s ha hd => ?_
  refine ⟨a, _, d, _, x, rfl, ha, hd, xf_BadLayout, xn_BadLayout_at, rfl, ?_⟩
  have S := Same.trans S s
  clear s ha hd
  walk_at "v"
  refine mk_one fun a d H' s ha hd => ?_
  refine ⟨a, _, d, _, x, rfl, ha, hd, xf_BadField, xn_BadField_name, rfl, ?_⟩
  have S := Same.trans S s
  clear s ha hd
  walk_at "v"
  refine mk_one fun a d H' s ha hd => ?_
  refine ⟨a, _, d, _, x, rfl, ha, hd, xf_BadValue, xn_BadValue_name, rfl, ?_⟩
  have S := Same.trans S s
  clear s ha hd
  walk_at "v"
  refine mk_one fun a d H' s ha hd => ?_
  refine ⟨a, _, d, _, x, rfl, ha, hd, xf_BadFilling, xn_BadFilling_name, rfl, ?_⟩
  have S := Same.trans S s
  clear s ha hd
  walk_at "v"
  refine mk_one fun a d H' s ha hd => ?_
  refine ⟨a, _, d, _, x, rfl, ha, hd, xf_BadCondition, xn_BadCondition_at, rfl, ?_⟩
  have S := Same.trans S s
  clear s ha hd
  walk_at "v"
  refine mk_one fun a d H' s ha hd => ?_
  refine ⟨a, _, d, _, x, rfl, ha, hd, xf_BadCheck, xn_BadCheck_what, rfl, ?_⟩
  have S := Same.trans S s
  clear s ha hd
  walk_at "v"
  refine mk_one fun a d H' s ha hd => ?_
  refine ⟨a, _, d, _, x, rfl, ha, hd, xf_BadForm, xn_BadForm_at, rfl, ?_⟩
  have S := Same.trans S s
  clear s ha hd
  walk_at "v"
  refine mk_one fun a d H' s ha hd => ?_
  refine ⟨a, _, d, _, x, rfl, ha, hd, xf_BadPattern, xn_BadPattern_pattern, rfl, ?_⟩
  have S := Same.trans S s
  clear s ha hd
  walk_at "v"
  refine mk_one fun a d H' s ha hd => ?_
  refine ⟨a, _, d, _, x, rfl, ha, hd, xf_NoFilling, xn_NoFilling_pattern, rfl, ?_⟩
  have S := Same.trans S s
  clear s ha hd
  walk_at "v"
  refine mk_one fun a d H' s ha hd => ?_
  refine ⟨a, _, d, _, x, rfl, ha, hd, xf_TooMany, xn_TooMany_what, rfl, ?_⟩
  have S := Same.trans S s
  clear s ha hd
  walk_at "v"
  refine mk_one fun a d H' s ha hd => ?_
  refine ⟨a, _, d, _, x, rfl, ha, hd, xf_BadTelling, xn_BadTelling_telling, rfl, ?_⟩
  have S := Same.trans S s
  clear s ha hd
  walk_at "v"
  refine mk_one fun a d H' s ha hd => ?_
  refine ⟨a, _, d, _, x, rfl, ha, hd, xf_BadChange, xn_BadChange_at, rfl, ?_⟩
  have S := Same.trans S s
  clear s ha hd
  walk_at "v"
  refine mk_one fun a d H' s ha hd => ?_
  refine ⟨a, _, d, _, x, rfl, ha, hd, xf_BadBatch, xn_BadBatch_at, rfl, ?_⟩
  have S := Same.trans S s
  clear s ha hd
  walk_at "v"
  refine mk_one fun a d H' s ha hd => ?_
  refine ⟨a, _, d, _, x, rfl, ha, hd, xf_NoCheck, xn_NoCheck_name, rfl, ?_⟩
  have S := Same.trans S s
  clear s ha hd
  walk_at "v"
  refine mk_one fun a d H' s ha hd => ?_
  refine ⟨a, _, d, _, x, rfl, ha, hd, xf_NotTold, xn_NotTold_name, rfl, ?_⟩
  have S := Same.trans S s
  clear s ha hd
  walk_at "v"
  refine mk_one fun a d H' s ha hd => ?_
  refine ⟨a, _, d, _, x, rfl, ha, hd, xf_Locked, xn_Locked_name, rfl, ?_⟩
  have S := Same.trans S s
  clear s ha hd
  walk_at "v"
  refine mk_one fun a d H' s ha hd => ?_
  refine ⟨a, _, d, _, x, rfl, ha, hd, xf_Unmet, xn_Unmet_names, rfl, ?_⟩
  have S := Same.trans S s
  clear s ha hd
  refine ⟨by walk_at "few", fun l nl => ?_⟩
  exact k l _ (Same.trans S (Same.new nl)) upd_same
/-! ### _law_all -/
def t__law_all (K : PySem.W.Frag) (A : Ads) (E : XK) : TS :=
    (tRet (tLst (tCons (tMkV A.cBadNumber (sp_BadNumber___init__ K A) (tCons (tVar 0) tNil)) (tCons (tMkV A.cBadLayout (sp_BadLayout___init__ K A) (tCons (tVar 0) tNil)) (tCons (tMkV A.cBadField (sp_BadField___init__ K A) (tCons (tVar 0) tNil)) (tCons (tMkV A.cBadValue (sp_BadValue___init__ K A) (tCons (tVar 0) tNil)) (tCons (tMkV A.cBadFilling (sp_BadFilling___init__ K A) (tCons (tVar 0) tNil)) (tCons (tMkV A.cBadCondition (sp_BadCondition___init__ K A) (tCons (tVar 0) tNil)) (tCons (tMkV A.cBadCheck (sp_BadCheck___init__ K A) (tCons (tVar 0) tNil)) (tCons (tMkV A.cBadForm (sp_BadForm___init__ K A) (tCons (tVar 0) tNil)) (tCons (tMkV A.cBadPattern (sp_BadPattern___init__ K A) (tCons (tVar 0) tNil)) (tCons (tMkV A.cNoFilling (sp_NoFilling___init__ K A) (tCons (tVar 0) tNil)) (tCons (tMk0 A.cUnlike) (tCons (tMkV A.cTooMany (sp_TooMany___init__ K A) (tCons (tVar 0) tNil)) (tCons (tMkV A.cBadTelling (sp_BadTelling___init__ K A) (tCons (tVar 0) tNil)) (tCons (tMkV A.cBadChange (sp_BadChange___init__ K A) (tCons (tVar 0) tNil)) (tCons (tMkV A.cBadBatch (sp_BadBatch___init__ K A) (tCons (tVar 0) tNil)) (tCons (tMkV A.cNoCheck (sp_NoCheck___init__ K A) (tCons (tVar 0) tNil)) (tCons (tMkV A.cNotTold (sp_NotTold___init__ K A) (tCons (tVar 0) tNil)) (tCons (tMkV A.cRefused (sp_Refused___init__ K A) (tCons (tVar 0) (tCons (tVar 0) (tCons (tVar 0) tNil)))) (tCons (tMkV A.cLocked (sp_Locked___init__ K A) (tCons (tVar 0) tNil)) (tCons (tMkV A.cUnmet (sp_Unmet___init__ K A) (tCons (tVar 0) tNil)) (tCons (tMk0 A.cClosed) (tCons (tMk0 A.cStarted) tNil))))))))))))))))))))))))
def n__law_all : List Str := ["_law_one"]
def sp__law_all (K : PySem.W.Frag) (A : Ads) : Sp := fun vs H Q _ => ∃ x : V, vs = [x] ∧ ∀ (l : Addr) (rs : List Addr) (H' : Hp), Same H H' → H' l = some (.lst (rs.map V.ref)) → rs.length = 22 → (∀ (i : Nat) a, rs[i]? = some a → ErrAt A H' a i) → Q (.ref l) H'
theorem len__law_all {K : PySem.W.Frag} {A : Ads} {vs : List V} {H : Hp} {Q : VK} {E : XK} (h : sp__law_all K A vs H Q E) : vs.length = 1 := by
  obtain ⟨x, rfl, _⟩ := h
  rfl
theorem pure__law_all {K : PySem.W.Frag} {A : Ads} {vs : List V} {H : Hp} {Q : VK} {E : XK} (h : sp__law_all K A vs H Q E) : t__law_all K A E { nx := fun _ H' => Q .non H', rt := Q } (start n__law_all vs) H := by
  obtain ⟨x, rfl, k⟩ := h
  have S := Same.refl H
  walk_at "v"
  refine mk_one fun a0 d0 J0 s ha hd => ?_
  have E0 : ErrAt A J0 a0 0 := ⟨_, rfl, .inr ⟨d0, _, ha, hd⟩⟩
  have S := Same.trans S s
  clear s
  walk_at "v"
  refine mk_one fun a1 d1 J1 s ha hd => ?_
  have E1 : ErrAt A J1 a1 1 := ⟨_, rfl, .inr ⟨d1, _, ha, hd⟩⟩
  have E0 := E0.same s
  have S := Same.trans S s
  clear s
  walk_at "v"
  refine mk_one fun a2 d2 J2 s ha hd => ?_
  have E2 : ErrAt A J2 a2 2 := ⟨_, rfl, .inr ⟨d2, _, ha, hd⟩⟩
  have E0 := E0.same s
  have E1 := E1.same s
  have S := Same.trans S s
  clear s
  walk_at "v"
  refine mk_one fun a3 d3 J3 s ha hd => ?_
  have E3 : ErrAt A J3 a3 3 := ⟨_, rfl, .inr ⟨d3, _, ha, hd⟩⟩
  have E0 := E0.same s
  have E1 := E1.same s
  have E2 := E2.same s
  have S := Same.trans S s
  clear s
  walk_at "v"
  refine mk_one fun a4 d4 J4 s ha hd => ?_
  have E4 : ErrAt A J4 a4 4 := ⟨_, rfl, .inr ⟨d4, _, ha, hd⟩⟩
  have E0 := E0.same s
  have E1 := E1.same s
  have E2 := E2.same s
  have E3 := E3.same s
  have S := Same.trans S s
  clear s
  walk_at "v"
  refine mk_one fun a5 d5 J5 s ha hd => ?_
  have E5 : ErrAt A J5 a5 5 := ⟨_, rfl, .inr ⟨d5, _, ha, hd⟩⟩
  have E0 := E0.same s
  have E1 := E1.same s
  have E2 := E2.same s
  have E3 := E3.same s
  have E4 := E4.same s
  have S := Same.trans S s
  clear s
  walk_at "v"
  refine mk_one fun a6 d6 J6 s ha hd => ?_
  have E6 : ErrAt A J6 a6 6 := ⟨_, rfl, .inr ⟨d6, _, ha, hd⟩⟩
  have E0 := E0.same s
  have E1 := E1.same s
  have E2 := E2.same s
  have E3 := E3.same s
  have E4 := E4.same s
  have E5 := E5.same s
  have S := Same.trans S s
  clear s
  walk_at "v"
  refine mk_one fun a7 d7 J7 s ha hd => ?_
  have E7 : ErrAt A J7 a7 7 := ⟨_, rfl, .inr ⟨d7, _, ha, hd⟩⟩
  have E0 := E0.same s
  have E1 := E1.same s
  have E2 := E2.same s
  have E3 := E3.same s
  have E4 := E4.same s
  have E5 := E5.same s
  have E6 := E6.same s
  have S := Same.trans S s
  clear s
  walk_at "v"
  refine mk_one fun a8 d8 J8 s ha hd => ?_
  have E8 : ErrAt A J8 a8 8 := ⟨_, rfl, .inr ⟨d8, _, ha, hd⟩⟩
  have E0 := E0.same s
  have E1 := E1.same s
  have E2 := E2.same s
  have E3 := E3.same s
  have E4 := E4.same s
  have E5 := E5.same s
  have E6 := E6.same s
  have E7 := E7.same s
  have S := Same.trans S s
  clear s
  walk_at "v"
  refine mk_one fun a9 d9 J9 s ha hd => ?_
  have E9 : ErrAt A J9 a9 9 := ⟨_, rfl, .inr ⟨d9, _, ha, hd⟩⟩
  have E0 := E0.same s
  have E1 := E1.same s
  have E2 := E2.same s
  have E3 := E3.same s
  have E4 := E4.same s
  have E5 := E5.same s
  have E6 := E6.same s
  have E7 := E7.same s
  have E8 := E8.same s
  have S := Same.trans S s
  clear s
  refine fun a10 na => ?_
  generalize ej : L2.upd J9 a10 _ = J10
  have s : Same J9 J10 := by rw [← ej]; exact Same.new na
  have E10 : ErrAt A J10 a10 10 := ⟨_, rfl, .inl (by rw [← ej, upd_same])⟩
  clear ej na
  have E0 := E0.same s
  have E1 := E1.same s
  have E2 := E2.same s
  have E3 := E3.same s
  have E4 := E4.same s
  have E5 := E5.same s
  have E6 := E6.same s
  have E7 := E7.same s
  have E8 := E8.same s
  have E9 := E9.same s
  have S := Same.trans S s
  clear s
  walk_at "v"
  refine mk_one fun a11 d11 J11 s ha hd => ?_
  have E11 : ErrAt A J11 a11 11 := ⟨_, rfl, .inr ⟨d11, _, ha, hd⟩⟩
  have E0 := E0.same s
  have E1 := E1.same s
  have E2 := E2.same s
  have E3 := E3.same s
  have E4 := E4.same s
  have E5 := E5.same s
  have E6 := E6.same s
  have E7 := E7.same s
  have E8 := E8.same s
  have E9 := E9.same s
  have E10 := E10.same s
  have S := Same.trans S s
  clear s
  walk_at "v"
  refine mk_one fun a12 d12 J12 s ha hd => ?_
  have E12 : ErrAt A J12 a12 12 := ⟨_, rfl, .inr ⟨d12, _, ha, hd⟩⟩
  have E0 := E0.same s
  have E1 := E1.same s
  have E2 := E2.same s
  have E3 := E3.same s
  have E4 := E4.same s
  have E5 := E5.same s
  have E6 := E6.same s
  have E7 := E7.same s
  have E8 := E8.same s
  have E9 := E9.same s
  have E10 := E10.same s
  have E11 := E11.same s
  have S := Same.trans S s
  clear s
  walk_at "v"
  refine mk_one fun a13 d13 J13 s ha hd => ?_
  have E13 : ErrAt A J13 a13 13 := ⟨_, rfl, .inr ⟨d13, _, ha, hd⟩⟩
  have E0 := E0.same s
  have E1 := E1.same s
  have E2 := E2.same s
  have E3 := E3.same s
  have E4 := E4.same s
  have E5 := E5.same s
  have E6 := E6.same s
  have E7 := E7.same s
  have E8 := E8.same s
  have E9 := E9.same s
  have E10 := E10.same s
  have E11 := E11.same s
  have E12 := E12.same s
  have S := Same.trans S s
  clear s
  walk_at "v"
  refine mk_one fun a14 d14 J14 s ha hd => ?_
  have E14 : ErrAt A J14 a14 14 := ⟨_, rfl, .inr ⟨d14, _, ha, hd⟩⟩
  have E0 := E0.same s
  have E1 := E1.same s
  have E2 := E2.same s
  have E3 := E3.same s
  have E4 := E4.same s
  have E5 := E5.same s
  have E6 := E6.same s
  have E7 := E7.same s
  have E8 := E8.same s
  have E9 := E9.same s
  have E10 := E10.same s
  have E11 := E11.same s
  have E12 := E12.same s
  have E13 := E13.same s
  have S := Same.trans S s
  clear s
  walk_at "v"
  refine mk_one fun a15 d15 J15 s ha hd => ?_
  have E15 : ErrAt A J15 a15 15 := ⟨_, rfl, .inr ⟨d15, _, ha, hd⟩⟩
  have E0 := E0.same s
  have E1 := E1.same s
  have E2 := E2.same s
  have E3 := E3.same s
  have E4 := E4.same s
  have E5 := E5.same s
  have E6 := E6.same s
  have E7 := E7.same s
  have E8 := E8.same s
  have E9 := E9.same s
  have E10 := E10.same s
  have E11 := E11.same s
  have E12 := E12.same s
  have E13 := E13.same s
  have E14 := E14.same s
  have S := Same.trans S s
  clear s
  walk_at "v"
  refine mk_one fun a16 d16 J16 s ha hd => ?_
  have E16 : ErrAt A J16 a16 16 := ⟨_, rfl, .inr ⟨d16, _, ha, hd⟩⟩
  have E0 := E0.same s
  have E1 := E1.same s
  have E2 := E2.same s
  have E3 := E3.same s
  have E4 := E4.same s
  have E5 := E5.same s
  have E6 := E6.same s
  have E7 := E7.same s
  have E8 := E8.same s
  have E9 := E9.same s
  have E10 := E10.same s
  have E11 := E11.same s
  have E12 := E12.same s
  have E13 := E13.same s
  have E14 := E14.same s
  have E15 := E15.same s
  have S := Same.trans S s
  clear s
  walk_at "v"; walk_at "v"; walk_at "v"
  refine mk_three fun a17 d17 J17 s ha hd => ?_
  have E17 : ErrAt A J17 a17 17 := ⟨_, rfl, .inr ⟨d17, _, ha, hd⟩⟩
  have E0 := E0.same s
  have E1 := E1.same s
  have E2 := E2.same s
  have E3 := E3.same s
  have E4 := E4.same s
  have E5 := E5.same s
  have E6 := E6.same s
  have E7 := E7.same s
  have E8 := E8.same s
  have E9 := E9.same s
  have E10 := E10.same s
  have E11 := E11.same s
  have E12 := E12.same s
  have E13 := E13.same s
  have E14 := E14.same s
  have E15 := E15.same s
  have E16 := E16.same s
  have S := Same.trans S s
  clear s
  walk_at "v"
  refine mk_one fun a18 d18 J18 s ha hd => ?_
  have E18 : ErrAt A J18 a18 18 := ⟨_, rfl, .inr ⟨d18, _, ha, hd⟩⟩
  have E0 := E0.same s
  have E1 := E1.same s
  have E2 := E2.same s
  have E3 := E3.same s
  have E4 := E4.same s
  have E5 := E5.same s
  have E6 := E6.same s
  have E7 := E7.same s
  have E8 := E8.same s
  have E9 := E9.same s
  have E10 := E10.same s
  have E11 := E11.same s
  have E12 := E12.same s
  have E13 := E13.same s
  have E14 := E14.same s
  have E15 := E15.same s
  have E16 := E16.same s
  have E17 := E17.same s
  have S := Same.trans S s
  clear s
  walk_at "v"
  refine mk_one fun a19 d19 J19 s ha hd => ?_
  have E19 : ErrAt A J19 a19 19 := ⟨_, rfl, .inr ⟨d19, _, ha, hd⟩⟩
  have E0 := E0.same s
  have E1 := E1.same s
  have E2 := E2.same s
  have E3 := E3.same s
  have E4 := E4.same s
  have E5 := E5.same s
  have E6 := E6.same s
  have E7 := E7.same s
  have E8 := E8.same s
  have E9 := E9.same s
  have E10 := E10.same s
  have E11 := E11.same s
  have E12 := E12.same s
  have E13 := E13.same s
  have E14 := E14.same s
  have E15 := E15.same s
  have E16 := E16.same s
  have E17 := E17.same s
  have E18 := E18.same s
  have S := Same.trans S s
  clear s
  refine fun a20 na => ?_
  generalize ej : L2.upd J19 a20 _ = J20
  have s : Same J19 J20 := by rw [← ej]; exact Same.new na
  have E20 : ErrAt A J20 a20 20 := ⟨_, rfl, .inl (by rw [← ej, upd_same])⟩
  clear ej na
  have E0 := E0.same s
  have E1 := E1.same s
  have E2 := E2.same s
  have E3 := E3.same s
  have E4 := E4.same s
  have E5 := E5.same s
  have E6 := E6.same s
  have E7 := E7.same s
  have E8 := E8.same s
  have E9 := E9.same s
  have E10 := E10.same s
  have E11 := E11.same s
  have E12 := E12.same s
  have E13 := E13.same s
  have E14 := E14.same s
  have E15 := E15.same s
  have E16 := E16.same s
  have E17 := E17.same s
  have E18 := E18.same s
  have E19 := E19.same s
  have S := Same.trans S s
  clear s
  refine fun a21 na => ?_
  generalize ej : L2.upd J20 a21 _ = J21
  have s : Same J20 J21 := by rw [← ej]; exact Same.new na
  have E21 : ErrAt A J21 a21 21 := ⟨_, rfl, .inl (by rw [← ej, upd_same])⟩
  clear ej na
  have E0 := E0.same s
  have E1 := E1.same s
  have E2 := E2.same s
  have E3 := E3.same s
  have E4 := E4.same s
  have E5 := E5.same s
  have E6 := E6.same s
  have E7 := E7.same s
  have E8 := E8.same s
  have E9 := E9.same s
  have E10 := E10.same s
  have E11 := E11.same s
  have E12 := E12.same s
  have E13 := E13.same s
  have E14 := E14.same s
  have E15 := E15.same s
  have E16 := E16.same s
  have E17 := E17.same s
  have E18 := E18.same s
  have E19 := E19.same s
  have E20 := E20.same s
  have S := Same.trans S s
  clear s
  refine ⟨by walk_at "few", fun l nl => ?_⟩
  have s := Same.new (o := .lst ([a0, a1, a2, a3, a4, a5, a6, a7, a8, a9, a10, a11, a12, a13, a14, a15, a16, a17, a18, a19, a20, a21].map V.ref)) nl
  refine k l [a0, a1, a2, a3, a4, a5, a6, a7, a8, a9, a10, a11, a12, a13, a14, a15, a16, a17, a18, a19, a20, a21] _ (Same.trans S s) upd_same rfl fun i a e => ?_
  match i, e with
  | 0, e => cases e; exact E0.same s
  | 1, e => cases e; exact E1.same s
  | 2, e => cases e; exact E2.same s
  | 3, e => cases e; exact E3.same s
  | 4, e => cases e; exact E4.same s
  | 5, e => cases e; exact E5.same s
  | 6, e => cases e; exact E6.same s
  | 7, e => cases e; exact E7.same s
  | 8, e => cases e; exact E8.same s
  | 9, e => cases e; exact E9.same s
  | 10, e => cases e; exact E10.same s
  | 11, e => cases e; exact E11.same s
  | 12, e => cases e; exact E12.same s
  | 13, e => cases e; exact E13.same s
  | 14, e => cases e; exact E14.same s
  | 15, e => cases e; exact E15.same s
  | 16, e => cases e; exact E16.same s
  | 17, e => cases e; exact E17.same s
  | 18, e => cases e; exact E18.same s
  | 19, e => cases e; exact E19.same s
  | 20, e => cases e; exact E20.same s
  | 21, e => cases e; exact E21.same s
  | i + 22, e => cases e
end Md

set_option Elab.async false
set_option linter.all false
set_option maxRecDepth 100000
set_option maxHeartbeats 4000000
set_option exponentiation.threshold 20000
namespace Md
open PySem PySem.Spec PyProof.Rows PySem.Calls L2
local macro_rules | `(tactic| walk_at "v") => `(tactic| refine ⟨_, rfl, ?_⟩)
local macro_rules | `(tactic| walk_at "no") => `(tactic| (refine ⟨_, rfl, ?_⟩; refine ⟨rfl, ?_⟩; refine ⟨_, rfl, ?_⟩; refine iteD (fun h => absurd h (by decide)) (fun _ => ?_)))
local macro_rules | `(tactic| walk_at "yes") => `(tactic| (refine ⟨_, rfl, ?_⟩; refine ⟨rfl, ?_⟩; refine ⟨_, rfl, ?_⟩; refine iteD (fun _ => ?_) (fun h => absurd rfl h)))
/-! ### _law_is_caught -/
def tb__law_is_caught (K : PySem.W.Frag) (A : Ads) (W : WX) : TS := (tSeq (tIfS (tTest (tOp rEq (tVar 0) (tC (.int 0)))) (tRaiseW W (tMkO A.cBadForm (sp_BadForm___init__ K A) [] (tCons (tVar 1) tNil))) tNext)
    (tSeq (tIfS (tTest (tOp rEq (tVar 0) (tC (.int 1)))) (tRaiseW W (tMkO A.cNoCheck (sp_NoCheck___init__ K A) [] (tCons (tVar 1) tNil))) tNext)
    (tRaiseW W (tMkO A.cUnmet (sp_Unmet___init__ K A) [] (tCons (tVar 1) tNil)))))
def ts__law_is_caught_0 (K : PySem.W.Frag) (A : Ads) (a : Addr) (cls : Value) (d : Option Addr) : TS := (tRet (tAndV (tOp rEq (tVar 0) (tC (.int 0))) (tOp rEq (tCB (rRepr K) (tCons (tXf a cls d A.cBadForm "at" (tVar 2)) tNil)) (tCB (rRepr K) (tCons (tVar 1) tNil)))))
def ts__law_is_caught_1 (K : PySem.W.Frag) (A : Ads) (a : Addr) (cls : Value) (d : Option Addr) : TS := (tRet (tC (.bl false)))
def ts__law_is_caught_2 (K : PySem.W.Frag) (A : Ads) (a : Addr) (cls : Value) (d : Option Addr) : TS := (tRet (tAndV (tOp rEq (tVar 0) (tC (.int 1))) (tOp rEq (tCB (rRepr K) (tCons (tXf a cls d A.cNoCheck "name" (tVar 2)) tNil)) (tCB (rRepr K) (tCons (tVar 1) tNil)))))
def ts__law_is_caught_3 (K : PySem.W.Frag) (A : Ads) (a : Addr) (cls : Value) (d : Option Addr) : TS := (tRet (tAndV (tOp rEq (tVar 0) (tC (.int 2))) (tOp rEq (tCB (rRepr K) (tCons (tXf a cls d A.cUnmet "names" (tVar 2)) tNil)) (tCB (rRepr K) (tCons (tVar 1) tNil)))))
def t__law_is_caught (K : PySem.W.Frag) (A : Ads) (E : XK) : TS :=
    (tSeq (fun D σ H => tb__law_is_caught K A (wTries K (fun _ _ _ _ => False) D [(.ref A.cBadForm, some 2, ts__law_is_caught_0 K A), (.ref A.cMendroundsError, none, ts__law_is_caught_1 K A), (.ref A.cNoCheck, some 2, ts__law_is_caught_2 K A), (.ref A.cUnmet, some 2, ts__law_is_caught_3 K A)]) D σ H)
    (tRet (tC (.bl false))))
def n__law_is_caught : List Str := ["_law_k", "_law_one", "_law_e"]
def sp__law_is_caught (K : PySem.W.Frag) (A : Ads) : Sp := fun vs H Q _ => ∃ (n : Int) (x : V) (d : PyData), vs = [.int n, x] ∧ (n = 0 ∨ n = 1 ∨ n = 2) ∧ Dp K H x d ∧ ShowD d ∧ ∀ H', Same H H' → Q (.bl true) H'
theorem len__law_is_caught {K : PySem.W.Frag} {A : Ads} {vs : List V} {H : Hp} {Q : VK} {E : XK} (h : sp__law_is_caught K A vs H Q E) : vs.length = 2 := by
  obtain ⟨n, x, d, rfl, _⟩ := h
  rfl
theorem pure__law_is_caught {K : PySem.W.Frag} {A : Ads} (xmF : PySem.W.exmOne K (.ref A.cBadForm) (.ref A.cBadForm) = some true) (_xmM : PySem.W.exmOne K (.ref A.cMendroundsError) (.ref A.cMendroundsError) = some true) (xmN : PySem.W.exmOne K (.ref A.cNoCheck) (.ref A.cNoCheck) = some true) (xmU : PySem.W.exmOne K (.ref A.cUnmet) (.ref A.cUnmet) = some true)
    (_xuMF : PySem.W.exmOne K (.ref A.cMendroundsError) (.ref A.cBadForm) = some false) (xuNF : PySem.W.exmOne K (.ref A.cNoCheck) (.ref A.cBadForm) = some false) (xuNM : PySem.W.exmOne K (.ref A.cNoCheck) (.ref A.cMendroundsError) = some false) (xuUF : PySem.W.exmOne K (.ref A.cUnmet) (.ref A.cBadForm) = some false)
    (xuUM : PySem.W.exmOne K (.ref A.cUnmet) (.ref A.cMendroundsError) = some false) (xuUN : PySem.W.exmOne K (.ref A.cUnmet) (.ref A.cNoCheck) = some false)
    {vs : List V} {H : Hp} {Q : VK} {E : XK} (h : sp__law_is_caught K A vs H Q E) : t__law_is_caught K A E { nx := fun _ H' => Q .non H', rt := Q } (start n__law_is_caught vs) H := by
  obtain ⟨n, x, d, rfl, hn, hx, sd, k⟩ := h
  have fin : ∀ {H' : Hp} {Q2 : VK}, Q2 (.bl true) H' → Q2 (.bl (decide (V.str d.shown = V.str d.shown))) H' := fun q => by
    rw [decide_eq_true (rfl : V.str d.shown = V.str d.shown)]
    exact q
  rcases hn with rfl | rfl | rfl
  · walk_at "yes"
    walk_at "v"
    refine mk_xi (Q := fun cls d H' => wTries K (fun _ _ _ _ => False) _ _ cls d _ H') fun dd H' s hd => ?_
    refine ⟨true, xmF, fun _ e he => ?_, fun q => Bool.noConfusion q⟩
    have hx' := Dp.same s hx
    walk_at "v"
    refine ⟨rfl, ?_⟩
    refine ⟨_, rfl, ?_⟩
    refine iteD (fun _ => ?_) (fun h => absurd rfl h)
    walk_at "v"
    refine ⟨rfl, rfl, dd, _, _, rfl, hd, rfl, ?_⟩
    refine ⟨x, d, rfl, hx', sd.sh, sd.sw, sd.nd, sd.sz, ?_⟩
    walk_at "v"
    refine ⟨x, d, rfl, hx', sd.sh, sd.sw, sd.nd, sd.sz, ?_⟩
    refine ⟨rfl, ?_⟩
    exact fin (k H' s)
  · walk_at "no"; walk_at "yes"
    walk_at "v"
    refine mk_xi (Q := fun cls d H' => wTries K (fun _ _ _ _ => False) _ _ cls d _ H') fun dd H' s hd => ?_
    refine ⟨false, xuNF, fun q => Bool.noConfusion q, fun _ => ?_⟩
    refine ⟨false, xuNM, fun q => Bool.noConfusion q, fun _ => ?_⟩
    refine ⟨true, xmN, fun _ e he => ?_, fun q => Bool.noConfusion q⟩
    have hx' := Dp.same s hx
    walk_at "v"
    refine ⟨rfl, ?_⟩
    refine ⟨_, rfl, ?_⟩
    refine iteD (fun _ => ?_) (fun h => absurd rfl h)
    walk_at "v"
    refine ⟨rfl, rfl, dd, _, _, rfl, hd, rfl, ?_⟩
    refine ⟨x, d, rfl, hx', sd.sh, sd.sw, sd.nd, sd.sz, ?_⟩
    walk_at "v"
    refine ⟨x, d, rfl, hx', sd.sh, sd.sw, sd.nd, sd.sz, ?_⟩
    refine ⟨rfl, ?_⟩
    exact fin (k H' s)
  · walk_at "no"; walk_at "no"
    walk_at "v"
    refine mk_xi (Q := fun cls d H' => wTries K (fun _ _ _ _ => False) _ _ cls d _ H') fun dd H' s hd => ?_
    refine ⟨false, xuUF, fun q => Bool.noConfusion q, fun _ => ?_⟩
    refine ⟨false, xuUM, fun q => Bool.noConfusion q, fun _ => ?_⟩
    refine ⟨false, xuUN, fun q => Bool.noConfusion q, fun _ => ?_⟩
    refine ⟨true, xmU, fun _ e he => ?_, fun q => Bool.noConfusion q⟩
    have hx' := Dp.same s hx
    walk_at "v"
    refine ⟨rfl, ?_⟩
    refine ⟨_, rfl, ?_⟩
    refine iteD (fun _ => ?_) (fun h => absurd rfl h)
    walk_at "v"
    refine ⟨rfl, rfl, dd, _, _, rfl, hd, rfl, ?_⟩
    refine ⟨x, d, rfl, hx', sd.sh, sd.sw, sd.nd, sd.sz, ?_⟩
    walk_at "v"
    refine ⟨x, d, rfl, hx', sd.sh, sd.sw, sd.nd, sd.sz, ?_⟩
    refine ⟨rfl, ?_⟩
    exact fin (k H' s)
end Md

set_option Elab.async false
set_option linter.all false
set_option maxRecDepth 100000
set_option maxHeartbeats 4000000
/-! digits: the written forms of numbers, as lists of signs -/
namespace Md
open PySem PySem.Spec PyProof.Rows PySem.Calls L2 PySem.NumText
def dgN (n : Nat) : List Nat := (Nat.toDigits 10 n).map Char.toNat
def sI (i : Int) : List Nat := if i < 0 then 45 :: dgN i.natAbs else dgN i.natAbs
theorem dgN_val (n : Nat) : digitsVal (dgN n) = n := PySem.W.KIN.val_back n
theorem dgN_dig {n c : Nat} (h : c ∈ dgN n) : 48 ≤ c ∧ c ≤ 57 := by
  obtain ⟨ch, hch, e⟩ := List.mem_map.mp h
  rw [← e]
  exact digit_range (Nat.isDigit_of_mem_toDigits (by decide) (by decide) hch)
theorem dgN_small {n : Nat} (h : n < 10) : dgN n = [48 + n] := by
  have : ∀ n < 10, dgN n = [48 + n] := by decide +kernel
  exact this n h
theorem dgN_snoc {n : Nat} (h : ¬ n < 10) : dgN n = dgN (n / 10) ++ [48 + n % 10] := by
  have hm : n % 10 < 10 := Nat.mod_lt n (by decide)
  have t : Nat.toDigits 10 (n / 10) ++ Nat.toDigits 10 (n % 10) = Nat.toDigits 10 (10 * (n / 10) + n % 10) := Nat.toDigits_append_toDigits (by decide) (by omega) hm
  rw [Nat.div_add_mod] at t
  have e : dgN n = dgN (n / 10) ++ dgN (n % 10) := by
    unfold dgN
    rw [← t, List.map_append]
  rw [e, dgN_small hm]
theorem dgN_ne (n : Nat) : dgN n ≠ [] := by
  by_cases h : n < 10
  · rw [dgN_small h]; exact List.cons_ne_nil _ _
  · rw [dgN_snoc h]; simp
theorem dgN_head (n : Nat) : ∃ c r, dgN n = c :: r ∧ (n ≠ 0 → c ≠ 48) := by
  induction n using Nat.strongRecOn with
  | _ n ih =>
    by_cases h : n < 10
    · exact ⟨48 + n, [], dgN_small h, fun z => by omega⟩
    · obtain ⟨c, r, e, hc⟩ := ih (n / 10) (by omega)
      exact ⟨c, r ++ [48 + n % 10], by rw [dgN_snoc h, e]; rfl, fun _ => hc (by omega)⟩
theorem sI_text (i : Int) : (Str.ofString (toString i)).cps.toList = sI i := by
  rw [signs_ofString]
  unfold sI
  cases i with
  | ofNat m =>
    rw [if_neg (show ¬ Int.ofNat m < 0 from Int.not_lt.mpr (Int.natCast_nonneg m))]
    show (Nat.repr m).toList.map Char.toNat = _
    rw [Nat.toList_repr]
    rfl
  | negSucc m =>
    rw [if_pos (Int.negSucc_lt_zero m)]
    show (("-" ++ Nat.repr (m + 1)).toList.map Char.toNat) = _
    rw [String.toList_append, List.map_append, Nat.toList_repr]
    rfl
def valI : List Nat → Int
  | 45 :: r => -((digitsVal r : Nat) : Int)
  | r => ((digitsVal r : Nat) : Int)
theorem valI_sI (i : Int) : valI (sI i) = i := by
  unfold sI
  by_cases h : i < 0
  · rw [if_pos h]
    show -((digitsVal (dgN i.natAbs) : Nat) : Int) = i
    rw [dgN_val]
    omega
  · rw [if_neg h]
    obtain ⟨c, r, e, _⟩ := dgN_head i.natAbs
    have hc := dgN_dig (n := i.natAbs) (c := c) (by rw [e]; exact List.mem_cons_self)
    have e2 : valI (dgN i.natAbs) = ((digitsVal (dgN i.natAbs) : Nat) : Int) := by
      rw [e]
      unfold valI
      split
      · rename_i r' e'
        cases e'
        omega
      · rfl
    rw [e2, dgN_val]
    omega
theorem sI_sign {i : Int} {c : Nat} (h : c ∈ sI i) : c = 45 ∨ (48 ≤ c ∧ c ≤ 57) := by
  unfold sI at h
  split at h
  · rcases List.mem_cons.mp h with rfl | h
    · exact .inl rfl
    · exact .inr (dgN_dig h)
  · exact .inr (dgN_dig h)
theorem sI_47 (i : Int) : 47 ∉ sI i := fun h => by rcases sI_sign h with h | h <;> omega
theorem sI_ne (i : Int) : sI i ≠ [] := by
  unfold sI
  split
  · exact List.cons_ne_nil _ _
  · exact dgN_ne _
/-- the written form of p/q -/
def wl (p q : Int) : List Nat := if q = 1 then sI p else sI p ++ 47 :: sI q
theorem wl_ne (p q : Int) : wl p q ≠ [] := by
  unfold wl
  split
  · exact sI_ne p
  · simp
def IsW (cs : List Nat) : Prop := ∃ p q : Int, 1 ≤ q ∧ Cop p q ∧ cs = wl p q
theorem IsW.signs {cs : List Nat} (h : IsW cs) : ∀ c ∈ cs, c = 45 ∨ c = 47 ∨ (48 ≤ c ∧ c ≤ 57) := by
  obtain ⟨p, q, _, _, rfl⟩ := h
  intro c hc
  unfold wl at hc
  split at hc
  · rcases sI_sign hc with h | h
    · exact .inl h
    · exact .inr (.inr h)
  · rcases List.mem_append.mp hc with h | h
    · rcases sI_sign h with h | h
      · exact .inl h
      · exact .inr (.inr h)
    rcases List.mem_cons.mp h with h | h
    · exact .inr (.inl h)
    · rcases sI_sign h with h | h
      · exact .inl h
      · exact .inr (.inr h)
theorem split_uniq {x : Nat} : ∀ (a c b d : List Nat), a ++ x :: b = c ++ x :: d → x ∉ c → x ∉ d → a = c ∧ b = d
  | [], [], b, d, e, _, _ => by
    injection e with _ e
    exact ⟨rfl, e⟩
  | [], y :: c, b, d, e, h, _ => by
    injection e with e1 e2
    exact absurd (by rw [e1]; exact List.mem_cons_self) h
  | y :: a, [], b, d, e, _, h => by
    injection e with e1 e2
    exact absurd (by rw [← e2]; exact List.mem_append_right _ List.mem_cons_self) h
  | y :: a, z :: c, b, d, e, h1, h2 => by
    injection e with e1 e2
    obtain ⟨e3, e4⟩ := split_uniq a c b d e2 (fun h => h1 (List.mem_cons_of_mem _ h)) h2
    exact ⟨by rw [e1, e3], e4⟩
/-- a written form with a line in it -/
theorem IsW.line {a b : List Nat} (h : IsW (a ++ 47 :: b)) : ∃ p q : Int, 2 ≤ q ∧ Cop p q ∧ a = sI p ∧ b = sI q := by
  obtain ⟨p, q, h1, hc, e⟩ := h
  unfold wl at e
  split at e
  · exact absurd (by rw [← e]; exact List.mem_append_right _ List.mem_cons_self) (sI_47 p)
  · obtain ⟨e1, e2⟩ := split_uniq a (sI p) b (sI q) e (sI_47 p) (sI_47 q)
    exact ⟨p, q, by omega, hc, e1, e2⟩
theorem IsW.head {c : Nat} {r : List Nat} (h : IsW (c :: r)) : c ≠ 47 ∧ (c = 45 → ∃ d r', r = d :: r' ∧ 49 ≤ d ∧ d ≤ 57) ∧ (c = 48 → r = []) := by
  obtain ⟨p, q, h1, hc, e⟩ := h
  have key : ∃ t, c :: r = sI p ++ t ∧ (q = 1 → t = []) := by
    unfold wl at e
    split at e
    · exact ⟨[], by rw [List.append_nil]; exact e, fun _ => rfl⟩
    · rename_i hq
      exact ⟨_, e, fun z => absurd z hq⟩
  obtain ⟨t, e, ht⟩ := key
  obtain ⟨d, r2, e2, hd⟩ := dgN_head p.natAbs
  have hd2 := dgN_dig (n := p.natAbs) (c := d) (by rw [e2]; exact List.mem_cons_self)
  unfold sI at e
  by_cases hp : p < 0
  · rw [if_pos hp, e2] at e
    injection e with e3 e4
    subst e3
    refine ⟨by decide, fun _ => ⟨d, r2 ++ t, e4, ?_, hd2.2⟩, fun z => absurd z (by decide)⟩
    have := hd (by omega)
    omega
  · rw [if_neg hp, e2] at e
    injection e with e3 e4
    subst e3
    refine ⟨by omega, fun z => by omega, fun z => ?_⟩
    have p0 : p = 0 := by
      rcases Decidable.em (p.natAbs = 0) with h | h
      · omega
      · exact absurd z (hd h)
    subst p0
    have q1 : q = 1 := by
      unfold Cop at hc
      simp at hc
      omega
    have e5 : dgN 0 = [48] := by decide +kernel
    have e6 : dgN (0 : Int).natAbs = [48] := e5
    rw [e6] at e2
    injection e2 with _ e2
    rw [e4, ← e2, ht q1]
    rfl
/-! ### digits read -/
theorem digits_sI {i : Int} (h : ¬ i < 0) : AllDigits (sI i) := fun c hc => by
  unfold sI at hc
  rw [if_neg h] at hc
  exact dgN_dig hc
theorem digitsVal_lt : ∀ (cs : List Nat), AllDigits cs → digitsVal cs < 10 ^ cs.length := by
  intro cs
  have gen : ∀ (cs : List Nat) (acc k : Nat), AllDigits cs → acc < 10 ^ k → cs.foldl (fun acc c => acc * 10 + (c - 48)) acc < 10 ^ (k + cs.length) := by
    intro cs
    induction cs with
    | nil => intro acc k _ h; exact h
    | cons c r ih =>
      intro acc k hd h
      have hc := hd c List.mem_cons_self
      have := ih (acc * 10 + (c - 48)) (k + 1) (fun x hx => hd x (List.mem_cons_of_mem _ hx)) (by rw [Nat.pow_succ]; omega)
      rw [List.foldl_cons, List.length_cons, show k + (r.length + 1) = k + 1 + r.length by omega]
      exact this
  intro hd
  have := gen cs 0 0 hd (by decide)
  rw [Nat.zero_add] at this
  exact this
def digB (c : Nat) : Bool := decide (c ∈ (Str.ofString "0123456789").cps.toList)
theorem digB_iff (c : Nat) : digB c = true ↔ 48 ≤ c ∧ c ≤ 57 := by
  unfold digB
  rw [decide_eq_true_eq, show (Str.ofString "0123456789").cps.toList = [48, 49, 50, 51, 52, 53, 54, 55, 56, 57] by decide +kernel]
  simp only [List.mem_cons, List.not_mem_nil, or_false]
  omega
/-- non-empty, digits alone -/
def digsB (cs : List Nat) : Bool := decide (cs ≠ []) && cs.all digB
theorem digsB_true {cs : List Nat} (h : digsB cs = true) : cs ≠ [] ∧ AllDigits cs := by
  unfold digsB at h
  obtain ⟨h1, h2⟩ := Bool.and_eq_true_iff.mp h
  exact ⟨of_decide_eq_true h1, fun c hc => (digB_iff c).mp (List.all_eq_true.mp h2 c hc)⟩
theorem digsB_of {cs : List Nat} (h : cs ≠ []) (hd : AllDigits cs) : digsB cs = true := by
  unfold digsB
  rw [decide_eq_true h, Bool.true_and, List.all_eq_true]
  exact fun c hc => (digB_iff c).mpr (hd c hc)
theorem digs_dgN (n : Nat) : digsB (dgN n) = true := digsB_of (dgN_ne n) fun c hc => dgN_dig hc
/-- what stands behind a minus, if there is one -/
def offM : List Nat → List Nat
  | 45 :: r => r
  | r => r
theorem offM_sI (i : Int) : offM (sI i) = dgN i.natAbs := by
  unfold sI
  split
  · rfl
  · obtain ⟨c, r, e, _⟩ := dgN_head i.natAbs
    have hc := dgN_dig (n := i.natAbs) (c := c) (by rw [e]; exact List.mem_cons_self)
    rw [e]
    unfold offM
    split
    · rename_i r' e'
      cases e'
      omega
    · rfl
theorem removeprefix_minus (z : Str) : (Txt.removeprefix z "-").cps.toList = offM z.cps.toList := by
  rw [StrLaws.removeprefix_eq]
  have hl : z.cps.toList.length = z.length := Array.length_toList
  have sub0 : ∀ (c : Nat) (r : List Nat), z.cps.toList = c :: r → Builtin.Str.subAt z "-" 0 = decide (c = 45) := fun c r e => by
    have ez : z = ⟨(c :: r).toArray⟩ := StrLaws.mk_of_toList e
    subst ez
    unfold Builtin.Str.subAt
    have e1 : ((c :: r).toArray.extract 0 (0 + ("-" : Str).length)) = #[c] := by
      show ((c :: r).toArray.extract 0 1) = #[c]
      simp
    show (((c :: r).toArray.extract 0 (0 + ("-" : Str).length)) == ("-" : Str).cps) = _
    rw [e1]
    by_cases h : c = 45
    · subst h; rfl
    · rw [decide_eq_false h]
      show (#[c] == #[45]) = false
      simp [h]
  cases e : z.cps.toList with
  | nil =>
    rw [if_neg]
    · exact e
    · rw [e] at hl
      have h1 : ("-" : Str).length = 1 := rfl
      simp only [h1]
      intro h
      have := of_decide_eq_true (Bool.and_eq_true_iff.mp h).1
      simp at hl
      omega
  | cons c r =>
    rw [sub0 c r e]
    rw [e] at hl
    by_cases h : c = 45
    · subst h
      rw [if_pos]
      · have h1 : ("-" : Str).length = 1 := rfl
        rw [h1]
        show (((45 :: r).drop 1).take (z.length - 1)) = r
        rw [List.drop_succ_cons, List.drop_zero, ← hl]
        exact List.take_of_length_le (by simp)
      · have h1 : ("-" : Str).length = 1 := rfl
        rw [h1, decide_eq_true (show 0 + 1 ≤ z.length by rw [← hl]; simp), decide_eq_true rfl]
        rfl
    · rw [decide_eq_false h, Bool.and_false, if_neg (by decide), e]
      unfold offM
      split
      · rename_i r' e'
        cases e'
        exact absurd rfl h
      · rfl
/-! ### a text parted at its first line -/
theorem sub_47 (z : Str) (i : Nat) : (i + ("/" : Str).length ≤ z.length ∧ Builtin.Str.subAt z "/" i = true) ↔ z.cps.toList[i]? = some 47 := by
  have h1 : ("/" : Str).length = 1 := rfl
  have hl : z.cps.toList.length = z.length := Array.length_toList
  unfold Builtin.Str.subAt
  rw [h1]
  constructor
  · rintro ⟨hi, h⟩
    have e := eq_of_beq h
    have e2 := congrArg (fun a => a[0]?) e
    simp only [Array.getElem?_extract] at e2
    have hz : z.cps.size = z.length := rfl
    rw [if_pos (by omega)] at e2
    rw [Array.getElem?_toList, ← Nat.add_zero i, e2]
    rfl
  · intro h
    have hi : i < z.length := by
      rw [← hl]
      exact (List.getElem?_eq_some_iff.mp h).1
    refine ⟨by omega, ?_⟩
    have e : z.cps.extract i (i + 1) = #[47] := by
      apply Array.ext'
      rw [Array.toList_extract]
      have : z.cps.toList.extract i (i + 1) = [47] := by
        rw [List.extract_eq_take_drop, show i + 1 - i = 1 by omega]
        rw [List.take_one, List.head?_drop, h]
        rfl
      exact this
    show (z.cps.extract i (i + 1) == ("/" : Str).cps) = true
    rw [e]
    rfl
theorem part_none {z : Str} (h : 47 ∉ z.cps.toList) : Txt.partition z "/" = ((z, ("" : Str), ("" : Str)) : Str × Str × Str) := by
  unfold Txt.partition
  rcases StrLaws.occ_head z "/" 1 (Nat.le_refl _) with ⟨e, _⟩ | ⟨i, r, e, hi, _⟩
  · rw [e]
    rfl
  · exact absurd (List.mem_of_getElem? ((sub_47 z i).mp ⟨hi.1, hi.2⟩)) h
theorem str_of {l : List Nat} {x : Str} (h : x.cps.toList = l) : x = ⟨l.toArray⟩ := StrLaws.mk_of_toList h
theorem part_some {z : Str} {a b : List Nat} (h : z.cps.toList = a ++ 47 :: b) (ha : 47 ∉ a) : Txt.partition z "/" = (((⟨a.toArray⟩ : Str), ("/" : Str), (⟨b.toArray⟩ : Str)) : Str × Str × Str) := by
  have hl : z.cps.toList.length = z.length := Array.length_toList
  have at_a : z.cps.toList[a.length]? = some 47 := by rw [h, List.getElem?_append_right (Nat.le_refl _), Nat.sub_self]; rfl
  unfold Txt.partition
  rcases StrLaws.occ_head z "/" 1 (Nat.le_refl _) with ⟨e, hn⟩ | ⟨i, r, e, hi, hf⟩
  · exact absurd ((sub_47 z a.length).mpr at_a) (hn a.length)
  · have hi' := (sub_47 z i).mp ⟨hi.1, hi.2⟩
    have ei : i = a.length := by
      rcases Nat.lt_trichotomy i a.length with z1 | z1 | z1
      · rw [h, List.getElem?_append_left z1] at hi'
        exact absurd (List.mem_of_getElem? hi') ha
      · exact z1
      · exact absurd ((sub_47 z a.length).mpr at_a) (hf a.length z1)
    subst ei
    rw [e]
    have ll : z.length = a.length + (b.length + 1) := by rw [← hl, h, List.length_append, List.length_cons]
    have hz : z.cps.size = z.length := rfl
    have e1 : Builtin.Str.strSub z 0 a.length = ⟨a.toArray⟩ := by
      refine str_of ?_
      show (z.cps.extract 0 a.length).toList = a
      rw [Array.toList_extract, List.extract_eq_take_drop, List.drop_zero, h, Nat.sub_zero, List.take_left]
    have e2 : Builtin.Str.strSub z (a.length + ("/" : Str).length) z.length = ⟨b.toArray⟩ := by
      refine str_of ?_
      show (z.cps.extract (a.length + 1) z.length).toList = b
      rw [Array.toList_extract, List.extract_eq_take_drop, h, ← List.drop_drop, List.drop_left, List.drop_succ_cons, List.drop_zero]
      exact List.take_of_length_le (by omega)
    show (Builtin.Str.strSub z 0 a.length, ("/" : Str), Builtin.Str.strSub z (a.length + ("/" : Str).length) z.length) = _
    rw [e1, e2]
theorem part_cases (z : Str) : (47 ∉ z.cps.toList ∧ Txt.partition z "/" = ((z, ("" : Str), ("" : Str)) : Str × Str × Str)) ∨ ∃ a b : List Nat, z.cps.toList = a ++ 47 :: b ∧ 47 ∉ a ∧ Txt.partition z "/" = (((⟨a.toArray⟩ : Str), ("/" : Str), (⟨b.toArray⟩ : Str)) : Str × Str × Str) := by
  by_cases h : 47 ∈ z.cps.toList
  · obtain ⟨a, b, e, ha⟩ : ∃ a b, z.cps.toList = a ++ 47 :: b ∧ 47 ∉ a := by
      generalize z.cps.toList = l at h
      induction l with
      | nil => cases h
      | cons c r ih =>
        by_cases hc : c = 47
        · exact ⟨[], r, by rw [hc]; rfl, by simp⟩
        · obtain ⟨a, b, e, ha⟩ := ih (by
            rcases List.mem_cons.mp h with h | h
            · exact absurd h.symm hc
            · exact h)
          refine ⟨c :: a, b, by rw [e]; rfl, fun hm => ?_⟩
          rcases List.mem_cons.mp hm with hm | hm
          · exact hc hm.symm
          · exact ha hm
    exact .inr ⟨a, b, e, ha, part_some e ha⟩
  · exact .inl ⟨h, part_none h⟩
theorem wl_inj {p q p' q' : Int} (h1 : 1 ≤ q) (hc : Cop p q) (h1' : 1 ≤ q') (hc' : Cop p' q') (e : wl p q = wl p' q') : p = p' ∧ q = q' := by
  by_cases a : q = 1
  · by_cases b : q' = 1
    · unfold wl at e
      rw [if_pos a, if_pos b] at e
      exact ⟨by rw [← valI_sI p, e, valI_sI], by omega⟩
    · have e2 : wl p' q' = sI p' ++ 47 :: sI q' := by unfold wl; rw [if_neg b]
      have e3 : wl p q = sI p := by unfold wl; rw [if_pos a]
      rw [e2, e3] at e
      exact absurd (by rw [e]; exact List.mem_append_right _ List.mem_cons_self) (sI_47 p)
  · have e2 : wl p q = sI p ++ 47 :: sI q := by unfold wl; rw [if_neg a]
    rw [e2] at e
    by_cases b : q' = 1
    · have e3 : wl p' q' = sI p' := by unfold wl; rw [if_pos b]
      rw [e3] at e
      exact absurd (by rw [← e]; exact List.mem_append_right _ List.mem_cons_self) (sI_47 p')
    · have e3 : wl p' q' = sI p' ++ 47 :: sI q' := by unfold wl; rw [if_neg b]
      rw [e3] at e
      obtain ⟨z1, z2⟩ := split_uniq _ _ _ _ e (sI_47 p') (sI_47 q')
      exact ⟨by rw [← valI_sI p, z1, valI_sI], by rw [← valI_sI q, z2, valI_sI]⟩
end Md

set_option Elab.async false
set_option linter.all false
set_option maxRecDepth 100000
set_option maxHeartbeats 4000000
/-! texts: readings by name; a text many times -/
namespace Md
open PySem PySem.Spec PyProof.Rows PySem.Calls L2
abbrev rPart : V → List V → Hp → VK → Prop := fun x xs H Q => ∃ a b, x = .str a ∧ xs = [.str b] ∧ (b.length == 0) = false ∧ a.length ≤ sizeLine ∧ ∀ p, H p = none → Q (.ref p) (upd H p (.tup [.str (Txt.partition a b).1, .str (Txt.partition a b).2.1, .str (Txt.partition a b).2.2]))
abbrev rRemP : V → List V → Hp → VK → Prop := fun x xs H Q => ∃ a b, x = .str a ∧ xs = [.str b] ∧ a.length ≤ sizeLine ∧ Q (.str (Txt.removeprefix a b)) H
abbrev rIntS : List V → Hp → VK → Prop := fun xs H Q => ∃ a n, xs = [.str a] ∧ PySem.intText? a = some n ∧ a.length ≤ 640 ∧ Q (.int n) H
/-- a short text some times -/
def rMulS : R2 := fun x y H Q => ∃ (z : Str) (n : Int), x = .str z ∧ y = .int n ∧ z.length ≤ 16 ∧ 0 ≤ n ∧ n ≤ 1048576 ∧ Q (.str (Txt.mul z n)) H
theorem op_mulS {X : Cx} : OpR X (binaryOp .Mult) rMulS := by
  intro pins s σ H x y v u Q I rx ry h
  obtain ⟨z, n, rfl, rfl, hz, h0, h1, q⟩ := h
  obtain ⟨t, rfl⟩ := rx
  obtain ⟨u, rfl⟩ := ry
  refine SB.mul (mulOk_of 16 1048576 (by omega) (by omega) (by omega) (by decide) (by decide)) fun t' k => ?_
  exact ⟨.str _, H, I.tok _, ⟨_, rfl⟩, q⟩
def tJoined (ts : List TE) : TE := fun σ H Q => tJs ts Str.empty σ H fun out H1 => Q (.str out) H1
end Md

set_option Elab.async false
set_option linter.all false
set_option maxRecDepth 100000
set_option maxHeartbeats 4000000
set_option exponentiation.threshold 20000
namespace Md
open PySem PySem.Spec PyProof.Rows PySem.Calls L2 PySem.NumText
local macro_rules | `(tactic| walk_at "v") => `(tactic| refine ⟨_, rfl, ?_⟩)
local macro_rules | `(tactic| walk_at "ii") => `(tactic| refine ⟨_, _, rfl, rfl, ?_⟩)
/-! ### written -/
theorem log_of {i : Int} (h : i.natAbs < 10 ^ 570) : i.natAbs.log2 < 1920 := pow_lt (Nat.lt_of_lt_of_le h (by decide)) (by decide)
theorem text_len {i : Int} (h : i.natAbs < 10 ^ 570) : (Str.ofString (toString i)).length ≤ 571 := by
  have e : (Str.ofString (toString i)).cps.toList.length = (Str.ofString (toString i)).length := Array.length_toList
  rw [← e, signs_ofString, List.length_map, String.length_toList]
  exact int_text_length_le10 (by decide) h
theorem sz_1200 {n : Nat} (h : n ≤ 1200) : n ≤ sizeLine := Nat.le_trans h (by decide)
/-- the text of a number -/
def ws (p q : Int) : Str := ⟨(wl p q).toArray⟩
theorem ws_list (p q : Int) : (ws p q).cps.toList = wl p q := by
  show (wl p q).toArray.toList = _
  simp
theorem str_ext {x y : Str} (h : x.cps.toList = y.cps.toList) : x = y := by
  rw [str_of h]
def t_written (K : PySem.W.Frag) (A : Ads) (E : XK) : TS :=
    (tSeq (tAsg (tCall (sp__over K A) [] E0 (tCons (tVar 0) tNil)) (gTup K 2 (gCons (gName 1) (gCons (gName 2) gNil))))
    (tRet (tIf (tTest (tOp rEq (tVar 2) (tC (.int 1)))) (tCB rStrI (tCons (tVar 1) tNil)) (tJoined ((tFmt (tVar 1)) :: ((tC (.str "/")) :: ((tFmt (tVar 2)) :: [])))))))
def n_written : List Str := ["value", "top", "bottom"]
def sp_written (K : PySem.W.Frag) (A : Ads) : Sp := fun vs H Q _ => ∃ (x : V) (p q : Int), vs = [x] ∧ NumAt H x p q ∧ p.natAbs < 10 ^ 570 ∧ q.natAbs < 10 ^ 570 ∧ ∀ H', Same H H' → Q (.str (ws p q)) H'
theorem len_written {K : PySem.W.Frag} {A : Ads} {vs : List V} {H : Hp} {Q : VK} {E : XK} (h : sp_written K A vs H Q E) : vs.length = 1 := by
  obtain ⟨x, p, q, rfl, _⟩ := h
  rfl
theorem pure_written {K : PySem.W.Frag} {A : Ads} {vs : List V} {H : Hp} {Q : VK} {E : XK} (h : sp_written K A vs H Q E) : t_written K A E { nx := fun _ H' => Q .non H', rt := Q } (start n_written vs) H := by
  obtain ⟨x, p, q, rfl, hx, hp, hq, k⟩ := h
  have q1 := hx.pos
  walk_at "v"
  refine ⟨x, p, q, rfl, hx, fun y H1 s1 ⟨a, ey, ha⟩ => ?_⟩
  subst ey
  refine ⟨a, _, rfl, SqT.of ha, rfl, _, _, rfl, _, _, rfl, rfl, ?_⟩
  walk_at "v"
  refine ⟨rfl, ?_⟩
  refine ⟨_, rfl, ?_⟩
  refine iteD (fun h => ?_) (fun h => ?_)
  · have e1 : q = 1 := V.int.inj h
    subst e1
    walk_at "v"
    refine ⟨p, rfl, log_of hp, ?_⟩
    have e : (Str.ofString (toString p)) = ws p 1 := str_ext (by rw [sI_text, ws_list]; unfold wl; rw [if_pos rfl])
    rw [e]
    exact k H1 s1
  · have e1 : q ≠ 1 := fun z => h (by rw [z])
    walk_at "v"
    refine .inr ⟨p, rfl, log_of hp, ?_⟩
    have l1 := text_len hp
    have l2 := text_len hq
    refine ⟨_, rfl, sz_1200 ?_, ?_⟩
    · rw [app_len]; show 0 + _ ≤ _; omega
    refine ⟨_, rfl, sz_1200 ?_, ?_⟩
    · rw [app_len, app_len]; show 0 + _ + 1 ≤ _; omega
    walk_at "v"
    refine .inr ⟨q, rfl, log_of hq, ?_⟩
    refine ⟨_, rfl, sz_1200 ?_, ?_⟩
    · rw [app_len, app_len, app_len]; show 0 + _ + 1 + _ ≤ _; omega
    have e : Str.empty ++ (Str.ofString (toString p)) ++ ("/" : Str) ++ (Str.ofString (toString q)) = ws p q := str_ext (by
      rw [app_list, app_list, app_list, sI_text, sI_text, ws_list]
      unfold wl
      rw [if_neg e1]
      show [] ++ sI p ++ [47] ++ sI q = _
      simp)
    show Q (.str (Str.empty ++ (Str.ofString (toString p)) ++ ("/" : Str) ++ (Str.ofString (toString q)))) H1
    rw [e]
    exact k H1 s1
/-! ### _is_digits -/
def t__is_digits (K : PySem.W.Frag) (A : Ads) (E : XK) : TS :=
    (tRet (tAndV (tOp rNe (tVar 0) (tC (.str ""))) (tCB (rAll K) (tCons (tLc (iStr (tVar 0)) (gName 1) tYes (tOp rInS (tVar 1) (tC (.str "0123456789"))) [1]) tNil))))
def n__is_digits : List Str := ["text", "sign"]
def sp__is_digits (K : PySem.W.Frag) (A : Ads) : Sp := fun vs H Q _ => ∃ (z : Str), vs = [.str z] ∧ z.length ≤ 1000000 ∧ ∀ H', Same H H' → Q (.bl (digsB z.cps.toList)) H'
theorem len__is_digits {K : PySem.W.Frag} {A : Ads} {vs : List V} {H : Hp} {Q : VK} {E : XK} (h : sp__is_digits K A vs H Q E) : vs.length = 1 := by
  obtain ⟨z, rfl, _⟩ := h
  rfl
theorem pure__is_digits {K : PySem.W.Frag} {A : Ads} {vs : List V} {H : Hp} {Q : VK} {E : XK} (h : sp__is_digits K A vs H Q E) : t__is_digits K A E { nx := fun _ H' => Q .non H', rt := Q } (start n__is_digits vs) H := by
  obtain ⟨z, rfl, hz, k⟩ := h
  have hl : z.cps.toList.length = z.length := Array.length_toList
  walk_at "v"
  refine ⟨rfl, ?_⟩
  refine ⟨_, rfl, ?_⟩
  refine iteN (fun h => ?_) (fun h => ?_)
  · have e : digsB z.cps.toList = false := by
      have ez : z = "" := V.str.inj h
      subst ez
      decide +kernel
    rw [e] at k
    exact k H (Same.refl H)
  · walk_at "v"
    refine ⟨z, rfl, fun D hD => ?_⟩
    refine lc_it walk_str (fun i H' => Same H H' ∧ H' D = some (.lst ((z.cps.toList.take i).map fun c => V.bl (digB c)))) ⟨Same.new hD, upd_same⟩ (fun _ _ _ _ => True.intro) ?_ ?_
    · rintro i x H1 H1' hi ⟨s1, hd⟩ ⟨rfl, c, hc, rfl⟩
      refine ⟨rfl, ?_⟩
      walk_at "v"
      refine ⟨c, _, rfl, rfl, ?_⟩
      refine ⟨_, hd, ?_, ?_, ?_⟩
      · rw [List.length_map, List.length_take]
        exact Nat.lt_of_le_of_lt (Nat.min_le_right _ _) (Nat.lt_of_le_of_lt (show z.cps.toList.length ≤ 1000000 by omega) (by decide))
      · exact fun b o hb => by
          rw [upd_ne (ne_of_none hb hD)]
          exact s1 b o hb
      · rw [upd_same]
        have e : z.cps.toList[i]? = some c := by rw [Array.getElem?_toList]; exact hc
        rw [List.take_succ, e]
        simp [digB]
    · rintro H1 ⟨s1, hd⟩
      have e2 : z.cps.toList.take z.cps.size = z.cps.toList := List.take_of_length_le (by rw [Array.length_toList]; exact Nat.le_refl _)
      rw [e2] at hd
      refine ⟨D, z.cps.toList.map digB, rfl, SqL.of (by rw [List.map_map]; exact hd), ?_⟩
      have ne : z.cps.toList ≠ [] := fun e => h (by
        have : z = ⟨([] : List Nat).toArray⟩ := str_of e
        rw [this]
        rfl)
      have e3 : (z.cps.toList.map digB).all id = digsB z.cps.toList := by
        unfold digsB
        rw [List.all_map, decide_eq_true ne, Bool.true_and]
        rfl
      rw [e3]
      exact k H1 s1
/-! ### read_number -/
/-- no written form of a number -/
def BadTxt (K : PySem.W.Frag) (H : Hp) (x : V) : Prop := (∃ T, TyX K H x (.type T) ∧ T ≠ "str") ∨ ∃ z : Str, x = .str z ∧ z.length ≤ 570 ∧ ¬ IsW z.cps.toList
theorem BadTxt.same {K : PySem.W.Frag} {H H' : Hp} {x : V} (h : BadTxt K H x) (s : Same H H') : BadTxt K H' x := by
  rcases h with ⟨T, ty, h⟩ | h
  · exact .inl ⟨T, tyX_same s ty, h⟩
  · exact .inr h
def t_read_number (K : PySem.W.Frag) (A : Ads) (E : XK) : TS :=
    (tSeq (tIfS (tNot (tB (tCB (rIsi K) (tCons (tVar 0) (tCons (tC (.ty "str")) tNil))))) (tRaise E (tMkO A.cBadNumber (sp_BadNumber___init__ K A) [] (tCons (tVar 0) tNil))) tNext)
    (tSeq (tAsg (tM1 rPart (tVar 0) (tC (.str "/"))) (gTup K 3 (gCons (gName 2) (gCons (gName 3) (gCons (gName 4) gNil)))))
    (tSeq (tIfS (tOr (tNot (tB (tCall (sp__is_digits K A) [] E0 (tCons (tBM K "str" rRemP (tVar 2) (tCons (tC (.str "-")) tNil)) tNil)))) (tAnd (tTest (tOp rNe (tVar 3) (tC (.str "")))) (tNot (tB (tCall (sp__is_digits K A) [] E0 (tCons (tVar 4) tNil)))))) (tRaise E (tMkO A.cBadNumber (sp_BadNumber___init__ K A) [] (tCons (tVar 0) tNil))) tNext)
    (tSeq (tAsg (tIf (tTest (tOp rEq (tVar 3) (tC (.str "")))) (tCB rIntS (tCons (tVar 2) tNil)) (tTup (tCons (tCB rIntS (tCons (tVar 2) tNil)) (tCons (tCB rIntS (tCons (tVar 4) tNil)) tNil)))) (gName 1))
    (tSeq (tIfS (tOr (tNot (tB (tCall (sp_is_number K A) [] E0 (tCons (tVar 1) tNil)))) (tTest (tOp rNe (tCall (sp_written K A) [] E0 (tCons (tVar 1) tNil)) (tVar 0)))) (tRaise E (tMkO A.cBadNumber (sp_BadNumber___init__ K A) [] (tCons (tVar 0) tNil))) tNext)
    (tRet (tVar 1)))))))
def n_read_number : List Str := ["text", "found", "top", "line", "bottom"]
def sp_read_number (K : PySem.W.Frag) (A : Ads) : Sp := fun vs H Q E => ∃ x : V, vs = [x] ∧ ((∃ p q : Int, x = .str (ws p q) ∧ 1 ≤ q ∧ Cop p q ∧ (ws p q).length ≤ 570 ∧ ∀ v H', Same H H' → NumAt H' v p q → Q v H') ∨
  (BadTxt K H x ∧ ∀ d H', Same H H' → H' d = some (.xd [("thing", x)]) → E (.ref A.cBadNumber) (some d) H'))
theorem len_read_number {K : PySem.W.Frag} {A : Ads} {vs : List V} {H : Hp} {Q : VK} {E : XK} (h : sp_read_number K A vs H Q E) : vs.length = 1 := by
  obtain ⟨z, rfl, _⟩ := h
  rfl
theorem int_ok {l : List Nat} (h : digsB (offM l) = true) (hl : l.length ≤ 570) : ∃ n : Int, PySem.intText? (⟨l.toArray⟩ : Str) = some n ∧ n.natAbs < 10 ^ 570 ∧ n = valI l := by
  obtain ⟨h1, h2⟩ := digsB_true h
  have el : (⟨l.toArray⟩ : Str).cps.toList = l := List.toList_toArray
  have ell : (⟨l.toArray⟩ : Str).length ≤ 4300 := by show l.toArray.size ≤ _; rw [List.size_toArray]; omega
  have bound : ∀ cs : List Nat, AllDigits cs → cs.length ≤ 570 → digitsVal cs < 10 ^ 570 := fun cs hd hc => Nat.lt_of_lt_of_le (digitsVal_lt cs hd) (Nat.pow_le_pow_right (by decide) hc)
  by_cases hm : ∃ r, l = 45 :: r
  · obtain ⟨r, rfl⟩ := hm
    have e : offM (45 :: r) = r := rfl
    rw [e] at h1 h2
    have hb := bound r h2 (by simp at hl; omega)
    refine ⟨_, intText_neg el h2 h1 ell, ?_, rfl⟩
    rw [Int.natAbs_neg, Int.natAbs_natCast]
    exact hb
  · have e : offM l = l := by
      unfold offM
      split
      · rename_i r
        exact absurd ⟨r, rfl⟩ hm
      · rfl
    rw [e] at h1 h2
    have hb := bound l h2 hl
    have ev : valI l = ((digitsVal l : Nat) : Int) := by
      unfold valI
      split
      · rename_i r
        exact absurd ⟨r, rfl⟩ hm
      · rfl
    refine ⟨((digitsVal l : Nat) : Int), ?_, ?_, ev.symm⟩
    · have z := intText_digits (x := (⟨l.toArray⟩ : Str)) (by rw [el]; exact h2) (by rw [el]; exact h1) ell
      rw [el] at z
      exact z
    · rw [Int.natAbs_natCast]
      exact hb
theorem line_len {z : Str} {a b : List Nat} (h : z.cps.toList = a ++ 47 :: b) : a.length + b.length + 1 = z.length := by
  have hl : z.cps.toList.length = z.length := Array.length_toList
  rw [← hl, h, List.length_append, List.length_cons]
  omega
theorem pure_read_number {K : PySem.W.Frag} {A : Ads} {vs : List V} {H : Hp} {Q : VK} {E : XK} (h : sp_read_number K A vs H Q E) : t_read_number K A E { nx := fun _ H' => Q .non H', rt := Q } (start n_read_number vs) H := by
  obtain ⟨x, rfl, h⟩ := h
  -- a text z, its length, what it is, the ways out
  have text : ∀ z : Str, x = .str z → z.length ≤ 570 → (∀ p q : Int, 1 ≤ q → Cop p q → z.cps.toList = wl p q → ∀ v H', Same H H' → NumAt H' v p q → Q v H') →
      (¬ IsW z.cps.toList → ∀ d H', Same H H' → H' d = some (.xd [("thing", x)]) → E (.ref A.cBadNumber) (some d) H') → t_read_number K A E { nx := fun _ H' => Q .non H', rt := Q } (start n_read_number [x]) H := by
    rintro z rfl hz kQ kE
    have hzl : z.cps.toList.length = z.length := Array.length_toList
    have fin : ∀ {H1 : Hp} {D : Ends} {w1 w2 w3 w4 : Option V}, Same H H1 → ¬ IsW z.cps.toList → tRaise E (tMkO A.cBadNumber (sp_BadNumber___init__ K A) [] (tCons (tVar 0) tNil)) D [some (.str z), w1, w2, w3, w4] H1 := fun {H1 D w1 w2 w3 w4} s1 hw => by
      walk_at "v"
      exact mk_xi fun d H' s h => kE hw d H' (Same.trans s1 s) h
    walk_at "v"
    refine ⟨_, _, _, _, _, rfl, .ty _, .base (.str z), kit_ty (by decide +kernel : kitB "str" "str" = some true), ?_⟩
    refine ⟨_, rfl, ?_⟩
    show (if (!true) = true then _ else _)
    refine iteF ?_
    walk_at "v"
    refine ⟨⟨_, rfl⟩, _, _, rfl, rfl, by decide, sz_1200 (by omega), fun P hP => ?_⟩
    have sP := Same.new (o := .tup [.str (Txt.partition z "/").1, .str (Txt.partition z "/").2.1, .str (Txt.partition z "/").2.2]) hP
    refine ⟨P, _, rfl, SqT.of upd_same, rfl, _, _, rfl, _, _, rfl, _, _, rfl, rfl, ?_⟩
    generalize upd H P _ = H1 at sP ⊢
    rcases part_cases z with ⟨hno, ep⟩ | ⟨a, b, ez, ha, ep⟩
    · -- no line
      rw [show (Txt.partition z "/").1 = z by rw [ep], show (Txt.partition z "/").2.1 = "" by rw [ep], show (Txt.partition z "/").2.2 = "" by rw [ep]]
      have valid : ∀ p q : Int, z.cps.toList = wl p q → q = 1 := fun p q e => by
        unfold wl at e
        split at e
        · assumption
        · exact absurd (by rw [e]; exact List.mem_append_right _ List.mem_cons_self) hno
      walk_at "v"
      refine ⟨rfl, ?_⟩
      refine ⟨_, _, rfl, rfl, sz_1200 (by omega), ?_⟩
      have rl : (Txt.removeprefix z "-").cps.toList = offM z.cps.toList := removeprefix_minus z
      have rlen : (Txt.removeprefix z "-").length ≤ 570 := by
        have e1 : (Txt.removeprefix z "-").cps.toList.length = (Txt.removeprefix z "-").length := Array.length_toList
        rw [← e1, rl]
        have : (offM z.cps.toList).length ≤ z.cps.toList.length := by
          unfold offM
          split
          · rename_i r e; rw [e]; simp
          · exact Nat.le_refl _
        omega
      refine ⟨_, rfl, by omega, fun H2 s2 => ?_⟩
      have S2 := Same.trans sP s2
      refine ⟨_, rfl, ?_⟩
      rw [rl]
      refine iteBN (fun hd => ?_) (fun hd => ?_)
      rotate_left
      · -- no digits
        refine iteT ?_
        refine fin S2 fun ⟨p, q, h1, hc, e⟩ => ?_
        have e1 := valid p q e
        subst e1
        have : offM z.cps.toList = dgN p.natAbs := by
          rw [e]
          unfold wl
          rw [if_pos rfl, offM_sI]
        rw [this, digs_dgN] at hd
        cases hd
      walk_at "v"
      refine ⟨rfl, ?_⟩
      refine ⟨_, rfl, ?_⟩
      refine iteF ?_
      refine iteF ?_
      obtain ⟨n, en, hn, ev⟩ := int_ok hd (by omega)
      rw [← str_of rfl] at en
      walk_at "v"
      refine ⟨rfl, ?_⟩
      refine ⟨_, rfl, ?_⟩
      refine iteT ?_
      walk_at "v"
      refine ⟨z, n, rfl, en, by omega, ?_⟩
      walk_at "v"
      refine ⟨_, true, rfl, .inl ⟨"int", ty_int, by decide, rfl⟩, ?_⟩
      refine ⟨_, rfl, ?_⟩
      refine iteF ?_
      walk_at "v"
      refine ⟨_, n, 1, rfl, NumAt.int _ _, hn, by decide, fun H3 s3 => ?_⟩
      have S3 := Same.trans S2 s3
      walk_at "v"
      refine ⟨rfl, ?_⟩
      refine ⟨_, rfl, ?_⟩
      refine iteN (fun he => ?_) (fun he => ?_)
      · walk_at "v"
        have ez : ws n 1 = z := V.str.inj he
        exact kQ n 1 (by decide) (by unfold Cop; simp) (by rw [← ez, ws_list]) _ H3 S3 (NumAt.int _ _)
      · refine fin S3 fun ⟨p, q, h1, hc, e⟩ => ?_
        have e1 := valid p q e
        subst e1
        have e2 : z.cps.toList = sI p := by
          rw [e]
          unfold wl
          rw [if_pos rfl]
        have e3 : n = p := by rw [ev, e2, valI_sI]
        subst e3
        exact he (by rw [str_ext (x := ws n 1) (y := z) (by rw [ws_list]; exact e.symm)])
    · -- a line
      rw [show (Txt.partition z "/").1 = ⟨a.toArray⟩ by rw [ep], show (Txt.partition z "/").2.1 = "/" by rw [ep], show (Txt.partition z "/").2.2 = ⟨b.toArray⟩ by rw [ep]]
      have ll := line_len ez
      have valid : ∀ p q : Int, 1 ≤ q → Cop p q → z.cps.toList = wl p q → 2 ≤ q ∧ a = sI p ∧ b = sI q := fun p q h1 hc e => by
        unfold wl at e
        split at e
        · exact absurd (by rw [← e, ez]; exact List.mem_append_right _ List.mem_cons_self) (sI_47 p)
        · rw [ez] at e
          obtain ⟨e1, e2⟩ := split_uniq a (sI p) b (sI q) e (sI_47 p) (sI_47 q)
          exact ⟨by omega, e1, e2⟩
      have al : (⟨a.toArray⟩ : Str).cps.toList = a := List.toList_toArray
      have bl : (⟨b.toArray⟩ : Str).cps.toList = b := List.toList_toArray
      have aL : (⟨a.toArray⟩ : Str).length = a.length := by show a.toArray.size = _; rw [List.size_toArray]
      have bL : (⟨b.toArray⟩ : Str).length = b.length := by show b.toArray.size = _; rw [List.size_toArray]
      walk_at "v"
      refine ⟨rfl, ?_⟩
      refine ⟨_, _, rfl, rfl, sz_1200 (by rw [aL]; omega), ?_⟩
      have rl : (Txt.removeprefix (⟨a.toArray⟩ : Str) "-").cps.toList = offM a := by rw [removeprefix_minus, al]
      have rlen : (Txt.removeprefix (⟨a.toArray⟩ : Str) "-").length ≤ 570 := by
        have e1 : (Txt.removeprefix (⟨a.toArray⟩ : Str) "-").cps.toList.length = (Txt.removeprefix (⟨a.toArray⟩ : Str) "-").length := Array.length_toList
        rw [← e1, rl]
        have : (offM a).length ≤ a.length := by
          unfold offM
          split
          · simp
          · exact Nat.le_refl _
        omega
      refine ⟨_, rfl, by omega, fun H2 s2 => ?_⟩
      have S2 := Same.trans sP s2
      refine ⟨_, rfl, ?_⟩
      rw [rl]
      refine iteBN (fun hd => ?_) (fun hd => ?_)
      rotate_left
      · refine iteT ?_
        refine fin S2 fun ⟨p, q, h1, hc, e⟩ => ?_
        obtain ⟨_, e1, _⟩ := valid p q h1 hc e
        rw [e1, offM_sI, digs_dgN] at hd
        cases hd
      walk_at "v"
      refine ⟨rfl, ?_⟩
      refine ⟨_, rfl, ?_⟩
      refine iteN (fun h => by exact absurd (V.str.inj h) (by decide)) (fun _ => ?_)
      walk_at "v"
      refine ⟨_, rfl, by rw [bL]; omega, fun H3 s3 => ?_⟩
      have S3 := Same.trans S2 s3
      refine ⟨_, rfl, ?_⟩
      rw [bl]
      refine iteBN (fun hdb => ?_) (fun hdb => ?_)
      rotate_left
      · refine fin S3 fun ⟨p, q, h1, hc, e⟩ => ?_
        obtain ⟨h2, _, e2⟩ := valid p q h1 hc e
        have : b = dgN q.natAbs := by rw [e2]; unfold sI; rw [if_neg (by omega)]
        rw [this, digs_dgN] at hdb
        cases hdb
      obtain ⟨n, en, hn, ev⟩ := int_ok hd (by omega)
      have hob : offM b = b := by
        obtain ⟨_, hbd⟩ := digsB_true hdb
        unfold offM
        split
        · rename_i r
          have := hbd 45 List.mem_cons_self
          omega
        · rfl
      obtain ⟨m, em, hm, ev2⟩ := int_ok (l := b) (by rw [hob]; exact hdb) (by omega)
      walk_at "v"
      refine ⟨rfl, ?_⟩
      refine ⟨_, rfl, ?_⟩
      refine iteD (fun h => by exact absurd (V.str.inj h) (by decide)) (fun _ => ?_)
      walk_at "v"
      refine ⟨_, n, rfl, en, by rw [aL]; omega, ?_⟩
      walk_at "v"
      refine ⟨_, m, rfl, em, by rw [bL]; omega, ?_⟩
      refine ⟨by show 2 ≤ sizeLine; decide, fun t ht => ?_⟩
      generalize e4 : upd _ t _ = H4
      have s4 : Same H3 H4 := by rw [← e4]; exact Same.new ht
      have g4 : H4 t = some (.tup [.int n, .int m]) := by rw [← e4, upd_same]
      clear e4 ht
      have S4 := Same.trans S3 s4
      walk_at "v"
      refine ⟨_, pairB (.int n) (.int m), rfl, .inr (.inr ⟨t, _, _, _, _, rfl, g4, ty_int, ty_int, rfl⟩), ?_⟩
      refine ⟨_, rfl, ?_⟩
      refine iteBN (fun hp => ?_) (fun hp => ?_)
      rotate_left
      · refine iteT ?_
        refine fin S4 fun ⟨p, q, h1, hc, e⟩ => ?_
        obtain ⟨h2, e1, e2⟩ := valid p q h1 hc e
        have e3 : n = p := by rw [ev, e1, valI_sI]
        have e5 : m = q := by rw [ev2, e2, valI_sI]
        subst e3 e5
        have : pairB (.int n) (.int m) = true := by
          show (decide (2 ≤ m) && decide (Nat.gcd n.natAbs m.natAbs = 1)) = true
          rw [decide_eq_true h2, decide_eq_true (show Nat.gcd n.natAbs m.natAbs = 1 from hc)]
          rfl
        rw [this] at hp
        cases hp
      have hp' : (decide (2 ≤ m) && decide (Nat.gcd n.natAbs m.natAbs = 1)) = true := hp
      have m2 : 2 ≤ m := of_decide_eq_true (Bool.and_eq_true_iff.mp hp').1
      have mc : Cop n m := by
        unfold Cop
        exact of_decide_eq_true (Bool.and_eq_true_iff.mp hp').2
      have num : NumAt H4 (.ref t) n m := .inr ⟨t, rfl, g4, m2, mc⟩
      walk_at "v"
      refine ⟨_, n, m, rfl, num, hn, hm, fun H5 s5 => ?_⟩
      have S5 := Same.trans S4 s5
      walk_at "v"
      refine ⟨rfl, ?_⟩
      refine ⟨_, rfl, ?_⟩
      refine iteN (fun he => ?_) (fun he => ?_)
      · walk_at "v"
        have ez : ws n m = z := V.str.inj he
        exact kQ n m (by omega) mc (by rw [← ez, ws_list]) _ H5 S5 (num.same s5)
      · refine fin S5 fun ⟨p, q, h1, hc, e⟩ => ?_
        obtain ⟨h2, e1, e2⟩ := valid p q h1 hc e
        have e3 : n = p := by rw [ev, e1, valI_sI]
        have e5 : m = q := by rw [ev2, e2, valI_sI]
        subst e3 e5
        exact he (by rw [str_ext (x := ws n m) (y := z) (by rw [ws_list]; exact e.symm)])
  rcases h with ⟨p, q, rfl, h1, hc, hl, k⟩ | ⟨hb, k⟩
  · refine text _ rfl hl (fun p' q' h1' hc' e v H' s hn => ?_) fun hw => absurd ⟨p, q, h1, hc, ws_list p q⟩ hw
    rw [ws_list] at e
    obtain ⟨rfl, rfl⟩ := wl_inj h1 hc h1' hc' e
    exact k v H' s hn
  · rcases hb with ⟨T, ty, hT⟩ | ⟨z, rfl, hl, hw⟩
    · walk_at "v"
      refine ⟨_, _, _, _, _, rfl, .ty _, ty, kit_ty (kit_str ty hT), ?_⟩
      refine ⟨_, rfl, ?_⟩
      show (if (!false) = true then _ else _)
      refine iteT ?_
      walk_at "v"
      exact mk_xi fun d H' s h => k d H' s h
    · exact text z rfl hl (fun p q h1 hc e => absurd ⟨p, q, h1, hc, e⟩ hw) fun _ => k
end Md

set_option Elab.async false
set_option linter.all false
set_option maxRecDepth 100000
set_option maxHeartbeats 4000000
namespace Md
open PySem PySem.Spec PyProof.Rows PySem.Calls L2
/-! dicts: compared, copied, listed, shown -/
abbrev rDictP (K : PySem.W.Frag) : List V → Hp → VK → Prop := fun xs H Q => ∃ (a : Addr) (ps : List Addr) (kvs : List (Key × V)), xs = [.ref a] ∧ SqL K H a (ps.map V.ref) ∧ Paired (fun p kv => SqT K H p [kV kv.1, kv.2]) ps kvs ∧ ∀ p, H p = none → Q (.ref p) (upd H p (.dK (mergeK [] kvs)))
abbrev rDictD : List V → Hp → VK → Prop := fun xs H Q => ∃ (a : Addr) (kvs : List (Key × V)), xs = [.ref a] ∧ Rd H a (.dK kvs) ∧ ∀ p, H p = none → Q (.ref p) (upd H p (.dK kvs))
abbrev rListD : List V → Hp → VK → Prop := fun xs H Q => ∃ (a : Addr) (kvs : List (Key × V)), xs = [.ref a] ∧ Rd H a (.dK kvs) ∧ ∀ p, H p = none → Q (.ref p) (upd H p (.lst (kvs.map fun kv => kV kv.1)))
/-- the same value, seen from two places -/
def selfB (v : V) : Prop := flatB v = true ∨ ∃ a, v = .ref a
theorem eq_self {A : Around} {s : Shared} {v : V} {u u' : Value} (r : RelV v u) (r' : RelV v u') (h : selfB v) : SeqAt.EqAt A s u u' true := by
  rcases h with h | ⟨a, rfl⟩
  · exact eqAt_same r r' h
  · obtain rfl : u = .ref a := r
    obtain rfl : u' = .ref a := r'
    exact SeqAt.EqAt.same _
theorem hits_self {A : Around} {s : Shared} {kvs : List (Key × V)} {vb : List (Key × Value)} (rb : KV kvs vb) : ∀ {ks : List (Key × V)} {va : List (Key × Value)}, KV ks va → (∀ p ∈ ks, valV kvs p.1 = some p.2 ∧ selfB p.2) → PySem.W.KeqHits A s vb va true
  | _, _, .nil, _ => .nil
  | p :: ks, (k, v) :: va, .cons ⟨hk, hv⟩ t, hp => by
    obtain ⟨e, f⟩ := hp p (.head _)
    obtain rfl : p.1 = k := hk
    obtain ⟨y, hy, ry⟩ := RelO.some_of (v := p.2) (o := valueAt vb p.1) (by rw [← e]; exact rb.val p.1)
    exact .hit (b := true) hy (eq_self hv ry f) (hits_self rb t fun q hq => hp q (.tail _ hq))
def SameD (H : Hp) (x y : V) : Prop := ∃ a b ks ls, x = .ref a ∧ y = .ref b ∧ H a = some (.dK ks) ∧ H b = some (.dK ls) ∧ ks.length = ls.length ∧ ∀ p ∈ ks, valV ls p.1 = some p.2 ∧ selfB p.2
def rEqDS : R2 := fun x y H Q => SameD H x y ∧ Q (.bl true) H
def rNeDS : R2 := fun x y H Q => SameD H x y ∧ Q (.bl false) H
theorem op_eqDS {X : Cx} (hu : X.A.units < cLine) : OpR X (compareOp .Eq) rEqDS := by
  rintro pins s σ H x y v u Q I rx ry ⟨⟨a, b, ks, ls, rfl, rfl, ea, eb, hlen, hp⟩, q⟩
  obtain rfl : v = .ref a := rx
  obtain rfl : u = .ref b := ry
  obtain ⟨_, ya, va, ra, da⟩ := dk_of I.hok ea
  obtain ⟨_, yb, vb, rb, db⟩ := dk_of I.hok eb
  have hl : va.length = vb.length := by rw [← ra.length, ← rb.length]; exact hlen
  exact PySem.W.keq_eq (knd := mixKind X.prog X.w) (r := true) ya yb da db hu (fun _ => hits_self rb ra hp) (fin_bl I q (by simp [hl]))
theorem op_neDS {X : Cx} (hu : X.A.units < cLine) : OpR X (compareOp .NotEq) rNeDS := by
  rintro pins s σ H x y v u Q I rx ry ⟨⟨a, b, ks, ls, rfl, rfl, ea, eb, hlen, hp⟩, q⟩
  obtain rfl : v = .ref a := rx
  obtain rfl : u = .ref b := ry
  obtain ⟨_, ya, va, ra, da⟩ := dk_of I.hok ea
  obtain ⟨_, yb, vb, rb, db⟩ := dk_of I.hok eb
  have hl : va.length = vb.length := by rw [← ra.length, ← rb.length]; exact hlen
  exact PySem.W.keq_ne (knd := mixKind X.prog X.w) (r := true) ya yb da db hu (fun _ => hits_self rb ra hp) (fin_bl I q (by simp [hl]))
/-- tuple(d): its keys -/
def rTupD : List V → Hp → VK → Prop := fun xs H Q => ∃ (a : Addr) (kvs : List (Key × V)), xs = [.ref a] ∧ H a = some (.dK kvs) ∧ ∀ p, H p = none → Q (.ref p) (upd H p (.tup (kvs.map fun kv => kV kv.1)))
theorem code_tupleD {P : Program} {w : World} {A : Around} {E : Value → Shared → Prop} {s : Shared} {Q₁ : Value → Shared → Prop} {r d : Addr} {n : Nat} {G : Nat → Value → Prop} {OK : Heap → Prop} (S : PySem.W.KdlSrc P w "dict" r d n G OK) (hh : A.handled = none) (hok : OK s.heap) (hn : n ≤ sizeLine)
    (h : ∀ (h' : Heap) (tk : Nat) (acc : Array Value), (∀ b o, s.heap.get? b = some o → h'.get? b = some o) → ItemsOf G acc n → Q₁ (.ref h'.objs.size) { s with heap := h'.push { cls := .type "tuple", data := .seq acc }, toks := tk }) :
    codeAny (model P w) A (.call (.builtin "tuple.__new__") ⟨[.type "tuple", .ref r], []⟩) (wants Q₁ E) s := by
  refine codeAny_of_tree ?_
  show wpAny _ A.in1 (do checkBuiltinCall "tuple.__new__" ⟨[.type "tuple", .ref r], []⟩; again (.builtin "tuple.__new__" ⟨[.type "tuple", .ref r], []⟩)) _ _ s
  refine wpAny_bind (wpAny_of_eq (F.newCall_tuple_1 _) (wpAny_pure ⟨plainId_quiet F.plain_tuple_new _, codeAny_builtin F.entry_tuple_new ?_⟩))
  rw [Around.under_plainId F.plain_tuple_new _]
  have h1 := sub_tuple_self
  have h2 := init_tuple_lookup
  have h3 := madeHere_tuple
  have hT : s.TypeIs (.ref r) "dict" := S.type _ hok
  have h4 : A.in1.handled = none := hh
  wp_walk using wpAny_typeOf hT, PySem.W.kdu_collect S (A := A.in1) h4 hok hn
  intro h' tk acc hk hacc
  show wpAny _ _ (Builtin.Tuple.tupleExact acc.toList.toArray >>= fun v => ret v) _ _ _
  unfold Builtin.Tuple.tupleExact
  have e : acc.toList.toArray = acc := by simp
  rw [e]
  exact wpAny_bind (wpAny_newObj_type (wpAny_pure (h h' tk acc hk hacc)) (by show acc.size ≤ sizeLine; rw [hacc.1]; exact hn))
theorem call_tupD {X : Cx} (hc : X.calm = true) : CallR X (.type "tuple") rTupD := by
  rintro pins s σ H xs us Q I r ⟨a, kvs, rfl, hd, q⟩
  obtain ⟨u, rfl, rx⟩ := vals1 r
  obtain rfl : u = .ref a := rx
  obtain ⟨z, lo, vs, rel, dd⟩ := dk_of I.hok hd
  obtain ⟨ep, hat⟩ := dd.dictAt
  have ek : (kvs.map fun kv => kV kv.1) = vs.map fun p => kV p.1 := by
    have e := congrArg (List.map kV) rel.keys
    rw [List.map_map, List.map_map] at e
    exact e
  refine callType_codes (Q₁ := fun obj s₁ => s₁.TypeIs obj "tuple" ∧ EP X pins σ Q obj s₁) F.called_tuple (F.typeCall_tuple_1 _) F.entry_object_init
    (code_tupleD (A := X.A.in1) (PySem.W.kdl_dict (knd := mixKind X.prog X.w) (kvs := vs) (ep := ep) lo) (I.ok.hd hc) hat (by rw [← rel.length]; exact z) fun h' tk acc hk hacc => ⟨⟨_, Heap.get?_push_size _ rfl, rfl⟩, ?_⟩) fun obj s₁ h₁ => ?_
  · have hv : Vals (vs.map fun p => kV p.1) acc.toList := keys_at (by rw [Array.length_toList]; exact hacc.1) fun j v e => hacc.2 j v (by rw [← Array.getElem?_toList]; exact e)
    have I1 : Inv X pins σ H { s with heap := h', toks := tk } := I.kept (t' := tk) hk
    have I2 : Inv X pins σ (upd H h'.objs.size (.tup (kvs.map fun kv => kV kv.1))) { s with heap := h'.push { cls := .type "tuple", data := .seq acc }, toks := tk } :=
      I1.laid (t' := tk) (fun b o e => Heap.get?_push_of_some _ e) (Nat.le_refl _) (show ObjOk X.prog X.w _ _ _ (.tup (kvs.map fun kv => kV kv.1)) from
        ⟨by rw [List.length_map]; exact z, acc.toList, by rw [ek]; exact hv, by rw [Array.toArray_toList]; exact IsTup.new _ _⟩)
    exact ⟨.ref h'.objs.size, _, I2, rfl, q _ (I1.hok.fresh (Nat.le_refl _))⟩
  · exact ⟨h₁.1, F.args_object_init_2 obj _, object_init_meets F.called_tuple.init.lookup F.called_tuple.made (by decide) X.prog X.w X.A.in1 _ s₁ ⟨h₁.1, rfl, h₁.2⟩⟩
/-- what is shown in few letters, and reads no list -/
def ShortV (H : Hp) (v : V) (d : PyData) : Prop := (v = .non ∧ d = .none) ∨ (∃ i : Int, v = .int i ∧ d = .int i ∧ i.natAbs < 10 ^ 60) ∨ (∃ z : Str, v = .str z ∧ d = .str z ∧ z.length ≤ 20 ∧ PyData.strOk z = true) ∨
  ∃ t i j, v = .ref t ∧ H t = some (.tup [.int i, .int j]) ∧ d = .tuple [.int i, .int j] ∧ i.natAbs < 10 ^ 60 ∧ j.natAbs < 10 ^ 60
theorem short_reads {X : Cx} {pins : List (Addr × Obj)} {σ : L2.St} {H : Hp} {s : Shared} {v : V} {d : PyData} {u : Value} (I : Inv X pins σ H s) (h : ShortV H v d) (r : RelV v u) : Reads s.heap u d [] := by
  rcases h with ⟨rfl, rfl⟩ | ⟨i, rfl, rfl, _⟩ | ⟨z, rfl, rfl, _⟩ | ⟨t, i, j, rfl, ht, rfl, _⟩
  · obtain rfl : u = .none := r
    exact .none
  · obtain ⟨tk, rfl⟩ := r
    exact .int i tk
  · obtain ⟨tk, rfl⟩ := r
    exact .str z tk
  · obtain rfl : u = .ref t := r
    obtain ⟨its, rv, ⟨o, ho, hc, n, hd⟩, _⟩ := I.tuple (SqT.of ht)
    refine .tuple ho hc hd ?_
    cases rv with
    | cons a r1 =>
      cases r1 with
      | cons b r2 =>
        cases r2
        obtain ⟨t1, rfl⟩ := a
        obtain ⟨t2, rfl⟩ := b
        exact .cons (.int i t1) (.cons (.int j t2) .nil)
theorem short_ok {H : Hp} {v : V} {d : PyData} (h : ShortV H v d) : d.showable = true ∧ d.depth ≤ 1 ∧ d.shown.length ≤ 1200 := by
  have big : ∀ {i : Int}, i.natAbs < 10 ^ 60 → i.natAbs < 10 ^ 570 := fun h => Nat.lt_of_lt_of_le h (by decide)
  rcases h with ⟨rfl, rfl⟩ | ⟨i, rfl, rfl, hi⟩ | ⟨z, rfl, rfl, hz, hs⟩ | ⟨t, i, j, rfl, ht, rfl, hi, hj⟩
  · exact ⟨rfl, Nat.zero_le _, by decide⟩
  · refine ⟨decide_eq_true (log_of (big hi)), Nat.zero_le _, ?_⟩
    have := text_len (big hi)
    show (Str.ofString (toString i)).length ≤ 1200
    omega
  · refine ⟨rfl, Nat.zero_le _, ?_⟩
    have := repr_len hz hs
    show (reprText z).length ≤ 1200
    omega
  · refine ⟨?_, ?_, ?_⟩
    · simp [PyData.showable, PyData.showableAll, log_of (big hi), log_of (big hj)]
    · simp [PyData.depth, PyData.depthAll]
    · have h1 := text_len (big hi)
      have h2 := text_len (big hj)
      have := tupleText_len_le [(Str.ofString (toString i)), (Str.ofString (toString j))]
      simp only [List.map_cons, List.map_nil, List.sum_cons, List.sum_nil, List.length_cons, List.length_nil] at this
      show (tupleText [(Str.ofString (toString i)), (Str.ofString (toString j))]).length ≤ 1200
      omega
/-- a dict of few short things -/
def ShortD (H : Hp) : List (Key × V) → Prop := fun kvs => ∀ kv ∈ kvs, (∃ z : Str, kv.1 = .inr z ∧ z.length ≤ 20 ∧ PyData.strOk z = true) ∧ ∃ d, ShortV H kv.2 d
theorem short_pairs {X : Cx} {pins : List (Addr × Obj)} {σ : L2.St} {H : Hp} {s : Shared} (I : Inv X pins σ H s) : ∀ {es : List DictEntry} {vs : List (Key × Value)} {kvs : List (Key × V)}, Pairs (mixKind X.prog X.w) es vs → KV kvs vs → ShortD H kvs →
    ∃ D : List (PyData × PyData), ReadsAll s.heap (es.map (·.key)) (D.map (·.1)) [] ∧ ReadsAll s.heap (es.map (·.val)) (D.map (·.2)) [] ∧ PyData.showableKv D = true ∧ PyData.depthKv D ≤ 1 ∧ ((PyData.shownKv D).map (·.length)).sum ≤ 1500 * kvs.length ∧ (PyData.shownKv D).length = kvs.length
  | _, _, _, .nil, .nil, _ => ⟨[], .nil, .nil, rfl, Nat.zero_le _, Nat.zero_le _, rfl⟩
  | e :: es, (k, w) :: vs, (k', v) :: kvs, .cons h1 h2 h3, .cons ⟨hk, hv⟩ t, hs => by
    obtain rfl : k' = k := hk
    obtain ⟨⟨z, hz, lz, oz⟩, d, hd⟩ := hs (k', v) (.head _)
    obtain ⟨D, r1, r2, r3, r4, r5, r6⟩ := short_pairs I h3 t fun kv hkv => hs kv (.tail _ hkv)
    have hz' : k' = .inr z := hz
    subst hz'
    have hkey : keyIs (.inr z) e.key = true := h1
    rcases keyIs_shape hkey with ⟨i, tk, e1, _⟩ | ⟨x, tk, e1, e2⟩
    · cases e1
    · cases e1
      have hval : e.val = w := h2
      obtain ⟨o1, o2, o3⟩ := short_ok hd
      have hl := repr_len lz oz
      refine ⟨(.str z, d) :: D, ?_, ?_, ?_, ?_, ?_, ?_⟩
      · show ReadsAll s.heap (e.key :: es.map (·.key)) (.str z :: D.map (·.1)) ([] ++ [])
        rw [e2]
        exact .cons (.str z tk) r1
      · show ReadsAll s.heap (e.val :: es.map (·.val)) (d :: D.map (·.2)) ([] ++ [])
        rw [hval]
        exact .cons (short_reads I hd hv) r2
      · simp [PyData.showableKv, PyData.showable, o1, r3]
      · simp only [PyData.depthKv, PyData.depth]
        omega
      · simp only [PyData.shownKv, PyData.shown, List.map_cons, List.sum_cons, List.length_cons, app_len]
        have e3 : (": " : Str).length = 2 := by decide
        omega
      · simp only [PyData.shownKv, List.length_cons, r6]
/-- str(d) of such a dict: some text -/
def rStrD : List V → Hp → VK → Prop := fun xs H Q => ∃ (a : Addr) (kvs : List (Key × V)), xs = [.ref a] ∧ H a = some (.dK kvs) ∧ kvs.length ≤ 10 ∧ ShortD H kvs ∧ ∀ z, Q (.str z) H
theorem call_strD {X : Cx} (gd : X.A.guards = some []) (hu : X.A.units + 65 < cLine) : CallR X (.type "str") rStrD := by
  rintro pins s σ H xs us Q I r ⟨a, kvs, rfl, ha, hl, hs, q⟩
  obtain ⟨u, rfl, rx⟩ := vals1 r
  obtain rfl : u = .ref a := rx
  obtain ⟨z, lo, vs, rel, o, es, ep, ho, hx, hd, hk, hp, hn⟩ := dk_of I.hok ha
  obtain ⟨D, r1, r2, r3, r4, r5, r6⟩ := short_pairs I hp rel hs
  have rd : Reads s.heap (.ref a) (.dict D) (a :: ([] ++ [])) := .dict ho hx.1 hd r1 r2
  refine str_of_reads rd ?_ (fun _ hm => ?_) gd ?_ (fun _ _ z => z) (fun h' t tk kp => ⟨.str (PyData.shown (.dict D)), H, I.kept (t' := tk) kp, ⟨_, rfl⟩, q _⟩) ?_
  · exact r3
  · have e := List.mem_singleton.mp hm
    rw [← e] at lo
    exact absurd lo (by decide)
  · simp only [PyData.depth]
    omega
  · have := dictText_len_le (PyData.shownKv D)
    show (dictText (PyData.shownKv D)).length ≤ sizeLine
    exact Nat.le_trans (show _ ≤ 20000 by omega) (by decide)
end Md

set_option Elab.async false
set_option linter.all false
set_option maxRecDepth 100000
set_option maxHeartbeats 4000000
namespace Md
open PySem PySem.Spec PyProof.Rows PySem.Calls L2
/-! two lists of the same values -/
def rNeLS (K : PySem.W.Frag) : R2 := fun x y H Q => ∃ a b xs, x = .ref a ∧ y = .ref b ∧ SqL K H a xs ∧ SqL K H b xs ∧ (∀ v ∈ xs, selfB v) ∧ Q (.bl false) H
theorem same_at {A : Around} {s : Shared} : ∀ {xs : List V} {us ws : List Value}, Vals xs us → Vals xs ws → (∀ v ∈ xs, selfB v) → ∀ (j : Nat) (h1 : j < us.length) (h2 : j < ws.length), SeqAt.EqAt A s us[j] ws[j] true
  | _, _, _, .nil, _, _, j, h1, _ => absurd h1 (Nat.not_lt_zero j)
  | _, _, _, .cons a r, .cons b t, h, 0, _, _ => eq_self a b (h _ (.head _))
  | _, _, _, .cons a r, .cons b t, h, j + 1, h1, h2 => same_at r t (fun v hv => h v (.tail _ hv)) j (Nat.lt_of_succ_lt_succ h1) (Nat.lt_of_succ_lt_succ h2)
theorem op_neLS {X : Cx} (hu : X.A.units < cLine) : OpR X (compareOp .NotEq) (rNeLS X.K) := by
  rintro pins s σ H x y v u Q I rx ry ⟨a, b, xs, rfl, rfl, ha, hb, hs, q⟩
  obtain rfl : v = .ref a := rx
  obtain rfl : u = .ref b := ry
  obtain ⟨us, r1, p1, _⟩ := I.list ha
  obtain ⟨ws, r2, p2, _⟩ := I.list hb
  have hsz : us.toArray.size = ws.toArray.size := by rw [List.size_toArray, List.size_toArray, ← r1.length, ← r2.length]
  have key := SeqAt.RcNeAt.lists (e := fun _ => true) p1.isList p2.isList hsz hu fun j h1 h2 => by
    have k := same_at (A := X.A.in1) (s := s) r1 r2 hs j (by simpa using h1) (by simpa using h2)
    simpa using k
  have e : (!(List.range us.toArray.size).all fun _ => true) = false := by
    rw [List.all_eq_true.mpr fun _ _ => rfl]
    rfl
  rw [e] at key
  exact PySem.W.cmp_ofNotEq (key X.prog X.w X.xe _ ⟨.bl false, H, I, rfl, q⟩)
end Md

set_option Elab.async false
set_option linter.all false
set_option maxRecDepth 100000
set_option maxHeartbeats 4000000
set_option exponentiation.threshold 20000
namespace Md
open PySem PySem.Spec PyProof.Rows PySem.Calls L2
local macro_rules | `(tactic| walk_at "v") => `(tactic| refine ⟨_, rfl, ?_⟩)
local macro_rules | `(tactic| walk_at "ii") => `(tactic| refine ⟨_, _, rfl, rfl, ?_⟩)
/-! ### drawn names: letters of a few with one mark among them -/
def isS (c : Nat) : Bool := decide (c ∈ (Str.ofString "abcfghklmnprst").cps.toList)
def NameOf (m : Nat) (z : Str) : Prop := ∃ a b : List Nat, z.cps.toList = a ++ m :: b ∧ (∀ c ∈ a, isS c = true) ∧ (∀ c ∈ b, isS c = true) ∧ a.length + b.length ≤ 7
theorem isS_isL : ∀ c ∈ (Str.ofString "abcfghklmnprst").cps.toList, isL c = true := by decide +kernel
theorem NameOf.word {m : Nat} {z : Str} (h : NameOf m z) (hm : isL m = true) : isWord z = true := by
  obtain ⟨a, b, e, ha, hb, hl⟩ := h
  have e2 : z = ⟨(a ++ m :: b).toArray⟩ := by rw [← e]
  rw [e2]
  refine isWord_of (by rw [List.length_append, List.length_cons]; omega) (by rw [List.length_append, List.length_cons]; omega) fun c hc => ?_
  rcases List.mem_append.mp hc with h | h
  · exact isS_isL c (of_decide_eq_true (ha c h))
  rcases List.mem_cons.mp h with rfl | h
  · exact hm
  · exact isS_isL c (of_decide_eq_true (hb c h))
theorem NameOf.mark {m : Nat} {z : Str} (h : NameOf m z) : m ∈ z.cps.toList ∧ ∀ c ∈ z.cps.toList, c = m ∨ isS c = true := by
  obtain ⟨a, b, e, ha, hb, hl⟩ := h
  rw [e]
  refine ⟨List.mem_append_right _ List.mem_cons_self, fun c hc => ?_⟩
  rcases List.mem_append.mp hc with h | h
  · exact .inr (ha c h)
  rcases List.mem_cons.mp h with rfl | h
  · exact .inl rfl
  · exact .inr (hb c h)
theorem NameOf.ne {m m' : Nat} {z z' : Str} (h : NameOf m z) (h' : NameOf m' z') (hm : m ≠ m') (hs : isS m = false) : z ≠ z' := by
  rintro rfl
  rcases h'.mark.2 m h.mark.1 with e | e
  · exact hm e
  · rw [hs] at e; cases e
def marks : List Nat := (Str.ofString "jqvxzyu").cps.toList
theorem res_marks : ∀ w ∈ kRES, ∀ m ∈ marks, (decide (m ∈ w.cps.toList) && w.cps.toList.all fun c => decide (c = m) || isS c) = false := by decide +kernel
theorem marks_ok : ∀ m ∈ marks, isL m = true ∧ isS m = false := by decide +kernel
theorem NameOf.free {m : Nat} {z : Str} (h : NameOf m z) (hm : m ∈ marks) : z ∉ kRES := by
  intro hz
  have e := res_marks z hz m hm
  have h2 := h.mark
  rw [decide_eq_true h2.1, Bool.true_and] at e
  have : (z.cps.toList.all fun c => decide (c = m) || isS c) = true := List.all_eq_true.mpr fun c hc => by
    rcases h2.2 c hc with e | e
    · rw [decide_eq_true e, Bool.true_or]
    · rw [e, Bool.or_true]
  rw [this] at e
  cases e
theorem NameOf.len {m : Nat} {z : Str} (h : NameOf m z) : z.length ≤ 8 := by
  obtain ⟨a, b, e, _, _, hl⟩ := h
  have : z.length = z.cps.toList.length := by simp [Str.length]
  rw [this, e, List.length_append, List.length_cons]
  omega
theorem NameOf.nameW {K : PySem.W.Frag} {H : Hp} {m : Nat} {z : Str} (h : NameOf m z) (hm : m ∈ marks) : NameW K H (.str z) (some z) :=
  .inr ⟨z, rfl, by have := h.len; omega, h.word (marks_ok m hm).1, by rw [if_neg (h.free hm)]⟩
theorem cutV_take {xs : List V} {k : Nat} (h : k ≤ xs.length) : cutV xs none (some (k : Int)) = xs.take k := by
  unfold cutV
  rw [HT.sIx_nat, HT.sIx_none, List.drop_zero, Nat.sub_zero, Nat.min_eq_left h]
theorem cutV_drop {xs : List V} {k : Nat} (h : k ≤ xs.length) : cutV xs (some (k : Int)) none = xs.drop k := by
  unfold cutV
  rw [HT.sIx_nat, HT.sIx_none, Nat.min_eq_left h]
  exact List.take_of_length_le (by rw [List.length_drop]; exact Nat.le_refl _)
theorem join_ones0 (cs : List Nat) : Txt.join "" (cs.map one) = ⟨cs.toArray⟩ := by
  cases cs with
  | nil => rfl
  | cons c r => exact join_ones _ (List.cons_ne_nil _ _)
def t__law_name (K : PySem.W.Frag) (A : Ads) (E : XK) : TS :=
    (tSeq (tAsg (tLc (iRng1 (tCons (tCall (sp__law_take K A) [] E0 (tCons (tVar 0) (tCons (tC (.int 8)) tNil))) tNil)) (gName 4) tYes (tCall (sp__law_of K A) [] E0 (tCons (tVar 0) (tCons (tC (.str "abcfghklmnprst")) tNil))) [4]) (gName 2))
    (tSeq (tAsg (tCall (sp__law_take K A) [] E0 (tCons (tVar 0) (tCons (tOp rAdd (tCB (rLen K) (tCons (tVar 2) tNil)) (tC (.int 1))) tNil))) (gName 3))
    (tRet (tOp rAddS (tOp rAddS (tM1 (rJoin K) (tC (.str "")) (tSl (rSlL K) (tVar 2) tNoPart (tPart (tVar 3)))) (tVar 1)) (tM1 (rJoin K) (tC (.str "")) (tSl (rSlL K) (tVar 2) (tPart (tVar 3)) tNoPart))))))
def n__law_name : List Str := ["_law_bag_here", "_law_mark", "_law_letters", "_law_at", "_law_turn"]
def sp__law_name (K : PySem.W.Frag) (A : Ads) : Sp := fun vs H Q _ => ∃ (b : Addr) (m n : Nat), vs = [.ref b, .str (one m)] ∧ Bag (n + 9) H b ∧ ∀ (z : Str) H', NameOf m z → Xb b H H' → Bag n H' b → Q (.str z) H'
theorem len__law_name {K : PySem.W.Frag} {A : Ads} {vs : List V} {H : Hp} {Q : VK} {E : XK} (h : sp__law_name K A vs H Q E) : vs.length = 2 := by
  obtain ⟨x, w, n, rfl, _⟩ := h
  rfl
theorem pure__law_name {K : PySem.W.Frag} {A : Ads} {vs : List V} {H : Hp} {Q : VK} {E : XK} (h : sp__law_name K A vs H Q E) : t__law_name K A E { nx := fun _ H' => Q .non H', rt := Q } (start n__law_name vs) H := by
  obtain ⟨b, mk, n, rfl, hB, k⟩ := h
  walk_at "v"
  refine ⟨b, 8, n + 8, rfl, hB, by decide, by decide, fun d H1 d0 d1 x1 hB1 => ?_⟩
  refine ⟨d, rfl, by omega, by omega, fun D hD => ?_⟩
  have nD : D ≠ b := by
    rintro rfl
    obtain ⟨L, e⟩ := hB1.at_
    rw [hD] at e
    cases e
  refine lc_range (lo := 0) (n := d.toNat) (fun i H' => Xb b H H' ∧ Bag (n + 8 - i) H' b ∧ (∀ q o, H q = some o → q ≠ D) ∧ ∃ cs : List Nat, cs.length = i ∧ (∀ c ∈ cs, isS c = true) ∧ H' D = some (.lst ((cs.map one).map V.str)))
    ⟨fun q o nq hq => ?_, hB1.same (Same.new hD), ?_, [], rfl, (by intro _ z; cases z), upd_same⟩ ?_ ?_
  · have := x1 q o nq hq
    rw [upd_ne (ne_of_none this hD)]
    exact this
  · rintro q o hq rfl
    have := x1 q o nD hq
    rw [hD] at this
    cases this
  · rintro i H2 hi ⟨x2, hB2, hnD, cs, hlen, hcs, hl⟩
    refine ⟨rfl, ?_⟩
    walk_at "v"
    refine ⟨b, n + 8 - (i + 1), hB2.mono (by omega), .inr ⟨_, rfl, by decide, by decide, fun c H3 hc x3 hB3 => ?_⟩⟩
    have hl3 := x3 _ _ nD hl
    refine ⟨_, hl3, ?_, fun q o nq hq => ?_, ?_, hnD, cs ++ [c], ?_, fun c' hc' => ?_, ?_⟩
    · rw [List.length_map, List.length_map]
      exact Nat.lt_of_lt_of_le (show cs.length < 9 by omega) (by decide)
    · rw [upd_ne (hnD q o hq)]
      exact x3 q o nq (x2 q o nq hq)
    · obtain ⟨L, S, C, e, r⟩ := hB3
      exact ⟨L, S, C, by rw [upd_ne (Ne.symm nD)]; exact e, r⟩
    · rw [List.length_append, hlen]; rfl
    · rcases List.mem_append.mp hc' with h | h
      · exact hcs c' h
      · have e := List.mem_singleton.mp h
        subst e
        exact decide_eq_true hc
    · rw [upd_same]
      simp [one]
  · rintro H2 ⟨x2, hB2, hnD, cs, hlen, hcs, hl⟩
    have ll : ((cs.map one).map V.str).length = cs.length := by rw [List.length_map, List.length_map]
    walk_at "v"; walk_at "v"
    refine ⟨_, _, rfl, .inl ⟨_, SqL.of hl, rfl⟩, ?_⟩
    walk_at "ii"
    refine ⟨b, _, n, rfl, hB2.mono (by omega), by rw [ll]; omega, ?_, fun at_ H3 a0 a1 x3 hB3 => ?_⟩
    · rw [ll]
      exact Nat.lt_of_le_of_lt (show ((cs.length : Int) + 1).natAbs ≤ 9 by omega) (by decide)
    have hl3 := x3 _ _ nD hl
    obtain ⟨j, rfl⟩ : ∃ j : Nat, at_ = (j : Int) := ⟨at_.toNat, by omega⟩
    have hj : j ≤ cs.length := by rw [ll] at a1; omega
    have e1 : cutV ((cs.map one).map V.str) none (some (j : Int)) = ((cs.take j).map one).map V.str := by
      rw [cutV_take (by rw [ll]; exact hj), ← List.map_take, ← List.map_take]
    have e2 : cutV ((cs.map one).map V.str) (some (j : Int)) none = ((cs.drop j).map one).map V.str := by
      rw [cutV_drop (by rw [ll]; exact hj), ← List.map_drop, ← List.map_drop]
    have b1 : (cs.take j).length ≤ 7 := by rw [List.length_take]; omega
    have b2 : (cs.drop j).length ≤ 7 := by rw [List.length_drop]; omega
    have bj : ∀ (xs : List Nat), xs.length ≤ 7 → ((xs.map one).map (·.length)).sum + (xs.map one).length * (Str.ofString "").length ≤ 16777216 := fun xs h => by
      rw [ones_sum, List.length_map]
      show xs.length + xs.length * 0 ≤ 16777216
      omega
    refine ⟨⟨_, rfl⟩, ?_⟩
    walk_at "v"; walk_at "v"; walk_at "v"
    refine ⟨D, _, rfl, SqL.of hl3, fun p hp => ?_⟩
    have sp := Same.new (o := .lst (cutV ((cs.map one).map V.str) none (some (j : Int)))) hp
    refine ⟨_, p, (cs.take j).map one, rfl, rfl, .inl (SqL.of (by rw [upd_same, e1])), bj _ b1, ?_⟩
    walk_at "v"
    refine ⟨_, _, rfl, rfl, ?_, ?_⟩
    · rw [join_ones0]
      show (cs.take j).toArray.size + 1 ≤ sizeLine
      rw [List.size_toArray]
      exact Nat.le_trans (show _ ≤ 8 by omega) (by decide)
    refine ⟨⟨_, rfl⟩, ?_⟩
    walk_at "v"; walk_at "v"; walk_at "v"
    refine ⟨D, _, rfl, SqL.of (sp _ _ hl3), fun p2 hp2 => ?_⟩
    have sp2 := Same.new (o := .lst (cutV ((cs.map one).map V.str) (some (j : Int)) none)) hp2
    refine ⟨_, p2, (cs.drop j).map one, rfl, rfl, .inl (SqL.of (by rw [upd_same, e2])), bj _ b2, ?_⟩
    have e3 : (Txt.join (Str.ofString "") ((cs.take j).map one) ++ one mk ++ Txt.join (Str.ofString "") ((cs.drop j).map one)).cps.toList = cs.take j ++ mk :: cs.drop j := by
      rw [join_ones0, join_ones0, app_list, app_list]
      show (cs.take j).toArray.toList ++ [mk] ++ (cs.drop j).toArray.toList = _
      simp
    refine ⟨_, _, rfl, rfl, ?_, ?_⟩
    · rw [join_ones0, join_ones0, app_len]
      show (cs.take j).toArray.size + 1 + (cs.drop j).toArray.size ≤ sizeLine
      rw [List.size_toArray, List.size_toArray]
      exact Nat.le_trans (show _ ≤ 15 by omega) (by decide)
    refine k _ _ ⟨_, _, e3, fun c h => hcs c (List.mem_of_mem_take h), fun c h => hcs c (List.mem_of_mem_drop h), by rw [List.length_take, List.length_drop]; omega⟩ ?_ ((hB3.same sp).same sp2)
    exact fun q o nq hq => sp2 _ _ (sp _ _ (x3 q o nq (x2 q o nq hq)))
end Md

set_option Elab.async false
set_option linter.all false
set_option maxRecDepth 100000
set_option maxHeartbeats 4000000
set_option exponentiation.threshold 20000
namespace Md
open PySem PySem.Spec PyProof.Rows PySem.Calls L2
local macro_rules | `(tactic| walk_at "v") => `(tactic| refine ⟨_, rfl, ?_⟩)
local macro_rules | `(tactic| walk_at "ii") => `(tactic| refine ⟨_, _, rfl, rfl, ?_⟩)
/-! ### _law_word -/
def t__law_word (K : PySem.W.Frag) (A : Ads) (E : XK) : TS :=
    (tRet (tM1 (rJoin K) (tC (.str "")) (tLc (iRng1 (tCons (tOp rAdd (tC (.int 1)) (tCall (sp__law_take K A) [] E0 (tCons (tVar 0) (tCons (tC (.int 8)) tNil)))) tNil)) (gName 1) tYes (tCall (sp__law_of K A) [] E0 (tCons (tVar 0) (tCons (tC (.str "abcdefghijklmnopqrstuvwxyz")) tNil))) [1])))
def n__law_word : List Str := ["_law_bag_here", "_law_turn"]
def sp__law_word (K : PySem.W.Frag) (A : Ads) : Sp := fun vs H Q _ => ∃ (b : Addr) (n : Nat), vs = [.ref b] ∧ Bag (n + 9) H b ∧ ∀ (z : Str) H', isWord z = true → Xb b H H' → Bag n H' b → Q (.str z) H'
theorem len__law_word {K : PySem.W.Frag} {A : Ads} {vs : List V} {H : Hp} {Q : VK} {E : XK} (h : sp__law_word K A vs H Q E) : vs.length = 1 := by
  obtain ⟨x, w, rfl, _⟩ := h
  rfl
theorem pure__law_word {K : PySem.W.Frag} {A : Ads} {vs : List V} {H : Hp} {Q : VK} {E : XK} (h : sp__law_word K A vs H Q E) : t__law_word K A E { nx := fun _ H' => Q .non H', rt := Q } (start n__law_word vs) H := by
  obtain ⟨b, n, rfl, hB, k⟩ := h
  refine ⟨⟨_, rfl⟩, ?_⟩
  walk_at "v"
  refine ⟨b, 8, n + 8, rfl, hB, by decide, by decide, fun d H1 d0 d1 x1 hB1 => ?_⟩
  walk_at "ii"
  refine ⟨1 + d, rfl, by omega, by omega, fun D hD => ?_⟩
  have nD : D ≠ b := by
    rintro rfl
    obtain ⟨L, e⟩ := hB1.at_
    rw [hD] at e
    cases e
  refine lc_range (lo := 0) (n := (1 + d).toNat) (fun i H' => Xb b H H' ∧ Bag (n + 8 - i) H' b ∧ (∀ q o, H q = some o → q ≠ D) ∧ ∃ cs : List Nat, cs.length = i ∧ (∀ c ∈ cs, isL c = true) ∧ H' D = some (.lst ((cs.map one).map V.str)))
    ⟨fun q o nq hq => ?_, hB1.same (Same.new hD), ?_, [], rfl, (by intro _ z; cases z), upd_same⟩ ?_ ?_
  · have := x1 q o nq hq
    rw [upd_ne (ne_of_none this hD)]
    exact this
  · rintro q o hq rfl
    have := x1 q o nD hq
    rw [hD] at this
    cases this
  · rintro i H2 hi ⟨x2, hB2, hnD, cs, hlen, hcs, hl⟩
    refine ⟨rfl, ?_⟩
    walk_at "v"
    refine ⟨b, n + 8 - (i + 1), hB2.mono (by omega), .inr ⟨_, rfl, by decide, by decide, fun c H3 hc x3 hB3 => ?_⟩⟩
    have hl3 := x3 _ _ nD hl
    refine ⟨_, hl3, ?_, fun q o nq hq => ?_, ?_, hnD, cs ++ [c], ?_, fun c' hc' => ?_, ?_⟩
    · rw [List.length_map, List.length_map]
      exact Nat.lt_of_lt_of_le (show cs.length < 9 by omega) (by decide)
    · rw [upd_ne (hnD q o hq)]
      exact x3 q o nq (x2 q o nq hq)
    · obtain ⟨L, S, C, e, r⟩ := hB3
      exact ⟨L, S, C, by rw [upd_ne (Ne.symm nD)]; exact e, r⟩
    · rw [List.length_append, hlen]; rfl
    · rcases List.mem_append.mp hc' with h | h
      · exact hcs c' h
      · have e := List.mem_singleton.mp h
        subst e
        exact decide_eq_true hc
    · rw [upd_same]
      simp [one]
  · rintro H2 ⟨x2, hB2, hnD, cs, hlen, hcs, hl⟩
    have c0 : 1 ≤ cs.length := by omega
    have c8 : cs.length ≤ 8 := by omega
    refine ⟨_, D, cs.map one, rfl, rfl, .inl (SqL.of hl), ?_, ?_⟩
    · rw [ones_sum, List.length_map]
      show cs.length + cs.length * 0 ≤ 16777216
      omega
    · rw [join_ones cs (by intro z; rw [z] at c0; exact absurd c0 (by decide))]
      exact k _ _ (isWord_of c0 c8 hcs) x2 (hB2.mono (by omega))
end Md

set_option Elab.async false
set_option linter.all false
set_option maxRecDepth 100000
/-! the head's hook with the interpreter's statics (a class's constants are read there) -/
namespace Md
open PySem PySem.Spec PyProof.Rows PySem.Calls L2
structure SaysM (fa : List He.Fa) (fn : List He.DefD) (ex : PySem.W.Frag → Bool) (K : PySem.W.Frag) : Prop where
  d : He.SaysD fa fn K
  more : ex K = true
def frM (g : Addr → Option Obj) (n : Nat) : PySem.W.Frag := He.frT g (He.asD g n ++ [cStatics])
def obsM (n : Nat) (fa : List He.Fa) (fn : List He.DefD) (ex : PySem.W.Frag → Bool) (g : Addr → Option Obj) : He.AlD × Bool := (He.obsD fa fn (frM g n), ex (frM g n))
def hookM (n : Nat) (fa : List He.Fa) (fn : List He.DefD) (ex : PySem.W.Frag → Bool) : PySem.W.Hook where
  α := He.AlD × Bool
  obs := fun s => obsM n fa fn ex s.heap.get?
  val := fun _ => (He.valD fn, true)
  says := fun _ h => ∃ K : PySem.W.Frag, K.In h ∧ SaysM fa fn ex K
  of := fun _ _ e => ⟨_, He.frT_in, ⟨congrArg (fun z : He.AlD × Bool => z.1) e, congrArg (fun z : He.AlD × Bool => z.2) e⟩⟩
  keeps := fun _ _ _ ⟨K, hK, c⟩ k => ⟨K, PySem.W.Frag.In.keeps hK k, c⟩
theorem obsM_eq {n : Nat} {fa : List He.Fa} {fn : List He.DefD} {ex : PySem.W.Frag → Bool} {g : Addr → Option Obj} {s : Shared} (h : ∀ a, g a = s.heap.get? a) : obsM n fa fn ex g = (hookM n fa fn ex).obs s := by
  have e : g = s.heap.get? := funext h
  rw [e] <;> rfl
end Md

set_option Elab.async false
set_option linter.all false
set_option maxRecDepth 100000
set_option maxHeartbeats 4000000
/-! a law's end where its def may show data -/
namespace Md
open PySem PySem.Spec PyProof.Rows PySem.Calls L2
/-- the script's own place: locked there, unless the written part has it -/
def scrH (K : PySem.W.Frag) (a : Addr) (o : Obj) (xs : List V) : Hp := fun b => if b = a ∧ K.lookup a = none then some (.frz o (.lst xs)) else none
theorem scrH_in {K : PySem.W.Frag} {a b : Addr} {o : Obj} {xs : List V} {u : HO} (h : scrH K a o xs b = some u) : b = a ∧ K.lookup a = none ∧ u = .frz o (.lst xs) := by
  unfold scrH at h
  split at h
  · rename_i c
    cases h
    exact ⟨c.1, c.2, rfl⟩
  · cases h
theorem lawG {P : Program} {w : World} {K : PySem.W.Frag} {mg mb : Str → Option Value} {CX : CXT} {k : Nat} {fa a : Addr} {fd : FuncData} {x : Str} {sp : Sp} {st : Shared} {vs : List Value} {ns : List Int}
    (inK : K.In st.heap) (gl : st.heap.Ns mainGlobals mg) (bl : st.heap.Ns builtinsNs mb) (boot : ∀ y : Str, y ≠ "__name__" → mb y = bootBuiltins y) (nol : st.heap.NoLimit) (gn : st.gens = #[])
    (at_ : st.heap.get? a = some { cls := .type "list", data := .seq vs.toArray }) (hints : IntsAre vs ns) (fit : ns.length ≤ sizeLine) (room : Room k callerA)
    (F : ∀ base : Heap, K.In base → base.Ns mainGlobals mg → FnG P w K mg base CX k fa fd [x] sp) (bind : ∀ (s : Shared) (u : Value), BindsTo s fd ⟨[u], []⟩ [(x, u)])
    (want : ∀ H : Hp, SqL K H a (ns.map V.int) → sp [.ref a] H (fun v _ => v = .bl true) fun _ _ _ => False) (noX : ∀ H e s', CX [] H st (fun _ _ _ => False) e s' → False) :
    codeAny (model P w) callerA (.call (.ref fa) ⟨[.ref a], []⟩) (fun r s' => r = .ok (.ret (.bool true)) ∧ OldK st.heap s'.heap ∧ s'.os = st.os ∧ AllBare s'.gens) st := by
  have rel : Vals (ns.map V.int) vs := vals_ints hints
  have lv : vs.length = ns.length := hints.length
  let o : Obj := { cls := .type "list", data := .seq vs.toArray }
  let H : Hp := scrH K a o (ns.map V.int)
  have good : HOk P w H st.heap := by
    intro b u h
    obtain ⟨rfl, _, rfl⟩ := scrH_in h
    exact ⟨at_, by rw [List.length_map]; exact fit, vs, _, rel, at_⟩
  have seq : SqL K H a (ns.map V.int) := by
    cases e : K.lookup a with
    | none => exact .inl (.inr ⟨o, if_pos ⟨rfl, e⟩⟩)
    | some p =>
      have z := inK a p e
      rw [at_] at z
      cases z
      exact .inr ⟨_, vs.toArray, _, e, rfl, rfl, rfl, by rw [List.size_toArray, lv]; exact fit, by simpa using rel⟩
  have free : ∀ {b : Addr} {p : Obj}, st.heap.get? b = some p → (b = a → K.lookup a = none → False) → (hidT st.heap H).get? b = some p := by
    intro b p e n
    refine hidT_get e ?_
    cases q : H b with
    | none => rfl
    | some u =>
      obtain ⟨e1, e2, _⟩ := scrH_in q
      exact (n e1 e2).elim
  have names : ∀ {b : Addr} {m : Str → Option Value}, st.heap.Ns b m → (hidT st.heap H).Ns b m := by
    rintro b m ⟨p, es, ep, e, d, r⟩
    refine ⟨p, es, ep, free e ?_, d, r⟩
    rintro rfl _
    rw [at_] at e
    cases e
    cases d
  have kept : K.In (hidT st.heap H) := by
    intro b p e
    refine free (inK b p e) ?_
    rintro rfl z
    rw [z] at e
    cases e
  have start : Env0 P w K mg (hidT st.heap H) callerA [] st H := by
    refine ⟨rfl, ⟨kept, names gl, ⟨mb, names bl, boot⟩, ?_⟩, fun b p e => of_hidT e, Nat.le_of_eq (hidT_size _ _), True.intro, ?_, good, .of_eq gn⟩
    · obtain ⟨mc, h1, h2⟩ := nol
      exact ⟨mc, names h1, h2⟩
    · intro b hb
      exact absurd (show b ∈ ([] : List Addr) from hb) (List.not_mem_nil)
  have run := (F _ kept (names gl)).run callerA [] st H ⟨[.ref a], []⟩ [.ref a] [.ref a] _ _ rfl room start (bind st (.ref a)) (.cons rfl .nil) (want H seq)
  refine codeAny_mono run ?_
  rintro (e | _ | _ | _ | u) s' z
  · exact (noX H e s' z).elim
  · exact z.elim
  · exact z.elim
  · exact z.elim
  · obtain ⟨v, H', os, bare, un, good', rv, rfl⟩ := z
    obtain rfl : u = Value.bool true := rv
    refine ⟨rfl, OldK.of_keep fun b p e => ?_, os, bare⟩
    cases q : H b with
    | none => exact un.keep b p e q (fun z => absurd (show b ∈ ([] : List Addr) from z) List.not_mem_nil) (by simp)
    | some t =>
      obtain ⟨rfl, _, rfl⟩ := scrH_in q
      have e2 := (good' b _ (un.frzs b o _ q)).1
      rw [at_] at e
      cases e
      exact e2
theorem walk_ofG {l : PySem.W.OpenLaw} {n k : Nat} {q : Program} {loose : List Str} {XP : (Str → Option Value) → Heap → Prop} {YP : World → Heap → Prop} {d : DefRec} {CX : CXT} {x : Str}
    (most : l.most = some n) (fit : n ≤ sizeLine) (plain : d.params.defaults = []) (room : Room k callerA)
    (told : ∀ (w : World) (mg : Str → Option Value) (fa : Addr) (h : Heap), YP w h → h.Ns mainGlobals mg → mg d.name = some (.ref fa) → ∃ (K : PySem.W.Frag) (fd : FuncData) (sp : Sp),
      K.In h ∧ (∀ (s : Shared) (u : Value), BindsTo s fd ⟨[u], []⟩ [(x, u)]) ∧ (∀ (H : Hp) (a : Addr) (ns : List Int), ns.length ≤ n → SqL K H a (ns.map V.int) →
        sp [.ref a] H (fun v _ => v = .bl true) fun _ _ _ => False) ∧ ∀ base : Heap, K.In base → base.Ns mainGlobals mg → FnG l.prog w K mg base CX k fa fd [x] sp)
    (noX : ∀ (H : Hp) (s : Shared) (e : Value) (s' : Shared), CX [] H s (fun _ _ _ => False) e s' → False) : PySem.W.WalkO q loose XP YP l.row.toRowW d [] (fun f vs => PySem.call f vs) := by
  refine Att.attach_call most plain ?_
  intro w s₀ st mg mb fa o pm cd doc a vs ns G Y ho hd hcd hmg there nums few gn
  obtain ⟨K, fd, sp, inK, bind, want, F⟩ := told w mg fa _ Y G.T.g hmg
  exact lawG inK G.T.g G.T.b G.T.builtins G.T.nolimit gn there nums (Nat.le_trans few fit) room F bind (fun H z => want H a ns few z) fun H e s' => noX H st e s'
end Md

set_option Elab.async false
set_option linter.all false
set_option maxRecDepth 100000
set_option maxHeartbeats 4000000
set_option exponentiation.threshold 20000
namespace Md
open PySem PySem.Spec PyProof.Rows PySem.Calls L2
local macro_rules | `(tactic| walk_at "v") => `(tactic| refine ⟨_, rfl, ?_⟩)
local macro_rules | `(tactic| walk_at "few") => `(tactic| (show _ ≤ sizeLine; rw [sizeLine_eq]; simp))
local macro_rules | `(tactic| walk_at "fls") => `(tactic| (refine ⟨_, rfl, ?_⟩; show (if (!true) = true then _ else _); refine iteF ?_))
/-! ### what one is drawn from -/
/-- data that stays when the draws go on -/
def OneD (K : PySem.W.Frag) (H : Hp) (b : Addr) (x : V) : Prop := ∃ d, (ShowD d ∧ PyData.depth d ≤ 60) ∧ selfB x ∧ ∀ H2, Xb b H H2 → Dp K H2 x d
section
variable {K : PySem.W.Frag} {H H' : Hp} {b : Addr} {x : V}
theorem OneD.xb (h : OneD K H b x) (s : Xb b H H') : OneD K H' b x := by
  obtain ⟨d, sd, sf, k⟩ := h
  exact ⟨d, sd, sf, fun H2 s2 => k H2 (s.trans s2)⟩
theorem OneD.same (h : OneD K H b x) (s : Same H H') : OneD K H' b x := h.xb (Xb.of s)
theorem show_int {i : Int} (h : i.natAbs < 10 ^ 60) : ShowD (.int i) := by
  have big : i.natAbs < 10 ^ 570 := Nat.lt_of_lt_of_le h (by decide)
  refine ⟨by unfold SeqAt.shaped; simp [PyData.canLay0, PyData.depth], decide_eq_true (log_of big), rfl, ?_⟩
  have := text_len big
  show (Str.ofString (toString i)).length ≤ sizeLine
  exact Nat.le_trans this (by decide)
theorem one_non : OneD K H b .non := ⟨.none, ⟨⟨by decide +kernel, rfl, rfl, by decide +kernel⟩, by decide +kernel⟩, .inl rfl, fun _ _ => .non⟩
theorem one_bl : OneD K H b (.bl true) := ⟨.bool true, ⟨⟨by decide +kernel, rfl, rfl, by decide +kernel⟩, by decide +kernel⟩, .inl rfl, fun _ _ => .bl true⟩
theorem one_int {i : Int} (h : i.natAbs < 10 ^ 60) : OneD K H b (.int i) := ⟨.int i, ⟨show_int h, by simp [PyData.depth]⟩, .inl rfl, fun _ _ => .int i⟩
theorem one_str {z : Str} (h : z.length ≤ 20) (hs : PyData.strOk z = true) : OneD K H b (.str z) := ⟨.str z, ⟨show_str h hs, by simp [PyData.depth]⟩, .inl rfl, fun _ _ => .str z⟩
theorem show_pair {p q : Int} (hp : p.natAbs < 10 ^ 60) (hq : q.natAbs < 10 ^ 60) : ShowD (.tuple [.int p, .int q]) := by
  have b1 : p.natAbs < 10 ^ 570 := Nat.lt_of_lt_of_le hp (by decide)
  have b2 : q.natAbs < 10 ^ 570 := Nat.lt_of_lt_of_le hq (by decide)
  refine ⟨by unfold SeqAt.shaped; simp [PyData.canLay0, PyData.canLayAll0, PyData.depth, PyData.depthAll], by simp [PyData.showable, PyData.showableAll, log_of b1, log_of b2], by simp [PyData.hasDict, PyData.hasDictAll], ?_⟩
  have h1 := text_len b1
  have h2 := text_len b2
  have := tupleText_len_le [(Str.ofString (toString p)), (Str.ofString (toString q))]
  simp only [List.map_cons, List.map_nil, List.sum_cons, List.sum_nil, List.length_cons, List.length_nil] at this
  show (tupleText [(Str.ofString (toString p)), (Str.ofString (toString q))]).length ≤ sizeLine
  exact Nat.le_trans (show _ ≤ 1200 by omega) (by decide)
theorem one_num {p q : Int} (h : NumAt H x p q) (hp : p.natAbs ≤ 10 ^ 20) (hq : q.natAbs ≤ 10 ^ 9) {n : Nat} (hB : Bag n H b) : OneD K H b x := by
  have p1 : p.natAbs < 10 ^ 60 := Nat.lt_of_le_of_lt hp (by decide)
  have q1 : q.natAbs < 10 ^ 60 := Nat.lt_of_le_of_lt hq (by decide)
  rcases h with ⟨rfl, _⟩ | ⟨a, rfl, ha, _⟩
  · exact one_int p1
  · obtain ⟨L, e⟩ := hB.at_
    exact ⟨_, ⟨show_pair p1 q1, by simp [PyData.depth, PyData.depthAll]⟩, .inr ⟨a, rfl⟩, fun H2 s => dp_pair (s a _ (by rintro rfl; rw [ha] at e; cases e) ha)⟩
theorem one_tup0 {a : Addr} (h : H a = some (.tup [])) (n : a ≠ b) : OneD K H b (.ref a) := ⟨.tuple [], ⟨⟨by decide +kernel, rfl, rfl, by decide +kernel⟩, by decide +kernel⟩, .inr ⟨a, rfl⟩, fun H2 s => .tup (SqT.of (s a _ n h)) .nil⟩
theorem one_lst0 {a : Addr} (h : H a = some (.lst [])) (n : a ≠ b) : OneD K H b (.ref a) := ⟨.list [], ⟨⟨by decide +kernel, rfl, rfl, by decide +kernel⟩, by decide +kernel⟩, .inr ⟨a, rfl⟩, fun H2 s => .lst (SqL.of (s a _ n h)) .nil⟩
theorem one_a3 {a : Addr} (h : H a = some (.tup [.str "a", .int 3])) (n : a ≠ b) : OneD K H b (.ref a) := ⟨.tuple [.str "a", .int 3], ⟨⟨by decide +kernel, by decide +kernel, by decide +kernel, by decide +kernel⟩, by decide +kernel⟩, .inr ⟨a, rfl⟩, fun H2 s => .tup (SqT.of (s a _ n h)) (.cons (.str _) (.cons (.int 3) .nil))⟩
end
theorem eqv_id23 {d : PyData} (h : SeqAt.shaped d = true) : PyData.eqv d d = true := SeqAt.eqv_refl d (SeqAt.canLay_of_shaped h)
theorem shaped_one {d : PyData} (h : ShowD d) (k : PyData.depth d ≤ 60) : SeqAt.shaped (.tuple [d]) = true := by
  have c := SeqAt.canLay_of_shaped h.sh
  unfold SeqAt.shaped
  have : PyData.depth (.tuple [d]) ≤ 64 := by simp [PyData.depth, PyData.depthAll]; omega
  simp [PyData.canLay0, PyData.canLayAll0, c, this]
/-! ### the law -/
def t_law (K : PySem.W.Frag) (A : Ads) (E : XK) : TS :=
    (tSeq (tFor (iRng1 (tCons (tCB rMax2 (tCons (tC (.int 1)) (tCons (tCB rMin2 (tCons (tC (.int 4)) (tCons (tCB (rLen K) (tCons (tVar 0) tNil)) tNil))) tNil))) tNil)) (gName 1) (tSeq (tAsg (tCall (sp__law_bag K A) [] E0 (tCons (tVar 0) (tCons (tVar 1) tNil))) (gName 2))
    (tSeq (tAsg (tCall (sp__law_of K A) [] E0 (tCons (tVar 2) (tCons (tLst (tCons (tC .non) (tCons (tC (.bl true)) (tCons (tUn rNeg (tC (.int 1))) (tCons (tC (.int 0)) (tCons (tCall (sp__law_word K A) [] E0 (tCons (tVar 2) tNil)) (tCons (tCall (sp__law_number K A) [] E0 (tCons (tVar 2) tNil)) (tCons (tTup tNil) (tCons (tLst tNil) (tCons (tTup (tCons (tC (.str "a")) (tCons (tC (.int 3)) tNil))) (tCons (tCall (sp__law_name K A) [] E0 (tCons (tVar 2) (tCons (tC (.str "q")) tNil))) tNil))))))))))) tNil))) (gName 3))
    (tSeq (tPar 8 9 (tCons (tCall (sp__law_word K A) [] E0 (tCons (tVar 2) tNil)) (tCons (tTup (tCons (tCall (sp__law_number K A) [] E0 (tCons (tVar 2) tNil)) tNil)) tNil)))
    (tSeq (tIfS (tTest (tOp (rNeLS K) (tLc (iList K (tCall (sp__law_first K A) [] E0 (tCons (tVar 3) tNil))) (gName 11) tYes (tCB (rRepr K) (tCons (tVar 11) tNil)) [11]) (tOp rRep (tLst (tCons (tCB (rRepr K) (tCons (tVar 3) tNil)) tNil)) (tC (.int 18))))) (tRet (tC (.bl false))) tNext)
    (tSeq (tAsg (tCall (sp__law_all K A) [] E0 (tCons (tVar 3) tNil)) (gName 4))
    (tSeq (tFor (iRng1 (tCons (tC (.int 22)) tNil)) (gName 5) (tSeq (tAsg (tIf (tTest (tOp rLt (tVar 5) (tC (.int 15)))) (tLst (tCons (tC (.bl true)) (tCons (tC (.bl true)) (tCons (tC (.bl false)) (tCons (tC (.bl false)) tNil))))) (tIf (tTest (tOp rLt (tVar 5) (tC (.int 17)))) (tLst (tCons (tC (.bl false)) (tCons (tC (.bl false)) (tCons (tC (.bl true)) (tCons (tC (.bl false)) tNil))))) (tLst (tCons (tC (.bl false)) (tCons (tC (.bl false)) (tCons (tC (.bl false)) (tCons (tC (.bl true)) tNil))))))) (gName 10))
    (tIfS (tOr (tTest (tOp (rNeLS K) (tCall (sp__law_kinds K A) [] E0 (tCons (tOp (rIx K) (tVar 4) (tVar 5)) tNil)) (tLst (tCons (tVar 5) tNil)))) (tTest (tOp (rNeLS K) (tCall (sp__law_bases K A) [] E0 (tCons (tOp (rIx K) (tVar 4) (tVar 5)) tNil)) (tVar 10)))) (tRet (tC (.bl false))) tNext)))
    (tSeq (tAsg (tMkV A.cRefused (sp_Refused___init__ K A) (tCons (tVar 8) (tCons (tVar 9) (tCons (tC .non) tNil)))) (gName 6))
    (tSeq (tAsg (tMkV A.cRefused (sp_Refused___init__ K A) (tCons (tVar 3) (tCons (tTup tNil) (tCons (tVar 6) tNil)))) (gName 7))
    (tSeq (tIfS (tOr (tTest (tOp (rNeD K) (tXo K "name" (tVar 6)) (tVar 8))) (tOr (tTest (tOp (rNeD K) (tXo K "blames" (tVar 6)) (tVar 9))) (tTest (tOp rNotN (tXo K "cause" (tVar 6)) (tC .non))))) (tRet (tC (.bl false))) tNext)
    (tSeq (tIfS (tOr (tTest (tOp rNe (tCB (rRepr K) (tCons (tXo K "name" (tVar 7)) tNil)) (tCB (rRepr K) (tCons (tVar 3) tNil)))) (tOr (tTest (tOp (rNeD K) (tXo K "blames" (tVar 7)) (tTup tNil))) (tTest (tOp (rNeE K) (tXo K "cause" (tVar 7)) (tVar 6))))) (tRet (tC (.bl false))) tNext)
    (tFor (iRng1 (tCons (tC (.int 3)) tNil)) (gName 5) (tIfS (tNot (tB (tCall (sp__law_is_caught K A) [] E0 (tCons (tVar 5) (tCons (tVar 3) tNil))))) (tRet (tC (.bl false))) tNext)))))))))))))
    (tRet (tC (.bl true))))
def n_law : List Str := ["_law_script", "_law_at", "_law_bag_here", "_law_one", "_law_row", "_law_k", "_law_error", "_law_more", "_law_other", "_law_third", "_law_due", "_law_thing"]
def sp_law (K : PySem.W.Frag) : Sp := fun vs H Q _ => ∃ (a : Addr) (ns : List Int), vs = [.ref a] ∧ SqL K H a (ns.map V.int) ∧ ns.length ≤ 63 ∧ ∀ H', Q (.bl true) H'
theorem len_law {K : PySem.W.Frag} {vs : List V} {H : Hp} {Q : VK} {E : XK} (h : sp_law K vs H Q E) : vs.length = 1 := by
  obtain ⟨x, p, rfl, _⟩ := h
  rfl
theorem mark_q : (one 113 : Str) = "q" := by decide +kernel
theorem pure_law {K : PySem.W.Frag} {A : Ads} (eq0 : PySem.W.findIn K (.ref A.cRefused) "__eq__" = some (some (.builtin "object.__eq__"))) (kk : KK K A) (nec : NeC K A.cRefused) (xf : XfC K A.cRefused)
    (xnb : PySem.W.findIn K (.ref A.cRefused) "blames" = some none) (xnc : PySem.W.findIn K (.ref A.cRefused) "cause" = some none) (xnn : PySem.W.findIn K (.ref A.cRefused) "name" = some none)
    {vs : List V} {H : Hp} {Q : VK} {E : XK} (h : sp_law K vs H Q E) : t_law K A E { nx := fun _ H' => Q .non H', rt := Q } (start n_law vs) H := by
  obtain ⟨a, ns, rfl, hS2, hn, k⟩ := h
  walk_at "v"
  refine ⟨_, _, rfl, Or.inl ⟨_, hS2, rfl⟩, ?_⟩
  refine ⟨_, _, rfl, ?_⟩
  refine ⟨_, _, rfl, ?_⟩
  have hl : (ns.map V.int).length = ns.length := List.length_map ..
  obtain ⟨m, em, hm⟩ : ∃ m : Int, m = (if (if ((ns.map V.int).length : Int) < 4 then ((ns.map V.int).length : Int) else 4) > 1 then (if ((ns.map V.int).length : Int) < 4 then ((ns.map V.int).length : Int) else 4) else 1) ∧ m ≤ 4 := ⟨_, rfl, by split <;> split <;> omega⟩
  rw [← em]
  refine ⟨m, rfl, by omega, by omega, ?_⟩
  refine for_range (lo := 0) (n := m.toNat) (fun i σ H' => SqL K H' a (ns.map V.int) ∧ ∃ v1 v2 v3 v4 v5 v6 v7 v8 v9 v10 v11, σ = [some (.ref a), v1, v2, v3, v4, v5, v6, v7, v8, v9, v10, v11]) ⟨hS2, _, _, _, _, _, _, _, _, _, _, _, rfl⟩ ?_ ?_
  rotate_left
  · rintro σ H' ⟨_, _, _, _, _, _, _, _, _, _, _, _, _, rfl⟩
    exact k H'
  rintro i0 σ H3 hi0 ⟨hS3, v1, v2, v3, v4, v5, v6, v7, v8, v9, v10, v11, rfl⟩
  walk_at "v"; walk_at "v"
  refine ⟨a, ns, 0 + i0, rfl, hS3, hn, by omega, by omega, fun b H4 hb0 s4 hB => ?_⟩
  have sc : ScrN K H4 a (ns.map V.int) [b] := ((show ScrN K H3 a (ns.map V.int) [] from ⟨hS3, fun h => nomatch h⟩).new hb0).same s4
  have hB4 : Bag (25 + 9) H4 b := hB.mono (by decide)
  clear hB hS3 s4 hb0
  -- one of ten things
  walk_at "v"
  refine ⟨_, rfl, ?_⟩
  walk_at "v"
  refine ⟨b, 25, rfl, hB4, fun zw H5 hzw x5 hB5 => ?_⟩
  have sc := sc.xb x5
  walk_at "v"
  refine ⟨b, 22, rfl, hB5, fun nx p q H6 x6 hB6 hnx hp hq => ?_⟩
  have sc := sc.xb x6
  refine ⟨by walk_at "few", fun t1 nt1 => ?_⟩
  generalize e7 : L2.upd H6 t1 _ = H7
  have s7 : Same H6 H7 := by rw [← e7]; exact Same.new nt1
  have g7 : H7 t1 = some (.tup []) := by rw [← e7, upd_same]
  have m7 := new_ne hB6 nt1
  have hB7 := hB6.same s7
  refine ⟨by walk_at "few", fun l1 nl1 => ?_⟩
  generalize e8 : L2.upd H7 l1 _ = H8
  have s8 : Same H7 H8 := by rw [← e8]; exact Same.new nl1
  have g8 : H8 l1 = some (.lst []) := by rw [← e8, upd_same]
  have m8 := new_ne hB7 nl1
  have hB8 := hB7.same s8
  refine ⟨by walk_at "few", fun t2 nt2 => ?_⟩
  generalize e9 : L2.upd H8 t2 _ = H9
  have s9 : Same H8 H9 := by rw [← e9]; exact Same.new nt2
  have g9 : H9 t2 = some (.tup [.str "a", .int 3]) := by rw [← e9, upd_same]
  have m9 := new_ne hB8 nt2
  have hB9 := hB8.same s9
  have sc := ((sc.same s7).same s8).same s9
  walk_at "v"
  refine ⟨b, 113, 13, by rw [mark_q]; rfl, hB9, fun zn H10 hzn x10 hB10 => ?_⟩
  have sc := sc.xb x10
  refine ⟨by walk_at "few", fun L nL => ?_⟩
  generalize e11 : L2.upd H10 L _ = H11
  have s11 : Same H10 H11 := by rw [← e11]; exact Same.new nL
  have g11 : H11 L = some (.lst [.non, .bl true, .int (-1), .int 0, .str zw, nx, .ref t1, .ref l1, .ref t2, .str zn]) := by rw [← e11, upd_same]
  have hB11 := hB10.same s11
  have sc := sc.same s11
  have all : ∀ v ∈ ([.non, .bl true, .int (-1), .int 0, .str zw, nx, .ref t1, .ref l1, .ref t2, .str zn] : List V), OneD K H11 b v := by
    intro v hv
    rcases List.mem_cons.mp hv with rfl | hv
    · exact one_non
    rcases List.mem_cons.mp hv with rfl | hv
    · exact one_bl
    rcases List.mem_cons.mp hv with rfl | hv
    · exact one_int (by decide)
    rcases List.mem_cons.mp hv with rfl | hv
    · exact one_int (by decide)
    rcases List.mem_cons.mp hv with rfl | hv
    · exact one_str (by have := (word_all hzw).2.1; omega) (word_ok hzw)
    rcases List.mem_cons.mp hv with rfl | hv
    · exact ((((((one_num hnx hp hq hB6).same s7).same s8).same s9).xb x10).same s11)
    rcases List.mem_cons.mp hv with rfl | hv
    · exact (((((one_tup0 g7 m7).same s8).same s9).xb x10).same s11)
    rcases List.mem_cons.mp hv with rfl | hv
    · exact ((((one_lst0 g8 m8).same s9).xb x10).same s11)
    rcases List.mem_cons.mp hv with rfl | hv
    · exact (((one_a3 g9 m9).xb x10).same s11)
    rcases List.mem_cons.mp hv with rfl | hv
    · exact one_str (by have := hzn.len; omega) (word_ok (hzn.word (by decide)))
    cases hv
  refine ⟨b, 12, hB11, .inl ⟨L, _, rfl, g11, new_ne hB10 nL, by show 0 < 10; decide, by show 10 ≤ 1000000; decide, fun j one H12 hj x12 hB12 => ?_⟩⟩
  have ho := (all one (List.mem_of_getElem? hj)).xb x12
  have sc := sc.xb x12
  clear all hj g11 g7 g8 g9 m7 m8 m9 s7 s8 s9 s11 e7 e8 e9 e11 x5 x6 x10 x12 hB4 hB5 hB6 hB7 hB8 hB9 hB10 hB11 nt1 nl1 nt2 nL hnx
  -- two more
  walk_at "v"
  refine ⟨b, 3, rfl, hB12, fun zo H13 hzo x13 hB13 => ?_⟩
  walk_at "v"
  refine ⟨b, 0, rfl, hB13, fun ny p2 q2 H14 x14 hB14 hny hp2 hq2 => ?_⟩
  refine ⟨by walk_at "few", fun tt ntt => ?_⟩
  generalize e15 : L2.upd H14 tt _ = H15
  have s15 : Same H14 H15 := by rw [← e15]; exact Same.new ntt
  have gt : H15 tt = some (.tup [ny]) := by rw [← e15, upd_same]
  have sc := ((sc.xb x13).xb x14).same s15
  have ho := ((ho.xb x13).xb x14).same s15
  have hn3 := (one_num (K := K) hny hp2 hq2 hB14).same s15
  refine ⟨_, _, rfl, ?_⟩
  obtain ⟨d, ⟨sd, _⟩, so, dp⟩ := ho
  have dp : Dp K H15 one d := dp H15 Xb.refl
  obtain ⟨d3, ⟨sd3, de3⟩, _, dp3⟩ := hn3
  have dp3 : Dp K H15 ny d3 := dp3 H15 Xb.refl
  clear hB12 hB13 hB14 x13 x14 s15 e15 ntt hny
  -- what is kept, shown
  walk_at "v"
  refine ⟨one, rfl, fun l H16 s16 g16 => ?_⟩
  refine ⟨l, rfl, ⟨_, SqL.of g16⟩, fun D hD => ?_⟩
  have dp16 := Dp.same s16 dp
  refine lc_list (K := K) (a := l) (xs := List.replicate 18 one) (fun j H' => Same H16 H' ∧ H' D = some (.lst (List.replicate j (V.str d.shown)))) ⟨Same.new hD, upd_same⟩ (fun j H' _ c => SqL.of (c.1 _ _ g16)) ?_ ?_
  · rintro j x H17 hx ⟨s17, hl17⟩
    have hj : j < 18 := by
      have := (List.getElem?_eq_some_iff.mp hx).1
      rwa [List.length_replicate] at this
    rw [List.getElem?_replicate, if_pos hj] at hx
    cases hx
    refine ⟨rfl, ?_⟩
    walk_at "v"
    refine ⟨one, d, rfl, Dp.same s17 dp16, sd.sh, sd.sw, sd.nd, sd.sz, ?_⟩
    refine ⟨_, hl17, ?_, fun q o hq => ?_, ?_⟩
    · rw [List.length_replicate]
      exact Nat.lt_of_lt_of_le hj (show 18 ≤ sizeLine by rw [sizeLine_eq]; omega)
    · rw [upd_ne (ne_of_none hq hD)]
      exact s17 q o hq
    · rw [upd_same, List.replicate_succ']
  rintro H17 ⟨s17, hl17⟩
  rw [List.length_replicate] at hl17
  have dp17 := Dp.same s17 dp16
  walk_at "v"
  refine ⟨one, d, rfl, dp17, sd.sh, sd.sw, sd.nd, sd.sz, ?_⟩
  refine ⟨by walk_at "few", fun l2 n2 => ?_⟩
  generalize e18 : L2.upd H17 l2 _ = H18
  have s18 : Same H17 H18 := by rw [← e18]; exact Same.new n2
  have g18 : H18 l2 = some (.lst [.str d.shown]) := by rw [← e18, upd_same]
  refine ⟨l2, 18, _, rfl, rfl, g18, by decide, by decide, by show 18 ≤ sizeLine; rw [sizeLine_eq]; omega, fun p3 np3 => ?_⟩
  generalize e19 : L2.upd H18 p3 _ = H19
  have s19 : Same H18 H19 := by rw [← e19]; exact Same.new np3
  have g19 : H19 p3 = some (.lst (List.replicate 18 (V.str d.shown))) := by rw [← e19, upd_same]; rfl
  refine ⟨D, p3, _, rfl, rfl, SqL.of (s19 _ _ (s18 _ _ hl17)), SqL.of g19, fun v hv => by rw [List.eq_of_mem_replicate hv]; exact .inl rfl, ?_⟩
  refine ⟨_, rfl, ?_⟩
  refine iteF ?_
  have S19 := Same.trans s16 (Same.trans s17 (Same.trans s18 s19))
  -- all of them
  walk_at "v"
  refine ⟨one, rfl, fun lr rs H20 s20 gr hrs hE => ?_⟩
  have S20 := Same.trans S19 s20
  refine ⟨22, rfl, by omega, by omega, ?_⟩
  refine for_range (lo := 0) (n := 22) (fun i σ H' => Same H20 H' ∧ ∃ w5 w6 w7 w10 w11, σ = [some (.ref a), some (.int (0 + i0)), some (.ref b), some one, some (.ref lr), w5, w6, w7, some (.str zo), some (.ref tt), w10, w11]) ⟨Same.refl H20, _, _, _, _, _, rfl⟩ ?_ ?_
  · rintro i σ H30 hi ⟨s30, w5, w6, w7, w10, w11, rfl⟩
    obtain ⟨ai, er⟩ : ∃ ai, rs[i]? = some ai := ⟨rs[i], List.getElem?_eq_getElem (by omega)⟩
    have atr : atI (rs.map V.ref) (0 + (i : Int)) = some (.ref ai) := by
      obtain ⟨x, e1, e2⟩ := atI_of (xs := rs.map V.ref) (d := 0 + (i : Int)) (by omega) (by rw [List.length_map]; omega)
      rw [e1]
      have e3 : (0 + (i : Int)).toNat = i := by omega
      rw [e3, List.getElem?_map, er] at e2
      exact e2.symm
    walk_at "v"
    refine ⟨_, _, rfl, rfl, ?_⟩
    refine ⟨_, rfl, ?_⟩
    refine iteD (fun h1 => ?_) (fun h1 => ?_)
    · refine ⟨by walk_at "few", fun du nd => ?_⟩
      generalize ed : L2.upd H30 du _ = H31
      have s31 : Same H30 H31 := by rw [← ed]; exact Same.new nd
      have gd : H31 du = some (.lst [.bl (decide (i < 15)), .bl (decide (i < 15)), .bl (decide (15 ≤ i ∧ i < 17)), .bl (decide (17 ≤ i))]) := by
        rw [← ed, upd_same, decide_eq_true (show i < 15 by omega), decide_eq_false (show ¬ (15 ≤ i ∧ i < 17) by omega), decide_eq_false (show ¬ 17 ≤ i by omega)]
      walk_at "v"; walk_at "v"
      refine .inl ⟨lr, _, 0 + (i : Int), .ref ai, rfl, rfl, SqL.of (s31 _ _ (s30 _ _ gr)), atr, ?_⟩
      refine ⟨ai, i, rfl, ((hE i ai er).same s30).same s31, fun lk H32 s32 gk => ?_⟩
      walk_at "v"
      refine ⟨by walk_at "few", fun lj nj => ?_⟩
      generalize ej : L2.upd H32 lj _ = H33
      have s33 : Same H32 H33 := by rw [← ej]; exact Same.new nj
      have gj : H33 lj = some (.lst [.int (i : Nat)]) := by
        rw [← ej, upd_same, show (0 : Int) + (i : Nat) = (i : Nat) by omega]
      refine ⟨lk, lj, [.int (i : Nat)], rfl, rfl, SqL.of (s33 _ _ gk), SqL.of gj, fun v hv => by rw [List.mem_singleton.mp hv]; exact .inl rfl, ?_⟩
      refine ⟨_, rfl, ?_⟩
      refine iteF ?_
      have s313 := Same.trans s32 s33
      walk_at "v"; walk_at "v"
      refine .inl ⟨lr, _, 0 + (i : Int), .ref ai, rfl, rfl, SqL.of (s313 _ _ (s31 _ _ (s30 _ _ gr))), atr, ?_⟩
      refine ⟨ai, i, rfl, (((hE i ai er).same s30).same s31).same s313, fun lb H34 s34 gb => ?_⟩
      walk_at "v"
      refine ⟨lb, du, _, rfl, rfl, SqL.of gb, SqL.of (s34 _ _ (s313 _ _ gd)), fun v hv => ?_, ?_⟩
      · simp only [List.mem_cons, List.not_mem_nil, or_false] at hv
        rcases hv with rfl | rfl | rfl | rfl <;> exact .inl rfl
      refine ⟨_, rfl, ?_⟩
      refine iteF ?_
      exact ⟨Same.trans s30 (Same.trans s31 (Same.trans s313 s34)), _, _, _, _, _, rfl⟩
    · walk_at "v"
      refine ⟨_, _, rfl, rfl, ?_⟩
      refine ⟨_, rfl, ?_⟩
      refine iteD (fun h2 => ?_) (fun h2 => ?_)
      · refine ⟨by walk_at "few", fun du nd => ?_⟩
        generalize ed : L2.upd H30 du _ = H31
        have s31 : Same H30 H31 := by rw [← ed]; exact Same.new nd
        have gd : H31 du = some (.lst [.bl (decide (i < 15)), .bl (decide (i < 15)), .bl (decide (15 ≤ i ∧ i < 17)), .bl (decide (17 ≤ i))]) := by
          rw [← ed, upd_same, decide_eq_false (show ¬ i < 15 by omega), decide_eq_true (show 15 ≤ i ∧ i < 17 by omega), decide_eq_false (show ¬ 17 ≤ i by omega)]
        walk_at "v"; walk_at "v"
        refine .inl ⟨lr, _, 0 + (i : Int), .ref ai, rfl, rfl, SqL.of (s31 _ _ (s30 _ _ gr)), atr, ?_⟩
        refine ⟨ai, i, rfl, ((hE i ai er).same s30).same s31, fun lk H32 s32 gk => ?_⟩
        walk_at "v"
        refine ⟨by walk_at "few", fun lj nj => ?_⟩
        generalize ej : L2.upd H32 lj _ = H33
        have s33 : Same H32 H33 := by rw [← ej]; exact Same.new nj
        have gj : H33 lj = some (.lst [.int (i : Nat)]) := by
          rw [← ej, upd_same, show (0 : Int) + (i : Nat) = (i : Nat) by omega]
        refine ⟨lk, lj, [.int (i : Nat)], rfl, rfl, SqL.of (s33 _ _ gk), SqL.of gj, fun v hv => by rw [List.mem_singleton.mp hv]; exact .inl rfl, ?_⟩
        refine ⟨_, rfl, ?_⟩
        refine iteF ?_
        have s313 := Same.trans s32 s33
        walk_at "v"; walk_at "v"
        refine .inl ⟨lr, _, 0 + (i : Int), .ref ai, rfl, rfl, SqL.of (s313 _ _ (s31 _ _ (s30 _ _ gr))), atr, ?_⟩
        refine ⟨ai, i, rfl, (((hE i ai er).same s30).same s31).same s313, fun lb H34 s34 gb => ?_⟩
        walk_at "v"
        refine ⟨lb, du, _, rfl, rfl, SqL.of gb, SqL.of (s34 _ _ (s313 _ _ gd)), fun v hv => ?_, ?_⟩
        · simp only [List.mem_cons, List.not_mem_nil, or_false] at hv
          rcases hv with rfl | rfl | rfl | rfl <;> exact .inl rfl
        refine ⟨_, rfl, ?_⟩
        refine iteF ?_
        exact ⟨Same.trans s30 (Same.trans s31 (Same.trans s313 s34)), _, _, _, _, _, rfl⟩
      · refine ⟨by walk_at "few", fun du nd => ?_⟩
        generalize ed : L2.upd H30 du _ = H31
        have s31 : Same H30 H31 := by rw [← ed]; exact Same.new nd
        have gd : H31 du = some (.lst [.bl (decide (i < 15)), .bl (decide (i < 15)), .bl (decide (15 ≤ i ∧ i < 17)), .bl (decide (17 ≤ i))]) := by
          rw [← ed, upd_same, decide_eq_false (show ¬ i < 15 by omega), decide_eq_false (show ¬ (15 ≤ i ∧ i < 17) by omega), decide_eq_true (show 17 ≤ i by omega)]
        walk_at "v"; walk_at "v"
        refine .inl ⟨lr, _, 0 + (i : Int), .ref ai, rfl, rfl, SqL.of (s31 _ _ (s30 _ _ gr)), atr, ?_⟩
        refine ⟨ai, i, rfl, ((hE i ai er).same s30).same s31, fun lk H32 s32 gk => ?_⟩
        walk_at "v"
        refine ⟨by walk_at "few", fun lj nj => ?_⟩
        generalize ej : L2.upd H32 lj _ = H33
        have s33 : Same H32 H33 := by rw [← ej]; exact Same.new nj
        have gj : H33 lj = some (.lst [.int (i : Nat)]) := by
          rw [← ej, upd_same, show (0 : Int) + (i : Nat) = (i : Nat) by omega]
        refine ⟨lk, lj, [.int (i : Nat)], rfl, rfl, SqL.of (s33 _ _ gk), SqL.of gj, fun v hv => by rw [List.mem_singleton.mp hv]; exact .inl rfl, ?_⟩
        refine ⟨_, rfl, ?_⟩
        refine iteF ?_
        have s313 := Same.trans s32 s33
        walk_at "v"; walk_at "v"
        refine .inl ⟨lr, _, 0 + (i : Int), .ref ai, rfl, rfl, SqL.of (s313 _ _ (s31 _ _ (s30 _ _ gr))), atr, ?_⟩
        refine ⟨ai, i, rfl, (((hE i ai er).same s30).same s31).same s313, fun lb H34 s34 gb => ?_⟩
        walk_at "v"
        refine ⟨lb, du, _, rfl, rfl, SqL.of gb, SqL.of (s34 _ _ (s313 _ _ gd)), fun v hv => ?_, ?_⟩
        · simp only [List.mem_cons, List.not_mem_nil, or_false] at hv
          rcases hv with rfl | rfl | rfl | rfl <;> exact .inl rfl
        refine ⟨_, rfl, ?_⟩
        refine iteF ?_
        exact ⟨Same.trans s30 (Same.trans s31 (Same.trans s313 s34)), _, _, _, _, _, rfl⟩
  rintro σ H30 ⟨s30, w5, w6, w7, w10, w11, rfl⟩
  have S30 := Same.trans S20 s30
  -- Refused
  walk_at "v"; walk_at "v"
  refine mk_three fun ae de H40 s40 hae hde => ?_
  have S40 := Same.trans S30 s40
  walk_at "v"
  refine ⟨by walk_at "few", fun t0 nt0 => ?_⟩
  generalize e41 : L2.upd H40 t0 _ = H41
  have s41 : Same H40 H41 := by rw [← e41]; exact Same.new nt0
  have g41 : H41 t0 = some (.tup []) := by rw [← e41, upd_same]
  walk_at "v"
  refine mk_three fun am dm H42 s42 ham hdm => ?_
  have s402 := Same.trans s41 s42
  have S42 := Same.trans S40 s402
  have hae := s402 _ _ hae
  have hde := s402 _ _ hde
  have g42 := s42 _ _ g41
  have gt42 := S42 _ _ gt
  have dp42 := Dp.same S42 dp
  have dp342 := Dp.same S42 dp3
  have shw : SeqAt.shaped (.str zo) = true := by unfold SeqAt.shaped; simp [PyData.canLay0, PyData.depth, word_ok hzo]
  walk_at "v"
  refine ⟨ae, _, de, _, .str zo, rfl, hae, hde, xf, xnn, rfl, ?_⟩
  walk_at "v"
  refine ⟨_, _, .str zo, .str zo, shw, shw, ?_⟩
  rw [eqv_id23 shw]
  refine ⟨_, rfl, ?_⟩
  refine iteF ?_
  walk_at "v"
  refine ⟨ae, _, de, _, .ref tt, rfl, hae, hde, xf, xnb, rfl, ?_⟩
  walk_at "v"
  have sh3 : SeqAt.shaped (.tuple [d3]) = true := shaped_one sd3 de3
  refine ⟨_, _, .tup (SqT.of gt42) (.cons dp342 .nil), .tup (SqT.of gt42) (.cons dp342 .nil), sh3, sh3, ?_⟩
  rw [eqv_id23 sh3]
  refine ⟨_, rfl, ?_⟩
  refine iteF ?_
  walk_at "v"
  refine ⟨ae, _, de, _, .non, rfl, hae, hde, xf, xnc, rfl, ?_⟩
  refine ⟨rfl, ?_⟩
  refine ⟨_, rfl, ?_⟩
  refine iteN (fun _ => ?_) (fun z => absurd rfl z)
  walk_at "v"
  refine ⟨am, _, dm, _, one, rfl, ham, hdm, xf, xnn, rfl, ?_⟩
  refine ⟨one, d, rfl, dp42, sd.sh, sd.sw, sd.nd, sd.sz, ?_⟩
  walk_at "v"
  refine ⟨one, d, rfl, dp42, sd.sh, sd.sw, sd.nd, sd.sz, ?_⟩
  refine ⟨rfl, ?_⟩
  refine ⟨_, rfl, ?_⟩
  refine iteN (fun _ => ?_) (fun z => absurd rfl z)
  walk_at "v"
  refine ⟨am, _, dm, _, .ref t0, rfl, ham, hdm, xf, xnb, rfl, ?_⟩
  refine ⟨by walk_at "few", fun t9 nt9 => ?_⟩
  generalize e43 : L2.upd H42 t9 _ = H43
  have s43 : Same H42 H43 := by rw [← e43]; exact Same.new nt9
  have g43 : H43 t9 = some (.tup []) := by rw [← e43, upd_same]
  have sh0 : SeqAt.shaped (.tuple []) = true := by decide +kernel
  refine ⟨_, _, .tup (SqT.of (s43 _ _ g42)) .nil, .tup (SqT.of g43) .nil, sh0, sh0, ?_⟩
  rw [eqv_id23 sh0]
  refine ⟨_, rfl, ?_⟩
  refine iteF ?_
  walk_at "v"
  refine ⟨am, _, dm, _, .ref ae, rfl, s43 _ _ ham, s43 _ _ hdm, xf, xnc, rfl, ?_⟩
  walk_at "v"
  refine ⟨ae, _, de, _, rfl, rfl, s43 _ _ hae, s43 _ _ hde, nec, (kk.xc A.cRefused (by unfold csL; simp)).hm, eq0, ?_⟩
  refine ⟨_, rfl, ?_⟩
  refine iteF ?_
  -- caught
  have dp43 := Dp.same s43 dp42
  have sc43 := sc.same (Same.trans S42 s43)
  refine ⟨3, rfl, by omega, by omega, ?_⟩
  refine for_range (lo := 0) (n := 3) (fun i σ H' => Same H43 H' ∧ ∃ w5, σ = [some (.ref a), some (.int (0 + i0)), some (.ref b), some one, some (.ref lr), w5, some (.ref ae), some (.ref am), some (.str zo), some (.ref tt), w10, w11]) ⟨Same.refl H43, _, rfl⟩ ?_ ?_
  · rintro i σ H50 hi ⟨s50, w5, rfl⟩
    walk_at "v"; walk_at "v"
    refine ⟨0 + (i : Int), one, d, rfl, by omega, Dp.same s50 dp43, sd, fun H51 s51 => ?_⟩
    walk_at "fls"
    exact ⟨Same.trans s50 s51, _, rfl⟩
  · rintro σ H50 ⟨s50, w5, rfl⟩
    exact ⟨(sc43.same s50).1, _, _, _, _, _, _, _, _, _, _, _, rfl⟩
end Md

set_option Elab.async false
set_option linter.all false
set_option maxRecDepth 100000
set_option maxHeartbeats 8000000
namespace Md
open PySem PySem.Spec PyProof.Rows PySem.Calls L2
/-! ### the text of the row, def by def -/
def top (i : Nat) : Stmt := PySem.Challenge.pw_mendrounds_k23_errors_made.main.body.getD i (.Pass ⟨0, 0, 0, 0⟩)
abbrev s_BadNumber___init__ : Stmt := inClass (top 2) 0
theorem sc_BadNumber___init__ : FnScope ["self", "thing"] ["self", "thing"] (defScope s_BadNumber___init__) := ⟨rfl, rfl, rfl, by decide +kernel, rfl, by decide +kernel, by decide +kernel⟩
abbrev s_BadLayout___init__ : Stmt := inClass (top 3) 0
theorem sc_BadLayout___init__ : FnScope ["self", "at"] ["self", "at"] (defScope s_BadLayout___init__) := ⟨rfl, rfl, rfl, by decide +kernel, rfl, by decide +kernel, by decide +kernel⟩
abbrev s_BadField___init__ : Stmt := inClass (top 4) 0
theorem sc_BadField___init__ : FnScope ["self", "name"] ["self", "name"] (defScope s_BadField___init__) := ⟨rfl, rfl, rfl, by decide +kernel, rfl, by decide +kernel, by decide +kernel⟩
abbrev s_BadValue___init__ : Stmt := inClass (top 5) 0
theorem sc_BadValue___init__ : FnScope ["self", "name"] ["self", "name"] (defScope s_BadValue___init__) := ⟨rfl, rfl, rfl, by decide +kernel, rfl, by decide +kernel, by decide +kernel⟩
abbrev s_BadFilling___init__ : Stmt := inClass (top 6) 0
theorem sc_BadFilling___init__ : FnScope ["self", "name"] ["self", "name"] (defScope s_BadFilling___init__) := ⟨rfl, rfl, rfl, by decide +kernel, rfl, by decide +kernel, by decide +kernel⟩
abbrev s_BadCondition___init__ : Stmt := inClass (top 7) 0
theorem sc_BadCondition___init__ : FnScope ["self", "at"] ["self", "at"] (defScope s_BadCondition___init__) := ⟨rfl, rfl, rfl, by decide +kernel, rfl, by decide +kernel, by decide +kernel⟩
abbrev s_BadCheck___init__ : Stmt := inClass (top 8) 0
theorem sc_BadCheck___init__ : FnScope ["self", "what"] ["self", "what"] (defScope s_BadCheck___init__) := ⟨rfl, rfl, rfl, by decide +kernel, rfl, by decide +kernel, by decide +kernel⟩
abbrev s_BadForm___init__ : Stmt := inClass (top 9) 0
theorem sc_BadForm___init__ : FnScope ["self", "at"] ["self", "at"] (defScope s_BadForm___init__) := ⟨rfl, rfl, rfl, by decide +kernel, rfl, by decide +kernel, by decide +kernel⟩
abbrev s_BadPattern___init__ : Stmt := inClass (top 10) 0
theorem sc_BadPattern___init__ : FnScope ["self", "pattern"] ["self", "pattern"] (defScope s_BadPattern___init__) := ⟨rfl, rfl, rfl, by decide +kernel, rfl, by decide +kernel, by decide +kernel⟩
abbrev s_NoFilling___init__ : Stmt := inClass (top 11) 0
theorem sc_NoFilling___init__ : FnScope ["self", "pattern"] ["self", "pattern"] (defScope s_NoFilling___init__) := ⟨rfl, rfl, rfl, by decide +kernel, rfl, by decide +kernel, by decide +kernel⟩
abbrev s_TooMany___init__ : Stmt := inClass (top 13) 0
theorem sc_TooMany___init__ : FnScope ["self", "what"] ["self", "what"] (defScope s_TooMany___init__) := ⟨rfl, rfl, rfl, by decide +kernel, rfl, by decide +kernel, by decide +kernel⟩
abbrev s_BadTelling___init__ : Stmt := inClass (top 14) 0
theorem sc_BadTelling___init__ : FnScope ["self", "telling"] ["self", "telling"] (defScope s_BadTelling___init__) := ⟨rfl, rfl, rfl, by decide +kernel, rfl, by decide +kernel, by decide +kernel⟩
abbrev s_BadChange___init__ : Stmt := inClass (top 15) 0
theorem sc_BadChange___init__ : FnScope ["self", "at"] ["self", "at"] (defScope s_BadChange___init__) := ⟨rfl, rfl, rfl, by decide +kernel, rfl, by decide +kernel, by decide +kernel⟩
abbrev s_BadBatch___init__ : Stmt := inClass (top 16) 0
theorem sc_BadBatch___init__ : FnScope ["self", "at"] ["self", "at"] (defScope s_BadBatch___init__) := ⟨rfl, rfl, rfl, by decide +kernel, rfl, by decide +kernel, by decide +kernel⟩
abbrev s_NoCheck___init__ : Stmt := inClass (top 17) 0
theorem sc_NoCheck___init__ : FnScope ["self", "name"] ["self", "name"] (defScope s_NoCheck___init__) := ⟨rfl, rfl, rfl, by decide +kernel, rfl, by decide +kernel, by decide +kernel⟩
abbrev s_NotTold___init__ : Stmt := inClass (top 18) 0
theorem sc_NotTold___init__ : FnScope ["self", "name"] ["self", "name"] (defScope s_NotTold___init__) := ⟨rfl, rfl, rfl, by decide +kernel, rfl, by decide +kernel, by decide +kernel⟩
abbrev s_Refused___init__ : Stmt := inClass (top 19) 0
theorem sc_Refused___init__ : FnScope ["self", "name", "blames", "cause"] ["self", "name", "blames", "cause"] (defScope s_Refused___init__) := ⟨rfl, rfl, rfl, by decide +kernel, rfl, by decide +kernel, by decide +kernel⟩
abbrev s_Locked___init__ : Stmt := inClass (top 20) 0
theorem sc_Locked___init__ : FnScope ["self", "name"] ["self", "name"] (defScope s_Locked___init__) := ⟨rfl, rfl, rfl, by decide +kernel, rfl, by decide +kernel, by decide +kernel⟩
abbrev s_Unmet___init__ : Stmt := inClass (top 21) 0
theorem sc_Unmet___init__ : FnScope ["self", "names"] ["self", "names"] (defScope s_Unmet___init__) := ⟨rfl, rfl, rfl, by decide +kernel, rfl, by decide +kernel, by decide +kernel⟩
abbrev s__law_bag : Stmt := top 25
theorem sc__law_bag : FnScope n__law_bag ["_law_script", "_law_at"] (defScope s__law_bag) := ⟨rfl, rfl, rfl, by decide +kernel, rfl, by decide +kernel, by decide +kernel⟩
abbrev s__law_take : Stmt := top 26
theorem sc__law_take : FnScope n__law_take ["_law_bag_here", "_law_many"] (defScope s__law_take) := ⟨rfl, rfl, rfl, by decide +kernel, rfl, by decide +kernel, by decide +kernel⟩
abbrev s__law_of : Stmt := top 27
theorem sc__law_of : FnScope n__law_of ["_law_bag_here", "_law_some"] (defScope s__law_of) := ⟨rfl, rfl, rfl, by decide +kernel, rfl, by decide +kernel, by decide +kernel⟩
abbrev s__law_name : Stmt := top 28
theorem sc__law_name : FnScope n__law_name ["_law_bag_here", "_law_mark"] (defScope s__law_name) := ⟨rfl, rfl, rfl, by decide +kernel, rfl, by decide +kernel, by decide +kernel⟩
abbrev s__law_word : Stmt := top 29
theorem sc__law_word : FnScope n__law_word ["_law_bag_here"] (defScope s__law_word) := ⟨rfl, rfl, rfl, by decide +kernel, rfl, by decide +kernel, by decide +kernel⟩
abbrev s__law_value : Stmt := top 30
theorem sc__law_value : FnScope n__law_value ["_law_p", "_law_q"] (defScope s__law_value) := ⟨rfl, rfl, rfl, by decide +kernel, rfl, by decide +kernel, by decide +kernel⟩
abbrev s__law_number : Stmt := top 31
theorem sc__law_number : FnScope n__law_number ["_law_bag_here"] (defScope s__law_number) := ⟨rfl, rfl, rfl, by decide +kernel, rfl, by decide +kernel, by decide +kernel⟩
abbrev s__law_kinds : Stmt := top 32
theorem sc__law_kinds : FnScope n__law_kinds ["_law_e"] (defScope s__law_kinds) := ⟨rfl, rfl, rfl, by decide +kernel, rfl, by decide +kernel, by decide +kernel⟩
abbrev s__law_bases : Stmt := top 33
theorem sc__law_bases : FnScope n__law_bases ["_law_e"] (defScope s__law_bases) := ⟨rfl, rfl, rfl, by decide +kernel, rfl, by decide +kernel, by decide +kernel⟩
abbrev s__law_first : Stmt := top 34
theorem sc__law_first : FnScope n__law_first ["_law_one"] (defScope s__law_first) := ⟨rfl, rfl, rfl, by decide +kernel, rfl, by decide +kernel, by decide +kernel⟩
abbrev s__law_all : Stmt := top 35
theorem sc__law_all : FnScope n__law_all ["_law_one"] (defScope s__law_all) := ⟨rfl, rfl, rfl, by decide +kernel, rfl, by decide +kernel, by decide +kernel⟩
abbrev s__law_is_caught : Stmt := top 36
theorem sc__law_is_caught : FnScope n__law_is_caught ["_law_k", "_law_one"] (defScope s__law_is_caught) := ⟨rfl, rfl, rfl, by decide +kernel, rfl, by decide +kernel, by decide +kernel⟩
abbrev s_law : Stmt := top 37
theorem sc_law : FnScope n_law ["_law_script"] (defScope s_law) := ⟨rfl, rfl, rfl, by decide +kernel, rfl, by decide +kernel, by decide +kernel⟩
section
variable {P : Program} {w : World} {K : PySem.W.Frag} {mg : Str → Option Value} {base : Heap} {A : Ads} {f : Addr} {fd : FuncData}
theorem ok_BadNumber___init__ (F : FunD K "__init__" "BadNumber.__init__" (defArgs s_BadNumber___init__) (defBody s_BadNumber___init__) (defScope s_BadNumber___init__) [] [] f fd) (T : XoC K A.cBadNumber) (hn : PySem.W.findIn K (.ref A.cBadNumber) "thing" = some none) : FnOk P w K mg base (L2N.CX P w) 1 f fd ["self", "thing"] (sp_BadNumber___init__ K A) := by
  refine F.ok (CX := (L2N.CX P w)) sc_BadNumber___init__ (fun vs H Q E h => len_xi h) (fun cdv A' outer s H vs Q E hr h => ⟨tOx K "thing" (tVar 0) (tVar 1), ?_, pure_yi T hn h⟩)
  exact (pss_one (ps_ox (pv 0) (pv 1)))
theorem ok_BadLayout___init__ (F : FunD K "__init__" "BadLayout.__init__" (defArgs s_BadLayout___init__) (defBody s_BadLayout___init__) (defScope s_BadLayout___init__) [] [] f fd) (T : XoC K A.cBadLayout) (hn : PySem.W.findIn K (.ref A.cBadLayout) "at" = some none) : FnOk P w K mg base (L2N.CX P w) 1 f fd ["self", "at"] (sp_BadLayout___init__ K A) := by
  refine F.ok (CX := (L2N.CX P w)) sc_BadLayout___init__ (fun vs H Q E h => len_xi h) (fun cdv A' outer s H vs Q E hr h => ⟨tOx K "at" (tVar 0) (tVar 1), ?_, pure_yi T hn h⟩)
  exact (pss_one (ps_ox (pv 0) (pv 1)))
theorem ok_BadField___init__ (F : FunD K "__init__" "BadField.__init__" (defArgs s_BadField___init__) (defBody s_BadField___init__) (defScope s_BadField___init__) [] [] f fd) (T : XoC K A.cBadField) (hn : PySem.W.findIn K (.ref A.cBadField) "name" = some none) : FnOk P w K mg base (L2N.CX P w) 1 f fd ["self", "name"] (sp_BadField___init__ K A) := by
  refine F.ok (CX := (L2N.CX P w)) sc_BadField___init__ (fun vs H Q E h => len_xi h) (fun cdv A' outer s H vs Q E hr h => ⟨tOx K "name" (tVar 0) (tVar 1), ?_, pure_yi T hn h⟩)
  exact (pss_one (ps_ox (pv 0) (pv 1)))
theorem ok_BadValue___init__ (F : FunD K "__init__" "BadValue.__init__" (defArgs s_BadValue___init__) (defBody s_BadValue___init__) (defScope s_BadValue___init__) [] [] f fd) (T : XoC K A.cBadValue) (hn : PySem.W.findIn K (.ref A.cBadValue) "name" = some none) : FnOk P w K mg base (L2N.CX P w) 1 f fd ["self", "name"] (sp_BadValue___init__ K A) := by
  refine F.ok (CX := (L2N.CX P w)) sc_BadValue___init__ (fun vs H Q E h => len_xi h) (fun cdv A' outer s H vs Q E hr h => ⟨tOx K "name" (tVar 0) (tVar 1), ?_, pure_yi T hn h⟩)
  exact (pss_one (ps_ox (pv 0) (pv 1)))
theorem ok_BadFilling___init__ (F : FunD K "__init__" "BadFilling.__init__" (defArgs s_BadFilling___init__) (defBody s_BadFilling___init__) (defScope s_BadFilling___init__) [] [] f fd) (T : XoC K A.cBadFilling) (hn : PySem.W.findIn K (.ref A.cBadFilling) "name" = some none) : FnOk P w K mg base (L2N.CX P w) 1 f fd ["self", "name"] (sp_BadFilling___init__ K A) := by
  refine F.ok (CX := (L2N.CX P w)) sc_BadFilling___init__ (fun vs H Q E h => len_xi h) (fun cdv A' outer s H vs Q E hr h => ⟨tOx K "name" (tVar 0) (tVar 1), ?_, pure_yi T hn h⟩)
  exact (pss_one (ps_ox (pv 0) (pv 1)))
theorem ok_BadCondition___init__ (F : FunD K "__init__" "BadCondition.__init__" (defArgs s_BadCondition___init__) (defBody s_BadCondition___init__) (defScope s_BadCondition___init__) [] [] f fd) (T : XoC K A.cBadCondition) (hn : PySem.W.findIn K (.ref A.cBadCondition) "at" = some none) : FnOk P w K mg base (L2N.CX P w) 1 f fd ["self", "at"] (sp_BadCondition___init__ K A) := by
  refine F.ok (CX := (L2N.CX P w)) sc_BadCondition___init__ (fun vs H Q E h => len_xi h) (fun cdv A' outer s H vs Q E hr h => ⟨tOx K "at" (tVar 0) (tVar 1), ?_, pure_yi T hn h⟩)
  exact (pss_one (ps_ox (pv 0) (pv 1)))
theorem ok_BadCheck___init__ (F : FunD K "__init__" "BadCheck.__init__" (defArgs s_BadCheck___init__) (defBody s_BadCheck___init__) (defScope s_BadCheck___init__) [] [] f fd) (T : XoC K A.cBadCheck) (hn : PySem.W.findIn K (.ref A.cBadCheck) "what" = some none) : FnOk P w K mg base (L2N.CX P w) 1 f fd ["self", "what"] (sp_BadCheck___init__ K A) := by
  refine F.ok (CX := (L2N.CX P w)) sc_BadCheck___init__ (fun vs H Q E h => len_xi h) (fun cdv A' outer s H vs Q E hr h => ⟨tOx K "what" (tVar 0) (tVar 1), ?_, pure_yi T hn h⟩)
  exact (pss_one (ps_ox (pv 0) (pv 1)))
theorem ok_BadForm___init__ (F : FunD K "__init__" "BadForm.__init__" (defArgs s_BadForm___init__) (defBody s_BadForm___init__) (defScope s_BadForm___init__) [] [] f fd) (T : XoC K A.cBadForm) (hn : PySem.W.findIn K (.ref A.cBadForm) "at" = some none) : FnOk P w K mg base (L2N.CX P w) 1 f fd ["self", "at"] (sp_BadForm___init__ K A) := by
  refine F.ok (CX := (L2N.CX P w)) sc_BadForm___init__ (fun vs H Q E h => len_xi h) (fun cdv A' outer s H vs Q E hr h => ⟨tOx K "at" (tVar 0) (tVar 1), ?_, pure_yi T hn h⟩)
  exact (pss_one (ps_ox (pv 0) (pv 1)))
theorem ok_BadPattern___init__ (F : FunD K "__init__" "BadPattern.__init__" (defArgs s_BadPattern___init__) (defBody s_BadPattern___init__) (defScope s_BadPattern___init__) [] [] f fd) (T : XoC K A.cBadPattern) (hn : PySem.W.findIn K (.ref A.cBadPattern) "pattern" = some none) : FnOk P w K mg base (L2N.CX P w) 1 f fd ["self", "pattern"] (sp_BadPattern___init__ K A) := by
  refine F.ok (CX := (L2N.CX P w)) sc_BadPattern___init__ (fun vs H Q E h => len_xi h) (fun cdv A' outer s H vs Q E hr h => ⟨tOx K "pattern" (tVar 0) (tVar 1), ?_, pure_yi T hn h⟩)
  exact (pss_one (ps_ox (pv 0) (pv 1)))
theorem ok_NoFilling___init__ (F : FunD K "__init__" "NoFilling.__init__" (defArgs s_NoFilling___init__) (defBody s_NoFilling___init__) (defScope s_NoFilling___init__) [] [] f fd) (T : XoC K A.cNoFilling) (hn : PySem.W.findIn K (.ref A.cNoFilling) "pattern" = some none) : FnOk P w K mg base (L2N.CX P w) 1 f fd ["self", "pattern"] (sp_NoFilling___init__ K A) := by
  refine F.ok (CX := (L2N.CX P w)) sc_NoFilling___init__ (fun vs H Q E h => len_xi h) (fun cdv A' outer s H vs Q E hr h => ⟨tOx K "pattern" (tVar 0) (tVar 1), ?_, pure_yi T hn h⟩)
  exact (pss_one (ps_ox (pv 0) (pv 1)))
theorem ok_TooMany___init__ (F : FunD K "__init__" "TooMany.__init__" (defArgs s_TooMany___init__) (defBody s_TooMany___init__) (defScope s_TooMany___init__) [] [] f fd) (T : XoC K A.cTooMany) (hn : PySem.W.findIn K (.ref A.cTooMany) "what" = some none) : FnOk P w K mg base (L2N.CX P w) 1 f fd ["self", "what"] (sp_TooMany___init__ K A) := by
  refine F.ok (CX := (L2N.CX P w)) sc_TooMany___init__ (fun vs H Q E h => len_xi h) (fun cdv A' outer s H vs Q E hr h => ⟨tOx K "what" (tVar 0) (tVar 1), ?_, pure_yi T hn h⟩)
  exact (pss_one (ps_ox (pv 0) (pv 1)))
theorem ok_BadTelling___init__ (F : FunD K "__init__" "BadTelling.__init__" (defArgs s_BadTelling___init__) (defBody s_BadTelling___init__) (defScope s_BadTelling___init__) [] [] f fd) (T : XoC K A.cBadTelling) (hn : PySem.W.findIn K (.ref A.cBadTelling) "telling" = some none) : FnOk P w K mg base (L2N.CX P w) 1 f fd ["self", "telling"] (sp_BadTelling___init__ K A) := by
  refine F.ok (CX := (L2N.CX P w)) sc_BadTelling___init__ (fun vs H Q E h => len_xi h) (fun cdv A' outer s H vs Q E hr h => ⟨tOx K "telling" (tVar 0) (tVar 1), ?_, pure_yi T hn h⟩)
  exact (pss_one (ps_ox (pv 0) (pv 1)))
theorem ok_BadChange___init__ (F : FunD K "__init__" "BadChange.__init__" (defArgs s_BadChange___init__) (defBody s_BadChange___init__) (defScope s_BadChange___init__) [] [] f fd) (T : XoC K A.cBadChange) (hn : PySem.W.findIn K (.ref A.cBadChange) "at" = some none) : FnOk P w K mg base (L2N.CX P w) 1 f fd ["self", "at"] (sp_BadChange___init__ K A) := by
  refine F.ok (CX := (L2N.CX P w)) sc_BadChange___init__ (fun vs H Q E h => len_xi h) (fun cdv A' outer s H vs Q E hr h => ⟨tOx K "at" (tVar 0) (tVar 1), ?_, pure_yi T hn h⟩)
  exact (pss_one (ps_ox (pv 0) (pv 1)))
theorem ok_BadBatch___init__ (F : FunD K "__init__" "BadBatch.__init__" (defArgs s_BadBatch___init__) (defBody s_BadBatch___init__) (defScope s_BadBatch___init__) [] [] f fd) (T : XoC K A.cBadBatch) (hn : PySem.W.findIn K (.ref A.cBadBatch) "at" = some none) : FnOk P w K mg base (L2N.CX P w) 1 f fd ["self", "at"] (sp_BadBatch___init__ K A) := by
  refine F.ok (CX := (L2N.CX P w)) sc_BadBatch___init__ (fun vs H Q E h => len_xi h) (fun cdv A' outer s H vs Q E hr h => ⟨tOx K "at" (tVar 0) (tVar 1), ?_, pure_yi T hn h⟩)
  exact (pss_one (ps_ox (pv 0) (pv 1)))
theorem ok_NoCheck___init__ (F : FunD K "__init__" "NoCheck.__init__" (defArgs s_NoCheck___init__) (defBody s_NoCheck___init__) (defScope s_NoCheck___init__) [] [] f fd) (T : XoC K A.cNoCheck) (hn : PySem.W.findIn K (.ref A.cNoCheck) "name" = some none) : FnOk P w K mg base (L2N.CX P w) 1 f fd ["self", "name"] (sp_NoCheck___init__ K A) := by
  refine F.ok (CX := (L2N.CX P w)) sc_NoCheck___init__ (fun vs H Q E h => len_xi h) (fun cdv A' outer s H vs Q E hr h => ⟨tOx K "name" (tVar 0) (tVar 1), ?_, pure_yi T hn h⟩)
  exact (pss_one (ps_ox (pv 0) (pv 1)))
theorem ok_NotTold___init__ (F : FunD K "__init__" "NotTold.__init__" (defArgs s_NotTold___init__) (defBody s_NotTold___init__) (defScope s_NotTold___init__) [] [] f fd) (T : XoC K A.cNotTold) (hn : PySem.W.findIn K (.ref A.cNotTold) "name" = some none) : FnOk P w K mg base (L2N.CX P w) 1 f fd ["self", "name"] (sp_NotTold___init__ K A) := by
  refine F.ok (CX := (L2N.CX P w)) sc_NotTold___init__ (fun vs H Q E h => len_xi h) (fun cdv A' outer s H vs Q E hr h => ⟨tOx K "name" (tVar 0) (tVar 1), ?_, pure_yi T hn h⟩)
  exact (pss_one (ps_ox (pv 0) (pv 1)))
theorem ok_Refused___init__ (F : FunD K "__init__" "Refused.__init__" (defArgs s_Refused___init__) (defBody s_Refused___init__) (defScope s_Refused___init__) [] [] f fd) (xn_Refused_blames : PySem.W.findIn K (.ref A.cRefused) "blames" = some none) (xn_Refused_cause : PySem.W.findIn K (.ref A.cRefused) "cause" = some none) (xn_Refused_name : PySem.W.findIn K (.ref A.cRefused) "name" = some none) (xoc_Refused : XoC K A.cRefused) : FnOk P w K mg base (L2N.CX P w) 1 f fd ["self", "name", "blames", "cause"] (sp_Refused___init__ K A) := by
  refine F.ok (CX := (L2N.CX P w)) sc_Refused___init__ (fun vs H Q E h => len_Refused___init__ h) (fun cdv A' outer s H vs Q E hr h => ⟨t_Refused___init__ K A E, ?_, pure_Refused___init__ xn_Refused_blames xn_Refused_cause xn_Refused_name xoc_Refused h⟩)
  exact (pss_cons (ps_ox (pv 0) (pv 1))
    (pss_cons (ps_ox (pv 0) (pv 2))
    (pss_one (ps_ox (pv 0) (pv 3)))))
theorem ok_Locked___init__ (F : FunD K "__init__" "Locked.__init__" (defArgs s_Locked___init__) (defBody s_Locked___init__) (defScope s_Locked___init__) [] [] f fd) (T : XoC K A.cLocked) (hn : PySem.W.findIn K (.ref A.cLocked) "name" = some none) : FnOk P w K mg base (L2N.CX P w) 1 f fd ["self", "name"] (sp_Locked___init__ K A) := by
  refine F.ok (CX := (L2N.CX P w)) sc_Locked___init__ (fun vs H Q E h => len_xi h) (fun cdv A' outer s H vs Q E hr h => ⟨tOx K "name" (tVar 0) (tVar 1), ?_, pure_yi T hn h⟩)
  exact (pss_one (ps_ox (pv 0) (pv 1)))
theorem ok_Unmet___init__ (F : FunD K "__init__" "Unmet.__init__" (defArgs s_Unmet___init__) (defBody s_Unmet___init__) (defScope s_Unmet___init__) [] [] f fd) (T : XoC K A.cUnmet) (hn : PySem.W.findIn K (.ref A.cUnmet) "names" = some none) : FnOk P w K mg base (L2N.CX P w) 1 f fd ["self", "names"] (sp_Unmet___init__ K A) := by
  refine F.ok (CX := (L2N.CX P w)) sc_Unmet___init__ (fun vs H Q E h => len_xi h) (fun cdv A' outer s H vs Q E hr h => ⟨tOx K "names" (tVar 0) (tVar 1), ?_, pure_yi T hn h⟩)
  exact (pss_one (ps_ox (pv 0) (pv 1)))
theorem ok__law_bag (F : FunD K "_law_bag" "_law_bag" (defArgs s__law_bag) (defBody s__law_bag) (defScope s__law_bag) [] [] f fd) (fr_abs : mg "abs" = none) (fr_int : mg "int" = none) (fr_len : mg "len" = none) : FnOk P w K mg base (L2N.CX P w) 1 f fd ["_law_script", "_law_at"] (sp__law_bag K A) := by
  refine F.ok (CX := (L2N.CX P w)) sc__law_bag (fun vs H Q E h => len__law_bag h) (fun cdv A' outer s H vs Q E hr h => ⟨t__law_bag K A E, ?_, pure__law_bag h⟩)
  exact (pss_cons (ps_set (i := 2) sc__law_bag.nd rfl (by first | exact Or.inl rfl | exact Or.inr rfl) (pe_ifExp (pt_cmpR op_lt (pv 1) (pe_callB call_len rfl fr_len boot_len (pa_cons (pv 0) pa_nil)) (nomark _)) (pe_ix ix_seq (pv 0) (pv 1) (fun _ _ => rfl)) pe_int))
    (pss_cons (ps_set (i := 3) sc__law_bag.nd rfl (by first | exact Or.inl rfl | exact Or.inr rfl) (pe_ifExp (pt_cmpR op_ge (pe_callB call_abs rfl fr_abs boot_abs (pa_cons (pv 2) pa_nil)) (pe_op op_pow pe_int pe_int) (nomark _)) (pe_callB call_abs rfl fr_abs boot_abs (pa_cons (pv 2) pa_nil)) pe_int))
    (pss_one (ps_ret (pe_lst (pa_cons (pv 3) (pa_cons (pe_op op_add (pe_op op_add (pe_op op_mulW (pe_op op_mod (pe_callTy call_int1 rfl fr_int boot_int (pa_cons (pv 2) pa_nil)) pe_int) pe_int) (pe_op op_mulW pe_int (pv 1))) pe_int) (pa_cons pe_int pa_nil))))))))
theorem ok__law_take (F : FunD K "_law_take" "_law_take" (defArgs s__law_take) (defBody s__law_take) (defScope s__law_take) [] [] f fd) (fr_int : mg "int" = none) : FnOk P w K mg base (L2N.CX P w) 1 f fd ["_law_bag_here", "_law_many"] (sp__law_take K A) := by
  refine F.ok (CX := (L2N.CX P w)) sc__law_take (fun vs H Q E h => len__law_take h) (fun cdv A' outer s H vs Q E hr h => ⟨t__law_take K A E, ?_, pure__law_take h⟩)
  exact (pss_cons (ps_if (pt_cmpR op_gt (pe_ix ix_seq (pv 0) pe_int (fun _ _ => rfl)) pe_int (nomark _)) (pss_cons (ps_set (i := 3) sc__law_take.nd rfl (by first | exact Or.inl rfl | exact Or.inr rfl) (pe_op op_mod (pe_callTy call_int1 rfl fr_int boot_int (pa_cons (pe_ix ix_seq (pv 0) pe_int (fun _ _ => rfl)) pa_nil)) (pv 1)))
    (pss_cons (ps_asg (pe_op op_fdivW (pe_ix ix_seq (pv 0) pe_int (fun _ _ => rfl)) (pv 1)) (pg_sub (pv 0) pe_int set_list))
    (pss_one (ps_ret (pv 3))))) pss_nil)
    (pss_cons (ps_asg (pe_op op_add (pe_ix ix_seq (pv 0) pe_int (fun _ _ => rfl)) pe_int) (pg_sub (pv 0) pe_int set_list))
    (pss_cons (ps_set (i := 2) sc__law_take.nd rfl (by first | exact Or.inl rfl | exact Or.inr rfl) (pe_op op_mod (pe_callTy call_int1 rfl fr_int boot_int (pa_cons (pe_op op_pow (pe_op op_add (pe_ix ix_seq (pv 0) pe_int (fun _ _ => rfl)) (pe_op op_mulW pe_int (pe_ix ix_seq (pv 0) pe_int (fun _ _ => rfl)))) pe_int) pa_nil)) pe_int))
    (pss_cons (ps_set (i := 2) sc__law_take.nd rfl (by first | exact Or.inl rfl | exact Or.inr rfl) (pe_op op_mod (pe_callTy call_int1 rfl fr_int boot_int (pa_cons (pe_op op_pow (pe_op op_add (pv 2) (pe_op op_mulW pe_int (pe_ix ix_seq (pv 0) pe_int (fun _ _ => rfl)))) pe_int) pa_nil)) pe_int))
    (pss_one (ps_ret (pe_op op_mod (pe_callTy call_int1 rfl fr_int boot_int (pa_cons (pe_op op_fdivW (pv 2) pe_int) pa_nil)) (pv 1))))))))
theorem ok__law_of (F : FunD K "_law_of" "_law_of" (defArgs s__law_of) (defBody s__law_of) (defScope s__law_of) [] [] f fd) (fr_len : mg "len" = none) (c__law_take : Cl P w K mg base 1 "_law_take" (sp__law_take K A) []) : FnOk P w K mg base (L2N.CX P w) 2 f fd ["_law_bag_here", "_law_some"] (sp__law_of K A) := by
  refine F.ok (CX := (L2N.CX P w)) sc__law_of (fun vs H Q E h => len__law_of h) (fun cdv A' outer s H vs Q E hr h => ⟨t__law_of K A E, ?_, pure__law_of h⟩)
  exact (pss_one (ps_ret (pe_ix ix_seq (pv 1) (pe_cl c__law_take hr (by decide) rfl passN (pa_cons (pv 0) (pa_cons (pe_callB call_len rfl fr_len boot_len (pa_cons (pv 1) pa_nil)) pa_nil))) (fun _ _ => rfl))))
theorem ok__law_name (F : FunD K "_law_name" "_law_name" (defArgs s__law_name) (defBody s__law_name) (defScope s__law_name) [] [] f fd) (fr_len : mg "len" = none) (fr_range : mg "range" = none) (c__law_take : Cl P w K mg base 1 "_law_take" (sp__law_take K A) []) (c__law_of : Cl P w K mg base 2 "_law_of" (sp__law_of K A) []) : FnOk P w K mg base (L2N.CX P w) 3 f fd ["_law_bag_here", "_law_mark"] (sp__law_name K A) := by
  refine F.ok (CX := (L2N.CX P w)) sc__law_name (fun vs H Q E h => len__law_name h) (fun cdv A' outer s H vs Q E hr h => ⟨t__law_name K A E, ?_, pure__law_name h⟩)
  exact (pss_cons (ps_setLc (i := 2) (own := [("_law_turn", 4)]) (g := (gName 4)) (tt := tYes) rfl sc__law_name.nd rfl rfl (sw_true rfl rfl rfl (by decide +kernel)) (pi_range1 rfl fr_range (pa_cons (pe_cl c__law_take hr (by decide) rfl passN (pa_cons (pv 0) (pa_cons pe_int pa_nil))) pa_nil)) (blkOk_by (own := [("_law_turn", 4)]) (N := ["_law_bag_here", "_law_mark", "_law_letters", "_law_at", "_law_turn"]) (sc := defScope s__law_name) (by decide +kernel)) (fun _ _ _ _ _ => (pg_name (i := 4) sc__law_name.nd rfl (by first | exact Or.inl rfl | exact Or.inr rfl))) (fun _ _ _ _ _ => pts_nil) (fun _ _ _ _ _ => (pe_cl c__law_of hr (by decide) rfl passN (pa_cons (pv 0) (pa_cons pe_str pa_nil)))))
    (pss_cons (ps_set (i := 3) sc__law_name.nd rfl (by first | exact Or.inl rfl | exact Or.inr rfl) (pe_cl c__law_take hr (by decide) rfl passN (pa_cons (pv 0) (pa_cons (pe_op op_add (pe_callB call_len rfl fr_len boot_len (pa_cons (pv 2) pa_nil)) pe_int) pa_nil))))
    (pss_one (ps_ret (pe_op op_add_str (pe_op op_add_str (pe_join pe_str (pe_slice sl_list (pv 2) po_none (po_some (pv 3)))) (pv 1)) (pe_join pe_str (pe_slice sl_list (pv 2) (po_some (pv 3)) po_none)))))))
theorem ok__law_word (F : FunD K "_law_word" "_law_word" (defArgs s__law_word) (defBody s__law_word) (defScope s__law_word) [] [] f fd) (fr_range : mg "range" = none) (c__law_take : Cl P w K mg base 1 "_law_take" (sp__law_take K A) []) (c__law_of : Cl P w K mg base 2 "_law_of" (sp__law_of K A) []) : FnOk P w K mg base (L2N.CX P w) 3 f fd ["_law_bag_here"] (sp__law_word K A) := by
  refine F.ok (CX := (L2N.CX P w)) sc__law_word (fun vs H Q E h => len__law_word h) (fun cdv A' outer s H vs Q E hr h => ⟨t__law_word K A E, ?_, pure__law_word h⟩)
  exact (pss_one (ps_ret (pe_join pe_str (pe_lc (own := [("_law_turn", 1)]) (g := (gName 1)) (tt := tYes) rfl sc__law_word.nd (pi_range1 rfl fr_range (pa_cons (pe_op op_add pe_int (pe_cl c__law_take hr (by decide) rfl passN (pa_cons (pv 0) (pa_cons pe_int pa_nil)))) pa_nil)) (blkOk_by (own := [("_law_turn", 1)]) (N := ["_law_bag_here", "_law_turn"]) (sc := defScope s__law_word) (by decide +kernel)) (fun _ _ _ _ _ => (pg_name (i := 1) sc__law_word.nd rfl (by first | exact Or.inl rfl | exact Or.inr rfl))) (fun _ _ _ _ _ => pts_nil) (fun _ _ _ _ _ => (pe_cl c__law_of hr (by decide) rfl passN (pa_cons (pv 0) (pa_cons pe_str pa_nil))))))))
theorem ok__law_value (F : FunD K "_law_value" "_law_value" (defArgs s__law_value) (defBody s__law_value) (defScope s__law_value) [] [] f fd) (fr_abs : mg "abs" = none) (fr_int : mg "int" = none) : FnOk P w K mg base (L2N.CX P w) 1 f fd ["_law_p", "_law_q"] (sp__law_value K A) := by
  refine F.ok (CX := (L2N.CX P w)) sc__law_value (fun vs H Q E h => len__law_value h) (fun cdv A' outer s H vs Q E hr h => ⟨t__law_value K A E, ?_, pure__law_value h⟩)
  exact (pss_cons (ps_par (i := 2) (j := 3) rfl sc__law_value.nd rfl rfl (by decide) rfl rfl (pa_cons (pe_callB call_abs rfl fr_abs boot_abs (pa_cons (pv 0) pa_nil)) (pa_cons (pv 1) pa_nil)) rfl)
    (pss_cons (ps_while (passes_of rfl) (pt_cmpR op_gt (pv 2) pe_int (nomark _)) (pss_one (ps_par (i := 2) (j := 3) rfl sc__law_value.nd rfl rfl (by decide) rfl rfl (pa_cons (pe_op op_mod (pe_callTy call_int1 rfl fr_int boot_int (pa_cons (pv 3) pa_nil)) (pv 2)) (pa_cons (pv 2) pa_nil)) rfl)))
    (pss_one (ps_ret (pe_ifExp (pt_cmpR op_eq (pv 1) (pv 3) (nomark _)) (pe_op op_fdivW (pv 0) (pv 3)) (pe_tup (pa_cons (pe_op op_fdivW (pv 0) (pv 3)) (pa_cons (pe_op op_fdivW (pv 1) (pv 3)) pa_nil))))))))
theorem ok__law_number (F : FunD K "_law_number" "_law_number" (defArgs s__law_number) (defBody s__law_number) (defScope s__law_number) [] [] f fd) (c__law_take : Cl P w K mg base 1 "_law_take" (sp__law_take K A) []) (c__law_value : Cl P w K mg base 1 "_law_value" (sp__law_value K A) []) : FnOk P w K mg base (L2N.CX P w) 2 f fd ["_law_bag_here"] (sp__law_number K A) := by
  refine F.ok (CX := (L2N.CX P w)) sc__law_number (fun vs H Q E h => len__law_number h) (fun cdv A' outer s H vs Q E hr h => ⟨t__law_number K A E, ?_, pure__law_number h⟩)
  exact (pss_cons (ps_if (pt_cmpR op_gt (pe_cl c__law_take hr (by decide) rfl passN (pa_cons (pv 0) (pa_cons pe_int pa_nil))) pe_int (nomark _)) (pss_one (ps_ret (pe_cl c__law_value hr (by decide) rfl passN (pa_cons (pe_op op_sub (pe_cl c__law_take hr (by decide) rfl passN (pa_cons (pv 0) (pa_cons pe_int pa_nil))) pe_int) (pa_cons (pe_op op_add pe_int (pe_cl c__law_take hr (by decide) rfl passN (pa_cons (pv 0) (pa_cons pe_int pa_nil)))) pa_nil))))) pss_nil)
    (pss_one (ps_ret (pe_cl c__law_value hr (by decide) rfl passN (pa_cons (pe_op op_sub (pe_cl c__law_take hr (by decide) rfl passN (pa_cons (pv 0) (pa_cons (pe_op op_add (pe_op op_mulW pe_int (pe_op op_pow pe_int pe_int)) pe_int) pa_nil))) (pe_op op_pow pe_int pe_int)) (pa_cons (pe_op op_add pe_int (pe_cl c__law_take hr (by decide) rfl passN (pa_cons (pv 0) (pa_cons (pe_op op_pow pe_int pe_int) pa_nil)))) pa_nil))))))
theorem ok__law_kinds (F : FunD K "_law_kinds" "_law_kinds" (defArgs s__law_kinds) (defBody s__law_kinds) (defScope s__law_kinds) [] [] f fd) (fr_isinstance : mg "isinstance" = none) (fr_range : mg "range" = none) (gm_BadBatch : mg "BadBatch" = some (.ref A.cBadBatch)) (gm_BadChange : mg "BadChange" = some (.ref A.cBadChange)) (gm_BadCheck : mg "BadCheck" = some (.ref A.cBadCheck)) (gm_BadCondition : mg "BadCondition" = some (.ref A.cBadCondition)) (gm_BadField : mg "BadField" = some (.ref A.cBadField)) (gm_BadFilling : mg "BadFilling" = some (.ref A.cBadFilling)) (gm_BadForm : mg "BadForm" = some (.ref A.cBadForm)) (gm_BadLayout : mg "BadLayout" = some (.ref A.cBadLayout)) (gm_BadNumber : mg "BadNumber" = some (.ref A.cBadNumber)) (gm_BadPattern : mg "BadPattern" = some (.ref A.cBadPattern)) (gm_BadTelling : mg "BadTelling" = some (.ref A.cBadTelling)) (gm_BadValue : mg "BadValue" = some (.ref A.cBadValue)) (gm_Closed : mg "Closed" = some (.ref A.cClosed)) (gm_Locked : mg "Locked" = some (.ref A.cLocked)) (gm_NoCheck : mg "NoCheck" = some (.ref A.cNoCheck)) (gm_NoFilling : mg "NoFilling" = some (.ref A.cNoFilling)) (gm_NotTold : mg "NotTold" = some (.ref A.cNotTold)) (gm_Refused : mg "Refused" = some (.ref A.cRefused)) (gm_Started : mg "Started" = some (.ref A.cStarted)) (gm_TooMany : mg "TooMany" = some (.ref A.cTooMany)) (gm_Unlike : mg "Unlike" = some (.ref A.cUnlike)) (gm_Unmet : mg "Unmet" = some (.ref A.cUnmet)) (kk : KK K A) : FnOk P w K mg base (L2N.CX P w) 1 f fd ["_law_e"] (sp__law_kinds K A) := by
  refine F.ok (CX := (L2N.CX P w)) sc__law_kinds (fun vs H Q E h => len__law_kinds h) (fun cdv A' outer s H vs Q E hr h => ⟨t__law_kinds K A E, ?_, pure__law_kinds kk h⟩)
  exact (pss_cons (ps_set (i := 1) sc__law_kinds.nd rfl (by first | exact Or.inl rfl | exact Or.inr rfl) (pe_lst (pa_cons (pe_callB call_isO rfl fr_isinstance boot_isinstance (pa_cons (pv 0) (pa_cons (pe_glob rfl gm_BadNumber rfl) pa_nil))) (pa_cons (pe_callB call_isO rfl fr_isinstance boot_isinstance (pa_cons (pv 0) (pa_cons (pe_glob rfl gm_BadLayout rfl) pa_nil))) (pa_cons (pe_callB call_isO rfl fr_isinstance boot_isinstance (pa_cons (pv 0) (pa_cons (pe_glob rfl gm_BadField rfl) pa_nil))) (pa_cons (pe_callB call_isO rfl fr_isinstance boot_isinstance (pa_cons (pv 0) (pa_cons (pe_glob rfl gm_BadValue rfl) pa_nil))) pa_nil))))))
    (pss_cons (ps_set (i := 1) sc__law_kinds.nd rfl (by first | exact Or.inl rfl | exact Or.inr rfl) (pe_op op_cat (pv 1) (pe_lst (pa_cons (pe_callB call_isO rfl fr_isinstance boot_isinstance (pa_cons (pv 0) (pa_cons (pe_glob rfl gm_BadFilling rfl) pa_nil))) (pa_cons (pe_callB call_isO rfl fr_isinstance boot_isinstance (pa_cons (pv 0) (pa_cons (pe_glob rfl gm_BadCondition rfl) pa_nil))) (pa_cons (pe_callB call_isO rfl fr_isinstance boot_isinstance (pa_cons (pv 0) (pa_cons (pe_glob rfl gm_BadCheck rfl) pa_nil))) (pa_cons (pe_callB call_isO rfl fr_isinstance boot_isinstance (pa_cons (pv 0) (pa_cons (pe_glob rfl gm_BadForm rfl) pa_nil))) pa_nil)))))))
    (pss_cons (ps_set (i := 1) sc__law_kinds.nd rfl (by first | exact Or.inl rfl | exact Or.inr rfl) (pe_op op_cat (pv 1) (pe_lst (pa_cons (pe_callB call_isO rfl fr_isinstance boot_isinstance (pa_cons (pv 0) (pa_cons (pe_glob rfl gm_BadPattern rfl) pa_nil))) (pa_cons (pe_callB call_isO rfl fr_isinstance boot_isinstance (pa_cons (pv 0) (pa_cons (pe_glob rfl gm_NoFilling rfl) pa_nil))) (pa_cons (pe_callB call_isO rfl fr_isinstance boot_isinstance (pa_cons (pv 0) (pa_cons (pe_glob rfl gm_Unlike rfl) pa_nil))) (pa_cons (pe_callB call_isO rfl fr_isinstance boot_isinstance (pa_cons (pv 0) (pa_cons (pe_glob rfl gm_TooMany rfl) pa_nil))) pa_nil)))))))
    (pss_cons (ps_set (i := 1) sc__law_kinds.nd rfl (by first | exact Or.inl rfl | exact Or.inr rfl) (pe_op op_cat (pv 1) (pe_lst (pa_cons (pe_callB call_isO rfl fr_isinstance boot_isinstance (pa_cons (pv 0) (pa_cons (pe_glob rfl gm_BadTelling rfl) pa_nil))) (pa_cons (pe_callB call_isO rfl fr_isinstance boot_isinstance (pa_cons (pv 0) (pa_cons (pe_glob rfl gm_BadChange rfl) pa_nil))) (pa_cons (pe_callB call_isO rfl fr_isinstance boot_isinstance (pa_cons (pv 0) (pa_cons (pe_glob rfl gm_BadBatch rfl) pa_nil))) (pa_cons (pe_callB call_isO rfl fr_isinstance boot_isinstance (pa_cons (pv 0) (pa_cons (pe_glob rfl gm_NoCheck rfl) pa_nil))) pa_nil)))))))
    (pss_cons (ps_set (i := 1) sc__law_kinds.nd rfl (by first | exact Or.inl rfl | exact Or.inr rfl) (pe_op op_cat (pv 1) (pe_lst (pa_cons (pe_callB call_isO rfl fr_isinstance boot_isinstance (pa_cons (pv 0) (pa_cons (pe_glob rfl gm_NotTold rfl) pa_nil))) (pa_cons (pe_callB call_isO rfl fr_isinstance boot_isinstance (pa_cons (pv 0) (pa_cons (pe_glob rfl gm_Refused rfl) pa_nil))) (pa_cons (pe_callB call_isO rfl fr_isinstance boot_isinstance (pa_cons (pv 0) (pa_cons (pe_glob rfl gm_Locked rfl) pa_nil))) (pa_cons (pe_callB call_isO rfl fr_isinstance boot_isinstance (pa_cons (pv 0) (pa_cons (pe_glob rfl gm_Unmet rfl) pa_nil))) pa_nil)))))))
    (pss_cons (ps_set (i := 1) sc__law_kinds.nd rfl (by first | exact Or.inl rfl | exact Or.inr rfl) (pe_op op_cat (pv 1) (pe_lst (pa_cons (pe_callB call_isO rfl fr_isinstance boot_isinstance (pa_cons (pv 0) (pa_cons (pe_glob rfl gm_Closed rfl) pa_nil))) (pa_cons (pe_callB call_isO rfl fr_isinstance boot_isinstance (pa_cons (pv 0) (pa_cons (pe_glob rfl gm_Started rfl) pa_nil))) pa_nil)))))
    (pss_one (ps_ret (pe_lc (own := [("_law_k", 2)]) (g := (gName 2)) (tt := (tB (tOp (rIx K) (tVar 1) (tVar 2)))) rfl sc__law_kinds.nd (pi_range1 rfl fr_range (pa_cons pe_int pa_nil)) (blkOk_by (own := [("_law_k", 2)]) (N := ["_law_e", "_law_found", "_law_k"]) (sc := defScope s__law_kinds) (by decide +kernel)) (fun _ _ _ _ _ => (pg_name (i := 2) sc__law_kinds.nd rfl (by first | exact Or.inl rfl | exact Or.inr rfl))) (fun _ _ _ _ _ => (pts_one (pt_val (pe_ix ix_seq (pv 1) (pv 2) (fun _ _ => rfl))))) (fun _ _ _ _ _ => (pv 2)))))))))))
theorem ok__law_bases (F : FunD K "_law_bases" "_law_bases" (defArgs s__law_bases) (defBody s__law_bases) (defScope s__law_bases) [] [] f fd) (fr_LookupError : mg "LookupError" = none) (fr_RuntimeError : mg "RuntimeError" = none) (fr_ValueError : mg "ValueError" = none) (fr_isinstance : mg "isinstance" = none) (gm_MendroundsError : mg "MendroundsError" = some (.ref A.cMendroundsError)) (kk : KK K A) : FnOk P w K mg base (L2N.CX P w) 1 f fd ["_law_e"] (sp__law_bases K A) := by
  refine F.ok (CX := (L2N.CX P w)) sc__law_bases (fun vs H Q E h => len__law_bases h) (fun cdv A' outer s H vs Q E hr h => ⟨t__law_bases K A E, ?_, pure__law_bases kk h⟩)
  exact (pss_cons (ps_set (i := 1) sc__law_bases.nd rfl (by first | exact Or.inl rfl | exact Or.inr rfl) (pe_lst (pa_cons (pe_callB call_isO rfl fr_isinstance boot_isinstance (pa_cons (pv 0) (pa_cons (pe_glob rfl gm_MendroundsError rfl) pa_nil))) (pa_cons (pe_callB call_isO rfl fr_isinstance boot_isinstance (pa_cons (pv 0) (pa_cons (pe_bltn rfl fr_ValueError (by decide +kernel) rfl) pa_nil))) (pa_cons (pe_callB call_isO rfl fr_isinstance boot_isinstance (pa_cons (pv 0) (pa_cons (pe_bltn rfl fr_LookupError (by decide +kernel) rfl) pa_nil))) pa_nil)))))
    (pss_one (ps_ret (pe_op op_cat (pv 1) (pe_lst (pa_cons (pe_callB call_isO rfl fr_isinstance boot_isinstance (pa_cons (pv 0) (pa_cons (pe_bltn rfl fr_RuntimeError (by decide +kernel) rfl) pa_nil))) pa_nil))))))
theorem ok__law_first (F : FunD K "_law_first" "_law_first" (defArgs s__law_first) (defBody s__law_first) (defScope s__law_first) [] [] f fd) (xf_BadBatch : XfC K A.cBadBatch) (xf_BadChange : XfC K A.cBadChange) (xf_BadCheck : XfC K A.cBadCheck) (xf_BadCondition : XfC K A.cBadCondition) (xf_BadField : XfC K A.cBadField) (xf_BadFilling : XfC K A.cBadFilling) (xf_BadForm : XfC K A.cBadForm) (xf_BadLayout : XfC K A.cBadLayout) (xf_BadNumber : XfC K A.cBadNumber) (xf_BadPattern : XfC K A.cBadPattern) (xf_BadTelling : XfC K A.cBadTelling) (xf_BadValue : XfC K A.cBadValue) (xf_Locked : XfC K A.cLocked) (xf_NoCheck : XfC K A.cNoCheck) (xf_NoFilling : XfC K A.cNoFilling) (xf_NotTold : XfC K A.cNotTold) (xf_TooMany : XfC K A.cTooMany) (xf_Unmet : XfC K A.cUnmet) (xn_BadBatch_at : PySem.W.findIn K (.ref A.cBadBatch) "at" = some none) (xn_BadChange_at : PySem.W.findIn K (.ref A.cBadChange) "at" = some none) (xn_BadCheck_what : PySem.W.findIn K (.ref A.cBadCheck) "what" = some none) (xn_BadCondition_at : PySem.W.findIn K (.ref A.cBadCondition) "at" = some none) (xn_BadField_name : PySem.W.findIn K (.ref A.cBadField) "name" = some none) (xn_BadFilling_name : PySem.W.findIn K (.ref A.cBadFilling) "name" = some none) (xn_BadForm_at : PySem.W.findIn K (.ref A.cBadForm) "at" = some none) (xn_BadLayout_at : PySem.W.findIn K (.ref A.cBadLayout) "at" = some none) (xn_BadNumber_thing : PySem.W.findIn K (.ref A.cBadNumber) "thing" = some none) (xn_BadPattern_pattern : PySem.W.findIn K (.ref A.cBadPattern) "pattern" = some none) (xn_BadTelling_telling : PySem.W.findIn K (.ref A.cBadTelling) "telling" = some none) (xn_BadValue_name : PySem.W.findIn K (.ref A.cBadValue) "name" = some none) (xn_Locked_name : PySem.W.findIn K (.ref A.cLocked) "name" = some none) (xn_NoCheck_name : PySem.W.findIn K (.ref A.cNoCheck) "name" = some none) (xn_NoFilling_pattern : PySem.W.findIn K (.ref A.cNoFilling) "pattern" = some none) (xn_NotTold_name : PySem.W.findIn K (.ref A.cNotTold) "name" = some none) (xn_TooMany_what : PySem.W.findIn K (.ref A.cTooMany) "what" = some none) (xn_Unmet_names : PySem.W.findIn K (.ref A.cUnmet) "names" = some none) (ky_Unmet : Ky P w K mg base 1 "Unmet" A.cUnmet (sp_Unmet___init__ K A)) (ky_Locked : Ky P w K mg base 1 "Locked" A.cLocked (sp_Locked___init__ K A)) (ky_NotTold : Ky P w K mg base 1 "NotTold" A.cNotTold (sp_NotTold___init__ K A)) (ky_NoCheck : Ky P w K mg base 1 "NoCheck" A.cNoCheck (sp_NoCheck___init__ K A)) (ky_BadBatch : Ky P w K mg base 1 "BadBatch" A.cBadBatch (sp_BadBatch___init__ K A)) (ky_BadChange : Ky P w K mg base 1 "BadChange" A.cBadChange (sp_BadChange___init__ K A)) (ky_BadTelling : Ky P w K mg base 1 "BadTelling" A.cBadTelling (sp_BadTelling___init__ K A)) (ky_TooMany : Ky P w K mg base 1 "TooMany" A.cTooMany (sp_TooMany___init__ K A)) (ky_NoFilling : Ky P w K mg base 1 "NoFilling" A.cNoFilling (sp_NoFilling___init__ K A)) (ky_BadPattern : Ky P w K mg base 1 "BadPattern" A.cBadPattern (sp_BadPattern___init__ K A)) (ky_BadForm : Ky P w K mg base 1 "BadForm" A.cBadForm (sp_BadForm___init__ K A)) (ky_BadCheck : Ky P w K mg base 1 "BadCheck" A.cBadCheck (sp_BadCheck___init__ K A)) (ky_BadCondition : Ky P w K mg base 1 "BadCondition" A.cBadCondition (sp_BadCondition___init__ K A)) (ky_BadFilling : Ky P w K mg base 1 "BadFilling" A.cBadFilling (sp_BadFilling___init__ K A)) (ky_BadValue : Ky P w K mg base 1 "BadValue" A.cBadValue (sp_BadValue___init__ K A)) (ky_BadField : Ky P w K mg base 1 "BadField" A.cBadField (sp_BadField___init__ K A)) (ky_BadLayout : Ky P w K mg base 1 "BadLayout" A.cBadLayout (sp_BadLayout___init__ K A)) (ky_BadNumber : Ky P w K mg base 1 "BadNumber" A.cBadNumber (sp_BadNumber___init__ K A)) : FnOk P w K mg base (L2N.CX P w) 3 f fd ["_law_one"] (sp__law_first K A) := by
  refine F.ok (CX := (L2N.CX P w)) sc__law_first (fun vs H Q E h => len__law_first h) (fun cdv A' outer s H vs Q E hr h => ⟨t__law_first K A E, ?_, pure__law_first xf_BadBatch xf_BadChange xf_BadCheck xf_BadCondition xf_BadField xf_BadFilling xf_BadForm xf_BadLayout xf_BadNumber xf_BadPattern xf_BadTelling xf_BadValue xf_Locked xf_NoCheck xf_NoFilling xf_NotTold xf_TooMany xf_Unmet xn_BadBatch_at xn_BadChange_at xn_BadCheck_what xn_BadCondition_at xn_BadField_name xn_BadFilling_name xn_BadForm_at xn_BadLayout_at xn_BadNumber_thing xn_BadPattern_pattern xn_BadTelling_telling xn_BadValue_name xn_Locked_name xn_NoCheck_name xn_NoFilling_pattern xn_NotTold_name xn_TooMany_what xn_Unmet_names h⟩)
  exact (pss_one (ps_ret (pe_lst (pa_cons (pe_xo (pe_mkV ky_BadNumber hr (by decide) rfl (pa_cons (pv 0) pa_nil))) (pa_cons (pe_xo (pe_mkV ky_BadLayout hr (by decide) rfl (pa_cons (pv 0) pa_nil))) (pa_cons (pe_xo (pe_mkV ky_BadField hr (by decide) rfl (pa_cons (pv 0) pa_nil))) (pa_cons (pe_xo (pe_mkV ky_BadValue hr (by decide) rfl (pa_cons (pv 0) pa_nil))) (pa_cons (pe_xo (pe_mkV ky_BadFilling hr (by decide) rfl (pa_cons (pv 0) pa_nil))) (pa_cons (pe_xo (pe_mkV ky_BadCondition hr (by decide) rfl (pa_cons (pv 0) pa_nil))) (pa_cons (pe_xo (pe_mkV ky_BadCheck hr (by decide) rfl (pa_cons (pv 0) pa_nil))) (pa_cons (pe_xo (pe_mkV ky_BadForm hr (by decide) rfl (pa_cons (pv 0) pa_nil))) (pa_cons (pe_xo (pe_mkV ky_BadPattern hr (by decide) rfl (pa_cons (pv 0) pa_nil))) (pa_cons (pe_xo (pe_mkV ky_NoFilling hr (by decide) rfl (pa_cons (pv 0) pa_nil))) (pa_cons (pe_xo (pe_mkV ky_TooMany hr (by decide) rfl (pa_cons (pv 0) pa_nil))) (pa_cons (pe_xo (pe_mkV ky_BadTelling hr (by decide) rfl (pa_cons (pv 0) pa_nil))) (pa_cons (pe_xo (pe_mkV ky_BadChange hr (by decide) rfl (pa_cons (pv 0) pa_nil))) (pa_cons (pe_xo (pe_mkV ky_BadBatch hr (by decide) rfl (pa_cons (pv 0) pa_nil))) (pa_cons (pe_xo (pe_mkV ky_NoCheck hr (by decide) rfl (pa_cons (pv 0) pa_nil))) (pa_cons (pe_xo (pe_mkV ky_NotTold hr (by decide) rfl (pa_cons (pv 0) pa_nil))) (pa_cons (pe_xo (pe_mkV ky_Locked hr (by decide) rfl (pa_cons (pv 0) pa_nil))) (pa_cons (pe_xo (pe_mkV ky_Unmet hr (by decide) rfl (pa_cons (pv 0) pa_nil))) pa_nil)))))))))))))))))))))
theorem ok__law_all (F : FunD K "_law_all" "_law_all" (defArgs s__law_all) (defBody s__law_all) (defScope s__law_all) [] [] f fd) (gm_Closed : mg "Closed" = some (.ref A.cClosed)) (gm_Started : mg "Started" = some (.ref A.cStarted)) (gm_Unlike : mg "Unlike" = some (.ref A.cUnlike)) (x0_Closed : X0 K A.cClosed) (x0_Started : X0 K A.cStarted) (x0_Unlike : X0 K A.cUnlike) (ky_Unmet : Ky P w K mg base 1 "Unmet" A.cUnmet (sp_Unmet___init__ K A)) (ky_Locked : Ky P w K mg base 1 "Locked" A.cLocked (sp_Locked___init__ K A)) (ky_Refused : Ky P w K mg base 1 "Refused" A.cRefused (sp_Refused___init__ K A)) (ky_NotTold : Ky P w K mg base 1 "NotTold" A.cNotTold (sp_NotTold___init__ K A)) (ky_NoCheck : Ky P w K mg base 1 "NoCheck" A.cNoCheck (sp_NoCheck___init__ K A)) (ky_BadBatch : Ky P w K mg base 1 "BadBatch" A.cBadBatch (sp_BadBatch___init__ K A)) (ky_BadChange : Ky P w K mg base 1 "BadChange" A.cBadChange (sp_BadChange___init__ K A)) (ky_BadTelling : Ky P w K mg base 1 "BadTelling" A.cBadTelling (sp_BadTelling___init__ K A)) (ky_TooMany : Ky P w K mg base 1 "TooMany" A.cTooMany (sp_TooMany___init__ K A)) (ky_NoFilling : Ky P w K mg base 1 "NoFilling" A.cNoFilling (sp_NoFilling___init__ K A)) (ky_BadPattern : Ky P w K mg base 1 "BadPattern" A.cBadPattern (sp_BadPattern___init__ K A)) (ky_BadForm : Ky P w K mg base 1 "BadForm" A.cBadForm (sp_BadForm___init__ K A)) (ky_BadCheck : Ky P w K mg base 1 "BadCheck" A.cBadCheck (sp_BadCheck___init__ K A)) (ky_BadCondition : Ky P w K mg base 1 "BadCondition" A.cBadCondition (sp_BadCondition___init__ K A)) (ky_BadFilling : Ky P w K mg base 1 "BadFilling" A.cBadFilling (sp_BadFilling___init__ K A)) (ky_BadValue : Ky P w K mg base 1 "BadValue" A.cBadValue (sp_BadValue___init__ K A)) (ky_BadField : Ky P w K mg base 1 "BadField" A.cBadField (sp_BadField___init__ K A)) (ky_BadLayout : Ky P w K mg base 1 "BadLayout" A.cBadLayout (sp_BadLayout___init__ K A)) (ky_BadNumber : Ky P w K mg base 1 "BadNumber" A.cBadNumber (sp_BadNumber___init__ K A)) : FnOk P w K mg base (L2N.CX P w) 3 f fd ["_law_one"] (sp__law_all K A) := by
  refine F.ok (CX := (L2N.CX P w)) sc__law_all (fun vs H Q E h => len__law_all h) (fun cdv A' outer s H vs Q E hr h => ⟨t__law_all K A E, ?_, pure__law_all h⟩)
  exact (pss_one (ps_ret (pe_lst (pa_cons (pe_mkV ky_BadNumber hr (by decide) rfl (pa_cons (pv 0) pa_nil)) (pa_cons (pe_mkV ky_BadLayout hr (by decide) rfl (pa_cons (pv 0) pa_nil)) (pa_cons (pe_mkV ky_BadField hr (by decide) rfl (pa_cons (pv 0) pa_nil)) (pa_cons (pe_mkV ky_BadValue hr (by decide) rfl (pa_cons (pv 0) pa_nil)) (pa_cons (pe_mkV ky_BadFilling hr (by decide) rfl (pa_cons (pv 0) pa_nil)) (pa_cons (pe_mkV ky_BadCondition hr (by decide) rfl (pa_cons (pv 0) pa_nil)) (pa_cons (pe_mkV ky_BadCheck hr (by decide) rfl (pa_cons (pv 0) pa_nil)) (pa_cons (pe_mkV ky_BadForm hr (by decide) rfl (pa_cons (pv 0) pa_nil)) (pa_cons (pe_mkV ky_BadPattern hr (by decide) rfl (pa_cons (pv 0) pa_nil)) (pa_cons (pe_mkV ky_NoFilling hr (by decide) rfl (pa_cons (pv 0) pa_nil)) (pa_cons (pe_mk0 x0_Unlike gm_Unlike rfl) (pa_cons (pe_mkV ky_TooMany hr (by decide) rfl (pa_cons (pv 0) pa_nil)) (pa_cons (pe_mkV ky_BadTelling hr (by decide) rfl (pa_cons (pv 0) pa_nil)) (pa_cons (pe_mkV ky_BadChange hr (by decide) rfl (pa_cons (pv 0) pa_nil)) (pa_cons (pe_mkV ky_BadBatch hr (by decide) rfl (pa_cons (pv 0) pa_nil)) (pa_cons (pe_mkV ky_NoCheck hr (by decide) rfl (pa_cons (pv 0) pa_nil)) (pa_cons (pe_mkV ky_NotTold hr (by decide) rfl (pa_cons (pv 0) pa_nil)) (pa_cons (pe_mkV ky_Refused hr (by decide) rfl (pa_cons (pv 0) (pa_cons (pv 0) (pa_cons (pv 0) pa_nil)))) (pa_cons (pe_mkV ky_Locked hr (by decide) rfl (pa_cons (pv 0) pa_nil)) (pa_cons (pe_mkV ky_Unmet hr (by decide) rfl (pa_cons (pv 0) pa_nil)) (pa_cons (pe_mk0 x0_Closed gm_Closed rfl) (pa_cons (pe_mk0 x0_Started gm_Started rfl) pa_nil)))))))))))))))))))))))))
theorem ok__law_is_caught (F : FunD K "_law_is_caught" "_law_is_caught" (defArgs s__law_is_caught) (defBody s__law_is_caught) (defScope s__law_is_caught) [] [] f fd) (fr_repr : mg "repr" = none) (gm_BadForm : mg "BadForm" = some (.ref A.cBadForm)) (gm_MendroundsError : mg "MendroundsError" = some (.ref A.cMendroundsError)) (gm_NoCheck : mg "NoCheck" = some (.ref A.cNoCheck)) (gm_Unmet : mg "Unmet" = some (.ref A.cUnmet)) (xf_BadForm : XfC K A.cBadForm) (xf_NoCheck : XfC K A.cNoCheck) (xf_Unmet : XfC K A.cUnmet) (xn_BadForm_at : PySem.W.findIn K (.ref A.cBadForm) "at" = some none) (xn_NoCheck_name : PySem.W.findIn K (.ref A.cNoCheck) "name" = some none) (xn_Unmet_names : PySem.W.findIn K (.ref A.cUnmet) "names" = some none) (xm_BadForm : PySem.W.exmOne K (.ref A.cBadForm) (.ref A.cBadForm) = some true) (xm_MendroundsError : PySem.W.exmOne K (.ref A.cMendroundsError) (.ref A.cMendroundsError) = some true) (xm_NoCheck : PySem.W.exmOne K (.ref A.cNoCheck) (.ref A.cNoCheck) = some true) (xm_Unmet : PySem.W.exmOne K (.ref A.cUnmet) (.ref A.cUnmet) = some true) (xu_MendroundsError_BadForm : PySem.W.exmOne K (.ref A.cMendroundsError) (.ref A.cBadForm) = some false) (xu_NoCheck_BadForm : PySem.W.exmOne K (.ref A.cNoCheck) (.ref A.cBadForm) = some false) (xu_NoCheck_MendroundsError : PySem.W.exmOne K (.ref A.cNoCheck) (.ref A.cMendroundsError) = some false) (xu_Unmet_BadForm : PySem.W.exmOne K (.ref A.cUnmet) (.ref A.cBadForm) = some false) (xu_Unmet_MendroundsError : PySem.W.exmOne K (.ref A.cUnmet) (.ref A.cMendroundsError) = some false) (xu_Unmet_NoCheck : PySem.W.exmOne K (.ref A.cUnmet) (.ref A.cNoCheck) = some false) (ky_BadForm : Ky P w K mg base 1 "BadForm" A.cBadForm (sp_BadForm___init__ K A)) (ky_NoCheck : Ky P w K mg base 1 "NoCheck" A.cNoCheck (sp_NoCheck___init__ K A)) (ky_Unmet : Ky P w K mg base 1 "Unmet" A.cUnmet (sp_Unmet___init__ K A)) : FnG P w K mg base (L2N.CX P w) 3 f fd ["_law_k", "_law_one"] (sp__law_is_caught K A) := by
  refine fnG_of (CX := (L2N.CX P w)) F sc__law_is_caught (fun vs H Q E h => len__law_is_caught h) (fun cdv A' outer s H vs Q E gd hr h => ⟨t__law_is_caught K A E, ?_, pure__law_is_caught xm_BadForm xm_MendroundsError xm_NoCheck xm_Unmet xu_MendroundsError_BadForm xu_NoCheck_BadForm xu_NoCheck_MendroundsError xu_Unmet_BadForm xu_Unmet_MendroundsError xu_Unmet_NoCheck h⟩)
  exact (pss_cons (ps_tries (tb := tb__law_is_caught K A) (Wout := fun _ _ _ _ => False) rfl rfl sc__law_is_caught.nd takesN (fun W pn xe tk _ => by exact (pss_cons (ps_if (pt_cmpR op_eq (pv 0) pe_int (nomark _)) (pss_one (L2N.ps_raise rfl tk (pmk_y ky_BadForm hr (by decide) rfl (pa_cons (pv 1) pa_nil)))) pss_nil)
    (pss_cons (ps_if (pt_cmpR op_eq (pv 0) pe_int (nomark _)) (pss_one (L2N.ps_raise rfl tk (pmk_y ky_NoCheck hr (by decide) rfl (pa_cons (pv 1) pa_nil)))) pss_nil)
    (pss_one (L2N.ps_raise rfl tk (pmk_y ky_Unmet hr (by decide) rfl (pa_cons (pv 1) pa_nil))))))) (.cons (i := 2) (ts := ts__law_is_caught_0 K A) ⟨rfl, by decide, Or.inl gm_BadForm⟩ rfl rfl (fun a oe cls d pn hz hf => by exact (pss_one (ps_ret (pe_and (pe_cmpR op_eq (pv 0) pe_int (nomark _)) (pe_one (pe_cmpR op_eq (pe_callB (call_repr gd (huS hr)) rfl fr_repr bootS_repr (pa_cons (pe_xf xf_BadForm xn_BadForm_at hz.zc hf (pv 2)) pa_nil)) (pe_callB (call_repr gd (huS hr)) rfl fr_repr bootS_repr (pa_cons (pv 1) pa_nil)) (nomark _))))))) (.bare (ts := ts__law_is_caught_1 K A) ⟨rfl, by decide, Or.inl gm_MendroundsError⟩ (fun a oe cls d pn hz hf => by exact (pss_one (ps_ret pe_bl))) (.cons (i := 2) (ts := ts__law_is_caught_2 K A) ⟨rfl, by decide, Or.inl gm_NoCheck⟩ rfl rfl (fun a oe cls d pn hz hf => by exact (pss_one (ps_ret (pe_and (pe_cmpR op_eq (pv 0) pe_int (nomark _)) (pe_one (pe_cmpR op_eq (pe_callB (call_repr gd (huS hr)) rfl fr_repr bootS_repr (pa_cons (pe_xf xf_NoCheck xn_NoCheck_name hz.zc hf (pv 2)) pa_nil)) (pe_callB (call_repr gd (huS hr)) rfl fr_repr bootS_repr (pa_cons (pv 1) pa_nil)) (nomark _))))))) (.cons (i := 2) (ts := ts__law_is_caught_3 K A) ⟨rfl, by decide, Or.inl gm_Unmet⟩ rfl rfl (fun a oe cls d pn hz hf => by exact (pss_one (ps_ret (pe_and (pe_cmpR op_eq (pv 0) pe_int (nomark _)) (pe_one (pe_cmpR op_eq (pe_callB (call_repr gd (huS hr)) rfl fr_repr bootS_repr (pa_cons (pe_xf xf_Unmet xn_Unmet_names hz.zc hf (pv 2)) pa_nil)) (pe_callB (call_repr gd (huS hr)) rfl fr_repr bootS_repr (pa_cons (pv 1) pa_nil)) (nomark _))))))) .nil)))))
    (pss_one (ps_ret pe_bl)))
theorem ok_law (F : FunD K "law" "law" (defArgs s_law) (defBody s_law) (defScope s_law) [] [] f fd) (fr_len : mg "len" = none) (fr_max : mg "max" = none) (fr_min : mg "min" = none) (fr_range : mg "range" = none) (fr_repr : mg "repr" = none) (eq0_Refused : PySem.W.findIn K (.ref A.cRefused) "__eq__" = some (some (.builtin "object.__eq__"))) (kk : KK K A) (nec_Refused : NeC K A.cRefused) (xf_Refused : XfC K A.cRefused) (xn_Refused_blames : PySem.W.findIn K (.ref A.cRefused) "blames" = some none) (xn_Refused_cause : PySem.W.findIn K (.ref A.cRefused) "cause" = some none) (xn_Refused_name : PySem.W.findIn K (.ref A.cRefused) "name" = some none) (c__law_bag : Cl P w K mg base 1 "_law_bag" (sp__law_bag K A) []) (c__law_of : Cl P w K mg base 2 "_law_of" (sp__law_of K A) []) (c__law_name : Cl P w K mg base 3 "_law_name" (sp__law_name K A) []) (c__law_number : Cl P w K mg base 2 "_law_number" (sp__law_number K A) []) (c__law_word : Cl P w K mg base 3 "_law_word" (sp__law_word K A) []) (c__law_first : Cl P w K mg base 3 "_law_first" (sp__law_first K A) []) (c__law_all : Cl P w K mg base 3 "_law_all" (sp__law_all K A) []) (c__law_kinds : Cl P w K mg base 1 "_law_kinds" (sp__law_kinds K A) []) (c__law_bases : Cl P w K mg base 1 "_law_bases" (sp__law_bases K A) []) (ky_Refused : Ky P w K mg base 1 "Refused" A.cRefused (sp_Refused___init__ K A)) (cG__law_is_caught : ClG P w K mg base 3 "_law_is_caught" (sp__law_is_caught K A) []) : FnG P w K mg base CX0 4 f fd ["_law_script"] (sp_law K) := by
  refine fnG_of (CX := CX0) F sc_law (fun vs H Q E h => len_law h) (fun cdv A' outer s H vs Q E gd hr h => ⟨t_law K A E, ?_, pure_law eq0_Refused kk nec_Refused xf_Refused xn_Refused_blames xn_Refused_cause xn_Refused_name h⟩)
  exact (pss_cons (ps_for (passes_of rfl) rfl (pi_range1 rfl fr_range (pa_cons (pe_callB (call_max2 rfl) rfl fr_max boot_max (pa_cons pe_int (pa_cons (pe_callB (call_min2 rfl) rfl fr_min boot_min (pa_cons pe_int (pa_cons (pe_callB call_len rfl fr_len boot_len (pa_cons (pv 0) pa_nil)) pa_nil))) pa_nil))) pa_nil)) (pg_name (i := 1) sc_law.nd rfl (by first | exact Or.inl rfl | exact Or.inr rfl)) (pss_cons (ps_set (i := 2) sc_law.nd rfl (by first | exact Or.inl rfl | exact Or.inr rfl) (pe_cl c__law_bag hr (by decide) rfl passN (pa_cons (pv 0) (pa_cons (pv 1) pa_nil))))
    (pss_cons (ps_set (i := 3) sc_law.nd rfl (by first | exact Or.inl rfl | exact Or.inr rfl) (pe_cl c__law_of hr (by decide) rfl passN (pa_cons (pv 2) (pa_cons (pe_lst (pa_cons pe_non (pa_cons pe_bl (pa_cons (pe_un un_neg pe_int) (pa_cons pe_int (pa_cons (pe_cl c__law_word hr (by decide) rfl passN (pa_cons (pv 2) pa_nil)) (pa_cons (pe_cl c__law_number hr (by decide) rfl passN (pa_cons (pv 2) pa_nil)) (pa_cons (pe_tup pa_nil) (pa_cons (pe_lst pa_nil) (pa_cons (pe_tup (pa_cons pe_str (pa_cons pe_int pa_nil))) (pa_cons (pe_cl c__law_name hr (by decide) rfl passN (pa_cons (pv 2) (pa_cons pe_str pa_nil))) pa_nil))))))))))) pa_nil))))
    (pss_cons (ps_par (i := 8) (j := 9) rfl sc_law.nd rfl rfl (by decide) rfl rfl (pa_cons (pe_cl c__law_word hr (by decide) rfl passN (pa_cons (pv 2) pa_nil)) (pa_cons (pe_tup (pa_cons (pe_cl c__law_number hr (by decide) rfl passN (pa_cons (pv 2) pa_nil)) pa_nil)) pa_nil)) rfl)
    (pss_cons (ps_if (pt_cmpR (op_neLS (Nat.lt_of_succ_lt (hu_of hr))) (pe_lc (own := [("_law_thing", 11)]) (g := (gName 11)) (tt := tYes) rfl sc_law.nd (pi_list (pe_cl c__law_first hr (by decide) rfl passN (pa_cons (pv 3) pa_nil))) (blkOk_by (own := [("_law_thing", 11)]) (N := ["_law_script", "_law_at", "_law_bag_here", "_law_one", "_law_row", "_law_k", "_law_error", "_law_more", "_law_other", "_law_third", "_law_due", "_law_thing"]) (sc := defScope s_law) (by decide +kernel)) (fun _ _ _ _ _ => (pg_name (i := 11) sc_law.nd rfl (by first | exact Or.inl rfl | exact Or.inr rfl))) (fun _ _ _ _ _ => pts_nil) (fun _ _ _ _ _ => (pe_callB (call_repr gd (hu65 hr)) rfl fr_repr bootS_repr (pa_cons (pv 11) pa_nil)))) (pe_op op_rep (pe_lst (pa_cons (pe_callB (call_repr gd (hu65 hr)) rfl fr_repr bootS_repr (pa_cons (pv 3) pa_nil)) pa_nil)) pe_int) (nomark _)) (pss_one (ps_ret pe_bl)) pss_nil)
    (pss_cons (ps_set (i := 4) sc_law.nd rfl (by first | exact Or.inl rfl | exact Or.inr rfl) (pe_cl c__law_all hr (by decide) rfl passN (pa_cons (pv 3) pa_nil)))
    (pss_cons (ps_for (passes_of rfl) rfl (pi_range1 rfl fr_range (pa_cons pe_int pa_nil)) (pg_name (i := 5) sc_law.nd rfl (by first | exact Or.inl rfl | exact Or.inr rfl)) (pss_cons (ps_set (i := 10) sc_law.nd rfl (by first | exact Or.inl rfl | exact Or.inr rfl) (pe_ifExp (pt_cmpR op_lt (pv 5) pe_int (nomark _)) (pe_lst (pa_cons pe_bl (pa_cons pe_bl (pa_cons pe_bl (pa_cons pe_bl pa_nil))))) (pe_ifExp (pt_cmpR op_lt (pv 5) pe_int (nomark _)) (pe_lst (pa_cons pe_bl (pa_cons pe_bl (pa_cons pe_bl (pa_cons pe_bl pa_nil))))) (pe_lst (pa_cons pe_bl (pa_cons pe_bl (pa_cons pe_bl (pa_cons pe_bl pa_nil))))))))
    (pss_one (ps_if (PW.pt (pw_or (pt_cmpR (op_neLS (Nat.lt_of_succ_lt (hu_of hr))) (pe_cl c__law_kinds hr (by decide) rfl passN (pa_cons (pe_ix ix_seq (pv 4) (pv 5) (fun _ _ => rfl)) pa_nil)) (pe_lst (pa_cons (pv 5) pa_nil)) (nomark _)) (pw_or1 (pt_cmpR (op_neLS (Nat.lt_of_succ_lt (hu_of hr))) (pe_cl c__law_bases hr (by decide) rfl passN (pa_cons (pe_ix ix_seq (pv 4) (pv 5) (fun _ _ => rfl)) pa_nil)) (pv 10) (nomark _))))) (pss_one (ps_ret pe_bl)) pss_nil))))
    (pss_cons (ps_set (i := 6) sc_law.nd rfl (by first | exact Or.inl rfl | exact Or.inr rfl) (pe_mkV ky_Refused hr (by decide) rfl (pa_cons (pv 8) (pa_cons (pv 9) (pa_cons pe_non pa_nil)))))
    (pss_cons (ps_set (i := 7) sc_law.nd rfl (by first | exact Or.inl rfl | exact Or.inr rfl) (pe_mkV ky_Refused hr (by decide) rfl (pa_cons (pv 3) (pa_cons (pe_tup pa_nil) (pa_cons (pv 6) pa_nil)))))
    (pss_cons (ps_if (PW.pt (pw_or (pt_cmpR (op_neD hr.units) (pe_xo (pv 6)) (pv 8) (nomark _)) (pw_or (pt_cmpR (op_neD hr.units) (pe_xo (pv 6)) (pv 9) (nomark _)) (pw_or1 (pt_cmpR op_notN1 (pe_xo (pv 6)) pe_non (nomark _)))))) (pss_one (ps_ret pe_bl)) pss_nil)
    (pss_cons (ps_if (PW.pt (pw_or (pt_cmpR op_ne (pe_callB (call_repr gd (hu65 hr)) rfl fr_repr bootS_repr (pa_cons (pe_xo (pv 7)) pa_nil)) (pe_callB (call_repr gd (hu65 hr)) rfl fr_repr bootS_repr (pa_cons (pv 3) pa_nil)) (nomark _)) (pw_or (pt_cmpR (op_neD hr.units) (pe_xo (pv 7)) (pe_tup pa_nil) (nomark _)) (pw_or1 (pt_cmpR (op_neE (hu_of hr)) (pe_xo (pv 7)) (pv 6) (nomark _)))))) (pss_one (ps_ret pe_bl)) pss_nil)
    (pss_one (ps_for (passes_of rfl) rfl (pi_range1 rfl fr_range (pa_cons pe_int pa_nil)) (pg_name (i := 5) sc_law.nd rfl (by first | exact Or.inl rfl | exact Or.inr rfl)) (pss_one (ps_if (pt_not (pt_val (pe_clG cG__law_is_caught gd hr (by decide) rfl passN (pa_cons (pv 5) (pa_cons (pv 3) pa_nil))))) (pss_one (ps_ret pe_bl)) pss_nil)))))))))))))))
    (pss_one (ps_ret pe_bl)))
end
/-! ### the head: facts by names, the run -/
namespace Hd
def d_BadNumber___init__ : He.DefD := ⟨("BadNumber", some "__init__"), "__init__", "BadNumber.__init__", defArgs s_BadNumber___init__, defBody s_BadNumber___init__, defScope s_BadNumber___init__, [], []⟩
def d_BadLayout___init__ : He.DefD := ⟨("BadLayout", some "__init__"), "__init__", "BadLayout.__init__", defArgs s_BadLayout___init__, defBody s_BadLayout___init__, defScope s_BadLayout___init__, [], []⟩
def d_BadField___init__ : He.DefD := ⟨("BadField", some "__init__"), "__init__", "BadField.__init__", defArgs s_BadField___init__, defBody s_BadField___init__, defScope s_BadField___init__, [], []⟩
def d_BadValue___init__ : He.DefD := ⟨("BadValue", some "__init__"), "__init__", "BadValue.__init__", defArgs s_BadValue___init__, defBody s_BadValue___init__, defScope s_BadValue___init__, [], []⟩
def d_BadFilling___init__ : He.DefD := ⟨("BadFilling", some "__init__"), "__init__", "BadFilling.__init__", defArgs s_BadFilling___init__, defBody s_BadFilling___init__, defScope s_BadFilling___init__, [], []⟩
def d_BadCondition___init__ : He.DefD := ⟨("BadCondition", some "__init__"), "__init__", "BadCondition.__init__", defArgs s_BadCondition___init__, defBody s_BadCondition___init__, defScope s_BadCondition___init__, [], []⟩
def d_BadCheck___init__ : He.DefD := ⟨("BadCheck", some "__init__"), "__init__", "BadCheck.__init__", defArgs s_BadCheck___init__, defBody s_BadCheck___init__, defScope s_BadCheck___init__, [], []⟩
def d_BadForm___init__ : He.DefD := ⟨("BadForm", some "__init__"), "__init__", "BadForm.__init__", defArgs s_BadForm___init__, defBody s_BadForm___init__, defScope s_BadForm___init__, [], []⟩
def d_BadPattern___init__ : He.DefD := ⟨("BadPattern", some "__init__"), "__init__", "BadPattern.__init__", defArgs s_BadPattern___init__, defBody s_BadPattern___init__, defScope s_BadPattern___init__, [], []⟩
def d_NoFilling___init__ : He.DefD := ⟨("NoFilling", some "__init__"), "__init__", "NoFilling.__init__", defArgs s_NoFilling___init__, defBody s_NoFilling___init__, defScope s_NoFilling___init__, [], []⟩
def d_TooMany___init__ : He.DefD := ⟨("TooMany", some "__init__"), "__init__", "TooMany.__init__", defArgs s_TooMany___init__, defBody s_TooMany___init__, defScope s_TooMany___init__, [], []⟩
def d_BadTelling___init__ : He.DefD := ⟨("BadTelling", some "__init__"), "__init__", "BadTelling.__init__", defArgs s_BadTelling___init__, defBody s_BadTelling___init__, defScope s_BadTelling___init__, [], []⟩
def d_BadChange___init__ : He.DefD := ⟨("BadChange", some "__init__"), "__init__", "BadChange.__init__", defArgs s_BadChange___init__, defBody s_BadChange___init__, defScope s_BadChange___init__, [], []⟩
def d_BadBatch___init__ : He.DefD := ⟨("BadBatch", some "__init__"), "__init__", "BadBatch.__init__", defArgs s_BadBatch___init__, defBody s_BadBatch___init__, defScope s_BadBatch___init__, [], []⟩
def d_NoCheck___init__ : He.DefD := ⟨("NoCheck", some "__init__"), "__init__", "NoCheck.__init__", defArgs s_NoCheck___init__, defBody s_NoCheck___init__, defScope s_NoCheck___init__, [], []⟩
def d_NotTold___init__ : He.DefD := ⟨("NotTold", some "__init__"), "__init__", "NotTold.__init__", defArgs s_NotTold___init__, defBody s_NotTold___init__, defScope s_NotTold___init__, [], []⟩
def d_Refused___init__ : He.DefD := ⟨("Refused", some "__init__"), "__init__", "Refused.__init__", defArgs s_Refused___init__, defBody s_Refused___init__, defScope s_Refused___init__, [], []⟩
def d_Locked___init__ : He.DefD := ⟨("Locked", some "__init__"), "__init__", "Locked.__init__", defArgs s_Locked___init__, defBody s_Locked___init__, defScope s_Locked___init__, [], []⟩
def d_Unmet___init__ : He.DefD := ⟨("Unmet", some "__init__"), "__init__", "Unmet.__init__", defArgs s_Unmet___init__, defBody s_Unmet___init__, defScope s_Unmet___init__, [], []⟩
def d__law_bag : He.DefD := ⟨("_law_bag", none), "_law_bag", "_law_bag", defArgs s__law_bag, defBody s__law_bag, defScope s__law_bag, [], []⟩
def d__law_take : He.DefD := ⟨("_law_take", none), "_law_take", "_law_take", defArgs s__law_take, defBody s__law_take, defScope s__law_take, [], []⟩
def d__law_of : He.DefD := ⟨("_law_of", none), "_law_of", "_law_of", defArgs s__law_of, defBody s__law_of, defScope s__law_of, [], []⟩
def d__law_name : He.DefD := ⟨("_law_name", none), "_law_name", "_law_name", defArgs s__law_name, defBody s__law_name, defScope s__law_name, [], []⟩
def d__law_word : He.DefD := ⟨("_law_word", none), "_law_word", "_law_word", defArgs s__law_word, defBody s__law_word, defScope s__law_word, [], []⟩
def d__law_value : He.DefD := ⟨("_law_value", none), "_law_value", "_law_value", defArgs s__law_value, defBody s__law_value, defScope s__law_value, [], []⟩
def d__law_number : He.DefD := ⟨("_law_number", none), "_law_number", "_law_number", defArgs s__law_number, defBody s__law_number, defScope s__law_number, [], []⟩
def d__law_kinds : He.DefD := ⟨("_law_kinds", none), "_law_kinds", "_law_kinds", defArgs s__law_kinds, defBody s__law_kinds, defScope s__law_kinds, [], []⟩
def d__law_bases : He.DefD := ⟨("_law_bases", none), "_law_bases", "_law_bases", defArgs s__law_bases, defBody s__law_bases, defScope s__law_bases, [], []⟩
def d__law_first : He.DefD := ⟨("_law_first", none), "_law_first", "_law_first", defArgs s__law_first, defBody s__law_first, defScope s__law_first, [], []⟩
def d__law_all : He.DefD := ⟨("_law_all", none), "_law_all", "_law_all", defArgs s__law_all, defBody s__law_all, defScope s__law_all, [], []⟩
def d__law_is_caught : He.DefD := ⟨("_law_is_caught", none), "_law_is_caught", "_law_is_caught", defArgs s__law_is_caught, defBody s__law_is_caught, defScope s__law_is_caught, [], []⟩
def d_law : He.DefD := ⟨("law", none), "law", "law", defArgs s_law, defBody s_law, defScope s_law, [], []⟩
def fn : List He.DefD := [d_BadNumber___init__, d_BadLayout___init__, d_BadField___init__, d_BadValue___init__, d_BadFilling___init__, d_BadCondition___init__, d_BadCheck___init__, d_BadForm___init__, d_BadPattern___init__, d_NoFilling___init__, d_TooMany___init__, d_BadTelling___init__, d_BadChange___init__, d_BadBatch___init__, d_NoCheck___init__, d_NotTold___init__, d_Refused___init__, d_Locked___init__, d_Unmet___init__, d__law_bag, d__law_take, d__law_of, d__law_name, d__law_word, d__law_value, d__law_number, d__law_kinds, d__law_bases, d__law_first, d__law_all, d__law_is_caught, d_law]
def fa : List He.Fa := [.glo "_law_bag", .glo "_law_take", .glo "_law_of", .glo "_law_name", .glo "_law_word", .glo "_law_value", .glo "_law_number", .glo "_law_kinds", .glo "_law_bases", .glo "_law_first", .glo "_law_all", .glo "_law_is_caught", .glo "law", .glo "MendroundsError", .glo "BadNumber", .glo "BadLayout", .glo "BadField", .glo "BadValue", .glo "BadFilling", .glo "BadCondition", .glo "BadCheck", .glo "BadForm", .glo "BadPattern", .glo "NoFilling", .glo "Unlike", .glo "TooMany", .glo "BadTelling", .glo "BadChange", .glo "BadBatch", .glo "NoCheck", .glo "NotTold", .glo "Refused", .glo "Locked", .glo "Unmet", .glo "Closed", .glo "Started", .free "LookupError", .free "RuntimeError", .free "ValueError", .free "abs", .free "int", .free "isinstance", .free "len", .free "max", .free "min", .free "range", .free "repr"]
def exs : List (PySem.W.Frag → Bool) := [(fun K => kkB K (He.ga K "MendroundsError") [He.ga K "BadNumber", He.ga K "BadLayout", He.ga K "BadField", He.ga K "BadValue", He.ga K "BadFilling", He.ga K "BadCondition", He.ga K "BadCheck", He.ga K "BadForm", He.ga K "BadPattern", He.ga K "NoFilling", He.ga K "Unlike", He.ga K "TooMany", He.ga K "BadTelling", He.ga K "BadChange", He.ga K "BadBatch", He.ga K "NoCheck", He.ga K "NotTold", He.ga K "Refused", He.ga K "Locked", He.ga K "Unmet", He.ga K "Closed", He.ga K "Started"]), (fun K => decide (PySem.W.exmOne K (.ref (He.ga K "MendroundsError")) (.ref (He.ga K "MendroundsError")) = some true)), (fun K => decide (PySem.W.exmOne K (.ref (He.ga K "MendroundsError")) (.ref (He.ga K "BadForm")) = some false)), (fun K => xoB K (He.ga K "BadNumber")), (fun K => inoB K (He.ga K "BadNumber")), (fun K => noB K (He.ga K "BadNumber") "thing"), (fun K => xfB K (He.ga K "BadNumber")), (fun K => xoB K (He.ga K "BadLayout")), (fun K => inoB K (He.ga K "BadLayout")), (fun K => noB K (He.ga K "BadLayout") "at"), (fun K => xfB K (He.ga K "BadLayout")), (fun K => xoB K (He.ga K "BadField")), (fun K => inoB K (He.ga K "BadField")), (fun K => noB K (He.ga K "BadField") "name"), (fun K => xfB K (He.ga K "BadField")), (fun K => xoB K (He.ga K "BadValue")), (fun K => inoB K (He.ga K "BadValue")), (fun K => noB K (He.ga K "BadValue") "name"), (fun K => xfB K (He.ga K "BadValue")), (fun K => xoB K (He.ga K "BadFilling")), (fun K => inoB K (He.ga K "BadFilling")), (fun K => noB K (He.ga K "BadFilling") "name"), (fun K => xfB K (He.ga K "BadFilling")), (fun K => xoB K (He.ga K "BadCondition")), (fun K => inoB K (He.ga K "BadCondition")), (fun K => noB K (He.ga K "BadCondition") "at"), (fun K => xfB K (He.ga K "BadCondition")), (fun K => xoB K (He.ga K "BadCheck")), (fun K => inoB K (He.ga K "BadCheck")), (fun K => noB K (He.ga K "BadCheck") "what"), (fun K => xfB K (He.ga K "BadCheck")), (fun K => xoB K (He.ga K "BadForm")), (fun K => inoB K (He.ga K "BadForm")), (fun K => noB K (He.ga K "BadForm") "at"), (fun K => xfB K (He.ga K "BadForm")), (fun K => decide (PySem.W.exmOne K (.ref (He.ga K "BadForm")) (.ref (He.ga K "BadForm")) = some true)), (fun K => xoB K (He.ga K "BadPattern")), (fun K => inoB K (He.ga K "BadPattern")), (fun K => noB K (He.ga K "BadPattern") "pattern"), (fun K => xfB K (He.ga K "BadPattern")), (fun K => xoB K (He.ga K "NoFilling")), (fun K => inoB K (He.ga K "NoFilling")), (fun K => noB K (He.ga K "NoFilling") "pattern"), (fun K => xfB K (He.ga K "NoFilling")), (fun K => x0B K (He.ga K "Unlike")), (fun K => xoB K (He.ga K "TooMany")), (fun K => inoB K (He.ga K "TooMany")), (fun K => noB K (He.ga K "TooMany") "what"), (fun K => xfB K (He.ga K "TooMany")), (fun K => xoB K (He.ga K "BadTelling")), (fun K => inoB K (He.ga K "BadTelling")), (fun K => noB K (He.ga K "BadTelling") "telling"), (fun K => xfB K (He.ga K "BadTelling")), (fun K => xoB K (He.ga K "BadChange")), (fun K => inoB K (He.ga K "BadChange")), (fun K => noB K (He.ga K "BadChange") "at"), (fun K => xfB K (He.ga K "BadChange")), (fun K => xoB K (He.ga K "BadBatch")), (fun K => inoB K (He.ga K "BadBatch")), (fun K => noB K (He.ga K "BadBatch") "at"), (fun K => xfB K (He.ga K "BadBatch")), (fun K => xoB K (He.ga K "NoCheck")), (fun K => inoB K (He.ga K "NoCheck")), (fun K => noB K (He.ga K "NoCheck") "name"), (fun K => xfB K (He.ga K "NoCheck")), (fun K => decide (PySem.W.exmOne K (.ref (He.ga K "NoCheck")) (.ref (He.ga K "NoCheck")) = some true)), (fun K => decide (PySem.W.exmOne K (.ref (He.ga K "NoCheck")) (.ref (He.ga K "BadForm")) = some false)), (fun K => decide (PySem.W.exmOne K (.ref (He.ga K "NoCheck")) (.ref (He.ga K "MendroundsError")) = some false)), (fun K => xoB K (He.ga K "NotTold")), (fun K => inoB K (He.ga K "NotTold")), (fun K => noB K (He.ga K "NotTold") "name"), (fun K => xfB K (He.ga K "NotTold")), (fun K => xoB K (He.ga K "Refused")), (fun K => inoB K (He.ga K "Refused")), (fun K => noB K (He.ga K "Refused") "name"), (fun K => noB K (He.ga K "Refused") "blames"), (fun K => noB K (He.ga K "Refused") "cause"), (fun K => He.eqO (PySem.W.findIn K (.ref (He.ga K "Refused")) "__eq__") (some (some (.builtin "object.__eq__")))), (fun K => necB K (He.ga K "Refused")), (fun K => xfB K (He.ga K "Refused")), (fun K => xoB K (He.ga K "Locked")), (fun K => inoB K (He.ga K "Locked")), (fun K => noB K (He.ga K "Locked") "name"), (fun K => xfB K (He.ga K "Locked")), (fun K => xoB K (He.ga K "Unmet")), (fun K => inoB K (He.ga K "Unmet")), (fun K => noB K (He.ga K "Unmet") "names"), (fun K => xfB K (He.ga K "Unmet")), (fun K => decide (PySem.W.exmOne K (.ref (He.ga K "Unmet")) (.ref (He.ga K "Unmet")) = some true)), (fun K => decide (PySem.W.exmOne K (.ref (He.ga K "Unmet")) (.ref (He.ga K "BadForm")) = some false)), (fun K => decide (PySem.W.exmOne K (.ref (He.ga K "Unmet")) (.ref (He.ga K "MendroundsError")) = some false)), (fun K => decide (PySem.W.exmOne K (.ref (He.ga K "Unmet")) (.ref (He.ga K "NoCheck")) = some false)), (fun K => x0B K (He.ga K "Closed")), (fun K => x0B K (He.ga K "Started"))]
def ex (K : PySem.W.Frag) : Bool := exs.all fun b => b K
def ads (K : PySem.W.Frag) : Ads := { cMendroundsError := He.ga K "MendroundsError", cBadNumber := He.ga K "BadNumber", cBadLayout := He.ga K "BadLayout", cBadField := He.ga K "BadField", cBadValue := He.ga K "BadValue", cBadFilling := He.ga K "BadFilling", cBadCondition := He.ga K "BadCondition", cBadCheck := He.ga K "BadCheck", cBadForm := He.ga K "BadForm", cBadPattern := He.ga K "BadPattern", cNoFilling := He.ga K "NoFilling", cUnlike := He.ga K "Unlike", cTooMany := He.ga K "TooMany", cBadTelling := He.ga K "BadTelling", cBadChange := He.ga K "BadChange", cBadBatch := He.ga K "BadBatch", cNoCheck := He.ga K "NoCheck", cNotTold := He.ga K "NotTold", cRefused := He.ga K "Refused", cLocked := He.ga K "Locked", cUnmet := He.ga K "Unmet", cClosed := He.ga K "Closed", cStarted := He.ga K "Started" }
abbrev R : PySem.W.OpenRow := PySem.W.OpenLaw.row PySem.Challenge.rw_mendrounds_k23_errors_made
abbrev hk : PySem.W.Hook := hookM 7 fa fn ex
def ob (s : PySem.W.SharedT) : He.AlD × Bool := obsM 7 fa fn ex (HandSHeadRun.getT s)
theorem ob_eq (s : PySem.W.SharedT) : ob s = hk.obs s.abs := obsM_eq (HandSHeadRun.getT_eq s)
def names0 : List PySem.Str := ["MendroundsError", "BadNumber", "BadLayout", "BadField", "BadValue", "BadFilling", "BadCondition", "BadCheck", "BadForm", "BadPattern", "NoFilling", "Unlike", "TooMany", "BadTelling", "BadChange"]
def names1 : List PySem.Str := ["BadBatch", "NoCheck", "NotTold", "Refused", "Locked", "Unmet", "Closed", "Started", "_law_bag", "_law_take", "_law_of", "_law_name", "_law_word", "_law_value", "_law_number"]
def names2 : List PySem.Str := ["_law_kinds", "_law_bases", "_law_first", "_law_all", "_law_is_caught"]
def names : List PySem.Str := names0 ++ names1 ++ names2
theorem run (w : World) : HandSHeadRun.RunEq R (PySem.W.view R.prog [37]) hk ob 20000 names w := by
  intro os
  kernel_rfl
theorem facts {P : Program} {w : World} {K : PySem.W.Frag} {h : Heap} {mg : Str → Option Value} {f : Addr} (X : K.In h) (G : h.Ns mainGlobals mg) (hfa : mg ("law" : Str) = some (.ref f)) (c : He.SaysD fa fn K) (cx : ex K = true) :
    ∃ fd : FuncData, (∀ (s : Shared) (v : Value), BindsTo s fd ⟨[v], []⟩ [("_law_script", v)]) ∧ ∀ base : Heap, K.In base → base.Ns mainGlobals mg → FnG P w K mg base CX0 4 f fd ["_law_script"] (sp_law K) := by
  have ce : ∀ (i : Nat) (b : PySem.W.Frag → Bool), exs[i]? = some b → b K = true := fun i b e => List.all_eq_true.mp cx b (List.mem_of_getElem? e)
  have e_kk : (kkB K (He.ga K "MendroundsError") [He.ga K "BadNumber", He.ga K "BadLayout", He.ga K "BadField", He.ga K "BadValue", He.ga K "BadFilling", He.ga K "BadCondition", He.ga K "BadCheck", He.ga K "BadForm", He.ga K "BadPattern", He.ga K "NoFilling", He.ga K "Unlike", He.ga K "TooMany", He.ga K "BadTelling", He.ga K "BadChange", He.ga K "BadBatch", He.ga K "NoCheck", He.ga K "NotTold", He.ga K "Refused", He.ga K "Locked", He.ga K "Unmet", He.ga K "Closed", He.ga K "Started"]) = true := ce 0 _ rfl
  have e_xm_MendroundsError : (decide (PySem.W.exmOne K (.ref (He.ga K "MendroundsError")) (.ref (He.ga K "MendroundsError")) = some true)) = true := ce 1 _ rfl
  have e_xu_MendroundsError_BadForm : (decide (PySem.W.exmOne K (.ref (He.ga K "MendroundsError")) (.ref (He.ga K "BadForm")) = some false)) = true := ce 2 _ rfl
  have e_xo_BadNumber : (xoB K (He.ga K "BadNumber")) = true := ce 3 _ rfl
  have e_ino_BadNumber : (inoB K (He.ga K "BadNumber")) = true := ce 4 _ rfl
  have e_no_BadNumber_thing : (noB K (He.ga K "BadNumber") "thing") = true := ce 5 _ rfl
  have e_xf_BadNumber : (xfB K (He.ga K "BadNumber")) = true := ce 6 _ rfl
  have e_xo_BadLayout : (xoB K (He.ga K "BadLayout")) = true := ce 7 _ rfl
  have e_ino_BadLayout : (inoB K (He.ga K "BadLayout")) = true := ce 8 _ rfl
  have e_no_BadLayout_at : (noB K (He.ga K "BadLayout") "at") = true := ce 9 _ rfl
  have e_xf_BadLayout : (xfB K (He.ga K "BadLayout")) = true := ce 10 _ rfl
  have e_xo_BadField : (xoB K (He.ga K "BadField")) = true := ce 11 _ rfl
  have e_ino_BadField : (inoB K (He.ga K "BadField")) = true := ce 12 _ rfl
  have e_no_BadField_name : (noB K (He.ga K "BadField") "name") = true := ce 13 _ rfl
  have e_xf_BadField : (xfB K (He.ga K "BadField")) = true := ce 14 _ rfl
  have e_xo_BadValue : (xoB K (He.ga K "BadValue")) = true := ce 15 _ rfl
  have e_ino_BadValue : (inoB K (He.ga K "BadValue")) = true := ce 16 _ rfl
  have e_no_BadValue_name : (noB K (He.ga K "BadValue") "name") = true := ce 17 _ rfl
  have e_xf_BadValue : (xfB K (He.ga K "BadValue")) = true := ce 18 _ rfl
  have e_xo_BadFilling : (xoB K (He.ga K "BadFilling")) = true := ce 19 _ rfl
  have e_ino_BadFilling : (inoB K (He.ga K "BadFilling")) = true := ce 20 _ rfl
  have e_no_BadFilling_name : (noB K (He.ga K "BadFilling") "name") = true := ce 21 _ rfl
  have e_xf_BadFilling : (xfB K (He.ga K "BadFilling")) = true := ce 22 _ rfl
  have e_xo_BadCondition : (xoB K (He.ga K "BadCondition")) = true := ce 23 _ rfl
  have e_ino_BadCondition : (inoB K (He.ga K "BadCondition")) = true := ce 24 _ rfl
  have e_no_BadCondition_at : (noB K (He.ga K "BadCondition") "at") = true := ce 25 _ rfl
  have e_xf_BadCondition : (xfB K (He.ga K "BadCondition")) = true := ce 26 _ rfl
  have e_xo_BadCheck : (xoB K (He.ga K "BadCheck")) = true := ce 27 _ rfl
  have e_ino_BadCheck : (inoB K (He.ga K "BadCheck")) = true := ce 28 _ rfl
  have e_no_BadCheck_what : (noB K (He.ga K "BadCheck") "what") = true := ce 29 _ rfl
  have e_xf_BadCheck : (xfB K (He.ga K "BadCheck")) = true := ce 30 _ rfl
  have e_xo_BadForm : (xoB K (He.ga K "BadForm")) = true := ce 31 _ rfl
  have e_ino_BadForm : (inoB K (He.ga K "BadForm")) = true := ce 32 _ rfl
  have e_no_BadForm_at : (noB K (He.ga K "BadForm") "at") = true := ce 33 _ rfl
  have e_xf_BadForm : (xfB K (He.ga K "BadForm")) = true := ce 34 _ rfl
  have e_xm_BadForm : (decide (PySem.W.exmOne K (.ref (He.ga K "BadForm")) (.ref (He.ga K "BadForm")) = some true)) = true := ce 35 _ rfl
  have e_xo_BadPattern : (xoB K (He.ga K "BadPattern")) = true := ce 36 _ rfl
  have e_ino_BadPattern : (inoB K (He.ga K "BadPattern")) = true := ce 37 _ rfl
  have e_no_BadPattern_pattern : (noB K (He.ga K "BadPattern") "pattern") = true := ce 38 _ rfl
  have e_xf_BadPattern : (xfB K (He.ga K "BadPattern")) = true := ce 39 _ rfl
  have e_xo_NoFilling : (xoB K (He.ga K "NoFilling")) = true := ce 40 _ rfl
  have e_ino_NoFilling : (inoB K (He.ga K "NoFilling")) = true := ce 41 _ rfl
  have e_no_NoFilling_pattern : (noB K (He.ga K "NoFilling") "pattern") = true := ce 42 _ rfl
  have e_xf_NoFilling : (xfB K (He.ga K "NoFilling")) = true := ce 43 _ rfl
  have e_x0_Unlike : (x0B K (He.ga K "Unlike")) = true := ce 44 _ rfl
  have e_xo_TooMany : (xoB K (He.ga K "TooMany")) = true := ce 45 _ rfl
  have e_ino_TooMany : (inoB K (He.ga K "TooMany")) = true := ce 46 _ rfl
  have e_no_TooMany_what : (noB K (He.ga K "TooMany") "what") = true := ce 47 _ rfl
  have e_xf_TooMany : (xfB K (He.ga K "TooMany")) = true := ce 48 _ rfl
  have e_xo_BadTelling : (xoB K (He.ga K "BadTelling")) = true := ce 49 _ rfl
  have e_ino_BadTelling : (inoB K (He.ga K "BadTelling")) = true := ce 50 _ rfl
  have e_no_BadTelling_telling : (noB K (He.ga K "BadTelling") "telling") = true := ce 51 _ rfl
  have e_xf_BadTelling : (xfB K (He.ga K "BadTelling")) = true := ce 52 _ rfl
  have e_xo_BadChange : (xoB K (He.ga K "BadChange")) = true := ce 53 _ rfl
  have e_ino_BadChange : (inoB K (He.ga K "BadChange")) = true := ce 54 _ rfl
  have e_no_BadChange_at : (noB K (He.ga K "BadChange") "at") = true := ce 55 _ rfl
  have e_xf_BadChange : (xfB K (He.ga K "BadChange")) = true := ce 56 _ rfl
  have e_xo_BadBatch : (xoB K (He.ga K "BadBatch")) = true := ce 57 _ rfl
  have e_ino_BadBatch : (inoB K (He.ga K "BadBatch")) = true := ce 58 _ rfl
  have e_no_BadBatch_at : (noB K (He.ga K "BadBatch") "at") = true := ce 59 _ rfl
  have e_xf_BadBatch : (xfB K (He.ga K "BadBatch")) = true := ce 60 _ rfl
  have e_xo_NoCheck : (xoB K (He.ga K "NoCheck")) = true := ce 61 _ rfl
  have e_ino_NoCheck : (inoB K (He.ga K "NoCheck")) = true := ce 62 _ rfl
  have e_no_NoCheck_name : (noB K (He.ga K "NoCheck") "name") = true := ce 63 _ rfl
  have e_xf_NoCheck : (xfB K (He.ga K "NoCheck")) = true := ce 64 _ rfl
  have e_xm_NoCheck : (decide (PySem.W.exmOne K (.ref (He.ga K "NoCheck")) (.ref (He.ga K "NoCheck")) = some true)) = true := ce 65 _ rfl
  have e_xu_NoCheck_BadForm : (decide (PySem.W.exmOne K (.ref (He.ga K "NoCheck")) (.ref (He.ga K "BadForm")) = some false)) = true := ce 66 _ rfl
  have e_xu_NoCheck_MendroundsError : (decide (PySem.W.exmOne K (.ref (He.ga K "NoCheck")) (.ref (He.ga K "MendroundsError")) = some false)) = true := ce 67 _ rfl
  have e_xo_NotTold : (xoB K (He.ga K "NotTold")) = true := ce 68 _ rfl
  have e_ino_NotTold : (inoB K (He.ga K "NotTold")) = true := ce 69 _ rfl
  have e_no_NotTold_name : (noB K (He.ga K "NotTold") "name") = true := ce 70 _ rfl
  have e_xf_NotTold : (xfB K (He.ga K "NotTold")) = true := ce 71 _ rfl
  have e_xo_Refused : (xoB K (He.ga K "Refused")) = true := ce 72 _ rfl
  have e_ino_Refused : (inoB K (He.ga K "Refused")) = true := ce 73 _ rfl
  have e_no_Refused_name : (noB K (He.ga K "Refused") "name") = true := ce 74 _ rfl
  have e_no_Refused_blames : (noB K (He.ga K "Refused") "blames") = true := ce 75 _ rfl
  have e_no_Refused_cause : (noB K (He.ga K "Refused") "cause") = true := ce 76 _ rfl
  have e_eq0_Refused : (He.eqO (PySem.W.findIn K (.ref (He.ga K "Refused")) "__eq__") (some (some (.builtin "object.__eq__")))) = true := ce 77 _ rfl
  have e_nec_Refused : (necB K (He.ga K "Refused")) = true := ce 78 _ rfl
  have e_xf_Refused : (xfB K (He.ga K "Refused")) = true := ce 79 _ rfl
  have e_xo_Locked : (xoB K (He.ga K "Locked")) = true := ce 80 _ rfl
  have e_ino_Locked : (inoB K (He.ga K "Locked")) = true := ce 81 _ rfl
  have e_no_Locked_name : (noB K (He.ga K "Locked") "name") = true := ce 82 _ rfl
  have e_xf_Locked : (xfB K (He.ga K "Locked")) = true := ce 83 _ rfl
  have e_xo_Unmet : (xoB K (He.ga K "Unmet")) = true := ce 84 _ rfl
  have e_ino_Unmet : (inoB K (He.ga K "Unmet")) = true := ce 85 _ rfl
  have e_no_Unmet_names : (noB K (He.ga K "Unmet") "names") = true := ce 86 _ rfl
  have e_xf_Unmet : (xfB K (He.ga K "Unmet")) = true := ce 87 _ rfl
  have e_xm_Unmet : (decide (PySem.W.exmOne K (.ref (He.ga K "Unmet")) (.ref (He.ga K "Unmet")) = some true)) = true := ce 88 _ rfl
  have e_xu_Unmet_BadForm : (decide (PySem.W.exmOne K (.ref (He.ga K "Unmet")) (.ref (He.ga K "BadForm")) = some false)) = true := ce 89 _ rfl
  have e_xu_Unmet_MendroundsError : (decide (PySem.W.exmOne K (.ref (He.ga K "Unmet")) (.ref (He.ga K "MendroundsError")) = some false)) = true := ce 90 _ rfl
  have e_xu_Unmet_NoCheck : (decide (PySem.W.exmOne K (.ref (He.ga K "Unmet")) (.ref (He.ga K "NoCheck")) = some false)) = true := ce 91 _ rfl
  have e_x0_Closed : (x0B K (He.ga K "Closed")) = true := ce 92 _ rfl
  have e_x0_Started : (x0B K (He.ga K "Started")) = true := ce 93 _ rfl
  obtain ⟨fd_BadNumber___init__, F_BadNumber___init__⟩ := c.def_ 0 (d := d_BadNumber___init__) rfl
  obtain ⟨fd_BadLayout___init__, F_BadLayout___init__⟩ := c.def_ 1 (d := d_BadLayout___init__) rfl
  obtain ⟨fd_BadField___init__, F_BadField___init__⟩ := c.def_ 2 (d := d_BadField___init__) rfl
  obtain ⟨fd_BadValue___init__, F_BadValue___init__⟩ := c.def_ 3 (d := d_BadValue___init__) rfl
  obtain ⟨fd_BadFilling___init__, F_BadFilling___init__⟩ := c.def_ 4 (d := d_BadFilling___init__) rfl
  obtain ⟨fd_BadCondition___init__, F_BadCondition___init__⟩ := c.def_ 5 (d := d_BadCondition___init__) rfl
  obtain ⟨fd_BadCheck___init__, F_BadCheck___init__⟩ := c.def_ 6 (d := d_BadCheck___init__) rfl
  obtain ⟨fd_BadForm___init__, F_BadForm___init__⟩ := c.def_ 7 (d := d_BadForm___init__) rfl
  obtain ⟨fd_BadPattern___init__, F_BadPattern___init__⟩ := c.def_ 8 (d := d_BadPattern___init__) rfl
  obtain ⟨fd_NoFilling___init__, F_NoFilling___init__⟩ := c.def_ 9 (d := d_NoFilling___init__) rfl
  obtain ⟨fd_TooMany___init__, F_TooMany___init__⟩ := c.def_ 10 (d := d_TooMany___init__) rfl
  obtain ⟨fd_BadTelling___init__, F_BadTelling___init__⟩ := c.def_ 11 (d := d_BadTelling___init__) rfl
  obtain ⟨fd_BadChange___init__, F_BadChange___init__⟩ := c.def_ 12 (d := d_BadChange___init__) rfl
  obtain ⟨fd_BadBatch___init__, F_BadBatch___init__⟩ := c.def_ 13 (d := d_BadBatch___init__) rfl
  obtain ⟨fd_NoCheck___init__, F_NoCheck___init__⟩ := c.def_ 14 (d := d_NoCheck___init__) rfl
  obtain ⟨fd_NotTold___init__, F_NotTold___init__⟩ := c.def_ 15 (d := d_NotTold___init__) rfl
  obtain ⟨fd_Refused___init__, F_Refused___init__⟩ := c.def_ 16 (d := d_Refused___init__) rfl
  obtain ⟨fd_Locked___init__, F_Locked___init__⟩ := c.def_ 17 (d := d_Locked___init__) rfl
  obtain ⟨fd_Unmet___init__, F_Unmet___init__⟩ := c.def_ 18 (d := d_Unmet___init__) rfl
  obtain ⟨fd__law_bag, F__law_bag⟩ := c.def_ 19 (d := d__law_bag) rfl
  obtain ⟨fd__law_take, F__law_take⟩ := c.def_ 20 (d := d__law_take) rfl
  obtain ⟨fd__law_of, F__law_of⟩ := c.def_ 21 (d := d__law_of) rfl
  obtain ⟨fd__law_name, F__law_name⟩ := c.def_ 22 (d := d__law_name) rfl
  obtain ⟨fd__law_word, F__law_word⟩ := c.def_ 23 (d := d__law_word) rfl
  obtain ⟨fd__law_value, F__law_value⟩ := c.def_ 24 (d := d__law_value) rfl
  obtain ⟨fd__law_number, F__law_number⟩ := c.def_ 25 (d := d__law_number) rfl
  obtain ⟨fd__law_kinds, F__law_kinds⟩ := c.def_ 26 (d := d__law_kinds) rfl
  obtain ⟨fd__law_bases, F__law_bases⟩ := c.def_ 27 (d := d__law_bases) rfl
  obtain ⟨fd__law_first, F__law_first⟩ := c.def_ 28 (d := d__law_first) rfl
  obtain ⟨fd__law_all, F__law_all⟩ := c.def_ 29 (d := d__law_all) rfl
  obtain ⟨fd__law_is_caught, F__law_is_caught⟩ := c.def_ 30 (d := d__law_is_caught) rfl
  obtain ⟨fd_law, F_law⟩ := c.def_ 31 (d := d_law) rfl
  have e := hfa.symm.trans (He.glo_ok X G (c.fact 12 (f := .glo "law") rfl))
  cases e
  have eq0_Refused := He.eqO_ok e_eq0_Refused
  have fr_LookupError := He.free_ok X G (c.fact 36 (f := .free "LookupError") rfl)
  have fr_RuntimeError := He.free_ok X G (c.fact 37 (f := .free "RuntimeError") rfl)
  have fr_ValueError := He.free_ok X G (c.fact 38 (f := .free "ValueError") rfl)
  have fr_abs := He.free_ok X G (c.fact 39 (f := .free "abs") rfl)
  have fr_int := He.free_ok X G (c.fact 40 (f := .free "int") rfl)
  have fr_isinstance := He.free_ok X G (c.fact 41 (f := .free "isinstance") rfl)
  have fr_len := He.free_ok X G (c.fact 42 (f := .free "len") rfl)
  have fr_max := He.free_ok X G (c.fact 43 (f := .free "max") rfl)
  have fr_min := He.free_ok X G (c.fact 44 (f := .free "min") rfl)
  have fr_range := He.free_ok X G (c.fact 45 (f := .free "range") rfl)
  have fr_repr := He.free_ok X G (c.fact 46 (f := .free "repr") rfl)
  have gm_BadBatch : mg "BadBatch" = some (.ref (ads K).cBadBatch) := He.glo_ok X G (c.fact 28 (f := .glo "BadBatch") rfl)
  have gm_BadChange : mg "BadChange" = some (.ref (ads K).cBadChange) := He.glo_ok X G (c.fact 27 (f := .glo "BadChange") rfl)
  have gm_BadCheck : mg "BadCheck" = some (.ref (ads K).cBadCheck) := He.glo_ok X G (c.fact 20 (f := .glo "BadCheck") rfl)
  have gm_BadCondition : mg "BadCondition" = some (.ref (ads K).cBadCondition) := He.glo_ok X G (c.fact 19 (f := .glo "BadCondition") rfl)
  have gm_BadField : mg "BadField" = some (.ref (ads K).cBadField) := He.glo_ok X G (c.fact 16 (f := .glo "BadField") rfl)
  have gm_BadFilling : mg "BadFilling" = some (.ref (ads K).cBadFilling) := He.glo_ok X G (c.fact 18 (f := .glo "BadFilling") rfl)
  have gm_BadForm : mg "BadForm" = some (.ref (ads K).cBadForm) := He.glo_ok X G (c.fact 21 (f := .glo "BadForm") rfl)
  have gm_BadLayout : mg "BadLayout" = some (.ref (ads K).cBadLayout) := He.glo_ok X G (c.fact 15 (f := .glo "BadLayout") rfl)
  have gm_BadNumber : mg "BadNumber" = some (.ref (ads K).cBadNumber) := He.glo_ok X G (c.fact 14 (f := .glo "BadNumber") rfl)
  have gm_BadPattern : mg "BadPattern" = some (.ref (ads K).cBadPattern) := He.glo_ok X G (c.fact 22 (f := .glo "BadPattern") rfl)
  have gm_BadTelling : mg "BadTelling" = some (.ref (ads K).cBadTelling) := He.glo_ok X G (c.fact 26 (f := .glo "BadTelling") rfl)
  have gm_BadValue : mg "BadValue" = some (.ref (ads K).cBadValue) := He.glo_ok X G (c.fact 17 (f := .glo "BadValue") rfl)
  have gm_Closed : mg "Closed" = some (.ref (ads K).cClosed) := He.glo_ok X G (c.fact 34 (f := .glo "Closed") rfl)
  have gm_Locked : mg "Locked" = some (.ref (ads K).cLocked) := He.glo_ok X G (c.fact 32 (f := .glo "Locked") rfl)
  have gm_MendroundsError : mg "MendroundsError" = some (.ref (ads K).cMendroundsError) := He.glo_ok X G (c.fact 13 (f := .glo "MendroundsError") rfl)
  have gm_NoCheck : mg "NoCheck" = some (.ref (ads K).cNoCheck) := He.glo_ok X G (c.fact 29 (f := .glo "NoCheck") rfl)
  have gm_NoFilling : mg "NoFilling" = some (.ref (ads K).cNoFilling) := He.glo_ok X G (c.fact 23 (f := .glo "NoFilling") rfl)
  have gm_NotTold : mg "NotTold" = some (.ref (ads K).cNotTold) := He.glo_ok X G (c.fact 30 (f := .glo "NotTold") rfl)
  have gm_Refused : mg "Refused" = some (.ref (ads K).cRefused) := He.glo_ok X G (c.fact 31 (f := .glo "Refused") rfl)
  have gm_Started : mg "Started" = some (.ref (ads K).cStarted) := He.glo_ok X G (c.fact 35 (f := .glo "Started") rfl)
  have gm_TooMany : mg "TooMany" = some (.ref (ads K).cTooMany) := He.glo_ok X G (c.fact 25 (f := .glo "TooMany") rfl)
  have gm_Unlike : mg "Unlike" = some (.ref (ads K).cUnlike) := He.glo_ok X G (c.fact 24 (f := .glo "Unlike") rfl)
  have gm_Unmet : mg "Unmet" = some (.ref (ads K).cUnmet) := He.glo_ok X G (c.fact 33 (f := .glo "Unmet") rfl)
  have kk : KK K (ads K) := kkB_ok (A := ads K) e_kk
  have nec_Refused := necB_ok e_nec_Refused
  have x0_Closed := x0B_ok e_x0_Closed
  have x0_Started := x0B_ok e_x0_Started
  have x0_Unlike := x0B_ok e_x0_Unlike
  have xf_BadBatch := xfB_ok e_xf_BadBatch
  have xf_BadChange := xfB_ok e_xf_BadChange
  have xf_BadCheck := xfB_ok e_xf_BadCheck
  have xf_BadCondition := xfB_ok e_xf_BadCondition
  have xf_BadField := xfB_ok e_xf_BadField
  have xf_BadFilling := xfB_ok e_xf_BadFilling
  have xf_BadForm := xfB_ok e_xf_BadForm
  have xf_BadLayout := xfB_ok e_xf_BadLayout
  have xf_BadNumber := xfB_ok e_xf_BadNumber
  have xf_BadPattern := xfB_ok e_xf_BadPattern
  have xf_BadTelling := xfB_ok e_xf_BadTelling
  have xf_BadValue := xfB_ok e_xf_BadValue
  have xf_Locked := xfB_ok e_xf_Locked
  have xf_NoCheck := xfB_ok e_xf_NoCheck
  have xf_NoFilling := xfB_ok e_xf_NoFilling
  have xf_NotTold := xfB_ok e_xf_NotTold
  have xf_Refused := xfB_ok e_xf_Refused
  have xf_TooMany := xfB_ok e_xf_TooMany
  have xf_Unmet := xfB_ok e_xf_Unmet
  have xm_BadForm := of_decide_eq_true e_xm_BadForm
  have xm_MendroundsError := of_decide_eq_true e_xm_MendroundsError
  have xm_NoCheck := of_decide_eq_true e_xm_NoCheck
  have xm_Unmet := of_decide_eq_true e_xm_Unmet
  have xn_BadBatch_at := noB_ok e_no_BadBatch_at
  have xn_BadChange_at := noB_ok e_no_BadChange_at
  have xn_BadCheck_what := noB_ok e_no_BadCheck_what
  have xn_BadCondition_at := noB_ok e_no_BadCondition_at
  have xn_BadField_name := noB_ok e_no_BadField_name
  have xn_BadFilling_name := noB_ok e_no_BadFilling_name
  have xn_BadForm_at := noB_ok e_no_BadForm_at
  have xn_BadLayout_at := noB_ok e_no_BadLayout_at
  have xn_BadNumber_thing := noB_ok e_no_BadNumber_thing
  have xn_BadPattern_pattern := noB_ok e_no_BadPattern_pattern
  have xn_BadTelling_telling := noB_ok e_no_BadTelling_telling
  have xn_BadValue_name := noB_ok e_no_BadValue_name
  have xn_Locked_name := noB_ok e_no_Locked_name
  have xn_NoCheck_name := noB_ok e_no_NoCheck_name
  have xn_NoFilling_pattern := noB_ok e_no_NoFilling_pattern
  have xn_NotTold_name := noB_ok e_no_NotTold_name
  have xn_Refused_blames := noB_ok e_no_Refused_blames
  have xn_Refused_cause := noB_ok e_no_Refused_cause
  have xn_Refused_name := noB_ok e_no_Refused_name
  have xn_TooMany_what := noB_ok e_no_TooMany_what
  have xn_Unmet_names := noB_ok e_no_Unmet_names
  have xoc_Refused := xoB_ok e_xo_Refused
  have xu_MendroundsError_BadForm := of_decide_eq_true e_xu_MendroundsError_BadForm
  have xu_NoCheck_BadForm := of_decide_eq_true e_xu_NoCheck_BadForm
  have xu_NoCheck_MendroundsError := of_decide_eq_true e_xu_NoCheck_MendroundsError
  have xu_Unmet_BadForm := of_decide_eq_true e_xu_Unmet_BadForm
  have xu_Unmet_MendroundsError := of_decide_eq_true e_xu_Unmet_MendroundsError
  have xu_Unmet_NoCheck := of_decide_eq_true e_xu_Unmet_NoCheck
  have bL := FunD.bindsA (ps := ["_law_script"]) F_law fun _ _ _ _ _ _ us hl => match us, hl with | [_], _ => rfl
  refine ⟨fd_law, fun s v => bL s [v] rfl, fun base _ _ => ?_⟩
  have G_BadNumber___init__ := ok_BadNumber___init__ (P := P) (w := w) (mg := mg) (base := base) (A := ads K) F_BadNumber___init__ (xoB_ok e_xo_BadNumber) (noB_ok e_no_BadNumber_thing)
  have b_BadNumber___init__ : Binds K fd_BadNumber___init__ ["self", "thing"] [] := F_BadNumber___init__.bindsN fun _ _ _ _ _ _ us hl => match us, hl with | [_, _], _ => rfl
  have ky_BadNumber : Ky P w K mg base 1 "BadNumber" (ads K).cBadNumber (sp_BadNumber___init__ K (ads K)) := ⟨xoB_ok e_xo_BadNumber, _, _, _, (inoB_ok e_ino_BadNumber).1, (inoB_ok e_ino_BadNumber).2, G_BadNumber___init__, b_BadNumber___init__, He.glo_ok X G (c.fact 14 (f := .glo "BadNumber") rfl)⟩
  have G_BadLayout___init__ := ok_BadLayout___init__ (P := P) (w := w) (mg := mg) (base := base) (A := ads K) F_BadLayout___init__ (xoB_ok e_xo_BadLayout) (noB_ok e_no_BadLayout_at)
  have b_BadLayout___init__ : Binds K fd_BadLayout___init__ ["self", "at"] [] := F_BadLayout___init__.bindsN fun _ _ _ _ _ _ us hl => match us, hl with | [_, _], _ => rfl
  have ky_BadLayout : Ky P w K mg base 1 "BadLayout" (ads K).cBadLayout (sp_BadLayout___init__ K (ads K)) := ⟨xoB_ok e_xo_BadLayout, _, _, _, (inoB_ok e_ino_BadLayout).1, (inoB_ok e_ino_BadLayout).2, G_BadLayout___init__, b_BadLayout___init__, He.glo_ok X G (c.fact 15 (f := .glo "BadLayout") rfl)⟩
  have G_BadField___init__ := ok_BadField___init__ (P := P) (w := w) (mg := mg) (base := base) (A := ads K) F_BadField___init__ (xoB_ok e_xo_BadField) (noB_ok e_no_BadField_name)
  have b_BadField___init__ : Binds K fd_BadField___init__ ["self", "name"] [] := F_BadField___init__.bindsN fun _ _ _ _ _ _ us hl => match us, hl with | [_, _], _ => rfl
  have ky_BadField : Ky P w K mg base 1 "BadField" (ads K).cBadField (sp_BadField___init__ K (ads K)) := ⟨xoB_ok e_xo_BadField, _, _, _, (inoB_ok e_ino_BadField).1, (inoB_ok e_ino_BadField).2, G_BadField___init__, b_BadField___init__, He.glo_ok X G (c.fact 16 (f := .glo "BadField") rfl)⟩
  have G_BadValue___init__ := ok_BadValue___init__ (P := P) (w := w) (mg := mg) (base := base) (A := ads K) F_BadValue___init__ (xoB_ok e_xo_BadValue) (noB_ok e_no_BadValue_name)
  have b_BadValue___init__ : Binds K fd_BadValue___init__ ["self", "name"] [] := F_BadValue___init__.bindsN fun _ _ _ _ _ _ us hl => match us, hl with | [_, _], _ => rfl
  have ky_BadValue : Ky P w K mg base 1 "BadValue" (ads K).cBadValue (sp_BadValue___init__ K (ads K)) := ⟨xoB_ok e_xo_BadValue, _, _, _, (inoB_ok e_ino_BadValue).1, (inoB_ok e_ino_BadValue).2, G_BadValue___init__, b_BadValue___init__, He.glo_ok X G (c.fact 17 (f := .glo "BadValue") rfl)⟩
  have G_BadFilling___init__ := ok_BadFilling___init__ (P := P) (w := w) (mg := mg) (base := base) (A := ads K) F_BadFilling___init__ (xoB_ok e_xo_BadFilling) (noB_ok e_no_BadFilling_name)
  have b_BadFilling___init__ : Binds K fd_BadFilling___init__ ["self", "name"] [] := F_BadFilling___init__.bindsN fun _ _ _ _ _ _ us hl => match us, hl with | [_, _], _ => rfl
  have ky_BadFilling : Ky P w K mg base 1 "BadFilling" (ads K).cBadFilling (sp_BadFilling___init__ K (ads K)) := ⟨xoB_ok e_xo_BadFilling, _, _, _, (inoB_ok e_ino_BadFilling).1, (inoB_ok e_ino_BadFilling).2, G_BadFilling___init__, b_BadFilling___init__, He.glo_ok X G (c.fact 18 (f := .glo "BadFilling") rfl)⟩
  have G_BadCondition___init__ := ok_BadCondition___init__ (P := P) (w := w) (mg := mg) (base := base) (A := ads K) F_BadCondition___init__ (xoB_ok e_xo_BadCondition) (noB_ok e_no_BadCondition_at)
  have b_BadCondition___init__ : Binds K fd_BadCondition___init__ ["self", "at"] [] := F_BadCondition___init__.bindsN fun _ _ _ _ _ _ us hl => match us, hl with | [_, _], _ => rfl
  have ky_BadCondition : Ky P w K mg base 1 "BadCondition" (ads K).cBadCondition (sp_BadCondition___init__ K (ads K)) := ⟨xoB_ok e_xo_BadCondition, _, _, _, (inoB_ok e_ino_BadCondition).1, (inoB_ok e_ino_BadCondition).2, G_BadCondition___init__, b_BadCondition___init__, He.glo_ok X G (c.fact 19 (f := .glo "BadCondition") rfl)⟩
  have G_BadCheck___init__ := ok_BadCheck___init__ (P := P) (w := w) (mg := mg) (base := base) (A := ads K) F_BadCheck___init__ (xoB_ok e_xo_BadCheck) (noB_ok e_no_BadCheck_what)
  have b_BadCheck___init__ : Binds K fd_BadCheck___init__ ["self", "what"] [] := F_BadCheck___init__.bindsN fun _ _ _ _ _ _ us hl => match us, hl with | [_, _], _ => rfl
  have ky_BadCheck : Ky P w K mg base 1 "BadCheck" (ads K).cBadCheck (sp_BadCheck___init__ K (ads K)) := ⟨xoB_ok e_xo_BadCheck, _, _, _, (inoB_ok e_ino_BadCheck).1, (inoB_ok e_ino_BadCheck).2, G_BadCheck___init__, b_BadCheck___init__, He.glo_ok X G (c.fact 20 (f := .glo "BadCheck") rfl)⟩
  have G_BadForm___init__ := ok_BadForm___init__ (P := P) (w := w) (mg := mg) (base := base) (A := ads K) F_BadForm___init__ (xoB_ok e_xo_BadForm) (noB_ok e_no_BadForm_at)
  have b_BadForm___init__ : Binds K fd_BadForm___init__ ["self", "at"] [] := F_BadForm___init__.bindsN fun _ _ _ _ _ _ us hl => match us, hl with | [_, _], _ => rfl
  have ky_BadForm : Ky P w K mg base 1 "BadForm" (ads K).cBadForm (sp_BadForm___init__ K (ads K)) := ⟨xoB_ok e_xo_BadForm, _, _, _, (inoB_ok e_ino_BadForm).1, (inoB_ok e_ino_BadForm).2, G_BadForm___init__, b_BadForm___init__, He.glo_ok X G (c.fact 21 (f := .glo "BadForm") rfl)⟩
  have G_BadPattern___init__ := ok_BadPattern___init__ (P := P) (w := w) (mg := mg) (base := base) (A := ads K) F_BadPattern___init__ (xoB_ok e_xo_BadPattern) (noB_ok e_no_BadPattern_pattern)
  have b_BadPattern___init__ : Binds K fd_BadPattern___init__ ["self", "pattern"] [] := F_BadPattern___init__.bindsN fun _ _ _ _ _ _ us hl => match us, hl with | [_, _], _ => rfl
  have ky_BadPattern : Ky P w K mg base 1 "BadPattern" (ads K).cBadPattern (sp_BadPattern___init__ K (ads K)) := ⟨xoB_ok e_xo_BadPattern, _, _, _, (inoB_ok e_ino_BadPattern).1, (inoB_ok e_ino_BadPattern).2, G_BadPattern___init__, b_BadPattern___init__, He.glo_ok X G (c.fact 22 (f := .glo "BadPattern") rfl)⟩
  have G_NoFilling___init__ := ok_NoFilling___init__ (P := P) (w := w) (mg := mg) (base := base) (A := ads K) F_NoFilling___init__ (xoB_ok e_xo_NoFilling) (noB_ok e_no_NoFilling_pattern)
  have b_NoFilling___init__ : Binds K fd_NoFilling___init__ ["self", "pattern"] [] := F_NoFilling___init__.bindsN fun _ _ _ _ _ _ us hl => match us, hl with | [_, _], _ => rfl
  have ky_NoFilling : Ky P w K mg base 1 "NoFilling" (ads K).cNoFilling (sp_NoFilling___init__ K (ads K)) := ⟨xoB_ok e_xo_NoFilling, _, _, _, (inoB_ok e_ino_NoFilling).1, (inoB_ok e_ino_NoFilling).2, G_NoFilling___init__, b_NoFilling___init__, He.glo_ok X G (c.fact 23 (f := .glo "NoFilling") rfl)⟩
  have G_TooMany___init__ := ok_TooMany___init__ (P := P) (w := w) (mg := mg) (base := base) (A := ads K) F_TooMany___init__ (xoB_ok e_xo_TooMany) (noB_ok e_no_TooMany_what)
  have b_TooMany___init__ : Binds K fd_TooMany___init__ ["self", "what"] [] := F_TooMany___init__.bindsN fun _ _ _ _ _ _ us hl => match us, hl with | [_, _], _ => rfl
  have ky_TooMany : Ky P w K mg base 1 "TooMany" (ads K).cTooMany (sp_TooMany___init__ K (ads K)) := ⟨xoB_ok e_xo_TooMany, _, _, _, (inoB_ok e_ino_TooMany).1, (inoB_ok e_ino_TooMany).2, G_TooMany___init__, b_TooMany___init__, He.glo_ok X G (c.fact 25 (f := .glo "TooMany") rfl)⟩
  have G_BadTelling___init__ := ok_BadTelling___init__ (P := P) (w := w) (mg := mg) (base := base) (A := ads K) F_BadTelling___init__ (xoB_ok e_xo_BadTelling) (noB_ok e_no_BadTelling_telling)
  have b_BadTelling___init__ : Binds K fd_BadTelling___init__ ["self", "telling"] [] := F_BadTelling___init__.bindsN fun _ _ _ _ _ _ us hl => match us, hl with | [_, _], _ => rfl
  have ky_BadTelling : Ky P w K mg base 1 "BadTelling" (ads K).cBadTelling (sp_BadTelling___init__ K (ads K)) := ⟨xoB_ok e_xo_BadTelling, _, _, _, (inoB_ok e_ino_BadTelling).1, (inoB_ok e_ino_BadTelling).2, G_BadTelling___init__, b_BadTelling___init__, He.glo_ok X G (c.fact 26 (f := .glo "BadTelling") rfl)⟩
  have G_BadChange___init__ := ok_BadChange___init__ (P := P) (w := w) (mg := mg) (base := base) (A := ads K) F_BadChange___init__ (xoB_ok e_xo_BadChange) (noB_ok e_no_BadChange_at)
  have b_BadChange___init__ : Binds K fd_BadChange___init__ ["self", "at"] [] := F_BadChange___init__.bindsN fun _ _ _ _ _ _ us hl => match us, hl with | [_, _], _ => rfl
  have ky_BadChange : Ky P w K mg base 1 "BadChange" (ads K).cBadChange (sp_BadChange___init__ K (ads K)) := ⟨xoB_ok e_xo_BadChange, _, _, _, (inoB_ok e_ino_BadChange).1, (inoB_ok e_ino_BadChange).2, G_BadChange___init__, b_BadChange___init__, He.glo_ok X G (c.fact 27 (f := .glo "BadChange") rfl)⟩
  have G_BadBatch___init__ := ok_BadBatch___init__ (P := P) (w := w) (mg := mg) (base := base) (A := ads K) F_BadBatch___init__ (xoB_ok e_xo_BadBatch) (noB_ok e_no_BadBatch_at)
  have b_BadBatch___init__ : Binds K fd_BadBatch___init__ ["self", "at"] [] := F_BadBatch___init__.bindsN fun _ _ _ _ _ _ us hl => match us, hl with | [_, _], _ => rfl
  have ky_BadBatch : Ky P w K mg base 1 "BadBatch" (ads K).cBadBatch (sp_BadBatch___init__ K (ads K)) := ⟨xoB_ok e_xo_BadBatch, _, _, _, (inoB_ok e_ino_BadBatch).1, (inoB_ok e_ino_BadBatch).2, G_BadBatch___init__, b_BadBatch___init__, He.glo_ok X G (c.fact 28 (f := .glo "BadBatch") rfl)⟩
  have G_NoCheck___init__ := ok_NoCheck___init__ (P := P) (w := w) (mg := mg) (base := base) (A := ads K) F_NoCheck___init__ (xoB_ok e_xo_NoCheck) (noB_ok e_no_NoCheck_name)
  have b_NoCheck___init__ : Binds K fd_NoCheck___init__ ["self", "name"] [] := F_NoCheck___init__.bindsN fun _ _ _ _ _ _ us hl => match us, hl with | [_, _], _ => rfl
  have ky_NoCheck : Ky P w K mg base 1 "NoCheck" (ads K).cNoCheck (sp_NoCheck___init__ K (ads K)) := ⟨xoB_ok e_xo_NoCheck, _, _, _, (inoB_ok e_ino_NoCheck).1, (inoB_ok e_ino_NoCheck).2, G_NoCheck___init__, b_NoCheck___init__, He.glo_ok X G (c.fact 29 (f := .glo "NoCheck") rfl)⟩
  have G_NotTold___init__ := ok_NotTold___init__ (P := P) (w := w) (mg := mg) (base := base) (A := ads K) F_NotTold___init__ (xoB_ok e_xo_NotTold) (noB_ok e_no_NotTold_name)
  have b_NotTold___init__ : Binds K fd_NotTold___init__ ["self", "name"] [] := F_NotTold___init__.bindsN fun _ _ _ _ _ _ us hl => match us, hl with | [_, _], _ => rfl
  have ky_NotTold : Ky P w K mg base 1 "NotTold" (ads K).cNotTold (sp_NotTold___init__ K (ads K)) := ⟨xoB_ok e_xo_NotTold, _, _, _, (inoB_ok e_ino_NotTold).1, (inoB_ok e_ino_NotTold).2, G_NotTold___init__, b_NotTold___init__, He.glo_ok X G (c.fact 30 (f := .glo "NotTold") rfl)⟩
  have G_Refused___init__ := ok_Refused___init__ (P := P) (w := w) (mg := mg) (base := base) (A := ads K) F_Refused___init__ xn_Refused_blames xn_Refused_cause xn_Refused_name xoc_Refused
  have b_Refused___init__ : Binds K fd_Refused___init__ ["self", "name", "blames", "cause"] [] := F_Refused___init__.bindsN fun _ _ _ _ _ _ us hl => match us, hl with | [_, _, _, _], _ => rfl
  have ky_Refused : Ky P w K mg base 1 "Refused" (ads K).cRefused (sp_Refused___init__ K (ads K)) := ⟨xoB_ok e_xo_Refused, _, _, _, (inoB_ok e_ino_Refused).1, (inoB_ok e_ino_Refused).2, G_Refused___init__, b_Refused___init__, He.glo_ok X G (c.fact 31 (f := .glo "Refused") rfl)⟩
  have G_Locked___init__ := ok_Locked___init__ (P := P) (w := w) (mg := mg) (base := base) (A := ads K) F_Locked___init__ (xoB_ok e_xo_Locked) (noB_ok e_no_Locked_name)
  have b_Locked___init__ : Binds K fd_Locked___init__ ["self", "name"] [] := F_Locked___init__.bindsN fun _ _ _ _ _ _ us hl => match us, hl with | [_, _], _ => rfl
  have ky_Locked : Ky P w K mg base 1 "Locked" (ads K).cLocked (sp_Locked___init__ K (ads K)) := ⟨xoB_ok e_xo_Locked, _, _, _, (inoB_ok e_ino_Locked).1, (inoB_ok e_ino_Locked).2, G_Locked___init__, b_Locked___init__, He.glo_ok X G (c.fact 32 (f := .glo "Locked") rfl)⟩
  have G_Unmet___init__ := ok_Unmet___init__ (P := P) (w := w) (mg := mg) (base := base) (A := ads K) F_Unmet___init__ (xoB_ok e_xo_Unmet) (noB_ok e_no_Unmet_names)
  have b_Unmet___init__ : Binds K fd_Unmet___init__ ["self", "names"] [] := F_Unmet___init__.bindsN fun _ _ _ _ _ _ us hl => match us, hl with | [_, _], _ => rfl
  have ky_Unmet : Ky P w K mg base 1 "Unmet" (ads K).cUnmet (sp_Unmet___init__ K (ads K)) := ⟨xoB_ok e_xo_Unmet, _, _, _, (inoB_ok e_ino_Unmet).1, (inoB_ok e_ino_Unmet).2, G_Unmet___init__, b_Unmet___init__, He.glo_ok X G (c.fact 33 (f := .glo "Unmet") rfl)⟩
  have G__law_bag := ok__law_bag (P := P) (w := w) (mg := mg) (base := base) (A := ads K) F__law_bag fr_abs fr_int fr_len
  have b__law_bag : Binds K fd__law_bag ["_law_script", "_law_at"] [] := F__law_bag.bindsN fun _ _ _ _ _ _ us hl => match us, hl with | [_, _], _ => rfl
  have c__law_bag := cl_of G__law_bag (He.glo_ok X G (c.fact 0 (f := .glo "_law_bag") rfl)) F__law_bag.kp b__law_bag
  have G__law_take := ok__law_take (P := P) (w := w) (mg := mg) (base := base) (A := ads K) F__law_take fr_int
  have b__law_take : Binds K fd__law_take ["_law_bag_here", "_law_many"] [] := F__law_take.bindsN fun _ _ _ _ _ _ us hl => match us, hl with | [_, _], _ => rfl
  have c__law_take := cl_of G__law_take (He.glo_ok X G (c.fact 1 (f := .glo "_law_take") rfl)) F__law_take.kp b__law_take
  have G__law_value := ok__law_value (P := P) (w := w) (mg := mg) (base := base) (A := ads K) F__law_value fr_abs fr_int
  have b__law_value : Binds K fd__law_value ["_law_p", "_law_q"] [] := F__law_value.bindsN fun _ _ _ _ _ _ us hl => match us, hl with | [_, _], _ => rfl
  have c__law_value := cl_of G__law_value (He.glo_ok X G (c.fact 5 (f := .glo "_law_value") rfl)) F__law_value.kp b__law_value
  have G__law_kinds := ok__law_kinds (P := P) (w := w) (mg := mg) (base := base) (A := ads K) F__law_kinds fr_isinstance fr_range gm_BadBatch gm_BadChange gm_BadCheck gm_BadCondition gm_BadField gm_BadFilling gm_BadForm gm_BadLayout gm_BadNumber gm_BadPattern gm_BadTelling gm_BadValue gm_Closed gm_Locked gm_NoCheck gm_NoFilling gm_NotTold gm_Refused gm_Started gm_TooMany gm_Unlike gm_Unmet kk
  have b__law_kinds : Binds K fd__law_kinds ["_law_e"] [] := F__law_kinds.bindsN fun _ _ _ _ _ _ us hl => match us, hl with | [_], _ => rfl
  have c__law_kinds := cl_of G__law_kinds (He.glo_ok X G (c.fact 7 (f := .glo "_law_kinds") rfl)) F__law_kinds.kp b__law_kinds
  have G__law_bases := ok__law_bases (P := P) (w := w) (mg := mg) (base := base) (A := ads K) F__law_bases fr_LookupError fr_RuntimeError fr_ValueError fr_isinstance gm_MendroundsError kk
  have b__law_bases : Binds K fd__law_bases ["_law_e"] [] := F__law_bases.bindsN fun _ _ _ _ _ _ us hl => match us, hl with | [_], _ => rfl
  have c__law_bases := cl_of G__law_bases (He.glo_ok X G (c.fact 8 (f := .glo "_law_bases") rfl)) F__law_bases.kp b__law_bases
  have G__law_of := ok__law_of (P := P) (w := w) (mg := mg) (base := base) (A := ads K) F__law_of fr_len c__law_take
  have b__law_of : Binds K fd__law_of ["_law_bag_here", "_law_some"] [] := F__law_of.bindsN fun _ _ _ _ _ _ us hl => match us, hl with | [_, _], _ => rfl
  have c__law_of := cl_of G__law_of (He.glo_ok X G (c.fact 2 (f := .glo "_law_of") rfl)) F__law_of.kp b__law_of
  have G__law_number := ok__law_number (P := P) (w := w) (mg := mg) (base := base) (A := ads K) F__law_number c__law_take c__law_value
  have b__law_number : Binds K fd__law_number ["_law_bag_here"] [] := F__law_number.bindsN fun _ _ _ _ _ _ us hl => match us, hl with | [_], _ => rfl
  have c__law_number := cl_of G__law_number (He.glo_ok X G (c.fact 6 (f := .glo "_law_number") rfl)) F__law_number.kp b__law_number
  have G__law_name := ok__law_name (P := P) (w := w) (mg := mg) (base := base) (A := ads K) F__law_name fr_len fr_range c__law_take c__law_of
  have b__law_name : Binds K fd__law_name ["_law_bag_here", "_law_mark"] [] := F__law_name.bindsN fun _ _ _ _ _ _ us hl => match us, hl with | [_, _], _ => rfl
  have c__law_name := cl_of G__law_name (He.glo_ok X G (c.fact 3 (f := .glo "_law_name") rfl)) F__law_name.kp b__law_name
  have G__law_word := ok__law_word (P := P) (w := w) (mg := mg) (base := base) (A := ads K) F__law_word fr_range c__law_take c__law_of
  have b__law_word : Binds K fd__law_word ["_law_bag_here"] [] := F__law_word.bindsN fun _ _ _ _ _ _ us hl => match us, hl with | [_], _ => rfl
  have c__law_word := cl_of G__law_word (He.glo_ok X G (c.fact 4 (f := .glo "_law_word") rfl)) F__law_word.kp b__law_word
  have G__law_first := ok__law_first (P := P) (w := w) (mg := mg) (base := base) (A := ads K) F__law_first xf_BadBatch xf_BadChange xf_BadCheck xf_BadCondition xf_BadField xf_BadFilling xf_BadForm xf_BadLayout xf_BadNumber xf_BadPattern xf_BadTelling xf_BadValue xf_Locked xf_NoCheck xf_NoFilling xf_NotTold xf_TooMany xf_Unmet xn_BadBatch_at xn_BadChange_at xn_BadCheck_what xn_BadCondition_at xn_BadField_name xn_BadFilling_name xn_BadForm_at xn_BadLayout_at xn_BadNumber_thing xn_BadPattern_pattern xn_BadTelling_telling xn_BadValue_name xn_Locked_name xn_NoCheck_name xn_NoFilling_pattern xn_NotTold_name xn_TooMany_what xn_Unmet_names ky_Unmet ky_Locked ky_NotTold ky_NoCheck ky_BadBatch ky_BadChange ky_BadTelling ky_TooMany ky_NoFilling ky_BadPattern ky_BadForm ky_BadCheck ky_BadCondition ky_BadFilling ky_BadValue ky_BadField ky_BadLayout ky_BadNumber
  have b__law_first : Binds K fd__law_first ["_law_one"] [] := F__law_first.bindsN fun _ _ _ _ _ _ us hl => match us, hl with | [_], _ => rfl
  have c__law_first := cl_of G__law_first (He.glo_ok X G (c.fact 9 (f := .glo "_law_first") rfl)) F__law_first.kp b__law_first
  have G__law_all := ok__law_all (P := P) (w := w) (mg := mg) (base := base) (A := ads K) F__law_all gm_Closed gm_Started gm_Unlike x0_Closed x0_Started x0_Unlike ky_Unmet ky_Locked ky_Refused ky_NotTold ky_NoCheck ky_BadBatch ky_BadChange ky_BadTelling ky_TooMany ky_NoFilling ky_BadPattern ky_BadForm ky_BadCheck ky_BadCondition ky_BadFilling ky_BadValue ky_BadField ky_BadLayout ky_BadNumber
  have b__law_all : Binds K fd__law_all ["_law_one"] [] := F__law_all.bindsN fun _ _ _ _ _ _ us hl => match us, hl with | [_], _ => rfl
  have c__law_all := cl_of G__law_all (He.glo_ok X G (c.fact 10 (f := .glo "_law_all") rfl)) F__law_all.kp b__law_all
  have G__law_is_caught := ok__law_is_caught (P := P) (w := w) (mg := mg) (base := base) (A := ads K) F__law_is_caught fr_repr gm_BadForm gm_MendroundsError gm_NoCheck gm_Unmet xf_BadForm xf_NoCheck xf_Unmet xn_BadForm_at xn_NoCheck_name xn_Unmet_names xm_BadForm xm_MendroundsError xm_NoCheck xm_Unmet xu_MendroundsError_BadForm xu_NoCheck_BadForm xu_NoCheck_MendroundsError xu_Unmet_BadForm xu_Unmet_MendroundsError xu_Unmet_NoCheck ky_BadForm ky_NoCheck ky_Unmet
  have b__law_is_caught : Binds K fd__law_is_caught ["_law_k", "_law_one"] [] := F__law_is_caught.bindsN fun _ _ _ _ _ _ us hl => match us, hl with | [_, _], _ => rfl
  have cG__law_is_caught := clG_of G__law_is_caught (He.glo_ok X G (c.fact 11 (f := .glo "_law_is_caught") rfl)) F__law_is_caught.kp b__law_is_caught
  exact ok_law (A := ads K) F_law fr_len fr_max fr_min fr_range fr_repr eq0_Refused kk nec_Refused xf_Refused xn_Refused_blames xn_Refused_cause xn_Refused_name c__law_bag c__law_of c__law_name c__law_number c__law_word c__law_first c__law_all c__law_kinds c__law_bases ky_Refused cG__law_is_caught
end Hd
end Md
open PySem PySem.W PySem.Calls PyProof.Rows
set_option maxRecDepth 100000 in
set_option maxHeartbeats 0 in
theorem PySem.Challenge.cw_mendrounds_k23_errors_made_holds : PySem.Challenge.rw_mendrounds_k23_errors_made.Holds := by
  w_on; o_law
  refine HandSHeadRun.head_any (r := OpenLaw.row PySem.Challenge.rw_mendrounds_k23_errors_made) (q := view (OpenLaw.row PySem.Challenge.rw_mendrounds_k23_errors_made).prog [37]) (H := Md.Hd.hk) (ob := Md.Hd.ob) (M := 20000) (loose := Md.Hd.names) (d := HandSHeadRun.topDef (OpenLaw.row PySem.Challenge.rw_mendrounds_k23_errors_made).prog 37) (kwd := []) Md.Hd.ob_eq
    (by kernel_rfl) (fun s => by kernel_rfl) Md.Hd.run (by kernel_rfl) (by kernel_rfl) (by kernel_rfl) (by rfl) (by first | assumption | decide +kernel) (by decide +kernel) ⟨rfl, rfl, rfl, rfl, rfl, by decide +kernel⟩ ?hw ?hc
  case hw => w_witness2
  case hc =>
    refine Md.walk_ofG (l := PySem.Challenge.rw_mendrounds_k23_errors_made) (n := 63) (k := 4) (x := "_law_script") (CX := L2.CX0) rfl (by decide) (by kernel_rfl) ⟨rfl, by decide, by decide⟩ ?F (fun _ _ _ _ z => z)
    intro w mg fa h Y G hmg0
    obtain ⟨K, KX, c⟩ := Y
    have hmg : mg ("law" : PySem.Str) = some (.ref fa) := by
      have e : (HandSHeadRun.topDef (OpenLaw.row PySem.Challenge.rw_mendrounds_k23_errors_made).prog 37).name = ("law" : PySem.Str) := by kernel_rfl
      rw [← e]
      exact hmg0
    obtain ⟨fd, hb, hF⟩ := Md.Hd.facts (P := (PySem.Challenge.rw_mendrounds_k23_errors_made).prog) (w := w) KX G hmg c.d c.more
    exact ⟨K, fd, Md.sp_law K, KX, hb, fun H a ns hl hS => ⟨a, ns, rfl, hS, hl, fun _ => rfl⟩, hF⟩
