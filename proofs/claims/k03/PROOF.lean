import PyProof.Rows.All
import Wide.All
import OpenK.AllK
import Wide.FinOn
import KE.KStateDown
import Lean
import HandS.Base
import HandS.Call
import HandS.List
import HandS.Comp
import HandS.Ends
import HandS.Dict
import HandS.Iter
import HandS.Text
import HandS.More
import HandS.Words
import HandS.WordsList
import HandS.WordsDict
import HandS.Exc
import HandS.ExcOwn
import HandS.TryOnly
import HandS.WordsExc
import HandS.ExcCtx
import HandS.HotCalls
import KE.KExcIs
import HandS.Defaults
import HandS.Codes
import HandS.CallSlots
import HandS.Steps
import HandS.Style
import HandS.Wide
import HandS.WideMore
import HandS.WideBits
import HandS.IsInst
import HandS.ExcInit
import HandS.ExcField
import HandS.ExcIs
import HandS.Gcd
import HandS.FStr
import HandS.RaiseMore
import HandS.Head0
import HandS.Head1
import HandS.Head2
import HandS.Head3
import HandS.HeadEnd
import HandS.HeadHook1
import HandS.HeadHook2
import HandS.HeadHook3
import HandS.HeadHook4
import HandS.Evl
import KE.KIntText
import PyProof.FitsInt
import PyProof.StrLawsFirst
import PyProof.StrLawsAffix
import HandS.ClsMeth
import HandS.Strs
import PyProof.Rows.StrRev
import OpenK.KMeth
import PyProof.InstNe
import PyProof.ReprRoads
import PyProof.Rows.NestFoldShow
import PyProof.CallFns
import HandS.StrMore
import PyProof.StrBlock2
import KE.KxIndex
import HandS.Walk
import HandS.Deep
import PyProof.Rows.StrFit
import PyProof.ReprLen
import HandS.HeadNt
import PySem.Challenge.RW_mendrounds_k03_numbers_written_and_read
set_option Elab.async false
set_option linter.all false
set_option maxRecDepth 100000
set_option maxHeartbeats 4000000
namespace Md
open PySem PySem.Spec PyProof.Rows PySem.Calls L2

/-! ### where the classes and tables of the program stand -/
structure Ads where
  cMendroundsError : Addr := 0
  cBadNumber : Addr := 0
  cBadLayout : Addr := 0
  cBadField : Addr := 0
  cBadValue : Addr := 0
  cBadFilling : Addr := 0
  cBadCondition : Addr := 0
  cBadCheck : Addr := 0
  cBadForm : Addr := 0
  cBadPattern : Addr := 0
  cNoFilling : Addr := 0
  cUnlike : Addr := 0
  cTooMany : Addr := 0
  cBadTelling : Addr := 0
  cBadChange : Addr := 0
  cBadBatch : Addr := 0
  cNoCheck : Addr := 0
  cNotTold : Addr := 0
  cRefused : Addr := 0
  cLocked : Addr := 0
  cUnmet : Addr := 0
  cClosed : Addr := 0
  cStarted : Addr := 0
  cLayout : Addr := 0
  cSpace : Addr := 0
  gRESERVED : Addr := 0

/-! ### readings by short names -/
abbrev rAdd : R2 := rI0 fun i j => .int (i + j)
abbrev rSub : R2 := rI0 fun i j => .int (i - j)
abbrev rMulW : R2 := rI CMulW fun i j => .int (i * j)
abbrev rMul : R2 := rI CMul fun i j => .int (i * j)
abbrev rFdvW : R2 := rI CDivW fun i j => .int (i / j)
abbrev rMod : R2 := rI (fun _ j => 0 < j) fun i j => .int (i % j)
abbrev rPow : R2 := rI CPow fun i j => .int (i ^ j.toNat)
abbrev rLt : R2 := rI0 fun i j => .bl (decide (i < j))
abbrev rLe : R2 := rI0 fun i j => .bl (decide (i ≤ j))
abbrev rGt : R2 := rI0 fun i j => .bl (decide (j < i))
abbrev rGe : R2 := rI0 fun i j => .bl (decide (j ≤ i))
abbrev rNeg : V → Hp → VK → Prop := rU fun i => .int (-i)
abbrev rAbs : List V → Hp → VK → Prop := fun xs H Q => ∃ i, xs = [.int i] ∧ Q (.int (if i < 0 then -i else i)) H
abbrev rMax2 : List V → Hp → VK → Prop := fun xs H Q => ∃ i j, xs = [.int i, .int j] ∧ Q (.int (if j > i then j else i)) H
abbrev rMin2 : List V → Hp → VK → Prop := fun xs H Q => ∃ i j, xs = [.int i, .int j] ∧ Q (.int (if j < i then j else i)) H
abbrev rInt1 : List V → Hp → VK → Prop := fun xs H Q => (∃ i, xs = [.int i] ∧ Q (.int i) H) ∨ ∃ k, xs = [.bl k] ∧ Q (.int (if k then 1 else 0)) H
abbrev rStrI : List V → Hp → VK → Prop := fun xs H Q => ∃ i : Int, xs = [.int i] ∧ i.natAbs.log2 < 1920 ∧ Q (.str (toString i)) H
abbrev rAddS : R2 := fun x y H Q => ∃ i j, x = .str i ∧ y = .str j ∧ i.length + j.length ≤ sizeLine ∧ Q (.str (i ++ j)) H
abbrev tRaise (E : XK) (t : L2.St → Hp → XK → Prop) : TS := fun _ σ H => t σ H fun cls d H' => E cls d H'
abbrev tTru (K : PySem.W.Frag) (ta : TE) : TT := fun σ H Q => ta σ H fun x H' => ∃ k, TruV K x H' k ∧ Q k H'
/-- // by any divisor but 0 -/
def CDivG (_ j : Int) : Prop := j ≠ 0 ∧ j.natAbs.log2 < 9000
abbrev rFdvG : R2 := rI CDivG fun i j => .int (i.fdiv j)
theorem op_fdivG {X : Cx} : OpR X (binaryOp .FloorDiv) rFdvG := opI fun i j _ _ _ _ _ hc q => floordiv_int hc.1 q (.inl (PyProof.noPylong_of_log2 hc.2))
theorem gStr {mg : Str → Option Value} {x z : Str} (h : ∃ t, mg x = some (.str z t)) : ∃ u, mg x = some u ∧ RelV (.str z) u := by
  obtain ⟨t, e⟩ := h
  exact ⟨_, e, t, rfl⟩
theorem gInt {mg : Str → Option Value} {x : Str} {i : Int} (h : ∃ t, mg x = some (.int i t)) : ∃ u, mg x = some u ∧ RelV (.int i) u := by
  obtain ⟨t, e⟩ := h
  exact ⟨_, e, t, rfl⟩

theorem passN {X : Cx} : Passes (L2N.CX X.prog X.w) X E0 := fun _ _ _ _ _ _ _ h => by
  obtain ⟨_, _, _, _, _, _, _, _, _, _, _, _, z⟩ := h
  exact z.elim
/-- around a body nothing is let out -/
theorem takesN {X : Cx} : L2N.Takes X (fun _ _ _ _ => False) := fun _ _ x => by
  obtain ⟨_, _, _, _, _, _, _, _, _, _, _, _, _, _, _, _, z⟩ := x
  exact z.elim
theorem mk_endN {X : Cx} {pins : List (Addr × Obj)} {σ : L2.St} {H1 H2 : Hp} {Q : XK} {hp hp2 h2 : Heap} {g1 g2 : Array GenState} {d1 d2 : Drawn} {t1 t2 : Nat} {os1 os2 : OsState} {a C d : Addr} {fs : List (Str × V)} (T : Raises X (.ref C)) (I1 : Inv X pins σ H1 ⟨hp, g1, d1, t1, os1⟩)
    (ha : hp.objs.size ≤ a) (k : ∀ b o, hp.get? b = some o → hp2.get? b = some o) (un : Un (frs X.stack) [] (upd H1 a (exo a C none)) H2 hp2 h2) (hok : HOk X.prog X.w H2 h2) (ho : os2 = os1) (hb : AllBare g2)
    (ea : H2 a = some (exo a C (some d))) (ed : H2 d = some (exd d fs)) (hd1 : H1 d = none) (q : Q (.ref C) (some d) (upd (del H2 a) d (.xd fs))) : L2N.MkP X pins σ Q (.ref a) ⟨h2, g2, d2, t2, os2⟩ := by
  obtain ⟨t0, G, J, kG, ge, hoe, na⟩ := mk_end0 (d2 := d2) (t2 := t2) I1 ha k un hok ho hb ea ed hd1
  exact ⟨a, _, _, ⟨G, g2, d2, t2, os2⟩, _, .ref C, some d, rfl, J, kG, ge, hoe, ⟨rfl, rfl, fun vs e => by cases e; rfl⟩, rfl, rfl, na, rfl, hb, T, q⟩
theorem pmk_oexN {X : Cx} {e : Expr} {es : List Expr} {ta : TA} {p pos : Pos} {CX : CXT} {x : Str} {C fI : Addr} {k : Nat} {fd : FuncData} {ps : List Str} {sp : Sp} {ds : List Value} {dvs : List V} (T : OexC X.K C) (iC : PySem.W.findIn X.K (.ref C) "__init__" = some (some (.ref fI))) (tI : PySem.W.typeIn X.K (.ref fI) = some (.type "function"))
    (F1 : FnOk X.prog X.w X.K X.mg X.base CX k fI fd ps sp) (hr : Room (k + 1) X.A) (hb : Binds X.K fd ps ds) (hd : Vals dvs ds) (hx : Passes CX X (fun _ _ _ => False)) (hg : Gl X x) (hm : X.mg x = some (.ref C)) (ha : PA X (e :: es) ta)
    (hdb : (x == ("__debug__" : Str)) = false := by decide) (he : starEach (e :: es) X.env = (false, eval e X.env) :: starEach es X.env := by rfl) (hpl : (backTo pos (starEach es X.env)).any (·.1) = false := by rfl) :
    L2N.PMk X (.Call (.Name x p) (e :: es) [] pos) (tMkO C sp dvs ta) := by
  intro pins s σ H Q I h
  obtain ⟨nm, q, N, bs, bm, sn, sub, ab, col, dd, k0, k1, k2, k3, k5, hC, hbm⟩ := T.cls
  refine wpAny_Call_Name_kw (ld_glob I hg hm ?_ hdb)
  refine PySem.W.callWith_K (h₀ := X.base) I.ok.mod.kin T.kC (thn (ha.run pos pins s σ H _ I h) fun us s1 ⟨vs, H1, I1, r1, hz, q1⟩ => ⟨I1.kIn, ?_⟩) he hpl
  show wpAny _ _ (call (.ref C) us) _ _ _
  obtain ⟨hp, g, dr, tk, os⟩ := s1
  have hsz : hp.objs.size ≤ hp.objs.size + 1 := Nat.le_succ _
  have hn : H1 (hp.objs.size + 1) = none := I1.hok.fresh hsz
  have hq := q1 (hp.objs.size + 1) hn
  have kk : ∀ b o, hp.get? b = some o → ((hp.push (PySem.W.kdv_tup us)).push (PySem.HandSPX.excO C hp.objs.size)).get? b = some o := fun b o e => Heap.get?_push_of_some _ (Heap.get?_push_of_some _ e)
  have hget : ((hp.push (PySem.W.kdv_tup us)).push (PySem.HandSPX.excO C hp.objs.size)).get? (hp.objs.size + 1) = some (PySem.HandSPX.excO C hp.objs.size) := by heap_get
  have I2 : Inv X pins σ (upd H1 (hp.objs.size + 1) (exo (hp.objs.size + 1) C none)) ⟨(hp.push (PySem.W.kdv_tup us)).push (PySem.HandSPX.excO C hp.objs.size), g, dr, tk, os⟩ :=
    I1.laid (t' := tk) (a := hp.objs.size + 1) (o := exo (hp.objs.size + 1) C none) (h' := (hp.push (PySem.W.kdv_tup us)).push (PySem.HandSPX.excO C hp.objs.size)) kk hsz (exo_ok hget)
  have r2 : Vals (V.ref (hp.objs.size + 1) :: (vs ++ dvs)) (Value.ref (hp.objs.size + 1) :: (us ++ ds)) := .cons rfl (r1.append hd)
  have hl : (Value.ref (hp.objs.size + 1) :: us ++ ds).length = ps.length := by
    have e := r2.length
    rw [F1.len _ _ _ _ hq] at e
    exact e.symm
  have hus : us.length ≤ sizeLine := by
    rw [← Paired.length r1, sizeLine_eq]
    omega
  refine wpAny_call (PySem.HandSPX.call_own F.excBase_ValueError (fun Y => PySem.HandSPX.refsVE_contains Y bm hbm) (I1.kIn _ _ hC) (PySem.W.looks_findIn I1.kIn iC) (fun self => PySem.W.bind_fn I1.kIn self tI) hus
    (codeAny_mono (F1.run _ X.stack _ _ ⟨Value.ref (hp.objs.size + 1) :: us, []⟩ (Value.ref (hp.objs.size + 1) :: (us ++ ds)) _ _ (fun _ _ _ => False) (hr.make C us []) (I2.env0.make C us []) (hb _ (Value.ref (hp.objs.size + 1) :: us) I2.kIn hl) r2 hq) fun r s' hq' => ?_))
  cases r with
  | error er => exact (hx pins σ _ _ er s' I2 hq')
  | ok fl =>
    cases fl with
    | ret u =>
      obtain ⟨v, H2, os2, bare2, un2, hok2, rv, ev, d, fs, ea, ed, hd1, q2⟩ := hq'
      subst ev
      obtain ⟨h2, g2, d2, t2, os'⟩ := s'
      exact ⟨rv, mk_endN (raises_own T.exC T.tyC) I1 hsz kk un2 hok2 os2 bare2 ea ed hd1 q2⟩
    | next => exact False.elim hq'
    | brk => exact False.elim hq'
    | cont => exact False.elim hq'

/-! ### isinstance of the error that a suite holds, whatever its dict -/
theorem kitx_excD {K : PySem.W.Frag} {x D : Addr} {ox : Obj} {od : Option Obj} (hga : PySem.W.findIn K (.ref D) "__getattribute__" = some (some (.builtin "BaseException.__getattribute__"))) (hgt : PySem.W.findIn K (.ref D) "__getattr__" = some none) (hsub : PySem.W.subIn K (.ref D) (.type "BaseException") = some true) (hdct : PySem.W.hasDictIn K D = true) (ha : PySem.W.findIn K (.ref D) "__class__" = some (some (.builtin "object.__class__")))
    (hn : PySem.W.specialIn K (.builtin "object.__class__") "__get__" = some (some (.builtin "getset_descriptor.__get__"))) (htk : PySem.W.takesIn K (.builtin "object.__class__") = some true) (hm : PySem.W.mroIn K D (.type "object") = some true) :
    PySem.W.KitX K (.ref x) (.ref D) (fun h => PySem.W.InstAt h x ox D od) where
  ty := fun _ _ _ I => I.type
  it := fun _ _ X _ => by
    obtain ⟨cdD, hcD, _⟩ := PySem.W.any_some hdct
    unfold PySem.W.clsIn at hcD
    split at hcD
    · rename_i c' d' cd' sl' ho
      intro A' Q' E' s' k q
      unfold isType loadHead
      exact wpAny_bind (wpAny_loadPart (k _ _ (X _ _ ho)) (wpAny_pure q))
    · cases hcD
  ne := fun h tp dd its n sl X htp => by
    obtain ⟨cdD, hcD, _⟩ := PySem.W.any_some hdct
    refine Bool.eq_false_iff.mpr fun q => ?_
    have e : D = tp := Value.ref.inj (beq_iff_eq.mp q)
    subst e
    unfold PySem.W.clsIn at hcD
    split at hcD
    · rename_i c' d' cd' sl' ho
      have z := (X _ _ ho).symm.trans htp
      cases z
    · cases hcD
  ca := fun X I k => PySem.W.kx_classE X I hga hgt hsub (PySem.W.findObj_dataE (by obtain ⟨cd, hc, _⟩ := PySem.W.any_some hdct; rw [hc]; rfl) ha hn htk) hm k
/-- isinstance(e, c), e the error that the suite holds -/
def rIsX (K : PySem.W.Frag) (a : Addr) (cls : Value) (d : Option Addr) : List V → Hp → VK → Prop := fun xs H Q => ∃ (D dd : Addr) (fs : List (Str × V)) (c : V) (cv : Value) (b : Bool), cls = .ref D ∧ d = some dd ∧ ExcC K D ∧ H dd = some (.xd fs) ∧ xs = [.ref a, c] ∧ ClsV c cv ∧ PySem.W.kitOne K (.ref D) cv = some b ∧ Q (.bl b) H
theorem call_isX {X : Cx} {a : Addr} {oe : Obj} {pn : List (Addr × Obj)} {cls : Value} {d : Option Addr} (hz : Zc cls d oe) (hf : ∃ vs, oe.data = .fields vs) : CallR (X.suite a ((a, oe) :: pn)) (.builtin "isinstance") (rIsX X.K a cls d) := by
  intro pins s σ H xs us Q I r h
  obtain ⟨D, dd, fs, c, cv, b, rfl, rfl, C, hdd, rfl, hcv, e, q⟩ := h
  cases r with
  | cons rx rr =>
    cases rr with
    | cons rt rr =>
      cases rr
      cases rx
      have ec := hcv.eq rt
      subst ec
      obtain ⟨hget, _⟩ := I.pin (a, oe) (List.mem_append.mpr (.inl List.mem_cons_self))
      obtain ⟨vs, hv⟩ := hf
      have hx : ObjOk X.prog X.w H s.heap dd (.xd fs) := I.hok dd _ hdd
      obtain ⟨mA, hns, hr⟩ := hx
      obtain ⟨od, ho, hl⟩ := lookIn_ns hns
      have J : PySem.W.InstAt s.heap a oe D (some od) := by
        obtain ⟨oc, od', oda, osl⟩ := oe
        obtain ⟨h1, h2⟩ := hz
        dsimp only at h1 h2 hv
        subst h1 h2 hv
        exact ⟨hget, rfl, rfl, ho⟩
      exact PySem.W.kia_one (kitx_excD C.hg C.hk C.hs C.hd C.ha C.hn C.ht C.hm) I.kIn J e (fun z => nomatch z) fun tk => ⟨.bl b, H, I.kept (t' := tk) fun _ _ z => z, rfl, q⟩
/-- what ExcC asks, as one Bool -/
def xcB (K : PySem.W.Frag) (D : Addr) : Bool := xfB K D && (decide (PySem.W.findIn K (.ref D) "__class__" = some (some (.builtin "object.__class__"))) && (decide (PySem.W.specialIn K (.builtin "object.__class__") "__get__" = some (some (.builtin "getset_descriptor.__get__"))) &&
  (decide (PySem.W.takesIn K (.builtin "object.__class__") = some true) && decide (PySem.W.mroIn K D (.type "object") = some true))))
theorem xcB_ok {K : PySem.W.Frag} {D : Addr} (h : xcB K D = true) : ExcC K D := by
  obtain ⟨h1, h⟩ := Bool.and_eq_true_iff.mp h
  obtain ⟨h2, h⟩ := Bool.and_eq_true_iff.mp h
  obtain ⟨h3, h⟩ := Bool.and_eq_true_iff.mp h
  obtain ⟨h4, h5⟩ := Bool.and_eq_true_iff.mp h
  have x := xfB_ok h1
  exact ⟨x.ga, x.gg, x.exC, x.hdC, of_decide_eq_true h2, of_decide_eq_true h3, of_decide_eq_true h4, of_decide_eq_true h5⟩
/-- what a law asks of an error class: which classes its errors are of, the clause that catches them -/
structure XcA (K : PySem.W.Frag) (D : Addr) : Prop where
  xc : ExcC K D
  me : PySem.W.exmOne K (.ref D) (.ref D) = some true

/-! ### a def as its callers see it -/
/-- the same where an error is handled -/
structure ClH (P : Program) (w : World) (K : PySem.W.Frag) (mg : Str → Option Value) (base : Heap) (k : Nat) (x : Str) (sp : Sp) : Prop where
  ex : ∃ (f : Addr) (fd : FuncData) (ps : List Str), L2H.FnH P w K mg base (L2N.CX P w) k f fd ps sp ∧ mg x = some (.ref f) ∧ PySem.W.keepIn K (.ref f) = true ∧ Binds K fd ps []
/-- as FunD.ok, where an error is handled -/
theorem funD_okH {P : Program} {w : World} {K : PySem.W.Frag} {mg : Str → Option Value} {base : Heap} {x qual : Str} {params : Arguments} {body : List Stmt} {scope : Scope} {dvs : List V} {kws : List (Str × V)} {f : Addr} {fd : FuncData} {CX : CXT} {N ps : List Str} {k : Nat} {sp : Sp} (F : FunD K x qual params body scope dvs kws f fd) (S : FnScope N ps scope) (len : ∀ vs H Q E, sp vs H Q E → vs.length = ps.length)
    (hbody : ∀ (cdv : Value) (A : Around) (outer : List Env) (s : Shared) (H : Hp) (vs : List V) (Q : VK) (E : XK) (p : Addr × Obj), L2H.Hot1 A p → L2H.RoomH k (A.deeper (envOfC qual scope s.heap.objs.size f cdv)) → sp vs H Q E →
      ∃ t, PSs (L2H.cxH CX P w K mg base N qual scope f cdv A outer s H E p) body t ∧ t { nx := fun _ H' => Q .non H', rt := Q } (L2.start N vs) H) : L2H.FnH P w K mg base CX (k + 1) f fd ps sp := by
  obtain ⟨oc, od, dV, kV, doc, pm, an, cdv, ct, osl, rfl, lk, hcd, _, _⟩ := F.ex
  exact L2H.fn_ofH lk hcd S len fun A outer s H vs Q E p hp hr hsp => hbody cdv A outer s H vs Q E p hp hr hsp
structure Cl (P : Program) (w : World) (K : PySem.W.Frag) (mg : Str → Option Value) (base : Heap) (k : Nat) (x : Str) (sp : Sp) (dvs : List V) : Prop where
  ex : ∃ (f : Addr) (fd : FuncData) (ps : List Str) (ds : List Value), FnOk P w K mg base (L2N.CX P w) k f fd ps sp ∧ mg x = some (.ref f) ∧ PySem.W.keepIn K (.ref f) = true ∧ Binds K fd ps ds ∧ Vals dvs ds
/-- a class over ValueError with an __init__ of its own, as it is raised -/
structure Kx (P : Program) (w : World) (K : PySem.W.Frag) (mg : Str → Option Value) (base : Heap) (k : Nat) (x : Str) (C : Addr) (sp : Sp) : Prop where
  T : OexC K C
  ex : ∃ (fI : Addr) (fd : FuncData) (ps : List Str), PySem.W.findIn K (.ref C) "__init__" = some (some (.ref fI)) ∧ PySem.W.typeIn K (.ref fI) = some (.type "function") ∧ FnOk P w K mg base (L2N.CX P w) k fI fd ps sp ∧ Binds K fd ps [] ∧ mg x = some (.ref C)
/-- a plain class, as it is made; a method of it -/
structure Km (P : Program) (w : World) (K : PySem.W.Frag) (mg : Str → Option Value) (base : Heap) (k : Nat) (x : Str) (C : Addr) (sp : Sp) : Prop where
  ex : ∃ (fI : Addr) (fd : FuncData) (ps : List Str), Mk K C fI ∧ FnOk P w K mg base (L2N.CX P w) k fI fd ps sp ∧ Binds K fd ps [] ∧ mg x = some (.ref C)
structure Mt (P : Program) (w : World) (K : PySem.W.Frag) (mg : Str → Option Value) (base : Heap) (k : Nat) (C : Addr) (m : Str) (sp : Sp) : Prop where
  ex : ∃ (f : Addr) (fd : FuncData) (ps : List Str), Cls K C ∧ Meth K C m f ∧ FnOk P w K mg base (L2N.CX P w) k f fd ps sp ∧ Binds K fd ps []
section
variable {X : Cx} {k j : Nat} {C : Addr} {sp : Sp} {dvs : List V} {E : XK} {W : WX} {x m : Str} {p pos apos : Pos} {e o : Expr} {es : List Expr} {ta : TE} {t : TA}
theorem pe_cl (c : Cl X.prog X.w X.K X.mg X.base k x sp dvs) (hr : Room j X.A) (hk : k ≤ j) (hg : Gl X x) (hx : Passes (L2N.CX X.prog X.w) X E) (ha : PA X (e :: es) t)
    (hdb : (x == ("__debug__" : Str)) = false := by decide) (he : starEach (e :: es) X.env = (false, eval e X.env) :: starEach es X.env := by rfl) (hpl : (backTo pos (starEach es X.env)).any (·.1) = false := by rfl) :
    PE X (.Call (.Name x p) (e :: es) [] pos) (tCall sp dvs E t) := by
  obtain ⟨f, fd, ps, ds, F, hm, kp, b, d⟩ := c.ex
  exact pe_call F (hr.mono hk) hg hm kp b d hx ha hdb he hpl
theorem pe_clS (c : Cl X.prog X.w X.K X.mg X.base k x sp dvs) (hr : Room j X.A) (hk : k ≤ j) (hg : Gl X x) (hx : ∀ σ, PassesAt (L2N.CX X.prog X.w) X σ (WE W σ)) (ha : PA X (e :: es) t)
    (hdb : (x == ("__debug__" : Str)) = false := by decide) (he : starEach (e :: es) X.env = (false, eval e X.env) :: starEach es X.env := by rfl) (hpl : (backTo pos (starEach es X.env)).any (·.1) = false := by rfl) :
    PE X (.Call (.Name x p) (e :: es) [] pos) (tCallSD sp dvs (WE W) t) := by
  obtain ⟨f, fd, ps, ds, F, hm, kp, b, d⟩ := c.ex
  exact pe_callSD F (hr.mono hk) hg hm kp b d hx ha hdb he hpl
theorem hot_of {X : Cx} {a : Addr} {oe : Obj} {pn : List (Addr × Obj)} {cls : Value} {d : Option Addr} (hz : L2N.Zn cls d oe) (hf : ∃ vs, oe.data = .fields vs) : L2H.HotC (X.suite a ((a, oe) :: pn)) := by
  obtain ⟨vs, hv⟩ := hf
  exact ⟨(a, oe), ⟨rfl, vs, hv, hz.2.2 vs hv⟩, List.mem_cons_self⟩
theorem roomH_suite {X : Cx} {a : Addr} {pn : List (Addr × Obj)} (hr : Room j X.A) : L2H.RoomH j (X.suite a pn).A := ⟨hr.dp, hr.un⟩
theorem passH {X : Cx} (σ : L2.St) : PassesAt (L2N.CX X.prog X.w) X σ E0 := fun _ _ _ _ _ _ h => by
  obtain ⟨_, _, _, _, _, _, _, _, _, _, _, _, z⟩ := h
  exact z.elim
theorem pe_clH (c : ClH X.prog X.w X.K X.mg X.base k x sp) (hr : L2H.RoomH j X.A) (hc : L2H.HotC X) (hk : k ≤ j) (hg : Gl X x) (ha : PA X (e :: es) t)
    (hdb : (x == ("__debug__" : Str)) = false := by decide) (he : starEach (e :: es) X.env = (false, eval e X.env) :: starEach es X.env := by rfl) (hpl : (backTo pos (starEach es X.env)).any (·.1) = false := by rfl) :
    PE X (.Call (.Name x p) (e :: es) [] pos) (tCallS sp (fun _ => E0) t) := by
  obtain ⟨f, fd, ps, F, hm, kp, b⟩ := c.ex
  exact L2H.pe_callH F (hr.mono hk) hc hg hm kp b (fun σ => passH σ) ha hdb he hpl
theorem pmk_cl (c : Kx X.prog X.w X.K X.mg X.base k x C sp) (hr : Room j X.A) (hk : k + 1 ≤ j) (hg : Gl X x) (ha : PA X (e :: es) t)
    (hdb : (x == ("__debug__" : Str)) = false := by decide) (he : starEach (e :: es) X.env = (false, eval e X.env) :: starEach es X.env := by rfl) (hpl : (backTo pos (starEach es X.env)).any (·.1) = false := by rfl) :
    L2N.PMk X (.Call (.Name x p) (e :: es) [] pos) (tMkO C sp [] t) := by
  obtain ⟨fI, fd, ps, h1, h2, F, b, hm⟩ := c.ex
  exact pmk_oexN c.T h1 h2 F (hr.mono hk) b .nil passN hg hm ha hdb he hpl
theorem pe_mk2 (c : Km X.prog X.w X.K X.mg X.base k x C sp) (hr : Room j X.A) (hk : k + 1 ≤ j) (hg : Gl X x) (hx : Passes (L2N.CX X.prog X.w) X E) (ha : PA X (e :: es) t)
    (hdb : (x == ("__debug__" : Str)) = false := by decide) (he : starEach (e :: es) X.env = (false, eval e X.env) :: starEach es X.env := by rfl) (hpl : (backTo pos (starEach es X.env)).any (·.1) = false := by rfl) :
    PE X (.Call (.Name x p) (e :: es) [] pos) (tMake C sp [] E t) := by
  obtain ⟨fI, fd, ps, M, F, b, hm⟩ := c.ex
  exact pe_make M F (hr.mono hk) hg hm b .nil hx ha hdb he hpl
end
/-! ### calls with keywords -/
structure ClK (P : Program) (w : World) (K : PySem.W.Frag) (mg : Str → Option Value) (base : Heap) (k : Nat) (x : Str) (sp : Sp) (n : Nat) (ks : List Str) (gV : List V → List V → List V) : Prop where
  ex : ∃ (f : Addr) (fd : FuncData) (ps : List Str) (g : List Value → List Value → List Value), FnOk P w K mg base (L2N.CX P w) k f fd ps sp ∧ mg x = some (.ref f) ∧ PySem.W.keepIn K (.ref f) = true ∧ KBn K fd ps n ks g gV
section
variable {X : Cx} {k j n m : Nat} {sp : Sp} {ks : List Str} {gV : List V → List V → List V} {E : XK} {x : Str} {p pos : Pos} {e : Expr} {es : List Expr} {kws : List Keyword} {t tk : TA}
theorem pe_clK (c : ClK X.prog X.w X.K X.mg X.base k x sp n ks gV) (hr : Room j X.A) (hk : k ≤ j) (hg : Gl X x) (hx : Passes (L2N.CX X.prog X.w) X E) (ha : PA X (e :: es) t) (hkw : PK X kws tk)
    (hall : (backToKw pos (keywordEach kws X.env)).all (·.1.isSome) = true := by rfl) (hks : (backToKw pos (keywordEach kws X.env)).filterMap (·.1) = ks := by rfl)
    (hdb : (x == ("__debug__" : Str)) = false := by decide) (he : starEach (e :: es) X.env = (false, eval e X.env) :: starEach es X.env := by rfl)
    (hpl : ((backTo pos (starEach (e :: es) X.env)).any (·.1) || (backToKw pos (keywordEach kws X.env)).any (·.1.isNone)) = false := by rfl)
    (hlen : ks.length = m := by rfl) : PE X (.Call (.Name x p) (e :: es) kws pos) (tCallN n m sp gV E t tk) := by
  subst hlen
  obtain ⟨f, fd, ps, g, F, hm, kp, b⟩ := c.ex
  exact pe_callN F (hr.mono hk) hg hm kp b hx ha hkw hall hks hdb he hpl
theorem pe_clK0 (c : ClK X.prog X.w X.K X.mg X.base k x sp 0 ks gV) (hr : Room j X.A) (hk : k ≤ j) (hg : Gl X x) (hx : Passes (L2N.CX X.prog X.w) X E) (hkw : PK X kws tk)
    (hall : (backToKw pos (keywordEach kws X.env)).all (·.1.isSome) = true := by rfl) (hks : (backToKw pos (keywordEach kws X.env)).filterMap (·.1) = ks := by rfl)
    (hdb : (x == ("__debug__" : Str)) = false := by decide)
    (hpl : ((backTo pos (starEach [] X.env)).any (·.1) || (backToKw pos (keywordEach kws X.env)).any (·.1.isNone)) = false := by rfl)
    (hlen : ks.length = m := by rfl) : PE X (.Call (.Name x p) [] kws pos) (tCallN 0 m sp gV E tNil tk) := by
  subst hlen
  obtain ⟨f, fd, ps, g, F, hm, kp, b⟩ := c.ex
  refine ⟨fun pins s σ H Q I h => ?_⟩
  refine wpAny_Call_Name_kw (ld_glob I hg hm ?_ hdb)
  refine PySem.W.callWith_KW0 (h₀ := X.base) I.ok.mod.kin kp hall (thn (hkw.run pos pins s σ H _ I h) fun ws s2 ⟨zs, H2, I2, rz, l1, l2, q2⟩ => ⟨I2.kIn, ?_⟩) hpl
  rw [hks]
  exact run_fnN (us := []) F (hr.mono hk) b hx I2 .nil rz l1 l2 q2
end
def srcOf {α : Type} (us its ws : List α) : Nat → List α
  | 0 => us
  | 1 => its
  | _ + 2 => ws
/-- the parameters' values: from the positional ones (0), the defaults (1), the keywords' (2) -/
def pick {α : Type} (idx : List (Nat × Nat)) (us its ws : List α) : List α := idx.filterMap fun p => (srcOf us its ws p.1)[p.2]?
theorem src_rel {vs ds zs : List V} {us its ws : List Value} (r1 : Vals vs us) (r2 : Vals ds its) (r3 : Vals zs ws) : ∀ s, Vals (srcOf vs ds zs s) (srcOf us its ws s)
  | 0 => r1
  | 1 => r2
  | _ + 2 => r3
theorem pick_rel {vs ds zs : List V} {us its ws : List Value} (r1 : Vals vs us) (r2 : Vals ds its) (r3 : Vals zs ws) : ∀ idx : List (Nat × Nat), Vals (pick idx vs ds zs) (pick idx us its ws)
  | [] => .nil
  | (s, i) :: r => by
    have ih := pick_rel r1 r2 r3 r
    have rr := src_rel r1 r2 r3 s
    unfold pick at ih ⊢
    rw [List.filterMap_cons, List.filterMap_cons]
    cases e : (srcOf vs ds zs s)[i]? with
    | some v =>
      obtain ⟨u, h1, h2⟩ := Vals.get rr e
      rw [h1]
      exact .cons h2 ih
    | none =>
      rw [Vals.none_of rr e]
      exact ih
/-- n positional values and keywords ks for a def with defaults dvs -/
theorem funD_kb1 {K : PySem.W.Frag} {x qual : Str} {params : Arguments} {body : List Stmt} {scope : Scope} {dvs : List V} {f : Addr} {fd : FuncData} {ps : List Str} (F : FunD K x qual params body scope dvs [] f fd) (n : Nat) (ks : List Str) (g : {α : Type} → List α → List α → List α → List α) (hd : dvs ≠ [])
    (hrel : ∀ {vs ds zs : List V} {us its ws : List Value}, Vals vs us → Vals ds its → Vals zs ws → Vals (g vs ds zs) (g us its ws))
    (h : ∀ (T : Addr) (kV doc pm : Value) (an : Option Addr) (cdv ct : Value) (us its ws : List Value), us.length = n → its.length = dvs.length → ws.length = ks.length →
      ∃ k, bindArgs (PySem.W.fnOf x qual params body scope (.ref T) kV doc pm an cdv ct) ⟨us, ks.zip ws⟩ = seqItems? (.ref T) >>= k ∧ k (some its.toArray) = pure (ps.zip (g us its ws))) :
    ∃ its : List Value, KBn K fd ps n ks (fun us ws => g us its ws) (fun vs zs => g vs dvs zs) := by
  obtain ⟨oc, od, dV, kV, doc, pm, an, cdv, ct, osl, rfl, lk, hcd, hD, hK⟩ := F.ex
  rcases hD with ⟨e, _⟩ | ⟨_, T, o, its, m, rfl, lT, oT, rT⟩
  · exact absurd e hd
  · refine ⟨its, ⟨fun s us ws X l1 l2 => ?_, fun r1 r2 => hrel r1 rT r2⟩⟩
    obtain ⟨k, e1, e2⟩ := h T kV doc pm an cdv ct us its ws l1 rT.length.symm l2
    refine BindsTo.of_looks fun M => ?_
    rw [e1]
    exact looks_items X lT oT (.of_pure e2)
/-- the same of a def without defaults -/
theorem funD_kb0 {K : PySem.W.Frag} {x qual : Str} {params : Arguments} {body : List Stmt} {scope : Scope} {f : Addr} {fd : FuncData} {ps : List Str} (F : FunD K x qual params body scope [] [] f fd) (n : Nat) (ks : List Str) (g : {α : Type} → List α → List α → List α)
    (hrel : ∀ {vs zs : List V} {us ws : List Value}, Vals vs us → Vals zs ws → Vals (g vs zs) (g us ws))
    (h : ∀ (kV doc pm : Value) (an : Option Addr) (cdv ct : Value) (us ws : List Value), us.length = n → ws.length = ks.length → bindArgs (PySem.W.fnOf x qual params body scope .none kV doc pm an cdv ct) ⟨us, ks.zip ws⟩ = pure (ps.zip (g us ws))) :
    KBn K fd ps n ks (fun us ws => g us ws) (fun vs zs => g vs zs) := by
  obtain ⟨oc, od, dV, kV, doc, pm, an, cdv, ct, osl, rfl, lk, hcd, hD, hK⟩ := F.ex
  rcases hD with ⟨_, rfl⟩ | ⟨e, _⟩
  · exact ⟨fun s us ws X l1 l2 => .of_eq (h kV doc pm an cdv ct us ws l1 l2), fun r1 r2 => hrel r1 r2⟩
  · exact absurd rfl e
/-! ### the end of a def's row -/
theorem cl_of {P : Program} {w : World} {K : PySem.W.Frag} {mg : Str → Option Value} {base : Heap} {k : Nat} {x : Str} {f : Addr} {fd : FuncData} {ps : List Str} {sp : Sp}
    (G : FnOk P w K mg base (L2N.CX P w) k f fd ps sp) (g : mg x = some (.ref f)) (kp : PySem.W.keepIn K (.ref f) = true) (b : Binds K fd ps []) : Cl P w K mg base k x sp [] := ⟨_, _, _, _, G, g, kp, b, .nil⟩
/-- what the written part says of such a class, as one Bool -/
def clsB (K : PySem.W.Frag) (C : Addr) : Bool := match K.lookup C with
  | some ⟨.type "type", _, .cls cd, sl⟩ => (match cd.mro, sl.toList with
    | .ref C' :: bm, [_, _, _, _, some (.builtin n), _] => C' == C && (n == "ValueError.__new__" && (!cd.hasDel && (cd.hasDict && PySem.HandSPX.refsVE bm)))
    | _, _ => false)
  | _ => false
theorem clsB_ok {K : PySem.W.Frag} {C : Addr} (h : clsB K C = true) : ∃ nm q N bs bm sn sub ab col dd k0 k1 k2 k3 k5, K.lookup C = some (excClassObj nm q C N bs bm true sn sub ab col dd k0 k1 k2 k3 k5 "ValueError.__new__") ∧ PySem.HandSPX.refsVE bm = true := by
  unfold clsB at h
  split at h
  · rename_i dd cd sl e
    split at h
    · rename_i C' bm a b c d n f e1 e2
      obtain ⟨nm, bs, mro, ns, qn, hd, sn, sb, ab, col, del⟩ := cd
      obtain ⟨h1, h⟩ := Bool.and_eq_true_iff.mp h
      obtain ⟨h2, h⟩ := Bool.and_eq_true_iff.mp h
      obtain ⟨h3, h⟩ := Bool.and_eq_true_iff.mp h
      obtain ⟨h4, h5⟩ := Bool.and_eq_true_iff.mp h
      have e3 : C' = C := eq_of_beq h1
      have e4 : n = "ValueError.__new__" := eq_of_beq h2
      have e5 : del = false := by
        cases del with
        | false => rfl
        | true => cases h3
      have e6 : hd = true := h4
      have e7 : mro = .ref C' :: bm := e1
      have e8 : sl = #[a, b, c, d, some (.builtin n), f] := by
        have := congrArg List.toArray e2
        simpa using this
      subst e3 e4 e5 e6 e7 e8
      exact ⟨nm, qn, ns, bs, bm, sn, sb, ab, col, dd, a, b, c, d, f, e, h5⟩
    · cases h
  · cases h
def oexB (K : PySem.W.Frag) (C : Addr) : Bool := clsB K C && (decide (PySem.W.findIn K (.ref C) "__setattr__" = some (some (.builtin "object.__setattr__"))) && (decide (PySem.W.subIn K (.ref C) (.type "BaseException") = some true) &&
  (decide (PySem.W.typeIn K (.ref C) = some (.type "type")) && PySem.W.keepIn K (.ref C))))
theorem oexB_ok {K : PySem.W.Frag} {C : Addr} (h : oexB K C = true) : OexC K C := by
  obtain ⟨h1, h⟩ := Bool.and_eq_true_iff.mp h
  obtain ⟨h2, h⟩ := Bool.and_eq_true_iff.mp h
  obtain ⟨h3, h⟩ := Bool.and_eq_true_iff.mp h
  obtain ⟨h4, h5⟩ := Bool.and_eq_true_iff.mp h
  exact ⟨clsB_ok h1, of_decide_eq_true h2, of_decide_eq_true h3, of_decide_eq_true h4, h5⟩
/-- __init__ of such a class is the def at ma -/
def inoB (K : PySem.W.Frag) (C : Addr) : Bool := decide (PySem.W.findIn K (.ref C) "__init__" = some (some (.ref (He.ma K C "__init__")))) && decide (PySem.W.typeIn K (.ref (He.ma K C "__init__")) = some (.type "function"))
theorem inoB_ok {K : PySem.W.Frag} {C : Addr} (h : inoB K C = true) : PySem.W.findIn K (.ref C) "__init__" = some (some (.ref (He.ma K C "__init__"))) ∧ PySem.W.typeIn K (.ref (He.ma K C "__init__")) = some (.type "function") := by
  obtain ⟨h1, h2⟩ := Bool.and_eq_true_iff.mp h
  exact ⟨of_decide_eq_true h1, of_decide_eq_true h2⟩
def noB (K : PySem.W.Frag) (C : Addr) (f : Str) : Bool := decide (PySem.W.findIn K (.ref C) f = some none)
theorem noB_ok {K : PySem.W.Frag} {C : Addr} {f : Str} (h : noB K C f = true) : PySem.W.findIn K (.ref C) f = some none := of_decide_eq_true h
end Md

set_option Elab.async false
set_option linter.all false
set_option maxRecDepth 100000
set_option maxHeartbeats 4000000
namespace Md
open PySem PySem.Spec PyProof.Rows PySem.Calls L2

/-! ### ways of a test -/
theorem iteD {p A B : Prop} [Decidable p] (h1 : p → A) (h2 : ¬ p → B) : if decide p = true then A else B := by
  by_cases h : p
  · rw [if_pos (decide_eq_true h)]; exact h1 h
  · rw [if_neg (by simp [h])]; exact h2 h
theorem iteN {p A B : Prop} [Decidable p] (h1 : p → B) (h2 : ¬ p → A) : if (!decide p) = true then A else B := by
  by_cases h : p
  · rw [if_neg (by simp [h])]; exact h1 h
  · rw [if_pos (by simp [h])]; exact h2 h
theorem iteB {b : Bool} {A B : Prop} (h1 : b = true → A) (h2 : b = false → B) : if b = true then A else B := by
  cases b with
  | true => rw [if_pos rfl]; exact h1 rfl
  | false => rw [if_neg (by decide)]; exact h2 rfl
theorem iteBN {b : Bool} {A B : Prop} (h1 : b = true → B) (h2 : b = false → A) : if (!b) = true then A else B := by
  cases b with
  | true => rw [if_neg (by decide)]; exact h1 rfl
  | false => rw [if_pos (by decide)]; exact h2 rfl
/-! ### heaps: all but the list at b stands -/
def Xb (b : Addr) (H H' : Hp) : Prop := ∀ a o, a ≠ b → H a = some o → H' a = some o
theorem Xb.refl {b : Addr} {H : Hp} : Xb b H H := fun _ _ _ h => h
theorem Xb.trans {b : Addr} {H H1 H2 : Hp} (x : Xb b H H1) (y : Xb b H1 H2) : Xb b H H2 := fun a o n h => y a o n (x a o n h)
theorem Xb.upd {b : Addr} {H H' : Hp} {o : HO} (x : Xb b H H') : Xb b H (upd H' b o) := fun a u n h => by
  rw [upd_ne n]
  exact x a u n h
theorem Xb.of {b : Addr} {H H' : Hp} (x : Same H H') : Xb b H H' := fun a o _ h => x a o h
theorem Same.new {H : Hp} {p : Addr} {o : HO} (h : H p = none) : Same H (L2.upd H p o) := fun a u e => by
  rw [upd_ne (ne_of_none e h)]
  exact e
theorem Xb.tup {b a : Addr} {H H' : Hp} {L xs : List V} (x : Xb b H H') (hb : H b = some (.lst L)) (h : H a = some (.tup xs)) : H' a = some (.tup xs) :=
  x a _ (ne_of h hb (by intro z; cases z)) h
/-- the draws' list: the digits, the seed, the count; n draws are left -/
def Bag (n : Nat) (H : Hp) (b : Addr) : Prop := ∃ L S C : Int, H b = some (.lst [.int L, .int S, .int C]) ∧ 0 ≤ L ∧ 0 ≤ S ∧ S < 16140901064496457664 ∧ 0 ≤ C ∧ C + n ≤ 549755813888
theorem Bag.mono {n m : Nat} {H : Hp} {b : Addr} (h : Bag n H b) (l : m ≤ n) : Bag m H b := by
  obtain ⟨L, S, C, e, h1, h2, h3, h4, h5⟩ := h
  exact ⟨L, S, C, e, h1, h2, h3, h4, by omega⟩
theorem Bag.same {n : Nat} {H H' : Hp} {b : Addr} (h : Bag n H b) (s : Same H H') : Bag n H' b := by
  obtain ⟨L, S, C, e, h⟩ := h
  exact ⟨L, S, C, s _ _ e, h⟩
theorem Bag.at_ {n : Nat} {H : Hp} {b : Addr} (h : Bag n H b) : ∃ L, H b = some (.lst L) := by
  obtain ⟨L, S, C, e, _⟩ := h
  exact ⟨_, e⟩
theorem Xb.tupB {n : Nat} {b a : Addr} {H H' : Hp} {xs : List V} (x : Xb b H H') (hb : Bag n H b) (h : H a = some (.tup xs)) : H' a = some (.tup xs) := by
  obtain ⟨L, e⟩ := hb.at_
  exact x.tup e h
theorem pow_lt {x : Int} {k : Nat} (h : x.natAbs < 2 ^ k) (hk : 0 < k) : x.natAbs.log2 < k := PySem.Flt.log2_lt_of hk h

theorem CMulW.small {i j : Int} (hi : i.natAbs < 2 ^ 64) (h0 : 0 ≤ j) (h1 : j < 2 ^ 64) : CMulW i j := wide_mul (a := 64) (b := 64) hi (by omega) (by decide) (by decide) (by decide)
/-! ### _law_take -/
def t__law_take (K : PySem.W.Frag) (A : Ads) (E : XK) : TS :=
    (tSeq (tIfS (tTest (tOp rGt (tOp (rIx K) (tVar 0) (tC (.int 0))) (tC (.int 0)))) (tSeq (tAsg (tOp rMod (tCB rInt1 (tCons (tOp (rIx K) (tVar 0) (tC (.int 0))) tNil)) (tVar 1)) (gName 3))
    (tSeq (tAsg (tOp rFdvW (tOp (rIx K) (tVar 0) (tC (.int 0))) (tVar 1)) (gSub (tVar 0) (tC (.int 0)) rSetL))
    (tRet (tVar 3)))) tNext)
    (tSeq (tAsg (tOp rAdd (tOp (rIx K) (tVar 0) (tC (.int 2))) (tC (.int 1))) (gSub (tVar 0) (tC (.int 2)) rSetL))
    (tSeq (tAsg (tOp rMod (tCB rInt1 (tCons (tOp rPow (tOp rAdd (tOp (rIx K) (tVar 0) (tC (.int 1))) (tOp rMulW (tC (.int 1000003)) (tOp (rIx K) (tVar 0) (tC (.int 2))))) (tC (.int 3))) tNil)) (tC (.int 2305843009213693921))) (gName 2))
    (tSeq (tAsg (tOp rMod (tCB rInt1 (tCons (tOp rPow (tOp rAdd (tVar 2) (tOp rMulW (tC (.int 15485863)) (tOp (rIx K) (tVar 0) (tC (.int 2))))) (tC (.int 2))) tNil)) (tC (.int 2305843009213693951))) (gName 2))
    (tRet (tOp rMod (tCB rInt1 (tCons (tOp rFdvW (tVar 2) (tC (.int 8192))) tNil)) (tVar 1)))))))
def n__law_take : List Str := ["_law_bag_here", "_law_many", "_law_mixed", "_law_digit"]
def sp__law_take (K : PySem.W.Frag) (A : Ads) : Sp := fun vs H Q _ => ∃ (b : Addr) (many : Int) (n : Nat), vs = [.ref b, .int many] ∧ Bag (n + 1) H b ∧ 0 < many ∧ many.natAbs < 2 ^ 9000 ∧
  ∀ d H', 0 ≤ d → d < many → Xb b H H' → Bag n H' b → Q (.int d) H'
theorem len__law_take {K : PySem.W.Frag} {A : Ads} {vs : List V} {H : Hp} {Q : VK} {E : XK} (h : sp__law_take K A vs H Q E) : vs.length = 2 := by
  obtain ⟨b, many, n, rfl, _⟩ := h
  rfl
local macro_rules | `(tactic| walk_at "v") => `(tactic| refine ⟨_, rfl, ?_⟩)
local macro_rules | `(tactic| walk_at "ii") => `(tactic| refine ⟨_, _, rfl, rfl, ?_⟩)
local macro_rules | `(tactic| walk_at "ixL") => `(tactic| refine Or.inl ⟨_, _, _, _, rfl, rfl, SqL.of (by assumption), rfl, ?_⟩)
set_option maxHeartbeats 400000 in
theorem pure__law_take {K : PySem.W.Frag} {A : Ads} {vs : List V} {H : Hp} {Q : VK} {E : XK} (h : sp__law_take K A vs H Q E) :
    t__law_take K A E { nx := fun _ H' => Q .non H', rt := Q } (start n__law_take vs) H := by
  obtain ⟨b, many, n, rfl, ⟨L, S, C, hb, hL, hS, hS2, hC, hCn⟩, hm, hm2, q⟩ := h
  have em : many.natAbs.log2 < 9000 := pow_lt hm2 (by decide)
  walk_at "v"; walk_at "ixL"; walk_at "ii"; walk_at "v"
  refine iteD (fun h0 => ?_) (fun h0 => ?_)
  · walk_at "v"; walk_at "ixL"; refine Or.inl ⟨_, rfl, ?_⟩; walk_at "v"; refine ⟨_, _, rfl, rfl, hm, ?_⟩
    walk_at "v"; walk_at "ixL"; walk_at "v"; refine ⟨_, _, rfl, rfl, ⟨hm, em⟩, ?_⟩
    walk_at "v"; refine ⟨_, _, _, _, rfl, rfl, hb, rfl, ?_⟩
    walk_at "v"
    refine q _ _ (Int.emod_nonneg _ (by omega)) (Int.emod_lt_of_pos _ hm) (Xb.upd Xb.refl) ⟨_, S, C, upd_same, Int.ediv_nonneg hL (by omega), hS, hS2, hC, by omega⟩
  · walk_at "v"; walk_at "ixL"; walk_at "ii"; walk_at "v"; refine ⟨_, _, _, _, rfl, rfl, hb, rfl, ?_⟩
    generalize e2 : upd H b _ = H2
    have hb2 : H2 b = some (.lst [V.int L, V.int S, V.int (C + 1)]) := by rw [← e2]; exact upd_same
    have x2 : Xb b H H2 := by rw [← e2]; exact Xb.upd Xb.refl
    walk_at "v"; walk_at "ixL"; walk_at "v"; walk_at "ixL"; refine ⟨_, _, rfl, rfl, CMulW.small (by decide) (by omega) (by omega), ?_⟩
    walk_at "ii"; refine ⟨_, _, rfl, rfl, ⟨by decide, by decide, by omega⟩, ?_⟩; refine Or.inl ⟨_, rfl, ?_⟩; refine ⟨_, _, rfl, rfl, (by decide : (0 : Int) < 2305843009213693921), ?_⟩
    have b1 := Int.emod_nonneg ((S + 1000003 * (C + 1)) ^ (3 : Int).toNat) (by decide : (2305843009213693921 : Int) ≠ 0)
    have b2 := Int.emod_lt_of_pos ((S + 1000003 * (C + 1)) ^ (3 : Int).toNat) (by decide : (0 : Int) < 2305843009213693921)
    generalize (S + 1000003 * (C + 1)) ^ (3 : Int).toNat % 2305843009213693921 = M at b1 b2 ⊢
    walk_at "v"; walk_at "v"; walk_at "ixL"; refine ⟨_, _, rfl, rfl, CMulW.small (by decide) (by omega) (by omega), ?_⟩
    walk_at "ii"; refine ⟨_, _, rfl, rfl, ⟨by decide, by decide, by omega⟩, ?_⟩; refine Or.inl ⟨_, rfl, ?_⟩; refine ⟨_, _, rfl, rfl, (by decide : (0 : Int) < 2305843009213693951), ?_⟩
    walk_at "v"; refine ⟨_, _, rfl, rfl, ⟨(by decide : (0 : Int) < 8192), by decide +kernel⟩, ?_⟩; refine Or.inl ⟨_, rfl, ?_⟩; walk_at "v"; refine ⟨_, _, rfl, rfl, hm, ?_⟩
    exact q _ _ (Int.emod_nonneg _ (by omega)) (Int.emod_lt_of_pos _ hm) x2 ⟨L, S, C + 1, hb2, hL, hS, hS2, by omega, by omega⟩
end Md

set_option Elab.async false
set_option linter.all false
set_option maxRecDepth 100000
set_option maxHeartbeats 4000000
namespace Md
/-! ### fractions in lowest terms (plain Lean) -/
/-- the greatest common divisor -/
def gI (p q : Int) : Int := ((Nat.gcd p.natAbs q.natAbs : Nat) : Int)
def lowN (p q : Int) : Int := p / gI p q
def lowD (p q : Int) : Int := q / gI p q
def Cop (p q : Int) : Prop := Nat.gcd p.natAbs q.natAbs = 1
theorem gI_pos {p q : Int} (h : q ≠ 0) : 0 < gI p q := by
  unfold gI
  have : 0 < Nat.gcd p.natAbs q.natAbs := Nat.gcd_pos_of_pos_right _ (by omega)
  omega
theorem gI_dvd_l (p q : Int) : gI p q ∣ p := Int.ofNat_dvd_left.mpr (Nat.gcd_dvd_left ..)
theorem gI_dvd_r (p q : Int) : gI p q ∣ q := Int.ofNat_dvd_left.mpr (Nat.gcd_dvd_right ..)
theorem low_l (p q : Int) : gI p q * lowN p q = p := Int.mul_ediv_cancel' (gI_dvd_l p q)
theorem low_r (p q : Int) : gI p q * lowD p q = q := Int.mul_ediv_cancel' (gI_dvd_r p q)
theorem lowD_pos {p q : Int} (h : 0 < q) : 0 < lowD p q := by
  have h1 := gI_pos (p := p) (q := q) (by omega)
  have h2 := low_r p q
  rcases Int.lt_or_le 0 (lowD p q) with h3 | h3
  · exact h3
  · have := Int.mul_nonpos_of_nonneg_of_nonpos (Int.le_of_lt h1) h3
    omega
theorem low_cop {p q : Int} (h : q ≠ 0) : Cop (lowN p q) (lowD p q) := by
  have h1 := gI_pos (p := p) (q := q) h
  have e1 : (gI p q).natAbs * (lowN p q).natAbs = p.natAbs := by rw [← Int.natAbs_mul, low_l]
  have e2 : (gI p q).natAbs * (lowD p q).natAbs = q.natAbs := by rw [← Int.natAbs_mul, low_r]
  have e3 : (gI p q).natAbs = Nat.gcd p.natAbs q.natAbs := by unfold gI; omega
  have e4 : Nat.gcd ((gI p q).natAbs * (lowN p q).natAbs) ((gI p q).natAbs * (lowD p q).natAbs) = (gI p q).natAbs * Nat.gcd (lowN p q).natAbs (lowD p q).natAbs := Nat.gcd_mul_left ..
  rw [e1, e2, ← e3] at e4
  have h5 : 0 < (gI p q).natAbs := by omega
  have e6 : (gI p q).natAbs * 1 = (gI p q).natAbs * Nat.gcd (lowN p q).natAbs (lowD p q).natAbs := by rw [Nat.mul_one]; exact e4
  exact (Nat.eq_of_mul_eq_mul_left h5 e6).symm
theorem low_cross {p q : Int} : lowN p q * q = p * lowD p q := by
  have h1 := low_l p q
  have h2 := low_r p q
  calc lowN p q * q = lowN p q * (gI p q * lowD p q) := by rw [h2]
    _ = (gI p q * lowN p q) * lowD p q := by rw [← Int.mul_assoc, Int.mul_comm (lowN p q)]
    _ = p * lowD p q := by rw [h1]
/-- two fractions in lowest terms of one value are one -/
theorem cop_uniq {p q p' q' : Int} (h : Cop p q) (h' : Cop p' q') (hq : 0 < q) (hq' : 0 < q') (e : p * q' = p' * q) : p = p' ∧ q = q' := by
  have e2 : p.natAbs * q'.natAbs = p'.natAbs * q.natAbs := by rw [← Int.natAbs_mul, ← Int.natAbs_mul, e]
  have d1 : q.natAbs ∣ q'.natAbs := by
    have : q.natAbs ∣ p.natAbs * q'.natAbs := by rw [e2]; exact Nat.dvd_mul_left ..
    exact (Nat.Coprime.symm h : Nat.Coprime q.natAbs p.natAbs).dvd_of_dvd_mul_left this
  have d2 : q'.natAbs ∣ q.natAbs := by
    have : q'.natAbs ∣ p'.natAbs * q.natAbs := by rw [← e2]; exact Nat.dvd_mul_left ..
    exact (Nat.Coprime.symm h' : Nat.Coprime q'.natAbs p'.natAbs).dvd_of_dvd_mul_left this
  have e3 : q.natAbs = q'.natAbs := Nat.dvd_antisymm d1 d2
  have e4 : q = q' := by omega
  subst e4
  exact ⟨Int.eq_of_mul_eq_mul_right (by omega) e, rfl⟩
theorem low_of_cop {p q : Int} (h : Cop p q) (hq : 0 < q) : lowN p q = p ∧ lowD p q = q := by
  have e : gI p q = 1 := by unfold gI; rw [h]; rfl
  unfold lowN lowD
  rw [e, Int.ediv_one, Int.ediv_one]
  exact ⟨rfl, rfl⟩
theorem low_mul {p q c : Int} (hq : 0 < q) (hc : 0 < c) : lowN (p * c) (q * c) = lowN p q ∧ lowD (p * c) (q * c) = lowD p q := by
  have hqc : 0 < q * c := Int.mul_pos hq hc
  refine cop_uniq (low_cop (by omega)) (low_cop (by omega)) (lowD_pos hqc) (lowD_pos hq) ?_
  have h1 : lowN (p * c) (q * c) * (q * c) = (p * c) * lowD (p * c) (q * c) := low_cross
  have h2 : lowN p q * q = p * lowD p q := low_cross
  -- cancel q * c
  refine Int.eq_of_mul_eq_mul_right (a := q * c) (by omega) ?_
  calc lowN (p * c) (q * c) * lowD p q * (q * c) = (lowN (p * c) (q * c) * (q * c)) * lowD p q := by rw [Int.mul_assoc, Int.mul_comm (lowD p q), ← Int.mul_assoc]
    _ = (p * c * lowD (p * c) (q * c)) * lowD p q := by rw [h1]
    _ = (p * lowD p q) * (c * lowD (p * c) (q * c)) := by
      rw [Int.mul_assoc p, Int.mul_assoc p, Int.mul_assoc p, Int.mul_comm (lowD p q)]
    _ = (lowN p q * q) * (c * lowD (p * c) (q * c)) := by rw [h2]
    _ = lowN p q * lowD (p * c) (q * c) * (q * c) := by
      rw [Int.mul_assoc, Int.mul_assoc, ← Int.mul_assoc q c, Int.mul_comm (q * c)]
theorem low_one (p : Int) : lowN p 1 = p ∧ lowD p 1 = 1 := low_of_cop (by unfold Cop; simp) (by decide)
theorem low_neg (p q : Int) : lowN (-p) q = -lowN p q ∧ lowD (-p) q = lowD p q := by
  have e : gI (-p) q = gI p q := by unfold gI; rw [Int.natAbs_neg]
  unfold lowN lowD
  rw [e]
  exact ⟨Int.neg_ediv_of_dvd (gI_dvd_l p q), rfl⟩
theorem lowN_le (p q : Int) (h : q ≠ 0) : (lowN p q).natAbs ≤ p.natAbs := by
  have e1 : (gI p q).natAbs * (lowN p q).natAbs = p.natAbs := by rw [← Int.natAbs_mul, low_l]
  have h1 := gI_pos (p := p) (q := q) h
  rw [← e1]
  exact Nat.le_mul_of_pos_left _ (by omega)
theorem lowD_le (p q : Int) (h : q ≠ 0) : (lowD p q).natAbs ≤ q.natAbs := by
  have e1 : (gI p q).natAbs * (lowD p q).natAbs = q.natAbs := by rw [← Int.natAbs_mul, low_r]
  have h1 := gI_pos (p := p) (q := q) h
  rw [← e1]
  exact Nat.le_mul_of_pos_left _ (by omega)
/-- the fraction top/bottom, bottom of either sign -/
def frN (p q : Int) : Int := if q < 0 then lowN (-p) (-q) else lowN p q
def frD (p q : Int) : Int := if q < 0 then lowD (-p) (-q) else lowD p q
theorem gI_neg (p q : Int) : gI (-p) (-q) = gI p q := by unfold gI; rw [Int.natAbs_neg, Int.natAbs_neg]
theorem frD_pos {p q : Int} (h : q ≠ 0) : 0 < frD p q := by
  unfold frD
  split
  · exact lowD_pos (by omega)
  · exact lowD_pos (by omega)
theorem fr_cop {p q : Int} (h : q ≠ 0) : Cop (frN p q) (frD p q) := by
  unfold frN frD
  split
  · exact low_cop (by omega)
  · exact low_cop h
/-! ### sizes -/
theorem nat_mul_lt {a b m n : Nat} (h1 : a < 2 ^ m) (h2 : b < 2 ^ n) : a * b < 2 ^ (m + n) := by
  rw [Nat.pow_add]
  exact Nat.mul_lt_mul'' h1 h2
theorem int_mul_lt {a b : Int} {m n : Nat} (h1 : a.natAbs < 2 ^ m) (h2 : b.natAbs < 2 ^ n) : (a * b).natAbs < 2 ^ (m + n) := by
  rw [Int.natAbs_mul]
  exact nat_mul_lt h1 h2
theorem pow_mono {m n : Nat} {a : Nat} (h : a < 2 ^ m) (l : m ≤ n) : a < 2 ^ n := Nat.lt_of_lt_of_le h (Nat.pow_le_pow_right (by decide) l)
end Md

set_option Elab.async false
set_option linter.all false
set_option maxRecDepth 100000
set_option maxHeartbeats 4000000
namespace Md
open PySem PySem.Spec PyProof.Rows PySem.Calls L2
local macro_rules | `(tactic| walk_at "v") => `(tactic| refine ⟨_, rfl, ?_⟩)
local macro_rules | `(tactic| walk_at "ii") => `(tactic| refine ⟨_, _, rfl, rfl, ?_⟩)
local macro_rules | `(tactic| walk_at "ixL") => `(tactic| refine Or.inl ⟨_, _, _, _, rfl, rfl, SqL.of (by assumption), rfl, ?_⟩)
local macro_rules | `(tactic| walk_at "ixT") => `(tactic| refine Or.inr (Or.inl ⟨_, _, _, _, rfl, rfl, SqT.of (by assumption), rfl, ?_⟩))

/-! ### types of values -/
def isIntV : V → Bool
  | .int _ => true
  | _ => false
def isBoolV : V → Bool
  | .bl _ => true
  | _ => false
theorem isi_of {K : PySem.W.Frag} {H : Hp} {x : V} {T C : String} {b : Bool} {Q : VK} (ty : TyX K H x (.type T)) (h : kitB T C = some b) (q : Q (.bl b) H) : rIsi K [x, .ty C] H Q := ⟨x, .ty C, _, _, b, rfl, .ty C, ty, kit_ty h, q⟩
theorem kit_int {K : PySem.W.Frag} {H : Hp} {x : V} {T : String} (ty : TyX K H x (.type T)) : kitB T "int" = some (isIntV x || isBoolV x) ∧ kitB T "bool" = some (isBoolV x) := by
  cases ty with
  | base b => cases b <;> (constructor <;> (simp only [isIntV, isBoolV, Bool.or_false, Bool.or_true, Bool.false_or, Bool.true_or]; decide +kernel))
  | _ => constructor <;> (simp only [isIntV, isBoolV, Bool.or_false, Bool.or_true, Bool.false_or, Bool.true_or]; decide +kernel)
theorem ty_int {K : PySem.W.Frag} {H : Hp} {i : Int} : TyX K H (.int i) (.type "int") := .base (.int i)
theorem ty_tup {K : PySem.W.Frag} {H : Hp} {a : Addr} {xs : List V} (h : H a = some (.tup xs)) : TyX K H (.ref a) (.type "tuple") := .base (.tup h)

/-! ### an error class of one field -/
def spXi (C : Addr) (f : Str) : Sp := fun vs H Q _ => ∃ (a : Addr) (x : V), vs = [.ref a, x] ∧ H a = some (exo a C none) ∧ ∀ d, H d = none → d ≠ a → Q .non (upd (upd H d (exd d [(f, x)])) a (exo a C (some d)))
theorem len_xi {C : Addr} {f : Str} {vs : List V} {H : Hp} {Q : VK} {E : XK} (h : spXi C f vs H Q E) : vs.length = 2 := by
  obtain ⟨a, x, rfl, _⟩ := h
  rfl
def t_xi (K : PySem.W.Frag) (f : Str) : TS := tOst K f (tVar 0) (tVar 1)
theorem pure_xi {K : PySem.W.Frag} {C : Addr} {f n : Str} (T : OexC K C) (hn : PySem.W.findIn K (.ref C) f = some none) {vs : List V} {H : Hp} {Q : VK} {E : XK} (h : spXi C f vs H Q E) :
    t_xi K f { nx := fun _ H' => Q .non H', rt := Q } (start ["self", n] vs) H := by
  obtain ⟨a, x, rfl, ha, q⟩ := h
  walk_at "v"; walk_at "v"
  exact ⟨a, C, rfl, T, hn, .inl ⟨ha, fun dx h1 h2 => q dx h1 h2⟩⟩
/-- such an error is made -/
theorem mk_xi {C : Addr} {f : Str} {x : V} {H : Hp} {Q : XK} (q : ∀ d H', Same H H' → H' d = some (.xd [(f, x)]) → Q (.ref C) (some d) H') :
    [x].length ≤ 1000 ∧ ∀ a, H a = none → spXi C f (.ref a :: ([x] ++ [])) (upd H a (exo a C none)) (fun v H2 => v = .non ∧ ∃ (d : Addr) (fs : List (Str × V)), H2 a = some (exo a C (some d)) ∧ H2 d = some (exd d fs) ∧ H d = none ∧ Q (.ref C) (some d) (upd (del H2 a) d (.xd fs))) (fun _ _ _ => False) := by
  refine ⟨by show 1 ≤ 1000; decide, fun a ha => ⟨a, x, rfl, upd_same, fun d hd hda => ⟨rfl, d, [(f, x)], upd_same, ?_, ?_, ?_⟩⟩⟩
  · rw [upd_ne hda, upd_same]
  · rw [upd_ne hda] at hd; exact hd
  · rw [upd_ne hda] at hd
    refine q d _ (fun b o e => ?_) upd_same
    have nb : b ≠ d := ne_of_none e hd
    have na : b ≠ a := ne_of_none e ha
    rw [upd_ne nb, del_ne na, upd_ne na, upd_ne nb, upd_ne na]
    exact e

/-! ### numbers in the heap -/
def NumAt (H : Hp) (x : V) (p q : Int) : Prop := (x = .int p ∧ q = 1) ∨ ∃ a, x = .ref a ∧ H a = some (.tup [.int p, .int q]) ∧ 2 ≤ q ∧ Cop p q
def PairAt (H : Hp) (x : V) (p q : Int) : Prop := ∃ a, x = .ref a ∧ H a = some (.tup [.int p, .int q])
theorem NumAt.same {H H' : Hp} {x : V} {p q : Int} (h : NumAt H x p q) (s : Same H H') : NumAt H' x p q := by
  rcases h with h | ⟨a, e, ha, h⟩
  · exact .inl h
  · exact .inr ⟨a, e, s _ _ ha, h⟩
theorem NumAt.xb {H H' : Hp} {x : V} {p q : Int} {b : Addr} {n : Nat} (h : NumAt H x p q) (hb : Bag n H b) (s : Xb b H H') : NumAt H' x p q := by
  rcases h with h | ⟨a, e, ha, h⟩
  · exact .inl h
  · exact .inr ⟨a, e, s.tupB hb ha, h⟩
theorem NumAt.pos {H : Hp} {x : V} {p q : Int} (h : NumAt H x p q) : 0 < q := by
  rcases h with ⟨_, h⟩ | ⟨a, e, ha, h, _⟩ <;> omega
theorem NumAt.cop {H : Hp} {x : V} {p q : Int} (h : NumAt H x p q) : Cop p q := by
  rcases h with ⟨_, h⟩ | ⟨a, e, ha, h, c⟩
  · subst h; unfold Cop; simp
  · exact c
theorem NumAt.ty {K : PySem.W.Frag} {H : Hp} {x : V} {p q : Int} (h : NumAt H x p q) : ∃ T, TyX K H x (.type T) := by
  rcases h with ⟨rfl, h⟩ | ⟨a, rfl, ha, h, _⟩
  · exact ⟨_, ty_int⟩
  · exact ⟨_, ty_tup ha⟩
theorem PairAt.same {H H' : Hp} {x : V} {p q : Int} (h : PairAt H x p q) (s : Same H H') : PairAt H' x p q := by
  obtain ⟨a, e, ha⟩ := h
  exact ⟨a, e, s _ _ ha⟩
theorem PairAt.xb {H H' : Hp} {x : V} {p q : Int} {b : Addr} {n : Nat} (h : PairAt H x p q) (hb : Bag n H b) (s : Xb b H H') : PairAt H' x p q := by
  obtain ⟨a, e, ha⟩ := h
  exact ⟨a, e, s.tupB hb ha⟩
theorem NumAt.int (H : Hp) (p : Int) : NumAt H (.int p) p 1 := .inl ⟨rfl, rfl⟩
/-- a fraction in lowest terms, laid as a number -/
theorem NumAt.eqv {H : Hp} {x : V} {p q p' q' : Int} (h : NumAt H x p q) (e1 : p = p') (e2 : q = q') : NumAt H x p' q' := by subst e1 e2; exact h

/-! ### is_whole, _law_is_int -/
def t_is_whole (K : PySem.W.Frag) (A : Ads) (E : XK) : TS :=
    (tRet (tAndV (tCB (rIsi K) (tCons (tVar 0) (tCons (tC (.ty "int")) tNil))) (tNotV (tCB (rIsi K) (tCons (tVar 0) (tCons (tC (.ty "bool")) tNil))))))
def n_is_whole : List Str := ["thing"]
def sp_is_whole (K : PySem.W.Frag) (A : Ads) : Sp := fun vs H Q _ => ∃ (x : V) (T : String), vs = [x] ∧ TyX K H x (.type T) ∧ Q (.bl (isIntV x)) H
theorem len_is_whole {K : PySem.W.Frag} {A : Ads} {vs : List V} {H : Hp} {Q : VK} {E : XK} (h : sp_is_whole K A vs H Q E) : vs.length = 1 := by
  obtain ⟨x, T, rfl, _⟩ := h
  rfl
theorem pure_is_whole {K : PySem.W.Frag} {A : Ads} {vs : List V} {H : Hp} {Q : VK} {E : XK} (h : sp_is_whole K A vs H Q E) : t_is_whole K A E { nx := fun _ H' => Q .non H', rt := Q } (start n_is_whole vs) H := by
  obtain ⟨x, T, rfl, ty, q⟩ := h
  obtain ⟨e1, e2⟩ := kit_int ty
  walk_at "v"
  refine ⟨_, _, _, _, _, rfl, .ty _, ty, kit_ty e1, ?_⟩
  refine ⟨_, rfl, ?_⟩
  refine iteB (fun h1 => ?_) (fun h1 => ?_)
  · walk_at "v"
    refine ⟨_, _, _, _, _, rfl, .ty _, ty, kit_ty e2, ?_⟩
    refine ⟨_, rfl, ?_⟩
    cases x <;> first | exact q | (simp [isIntV, isBoolV] at h1)
  · cases x <;> first | exact q | (simp [isIntV, isBoolV] at h1)
def t__law_is_int (K : PySem.W.Frag) (A : Ads) (E : XK) : TS :=
    (tRet (tAndV (tCB (rIsi K) (tCons (tVar 0) (tCons (tC (.ty "int")) tNil))) (tNotV (tCB (rIsi K) (tCons (tVar 0) (tCons (tC (.ty "bool")) tNil))))))
def n__law_is_int : List Str := ["_law_thing"]
def sp__law_is_int (K : PySem.W.Frag) (A : Ads) : Sp := sp_is_whole K A
theorem len__law_is_int {K : PySem.W.Frag} {A : Ads} {vs : List V} {H : Hp} {Q : VK} {E : XK} (h : sp__law_is_int K A vs H Q E) : vs.length = 1 := len_is_whole h
theorem pure__law_is_int {K : PySem.W.Frag} {A : Ads} {vs : List V} {H : Hp} {Q : VK} {E : XK} (h : sp__law_is_int K A vs H Q E) : t__law_is_int K A E { nx := fun _ H' => Q .non H', rt := Q } (start n__law_is_int vs) H := pure_is_whole h

/-! ### number -/
def sp_BadNumber___init__ (K : PySem.W.Frag) (A : Ads) : Sp := spXi A.cBadNumber "thing"
def t_number (K : PySem.W.Frag) (A : Ads) (E : XK) : TS :=
    (tSeq (tIfS (tTest (tOp rEq (tVar 1) (tC (.int 0)))) (tRaise E (tMkO A.cBadNumber (sp_BadNumber___init__ K A) [] (tCons (tVar 1) tNil))) tNext)
    (tSeq (tAsg (tCB rGcd (tCons (tVar 0) (tCons (tVar 1) tNil))) (gName 2))
    (tSeq (tIfS (tTest (tOp rLt (tVar 1) (tC (.int 0)))) (tAsg (tUn rNeg (tVar 2)) (gName 2)) tNext)
    (tSeq (tIfS (tTest (tOp rEq (tVar 1) (tVar 2))) (tRet (tOp rFdvG (tVar 0) (tVar 2))) tNext)
    (tRet (tTup (tCons (tOp rFdvG (tVar 0) (tVar 2)) (tCons (tOp rFdvG (tVar 1) (tVar 2)) tNil))))))))
def n_number : List Str := ["top", "bottom", "shared"]
def sp_number (K : PySem.W.Frag) (A : Ads) : Sp := fun vs H Q E => ∃ p q : Int, vs = [.int p, .int q] ∧ q.natAbs < 2 ^ 9000 ∧ (q ≠ 0 → ∀ x H', Same H H' → NumAt H' x (frN p q) (frD p q) → Q x H') ∧
  (q = 0 → ∀ d H', Same H H' → H' d = some (.xd [("thing", .int 0)]) → E (.ref A.cBadNumber) (some d) H')
theorem len_number {K : PySem.W.Frag} {A : Ads} {vs : List V} {H : Hp} {Q : VK} {E : XK} (h : sp_number K A vs H Q E) : vs.length = 2 := by
  obtain ⟨p, q, rfl, _⟩ := h
  rfl
theorem fdiv_exact {p s k : Int} (hs : s ≠ 0) (e : p = s * k) : p.fdiv s = k := by rw [e]; exact Int.mul_fdiv_cancel_left k hs
theorem gI_size {p q : Int} (h : q ≠ 0) : (gI p q).natAbs ≤ q.natAbs := by
  have e1 : (gI p q).natAbs * (lowD p q).natAbs = q.natAbs := by rw [← Int.natAbs_mul, low_r]
  have : 0 < (lowD p q).natAbs := by
    rcases Nat.eq_zero_or_pos (lowD p q).natAbs with z | z
    · rw [z] at e1; omega
    · exact z
  rw [← e1]
  exact Nat.le_mul_of_pos_right _ this
theorem pure_number {K : PySem.W.Frag} {A : Ads} {vs : List V} {H : Hp} {Q : VK} {E : XK} (h : sp_number K A vs H Q E) : t_number K A E { nx := fun _ H' => Q .non H', rt := Q } (start n_number vs) H := by
  obtain ⟨p, q, rfl, hz, kQ, kE⟩ := h
  walk_at "v"; refine ⟨rfl, ?_⟩; walk_at "v"
  refine iteD (fun h0 => ?_) (fun h0 => ?_)
  · have e0 : q = 0 := V.int.inj h0
    subst e0
    walk_at "v"
    exact mk_xi fun d H' s e => kE rfl d H' s e
  have hq : q ≠ 0 := fun z => h0 (by rw [z])
  have hg := gI_pos (p := p) (q := q) hq
  have hs := gI_size (p := p) hq
  walk_at "v"; walk_at "v"; refine ⟨_, _, rfl, ?_⟩
  have main : ∀ s : Int, (s = gI p q ∧ 0 < q ∨ s = -gI p q ∧ q < 0) → (tSeq (tIfS (tTest (tOp rEq (tVar 1) (tVar 2))) (tRet (tOp rFdvG (tVar 0) (tVar 2))) tNext) (tRet (tTup (tCons (tOp rFdvG (tVar 0) (tVar 2)) (tCons (tOp rFdvG (tVar 1) (tVar 2)) tNil)))))
      { nx := fun _ H' => Q .non H', rt := Q } [some (.int p), some (.int q), some (.int s)] H := by
    intro s hs2
    have s0 : s ≠ 0 := by omega
    have sz : s.natAbs.log2 < 9000 := pow_lt (Nat.lt_of_le_of_lt (by omega) hz) (by decide)
    obtain ⟨eN, eD⟩ : p.fdiv s = frN p q ∧ q.fdiv s = frD p q := by
      unfold frN frD
      rcases hs2 with ⟨e, h1⟩ | ⟨e, h1⟩
      · rw [if_neg (by omega), if_neg (by omega), e]
        exact ⟨fdiv_exact (by omega) (low_l p q).symm, fdiv_exact (by omega) (low_r p q).symm⟩
      · rw [if_pos h1, if_pos h1]
        have l1 := low_l (-p) (-q)
        have l2 := low_r (-p) (-q)
        rw [gI_neg] at l1 l2
        refine ⟨fdiv_exact s0 ?_, fdiv_exact s0 ?_⟩
        · rw [e, Int.neg_mul, l1, Int.neg_neg]
        · rw [e, Int.neg_mul, l2, Int.neg_neg]
    have hD := frD_pos (p := p) hq
    have hC := fr_cop (p := p) hq
    walk_at "v"; walk_at "v"; refine ⟨rfl, ?_⟩; walk_at "v"
    refine iteD (fun h1 => ?_) (fun h1 => ?_)
    · have e1 : q = s := V.int.inj h1
      walk_at "v"; walk_at "v"; refine ⟨_, _, rfl, rfl, ⟨s0, sz⟩, ?_⟩
      refine kQ hq _ _ (Same.refl H) (.inl ⟨congrArg V.int eN, ?_⟩)
      rw [← eD, ← e1]
      exact fdiv_exact hq (by omega)
    · walk_at "v"; walk_at "v"; refine ⟨_, _, rfl, rfl, ⟨s0, sz⟩, ?_⟩
      walk_at "v"; walk_at "v"; refine ⟨_, _, rfl, rfl, ⟨s0, sz⟩, ?_⟩
      refine ⟨by show 2 ≤ sizeLine; decide, fun a ha => ?_⟩
      refine kQ hq _ _ (Same.new ha) (.inr ⟨a, rfl, ?_, ?_, hC⟩)
      · exact upd_same.trans (by show some (HO.tup [V.int (p.fdiv s), V.int (q.fdiv s)]) = _; rw [eN, eD])
      · rcases Int.lt_or_le (frD p q) 2 with z | z
        · exfalso
          have z1 : frD p q = 1 := by omega
          apply h1
          have : q = s * frD p q := by
            rcases hs2 with ⟨e, h2⟩ | ⟨e, h2⟩
            · unfold frD; rw [if_neg (by omega), e, low_r]
            · unfold frD
              have l2 := low_r (-p) (-q)
              rw [gI_neg] at l2
              rw [if_pos h2, e, Int.neg_mul, l2, Int.neg_neg]
          rw [z1, Int.mul_one] at this
          rw [this]
        · exact z
  walk_at "v"; walk_at "ii"; walk_at "v"
  refine iteD (fun h1 => ?_) (fun h1 => ?_)
  · walk_at "v"; walk_at "v"
    exact main _ (.inr ⟨rfl, h1⟩)
  · exact main _ (.inl ⟨rfl, by omega⟩)
end Md

set_option Elab.async false
set_option linter.all false
set_option maxRecDepth 100000
set_option maxHeartbeats 4000000
namespace Md
open PySem PySem.Spec PyProof.Rows PySem.Calls L2
local macro_rules | `(tactic| walk_at "v") => `(tactic| refine ⟨_, rfl, ?_⟩)
local macro_rules | `(tactic| walk_at "ii") => `(tactic| refine ⟨_, _, rfl, rfl, ?_⟩)
local macro_rules | `(tactic| walk_at "ixL") => `(tactic| refine Or.inl ⟨_, _, _, _, rfl, rfl, SqL.of (by assumption), rfl, ?_⟩)
local macro_rules | `(tactic| walk_at "ixT") => `(tactic| refine Or.inr (Or.inl ⟨_, _, _, _, rfl, rfl, SqT.of (by assumption), rfl, ?_⟩))

/-! ### _over -/
def t__over (K : PySem.W.Frag) (A : Ads) (E : XK) : TS :=
    (tSeq (tIfS (tB (tCall (sp_is_whole K A) [] E0 (tCons (tVar 0) tNil))) (tRet (tTup (tCons (tVar 0) (tCons (tC (.int 1)) tNil)))) tNext)
    (tRet (tVar 0)))
def n__over : List Str := ["value"]
def sp__over (K : PySem.W.Frag) (A : Ads) : Sp := fun vs H Q _ => ∃ (x : V) (p q : Int), vs = [x] ∧ NumAt H x p q ∧ ∀ y H', Same H H' → PairAt H' y p q → Q y H'
theorem len__over {K : PySem.W.Frag} {A : Ads} {vs : List V} {H : Hp} {Q : VK} {E : XK} (h : sp__over K A vs H Q E) : vs.length = 1 := by
  obtain ⟨x, p, q, rfl, _⟩ := h
  rfl
theorem pure__over {K : PySem.W.Frag} {A : Ads} {vs : List V} {H : Hp} {Q : VK} {E : XK} (h : sp__over K A vs H Q E) : t__over K A E { nx := fun _ H' => Q .non H', rt := Q } (start n__over vs) H := by
  obtain ⟨x, p, q, rfl, hn, k⟩ := h
  rcases hn with ⟨rfl, rfl⟩ | ⟨a, rfl, ha, h2, hc⟩
  · walk_at "v"
    refine ⟨_, _, rfl, ty_int, ⟨_, rfl, ?_⟩⟩
    show (if true = true then _ else _)
    refine iteT ?_
    walk_at "v"
    refine ⟨by show 2 ≤ sizeLine; decide, fun t ht => ?_⟩
    exact k _ _ (Same.new ht) ⟨t, rfl, upd_same⟩
  · walk_at "v"
    refine ⟨_, _, rfl, ty_tup ha, ⟨_, rfl, ?_⟩⟩
    refine iteF ?_
    walk_at "v"
    exact k _ _ (Same.refl H) ⟨a, rfl, ha⟩
/-! ### compare -/
def cmpI (a b : Int) : Int := if a < b then -1 else if b < a then 1 else 0
def t_compare (K : PySem.W.Frag) (A : Ads) (E : XK) : TS :=
    (tSeq (tAsg (tCall (sp__over K A) [] E0 (tCons (tVar 0) tNil)) (gTup K 2 (gCons (gName 4) (gCons (gName 5) gNil))))
    (tSeq (tAsg (tCall (sp__over K A) [] E0 (tCons (tVar 1) tNil)) (gTup K 2 (gCons (gName 6) (gCons (gName 7) gNil))))
    (tSeq (tAsg (tOp rMulW (tVar 4) (tVar 7)) (gName 2))
    (tSeq (tAsg (tOp rMulW (tVar 6) (tVar 5)) (gName 3))
    (tSeq (tIfS (tTest (tOp rLt (tVar 2) (tVar 3))) (tRet (tUn rNeg (tC (.int 1)))) tNext)
    (tRet (tIf (tTest (tOp rGt (tVar 2) (tVar 3))) (tC (.int 1)) (tC (.int 0)))))))))
def n_compare : List Str := ["one", "other", "left", "right", "top", "bottom", "other_top", "other_bottom"]
def sp_compare (K : PySem.W.Frag) (A : Ads) : Sp := fun vs H Q _ => ∃ (x y : V) (p q p' q' : Int), vs = [x, y] ∧ NumAt H x p q ∧ NumAt H y p' q' ∧ (p.natAbs < 2 ^ 9000 ∧ q.natAbs < 2 ^ 9000 ∧ p'.natAbs < 2 ^ 9000 ∧ q'.natAbs < 2 ^ 9000) ∧
  ∀ H', Same H H' → Q (.int (cmpI (p * q') (p' * q))) H'
theorem len_compare {K : PySem.W.Frag} {A : Ads} {vs : List V} {H : Hp} {Q : VK} {E : XK} (h : sp_compare K A vs H Q E) : vs.length = 2 := by
  obtain ⟨x, y, p, q, p', q', rfl, _⟩ := h
  rfl
theorem mulW {i j : Int} (h1 : i.natAbs < 2 ^ 9001) (h2 : j.natAbs < 2 ^ 9001) : CMulW i j := wide_mul h1 h2 (by decide) (by decide) (by decide)
theorem mulW0 {i j : Int} (h1 : i.natAbs < 2 ^ 9000) (h2 : j.natAbs < 2 ^ 9000) : CMulW i j := mulW (pow_mono h1 (by decide)) (pow_mono h2 (by decide))
theorem pure_compare {K : PySem.W.Frag} {A : Ads} {vs : List V} {H : Hp} {Q : VK} {E : XK} (h : sp_compare K A vs H Q E) : t_compare K A E { nx := fun _ H' => Q .non H', rt := Q } (start n_compare vs) H := by
  obtain ⟨x, y, p, q, p', q', rfl, h1, h2, ⟨z1, z2, z3, z4⟩, k⟩ := h
  walk_at "v"
  refine ⟨_, _, _, rfl, h1, fun u H1 s1 hu => ?_⟩
  obtain ⟨a, rfl, ha⟩ := hu
  refine ⟨a, _, rfl, SqT.of ha, rfl, _, _, rfl, _, _, rfl, rfl, ?_⟩
  walk_at "v"
  refine ⟨_, _, _, rfl, h2.same s1, fun u2 H2 s2 hu2 => ?_⟩
  obtain ⟨a2, rfl, ha2⟩ := hu2
  refine ⟨a2, _, rfl, SqT.of ha2, rfl, _, _, rfl, _, _, rfl, rfl, ?_⟩
  have s3 := Same.trans s1 s2
  walk_at "v"; walk_at "v"; refine ⟨_, _, rfl, rfl, mulW0 z1 z4, ?_⟩
  walk_at "v"; walk_at "v"; refine ⟨_, _, rfl, rfl, mulW0 z3 z2, ?_⟩
  have kk := k H2 s3
  unfold cmpI at kk
  walk_at "v"; walk_at "v"; walk_at "ii"; walk_at "v"
  refine iteD (fun h0 => ?_) (fun h0 => ?_)
  · refine ⟨_, rfl, ?_⟩
    rw [if_pos h0] at kk
    exact kk
  · rw [if_neg h0] at kk
    walk_at "v"; walk_at "v"; walk_at "ii"; walk_at "v"
    refine iteD (fun h3 => ?_) (fun h3 => ?_)
    · rw [if_pos h3] at kk
      exact kk
    · rw [if_neg h3] at kk
      exact kk
/-! ### _negative -/
def t__negative (K : PySem.W.Frag) (A : Ads) (E : XK) : TS :=
    (tRet (tTup (tCons (tUn rNeg (tOp (rIx K) (tVar 0) (tC (.int 0)))) (tCons (tOp (rIx K) (tVar 0) (tC (.int 1))) tNil))))
def n__negative : List Str := ["over"]
def sp__negative (K : PySem.W.Frag) (A : Ads) : Sp := fun vs H Q _ => ∃ (x : V) (p q : Int), vs = [x] ∧ PairAt H x p q ∧ ∀ y H', Same H H' → PairAt H' y (-p) q → Q y H'
theorem len__negative {K : PySem.W.Frag} {A : Ads} {vs : List V} {H : Hp} {Q : VK} {E : XK} (h : sp__negative K A vs H Q E) : vs.length = 1 := by
  obtain ⟨x, p, q, rfl, _⟩ := h
  rfl
theorem pure__negative {K : PySem.W.Frag} {A : Ads} {vs : List V} {H : Hp} {Q : VK} {E : XK} (h : sp__negative K A vs H Q E) : t__negative K A E { nx := fun _ H' => Q .non H', rt := Q } (start n__negative vs) H := by
  obtain ⟨x, p, q, rfl, ⟨a, rfl, ha⟩, k⟩ := h
  walk_at "v"; walk_at "ixT"; walk_at "v"; walk_at "v"; walk_at "ixT"
  refine ⟨by show 2 ≤ sizeLine; decide, fun t ht => ?_⟩
  exact k _ _ (Same.new ht) ⟨t, rfl, upd_same⟩

/-! ### _law_bag -/
def t__law_bag (K : PySem.W.Frag) (A : Ads) (E : XK) : TS :=
    (tSeq (tAsg (tIf (tTest (tOp rLt (tVar 1) (tCB (rLen K) (tCons (tVar 0) tNil)))) (tOp (rIx K) (tVar 0) (tVar 1)) (tC (.int 0))) (gName 2))
    (tSeq (tAsg (tIf (tTest (tOp rGe (tCB rAbs (tCons (tVar 2) tNil)) (tOp rPow (tC (.int 10)) (tC (.int 18))))) (tCB rAbs (tCons (tVar 2) tNil)) (tC (.int 0))) (gName 3))
    (tRet (tLst (tCons (tVar 3) (tCons (tOp rAdd (tOp rAdd (tOp rMulW (tOp rMod (tCB rInt1 (tCons (tVar 2) tNil)) (tC (.int 2305843009213693951))) (tC (.int 7))) (tOp rMulW (tC (.int 9176)) (tVar 1))) (tC (.int 7001))) (tCons (tC (.int 0)) tNil)))))))
def n__law_bag : List Str := ["_law_script", "_law_at", "_law_cell", "_law_large"]
def sp__law_bag (K : PySem.W.Frag) (A : Ads) : Sp := fun vs H Q _ => ∃ (s : Addr) (ns : List Int) (at_ : Int), vs = [.ref s, .int at_] ∧ SqL K H s (ns.map V.int) ∧ ns.length ≤ 63 ∧ 0 ≤ at_ ∧ at_ ≤ 62 ∧ ∀ b H', H b = none → Same H H' → Bag 549755813888 H' b → Q (.ref b) H'
theorem len__law_bag {K : PySem.W.Frag} {A : Ads} {vs : List V} {H : Hp} {Q : VK} {E : XK} (h : sp__law_bag K A vs H Q E) : vs.length = 2 := by
  obtain ⟨x, p, q, rfl, _⟩ := h
  rfl
theorem atI_map {ns : List Int} {i : Int} (h0 : 0 ≤ i) (h1 : i < ns.length) : ∃ c, atI (ns.map V.int) i = some (.int c) := by
  have h2 : i.toNat < ns.length := by omega
  refine ⟨ns[i.toNat], ?_⟩
  unfold atI ixN
  rw [if_pos h0, List.length_map, if_pos h1]
  show (ns.map V.int)[i.toNat]? = _
  rw [List.getElem?_map, List.getElem?_eq_getElem h2]
  rfl
theorem pure__law_bag {K : PySem.W.Frag} {A : Ads} {vs : List V} {H : Hp} {Q : VK} {E : XK} (h : sp__law_bag K A vs H Q E) : t__law_bag K A E { nx := fun _ H' => Q .non H', rt := Q } (start n__law_bag vs) H := by
  obtain ⟨s, ns, i, rfl, hs, hn, h0, h1, k⟩ := h
  have main : ∀ c : Int, (tSeq (tAsg (tIf (tTest (tOp rGe (tCB rAbs (tCons (tVar 2) tNil)) (tOp rPow (tC (.int 10)) (tC (.int 18))))) (tCB rAbs (tCons (tVar 2) tNil)) (tC (.int 0))) (gName 3))
    (tRet (tLst (tCons (tVar 3) (tCons (tOp rAdd (tOp rAdd (tOp rMulW (tOp rMod (tCB rInt1 (tCons (tVar 2) tNil)) (tC (.int 2305843009213693951))) (tC (.int 7))) (tOp rMulW (tC (.int 9176)) (tVar 1))) (tC (.int 7001))) (tCons (tC (.int 0)) tNil))))))
     { nx := fun _ H' => Q .non H', rt := Q } [some (.ref s), some (.int i), some (.int c), none] H := by
    intro c
    have fin : ∀ L : Int, 0 ≤ L → (tRet (tLst (tCons (tVar 3) (tCons (tOp rAdd (tOp rAdd (tOp rMulW (tOp rMod (tCB rInt1 (tCons (tVar 2) tNil)) (tC (.int 2305843009213693951))) (tC (.int 7))) (tOp rMulW (tC (.int 9176)) (tVar 1))) (tC (.int 7001))) (tCons (tC (.int 0)) tNil)))))
     { nx := fun _ H' => Q .non H', rt := Q } [some (.ref s), some (.int i), some (.int c), some (.int L)] H := by
      intro L hL
      have b1 := Int.emod_nonneg c (by decide : (2305843009213693951 : Int) ≠ 0)
      have b2 := Int.emod_lt_of_pos c (by decide : (0 : Int) < 2305843009213693951)
      walk_at "v"; walk_at "v"; refine Or.inl ⟨_, rfl, ?_⟩; refine ⟨_, _, rfl, rfl, (by decide : (0 : Int) < 2305843009213693951), ?_⟩
      refine ⟨_, _, rfl, rfl, CMulW.small (by omega) (by decide) (by decide), ?_⟩
      walk_at "v"; refine ⟨_, _, rfl, rfl, CMulW.small (by decide) (by omega) (by omega), ?_⟩
      walk_at "ii"; walk_at "ii"
      refine ⟨by show 3 ≤ sizeLine; decide, fun t ht => ?_⟩
      refine k t _ ht (Same.new ht) ⟨L, _, 0, upd_same, hL, by omega, by omega, by omega, by omega⟩
    walk_at "v"; walk_at "v"; refine ⟨_, _, rfl, rfl, ⟨by decide, by decide, by decide⟩, ?_⟩; walk_at "ii"; walk_at "v"
    refine iteD (fun h2 => ?_) (fun h2 => ?_)
    · walk_at "v"; walk_at "v"
      refine fin _ ?_
      split <;> omega
    · exact fin 0 (by omega)
  walk_at "v"; walk_at "v"; refine ⟨_, _, rfl, Or.inl ⟨_, hs, rfl⟩, ?_⟩; walk_at "ii"; walk_at "v"
  refine iteD (fun h2 => ?_) (fun h2 => ?_)
  · rw [List.length_map] at h2
    obtain ⟨c, hc⟩ := atI_map h0 h2
    walk_at "v"; walk_at "v"
    refine Or.inl ⟨_, _, _, _, rfl, rfl, hs, hc, ?_⟩
    exact main c
  · exact main 0

/-! ### _law_value -/
def t__law_value (K : PySem.W.Frag) (A : Ads) (E : XK) : TS :=
    (tSeq (tPar 2 3 (tCons (tCB rAbs (tCons (tVar 0) tNil)) (tCons (tVar 1) tNil)))
    (tSeq (tWhile (tTest (tOp rGt (tVar 2) (tC (.int 0)))) (tPar 2 3 (tCons (tOp rMod (tCB rInt1 (tCons (tVar 3) tNil)) (tVar 2)) (tCons (tVar 2) tNil))))
    (tRet (tIf (tTest (tOp rEq (tVar 1) (tVar 3))) (tOp rFdvW (tVar 0) (tVar 3)) (tTup (tCons (tOp rFdvW (tVar 0) (tVar 3)) (tCons (tOp rFdvW (tVar 1) (tVar 3)) tNil)))))))
def n__law_value : List Str := ["_law_p", "_law_q", "_law_low", "_law_high"]
def sp__law_value (K : PySem.W.Frag) (A : Ads) : Sp := fun vs H Q _ => ∃ p q : Int, vs = [.int p, .int q] ∧ 0 < q ∧ q.natAbs < 2 ^ 9000 ∧ ∀ x H', Same H H' → NumAt H' x (lowN p q) (lowD p q) → Q x H'
theorem len__law_value {K : PySem.W.Frag} {A : Ads} {vs : List V} {H : Hp} {Q : VK} {E : XK} (h : sp__law_value K A vs H Q E) : vs.length = 2 := by
  obtain ⟨p, q, rfl, _⟩ := h
  rfl
theorem gI_step {l h : Int} (hl : 0 < l) (hh : 0 ≤ h) : gI (h % l) l = gI l h := by
  unfold gI
  obtain ⟨m, rfl⟩ := Int.eq_ofNat_of_zero_le (Int.le_of_lt hl)
  obtain ⟨n, rfl⟩ := Int.eq_ofNat_of_zero_le hh
  have e : ((n : Int) % (m : Int)).natAbs = n % m := by rw [← Int.natCast_emod]; rfl
  rw [e]
  show ((Nat.gcd (n % m) m : Nat) : Int) = ((Nat.gcd m n : Nat) : Int)
  rw [Nat.gcd_rec m n]
theorem pure__law_value {K : PySem.W.Frag} {A : Ads} {vs : List V} {H : Hp} {Q : VK} {E : XK} (h : sp__law_value K A vs H Q E) : t__law_value K A E { nx := fun _ H' => Q .non H', rt := Q } (start n__law_value vs) H := by
  obtain ⟨p, q, rfl, hq, hz, k⟩ := h
  walk_at "v"; walk_at "v"; walk_at "v"
  refine ⟨_, _, rfl, ?_⟩
  refine ⟨fun m σ H' => H' = H ∧ ∃ l h : Int, σ = [some (.int p), some (.int q), some (.int l), some (.int h)] ∧ 0 ≤ l ∧ 0 < h ∧ gI l h = gI p q ∧ m = l.toNat, ⟨_, rfl, _, _, rfl, ?_, hq, ?_, rfl⟩, ?_⟩
  · split <;> omega
  · show gI (if p < 0 then -p else p) q = gI p q
    unfold gI
    split
    · rw [Int.natAbs_neg]
    · rfl
  · rintro m σ H' ⟨rfl, l, h, rfl, h0, h1, hg, rfl⟩
    walk_at "v"; walk_at "ii"; walk_at "v"
    refine iteD (fun h2 => ?_) (fun h2 => ?_)
    · refine ⟨_, fun σ' H' z => z, ?_⟩
      · walk_at "v"; refine Or.inl ⟨_, rfl, ?_⟩; walk_at "v"; refine ⟨_, _, rfl, rfl, h2, ?_⟩; walk_at "v"
        refine ⟨_, _, rfl, ?_⟩
        have b1 := Int.emod_nonneg h (by omega : l ≠ 0)
        have b2 := Int.emod_lt_of_pos h h2
        exact ⟨(h % l).toNat, by omega, rfl, h % l, l, rfl, b1, h2, by rw [gI_step h2 (by omega), hg], rfl⟩
    · have e0 : l = 0 := by omega
      subst e0
      have eh : h = gI p q := by
        rw [← hg]
        unfold gI
        show h = ((Nat.gcd 0 h.natAbs : Nat) : Int)
        rw [Nat.gcd_zero_left]
        omega
      have hs := gI_size (p := p) (q := q) (by omega)
      have hd : CDivW p h := ⟨h1, pow_lt (Nat.lt_of_le_of_lt (by omega) hz) (by decide)⟩
      have hD := lowD_pos (p := p) hq
      walk_at "v"; walk_at "v"; refine ⟨rfl, ?_⟩; walk_at "v"
      refine iteD (fun h3 => ?_) (fun h3 => ?_)
      · have e3 : q = h := V.int.inj h3
        walk_at "v"; walk_at "v"; refine ⟨_, _, rfl, rfl, hd, ?_⟩
        refine k _ _ (Same.refl _) (.inl ⟨by unfold lowN; rw [← eh], ?_⟩)
        unfold lowD
        rw [← eh, e3, Int.ediv_self (by omega)]
      · walk_at "v"; walk_at "v"; refine ⟨_, _, rfl, rfl, hd, ?_⟩
        walk_at "v"; walk_at "v"; refine ⟨_, _, rfl, rfl, hd, ?_⟩
        refine ⟨by show 2 ≤ sizeLine; decide, fun a ha => ?_⟩
        refine k _ _ (Same.new ha) (.inr ⟨a, rfl, ?_, ?_, low_cop (by omega)⟩)
        · refine upd_same.trans ?_
          show some (HO.tup [V.int (p / h), V.int (q / h)]) = _
          rw [eh]; rfl
        · rcases Int.lt_or_le (lowD p q) 2 with z | z
          · exfalso
            apply h3
            have e1 : lowD p q = 1 := by omega
            have e2 := low_r p q
            rw [e1, Int.mul_one] at e2
            rw [eh, e2]
          · exact z
end Md

set_option Elab.async false
set_option linter.all false
set_option maxRecDepth 100000
set_option maxHeartbeats 4000000
set_option exponentiation.threshold 20000
namespace Md
open PySem PySem.Spec PyProof.Rows PySem.Calls L2
local macro_rules | `(tactic| walk_at "v") => `(tactic| refine ⟨_, rfl, ?_⟩)
local macro_rules | `(tactic| walk_at "ii") => `(tactic| refine ⟨_, _, rfl, rfl, ?_⟩)
local macro_rules | `(tactic| walk_at "ixL") => `(tactic| refine Or.inl ⟨_, _, _, _, rfl, rfl, SqL.of (by assumption), rfl, ?_⟩)
local macro_rules | `(tactic| walk_at "ixT") => `(tactic| refine Or.inr (Or.inl ⟨_, _, _, _, rfl, rfl, SqT.of (by assumption), rfl, ?_⟩))

/-! ### _law_number -/
def t__law_number (K : PySem.W.Frag) (A : Ads) (E : XK) : TS :=
    (tSeq (tIfS (tTest (tOp rGt (tCall (sp__law_take K A) [] E0 (tCons (tVar 0) (tCons (tC (.int 3)) tNil))) (tC (.int 0)))) (tRet (tCall (sp__law_value K A) [] E0 (tCons (tOp rSub (tCall (sp__law_take K A) [] E0 (tCons (tVar 0) (tCons (tC (.int 11)) tNil))) (tC (.int 5))) (tCons (tOp rAdd (tC (.int 1)) (tCall (sp__law_take K A) [] E0 (tCons (tVar 0) (tCons (tC (.int 3)) tNil)))) tNil)))) tNext)
    (tRet (tCall (sp__law_value K A) [] E0 (tCons (tOp rSub (tCall (sp__law_take K A) [] E0 (tCons (tVar 0) (tCons (tOp rAdd (tOp rMulW (tC (.int 2)) (tOp rPow (tC (.int 10)) (tC (.int 20)))) (tC (.int 1))) tNil))) (tOp rPow (tC (.int 10)) (tC (.int 20)))) (tCons (tOp rAdd (tC (.int 1)) (tCall (sp__law_take K A) [] E0 (tCons (tVar 0) (tCons (tOp rPow (tC (.int 10)) (tC (.int 9))) tNil)))) tNil)))))
def n__law_number : List Str := ["_law_bag_here"]
def sp__law_number (K : PySem.W.Frag) (A : Ads) : Sp := fun vs H Q _ => ∃ (b : Addr) (n : Nat), vs = [.ref b] ∧ Bag (n + 3) H b ∧ ∀ x p q H', Xb b H H' → Bag n H' b → NumAt H' x p q → p.natAbs ≤ 10 ^ 20 → q.natAbs ≤ 10 ^ 9 → Q x H'
theorem len__law_number {K : PySem.W.Frag} {A : Ads} {vs : List V} {H : Hp} {Q : VK} {E : XK} (h : sp__law_number K A vs H Q E) : vs.length = 1 := by
  obtain ⟨p, q, rfl, _⟩ := h
  rfl
theorem pure__law_number {K : PySem.W.Frag} {A : Ads} {vs : List V} {H : Hp} {Q : VK} {E : XK} (h : sp__law_number K A vs H Q E) : t__law_number K A E { nx := fun _ H' => Q .non H', rt := Q } (start n__law_number vs) H := by
  obtain ⟨b, n, rfl, hb, k⟩ := h
  walk_at "v"
  refine ⟨b, 3, n + 2, rfl, hb, by decide, by decide, fun d H1 d0 d1 x1 hb1 => ?_⟩
  walk_at "ii"; walk_at "v"
  refine iteD (fun h0 => ?_) (fun h0 => ?_)
  · walk_at "v"
    refine ⟨b, 11, n + 1, rfl, hb1, by decide, by decide, fun d2 H2 d3 d4 x2 hb2 => ?_⟩
    walk_at "ii"; walk_at "v"
    refine ⟨b, 3, n, rfl, hb2, by decide, by decide, fun d5 H3 d6 d7 x3 hb3 => ?_⟩
    walk_at "ii"
    refine ⟨d2 - 5, 1 + d5, rfl, by omega, by omega, fun x H4 s4 hn => ?_⟩
    have l1 := lowN_le (d2 - 5) (1 + d5) (by omega)
    have l2 := lowD_le (d2 - 5) (1 + d5) (by omega)
    exact k x _ _ H4 ((x1.trans x2).trans (x3.trans (Xb.of s4))) (hb3.same s4) hn (by omega) (by omega)
  · walk_at "v"; refine ⟨_, _, rfl, rfl, ⟨by decide, by decide, by decide⟩, ?_⟩
    refine ⟨_, _, rfl, rfl, wide_mul (a := 8) (b := 128) (by decide) (by decide) (by decide) (by decide) (by decide), ?_⟩
    walk_at "ii"
    refine ⟨b, _, n + 1, rfl, hb1, by decide, by decide, fun d2 H2 d3 d4 x2 hb2 => ?_⟩
    refine ⟨_, _, rfl, rfl, ⟨by decide, by decide, by decide⟩, ?_⟩
    walk_at "ii"; walk_at "v"
    refine ⟨_, _, rfl, rfl, ⟨by decide, by decide, by decide⟩, ?_⟩
    refine ⟨b, _, n, rfl, hb2, by decide, by decide, fun d5 H3 d6 d7 x3 hb3 => ?_⟩
    walk_at "ii"
    have e1 : (10 : Int) ^ (20 : Int).toNat = 100000000000000000000 := by decide
    have e2 : (10 : Int) ^ (9 : Int).toNat = 1000000000 := by decide
    rw [e1] at d4
    rw [e2] at d7
    refine ⟨d2 - 10 ^ (20 : Int).toNat, 1 + d5, rfl, by omega, by omega, fun x H4 s4 hn => ?_⟩
    rw [e1] at hn
    have l1 := lowN_le (d2 - 100000000000000000000) (1 + d5) (by omega)
    have l2 := lowD_le (d2 - 100000000000000000000) (1 + d5) (by omega)
    refine k x _ _ H4 ((x1.trans x2).trans (x3.trans (Xb.of s4))) (hb3.same s4) hn ?_ ?_
    · have : (10 : Nat) ^ 20 = 100000000000000000000 := by decide
      omega
    · have : (10 : Nat) ^ 9 = 1000000000 := by decide
      omega
/-! ### _law_pair, _law_order -/
def t__law_pair (K : PySem.W.Frag) (A : Ads) (E : XK) : TS :=
    (tRet (tIf (tB (tCB (rIsi K) (tCons (tVar 0) (tCons (tC (.ty "tuple")) tNil)))) (tVar 0) (tTup (tCons (tVar 0) (tCons (tC (.int 1)) tNil)))))
def n__law_pair : List Str := ["_law_value_here"]
def sp__law_pair (K : PySem.W.Frag) (A : Ads) : Sp := sp__over K A
theorem len__law_pair {K : PySem.W.Frag} {A : Ads} {vs : List V} {H : Hp} {Q : VK} {E : XK} (h : sp__law_pair K A vs H Q E) : vs.length = 1 := len__over h
theorem pure__law_pair {K : PySem.W.Frag} {A : Ads} {vs : List V} {H : Hp} {Q : VK} {E : XK} (h : sp__law_pair K A vs H Q E) : t__law_pair K A E { nx := fun _ H' => Q .non H', rt := Q } (start n__law_pair vs) H := by
  obtain ⟨x, p, q, rfl, hn, k⟩ := h
  rcases hn with ⟨rfl, rfl⟩ | ⟨a, rfl, ha, h2, hc⟩
  · walk_at "v"
    refine ⟨_, _, _, _, _, rfl, .ty _, ty_int, kit_ty (by decide +kernel : kitB "int" "tuple" = some false), ?_⟩
    walk_at "v"
    refine iteF ?_
    walk_at "v"
    refine ⟨by show 2 ≤ sizeLine; decide, fun t ht => ?_⟩
    exact k _ _ (Same.new ht) ⟨t, rfl, upd_same⟩
  · walk_at "v"
    refine ⟨_, _, _, _, _, rfl, .ty _, ty_tup ha, kit_ty (by decide +kernel : kitB "tuple" "tuple" = some true), ?_⟩
    walk_at "v"
    refine iteT ?_
    walk_at "v"
    exact k _ _ (Same.refl H) ⟨a, rfl, ha⟩
def t__law_order (K : PySem.W.Frag) (A : Ads) (E : XK) : TS :=
    (tSeq (tPar 2 3 (tCons (tCall (sp__law_pair K A) [] E0 (tCons (tVar 0) tNil)) (tCons (tCall (sp__law_pair K A) [] E0 (tCons (tVar 1) tNil)) tNil)))
    (tRet (tOp rSub (tOp rMulW (tOp (rIx K) (tVar 2) (tC (.int 0))) (tOp (rIx K) (tVar 3) (tC (.int 1)))) (tOp rMulW (tOp (rIx K) (tVar 3) (tC (.int 0))) (tOp (rIx K) (tVar 2) (tC (.int 1)))))))
def n__law_order : List Str := ["_law_one", "_law_other", "_law_left", "_law_right"]
def sp__law_order (K : PySem.W.Frag) (A : Ads) : Sp := fun vs H Q _ => ∃ (x y : V) (p q p' q' : Int), vs = [x, y] ∧ NumAt H x p q ∧ NumAt H y p' q' ∧ (p.natAbs < 2 ^ 9000 ∧ q.natAbs < 2 ^ 9000 ∧ p'.natAbs < 2 ^ 9000 ∧ q'.natAbs < 2 ^ 9000) ∧
  ∀ H', Same H H' → Q (.int (p * q' - p' * q)) H'
theorem len__law_order {K : PySem.W.Frag} {A : Ads} {vs : List V} {H : Hp} {Q : VK} {E : XK} (h : sp__law_order K A vs H Q E) : vs.length = 2 := by
  obtain ⟨x, y, p, q, p', q', rfl, _⟩ := h
  rfl
theorem pure__law_order {K : PySem.W.Frag} {A : Ads} {vs : List V} {H : Hp} {Q : VK} {E : XK} (h : sp__law_order K A vs H Q E) : t__law_order K A E { nx := fun _ H' => Q .non H', rt := Q } (start n__law_order vs) H := by
  obtain ⟨x, y, p, q, p', q', rfl, h1, h2, ⟨z1, z2, z3, z4⟩, k⟩ := h
  walk_at "v"
  refine ⟨_, _, _, rfl, h1, fun u H1 s1 hu => ?_⟩
  obtain ⟨a, rfl, ha⟩ := hu
  walk_at "v"
  refine ⟨_, _, _, rfl, h2.same s1, fun u2 H2 s2 hu2 => ?_⟩
  obtain ⟨a2, rfl, ha2⟩ := hu2
  have ha1 := s2 _ _ ha
  refine ⟨_, _, rfl, ?_⟩
  walk_at "v"; walk_at "ixT"; walk_at "v"; walk_at "ixT"; refine ⟨_, _, rfl, rfl, mulW0 z1 z4, ?_⟩
  walk_at "v"; walk_at "ixT"; walk_at "v"; walk_at "ixT"; refine ⟨_, _, rfl, rfl, mulW0 z3 z2, ?_⟩
  walk_at "ii"
  exact k H2 (Same.trans s1 s2)
/-! ### _law_same, _law_is_lowest -/
theorem dp_pair {K : PySem.W.Frag} {H : Hp} {a : Addr} {p q : Int} (h : H a = some (.tup [.int p, .int q])) : Dp K H (.ref a) (.tuple [.int p, .int q]) := .tup (SqT.of h) (.cons (.int p) (.cons (.int q) .nil))
theorem shaped_int (p : Int) : SeqAt.shaped (.int p) = true := rfl
theorem shaped_pair (p q : Int) : SeqAt.shaped (.tuple [.int p, .int q]) = true := by
  unfold SeqAt.shaped
  simp [PyData.canLay0, PyData.canLayAll0, PyData.depth, PyData.depthAll]
theorem NumAt.eqD {K : PySem.W.Frag} {H : Hp} {x y : V} {p q : Int} {Q : VK} (h1 : NumAt H x p q) (h2 : NumAt H y p q) (k : Q (.bl true) H) : rEqD K x y H Q := by
  rcases h1 with ⟨rfl, rfl⟩ | ⟨a, rfl, ha, h3, _⟩
  · rcases h2 with ⟨rfl, _⟩ | ⟨b, rfl, hb, h4, _⟩
    · refine ⟨_, _, .int p, .int p, shaped_int p, shaped_int p, ?_⟩
      have e : PyData.eqv (.int p) (.int p) = true := by simp [PyData.eqv]
      rw [e]; exact k
    · omega
  · rcases h2 with ⟨rfl, h4⟩ | ⟨b, rfl, hb, h4, _⟩
    · omega
    · refine ⟨_, _, dp_pair ha, dp_pair hb, shaped_pair p q, shaped_pair p q, ?_⟩
      have e : PyData.eqv (.tuple [.int p, .int q]) (.tuple [.int p, .int q]) = true := by simp [PyData.eqv, PyData.eqvAll]
      rw [e]; exact k
def t__law_same (K : PySem.W.Frag) (A : Ads) (E : XK) : TS :=
    (tSeq (tIfS (tNot (tB (tCB (rIsi K) (tCons (tVar 1) (tCons (tC (.ty "tuple")) tNil))))) (tRet (tAndV (tCall (sp__law_is_int K A) [] E0 (tCons (tVar 0) tNil)) (tOp (rEqD K) (tVar 0) (tVar 1)))) tNext)
    (tSeq (tIfS (tOr (tNot (tB (tCB (rIsi K) (tCons (tVar 0) (tCons (tC (.ty "tuple")) tNil))))) (tTest (tOp rNe (tCB (rLen K) (tCons (tVar 0) tNil)) (tC (.int 2))))) (tRet (tC (.bl false))) tNext)
    (tRet (tAndV (tCall (sp__law_is_int K A) [] E0 (tCons (tOp (rIx K) (tVar 0) (tC (.int 0))) tNil)) (tAndV (tCall (sp__law_is_int K A) [] E0 (tCons (tOp (rIx K) (tVar 0) (tC (.int 1))) tNil)) (tOp (rEqD K) (tVar 0) (tVar 1)))))))
def n__law_same : List Str := ["_law_actual", "_law_due"]
def sp__law_same (K : PySem.W.Frag) (A : Ads) : Sp := fun vs H Q _ => ∃ (x y : V) (p q : Int), vs = [x, y] ∧ NumAt H x p q ∧ NumAt H y p q ∧ ∀ H', Same H H' → Q (.bl true) H'
theorem len__law_same {K : PySem.W.Frag} {A : Ads} {vs : List V} {H : Hp} {Q : VK} {E : XK} (h : sp__law_same K A vs H Q E) : vs.length = 2 := by
  obtain ⟨x, y, p, q, rfl, _⟩ := h
  rfl
theorem pure__law_same {K : PySem.W.Frag} {A : Ads} {vs : List V} {H : Hp} {Q : VK} {E : XK} (h : sp__law_same K A vs H Q E) : t__law_same K A E { nx := fun _ H' => Q .non H', rt := Q } (start n__law_same vs) H := by
  obtain ⟨x, y, p, q, rfl, h1, h2, k⟩ := h
  have kk := k H (Same.refl H)
  have ee := fun {Q : VK} => NumAt.eqD (K := K) (Q := Q) h1 h2
  rcases h1 with ⟨rfl, rfl⟩ | ⟨a, rfl, ha, h3, _⟩
  · rcases h2 with ⟨rfl, _⟩ | ⟨b, rfl, hb, h4, _⟩
    · walk_at "v"
      refine ⟨_, _, _, _, _, rfl, .ty _, ty_int, kit_ty (by decide +kernel : kitB "int" "tuple" = some false), ?_⟩
      walk_at "v"
      show (if (!false) = true then _ else _)
      refine iteT ?_
      walk_at "v"
      refine ⟨_, _, rfl, ty_int, ⟨_, rfl, ?_⟩⟩
      refine iteT ?_
      walk_at "v"; walk_at "v"
      exact ee kk
    · omega
  · rcases h2 with ⟨rfl, h4⟩ | ⟨b, rfl, hb, h4, _⟩
    · omega
    · walk_at "v"
      refine ⟨_, _, _, _, _, rfl, .ty _, ty_tup hb, kit_ty (by decide +kernel : kitB "tuple" "tuple" = some true), ?_⟩
      walk_at "v"
      show (if (!true) = true then _ else _)
      refine iteF ?_
      walk_at "v"
      refine ⟨_, _, _, _, _, rfl, .ty _, ty_tup ha, kit_ty (by decide +kernel : kitB "tuple" "tuple" = some true), ?_⟩
      walk_at "v"
      show (if (!true) = true then _ else _)
      refine iteF ?_
      walk_at "v"
      refine ⟨_, _, rfl, .inr ⟨_, SqT.of ha, rfl⟩, ?_⟩
      refine ⟨rfl, ?_⟩
      walk_at "v"
      show (if (!decide (V.int 2 = V.int 2)) = true then _ else _)
      refine iteF ?_
      walk_at "v"; walk_at "ixT"
      refine ⟨_, _, rfl, ty_int, ⟨_, rfl, ?_⟩⟩
      refine iteT ?_
      walk_at "v"; walk_at "ixT"
      refine ⟨_, _, rfl, ty_int, ⟨_, rfl, ?_⟩⟩
      refine iteT ?_
      walk_at "v"; walk_at "v"
      exact ee kk
def t__law_is_lowest (K : PySem.W.Frag) (A : Ads) (E : XK) : TS :=
    (tSeq (tIfS (tB (tCall (sp__law_is_int K A) [] E0 (tCons (tVar 0) tNil))) (tRet (tC (.bl true))) tNext)
    (tSeq (tIfS (tOr (tNot (tB (tCB (rIsi K) (tCons (tVar 0) (tCons (tC (.ty "tuple")) tNil))))) (tOr (tTest (tOp rNe (tCB (rLen K) (tCons (tVar 0) tNil)) (tC (.int 2)))) (tOr (tNot (tB (tCall (sp__law_is_int K A) [] E0 (tCons (tOp (rIx K) (tVar 0) (tC (.int 0))) tNil)))) (tNot (tB (tCall (sp__law_is_int K A) [] E0 (tCons (tOp (rIx K) (tVar 0) (tC (.int 1))) tNil))))))) (tRet (tC (.bl false))) tNext)
    (tRet (tAndV (tOp rGt (tOp (rIx K) (tVar 0) (tC (.int 1))) (tC (.int 1))) (tOp (rEqD K) (tCall (sp__law_value K A) [] E0 (tCons (tOp (rIx K) (tVar 0) (tC (.int 0))) (tCons (tOp (rIx K) (tVar 0) (tC (.int 1))) tNil))) (tVar 0))))))
def n__law_is_lowest : List Str := ["_law_value_here"]
def sp__law_is_lowest (K : PySem.W.Frag) (A : Ads) : Sp := fun vs H Q _ => ∃ (x : V) (p q : Int), vs = [x] ∧ NumAt H x p q ∧ q.natAbs < 2 ^ 9000 ∧ ∀ H', Same H H' → Q (.bl true) H'
theorem len__law_is_lowest {K : PySem.W.Frag} {A : Ads} {vs : List V} {H : Hp} {Q : VK} {E : XK} (h : sp__law_is_lowest K A vs H Q E) : vs.length = 1 := by
  obtain ⟨x, p, q, rfl, _⟩ := h
  rfl
theorem pure__law_is_lowest {K : PySem.W.Frag} {A : Ads} {vs : List V} {H : Hp} {Q : VK} {E : XK} (h : sp__law_is_lowest K A vs H Q E) : t__law_is_lowest K A E { nx := fun _ H' => Q .non H', rt := Q } (start n__law_is_lowest vs) H := by
  obtain ⟨x, p, q, rfl, h1, hz, k⟩ := h
  have h0 := h1
  rcases h1 with ⟨rfl, rfl⟩ | ⟨a, rfl, ha, h3, hc⟩
  · walk_at "v"
    refine ⟨_, _, rfl, ty_int, ⟨_, rfl, ?_⟩⟩
    refine iteT ?_
    exact k H (Same.refl H)
  · walk_at "v"
    refine ⟨_, _, rfl, ty_tup ha, ⟨_, rfl, ?_⟩⟩
    refine iteF ?_
    walk_at "v"
    refine ⟨_, _, _, _, _, rfl, .ty _, ty_tup ha, kit_ty (by decide +kernel : kitB "tuple" "tuple" = some true), ?_⟩
    walk_at "v"
    show (if (!true) = true then _ else _)
    refine iteF ?_
    walk_at "v"
    refine ⟨_, _, rfl, .inr ⟨_, SqT.of ha, rfl⟩, ?_⟩
    refine ⟨rfl, ?_⟩
    walk_at "v"
    show (if (!decide (V.int 2 = V.int 2)) = true then _ else _)
    refine iteF ?_
    walk_at "v"; walk_at "ixT"
    refine ⟨_, _, rfl, ty_int, ⟨_, rfl, ?_⟩⟩
    show (if (!true) = true then _ else _)
    refine iteF ?_
    walk_at "v"; walk_at "ixT"
    refine ⟨_, _, rfl, ty_int, ⟨_, rfl, ?_⟩⟩
    show (if (!true) = true then _ else _)
    refine iteF ?_
    walk_at "v"; walk_at "ixT"; walk_at "ii"; walk_at "v"
    refine iteD (fun h5 => ?_) (fun h5 => absurd (by omega) h5)
    walk_at "v"; walk_at "ixT"; walk_at "v"; walk_at "ixT"
    obtain ⟨e1, e2⟩ := low_of_cop hc (by omega)
    refine ⟨p, q, rfl, by omega, hz, fun y H1 s1 hy => ?_⟩
    walk_at "v"
    rw [e1, e2] at hy
    exact NumAt.eqD hy (h0.same s1) (k H1 s1)
end Md

set_option Elab.async false
set_option linter.all false
set_option maxRecDepth 100000
set_option maxHeartbeats 4000000
set_option exponentiation.threshold 20000
namespace Md
open PySem PySem.Spec PyProof.Rows PySem.Calls L2
local macro_rules | `(tactic| walk_at "v") => `(tactic| refine ⟨_, rfl, ?_⟩)
local macro_rules | `(tactic| walk_at "fls") => `(tactic| (refine ⟨_, rfl, ?_⟩; show (if (!true) = true then _ else _); refine iteF ?_))
local macro_rules | `(tactic| walk_at "isnt") => `(tactic| (refine ⟨_, _, rfl, rfl, _, rfl, ?_⟩; refine iteN (fun _ => ?_) fun h => absurd rfl h))
local macro_rules | `(tactic| walk_at "ii") => `(tactic| refine ⟨_, _, rfl, rfl, ?_⟩)
local macro_rules | `(tactic| walk_at "ixL") => `(tactic| refine Or.inl ⟨_, _, _, _, rfl, rfl, SqL.of (by assumption), rfl, ?_⟩)
local macro_rules | `(tactic| walk_at "ixT") => `(tactic| refine Or.inr (Or.inl ⟨_, _, _, _, rfl, rfl, SqT.of (by assumption), rfl, ?_⟩))
/-! ### is_number -/
def pairB : V → V → Bool
  | .int p, .int q => decide (2 ≤ q) && decide (Nat.gcd p.natAbs q.natAbs = 1)
  | _, _ => false
def NumB (K : PySem.W.Frag) (H : Hp) (x : V) (r : Bool) : Prop := (∃ T, TyX K H x (.type T) ∧ T ≠ "tuple" ∧ r = isIntV x) ∨ (∃ a xs, x = .ref a ∧ H a = some (.tup xs) ∧ xs.length ≠ 2 ∧ r = false) ∨
  (∃ a u v T1 T2, x = .ref a ∧ H a = some (.tup [u, v]) ∧ TyX K H u (.type T1) ∧ TyX K H v (.type T2) ∧ r = pairB u v)
theorem kit_tup {K : PySem.W.Frag} {H : Hp} {x : V} {T : String} (ty : TyX K H x (.type T)) (hn : T ≠ "tuple") : kitB T "tuple" = some false := by
  cases ty with
  | base b => cases b <;> first | (exact absurd rfl hn) | decide +kernel
  | _ => first | (exact absurd rfl hn) | decide +kernel
theorem NumB.same {K : PySem.W.Frag} {H H' : Hp} {x : V} {r : Bool} (h : NumB K H x r) (s : Same H H') (ht : ∀ y T, TyX K H y (.type T) → TyX K H' y (.type T)) : NumB K H' x r := by
  rcases h with ⟨T, h1, h2⟩ | ⟨a, xs, e, ha, h⟩ | ⟨a, u, v, T1, T2, e, ha, h1, h2, h3⟩
  · exact .inl ⟨T, ht _ _ h1, h2⟩
  · exact .inr (.inl ⟨a, xs, e, s _ _ ha, h⟩)
  · exact .inr (.inr ⟨a, u, v, T1, T2, e, s _ _ ha, ht _ _ h1, ht _ _ h2, h3⟩)
theorem tyX_same {K : PySem.W.Frag} {H H' : Hp} {x : V} {T : String} (s : Same H H') (h : TyX K H x (.type T)) : TyX K H' x (.type T) := by
  cases h with
  | base b =>
    refine .base ?_
    cases b with
    | non => exact .non
    | bl b => exact .bl b
    | int b => exact .int b
    | str b => exact .str b
    | flt b => exact .flt b
    | lst e => exact .lst (s _ _ e)
    | frz e => exact .frz (s _ _ e)
    | tup e => exact .tup (s _ _ e)
    | dK e => exact .dK (s _ _ e)
    | dT e => exact .dT (s _ _ e)
  | byt b => exact .byt b
  | set e => exact .set (s _ _ e)
  | kList e c => exact .kList e c
  | kTuple e c => exact .kTuple e c
  | kDict e c => exact .kDict e c
  | fTuple e => exact .fTuple (s _ _ e)
  | fDict e => exact .fDict (s _ _ e)
theorem NumB.mono {K : PySem.W.Frag} {H H' : Hp} {x : V} {r : Bool} (h : NumB K H x r) (s : Same H H') : NumB K H' x r := h.same s fun _ _ t => tyX_same s t
def t_is_number (K : PySem.W.Frag) (A : Ads) (E : XK) : TS :=
    (tSeq (tIfS (tB (tCall (sp_is_whole K A) [] E0 (tCons (tVar 0) tNil))) (tRet (tC (.bl true))) tNext)
    (tSeq (tIfS (tOr (tNot (tB (tCB (rIsi K) (tCons (tVar 0) (tCons (tC (.ty "tuple")) tNil))))) (tTest (tOp rNe (tCB (rLen K) (tCons (tVar 0) tNil)) (tC (.int 2))))) (tRet (tC (.bl false))) tNext)
    (tSeq (tAsg (tVar 0) (gTup K 2 (gCons (gName 1) (gCons (gName 2) gNil))))
    (tRet (tAndV (tCall (sp_is_whole K A) [] E0 (tCons (tVar 1) tNil)) (tAndV (tCall (sp_is_whole K A) [] E0 (tCons (tVar 2) tNil)) (tAndV (tOp rGe (tVar 2) (tC (.int 2))) (tOp rEq (tCB rGcd (tCons (tVar 1) (tCons (tVar 2) tNil))) (tC (.int 1))))))))))
def n_is_number : List Str := ["thing", "top", "bottom"]
def sp_is_number (K : PySem.W.Frag) (A : Ads) : Sp := fun vs H Q _ => ∃ (x : V) (r : Bool), vs = [x] ∧ NumB K H x r ∧ Q (.bl r) H
theorem len_is_number {K : PySem.W.Frag} {A : Ads} {vs : List V} {H : Hp} {Q : VK} {E : XK} (h : sp_is_number K A vs H Q E) : vs.length = 1 := by
  obtain ⟨x, T, rfl, _⟩ := h
  rfl
theorem pure_is_number {K : PySem.W.Frag} {A : Ads} {vs : List V} {H : Hp} {Q : VK} {E : XK} (h : sp_is_number K A vs H Q E) : t_is_number K A E { nx := fun _ H' => Q .non H', rt := Q } (start n_is_number vs) H := by
  obtain ⟨x, r, rfl, hn, k⟩ := h
  rcases hn with ⟨T, ty, hT, rfl⟩ | ⟨a, xs, rfl, ha, hl, rfl⟩ | ⟨a, u, v, T1, T2, rfl, ha, t1, t2, rfl⟩
  · walk_at "v"
    refine ⟨_, _, rfl, ty, ⟨_, rfl, ?_⟩⟩
    refine iteB (fun h1 => ?_) (fun h1 => ?_)
    · rw [h1] at k
      exact k
    · walk_at "v"
      refine ⟨_, _, _, _, _, rfl, .ty _, ty, kit_ty (kit_tup ty hT), ?_⟩
      walk_at "v"
      show (if (!false) = true then _ else _)
      refine iteT ?_
      refine iteT ?_
      rw [h1] at k
      exact k
  · walk_at "v"
    refine ⟨_, _, rfl, ty_tup ha, ⟨_, rfl, ?_⟩⟩
    refine iteF ?_
    walk_at "v"
    refine ⟨_, _, _, _, _, rfl, .ty _, ty_tup ha, kit_ty (by decide +kernel : kitB "tuple" "tuple" = some true), ?_⟩
    walk_at "v"
    show (if (!true) = true then _ else _)
    refine iteF ?_
    walk_at "v"
    refine ⟨_, _, rfl, .inr ⟨_, SqT.of ha, rfl⟩, ?_⟩
    refine ⟨rfl, ?_⟩
    walk_at "v"
    refine iteN (fun h1 => ?_) (fun h1 => k)
    exact absurd (by have := V.int.inj h1; omega) hl
  · walk_at "v"
    refine ⟨_, _, rfl, ty_tup ha, ⟨_, rfl, ?_⟩⟩
    refine iteF ?_
    walk_at "v"
    refine ⟨_, _, _, _, _, rfl, .ty _, ty_tup ha, kit_ty (by decide +kernel : kitB "tuple" "tuple" = some true), ?_⟩
    walk_at "v"
    show (if (!true) = true then _ else _)
    refine iteF ?_
    walk_at "v"
    refine ⟨_, _, rfl, .inr ⟨_, SqT.of ha, rfl⟩, ?_⟩
    refine ⟨rfl, ?_⟩
    walk_at "v"
    refine iteN (fun _ => ?_) (fun h1 => absurd rfl h1)
    walk_at "v"
    refine ⟨a, _, rfl, SqT.of ha, rfl, _, _, rfl, _, _, rfl, rfl, ?_⟩
    walk_at "v"
    refine ⟨_, _, rfl, t1, ⟨_, rfl, ?_⟩⟩
    cases u with
    | int p =>
      refine iteT ?_
      walk_at "v"
      refine ⟨_, _, rfl, t2, ⟨_, rfl, ?_⟩⟩
      cases v with
      | int q =>
        refine iteT ?_
        walk_at "v"; walk_at "ii"; walk_at "v"
        refine iteD (fun h2 => ?_) (fun h2 => ?_)
        · walk_at "v"; walk_at "v"; refine ⟨_, _, rfl, ?_⟩; refine ⟨rfl, ?_⟩
          have e : decide (V.int ((Nat.gcd p.natAbs q.natAbs : Nat) : Int) = V.int 1) = pairB (.int p) (.int q) := by
            show _ = (decide (2 ≤ q) && decide (Nat.gcd p.natAbs q.natAbs = 1))
            rw [decide_eq_true h2, Bool.true_and]
            congr 1
            apply propext
            constructor
            · intro h; have := V.int.inj h; omega
            · intro h; rw [h]; rfl
          show Q (.bl (decide (V.int ((Nat.gcd p.natAbs q.natAbs : Nat) : Int) = V.int 1))) H
          rw [e]
          exact k
        · have e : pairB (.int p) (.int q) = false := by
            show (decide (2 ≤ q) && decide (Nat.gcd p.natAbs q.natAbs = 1)) = false
            rw [decide_eq_false (by omega)]
            rfl
          rw [e] at k
          exact k
      | _ => exact iteF k
    | _ => exact iteF k
/-! ### _law_of -/
def t__law_of (K : PySem.W.Frag) (A : Ads) (E : XK) : TS :=
    (tRet (tOp (rIx K) (tVar 1) (tCall (sp__law_take K A) [] E0 (tCons (tVar 0) (tCons (tCB (rLen K) (tCons (tVar 1) tNil)) tNil)))))
def n__law_of : List Str := ["_law_bag_here", "_law_some"]
def sp__law_of (K : PySem.W.Frag) (A : Ads) : Sp := fun vs H Q _ => ∃ (b : Addr) (n : Nat), Bag (n + 1) H b ∧
  ((∃ (l : Addr) (xs : List V), vs = [.ref b, .ref l] ∧ H l = some (.lst xs) ∧ l ≠ b ∧ 0 < xs.length ∧ xs.length ≤ 1000000 ∧ ∀ (i : Nat) x H', xs[i]? = some x → Xb b H H' → Bag n H' b → Q x H') ∨
   (∃ z : Str, vs = [.ref b, .str z] ∧ 0 < z.length ∧ z.length ≤ 1000000 ∧ ∀ c H', c ∈ z.cps.toList → Xb b H H' → Bag n H' b → Q (.str ⟨#[c]⟩) H'))
theorem len__law_of {K : PySem.W.Frag} {A : Ads} {vs : List V} {H : Hp} {Q : VK} {E : XK} (h : sp__law_of K A vs H Q E) : vs.length = 2 := by
  obtain ⟨b, n, _, h⟩ := h
  rcases h with ⟨l, xs, rfl, _⟩ | ⟨z, rfl, _⟩ <;> rfl
theorem atI_of {α : Type} {xs : List α} {d : Int} (h0 : 0 ≤ d) (h1 : d < xs.length) : ∃ x, atI xs d = some x ∧ xs[d.toNat]? = some x := by
  have h2 : d.toNat < xs.length := by omega
  refine ⟨xs[d.toNat], ?_, List.getElem?_eq_getElem h2⟩
  unfold atI ixN
  rw [if_pos h0, if_pos h1]
  exact List.getElem?_eq_getElem h2
theorem size_1e6 {n : Nat} (h : n ≤ 1000000) : n ≤ sizeLine := Nat.le_trans h (by decide)
theorem len_bits {n : Nat} (h : n ≤ 1000000) : ((n : Int)).natAbs < 2 ^ 9000 := Nat.lt_of_le_of_lt (show ((n : Int)).natAbs ≤ 1000000 by omega) (Nat.lt_of_lt_of_le (by decide : 1000000 < 2 ^ 20) (Nat.pow_le_pow_right (by decide) (by decide)))
theorem pure__law_of {K : PySem.W.Frag} {A : Ads} {vs : List V} {H : Hp} {Q : VK} {E : XK} (h : sp__law_of K A vs H Q E) : t__law_of K A E { nx := fun _ H' => Q .non H', rt := Q } (start n__law_of vs) H := by
  obtain ⟨b, n, hB, h⟩ := h
  rcases h with ⟨l, xs, rfl, hl, hn, h0, h1, k⟩ | ⟨z, rfl, h0, h1, k⟩
  · walk_at "v"; walk_at "v"; walk_at "v"
    refine ⟨_, _, rfl, .inl ⟨_, SqL.of hl, rfl⟩, ?_⟩
    refine ⟨b, _, n, rfl, hB, by omega, len_bits h1, fun d H1 d0 d1 x1 hB1 => ?_⟩
    obtain ⟨x, e1, e2⟩ := atI_of d0 d1
    refine Or.inl ⟨l, xs, d, x, rfl, rfl, SqL.of (x1 _ _ hn hl), e1, k _ x H1 e2 x1 hB1⟩
  · walk_at "v"; walk_at "v"; walk_at "v"
    refine ⟨.str z, _, rfl, ⟨size_1e6 h1, rfl⟩, ?_⟩
    refine ⟨b, _, n, rfl, hB, by omega, len_bits h1, fun d H1 d0 d1 x1 hB1 => ?_⟩
    have ez : z.length = z.cps.toList.length := by simp [Str.length]
    obtain ⟨x, e1, e2⟩ := atI_of (xs := z.cps.toList) d0 (by rw [← ez]; exact d1)
    refine Or.inr (Or.inr ⟨z, d, x, rfl, rfl, size_1e6 h1, e1, k x H1 (List.mem_of_getElem? e2) x1 hB1⟩)
theorem Same.sqL {K : PySem.W.Frag} {H H' : Hp} {a : Addr} {xs : List V} (e : Same H H') (h : SqL K H a xs) : SqL K H' a xs := Evl.ex_l e h
theorem SqL.xbN {K : PySem.W.Frag} {H H1 H2 : Hp} {a b : Addr} {xs : List V} (h : SqL K H a xs) (hb : H b = none) (s : Same H H1) (x : Xb b H1 H2) : SqL K H2 a xs := by
  rcases h with (h | ⟨o, h⟩) | h
  · exact .inl (.inl (x _ _ (ne_of_none h hb) (s _ _ h)))
  · exact .inl (.inr ⟨o, x _ _ (ne_of_none h hb) (s _ _ h)⟩)
  · exact .inr h
/-- the script, away from the draws' list -/
def ScrAt (K : PySem.W.Frag) (H : Hp) (a b : Addr) (xs : List V) : Prop := ∃ H0 H1, SqL K H0 a xs ∧ H0 b = none ∧ Same H0 H1 ∧ Xb b H1 H
theorem ScrAt.seq {K : PySem.W.Frag} {H : Hp} {a b : Addr} {xs : List V} (h : ScrAt K H a b xs) : SqL K H a xs := by
  obtain ⟨H0, H1, h1, h2, h3, h4⟩ := h
  exact SqL.xbN h1 h2 h3 h4
theorem ScrAt.xb {K : PySem.W.Frag} {H H' : Hp} {a b : Addr} {xs : List V} (h : ScrAt K H a b xs) (x : Xb b H H') : ScrAt K H' a b xs := by
  obtain ⟨H0, H1, h1, h2, h3, h4⟩ := h
  exact ⟨H0, H1, h1, h2, h3, h4.trans x⟩
end Md

set_option Elab.async false
set_option linter.all false
set_option maxRecDepth 100000
set_option maxHeartbeats 4000000
/-! digits: the written forms of numbers, as lists of signs -/
namespace Md
open PySem PySem.Spec PyProof.Rows PySem.Calls L2 PySem.NumText
def dgN (n : Nat) : List Nat := (Nat.toDigits 10 n).map Char.toNat
def sI (i : Int) : List Nat := if i < 0 then 45 :: dgN i.natAbs else dgN i.natAbs
theorem dgN_val (n : Nat) : digitsVal (dgN n) = n := PySem.W.KIN.val_back n
theorem dgN_dig {n c : Nat} (h : c ∈ dgN n) : 48 ≤ c ∧ c ≤ 57 := by
  obtain ⟨ch, hch, e⟩ := List.mem_map.mp h
  rw [← e]
  exact digit_range (Nat.isDigit_of_mem_toDigits (by decide) (by decide) hch)
theorem dgN_small {n : Nat} (h : n < 10) : dgN n = [48 + n] := by
  have : ∀ n < 10, dgN n = [48 + n] := by decide +kernel
  exact this n h
theorem dgN_snoc {n : Nat} (h : ¬ n < 10) : dgN n = dgN (n / 10) ++ [48 + n % 10] := by
  have hm : n % 10 < 10 := Nat.mod_lt n (by decide)
  have t : Nat.toDigits 10 (n / 10) ++ Nat.toDigits 10 (n % 10) = Nat.toDigits 10 (10 * (n / 10) + n % 10) := Nat.toDigits_append_toDigits (by decide) (by omega) hm
  rw [Nat.div_add_mod] at t
  have e : dgN n = dgN (n / 10) ++ dgN (n % 10) := by
    unfold dgN
    rw [← t, List.map_append]
  rw [e, dgN_small hm]
theorem dgN_ne (n : Nat) : dgN n ≠ [] := by
  by_cases h : n < 10
  · rw [dgN_small h]; exact List.cons_ne_nil _ _
  · rw [dgN_snoc h]; simp
theorem dgN_head (n : Nat) : ∃ c r, dgN n = c :: r ∧ (n ≠ 0 → c ≠ 48) := by
  induction n using Nat.strongRecOn with
  | _ n ih =>
    by_cases h : n < 10
    · exact ⟨48 + n, [], dgN_small h, fun z => by omega⟩
    · obtain ⟨c, r, e, hc⟩ := ih (n / 10) (by omega)
      exact ⟨c, r ++ [48 + n % 10], by rw [dgN_snoc h, e]; rfl, fun _ => hc (by omega)⟩
theorem sI_text (i : Int) : (Str.ofString (toString i)).cps.toList = sI i := by
  rw [signs_ofString]
  unfold sI
  cases i with
  | ofNat m =>
    rw [if_neg (show ¬ Int.ofNat m < 0 from Int.not_lt.mpr (Int.natCast_nonneg m))]
    show (Nat.repr m).toList.map Char.toNat = _
    rw [Nat.toList_repr]
    rfl
  | negSucc m =>
    rw [if_pos (Int.negSucc_lt_zero m)]
    show (("-" ++ Nat.repr (m + 1)).toList.map Char.toNat) = _
    rw [String.toList_append, List.map_append, Nat.toList_repr]
    rfl
def valI : List Nat → Int
  | 45 :: r => -((digitsVal r : Nat) : Int)
  | r => ((digitsVal r : Nat) : Int)
theorem valI_sI (i : Int) : valI (sI i) = i := by
  unfold sI
  by_cases h : i < 0
  · rw [if_pos h]
    show -((digitsVal (dgN i.natAbs) : Nat) : Int) = i
    rw [dgN_val]
    omega
  · rw [if_neg h]
    obtain ⟨c, r, e, _⟩ := dgN_head i.natAbs
    have hc := dgN_dig (n := i.natAbs) (c := c) (by rw [e]; exact List.mem_cons_self)
    have e2 : valI (dgN i.natAbs) = ((digitsVal (dgN i.natAbs) : Nat) : Int) := by
      rw [e]
      unfold valI
      split
      · rename_i r' e'
        cases e'
        omega
      · rfl
    rw [e2, dgN_val]
    omega
theorem sI_sign {i : Int} {c : Nat} (h : c ∈ sI i) : c = 45 ∨ (48 ≤ c ∧ c ≤ 57) := by
  unfold sI at h
  split at h
  · rcases List.mem_cons.mp h with rfl | h
    · exact .inl rfl
    · exact .inr (dgN_dig h)
  · exact .inr (dgN_dig h)
theorem sI_47 (i : Int) : 47 ∉ sI i := fun h => by rcases sI_sign h with h | h <;> omega
theorem sI_ne (i : Int) : sI i ≠ [] := by
  unfold sI
  split
  · exact List.cons_ne_nil _ _
  · exact dgN_ne _
/-- the written form of p/q -/
def wl (p q : Int) : List Nat := if q = 1 then sI p else sI p ++ 47 :: sI q
theorem wl_ne (p q : Int) : wl p q ≠ [] := by
  unfold wl
  split
  · exact sI_ne p
  · simp
def IsW (cs : List Nat) : Prop := ∃ p q : Int, 1 ≤ q ∧ Cop p q ∧ cs = wl p q
theorem IsW.signs {cs : List Nat} (h : IsW cs) : ∀ c ∈ cs, c = 45 ∨ c = 47 ∨ (48 ≤ c ∧ c ≤ 57) := by
  obtain ⟨p, q, _, _, rfl⟩ := h
  intro c hc
  unfold wl at hc
  split at hc
  · rcases sI_sign hc with h | h
    · exact .inl h
    · exact .inr (.inr h)
  · rcases List.mem_append.mp hc with h | h
    · rcases sI_sign h with h | h
      · exact .inl h
      · exact .inr (.inr h)
    rcases List.mem_cons.mp h with h | h
    · exact .inr (.inl h)
    · rcases sI_sign h with h | h
      · exact .inl h
      · exact .inr (.inr h)
theorem split_uniq {x : Nat} : ∀ (a c b d : List Nat), a ++ x :: b = c ++ x :: d → x ∉ c → x ∉ d → a = c ∧ b = d
  | [], [], b, d, e, _, _ => by
    injection e with _ e
    exact ⟨rfl, e⟩
  | [], y :: c, b, d, e, h, _ => by
    injection e with e1 e2
    exact absurd (by rw [e1]; exact List.mem_cons_self) h
  | y :: a, [], b, d, e, _, h => by
    injection e with e1 e2
    exact absurd (by rw [← e2]; exact List.mem_append_right _ List.mem_cons_self) h
  | y :: a, z :: c, b, d, e, h1, h2 => by
    injection e with e1 e2
    obtain ⟨e3, e4⟩ := split_uniq a c b d e2 (fun h => h1 (List.mem_cons_of_mem _ h)) h2
    exact ⟨by rw [e1, e3], e4⟩
/-- a written form with a line in it -/
theorem IsW.line {a b : List Nat} (h : IsW (a ++ 47 :: b)) : ∃ p q : Int, 2 ≤ q ∧ Cop p q ∧ a = sI p ∧ b = sI q := by
  obtain ⟨p, q, h1, hc, e⟩ := h
  unfold wl at e
  split at e
  · exact absurd (by rw [← e]; exact List.mem_append_right _ List.mem_cons_self) (sI_47 p)
  · obtain ⟨e1, e2⟩ := split_uniq a (sI p) b (sI q) e (sI_47 p) (sI_47 q)
    exact ⟨p, q, by omega, hc, e1, e2⟩
theorem IsW.head {c : Nat} {r : List Nat} (h : IsW (c :: r)) : c ≠ 47 ∧ (c = 45 → ∃ d r', r = d :: r' ∧ 49 ≤ d ∧ d ≤ 57) ∧ (c = 48 → r = []) := by
  obtain ⟨p, q, h1, hc, e⟩ := h
  have key : ∃ t, c :: r = sI p ++ t ∧ (q = 1 → t = []) := by
    unfold wl at e
    split at e
    · exact ⟨[], by rw [List.append_nil]; exact e, fun _ => rfl⟩
    · rename_i hq
      exact ⟨_, e, fun z => absurd z hq⟩
  obtain ⟨t, e, ht⟩ := key
  obtain ⟨d, r2, e2, hd⟩ := dgN_head p.natAbs
  have hd2 := dgN_dig (n := p.natAbs) (c := d) (by rw [e2]; exact List.mem_cons_self)
  unfold sI at e
  by_cases hp : p < 0
  · rw [if_pos hp, e2] at e
    injection e with e3 e4
    subst e3
    refine ⟨by decide, fun _ => ⟨d, r2 ++ t, e4, ?_, hd2.2⟩, fun z => absurd z (by decide)⟩
    have := hd (by omega)
    omega
  · rw [if_neg hp, e2] at e
    injection e with e3 e4
    subst e3
    refine ⟨by omega, fun z => by omega, fun z => ?_⟩
    have p0 : p = 0 := by
      rcases Decidable.em (p.natAbs = 0) with h | h
      · omega
      · exact absurd z (hd h)
    subst p0
    have q1 : q = 1 := by
      unfold Cop at hc
      simp at hc
      omega
    have e5 : dgN 0 = [48] := by decide +kernel
    have e6 : dgN (0 : Int).natAbs = [48] := e5
    rw [e6] at e2
    injection e2 with _ e2
    rw [e4, ← e2, ht q1]
    rfl
/-! ### digits read -/
theorem digits_sI {i : Int} (h : ¬ i < 0) : AllDigits (sI i) := fun c hc => by
  unfold sI at hc
  rw [if_neg h] at hc
  exact dgN_dig hc
theorem digitsVal_lt : ∀ (cs : List Nat), AllDigits cs → digitsVal cs < 10 ^ cs.length := by
  intro cs
  have gen : ∀ (cs : List Nat) (acc k : Nat), AllDigits cs → acc < 10 ^ k → cs.foldl (fun acc c => acc * 10 + (c - 48)) acc < 10 ^ (k + cs.length) := by
    intro cs
    induction cs with
    | nil => intro acc k _ h; exact h
    | cons c r ih =>
      intro acc k hd h
      have hc := hd c List.mem_cons_self
      have := ih (acc * 10 + (c - 48)) (k + 1) (fun x hx => hd x (List.mem_cons_of_mem _ hx)) (by rw [Nat.pow_succ]; omega)
      rw [List.foldl_cons, List.length_cons, show k + (r.length + 1) = k + 1 + r.length by omega]
      exact this
  intro hd
  have := gen cs 0 0 hd (by decide)
  rw [Nat.zero_add] at this
  exact this
def digB (c : Nat) : Bool := decide (c ∈ (Str.ofString "0123456789").cps.toList)
theorem digB_iff (c : Nat) : digB c = true ↔ 48 ≤ c ∧ c ≤ 57 := by
  unfold digB
  rw [decide_eq_true_eq, show (Str.ofString "0123456789").cps.toList = [48, 49, 50, 51, 52, 53, 54, 55, 56, 57] by decide +kernel]
  simp only [List.mem_cons, List.not_mem_nil, or_false]
  omega
/-- non-empty, digits alone -/
def digsB (cs : List Nat) : Bool := decide (cs ≠ []) && cs.all digB
theorem digsB_true {cs : List Nat} (h : digsB cs = true) : cs ≠ [] ∧ AllDigits cs := by
  unfold digsB at h
  obtain ⟨h1, h2⟩ := Bool.and_eq_true_iff.mp h
  exact ⟨of_decide_eq_true h1, fun c hc => (digB_iff c).mp (List.all_eq_true.mp h2 c hc)⟩
theorem digsB_of {cs : List Nat} (h : cs ≠ []) (hd : AllDigits cs) : digsB cs = true := by
  unfold digsB
  rw [decide_eq_true h, Bool.true_and, List.all_eq_true]
  exact fun c hc => (digB_iff c).mpr (hd c hc)
theorem digs_dgN (n : Nat) : digsB (dgN n) = true := digsB_of (dgN_ne n) fun c hc => dgN_dig hc
/-- what stands behind a minus, if there is one -/
def offM : List Nat → List Nat
  | 45 :: r => r
  | r => r
theorem offM_sI (i : Int) : offM (sI i) = dgN i.natAbs := by
  unfold sI
  split
  · rfl
  · obtain ⟨c, r, e, _⟩ := dgN_head i.natAbs
    have hc := dgN_dig (n := i.natAbs) (c := c) (by rw [e]; exact List.mem_cons_self)
    rw [e]
    unfold offM
    split
    · rename_i r' e'
      cases e'
      omega
    · rfl
theorem removeprefix_minus (z : Str) : (Txt.removeprefix z "-").cps.toList = offM z.cps.toList := by
  rw [StrLaws.removeprefix_eq]
  have hl : z.cps.toList.length = z.length := Array.length_toList
  have sub0 : ∀ (c : Nat) (r : List Nat), z.cps.toList = c :: r → Builtin.Str.subAt z "-" 0 = decide (c = 45) := fun c r e => by
    have ez : z = ⟨(c :: r).toArray⟩ := StrLaws.mk_of_toList e
    subst ez
    unfold Builtin.Str.subAt
    have e1 : ((c :: r).toArray.extract 0 (0 + ("-" : Str).length)) = #[c] := by
      show ((c :: r).toArray.extract 0 1) = #[c]
      simp
    show (((c :: r).toArray.extract 0 (0 + ("-" : Str).length)) == ("-" : Str).cps) = _
    rw [e1]
    by_cases h : c = 45
    · subst h; rfl
    · rw [decide_eq_false h]
      show (#[c] == #[45]) = false
      simp [h]
  cases e : z.cps.toList with
  | nil =>
    rw [if_neg]
    · exact e
    · rw [e] at hl
      have h1 : ("-" : Str).length = 1 := rfl
      simp only [h1]
      intro h
      have := of_decide_eq_true (Bool.and_eq_true_iff.mp h).1
      simp at hl
      omega
  | cons c r =>
    rw [sub0 c r e]
    rw [e] at hl
    by_cases h : c = 45
    · subst h
      rw [if_pos]
      · have h1 : ("-" : Str).length = 1 := rfl
        rw [h1]
        show (((45 :: r).drop 1).take (z.length - 1)) = r
        rw [List.drop_succ_cons, List.drop_zero, ← hl]
        exact List.take_of_length_le (by simp)
      · have h1 : ("-" : Str).length = 1 := rfl
        rw [h1, decide_eq_true (show 0 + 1 ≤ z.length by rw [← hl]; simp), decide_eq_true rfl]
        rfl
    · rw [decide_eq_false h, Bool.and_false, if_neg (by decide), e]
      unfold offM
      split
      · rename_i r' e'
        cases e'
        exact absurd rfl h
      · rfl
/-! ### a text parted at its first line -/
theorem sub_47 (z : Str) (i : Nat) : (i + ("/" : Str).length ≤ z.length ∧ Builtin.Str.subAt z "/" i = true) ↔ z.cps.toList[i]? = some 47 := by
  have h1 : ("/" : Str).length = 1 := rfl
  have hl : z.cps.toList.length = z.length := Array.length_toList
  unfold Builtin.Str.subAt
  rw [h1]
  constructor
  · rintro ⟨hi, h⟩
    have e := eq_of_beq h
    have e2 := congrArg (fun a => a[0]?) e
    simp only [Array.getElem?_extract] at e2
    have hz : z.cps.size = z.length := rfl
    rw [if_pos (by omega)] at e2
    rw [Array.getElem?_toList, ← Nat.add_zero i, e2]
    rfl
  · intro h
    have hi : i < z.length := by
      rw [← hl]
      exact (List.getElem?_eq_some_iff.mp h).1
    refine ⟨by omega, ?_⟩
    have e : z.cps.extract i (i + 1) = #[47] := by
      apply Array.ext'
      rw [Array.toList_extract]
      have : z.cps.toList.extract i (i + 1) = [47] := by
        rw [List.extract_eq_take_drop, show i + 1 - i = 1 by omega]
        rw [List.take_one, List.head?_drop, h]
        rfl
      exact this
    show (z.cps.extract i (i + 1) == ("/" : Str).cps) = true
    rw [e]
    rfl
theorem part_none {z : Str} (h : 47 ∉ z.cps.toList) : Txt.partition z "/" = ((z, ("" : Str), ("" : Str)) : Str × Str × Str) := by
  unfold Txt.partition
  rcases StrLaws.occ_head z "/" 1 (Nat.le_refl _) with ⟨e, _⟩ | ⟨i, r, e, hi, _⟩
  · rw [e]
    rfl
  · exact absurd (List.mem_of_getElem? ((sub_47 z i).mp ⟨hi.1, hi.2⟩)) h
theorem str_of {l : List Nat} {x : Str} (h : x.cps.toList = l) : x = ⟨l.toArray⟩ := StrLaws.mk_of_toList h
theorem part_some {z : Str} {a b : List Nat} (h : z.cps.toList = a ++ 47 :: b) (ha : 47 ∉ a) : Txt.partition z "/" = (((⟨a.toArray⟩ : Str), ("/" : Str), (⟨b.toArray⟩ : Str)) : Str × Str × Str) := by
  have hl : z.cps.toList.length = z.length := Array.length_toList
  have at_a : z.cps.toList[a.length]? = some 47 := by rw [h, List.getElem?_append_right (Nat.le_refl _), Nat.sub_self]; rfl
  unfold Txt.partition
  rcases StrLaws.occ_head z "/" 1 (Nat.le_refl _) with ⟨e, hn⟩ | ⟨i, r, e, hi, hf⟩
  · exact absurd ((sub_47 z a.length).mpr at_a) (hn a.length)
  · have hi' := (sub_47 z i).mp ⟨hi.1, hi.2⟩
    have ei : i = a.length := by
      rcases Nat.lt_trichotomy i a.length with z1 | z1 | z1
      · rw [h, List.getElem?_append_left z1] at hi'
        exact absurd (List.mem_of_getElem? hi') ha
      · exact z1
      · exact absurd ((sub_47 z a.length).mpr at_a) (hf a.length z1)
    subst ei
    rw [e]
    have ll : z.length = a.length + (b.length + 1) := by rw [← hl, h, List.length_append, List.length_cons]
    have hz : z.cps.size = z.length := rfl
    have e1 : Builtin.Str.strSub z 0 a.length = ⟨a.toArray⟩ := by
      refine str_of ?_
      show (z.cps.extract 0 a.length).toList = a
      rw [Array.toList_extract, List.extract_eq_take_drop, List.drop_zero, h, Nat.sub_zero, List.take_left]
    have e2 : Builtin.Str.strSub z (a.length + ("/" : Str).length) z.length = ⟨b.toArray⟩ := by
      refine str_of ?_
      show (z.cps.extract (a.length + 1) z.length).toList = b
      rw [Array.toList_extract, List.extract_eq_take_drop, h, ← List.drop_drop, List.drop_left, List.drop_succ_cons, List.drop_zero]
      exact List.take_of_length_le (by omega)
    show (Builtin.Str.strSub z 0 a.length, ("/" : Str), Builtin.Str.strSub z (a.length + ("/" : Str).length) z.length) = _
    rw [e1, e2]
theorem part_cases (z : Str) : (47 ∉ z.cps.toList ∧ Txt.partition z "/" = ((z, ("" : Str), ("" : Str)) : Str × Str × Str)) ∨ ∃ a b : List Nat, z.cps.toList = a ++ 47 :: b ∧ 47 ∉ a ∧ Txt.partition z "/" = (((⟨a.toArray⟩ : Str), ("/" : Str), (⟨b.toArray⟩ : Str)) : Str × Str × Str) := by
  by_cases h : 47 ∈ z.cps.toList
  · obtain ⟨a, b, e, ha⟩ : ∃ a b, z.cps.toList = a ++ 47 :: b ∧ 47 ∉ a := by
      generalize z.cps.toList = l at h
      induction l with
      | nil => cases h
      | cons c r ih =>
        by_cases hc : c = 47
        · exact ⟨[], r, by rw [hc]; rfl, by simp⟩
        · obtain ⟨a, b, e, ha⟩ := ih (by
            rcases List.mem_cons.mp h with h | h
            · exact absurd h.symm hc
            · exact h)
          refine ⟨c :: a, b, by rw [e]; rfl, fun hm => ?_⟩
          rcases List.mem_cons.mp hm with hm | hm
          · exact hc hm.symm
          · exact ha hm
    exact .inr ⟨a, b, e, ha, part_some e ha⟩
  · exact .inl ⟨h, part_none h⟩
theorem wl_inj {p q p' q' : Int} (h1 : 1 ≤ q) (hc : Cop p q) (h1' : 1 ≤ q') (hc' : Cop p' q') (e : wl p q = wl p' q') : p = p' ∧ q = q' := by
  by_cases a : q = 1
  · by_cases b : q' = 1
    · unfold wl at e
      rw [if_pos a, if_pos b] at e
      exact ⟨by rw [← valI_sI p, e, valI_sI], by omega⟩
    · have e2 : wl p' q' = sI p' ++ 47 :: sI q' := by unfold wl; rw [if_neg b]
      have e3 : wl p q = sI p := by unfold wl; rw [if_pos a]
      rw [e2, e3] at e
      exact absurd (by rw [e]; exact List.mem_append_right _ List.mem_cons_self) (sI_47 p)
  · have e2 : wl p q = sI p ++ 47 :: sI q := by unfold wl; rw [if_neg a]
    rw [e2] at e
    by_cases b : q' = 1
    · have e3 : wl p' q' = sI p' := by unfold wl; rw [if_pos b]
      rw [e3] at e
      exact absurd (by rw [← e]; exact List.mem_append_right _ List.mem_cons_self) (sI_47 p')
    · have e3 : wl p' q' = sI p' ++ 47 :: sI q' := by unfold wl; rw [if_neg b]
      rw [e3] at e
      obtain ⟨z1, z2⟩ := split_uniq _ _ _ _ e (sI_47 p') (sI_47 q')
      exact ⟨by rw [← valI_sI p, z1, valI_sI], by rw [← valI_sI q, z2, valI_sI]⟩
end Md

set_option Elab.async false
set_option linter.all false
set_option maxRecDepth 100000
set_option maxHeartbeats 4000000
/-! plain classes: methods called, instances made in a try, len by an own __len__, constants read off a class -/
namespace Md
open PySem PySem.Spec PyProof.Rows PySem.Calls L2
section
variable {X : Cx} {k j : Nat} {C : Addr} {sp : Sp} {E : XK} {W : WX} {x m : Str} {p pos apos : Pos} {e o : Expr} {es : List Expr} {ta : TE} {t : TA}
theorem pe_gc {v : V} (hg : Gl X x) (h : ∃ u, X.mg x = some u ∧ RelV v u) (hd : (x == ("__debug__" : Str)) = false := by decide) : PE X (.Name x pos) (tC v) := C8.pe_gc hg h hd
theorem pe_cl0 {dvs : List V} (c : Cl X.prog X.w X.K X.mg X.base k x sp dvs) (hr : Room j X.A) (hk : k ≤ j) (hg : Gl X x) (hx : Passes (L2N.CX X.prog X.w) X E) (hdb : (x == ("__debug__" : Str)) = false := by decide) :
    PE X (.Call (.Name x p) [] [] pos) (tCall sp dvs E tNil) := by
  obtain ⟨f, fd, ps, ds, F, hm, kp, b, d⟩ := c.ex
  exact pe_call0 F (hr.mono hk) hg hm kp b d hx hdb
theorem pe_mt2 {pl : Sem Bool} (c : Mt X.prog X.w X.K X.mg X.base k C m sp) (hr : Room j X.A) (hk : k ≤ j) (hx : Passes (L2N.CX X.prog X.w) X E) (he : PE X o ta) (ha : PA X (e :: es) t)
    (hst : starEach (e :: es) X.env = (false, eval e X.env) :: starEach es X.env := by rfl) (hpl : (backTo pos (starEach es X.env)).any (·.1) = false := by rfl)
    (ht : eval (.Call (.Attribute o m apos) (e :: es) [] pos) X.env = (do
      let ov ← eval o X.env
      standAt apos.atName
      let (f, first) ← holding [ov] (getMethod ov m pl)
      callWith pos f first (backTo pos (starEach (e :: es) X.env)) (backToKw pos (keywordEach [] X.env))) := by rfl) :
    PE X (.Call (.Attribute o m apos) (e :: es) [] pos) (tMeth C m sp [] E ta t) := by
  obtain ⟨f, fd, ps, c1, hm, F, b⟩ := c.ex
  exact pe_meth he c1 hm F (hr.mono hk) b .nil hx ha hst hpl ht
theorem pe_mt20 {pl : Sem Bool} (c : Mt X.prog X.w X.K X.mg X.base k C m sp) (hr : Room j X.A) (hk : k ≤ j) (hx : Passes (L2N.CX X.prog X.w) X E) (he : PE X o ta)
    (ht : eval (.Call (.Attribute o m apos) [] [] pos) X.env = (do
      let ov ← eval o X.env
      standAt apos.atName
      let (f, first) ← holding [ov] (getMethod ov m pl)
      callWith pos f first (backTo pos (starEach [] X.env)) (backToKw pos (keywordEach [] X.env))) := by rfl) :
    PE X (.Call (.Attribute o m apos) [] [] pos) (tMeth C m sp [] E ta tNil) := by
  obtain ⟨f, fd, ps, c1, hm, F, b⟩ := c.ex
  exact pe_meth0 he c1 hm F (hr.mono hk) b .nil hx ht
/-- C(..) in a try: what __init__ raises, the try takes -/
def tMakeS (C : Addr) (sp : Sp) (E : L2.St → XK) (t : TA) : TE := fun σ H Q => t σ H fun vs H1 => ∀ x dx, H1 x = none → H1 dx = none → dx ≠ x →
  sp (.ref x :: (vs ++ [])) (upd (upd H1 dx (.own x)) x (.ins C dx [])) (fun v H2 => v = .non ∧ Q (.ref x) H2) (E σ)
theorem run_makeS {pins : List (Addr × Obj)} {σ : L2.St} {H : Hp} {s : Shared} {Q : VK} {us : List Value} {vs : List V} {f : Addr} {fd : FuncData} {ps : List Str} (M : Mk X.K C f) (F : FnOk X.prog X.w X.K X.mg X.base (L2N.CX X.prog X.w) k f fd ps sp) (hr : Room (k + 1) X.A)
    (hb : Binds X.K fd ps []) (hx : PassesAt (L2N.CX X.prog X.w) X σ E) (I : Inv X pins σ H s) (r : Vals vs us)
    (h : ∀ x dx, H x = none → H dx = none → dx ≠ x → sp (.ref x :: (vs ++ [])) (upd (upd H dx (.own x)) x (.ins C dx [])) (fun v H2 => v = .non ∧ Q (.ref x) H2) E) :
    wpAny (model X.prog X.w) X.A (call (.ref C) us) (EP X pins σ Q) X.xe s := by
  have hq := h (s.heap.objs.size + 1) s.heap.objs.size (I.hok.fresh (Nat.le_succ _)) (I.hok.fresh (Nat.le_refl _)) (Nat.ne_of_lt (Nat.lt_succ_self _))
  have I2 := Inv.made (C := C) I
  have r2 : Vals (V.ref (s.heap.objs.size + 1) :: (vs ++ [])) (Value.ref (s.heap.objs.size + 1) :: (us ++ [])) := .cons rfl (r.append .nil)
  have hl : (Value.ref (s.heap.objs.size + 1) :: us ++ []).length = ps.length := by
    have e := r2.length
    rw [F.len _ _ _ _ hq] at e
    exact e.symm
  refine wpAny_call (make_map (f := f) I.kIn M.makes M.init (beq_iff_eq.mp M.fn) (codeAny_mono (F.run _ X.stack _ _ ⟨Value.ref (s.heap.objs.size + 1) :: us, []⟩ (Value.ref (s.heap.objs.size + 1) :: (us ++ [])) _ _ E (hr.make C us [])
    (I2.env0.make C us []) (by
      have z := hb _ (Value.ref (s.heap.objs.size + 1) :: us) I2.kIn hl
      rw [List.cons_append] at z
      exact z) r2 hq) fun r s' hq' => ?_))
  cases r with
  | error e => exact hx pins _ _ e s' I2 hq'
  | ok fl =>
    cases fl with
    | ret u =>
      obtain ⟨v, H', I3, rv, ev, q3⟩ := I2.after hq'
      subst ev
      exact ⟨rv, ⟨V.ref (s.heap.objs.size + 1), H', I3, rfl, q3⟩⟩
    | next => exact False.elim hq'
    | brk => exact False.elim hq'
    | cont => exact False.elim hq'
theorem pe_mkS (c : Km X.prog X.w X.K X.mg X.base k x C sp) (hr : Room j X.A) (hk : k + 1 ≤ j) (hg : Gl X x) (hx : ∀ σ, PassesAt (L2N.CX X.prog X.w) X σ (WE W σ)) (ha : PA X (e :: es) t)
    (hdb : (x == ("__debug__" : Str)) = false := by decide) (he : starEach (e :: es) X.env = (false, eval e X.env) :: starEach es X.env := by rfl) (hpl : (backTo pos (starEach es X.env)).any (·.1) = false := by rfl) :
    PE X (.Call (.Name x p) (e :: es) [] pos) (tMakeS C sp (WE W) t) := by
  obtain ⟨fI, fd, ps, M, F, b, hm⟩ := c.ex
  refine ⟨fun pins s σ H Q I h => ?_⟩
  refine wpAny_Call_Name_kw (ld_glob I hg hm ?_ hdb)
  refine PySem.W.callWith_K (h₀ := X.base) I.ok.mod.kin M.kp (thn (ha.run pos pins s σ H _ I h) fun us s1 ⟨vs, H1, I1, r, q⟩ => ⟨I1.kIn, ?_⟩) he hpl
  exact run_makeS M F (hr.mono hk) b (hx σ) I1 r q
/-- len(o) by the class's own __len__ -/
def rLenO (C : Addr) (sp : Sp) (E : XK) : List V → Hp → VK → Prop := fun xs H Q => ∃ a dx fs, xs = [.ref a] ∧ H a = some (.ins C dx fs) ∧ sp [.ref a] H (fun v H1 => ∃ n : Int, v = .int n ∧ 0 ≤ n ∧ n < 2 ^ 63 ∧ Q (.int n) H1) E
theorem call_lenO (c : Mt X.prog X.w X.K X.mg X.base k C "__len__" sp) (hr : Room j X.A) (hk : k + 1 ≤ j) (hx : Passes (L2N.CX X.prog X.w) X E) : CallR X (.builtin "len") (rLenO C sp E) := by
  intro pins s σ H xs us Q I r h
  obtain ⟨a, dx, fs, rfl, ha, q⟩ := h
  obtain ⟨u, rfl, rx⟩ := vals1 r
  obtain rfl : u = .ref a := rx
  obtain ⟨f, fd, ps, c1, hm, F, b⟩ := c.ex
  obtain ⟨mA, O, _, _, _, _⟩ := ins_get I.hok ha
  obtain ⟨od, J, _⟩ := O.look
  obtain ⟨m, Fr⟩ := I.fr
  refine PySem.W.len_K Fr I.ok.mod.kin J hm.at_ hm.fn ?_
  have hl : ([Value.ref a] ++ []).length = ps.length := by
    have e := F.len _ _ _ _ q
    rw [← e]
    rfl
  refine wpAny_call (codeAny_mono (F.run X.A.in1 X.stack s H ⟨[.ref a], []⟩ [.ref a] [.ref a] _ E (hr.mono hk).in1 I.env0.in1 (b s [.ref a] I.kIn hl) (.cons rfl .nil) q) fun r s' hq => ?_)
  cases r with
  | error e => exact hx pins σ H s e s' I hq
  | ok fl =>
    cases fl with
    | ret u =>
      obtain ⟨v, H', I3, rv, n, rfl, h0, h1, q3⟩ := I.after hq
      obtain ⟨t, rfl⟩ := (show ∃ t, u = Value.int n t from rv)
      exact ⟨⟨h0, h1⟩, ⟨.int n, H', I3.tok _, ⟨_, rfl⟩, q3⟩⟩
    | next => exact False.elim hq
    | brk => exact False.elim hq
    | cont => exact False.elim hq
/-- C.f, a constant of the class -/
structure CCon (K : PySem.W.Frag) (C : Addr) (f : Str) (v : V) : Prop where
  ex : ∃ mc u, ClX.CRead K C mc ∧ ClX.CVal K C mc f v u
theorem pe_ccon {f : Str} {v : V} (h : CCon X.K C f v) (he : PE X e (tC (.ref C))) (hb : attributeBase e f X.env (eval e X.env) = eval e X.env := by rfl) : PE X (.Attribute e f pos) (tC v) := by
  obtain ⟨mc, u, h1, h2⟩ := h.ex
  exact ⟨fun pins s σ H Q I q => (ClX.pe_cval he hb).run pins s σ H Q I ⟨C, mc, v, u, rfl, h1, h2, q⟩⟩
end
def cconB (K : PySem.W.Frag) (C : Addr) (f : Str) (v : V) : Bool := match K.lookup C with
  | some o => PySem.W.readsIn K C o.cls && (He.eqO (PySem.W.specialIn K (.ref C) "__getattribute__") (some (some (.builtin "type.__getattribute__"))) && match PySem.W.findCls K (.ref C) o.cls f with
    | some (.val u) => He.relB v u
    | _ => false)
  | none => false
theorem cconB_ok {K : PySem.W.Frag} {C : Addr} {f : Str} {v : V} (h : cconB K C f v = true) : CCon K C f v := by
  unfold cconB at h
  split at h
  · rename_i o _
    obtain ⟨h1, h⟩ := Bool.and_eq_true_iff.mp h
    obtain ⟨h2, h⟩ := Bool.and_eq_true_iff.mp h
    split at h
    · rename_i u hu
      exact ⟨_, u, ⟨h1, He.eqO_ok h2⟩, ⟨hu, He.relB_ok h⟩⟩
    · cases h
  · cases h
end Md

set_option Elab.async false
set_option linter.all false
set_option maxRecDepth 100000
set_option maxHeartbeats 4000000
/-! texts: z[::-1]; readings by name -/
namespace Md
open PySem PySem.Spec PyProof.Rows PySem.Calls L2
def revS (z : Str) : Str := ⟨z.cps.toList.reverse.toArray⟩
theorem revS_picked (z : Str) : (Builtin.Str.strSliceIndices none none (-1) z.length).filterMap (z.cps[·]?) = z.cps.toList.reverse := by
  rw [PyProof.Rows.picked_rev, PyProof.Rows.filterMap_get, List.map_map]
  · refine List.ext_getElem (by simp [Str.length]) fun i h1 h2 => ?_
    simp only [List.getElem_map, List.getElem_range, Function.comp, List.getElem_reverse, Array.getElem_toList, Array.length_toList]
    have h3 : i < z.cps.size := by simpa using h2
    have e : z.length - 1 - i = z.cps.size - 1 - i := rfl
    rw [e, Array.getD, dif_pos (by omega)]
    rfl
  · intro i hi
    obtain ⟨k, hk, rfl⟩ := List.mem_map.mp hi
    have hk' : k < z.length := List.mem_range.mp hk
    show z.length - 1 - k < z.length
    omega
def tRevS (te : TE) : TE := fun σ H Q => te σ H fun x H1 => ∃ z, x = .str z ∧ z.length ≤ sizeLine ∧ Q (.str (revS z)) H1
section
variable {X : Cx}
theorem pe_revS {e : Expr} {te : TE} {k : Nat} {p1 p2 p3 pos : Pos} (he : PE X e te) : PE X (.Subscript e (.Slice none none (some (.UnaryOp .USub (.Constant (.int 1) k p1) p2)) p3) pos) (tRevS te) := by
  refine ⟨fun pins s σ H Q I h => ?_⟩
  refine Subscript_ (thn (he.run pins s σ H _ I h) fun v s1 ⟨x, H1, I1, r1, q1⟩ => ?_)
  obtain ⟨z, ex, hz, q⟩ := q1
  subst ex
  obtain ⟨t, rfl⟩ := r1
  have hst : PO X (some (.UnaryOp .USub (.Constant (.int 1) k p1) p2)) (tPart (tUn (rU fun i => .int (-i)) (tC (.int 1)))) := po_some (pe_un un_neg pe_int)
  refine wpAny_Slice (thn (po_none.run pins s1 σ H1 (fun o H2 => o = none ∧ H2 = H1) I1 ⟨rfl, rfl⟩) fun vl s2 ⟨l, H2, I2, pl, el, e2⟩ => ?_)
  subst el e2
  refine thn (po_none.run pins s2 σ H2 (fun o H3 => o = none ∧ H3 = H2) I2 ⟨rfl, rfl⟩) fun vu s3 ⟨u, H3, I3, pu, eu, e3⟩ => ?_
  subst eu e3
  refine thn (hst.run pins s3 σ H3 (fun o H4 => o = some (-1) ∧ H4 = H3) I3 ⟨1, rfl, -1, rfl, rfl, rfl⟩) fun vs s4 ⟨o, H4, I4, ps, eo, e4⟩ => ?_
  subst eo e4
  have I5 : Inv X pins σ H4 { s4 with heap := s4.heap.push { cls := .type "slice", data := .fields #[vl, vu, vs] } } := I4.kept (t' := s4.toks) fun b ob q => Heap.get?_push_of_some _ q
  obtain ⟨l, rfl, el⟩ := IsPart.raw pl
  obtain ⟨u, rfl, eu⟩ := IsPart.raw pu
  obtain ⟨w, rfl, ew⟩ := IsPart.raw ps
  obtain rfl : l = none := by cases l <;> first | rfl | cases el
  obtain rfl : u = none := by cases u <;> first | rfl | cases eu
  obtain ⟨wt, rfl⟩ : ∃ wt, w = some (-1, wt) := by
    cases w with
    | none => cases ew
    | some p =>
      obtain ⟨i, wt⟩ := p
      cases ew
      exact ⟨wt, rfl⟩
  refine tail_any (ops := [.str z t, .ref s4.heap.objs.size]) (typeIs_str _ _ _) (PySem.F.slot_str_getitem.lookup) ?_ (by with_unfolding_all rfl)
  refine wpAny_getItem_str_slice (l := none) (u := none) (st := some (-1, wt)) (Heap.IsSliceOf.new _ _ _ _) rfl ?_
  show Made.post (if ((-1 : Int) == 1 && (Builtin.Str.strSliceIndices none none (-1) z.length).length == z.length) = true then Made.val (.str z t)
    else Made.str ⟨((Builtin.Str.strSliceIndices none none (-1) z.length).filterMap (z.cps[·]?)).toArray⟩) (EP X pins σ Q) _
  rw [if_neg (by simp), revS_picked]
  refine ⟨?_, .str _, H4, I5.tok _, ⟨_, rfl⟩, q⟩
  show z.cps.toList.reverse.toArray.size ≤ sizeLine
  rw [List.size_toArray, List.length_reverse, Array.length_toList]
  exact hz
def rTIdx (K : PySem.W.Frag) : V → List V → Hp → VK → Prop := fun x xs H Q => ∃ p, ∃ ys : List Str, ∃ z j, x = .ref p ∧ xs = [.str z] ∧ SqT K H p (ys.map V.str) ∧ ys[j]? = some z ∧ (∀ m, m < j → ys[m]? ≠ some z) ∧ Q (.int (j : Nat)) H
theorem mt_tidx : MtR X "tuple.index" (rTIdx X.K) := mt_tup_index
/-- a tuple made by tuple(x) or displayed: of no dict -/
def TupF (H : Hp) (a : Addr) (ys : List V) : Prop := ∃ o, H a = some (.frz o (.tup ys)) ∧ o.cls = .type "tuple" ∧ o.dict = none
theorem TupF.seq {K : PySem.W.Frag} {H : Hp} {a : Addr} {ys : List V} (h : TupF H a ys) : SqT K H a ys := by
  obtain ⟨o, h, _⟩ := h
  exact .inl (.inr ⟨o, h⟩)
def rTupF (K : PySem.W.Frag) : List V → Hp → VK → Prop := fun xs H Q => ∃ p ys, xs = [.ref p] ∧ SqL K H p ys ∧ ∀ l (o : Obj), H l = none → o.cls = .type "tuple" → o.dict = none → Q (.ref l) (upd H l (.frz o (.tup ys)))
theorem call_tupF : CallR X (.type "tuple") (rTupF X.K) := by
  intro pins s σ H xs us Q I r h
  obtain ⟨p, ys, rfl, hq, q⟩ := h
  obtain ⟨u, rfl, rx⟩ := vals1 r
  cases rx
  obtain ⟨its, r', pl, hz⟩ := I.list hq
  have hlen := r'.length
  refine call_tuple_list pl.isList (fun h' kp => ?_) (by simp only [List.size_toArray] <;> omega)
  have I1 : Inv X pins σ H { s with heap := h' } := I.kept (t' := s.toks) kp
  have I2 : Inv X pins σ (upd H h'.objs.size (.frz { cls := .type "tuple", data := .seq its.toArray } (.tup ys))) { s with heap := h'.push { cls := .type "tuple", data := .seq its.toArray } } :=
    I1.laid (t' := s.toks) (fun b o e => Heap.get?_push_of_some _ e) (Nat.le_refl _) (show ObjOk X.prog X.w _ _ _ (.frz _ (.tup ys)) from ⟨Heap.get?_push_size _ rfl, hz, its, r', IsTup.new _ _⟩)
  exact ⟨.ref h'.objs.size, _, I2, rfl, q _ _ (I1.hok.fresh (Nat.le_refl _)) rfl rfl⟩
def tBMF (r : V → List V → Hp → VK → Prop) (to : TE) (t : TA) : TE := fun σ H Q => to σ H fun x H1 => (∃ p ys, x = .ref p ∧ TupF H1 p ys) ∧ t σ H1 fun xs H2 => r x xs H2 Q
theorem pe_bmF {o e : Expr} {es : List Expr} {to : TE} {t : TA} {name : Str} {apos cpos : Pos} {id : String} {r : V → List V → Hp → VK → Prop} (pa : PlainAttrs "tuple") (slot : Slot "tuple" name id) (hty : typeOf (.builtin id) = pure (.type "method_descriptor")) (hm : MtR X id r) (ho : PE X o to) (ha : PA X (e :: es) t)
    (hbase : attributeBase o name X.env (eval o X.env) = eval o X.env := by rfl)
    (hfew : ((backTo cpos (starEach (e :: es) X.env)).all (fun x => !x.1) && (backToKw cpos (keywordEach [] X.env)).all (fun x => x.1.isSome)
      && decide ((e :: es).length + ([] : List Keyword).length + (if ([] : List Keyword).isEmpty then 0 else 1) < 30)) = true := by rfl)
    (hline : (apos.endLine == cpos.line) = true := by rfl) (hs : starEach (e :: es) X.env = (false, eval e X.env) :: starEach es X.env := by rfl) (hplain : (backTo cpos (starEach es X.env)).any (·.1) = false := by rfl) :
    PE X (.Call (.Attribute o name apos) (e :: es) [] cpos) (tBMF r to t) := by
  refine ⟨fun pins s σ H Q I h => ?_⟩
  refine wpAny_Call_method_late hbase hfew hline rfl (thn (ho.run pins s σ H _ I h) fun v s1 ⟨x, H1, I1, r1, ty, q1⟩ => ?_)
  have h12 : s1.TypeIs v "tuple" ∧ ∀ a, v = .ref a → ∃ ob, s1.heap.get? a = some ob ∧ ob.dict = none := by
    obtain ⟨p, ys, rfl, ob, hp, hc, hd⟩ := ty
    cases r1
    have g := (show ObjOk X.prog X.w H1 s1.heap p (.frz ob (.tup ys)) from I1.hok p _ hp).1
    refine ⟨⟨ob, g, hc⟩, fun a e2 => ?_⟩
    cases e2
    exact ⟨ob, g, hd⟩
  refine ⟨"tuple", id, pa, slot, hty, h12.1, h12.2, ?_⟩
  have hA := ha.run cpos pins s1 σ H1 _ I1 q1
  rw [hs] at hA ⊢
  refine Calls.callWith_builtin (by show (false || (backTo cpos (starEach es X.env)).any (·.1)) = false; rw [hplain] <;> rfl) (Calls.evalArgs_plain ?_)
  exact thn hA fun us s2 ⟨vs, H2, I2, r2, q2⟩ => hm pins s2 σ H2 x vs v us Q I2 r1 r2 q2
def rLenD : List V → Hp → VK → Prop := fun xs H Q => ∃ a kvs, xs = [V.ref a] ∧ H a = some (.dK kvs) ∧ Q (.int kvs.length) H
def rJoin (K : PySem.W.Frag) : V → List V → Hp → VK → Prop := fun x xs H Q => ∃ a p, ∃ ys : List Str, x = .str a ∧ xs = [.ref p] ∧ (SqL K H p (ys.map V.str) ∨ SqT K H p (ys.map V.str)) ∧ (ys.map (·.length)).sum + ys.length * a.length ≤ 16777216 ∧ Q (.str (Txt.join a ys)) H
def rSplitS : V → List V → Hp → VK → Prop := fun x xs H Q => ∃ a b, x = .str a ∧ xs = [.str b] ∧ (b.length == 0) = false ∧ a.length + 2 ≤ sizeLine ∧ rNewStrs (Txt.split a b) H Q
def rUpperS : V → List V → Hp → VK → Prop := fun x xs H Q => ∃ a, x = .str a ∧ xs = [] ∧ a.length ≤ 5592405 ∧ Q (.str (Txt.upper a)) H
end
end Md

set_option Elab.async false
set_option linter.all false
set_option maxRecDepth 100000
set_option maxHeartbeats 4000000
/-! own operators: ==, !=, in, not in by the methods of a plain class -/
namespace Md
open PySem PySem.Spec PyProof.Rows PySem.Calls L2
/-- the type of a class's objects is found -/
structure TyC (K : PySem.W.Frag) (C : Addr) : Prop where
  ha : PySem.W.findIn K (.ref C) "__class__" = some (some (.builtin "object.__class__"))
  hn : PySem.W.specialIn K (.builtin "object.__class__") "__get__" = some (some (.builtin "getset_descriptor.__get__"))
  htk : PySem.W.takesIn K (.builtin "object.__class__") = some true
  hm : PySem.W.mroIn K C (.type "object") = some true
  kc : ((PySem.W.clsIn K C).isSome && PySem.W.typeIn K (.ref C) == some (.type "type")) = true
def tycB (K : PySem.W.Frag) (C : Addr) : Bool := decide (PySem.W.findIn K (.ref C) "__class__" = some (some (.builtin "object.__class__"))) && (decide (PySem.W.specialIn K (.builtin "object.__class__") "__get__" = some (some (.builtin "getset_descriptor.__get__"))) &&
  (decide (PySem.W.takesIn K (.builtin "object.__class__") = some true) && (decide (PySem.W.mroIn K C (.type "object") = some true) && ((PySem.W.clsIn K C).isSome && PySem.W.typeIn K (.ref C) == some (.type "type")))))
theorem tycB_ok {K : PySem.W.Frag} {C : Addr} (h : tycB K C = true) : TyC K C := by
  obtain ⟨h1, h⟩ := Bool.and_eq_true_iff.mp h
  obtain ⟨h2, h⟩ := Bool.and_eq_true_iff.mp h
  obtain ⟨h3, h⟩ := Bool.and_eq_true_iff.mp h
  obtain ⟨h4, h5⟩ := Bool.and_eq_true_iff.mp h
  exact ⟨of_decide_eq_true h1, of_decide_eq_true h2, of_decide_eq_true h3, of_decide_eq_true h4, h5⟩
def isTyV : Value → Bool
  | .type _ => true
  | _ => false
/-- a built-in type whose line holds built-in types alone -/
def offB (T : String) : Bool := match PySem.fastBuiltinMro T with
  | some l => l.all isTyV
  | none => false
theorem off_sub {K : PySem.W.Frag} {T : String} (h : offB T = true) (C : Addr) : PySem.W.subIn K (.type T) (.ref C) = some false := by
  unfold offB at h
  show (PySem.fastBuiltinMro T).map (·.contains (.ref C)) = some false
  split at h
  · rename_i l e
    rw [e]
    show some (l.contains (.ref C)) = some false
    congr 1
    cases c : l.contains (Value.ref C) with
    | false => rfl
    | true =>
      have hm := List.contains_iff_mem.mp c
      have := List.all_eq_true.mp h _ hm
      cases this
  · cases h
theorem TyC.off {K : PySem.W.Frag} {C : Addr} (t : TyC K C) {T : String} (h : offB T = true) : PySem.W.kitOne K (.type T) (.ref C) = some false := by
  unfold PySem.W.kitOne
  rw [if_neg (by simp)]
  show (if _ then PySem.W.subIn K (.type T) (.ref C) else none) = _
  rw [if_pos t.kc]
  exact off_sub h C
theorem TyC.self {K : PySem.W.Frag} {C : Addr} : PySem.W.kitOne K (.ref C) (.ref C) = some true := by
  unfold PySem.W.kitOne
  rw [if_pos (by simp)]
theorem nf_off {K : PySem.W.Frag} {C : Addr} {T : String} (h : offB T = true) : PySem.W.notFirst K C (.type T) = true := by
  unfold PySem.W.notFirst
  rw [off_sub h C]
  simp
theorem nf_self {K : PySem.W.Frag} {C : Addr} : PySem.W.notFirst K C (.ref C) = true := by
  unfold PySem.W.notFirst
  simp
theorem off_list : offB "list" = true := by decide +kernel
theorem off_tuple : offB "tuple" = true := by decide +kernel
theorem off_str : offB "str" = true := by decide +kernel
theorem off_none : offB "NoneType" = true := by decide +kernel
theorem off_dict : offB "dict" = true := by decide +kernel
theorem off_int : offB "int" = true := by decide +kernel
theorem off_bool : offB "bool" = true := by decide +kernel
theorem TyC.ty {K : PySem.W.Frag} {C a dx : Addr} {H : Hp} {fs : List (Str × V)} (t : TyC K C) (cl : Cls K C) (e : H a = some (.ins C dx fs)) : TyX K H (.ref a) (.ref C) := .base (.ins e cl t.ha t.hn t.htk t.hm)
/-- no __ne__ of its own -/
def NeC (K : PySem.W.Frag) (C : Addr) : Prop := PySem.W.findIn K (.ref C) "__ne__" = some (some (.builtin "object.__ne__"))
def necB (K : PySem.W.Frag) (C : Addr) : Bool := decide (PySem.W.findIn K (.ref C) "__ne__" = some (some (.builtin "object.__ne__"))) && decide (PySem.W.mroIn K C (.type "object") = some true)
theorem necB_ok {K : PySem.W.Frag} {C : Addr} (h : necB K C = true) : NeC K C := by
  unfold NeC
  exact of_decide_eq_true (Bool.and_eq_true_iff.mp h).1
def rEqO (K : PySem.W.Frag) (C : Addr) (sp : Sp) (E : XK) : R2 := fun x y H Q => ∃ a dx fs t, x = .ref a ∧ H a = some (.ins C dx fs) ∧ TyX K H y t ∧ PySem.W.notFirst K C t = true ∧ sp [.ref a, y] H (fun v H1 => ∃ b, v = .bl b ∧ Q (.bl b) H1) E
def rNeO (K : PySem.W.Frag) (C : Addr) (sp : Sp) (E : XK) : R2 := fun x y H Q => ∃ a dx fs t, x = .ref a ∧ H a = some (.ins C dx fs) ∧ TyX K H y t ∧ PySem.W.notFirst K C t = true ∧ sp [.ref a, y] H (fun v H1 => ∃ b, v = .bl b ∧ Q (.bl (!b)) H1) E
/-- x in o -/
def rInO (C : Addr) (sp : Sp) (E : XK) : R2 := fun x y H Q => ∃ a dx fs, y = .ref a ∧ H a = some (.ins C dx fs) ∧ sp [.ref a, x] H (fun v H1 => ∃ b, v = .bl b ∧ Q (.bl b) H1) E
def rNotInO (C : Addr) (sp : Sp) (E : XK) : R2 := fun x y H Q => ∃ a dx fs, y = .ref a ∧ H a = some (.ins C dx fs) ∧ sp [.ref a, x] H (fun v H1 => ∃ b, v = .bl b ∧ Q (.bl (!b)) H1) E
section
variable {X : Cx} {k j : Nat} {C : Addr} {sp : Sp} {E : XK}
theorem op_eqO (c : Mt X.prog X.w X.K X.mg X.base k C "__eq__" sp) (hr : Room j X.A) (hk : k ≤ j) (hx : Passes (L2N.CX X.prog X.w) X E) : OpR X (compareOp .Eq) (rEqO X.K C sp E) := by
  intro pins s σ H x y v u Q I rx ry h
  obtain ⟨a, dx, fs, t, rfl, ha, ty, hn, q⟩ := h
  obtain rfl : v = .ref a := rx
  obtain ⟨P, Z, p, _⟩ := kit_of I ry ty
  obtain ⟨f, fd, ps, c1, hm, F, b⟩ := c.ex
  obtain ⟨mA, O, _, _, _, _⟩ := ins_get I.hok ha
  obtain ⟨od, J, _⟩ := O.look
  obtain ⟨m, Fr⟩ := I.fr
  refine PySem.W.cmp_ofEq (PySem.W.cmp_K (by have := hr.un; omega) Fr I.ok.mod.kin J (Z.ty _ _ I.kIn p) hn hm.at_ hm.fn ?_)
  have hl : ([Value.ref a, u] ++ []).length = ps.length := by
    have e := F.len _ _ _ _ q
    rw [← e]
    rfl
  refine wpAny_call (codeAny_mono (F.run X.A X.stack s H ⟨[.ref a, u], []⟩ [.ref a, u] [.ref a, y] _ E (hr.mono hk) I.env0 (b s [.ref a, u] I.kIn hl) (.cons rfl (.cons ry .nil)) q) fun r s' hq => ?_)
  cases r with
  | error e => exact hx pins σ H s e s' I hq
  | ok fl =>
    cases fl with
    | ret u =>
      obtain ⟨v, H', I3, rv, b, rfl, q3⟩ := I.after hq
      obtain rfl : u = .bool b := rv
      exact ⟨.bl b, H', I3, rfl, q3⟩
    | next => exact False.elim hq
    | brk => exact False.elim hq
    | cont => exact False.elim hq
theorem ne_bind (self : Value) : bindSpecial (.builtin "object.__ne__") self = pure (.builtin "object.__ne__", [self]) :=
  (Slot.of (T := "object") (name := "__ne__") (owner := "object") (n := "__ne__") (by rw [typeLookup_type, builtinLookup_eq_fast]; kernel_rfl) (by decide +kernel) (by decide +kernel) (by decide +kernel)
    (.inl (by decide +kernel)) (by rw [isSubtype_type]; kernel_rfl)).bind self
theorem ne_plain : plainId "object.__ne__" = true := by decide +kernel
theorem ifBound_B {K : PySem.W.Frag} {M : Model} {A : Around} {E : Value → Shared → Prop} {s : Shared} {x C : Addr} {ox : Obj} {od : Option Obj} {name : Str} {id : String} {args : List Value} {Q : Option Value → Shared → Prop} (X : K.In s.heap) (I : PySem.W.InstAt s.heap x ox C od)
    (hs : PySem.W.findIn K (.ref C) name = some (some (.builtin id))) (hb : bindSpecial (.builtin id) (.ref x) = pure (.builtin id, [.ref x]))
    (h : wpAny M A (call (.builtin id) (.ref x :: args)) (fun v => Q (some v)) E s) : wpAny M A (callSpecialIfBound? (.ref x) name args) Q E s := by
  simp only [callSpecialIfBound?, bindSpecialIfBound?]
  refine wpAny_holding (wpAny_bind (wpAny_bind (wpAny_bind (I.type.here ((PySem.W.looks_findIn X hs).here ?_)))))
  refine wpAny_bind (wpAny_askSetting (wpAny_ite ?_))
  have fin : wpAny M A (call (.builtin id) ([.ref x] ++ args) >>= fun v => pure (some v)) Q E s := wpAny_bind (wpAny_mono h (fun v s' h' => wpAny_pure h') fun _ _ h' => h')
  rw [hb]
  split
  · exact wpAny_bind (wpAny_pure (wpAny_pure (by exact fin)))
  · exact wpAny_tryCatch (wpAny_bind (wpAny_pure (wpAny_pure (by exact fin))))
theorem ne_K {prog : Program} {w : World} {A : Around} {E : Value → Shared → Prop} {s : Shared} {K : PySem.W.Frag} {x C L f : Addr} {h₀ : Heap} {m : Str → Option Value} {ox : Obj} {od : Option Obj} {b tb : Value} {Q : Value → Shared → Prop}
    (hu : A.units + 1 < cLine) (Fr0 : Fr h₀ L s.heap m) (X₀ : K.In h₀) (I : PySem.W.InstAt s.heap x ox C od) (hb : PySem.W.Looks (model prog w) s.heap (typeOf b) tb) (hn : PySem.W.notFirst K C tb = true)
    (nc : NeC K C) (ho : PySem.W.mroIn K C (.type "object") = some true) (hs : PySem.W.findIn K (.ref C) "__eq__" = some (some (.ref f))) (hf : PySem.W.isFn K (.ref f) = true)
    (h : wpAny (model prog w) A.in1 (call (.ref f) [.ref x, b]) (fun v s' => ∃ r, v = .bool r ∧ Q (.bool (!r)) s') E s) : wpAny (model prog w) A (richCompare .NotEq (.ref x) b) Q E s := by
  have X := X₀.keeps Fr0.keep
  have one : wpAny (model prog w) A (tryCompare (.ref x) "__ne__" b) (fun r s' => ∃ v, r = some v ∧ Q v s') E s := by
    have hu1 : A.in1.units < cLine := hu
    unfold tryCompare
    refine wpAny_bind (ifBound_B X I nc (ne_bind _) (wpAny_call (codeAny_call_builtin ne_plain F.cmpEntry_ne
      (PySem.W.check_slot F.cmpKind_ne F.cmpSplit_ne (I.type.andThen (PySem.W.looks_subIn X ho)) (F.cmpArgs_ne _ _) ?_))))
    unfold Builtin.«object.__ne__»
    repeat (first
      | with_reducible refine wpAny_cRoomFor hu1 ?_
      | (refine wpAny_bind (m := callSpecialIfBound? (.ref x) (Str.ofString "__eq__") [b])
          (PySem.W.ifBound_K X I hs hf (wpAny_mono h (fun r s' hr => by
            obtain ⟨r, rfl, hq⟩ := hr
            repeat (first | exact wpAny_truthy_bool (wpAny_pure (wpAny_pure ⟨_, rfl, hq⟩)) | (refine wpAny_bind (m := truthy (.bool _)) (wpAny_truthy_bool ?_)) | exact wpAny_pure ⟨_, rfl, hq⟩ | exact ⟨_, rfl, hq⟩ | wp_step)) fun _ _ e => e)))
      | wp_step)
  unfold richCompare
  simp only [oneThing_ref]
  refine wpAny_holding (wpAny_bind (wpAny_cRoomFor (by omega) ?_))
  refine wpAny_bind (I.type.here (wpAny_bind (hb.here ?_)))
  split
  · rename_i q
    have e : PySem.W.subIn K tb (.ref C) = some false := by
      rcases Bool.or_eq_true_iff.mp hn with e | e
      · rw [beq_iff_eq.mp e] at q; simp at q
      · exact beq_iff_eq.mp e
    refine wpAny_bind ((PySem.W.looks_subIn X e).here ?_)
    simp only [Bool.false_eq_true, if_false]
    refine wpAny_bind (wpAny_mono one (fun r s' z => ?_) fun _ _ e => e)
    obtain ⟨v, rfl, hq⟩ := z
    exact wpAny_pure hq
  · refine wpAny_bind (wpAny_pure ?_)
    simp only [Bool.false_eq_true, if_false]
    refine wpAny_bind (wpAny_mono one (fun r s' z => ?_) fun _ _ e => e)
    obtain ⟨v, rfl, hq⟩ := z
    exact wpAny_pure hq
theorem op_neO (c : Mt X.prog X.w X.K X.mg X.base k C "__eq__" sp) (nc : NeC X.K C) (tc : TyC X.K C) (hr : Room j X.A) (hk : k + 1 ≤ j) (hx : Passes (L2N.CX X.prog X.w) X E) : OpR X (compareOp .NotEq) (rNeO X.K C sp E) := by
  intro pins s σ H x y v u Q I rx ry h
  obtain ⟨a, dx, fs, t, rfl, ha, ty, hn, q⟩ := h
  obtain rfl : v = .ref a := rx
  obtain ⟨P, Z, p, _⟩ := kit_of I ry ty
  obtain ⟨f, fd, ps, c1, hm, F, b⟩ := c.ex
  obtain ⟨mA, O, _, _, _, _⟩ := ins_get I.hok ha
  obtain ⟨od, J, _⟩ := O.look
  obtain ⟨m, Fr⟩ := I.fr
  refine PySem.W.cmp_ofNotEq (ne_K (by have := hr.un; omega) Fr I.ok.mod.kin J (Z.ty _ _ I.kIn p) hn nc tc.hm hm.at_ hm.fn ?_)
  have hl : ([Value.ref a, u] ++ []).length = ps.length := by
    have e := F.len _ _ _ _ q
    rw [← e]
    rfl
  refine wpAny_call (codeAny_mono (F.run X.A.in1 X.stack s H ⟨[.ref a, u], []⟩ [.ref a, u] [.ref a, y] _ E (hr.mono hk).in1 I.env0.in1 (b s [.ref a, u] I.kIn hl) (.cons rfl (.cons ry .nil)) q) fun r s' hq => ?_)
  cases r with
  | error e => exact hx pins σ H s e s' I hq
  | ok fl =>
    cases fl with
    | ret u =>
      obtain ⟨v, H', I3, rv, b, rfl, q3⟩ := I.after hq
      obtain rfl : u = .bool b := rv
      exact ⟨b, rfl, ⟨.bl (!b), H', I3, rfl, q3⟩⟩
    | next => exact False.elim hq
    | brk => exact False.elim hq
    | cont => exact False.elim hq
theorem op_inO (c : Mt X.prog X.w X.K X.mg X.base k C "__contains__" sp) (hr : Room j X.A) (hk : k ≤ j) (hx : Passes (L2N.CX X.prog X.w) X E) : OpR X (compareOp .In) (rInO C sp E) := by
  intro pins s σ H x y v u Q I rx ry h
  obtain ⟨a, dx, fs, rfl, ha, q⟩ := h
  obtain rfl : u = .ref a := ry
  obtain ⟨f, fd, ps, c1, hm, F, b⟩ := c.ex
  obtain ⟨mA, O, _, _, _, _⟩ := ins_get I.hok ha
  obtain ⟨od, J, _⟩ := O.look
  obtain ⟨m, Fr⟩ := I.fr
  refine PySem.W.in_K Fr I.ok.mod.kin J hm.at_ hm.fn ?_
  have hl : ([Value.ref a, v] ++ []).length = ps.length := by
    have e := F.len _ _ _ _ q
    rw [← e]
    rfl
  refine wpAny_call (codeAny_mono (F.run X.A X.stack s H ⟨[.ref a, v], []⟩ [.ref a, v] [.ref a, x] _ E (hr.mono hk) I.env0 (b s [.ref a, v] I.kIn hl) (.cons rfl (.cons rx .nil)) q) fun r s' hq => ?_)
  cases r with
  | error e => exact hx pins σ H s e s' I hq
  | ok fl =>
    cases fl with
    | ret u =>
      obtain ⟨v, H', I3, rv, b, rfl, q3⟩ := I.after hq
      obtain rfl : u = .bool b := rv
      exact wpAny_truthy_bool ⟨.bl b, H', I3, rfl, q3⟩
    | next => exact False.elim hq
    | brk => exact False.elim hq
    | cont => exact False.elim hq
theorem op_notInO (c : Mt X.prog X.w X.K X.mg X.base k C "__contains__" sp) (hr : Room j X.A) (hk : k ≤ j) (hx : Passes (L2N.CX X.prog X.w) X E) : OpR X (compareOp .NotIn) (rNotInO C sp E) := by
  intro pins s σ H x y v u Q I rx ry h
  obtain ⟨a, dx, fs, rfl, ha, q⟩ := h
  obtain rfl : u = .ref a := ry
  obtain ⟨f, fd, ps, c1, hm, F, b⟩ := c.ex
  obtain ⟨mA, O, _, _, _, _⟩ := ins_get I.hok ha
  obtain ⟨od, J, _⟩ := O.look
  obtain ⟨m, Fr⟩ := I.fr
  refine PySem.W.notIn_K Fr I.ok.mod.kin J hm.at_ hm.fn ?_
  have hl : ([Value.ref a, v] ++ []).length = ps.length := by
    have e := F.len _ _ _ _ q
    rw [← e]
    rfl
  refine wpAny_call (codeAny_mono (F.run X.A X.stack s H ⟨[.ref a, v], []⟩ [.ref a, v] [.ref a, x] _ E (hr.mono hk) I.env0 (b s [.ref a, v] I.kIn hl) (.cons rfl (.cons rx .nil)) q) fun r s' hq => ?_)
  cases r with
  | error e => exact hx pins σ H s e s' I hq
  | ok fl =>
    cases fl with
    | ret u =>
      obtain ⟨v, H', I3, rv, b, rfl, q3⟩ := I.after hq
      obtain rfl : u = .bool b := rv
      exact wpAny_truthy_bool ⟨.bl (!b), H', I3, rfl, q3⟩
    | next => exact False.elim hq
    | brk => exact False.elim hq
    | cont => exact False.elim hq
end
/-! methods called in a try -/
def tMethW (C : Addr) (m : Str) (sp : Sp) (E : L2.St → XK) (ta : TE) (t : TA) : TE := fun σ H Q => ta σ H fun x H1 => ∃ a dx fs, x = .ref a ∧ H1 a = some (.ins C dx fs) ∧ fs.lookup m = none ∧ t σ H1 fun vs H2 => sp (x :: (vs ++ [])) H2 Q (E σ)
theorem pe_mtS {X : Cx} {k j : Nat} {C : Addr} {sp : Sp} {W : WX} {m : Str} {pos apos : Pos} {e o : Expr} {es : List Expr} {ta : TE} {t : TA} {pl : Sem Bool} (c : Mt X.prog X.w X.K X.mg X.base k C m sp) (hr : Room j X.A) (hk : k ≤ j)
    (hx : ∀ σ, PassesAt (L2N.CX X.prog X.w) X σ (WE W σ)) (he : PE X o ta) (ha : PA X (e :: es) t) (hst : starEach (e :: es) X.env = (false, eval e X.env) :: starEach es X.env := by rfl) (hpl : (backTo pos (starEach es X.env)).any (·.1) = false := by rfl)
    (ht : eval (.Call (.Attribute o m apos) (e :: es) [] pos) X.env = (do
      let ov ← eval o X.env
      standAt apos.atName
      let (f, first) ← holding [ov] (getMethod ov m pl)
      callWith pos f first (backTo pos (starEach (e :: es) X.env)) (backToKw pos (keywordEach [] X.env))) := by rfl) :
    PE X (.Call (.Attribute o m apos) (e :: es) [] pos) (tMethW C m sp (WE W) ta t) := by
  obtain ⟨f, fd, ps, c1, hm, F, b⟩ := c.ex
  refine ⟨fun pins s σ H Q I h => PySem.W.methodCall_KW (pl := pl) (thn (he.run pins s σ H _ I h) ?_) ht⟩
  rintro u s1 ⟨x, H1, I1, rx, a, dx, fs, rfl, at_, l, q⟩
  obtain rfl : u = Value.ref a := rx
  refine getmeth_ok I1 at_ c1 hm l (PySem.W.callWith_K (first := [.ref a]) (h₀ := X.base) I.ok.mod.kin hm.kp (thn (ha.run pos pins s1 σ H1 _ I1 q) ?_) hst hpl)
  rintro us s2 ⟨vs, H2, I2, r, q2⟩
  exact ⟨I2.kIn, run_fnSD (us := .ref a :: us) (vs := .ref a :: vs) F (hr.mono hk) b .nil (hx σ) I2 (.cons rfl r) q2⟩
/-- list(x) -/
def rListOf (K : PySem.W.Frag) : List V → Hp → VK → Prop := fun xs H Q => ∃ p ys, xs = [.ref p] ∧ (SqL K H p ys ∨ SqT K H p ys) ∧ ∀ l, H l = none → Q (.ref l) (upd H l (.lst ys))
end Md

set_option Elab.async false
set_option linter.all false
set_option maxRecDepth 100000
set_option maxHeartbeats 4000000
/-! defs called where nothing is being shown (no repr around): repr of data in them -/
namespace Md
open PySem PySem.Spec PyProof.Rows PySem.Calls L2
/-- as FnOk, called where nothing is being shown -/
structure FnG (P : Program) (w : World) (K : PySem.W.Frag) (mg : Str → Option Value) (base : Heap) (CX : CXT) (k : Nat) (f : Addr) (fd : FuncData) (ps : List Str) (sp : Sp) : Prop where
  len : ∀ vs H Q E, sp vs H Q E → vs.length = ps.length
  run : ∀ (A : Around) (outer : List Env) (s : Shared) (H : Hp) (args : Args) (us : List Value) (vs : List V) (Q : VK) (E : XK), A.guards = some [] → Room k A →
    Env0 P w K mg base A outer s H → BindsTo s fd args (ps.zip us) → Vals vs us → sp vs H Q E → codeAny (model P w) A (.call (.ref f) args) (CR CX outer P w H s Q E) s
/-- the def at f, by its body: the body may use that nothing is being shown -/
theorem fnG_of {P : Program} {w : World} {K : PySem.W.Frag} {mg : Str → Option Value} {base : Heap} {x qual : Str} {params : Arguments} {body : List Stmt} {scope : Scope} {dvs : List V} {kws : List (Str × V)} {f : Addr} {fd : FuncData}
    {CX : CXT} {N ps : List Str} {k : Nat} {sp : Sp} (F : FunD K x qual params body scope dvs kws f fd) (S : FnScope N ps scope) (len : ∀ vs H Q E, sp vs H Q E → vs.length = ps.length)
    (bodyOk : ∀ (cdv : Value) (B : Around) (outer : List Env) (s : Shared) (H : Hp) (vs : List V) (Q : VK) (E : XK), (B.deeper (envOfC qual scope s.heap.objs.size f cdv)).guards = some [] →
      Room k (B.deeper (envOfC qual scope s.heap.objs.size f cdv)) → sp vs H Q E →
      ∃ t, PSs (cxOf CX P w K mg base N qual scope f cdv B outer s H E) body t ∧ t { nx := fun _ H' => Q .non H', rt := Q } (start N vs) H) :
    FnG P w K mg base CX (k + 1) f fd ps sp := by
  obtain ⟨oc, od, dV, kV, doc, pm, an, cdv, ct, osl, rfl, lk, hcd, _, _⟩ := F.ex
  refine ⟨len, ?_⟩
  intro B outer s H args us vs Q E gd room e0 bnd rel want
  have inK : K.In s.heap := e0.mod.kin.keeps fun q o z => (e0.bs q o z).1
  have known : ∀ y ∈ ps.zip us, scope.names.lookup y.1 = some .local ∨ (scope.names.lookup y.1 = some .cell ∧ ((cellsFrom (s.heap.objs.size + 1) scope.names []).lookup y.1).isSome = true) := by
    rintro ⟨n, v⟩ hy
    exact (S.par n (List.of_mem_zip hy).1).elim .inl fun z => .inr ⟨z, PySem.W.cellsFrom_some _ _ _ (.inl z)⟩
  refine codeAny_call_function room.depth (inK _ _ lk) rfl S.co S.gen rfl (PySem.W.codeRec_of inK hcd) (bnd _ _ _ _ ?_)
  refine wpAny_newFunctionEnv_cells S.kind known ?_
  rintro env rfl s1 x
  refine ⟨(e0.mod.nolimit.keeps fun q o z => (e0.bs q o z).1).keeps x.toInCall.keep, codeAny_func ?_⟩
  obtain ⟨t, walk, reads⟩ := bodyOk cdv B outer s H vs Q E (by show B.guards = _; exact gd) (room.deeper _) want
  have J := inv_start (E := E) (CX := CX) S room.hd e0 (len _ _ _ _ want) rel x
  refine wpAny_mono (walk.run [] s1 (start N vs) H _ J reads) ?_ fun _ _ z => z
  rintro (_ | _ | _ | u) s' z
  · obtain ⟨σ', H', J', q⟩ := z
    exact ⟨.non, H', J'.os, J'.bare, J'.base, J'.hok, rfl, q⟩
  · obtain ⟨_, _, _, q⟩ := z
    exact q.elim
  · obtain ⟨_, _, _, q⟩ := z
    exact q.elim
  · obtain ⟨v, σ', H', J', rv, q⟩ := z
    exact ⟨v, H', J'.os, J'.bare, J'.base, J'.hok, rv, q⟩
/-- such a def as its callers see it -/
structure ClG (P : Program) (w : World) (K : PySem.W.Frag) (mg : Str → Option Value) (base : Heap) (k : Nat) (x : Str) (sp : Sp) (dvs : List V) : Prop where
  ex : ∃ (f : Addr) (fd : FuncData) (ps : List Str) (ds : List Value), FnG P w K mg base (L2N.CX P w) k f fd ps sp ∧ mg x = some (.ref f) ∧ PySem.W.keepIn K (.ref f) = true ∧ Binds K fd ps ds ∧ Vals dvs ds
theorem clG_of {P : Program} {w : World} {K : PySem.W.Frag} {mg : Str → Option Value} {base : Heap} {k : Nat} {x : Str} {f : Addr} {fd : FuncData} {ps : List Str} {sp : Sp}
    (G : FnG P w K mg base (L2N.CX P w) k f fd ps sp) (g : mg x = some (.ref f)) (kp : PySem.W.keepIn K (.ref f) = true) (b : Binds K fd ps []) : ClG P w K mg base k x sp [] := ⟨_, _, _, _, G, g, kp, b, .nil⟩
section
variable {X : Cx} {k j : Nat} {sp : Sp} {dvs : List V} {E : XK} {x : Str} {p pos : Pos} {e : Expr} {es : List Expr} {t : TA}
theorem pe_clG (c : ClG X.prog X.w X.K X.mg X.base k x sp dvs) (gd : X.A.guards = some []) (hr : Room j X.A) (hk : k ≤ j) (hg : Gl X x) (hx : Passes (L2N.CX X.prog X.w) X E) (ha : PA X (e :: es) t)
    (hdb : (x == ("__debug__" : Str)) = false := by decide) (he : starEach (e :: es) X.env = (false, eval e X.env) :: starEach es X.env := by rfl) (hpl : (backTo pos (starEach es X.env)).any (·.1) = false := by rfl) :
    PE X (.Call (.Name x p) (e :: es) [] pos) (tCall sp dvs E t) := by
  obtain ⟨f, fd, ps, ds, F, hm, kp, b, d⟩ := c.ex
  refine ⟨fun pins s σ H Q I h => wpAny_Call_Name_kw (ld_glob I hg hm ?_ hdb)⟩
  refine PySem.W.callWith_K (h₀ := X.base) I.ok.mod.kin kp (thn (ha.run pos pins s σ H _ I h) fun us s1 z => ?_) he hpl
  obtain ⟨vs, H1, I1, r, q⟩ := z
  refine ⟨I1.kIn, ?_⟩
  have rd := r.append d
  have size : (us ++ ds).length = ps.length := (rd.length).symm.trans (F.len _ _ _ _ q)
  refine wpAny_call (codeAny_mono (F.run _ _ _ _ ⟨us, []⟩ _ _ _ _ gd (hr.mono hk) I1.env0 (b s1 us I1.kIn size) rd q) ?_)
  rintro (e | _ | _ | _ | u) s' z
  · exact hx _ _ _ _ _ _ I1 z
  · exact z.elim
  · exact z.elim
  · exact z.elim
  · exact I1.after z
end
/-! ### repr of data -/
def rRepr (K : PySem.W.Frag) : List V → Hp → VK → Prop := fun xs H Q => ∃ v d, xs = [v] ∧ Dp K H v d ∧ SeqAt.shaped d = true ∧ d.showable = true ∧ d.hasDict = false ∧ d.shown.length ≤ sizeLine ∧ Q (.str d.shown) H
theorem call_repr {X : Cx} (gd : X.A.guards = some []) (hu : X.A.units + 65 < cLine) : CallR X (.builtin "repr") (rRepr X.K) := by
  intro pins s σ H xs us Q I r h
  obtain ⟨v, d, rfl, hd, hs, sw, nd, hz, q⟩ := h
  obtain ⟨u, rfl, rx⟩ := vals1 r
  obtain ⟨as, rd⟩ := Dp.reads I d v u hd rx
  have dep : d.depth ≤ 64 := SeqAt.depth_of_shaped hs
  have box : ∀ a, u = .ref a → wpAny (model X.prog X.w) X.A (call (.builtin "repr") [u]) (EP X pins σ Q) X.xe s := by
    rintro a rfl
    refine repr_of_reads' rd sw (PyData.noDict_hsm nd) gd (by omega) (fun _ _ z => z) (fun h' t tk kp => ?_) hz
    exact ⟨.str d.shown, H, I.kept (t' := tk) kp, ⟨_, rfl⟩, q⟩
  have flat : ∀ tk, EP X pins σ Q (.str d.shown s.toks) { s with toks := tk } := fun tk => ⟨.str d.shown, H, I.tok tk, ⟨_, rfl⟩, q⟩
  cases hd with
  | non =>
    obtain rfl : u = .none := rx
    exact P.repr_of_none (flat _)
  | bl b =>
    obtain rfl : u = .bool b := rx
    exact P.repr_of_bool (flat _)
  | int i =>
    obtain ⟨t, rfl⟩ := rx
    exact P.repr_of_int (of_decide_eq_true sw) (flat _)
  | str z =>
    obtain ⟨t, rfl⟩ := rx
    exact P.repr_of_str (flat _) hz
  | @lst a ys ds h1 h2 => exact box a rx
  | @tup a ys ds h1 h2 => exact box a rx
theorem huS {X : Cx} {a : Addr} {pn : List (Addr × Obj)} {j : Nat} (hr : Room j X.A) : (X.suite a pn).A.units + 65 < cLine := by
  have := hr.un
  show X.A.units + 65 < cLine
  omega
end Md

set_option Elab.async false
set_option linter.all false
set_option maxRecDepth 100000
set_option maxHeartbeats 4000000
/-! texts: readings by name; a text many times -/
namespace Md
open PySem PySem.Spec PyProof.Rows PySem.Calls L2
abbrev rPart : V → List V → Hp → VK → Prop := fun x xs H Q => ∃ a b, x = .str a ∧ xs = [.str b] ∧ (b.length == 0) = false ∧ a.length ≤ sizeLine ∧ ∀ p, H p = none → Q (.ref p) (upd H p (.tup [.str (Txt.partition a b).1, .str (Txt.partition a b).2.1, .str (Txt.partition a b).2.2]))
abbrev rRemP : V → List V → Hp → VK → Prop := fun x xs H Q => ∃ a b, x = .str a ∧ xs = [.str b] ∧ a.length ≤ sizeLine ∧ Q (.str (Txt.removeprefix a b)) H
abbrev rIntS : List V → Hp → VK → Prop := fun xs H Q => ∃ a n, xs = [.str a] ∧ PySem.intText? a = some n ∧ a.length ≤ 640 ∧ Q (.int n) H
/-- a short text some times -/
def rMulS : R2 := fun x y H Q => ∃ (z : Str) (n : Int), x = .str z ∧ y = .int n ∧ z.length ≤ 16 ∧ 0 ≤ n ∧ n ≤ 1048576 ∧ Q (.str (Txt.mul z n)) H
theorem op_mulS {X : Cx} : OpR X (binaryOp .Mult) rMulS := by
  intro pins s σ H x y v u Q I rx ry h
  obtain ⟨z, n, rfl, rfl, hz, h0, h1, q⟩ := h
  obtain ⟨t, rfl⟩ := rx
  obtain ⟨u, rfl⟩ := ry
  refine SB.mul (mulOk_of 16 1048576 (by omega) (by omega) (by omega) (by decide) (by decide)) fun t' k => ?_
  exact ⟨.str _, H, I.tok _, ⟨_, rfl⟩, q⟩
def tJoined (ts : List TE) : TE := fun σ H Q => tJs ts Str.empty σ H fun out H1 => Q (.str out) H1
end Md

set_option Elab.async false
set_option linter.all false
set_option maxRecDepth 100000
set_option maxHeartbeats 4000000
namespace Md
open PySem PySem.Spec PyProof.Rows PySem.Calls L2
local macro_rules | `(tactic| walk_at "v") => `(tactic| refine ⟨_, rfl, ?_⟩)
local macro_rules | `(tactic| walk_at "ii") => `(tactic| refine ⟨_, _, rfl, rfl, ?_⟩)
/-! ### words -/
def isL (c : Nat) : Bool := decide (c ∈ (Str.ofString "abcdefghijklmnopqrstuvwxyz").cps.toList)
def isWord (z : Str) : Bool := (decide (1 ≤ z.length) && decide (z.length ≤ 8)) && z.cps.toList.all isL
def WordB (K : PySem.W.Frag) (H : Hp) (x : V) (w : Bool) : Prop := (∃ T, TyX K H x (.type T) ∧ T ≠ "str" ∧ w = false) ∨ ∃ z : Str, x = .str z ∧ z.length ≤ 1000000 ∧ w = isWord z
theorem kit_str {K : PySem.W.Frag} {H : Hp} {x : V} {T : String} (ty : TyX K H x (.type T)) (hn : T ≠ "str") : kitB T "str" = some false := by
  cases ty with
  | base b => cases b <;> first | exact absurd rfl hn | decide +kernel
  | _ => first | exact absurd rfl hn | decide +kernel
def t_is_word (K : PySem.W.Frag) (A : Ads) (E : XK) : TS :=
    (tSeq (tIfS (tOr (tNot (tB (tCB (rIsi K) (tCons (tVar 0) (tCons (tC (.ty "str")) tNil))))) (tNot (tTest (tChain rLe rLe (tC (.int 1)) (tCB (rLen K) (tCons (tVar 0) tNil)) (tC (.int 8)))))) (tRet (tC (.bl false))) tNext)
    (tRet (tCB (rAll K) (tCons (tLc (iStr (tVar 0)) (gName 1) tYes (tOp rInS (tVar 1) (tC (.str "abcdefghijklmnopqrstuvwxyz"))) [1]) tNil))))
def n_is_word : List Str := ["thing", "letter"]
def sp_is_word (K : PySem.W.Frag) (A : Ads) : Sp := fun vs H Q _ => ∃ (x : V) (w : Bool), vs = [x] ∧ WordB K H x w ∧ ∀ H', Same H H' → Q (.bl w) H'
theorem len_is_word {K : PySem.W.Frag} {A : Ads} {vs : List V} {H : Hp} {Q : VK} {E : XK} (h : sp_is_word K A vs H Q E) : vs.length = 1 := by
  obtain ⟨x, w, rfl, _⟩ := h
  rfl
theorem pure_is_word {K : PySem.W.Frag} {A : Ads} {vs : List V} {H : Hp} {Q : VK} {E : XK} (h : sp_is_word K A vs H Q E) : t_is_word K A E { nx := fun _ H' => Q .non H', rt := Q } (start n_is_word vs) H := by
  obtain ⟨x, w, rfl, hw, k⟩ := h
  rcases hw with ⟨T, ty, hn, rfl⟩ | ⟨z, rfl, hz, rfl⟩
  · walk_at "v"
    refine ⟨_, _, _, _, _, rfl, .ty _, ty, kit_ty (kit_str ty hn), ?_⟩
    walk_at "v"
    show (if (!false) = true then _ else _)
    refine iteT ?_
    show (if true = true then _ else _)
    refine iteT ?_
    exact k H (Same.refl H)
  · have hz2 : z.length ≤ sizeLine := Nat.le_trans hz (by decide)
    walk_at "v"
    refine ⟨_, _, _, _, _, rfl, .ty _, .base (.str z), kit_ty (by decide +kernel : kitB "str" "str" = some true), ?_⟩
    walk_at "v"
    show (if (!true) = true then _ else _)
    refine iteF ?_
    walk_at "v"
    refine ⟨_, _, rfl, ⟨hz2, rfl⟩, ?_⟩
    refine ⟨_, _, rfl, rfl, ?_⟩
    refine ⟨_, rfl, ?_⟩
    refine iteD (fun h1 => ?_) (fun h1 => ?_)
    · walk_at "ii"
      refine ⟨_, rfl, ?_⟩
      refine iteN (fun h2 => ?_) (fun h2 => ?_)
      · walk_at "v"
        refine ⟨z, rfl, fun D hD => ?_⟩
        refine lc_it walk_str (fun i H' => Same H H' ∧ H' D = some (.lst ((z.cps.toList.take i).map fun c => V.bl (isL c)))) ⟨Same.new hD, upd_same⟩ (fun _ _ _ _ => True.intro) ?_ ?_
        · rintro i x H1 H1' hi ⟨s1, hl⟩ ⟨rfl, c, hc, rfl⟩
          refine ⟨rfl, ?_⟩
          walk_at "v"
          refine ⟨c, _, rfl, rfl, ?_⟩
          refine ⟨_, hl, ?_, ?_, ?_⟩
          · rw [List.length_map, List.length_take]
            have e : z.length = z.cps.size := rfl
            have e2 : z.cps.toList.length = z.cps.size := Array.length_toList
            omega
          · exact fun b o hb => by
              rw [upd_ne (ne_of_none hb hD)]
              exact s1 b o hb
          · rw [upd_same]
            have e : z.cps.toList[i]? = some c := by rw [Array.getElem?_toList]; exact hc
            rw [List.take_succ, e]
            simp [isL]
        · rintro H1 ⟨s1, hl⟩
          have e2 : z.cps.toList.take z.cps.size = z.cps.toList := List.take_of_length_le (by rw [Array.length_toList]; exact Nat.le_refl _)
          rw [e2] at hl
          refine ⟨D, z.cps.toList.map isL, rfl, SqL.of (by rw [List.map_map]; exact hl), ?_⟩
          have e3 : (z.cps.toList.map isL).all id = isWord z := by
            rw [List.all_map]
            unfold isWord
            rw [decide_eq_true (show 1 ≤ z.length by omega), decide_eq_true (show z.length ≤ 8 by omega)]
            simp
          rw [e3]
          exact k H1 s1
      · have e3 : isWord z = false := by
          unfold isWord
          rw [decide_eq_false (show ¬ z.length ≤ 8 by omega), Bool.and_false, Bool.false_and]
        rw [e3] at k
        exact k H (Same.refl H)
    · have e3 : isWord z = false := by
        unfold isWord
        rw [decide_eq_false (show ¬ 1 ≤ z.length by omega), Bool.false_and, Bool.false_and]
      rw [e3] at k
      refine ⟨_, rfl, ?_⟩
      show (if (!false) = true then _ else _)
      refine iteT ?_
      exact k H (Same.refl H)
/-! ### names -/
def kRES : List Str := ["and", "or", "not", "in", "given", "true", "false", "blank", "number", "word", "needs", "instead", "after", "blames", "check", "guard", "barrier", "repair", "default", "exit", "self"]
def kRESERVED : List V := kRES.map V.str
theorem inV_strs (z : Str) (xs : List Str) : inV (.str z) (xs.map V.str) = decide (z ∈ xs) := by
  unfold inV
  rw [List.any_map, Bool.eq_iff_iff, List.any_eq_true, decide_eq_true_eq]
  constructor
  · rintro ⟨y, hy, e⟩
    have e' : (y == z) = true := e
    rw [eq_of_beq e'] at hy
    exact hy
  · intro h
    exact ⟨z, h, (beq_self_eq_true z : (z == z) = true)⟩
theorem flat_strs (xs : List Str) : (xs.map V.str).all flatV = true := by
  rw [List.all_map, List.all_eq_true]
  intro x _
  rfl
theorem WordB.mono {K : PySem.W.Frag} {H H' : Hp} {x : V} {w : Bool} (h : WordB K H x w) (s : Same H H') : WordB K H' x w := by
  rcases h with ⟨T, ty, h⟩ | h
  · exact .inl ⟨T, tyX_same s ty, h⟩
  · exact .inr h
def NameW (K : PySem.W.Frag) (H : Hp) (u : V) (nm : Option Str) : Prop := (WordB K H u false ∧ nm = none) ∨ ∃ z : Str, u = .str z ∧ z.length ≤ 1000000 ∧ isWord z = true ∧ nm = if z ∈ kRES then none else some z
theorem NameW.mono {K : PySem.W.Frag} {H H' : Hp} {x : V} {w : Option Str} (h : NameW K H x w) (s : Same H H') : NameW K H' x w := by
  rcases h with ⟨h, e⟩ | h
  · exact .inl ⟨h.mono s, e⟩
  · exact .inr h
def t_is_name (K : PySem.W.Frag) (A : Ads) (E : XK) : TS :=
    (tRet (tAndV (tCall (sp_is_word K A) [] E0 (tCons (tVar 0) tNil)) (tOp (rIn K true) (tVar 0) (tC (.ref A.gRESERVED)))))
def n_is_name : List Str := ["thing"]
def sp_is_name (K : PySem.W.Frag) (A : Ads) : Sp := fun vs H Q _ => ∃ (x : V) (nm : Option Str), vs = [x] ∧ NameW K H x nm ∧ ∀ H', Same H H' → Q (.bl nm.isSome) H'
theorem len_is_name {K : PySem.W.Frag} {A : Ads} {vs : List V} {H : Hp} {Q : VK} {E : XK} (h : sp_is_name K A vs H Q E) : vs.length = 1 := by
  obtain ⟨x, w, rfl, _⟩ := h
  rfl
theorem pure_is_name {K : PySem.W.Frag} {A : Ads} (tb : ∀ H, SqT K H A.gRESERVED kRESERVED) {vs : List V} {H : Hp} {Q : VK} {E : XK} (h : sp_is_name K A vs H Q E) : t_is_name K A E { nx := fun _ H' => Q .non H', rt := Q } (start n_is_name vs) H := by
  obtain ⟨x, nm, rfl, hw, k⟩ := h
  walk_at "v"
  rcases hw with ⟨hw, rfl⟩ | ⟨z, rfl, hz, hw, rfl⟩
  · refine ⟨x, false, rfl, hw, fun H1 s1 => ?_⟩
    refine ⟨_, rfl, ?_⟩
    refine iteF ?_
    exact k H1 s1
  · refine ⟨.str z, true, rfl, .inr ⟨z, rfl, hz, hw.symm⟩, fun H1 s1 => ?_⟩
    refine ⟨_, rfl, ?_⟩
    refine iteT ?_
    walk_at "v"
    refine ⟨_, _, rfl, .inr (tb H1), rfl, flat_strs _, ?_⟩
    have e : (if true = true then !inV (V.str z) kRESERVED else inV (V.str z) kRESERVED) = (if z ∈ kRES then (none : Option Str) else some z).isSome := by
      rw [if_pos rfl]
      show (!inV (V.str z) (kRES.map V.str)) = _
      rw [inV_strs]
      by_cases c : z ∈ kRES
      · rw [decide_eq_true c, if_pos c]; rfl
      · rw [decide_eq_false c, if_neg c]; rfl
    rw [e]
    exact k H1 s1
/-! ### texts -/
def one (c : Nat) : Str := ⟨#[c]⟩
theorem glue_ones (a : Array Nat) : ∀ cs : List Nat, (cs.map one).foldl (fun acc p => acc ++ (#[] : Array Nat) ++ p.cps) a = a ++ cs.toArray
  | [] => by simp
  | c :: r => by
    rw [List.map_cons, List.foldl_cons, glue_ones]
    simp [one]
theorem join_ones (cs : List Nat) (h : cs ≠ []) : Txt.join "" (cs.map one) = ⟨cs.toArray⟩ := by
  cases cs with
  | nil => exact absurd rfl h
  | cons c r =>
    show (⟨(r.map one).foldl (fun acc p => acc ++ (#[] : Array Nat) ++ p.cps) (one c).cps⟩ : Str) = _
    rw [glue_ones]
    simp [one]
theorem ones_sum : ∀ cs : List Nat, ((cs.map one).map (·.length)).sum = cs.length
  | [] => rfl
  | c :: r => by
    rw [List.map_cons, List.map_cons, List.sum_cons, ones_sum r, List.length_cons]
    show 1 + r.length = _
    omega
theorem isWord_of {cs : List Nat} (h1 : 1 ≤ cs.length) (h8 : cs.length ≤ 8) (h : ∀ c ∈ cs, isL c = true) : isWord ⟨cs.toArray⟩ = true := by
  unfold isWord
  have e : (⟨cs.toArray⟩ : Str).length = cs.length := by show cs.toArray.size = _; simp
  rw [e, decide_eq_true h1, decide_eq_true h8]
  show cs.toArray.toList.all isL = true
  rw [List.toList_toArray]
  exact List.all_eq_true.mpr h
theorem word_all {z : Str} (h : isWord z = true) : 1 ≤ z.length ∧ z.length ≤ 8 ∧ ∀ c ∈ z.cps.toList, isL c = true := by
  unfold isWord at h
  obtain ⟨h1, h2⟩ := Bool.and_eq_true_iff.mp h
  obtain ⟨h3, h4⟩ := Bool.and_eq_true_iff.mp h1
  exact ⟨of_decide_eq_true h3, of_decide_eq_true h4, List.all_eq_true.mp h2⟩
theorem app_list (a b : Str) : (a ++ b).cps.toList = a.cps.toList ++ b.cps.toList := by
  show (a.cps ++ b.cps).toList = _
  exact Array.toList_append
theorem app_len (a b : Str) : (a ++ b).length = a.length + b.length := by
  show (a.cps ++ b.cps).size = _
  exact Array.size_append
theorem letters_small : ∀ c ∈ (Str.ofString "abcdefghijklmnopqrstuvwxyz").cps.toList, c < 0x110000 := by decide +kernel
theorem word_ok {z : Str} (h : isWord z = true) : PyData.strOk z = true := by
  have h3 := (word_all h).2.2
  show z.cps.all (· < 0x110000) = true
  rw [← Array.all_toList, List.all_eq_true]
  intro c hc
  exact decide_eq_true (letters_small c (of_decide_eq_true (h3 c hc)))
theorem dp_strs {K : PySem.W.Frag} {H : Hp} {a : Addr} {p q : Str} (h : SqT K H a [.str p, .str q]) : Dp K H (.ref a) (.tuple [.str p, .str q]) := .tup h (.cons (.str p) (.cons (.str q) .nil))
theorem shaped_strs {p q : Str} (hp : PyData.strOk p = true) (hq : PyData.strOk q = true) : SeqAt.shaped (.tuple [.str p, .str q]) = true := by
  unfold SeqAt.shaped
  simp [PyData.canLay0, PyData.canLayAll0, PyData.depth, PyData.depthAll, hp, hq]
theorem shaped_lst1 {p : Str} (hp : PyData.strOk p = true) : SeqAt.shaped (.list [.str p]) = true := by
  unfold SeqAt.shaped
  simp [PyData.canLay0, PyData.canLayAll0, PyData.depth, PyData.depthAll, hp]
theorem bad_app (z : Str) {w : Str} (h : w.cps.toList.all isL = false) : isWord (z ++ w) = false := by
  unfold isWord
  rw [app_list, List.all_append, h, Bool.and_false, Bool.and_false]
theorem bad_pre (z : Str) {w : Str} (h : w.cps.toList.all isL = false) : isWord (w ++ z) = false := by
  unfold isWord
  rw [app_list, List.all_append, h, Bool.false_and, Bool.and_false]
theorem bad_len {z : Str} (h : 8 < z.length) : isWord z = false := by
  unfold isWord
  rw [decide_eq_false (show ¬ z.length ≤ 8 by omega), Bool.and_false, Bool.false_and]
theorem upper_letters : ∀ c ∈ (Str.ofString "abcdefghijklmnopqrstuvwxyz").cps.toList, (Unicode.upperOf c).any (fun x => !isL x) = true := by decide +kernel
theorem bad_upper {z : Str} (h : isWord z = true) : isWord (Txt.upper z) = false := by
  obtain ⟨h1, h8, ha⟩ := word_all h
  cases hb : isWord (Txt.upper z) with
  | false => rfl
  | true =>
    obtain ⟨_, _, hu⟩ := word_all hb
    have h0 : 0 < z.cps.size := h1
    have hc := ha z.cps[0] (by simp)
    obtain ⟨x, hx, nx⟩ := List.any_eq_true.mp (upper_letters _ (of_decide_eq_true hc))
    have hm : x ∈ (Txt.upper z).cps.toList := by
      rw [Array.mem_toList_iff]
      show x ∈ (z.cps.mapIdx fun _ c => (Unicode.upperOf c).toArray).flatten
      refine Array.mem_flatten.mpr ⟨(Unicode.upperOf z.cps[0]).toArray, Array.mem_mapIdx.mpr ⟨0, h0, rfl⟩, by simpa using hx⟩
    have := hu x hm
    rw [this] at nx
    cases nx
theorem wordB_bad {K : PySem.W.Frag} {H : Hp} {z : Str} (hl : z.length ≤ 1000000) (h : isWord z = false) : WordB K H (.str z) false := .inr ⟨z, rfl, hl, h.symm⟩
theorem wordB_of {K : PySem.W.Frag} {H : Hp} {z : Str} (h : isWord z = true) : WordB K H (.str z) true := .inr ⟨z, rfl, by have := (word_all h).2.1; omega, h.symm⟩
theorem hu65 {A : Around} {k : Nat} (hr : Room k A) : A.units + 65 < cLine := by have := hr.un; omega
/-- x in a tuple, x a flat value, or any plain data -/
def rInT2 (K : PySem.W.Frag) : R2 := fun x y H Q => rIn K false x y H Q ∨ ∃ d ds, Dp K H x d ∧ Dp K H y (.tuple ds) ∧ SeqAt.shaped d = true ∧ SeqAt.shaped (.tuple ds) = true ∧ Q (.bl (ds.any fun z => PyData.eqv z d)) H
theorem op_inT2 {X : Cx} (hu : X.A.units + 65 < cLine) : OpR X (compareOp .In) (rInT2 X.K) := by
  intro pins s σ H x y v u Q I rx ry h
  rcases h with h | ⟨d, ds, hd, he, sd, se, q⟩
  · exact op_in_seq pins s σ H x y v u Q I rx ry h
  · obtain ⟨as, r1⟩ := Dp.reads I d x v hd rx
    obtain ⟨bs, r2⟩ := Dp.reads I (.tuple ds) y u he ry
    exact SeqAt.in_tuple_reads r2 r1 (SeqAt.canLay_of_shaped se) (SeqAt.canLay_of_shaped sd) (room_in_shaped sd hu) ⟨.bl _, H, I, rfl, q⟩
def rNotInT2 (K : PySem.W.Frag) : R2 := fun x y H Q => rIn K true x y H Q ∨ ∃ d ds, Dp K H x d ∧ Dp K H y (.tuple ds) ∧ SeqAt.shaped d = true ∧ SeqAt.shaped (.tuple ds) = true ∧ Q (.bl (!ds.any fun z => PyData.eqv z d)) H
theorem op_notInT2 {X : Cx} (hu : X.A.units + 65 < cLine) : OpR X (compareOp .NotIn) (rNotInT2 X.K) := by
  intro pins s σ H x y v u Q I rx ry h
  rcases h with h | ⟨d, ds, hd, he, sd, se, q⟩
  · exact op_notIn_seq pins s σ H x y v u Q I rx ry h
  · obtain ⟨as, r1⟩ := Dp.reads I d x v hd rx
    obtain ⟨bs, r2⟩ := Dp.reads I (.tuple ds) y u he ry
    exact SeqAt.notIn_tuple_reads r2 r1 (SeqAt.canLay_of_shaped se) (SeqAt.canLay_of_shaped sd) (room_in_shaped sd hu) ⟨.bl _, H, I, rfl, q⟩
/-- data among texts -/
def inD (ns : List Str) (d : PyData) : Bool := (ns.map PyData.str).any fun z => PyData.eqv z d
theorem inD_str (ns : List Str) (n : Str) : inD ns (.str n) = decide (n ∈ ns) := by
  unfold inD
  rw [List.any_map, Bool.eq_iff_iff, List.any_eq_true, decide_eq_true_eq]
  constructor
  · rintro ⟨y, hy, e⟩
    have e' : (y == n) = true := by simpa [PyData.eqv] using e
    rw [eq_of_beq e'] at hy
    exact hy
  · intro h
    exact ⟨n, h, by simp [PyData.eqv]⟩
theorem inD_true {ns : List Str} {d : PyData} (h : inD ns d = true) : ∃ n, d = .str n ∧ n ∈ ns := by
  unfold inD at h
  rw [List.any_map, List.any_eq_true] at h
  obtain ⟨y, hy, e⟩ := h
  cases d with
  | str z =>
    have e' : (y == z) = true := by simpa [PyData.eqv] using e
    rw [eq_of_beq e'] at hy
    exact ⟨z, rfl, hy⟩
  | _ => simp [PyData.eqv] at e
theorem dp_strAll {K : PySem.W.Frag} {H : Hp} : ∀ ns : List Str, DpAll K H (ns.map V.str) (ns.map PyData.str)
  | [] => .nil
  | n :: r => .cons (.str n) (dp_strAll r)
theorem dp_tupS {K : PySem.W.Frag} {H : Hp} {a : Addr} {ns : List Str} (h : SqT K H a (ns.map V.str)) : Dp K H (.ref a) (.tuple (ns.map PyData.str)) := .tup h (dp_strAll ns)
theorem dp_lstS {K : PySem.W.Frag} {H : Hp} {a : Addr} {ns : List Str} (h : SqL K H a (ns.map V.str)) : Dp K H (.ref a) (.list (ns.map PyData.str)) := .lst h (dp_strAll ns)
theorem lay_strs : ∀ ns : List Str, (∀ n ∈ ns, PyData.strOk n = true) → PyData.canLayAll0 (ns.map PyData.str) = true
  | [], _ => rfl
  | n :: r, h => by
    have h1 := h n List.mem_cons_self
    have h2 := lay_strs r fun m hm => h m (List.mem_cons_of_mem _ hm)
    simp [PyData.canLayAll0, PyData.canLay0, h1, h2]
theorem depth_strs : ∀ ns : List Str, PyData.depthAll (ns.map PyData.str) ≤ 1
  | [] => by simp [PyData.depthAll]
  | n :: r => by
    have := depth_strs r
    simp [PyData.depthAll, PyData.depth]
    try omega
theorem shaped_tupS {ns : List Str} (h : ∀ n ∈ ns, PyData.strOk n = true) : SeqAt.shaped (.tuple (ns.map PyData.str)) = true := by
  have h1 := lay_strs ns h
  have h2 := depth_strs ns
  unfold SeqAt.shaped
  simp [PyData.canLay0, PyData.depth, h1]
  try omega
theorem shaped_lstS {ns : List Str} (h : ∀ n ∈ ns, PyData.strOk n = true) : SeqAt.shaped (.list (ns.map PyData.str)) = true := by
  have h1 := lay_strs ns h
  have h2 := depth_strs ns
  unfold SeqAt.shaped
  simp [PyData.canLay0, PyData.depth, h1]
  try omega
theorem dp_str_inv {K : PySem.W.Frag} {H : Hp} {x : V} {n : Str} (h : Dp K H x (.str n)) : x = .str n := by
  cases h
  rfl
/-- a kind as it may be passed: a flat value, or a list of one word -/
def KindV (H : Hp) (v : V) : Prop := flatV v = true ∨ ∃ q w, v = .ref q ∧ H q = some (.lst [.str w]) ∧ isWord w = true
theorem KindV.mono {H H' : Hp} {v : V} (h : KindV H v) (s : Same H H') : KindV H' v := by
  rcases h with h | ⟨q, w, e, hq, hw⟩
  · exact .inl h
  · exact .inr ⟨q, w, e, s _ _ hq, hw⟩
/-! ### fields -/
def kindOf : V → Option Str
  | .str z => if z = "number" ∨ z = "word" then some z else none
  | _ => none
def FieldB (K : PySem.W.Frag) (H : Hp) (x : V) (r : Option (Str × Str)) : Prop := (∃ T, TyX K H x (.type T) ∧ T ≠ "tuple" ∧ r = none) ∨ (∃ a xs, x = .ref a ∧ H a = some (.tup xs) ∧ xs.length ≠ 2 ∧ r = none) ∨
  (∃ a u v nm, x = .ref a ∧ H a = some (.tup [u, v]) ∧ KindV H v ∧ NameW K H u nm ∧ r = nm.bind fun n => (kindOf v).map fun k => (n, k))
theorem FieldB.mono {K : PySem.W.Frag} {H H' : Hp} {x : V} {r : Option (Str × Str)} (h : FieldB K H x r) (s : Same H H') : FieldB K H' x r := by
  rcases h with ⟨T, ty, h⟩ | ⟨a, xs, e, ha, h⟩ | ⟨a, u, v, nm, e, ha, hf, hn, h⟩
  · exact .inl ⟨T, tyX_same s ty, h⟩
  · exact .inr (.inl ⟨a, xs, e, s _ _ ha, h⟩)
  · exact .inr (.inr ⟨a, u, v, nm, e, s _ _ ha, hf.mono s, hn.mono s, h⟩)
theorem in_kinds {v : V} (h : flatV v = true) : inV v [.str "number", .str "word"] = (kindOf v).isSome := by
  cases v with
  | str z =>
    show (inV (.str z) (([("number" : Str), "word"] : List Str).map V.str)) = _
    rw [inV_strs]
    show _ = (if z = "number" ∨ z = "word" then some z else none : Option Str).isSome
    by_cases c : z = "number" ∨ z = "word"
    · rw [if_pos c]; exact decide_eq_true (by simpa using c)
    · rw [if_neg c]; exact decide_eq_false (by simpa using c)
  | non => rfl
  | bl b => rfl
  | int i => rfl
  | _ => cases h
def t__is_field (K : PySem.W.Frag) (A : Ads) (E : XK) : TS :=
    (tRet (tAndV (tCB (rIsi K) (tCons (tVar 0) (tCons (tC (.ty "tuple")) tNil))) (tAndV (tOp rEq (tCB (rLen K) (tCons (tVar 0) tNil)) (tC (.int 2))) (tAndV (tCall (sp_is_name K A) [] E0 (tCons (tOp (rIx K) (tVar 0) (tC (.int 0))) tNil)) (tOp (rInT2 K) (tOp (rIx K) (tVar 0) (tC (.int 1))) (tTup (tCons (tC (.str "number")) (tCons (tC (.str "word")) tNil))))))))
def n__is_field : List Str := ["thing"]
def sp__is_field (K : PySem.W.Frag) (A : Ads) : Sp := fun vs H Q _ => ∃ (x : V) (r : Option (Str × Str)), vs = [x] ∧ FieldB K H x r ∧ ∀ H', Same H H' → Q (.bl r.isSome) H'
theorem len__is_field {K : PySem.W.Frag} {A : Ads} {vs : List V} {H : Hp} {Q : VK} {E : XK} (h : sp__is_field K A vs H Q E) : vs.length = 1 := by
  obtain ⟨x, w, rfl, _⟩ := h
  rfl
theorem pure__is_field {K : PySem.W.Frag} {A : Ads} {vs : List V} {H : Hp} {Q : VK} {E : XK} (h : sp__is_field K A vs H Q E) : t__is_field K A E { nx := fun _ H' => Q .non H', rt := Q } (start n__is_field vs) H := by
  obtain ⟨x, r, rfl, hf, k⟩ := h
  walk_at "v"
  rcases hf with ⟨T, ty, hn, rfl⟩ | ⟨a, xs, rfl, ha, hn, rfl⟩ | ⟨a, u, v, nm, rfl, ha, fv, hn, rfl⟩
  · refine ⟨_, _, _, _, _, rfl, .ty _, ty, kit_ty (kit_tup ty hn), ?_⟩
    refine ⟨_, rfl, ?_⟩
    exact iteF (k H (Same.refl H))
  · refine ⟨_, _, _, _, _, rfl, .ty _, ty_tup ha, kit_ty (by decide +kernel : kitB "tuple" "tuple" = some true), ?_⟩
    refine ⟨_, rfl, iteT ?_⟩
    walk_at "v"
    refine ⟨_, _, rfl, .inr ⟨xs, SqT.of ha, rfl⟩, ?_⟩
    refine ⟨rfl, ?_⟩
    refine ⟨_, rfl, ?_⟩
    refine iteD (fun h => ?_) (fun _ => k H (Same.refl H))
    exact absurd (by injection h with h; omega) hn
  · refine ⟨_, _, _, _, _, rfl, .ty _, ty_tup ha, kit_ty (by decide +kernel : kitB "tuple" "tuple" = some true), ?_⟩
    refine ⟨_, rfl, iteT ?_⟩
    walk_at "v"
    refine ⟨_, _, rfl, .inr ⟨_, SqT.of ha, rfl⟩, ?_⟩
    refine ⟨rfl, ?_⟩
    refine ⟨_, rfl, ?_⟩
    refine iteD (fun _ => ?_) (fun h => absurd rfl h)
    walk_at "v"
    refine Or.inr (Or.inl ⟨_, _, _, _, rfl, rfl, SqT.of ha, rfl, ?_⟩)
    refine ⟨u, nm, rfl, hn, fun H1 s1 => ?_⟩
    refine ⟨_, rfl, ?_⟩
    cases nm with
    | none =>
      refine iteF ?_
      exact k H1 s1
    | some n =>
      refine iteT ?_
      walk_at "v"
      refine Or.inr (Or.inl ⟨_, _, _, _, rfl, rfl, SqT.of (s1 _ _ ha), rfl, ?_⟩)
      refine ⟨by show 2 ≤ sizeLine; decide, fun t ht => ?_⟩
      rcases fv with fv | ⟨q, w, rfl, hq, hw⟩
      · refine .inl ⟨t, _, rfl, .inr (SqT.of upd_same), fv, rfl, ?_⟩
        show Q (.bl (inV v [.str "number", .str "word"])) _
        rw [in_kinds fv]
        have e : (kindOf v).isSome = ((some n).bind fun n => (kindOf v).map fun k => (n, k)).isSome := by cases kindOf v <;> rfl
        rw [e]
        exact k _ (Same.trans s1 (Same.new ht))
      · have st := Same.new (o := .tup [.str "number", .str "word"]) ht
        refine .inr ⟨.list [.str w], [.str "number", .str "word"], .lst (SqL.of (st _ _ (s1 _ _ hq))) (.cons (.str w) .nil), .tup (SqT.of upd_same) (.cons (.str _) (.cons (.str _) .nil)), shaped_lst1 (word_ok hw), by decide +kernel, ?_⟩
        have e : ([PyData.str "number", PyData.str "word"].any fun z => PyData.eqv z (.list [.str w])) = false := by simp [PyData.eqv]
        rw [e]
        exact k _ (Same.trans s1 st)
end Md

set_option Elab.async false
set_option linter.all false
set_option maxRecDepth 100000
set_option maxHeartbeats 4000000
set_option exponentiation.threshold 20000
namespace Md
open PySem PySem.Spec PyProof.Rows PySem.Calls L2 PySem.NumText
local macro_rules | `(tactic| walk_at "v") => `(tactic| refine ⟨_, rfl, ?_⟩)
local macro_rules | `(tactic| walk_at "ii") => `(tactic| refine ⟨_, _, rfl, rfl, ?_⟩)
/-! ### written -/
theorem log_of {i : Int} (h : i.natAbs < 10 ^ 570) : i.natAbs.log2 < 1920 := pow_lt (Nat.lt_of_lt_of_le h (by decide)) (by decide)
theorem text_len {i : Int} (h : i.natAbs < 10 ^ 570) : (Str.ofString (toString i)).length ≤ 571 := by
  have e : (Str.ofString (toString i)).cps.toList.length = (Str.ofString (toString i)).length := Array.length_toList
  rw [← e, signs_ofString, List.length_map, String.length_toList]
  exact int_text_length_le10 (by decide) h
theorem sz_1200 {n : Nat} (h : n ≤ 1200) : n ≤ sizeLine := Nat.le_trans h (by decide)
/-- the text of a number -/
def ws (p q : Int) : Str := ⟨(wl p q).toArray⟩
theorem ws_list (p q : Int) : (ws p q).cps.toList = wl p q := by
  show (wl p q).toArray.toList = _
  simp
theorem str_ext {x y : Str} (h : x.cps.toList = y.cps.toList) : x = y := by
  rw [str_of h]
def t_written (K : PySem.W.Frag) (A : Ads) (E : XK) : TS :=
    (tSeq (tAsg (tCall (sp__over K A) [] E0 (tCons (tVar 0) tNil)) (gTup K 2 (gCons (gName 1) (gCons (gName 2) gNil))))
    (tRet (tIf (tTest (tOp rEq (tVar 2) (tC (.int 1)))) (tCB rStrI (tCons (tVar 1) tNil)) (tJoined ((tFmt (tVar 1)) :: ((tC (.str "/")) :: ((tFmt (tVar 2)) :: [])))))))
def n_written : List Str := ["value", "top", "bottom"]
def sp_written (K : PySem.W.Frag) (A : Ads) : Sp := fun vs H Q _ => ∃ (x : V) (p q : Int), vs = [x] ∧ NumAt H x p q ∧ p.natAbs < 10 ^ 570 ∧ q.natAbs < 10 ^ 570 ∧ ∀ H', Same H H' → Q (.str (ws p q)) H'
theorem len_written {K : PySem.W.Frag} {A : Ads} {vs : List V} {H : Hp} {Q : VK} {E : XK} (h : sp_written K A vs H Q E) : vs.length = 1 := by
  obtain ⟨x, p, q, rfl, _⟩ := h
  rfl
theorem pure_written {K : PySem.W.Frag} {A : Ads} {vs : List V} {H : Hp} {Q : VK} {E : XK} (h : sp_written K A vs H Q E) : t_written K A E { nx := fun _ H' => Q .non H', rt := Q } (start n_written vs) H := by
  obtain ⟨x, p, q, rfl, hx, hp, hq, k⟩ := h
  have q1 := hx.pos
  walk_at "v"
  refine ⟨x, p, q, rfl, hx, fun y H1 s1 ⟨a, ey, ha⟩ => ?_⟩
  subst ey
  refine ⟨a, _, rfl, SqT.of ha, rfl, _, _, rfl, _, _, rfl, rfl, ?_⟩
  walk_at "v"
  refine ⟨rfl, ?_⟩
  refine ⟨_, rfl, ?_⟩
  refine iteD (fun h => ?_) (fun h => ?_)
  · have e1 : q = 1 := V.int.inj h
    subst e1
    walk_at "v"
    refine ⟨p, rfl, log_of hp, ?_⟩
    have e : (Str.ofString (toString p)) = ws p 1 := str_ext (by rw [sI_text, ws_list]; unfold wl; rw [if_pos rfl])
    rw [e]
    exact k H1 s1
  · have e1 : q ≠ 1 := fun z => h (by rw [z])
    walk_at "v"
    refine .inr ⟨p, rfl, log_of hp, ?_⟩
    have l1 := text_len hp
    have l2 := text_len hq
    refine ⟨_, rfl, sz_1200 ?_, ?_⟩
    · rw [app_len]; show 0 + _ ≤ _; omega
    refine ⟨_, rfl, sz_1200 ?_, ?_⟩
    · rw [app_len, app_len]; show 0 + _ + 1 ≤ _; omega
    walk_at "v"
    refine .inr ⟨q, rfl, log_of hq, ?_⟩
    refine ⟨_, rfl, sz_1200 ?_, ?_⟩
    · rw [app_len, app_len, app_len]; show 0 + _ + 1 + _ ≤ _; omega
    have e : Str.empty ++ (Str.ofString (toString p)) ++ ("/" : Str) ++ (Str.ofString (toString q)) = ws p q := str_ext (by
      rw [app_list, app_list, app_list, sI_text, sI_text, ws_list]
      unfold wl
      rw [if_neg e1]
      show [] ++ sI p ++ [47] ++ sI q = _
      simp)
    show Q (.str (Str.empty ++ (Str.ofString (toString p)) ++ ("/" : Str) ++ (Str.ofString (toString q)))) H1
    rw [e]
    exact k H1 s1
/-! ### _is_digits -/
def t__is_digits (K : PySem.W.Frag) (A : Ads) (E : XK) : TS :=
    (tRet (tAndV (tOp rNe (tVar 0) (tC (.str ""))) (tCB (rAll K) (tCons (tLc (iStr (tVar 0)) (gName 1) tYes (tOp rInS (tVar 1) (tC (.str "0123456789"))) [1]) tNil))))
def n__is_digits : List Str := ["text", "sign"]
def sp__is_digits (K : PySem.W.Frag) (A : Ads) : Sp := fun vs H Q _ => ∃ (z : Str), vs = [.str z] ∧ z.length ≤ 1000000 ∧ ∀ H', Same H H' → Q (.bl (digsB z.cps.toList)) H'
theorem len__is_digits {K : PySem.W.Frag} {A : Ads} {vs : List V} {H : Hp} {Q : VK} {E : XK} (h : sp__is_digits K A vs H Q E) : vs.length = 1 := by
  obtain ⟨z, rfl, _⟩ := h
  rfl
theorem pure__is_digits {K : PySem.W.Frag} {A : Ads} {vs : List V} {H : Hp} {Q : VK} {E : XK} (h : sp__is_digits K A vs H Q E) : t__is_digits K A E { nx := fun _ H' => Q .non H', rt := Q } (start n__is_digits vs) H := by
  obtain ⟨z, rfl, hz, k⟩ := h
  have hl : z.cps.toList.length = z.length := Array.length_toList
  walk_at "v"
  refine ⟨rfl, ?_⟩
  refine ⟨_, rfl, ?_⟩
  refine iteN (fun h => ?_) (fun h => ?_)
  · have e : digsB z.cps.toList = false := by
      have ez : z = "" := V.str.inj h
      subst ez
      decide +kernel
    rw [e] at k
    exact k H (Same.refl H)
  · walk_at "v"
    refine ⟨z, rfl, fun D hD => ?_⟩
    refine lc_it walk_str (fun i H' => Same H H' ∧ H' D = some (.lst ((z.cps.toList.take i).map fun c => V.bl (digB c)))) ⟨Same.new hD, upd_same⟩ (fun _ _ _ _ => True.intro) ?_ ?_
    · rintro i x H1 H1' hi ⟨s1, hd⟩ ⟨rfl, c, hc, rfl⟩
      refine ⟨rfl, ?_⟩
      walk_at "v"
      refine ⟨c, _, rfl, rfl, ?_⟩
      refine ⟨_, hd, ?_, ?_, ?_⟩
      · rw [List.length_map, List.length_take]
        exact Nat.lt_of_le_of_lt (Nat.min_le_right _ _) (Nat.lt_of_le_of_lt (show z.cps.toList.length ≤ 1000000 by omega) (by decide))
      · exact fun b o hb => by
          rw [upd_ne (ne_of_none hb hD)]
          exact s1 b o hb
      · rw [upd_same]
        have e : z.cps.toList[i]? = some c := by rw [Array.getElem?_toList]; exact hc
        rw [List.take_succ, e]
        simp [digB]
    · rintro H1 ⟨s1, hd⟩
      have e2 : z.cps.toList.take z.cps.size = z.cps.toList := List.take_of_length_le (by rw [Array.length_toList]; exact Nat.le_refl _)
      rw [e2] at hd
      refine ⟨D, z.cps.toList.map digB, rfl, SqL.of (by rw [List.map_map]; exact hd), ?_⟩
      have ne : z.cps.toList ≠ [] := fun e => h (by
        have : z = ⟨([] : List Nat).toArray⟩ := str_of e
        rw [this]
        rfl)
      have e3 : (z.cps.toList.map digB).all id = digsB z.cps.toList := by
        unfold digsB
        rw [List.all_map, decide_eq_true ne, Bool.true_and]
        rfl
      rw [e3]
      exact k H1 s1
/-! ### read_number -/
/-- no written form of a number -/
def BadTxt (K : PySem.W.Frag) (H : Hp) (x : V) : Prop := (∃ T, TyX K H x (.type T) ∧ T ≠ "str") ∨ ∃ z : Str, x = .str z ∧ z.length ≤ 570 ∧ ¬ IsW z.cps.toList
theorem BadTxt.same {K : PySem.W.Frag} {H H' : Hp} {x : V} (h : BadTxt K H x) (s : Same H H') : BadTxt K H' x := by
  rcases h with ⟨T, ty, h⟩ | h
  · exact .inl ⟨T, tyX_same s ty, h⟩
  · exact .inr h
def t_read_number (K : PySem.W.Frag) (A : Ads) (E : XK) : TS :=
    (tSeq (tIfS (tNot (tB (tCB (rIsi K) (tCons (tVar 0) (tCons (tC (.ty "str")) tNil))))) (tRaise E (tMkO A.cBadNumber (sp_BadNumber___init__ K A) [] (tCons (tVar 0) tNil))) tNext)
    (tSeq (tAsg (tM1 rPart (tVar 0) (tC (.str "/"))) (gTup K 3 (gCons (gName 2) (gCons (gName 3) (gCons (gName 4) gNil)))))
    (tSeq (tIfS (tOr (tNot (tB (tCall (sp__is_digits K A) [] E0 (tCons (tBM K "str" rRemP (tVar 2) (tCons (tC (.str "-")) tNil)) tNil)))) (tAnd (tTest (tOp rNe (tVar 3) (tC (.str "")))) (tNot (tB (tCall (sp__is_digits K A) [] E0 (tCons (tVar 4) tNil)))))) (tRaise E (tMkO A.cBadNumber (sp_BadNumber___init__ K A) [] (tCons (tVar 0) tNil))) tNext)
    (tSeq (tAsg (tIf (tTest (tOp rEq (tVar 3) (tC (.str "")))) (tCB rIntS (tCons (tVar 2) tNil)) (tTup (tCons (tCB rIntS (tCons (tVar 2) tNil)) (tCons (tCB rIntS (tCons (tVar 4) tNil)) tNil)))) (gName 1))
    (tSeq (tIfS (tOr (tNot (tB (tCall (sp_is_number K A) [] E0 (tCons (tVar 1) tNil)))) (tTest (tOp rNe (tCall (sp_written K A) [] E0 (tCons (tVar 1) tNil)) (tVar 0)))) (tRaise E (tMkO A.cBadNumber (sp_BadNumber___init__ K A) [] (tCons (tVar 0) tNil))) tNext)
    (tRet (tVar 1)))))))
def n_read_number : List Str := ["text", "found", "top", "line", "bottom"]
def sp_read_number (K : PySem.W.Frag) (A : Ads) : Sp := fun vs H Q E => ∃ x : V, vs = [x] ∧ ((∃ p q : Int, x = .str (ws p q) ∧ 1 ≤ q ∧ Cop p q ∧ (ws p q).length ≤ 570 ∧ ∀ v H', Same H H' → NumAt H' v p q → Q v H') ∨
  (BadTxt K H x ∧ ∀ d H', Same H H' → H' d = some (.xd [("thing", x)]) → E (.ref A.cBadNumber) (some d) H'))
theorem len_read_number {K : PySem.W.Frag} {A : Ads} {vs : List V} {H : Hp} {Q : VK} {E : XK} (h : sp_read_number K A vs H Q E) : vs.length = 1 := by
  obtain ⟨z, rfl, _⟩ := h
  rfl
theorem int_ok {l : List Nat} (h : digsB (offM l) = true) (hl : l.length ≤ 570) : ∃ n : Int, PySem.intText? (⟨l.toArray⟩ : Str) = some n ∧ n.natAbs < 10 ^ 570 ∧ n = valI l := by
  obtain ⟨h1, h2⟩ := digsB_true h
  have el : (⟨l.toArray⟩ : Str).cps.toList = l := List.toList_toArray
  have ell : (⟨l.toArray⟩ : Str).length ≤ 4300 := by show l.toArray.size ≤ _; rw [List.size_toArray]; omega
  have bound : ∀ cs : List Nat, AllDigits cs → cs.length ≤ 570 → digitsVal cs < 10 ^ 570 := fun cs hd hc => Nat.lt_of_lt_of_le (digitsVal_lt cs hd) (Nat.pow_le_pow_right (by decide) hc)
  by_cases hm : ∃ r, l = 45 :: r
  · obtain ⟨r, rfl⟩ := hm
    have e : offM (45 :: r) = r := rfl
    rw [e] at h1 h2
    have hb := bound r h2 (by simp at hl; omega)
    refine ⟨_, intText_neg el h2 h1 ell, ?_, rfl⟩
    rw [Int.natAbs_neg, Int.natAbs_natCast]
    exact hb
  · have e : offM l = l := by
      unfold offM
      split
      · rename_i r
        exact absurd ⟨r, rfl⟩ hm
      · rfl
    rw [e] at h1 h2
    have hb := bound l h2 hl
    have ev : valI l = ((digitsVal l : Nat) : Int) := by
      unfold valI
      split
      · rename_i r
        exact absurd ⟨r, rfl⟩ hm
      · rfl
    refine ⟨((digitsVal l : Nat) : Int), ?_, ?_, ev.symm⟩
    · have z := intText_digits (x := (⟨l.toArray⟩ : Str)) (by rw [el]; exact h2) (by rw [el]; exact h1) ell
      rw [el] at z
      exact z
    · rw [Int.natAbs_natCast]
      exact hb
theorem line_len {z : Str} {a b : List Nat} (h : z.cps.toList = a ++ 47 :: b) : a.length + b.length + 1 = z.length := by
  have hl : z.cps.toList.length = z.length := Array.length_toList
  rw [← hl, h, List.length_append, List.length_cons]
  omega
theorem pure_read_number {K : PySem.W.Frag} {A : Ads} {vs : List V} {H : Hp} {Q : VK} {E : XK} (h : sp_read_number K A vs H Q E) : t_read_number K A E { nx := fun _ H' => Q .non H', rt := Q } (start n_read_number vs) H := by
  obtain ⟨x, rfl, h⟩ := h
  -- a text z, its length, what it is, the ways out
  have text : ∀ z : Str, x = .str z → z.length ≤ 570 → (∀ p q : Int, 1 ≤ q → Cop p q → z.cps.toList = wl p q → ∀ v H', Same H H' → NumAt H' v p q → Q v H') →
      (¬ IsW z.cps.toList → ∀ d H', Same H H' → H' d = some (.xd [("thing", x)]) → E (.ref A.cBadNumber) (some d) H') → t_read_number K A E { nx := fun _ H' => Q .non H', rt := Q } (start n_read_number [x]) H := by
    rintro z rfl hz kQ kE
    have hzl : z.cps.toList.length = z.length := Array.length_toList
    have fin : ∀ {H1 : Hp} {D : Ends} {w1 w2 w3 w4 : Option V}, Same H H1 → ¬ IsW z.cps.toList → tRaise E (tMkO A.cBadNumber (sp_BadNumber___init__ K A) [] (tCons (tVar 0) tNil)) D [some (.str z), w1, w2, w3, w4] H1 := fun {H1 D w1 w2 w3 w4} s1 hw => by
      walk_at "v"
      exact mk_xi fun d H' s h => kE hw d H' (Same.trans s1 s) h
    walk_at "v"
    refine ⟨_, _, _, _, _, rfl, .ty _, .base (.str z), kit_ty (by decide +kernel : kitB "str" "str" = some true), ?_⟩
    refine ⟨_, rfl, ?_⟩
    show (if (!true) = true then _ else _)
    refine iteF ?_
    walk_at "v"
    refine ⟨⟨_, rfl⟩, _, _, rfl, rfl, by decide, sz_1200 (by omega), fun P hP => ?_⟩
    have sP := Same.new (o := .tup [.str (Txt.partition z "/").1, .str (Txt.partition z "/").2.1, .str (Txt.partition z "/").2.2]) hP
    refine ⟨P, _, rfl, SqT.of upd_same, rfl, _, _, rfl, _, _, rfl, _, _, rfl, rfl, ?_⟩
    generalize upd H P _ = H1 at sP ⊢
    rcases part_cases z with ⟨hno, ep⟩ | ⟨a, b, ez, ha, ep⟩
    · -- no line
      rw [show (Txt.partition z "/").1 = z by rw [ep], show (Txt.partition z "/").2.1 = "" by rw [ep], show (Txt.partition z "/").2.2 = "" by rw [ep]]
      have valid : ∀ p q : Int, z.cps.toList = wl p q → q = 1 := fun p q e => by
        unfold wl at e
        split at e
        · assumption
        · exact absurd (by rw [e]; exact List.mem_append_right _ List.mem_cons_self) hno
      walk_at "v"
      refine ⟨rfl, ?_⟩
      refine ⟨_, _, rfl, rfl, sz_1200 (by omega), ?_⟩
      have rl : (Txt.removeprefix z "-").cps.toList = offM z.cps.toList := removeprefix_minus z
      have rlen : (Txt.removeprefix z "-").length ≤ 570 := by
        have e1 : (Txt.removeprefix z "-").cps.toList.length = (Txt.removeprefix z "-").length := Array.length_toList
        rw [← e1, rl]
        have : (offM z.cps.toList).length ≤ z.cps.toList.length := by
          unfold offM
          split
          · rename_i r e; rw [e]; simp
          · exact Nat.le_refl _
        omega
      refine ⟨_, rfl, by omega, fun H2 s2 => ?_⟩
      have S2 := Same.trans sP s2
      refine ⟨_, rfl, ?_⟩
      rw [rl]
      refine iteBN (fun hd => ?_) (fun hd => ?_)
      rotate_left
      · -- no digits
        refine iteT ?_
        refine fin S2 fun ⟨p, q, h1, hc, e⟩ => ?_
        have e1 := valid p q e
        subst e1
        have : offM z.cps.toList = dgN p.natAbs := by
          rw [e]
          unfold wl
          rw [if_pos rfl, offM_sI]
        rw [this, digs_dgN] at hd
        cases hd
      walk_at "v"
      refine ⟨rfl, ?_⟩
      refine ⟨_, rfl, ?_⟩
      refine iteF ?_
      refine iteF ?_
      obtain ⟨n, en, hn, ev⟩ := int_ok hd (by omega)
      rw [← str_of rfl] at en
      walk_at "v"
      refine ⟨rfl, ?_⟩
      refine ⟨_, rfl, ?_⟩
      refine iteT ?_
      walk_at "v"
      refine ⟨z, n, rfl, en, by omega, ?_⟩
      walk_at "v"
      refine ⟨_, true, rfl, .inl ⟨"int", ty_int, by decide, rfl⟩, ?_⟩
      refine ⟨_, rfl, ?_⟩
      refine iteF ?_
      walk_at "v"
      refine ⟨_, n, 1, rfl, NumAt.int _ _, hn, by decide, fun H3 s3 => ?_⟩
      have S3 := Same.trans S2 s3
      walk_at "v"
      refine ⟨rfl, ?_⟩
      refine ⟨_, rfl, ?_⟩
      refine iteN (fun he => ?_) (fun he => ?_)
      · walk_at "v"
        have ez : ws n 1 = z := V.str.inj he
        exact kQ n 1 (by decide) (by unfold Cop; simp) (by rw [← ez, ws_list]) _ H3 S3 (NumAt.int _ _)
      · refine fin S3 fun ⟨p, q, h1, hc, e⟩ => ?_
        have e1 := valid p q e
        subst e1
        have e2 : z.cps.toList = sI p := by
          rw [e]
          unfold wl
          rw [if_pos rfl]
        have e3 : n = p := by rw [ev, e2, valI_sI]
        subst e3
        exact he (by rw [str_ext (x := ws n 1) (y := z) (by rw [ws_list]; exact e.symm)])
    · -- a line
      rw [show (Txt.partition z "/").1 = ⟨a.toArray⟩ by rw [ep], show (Txt.partition z "/").2.1 = "/" by rw [ep], show (Txt.partition z "/").2.2 = ⟨b.toArray⟩ by rw [ep]]
      have ll := line_len ez
      have valid : ∀ p q : Int, 1 ≤ q → Cop p q → z.cps.toList = wl p q → 2 ≤ q ∧ a = sI p ∧ b = sI q := fun p q h1 hc e => by
        unfold wl at e
        split at e
        · exact absurd (by rw [← e, ez]; exact List.mem_append_right _ List.mem_cons_self) (sI_47 p)
        · rw [ez] at e
          obtain ⟨e1, e2⟩ := split_uniq a (sI p) b (sI q) e (sI_47 p) (sI_47 q)
          exact ⟨by omega, e1, e2⟩
      have al : (⟨a.toArray⟩ : Str).cps.toList = a := List.toList_toArray
      have bl : (⟨b.toArray⟩ : Str).cps.toList = b := List.toList_toArray
      have aL : (⟨a.toArray⟩ : Str).length = a.length := by show a.toArray.size = _; rw [List.size_toArray]
      have bL : (⟨b.toArray⟩ : Str).length = b.length := by show b.toArray.size = _; rw [List.size_toArray]
      walk_at "v"
      refine ⟨rfl, ?_⟩
      refine ⟨_, _, rfl, rfl, sz_1200 (by rw [aL]; omega), ?_⟩
      have rl : (Txt.removeprefix (⟨a.toArray⟩ : Str) "-").cps.toList = offM a := by rw [removeprefix_minus, al]
      have rlen : (Txt.removeprefix (⟨a.toArray⟩ : Str) "-").length ≤ 570 := by
        have e1 : (Txt.removeprefix (⟨a.toArray⟩ : Str) "-").cps.toList.length = (Txt.removeprefix (⟨a.toArray⟩ : Str) "-").length := Array.length_toList
        rw [← e1, rl]
        have : (offM a).length ≤ a.length := by
          unfold offM
          split
          · simp
          · exact Nat.le_refl _
        omega
      refine ⟨_, rfl, by omega, fun H2 s2 => ?_⟩
      have S2 := Same.trans sP s2
      refine ⟨_, rfl, ?_⟩
      rw [rl]
      refine iteBN (fun hd => ?_) (fun hd => ?_)
      rotate_left
      · refine iteT ?_
        refine fin S2 fun ⟨p, q, h1, hc, e⟩ => ?_
        obtain ⟨_, e1, _⟩ := valid p q h1 hc e
        rw [e1, offM_sI, digs_dgN] at hd
        cases hd
      walk_at "v"
      refine ⟨rfl, ?_⟩
      refine ⟨_, rfl, ?_⟩
      refine iteN (fun h => by exact absurd (V.str.inj h) (by decide)) (fun _ => ?_)
      walk_at "v"
      refine ⟨_, rfl, by rw [bL]; omega, fun H3 s3 => ?_⟩
      have S3 := Same.trans S2 s3
      refine ⟨_, rfl, ?_⟩
      rw [bl]
      refine iteBN (fun hdb => ?_) (fun hdb => ?_)
      rotate_left
      · refine fin S3 fun ⟨p, q, h1, hc, e⟩ => ?_
        obtain ⟨h2, _, e2⟩ := valid p q h1 hc e
        have : b = dgN q.natAbs := by rw [e2]; unfold sI; rw [if_neg (by omega)]
        rw [this, digs_dgN] at hdb
        cases hdb
      obtain ⟨n, en, hn, ev⟩ := int_ok hd (by omega)
      have hob : offM b = b := by
        obtain ⟨_, hbd⟩ := digsB_true hdb
        unfold offM
        split
        · rename_i r
          have := hbd 45 List.mem_cons_self
          omega
        · rfl
      obtain ⟨m, em, hm, ev2⟩ := int_ok (l := b) (by rw [hob]; exact hdb) (by omega)
      walk_at "v"
      refine ⟨rfl, ?_⟩
      refine ⟨_, rfl, ?_⟩
      refine iteD (fun h => by exact absurd (V.str.inj h) (by decide)) (fun _ => ?_)
      walk_at "v"
      refine ⟨_, n, rfl, en, by rw [aL]; omega, ?_⟩
      walk_at "v"
      refine ⟨_, m, rfl, em, by rw [bL]; omega, ?_⟩
      refine ⟨by show 2 ≤ sizeLine; decide, fun t ht => ?_⟩
      generalize e4 : upd _ t _ = H4
      have s4 : Same H3 H4 := by rw [← e4]; exact Same.new ht
      have g4 : H4 t = some (.tup [.int n, .int m]) := by rw [← e4, upd_same]
      clear e4 ht
      have S4 := Same.trans S3 s4
      walk_at "v"
      refine ⟨_, pairB (.int n) (.int m), rfl, .inr (.inr ⟨t, _, _, _, _, rfl, g4, ty_int, ty_int, rfl⟩), ?_⟩
      refine ⟨_, rfl, ?_⟩
      refine iteBN (fun hp => ?_) (fun hp => ?_)
      rotate_left
      · refine iteT ?_
        refine fin S4 fun ⟨p, q, h1, hc, e⟩ => ?_
        obtain ⟨h2, e1, e2⟩ := valid p q h1 hc e
        have e3 : n = p := by rw [ev, e1, valI_sI]
        have e5 : m = q := by rw [ev2, e2, valI_sI]
        subst e3 e5
        have : pairB (.int n) (.int m) = true := by
          show (decide (2 ≤ m) && decide (Nat.gcd n.natAbs m.natAbs = 1)) = true
          rw [decide_eq_true h2, decide_eq_true (show Nat.gcd n.natAbs m.natAbs = 1 from hc)]
          rfl
        rw [this] at hp
        cases hp
      have hp' : (decide (2 ≤ m) && decide (Nat.gcd n.natAbs m.natAbs = 1)) = true := hp
      have m2 : 2 ≤ m := of_decide_eq_true (Bool.and_eq_true_iff.mp hp').1
      have mc : Cop n m := by
        unfold Cop
        exact of_decide_eq_true (Bool.and_eq_true_iff.mp hp').2
      have num : NumAt H4 (.ref t) n m := .inr ⟨t, rfl, g4, m2, mc⟩
      walk_at "v"
      refine ⟨_, n, m, rfl, num, hn, hm, fun H5 s5 => ?_⟩
      have S5 := Same.trans S4 s5
      walk_at "v"
      refine ⟨rfl, ?_⟩
      refine ⟨_, rfl, ?_⟩
      refine iteN (fun he => ?_) (fun he => ?_)
      · walk_at "v"
        have ez : ws n m = z := V.str.inj he
        exact kQ n m (by omega) mc (by rw [← ez, ws_list]) _ H5 S5 (num.same s5)
      · refine fin S5 fun ⟨p, q, h1, hc, e⟩ => ?_
        obtain ⟨h2, e1, e2⟩ := valid p q h1 hc e
        have e3 : n = p := by rw [ev, e1, valI_sI]
        have e5 : m = q := by rw [ev2, e2, valI_sI]
        subst e3 e5
        exact he (by rw [str_ext (x := ws n m) (y := z) (by rw [ws_list]; exact e.symm)])
  rcases h with ⟨p, q, rfl, h1, hc, hl, k⟩ | ⟨hb, k⟩
  · refine text _ rfl hl (fun p' q' h1' hc' e v H' s hn => ?_) fun hw => absurd ⟨p, q, h1, hc, ws_list p q⟩ hw
    rw [ws_list] at e
    obtain ⟨rfl, rfl⟩ := wl_inj h1 hc h1' hc' e
    exact k v H' s hn
  · rcases hb with ⟨T, ty, hT⟩ | ⟨z, rfl, hl, hw⟩
    · walk_at "v"
      refine ⟨_, _, _, _, _, rfl, .ty _, ty, kit_ty (kit_str ty hT), ?_⟩
      refine ⟨_, rfl, ?_⟩
      show (if (!false) = true then _ else _)
      refine iteT ?_
      walk_at "v"
      exact mk_xi fun d H' s h => k d H' s h
    · exact text z rfl hl (fun p q h1 hc e => absurd ⟨p, q, h1, hc, e⟩ hw) fun _ => k
end Md

set_option Elab.async false
set_option linter.all false
set_option maxRecDepth 100000
set_option maxHeartbeats 4000000
/-! data kept, data shown -/
namespace Md
open PySem PySem.Spec PyProof.Rows PySem.Calls L2
mutual
theorem Dp.same {K : PySem.W.Frag} {H H' : Hp} (s : Same H H') : ∀ {v : V} {d : PyData}, Dp K H v d → Dp K H' v d
  | _, _, .non => .non
  | _, _, .bl b => .bl b
  | _, _, .int i => .int i
  | _, _, .str x => .str x
  | _, _, .lst h r => .lst (Same.sqL s h) (DpAll.same s r)
  | _, _, .tup h r => .tup (Evl.ex_t s h) (DpAll.same s r)
theorem DpAll.same {K : PySem.W.Frag} {H H' : Hp} (s : Same H H') : ∀ {vs : List V} {ds : List PyData}, DpAll K H vs ds → DpAll K H' vs ds
  | _, _, .nil => .nil
  | _, _, .cons h r => .cons (Dp.same s h) (DpAll.same s r)
end
/-- data that is shown -/
structure ShowD (d : PyData) : Prop where
  sh : SeqAt.shaped d = true
  sw : d.showable = true
  nd : d.hasDict = false
  sz : d.shown.length ≤ sizeLine
theorem repr_len {z : Str} (h : z.length ≤ 20) (hs : PyData.strOk z = true) : (reprText z).length ≤ 202 := by
  have := StrLaws.reprText_len z fun c hc => by
    have h2 : z.cps.all (· < 0x110000) = true := hs
    rw [← Array.all_toList, List.all_eq_true] at h2
    exact Nat.lt_of_lt_of_le (of_decide_eq_true (h2 c hc)) (by decide)
  omega
theorem sz_ok {n : Nat} (h : n ≤ 100) : n ≤ sizeLine := Nat.le_trans h (by decide)
theorem show_str {z : Str} (h : z.length ≤ 20) (hs : PyData.strOk z = true) : ShowD (.str z) := by
  refine ⟨?_, rfl, rfl, Nat.le_trans (repr_len h hs) (by decide)⟩
  unfold SeqAt.shaped
  simp [PyData.canLay0, PyData.depth, hs]
theorem show_lst1 {z : Str} (h : z.length ≤ 20) (hs : PyData.strOk z = true) : ShowD (.list [.str z]) := by
  refine ⟨shaped_lst1 hs, by simp [PyData.showable, PyData.showableAll], by simp [PyData.hasDict, PyData.hasDictAll], ?_⟩
  have := listText_len_le [reprText z]
  have h2 := repr_len h hs
  simp only [PyData.shown, PyData.shownAll]
  simp only [List.map_cons, List.map_nil, List.sum_cons, List.sum_nil, List.length_cons, List.length_nil] at this
  exact Nat.le_trans (show _ ≤ 300 by omega) (by decide)
theorem show_tup1 {z : Str} (h : z.length ≤ 20) (hs : PyData.strOk z = true) : ShowD (.tuple [.str z]) := by
  refine ⟨shaped_tupS (ns := [z]) (fun n hn => by rw [List.mem_singleton.mp hn]; exact hs), by simp [PyData.showable, PyData.showableAll], by simp [PyData.hasDict, PyData.hasDictAll], ?_⟩
  have := tupleText_len_le [reprText z]
  have h2 := repr_len h hs
  simp only [PyData.shown, PyData.shownAll]
  simp only [List.map_cons, List.map_nil, List.sum_cons, List.sum_nil, List.length_cons, List.length_nil] at this
  exact Nat.le_trans (show _ ≤ 300 by omega) (by decide)
theorem show_tup2 {z w : Str} (h : z.length ≤ 20) (hs : PyData.strOk z = true) (h' : w.length ≤ 20) (hs' : PyData.strOk w = true) : ShowD (.tuple [.str z, .str w]) := by
  refine ⟨shaped_strs hs hs', by simp [PyData.showable, PyData.showableAll], by simp [PyData.hasDict, PyData.hasDictAll], ?_⟩
  have := tupleText_len_le [reprText z, reprText w]
  have h2 := repr_len h hs
  have h3 := repr_len h' hs'
  simp only [PyData.shown, PyData.shownAll]
  simp only [List.map_cons, List.map_nil, List.sum_cons, List.sum_nil, List.length_cons, List.length_nil] at this
  exact Nat.le_trans (show _ ≤ 500 by omega) (by decide)
end Md

set_option Elab.async false
set_option linter.all false
set_option maxRecDepth 100000
/-! the head's hook with the interpreter's statics (a class's constants are read there) -/
namespace Md
open PySem PySem.Spec PyProof.Rows PySem.Calls L2
structure SaysM (fa : List He.Fa) (fn : List He.DefD) (ex : PySem.W.Frag → Bool) (K : PySem.W.Frag) : Prop where
  d : He.SaysD fa fn K
  more : ex K = true
def frM (g : Addr → Option Obj) (n : Nat) : PySem.W.Frag := He.frT g (He.asD g n ++ [cStatics])
def obsM (n : Nat) (fa : List He.Fa) (fn : List He.DefD) (ex : PySem.W.Frag → Bool) (g : Addr → Option Obj) : He.AlD × Bool := (He.obsD fa fn (frM g n), ex (frM g n))
def hookM (n : Nat) (fa : List He.Fa) (fn : List He.DefD) (ex : PySem.W.Frag → Bool) : PySem.W.Hook where
  α := He.AlD × Bool
  obs := fun s => obsM n fa fn ex s.heap.get?
  val := fun _ => (He.valD fn, true)
  says := fun _ h => ∃ K : PySem.W.Frag, K.In h ∧ SaysM fa fn ex K
  of := fun _ _ e => ⟨_, He.frT_in, ⟨congrArg (fun z : He.AlD × Bool => z.1) e, congrArg (fun z : He.AlD × Bool => z.2) e⟩⟩
  keeps := fun _ _ _ ⟨K, hK, c⟩ k => ⟨K, PySem.W.Frag.In.keeps hK k, c⟩
theorem obsM_eq {n : Nat} {fa : List He.Fa} {fn : List He.DefD} {ex : PySem.W.Frag → Bool} {g : Addr → Option Obj} {s : Shared} (h : ∀ a, g a = s.heap.get? a) : obsM n fa fn ex g = (hookM n fa fn ex).obs s := by
  have e : g = s.heap.get? := funext h
  rw [e] <;> rfl
end Md

set_option Elab.async false
set_option linter.all false
set_option maxRecDepth 100000
set_option maxHeartbeats 4000000
/-! a law's end where its def may show data -/
namespace Md
open PySem PySem.Spec PyProof.Rows PySem.Calls L2
/-- the script's own place: locked there, unless the written part has it -/
def scrH (K : PySem.W.Frag) (a : Addr) (o : Obj) (xs : List V) : Hp := fun b => if b = a ∧ K.lookup a = none then some (.frz o (.lst xs)) else none
theorem scrH_in {K : PySem.W.Frag} {a b : Addr} {o : Obj} {xs : List V} {u : HO} (h : scrH K a o xs b = some u) : b = a ∧ K.lookup a = none ∧ u = .frz o (.lst xs) := by
  unfold scrH at h
  split at h
  · rename_i c
    cases h
    exact ⟨c.1, c.2, rfl⟩
  · cases h
theorem lawG {P : Program} {w : World} {K : PySem.W.Frag} {mg mb : Str → Option Value} {CX : CXT} {k : Nat} {fa a : Addr} {fd : FuncData} {x : Str} {sp : Sp} {st : Shared} {vs : List Value} {ns : List Int}
    (inK : K.In st.heap) (gl : st.heap.Ns mainGlobals mg) (bl : st.heap.Ns builtinsNs mb) (boot : ∀ y : Str, y ≠ "__name__" → mb y = bootBuiltins y) (nol : st.heap.NoLimit) (gn : st.gens = #[])
    (at_ : st.heap.get? a = some { cls := .type "list", data := .seq vs.toArray }) (hints : IntsAre vs ns) (fit : ns.length ≤ sizeLine) (room : Room k callerA)
    (F : ∀ base : Heap, K.In base → base.Ns mainGlobals mg → FnG P w K mg base CX k fa fd [x] sp) (bind : ∀ (s : Shared) (u : Value), BindsTo s fd ⟨[u], []⟩ [(x, u)])
    (want : ∀ H : Hp, SqL K H a (ns.map V.int) → sp [.ref a] H (fun v _ => v = .bl true) fun _ _ _ => False) (noX : ∀ H e s', CX [] H st (fun _ _ _ => False) e s' → False) :
    codeAny (model P w) callerA (.call (.ref fa) ⟨[.ref a], []⟩) (fun r s' => r = .ok (.ret (.bool true)) ∧ OldK st.heap s'.heap ∧ s'.os = st.os ∧ AllBare s'.gens) st := by
  have rel : Vals (ns.map V.int) vs := vals_ints hints
  have lv : vs.length = ns.length := hints.length
  let o : Obj := { cls := .type "list", data := .seq vs.toArray }
  let H : Hp := scrH K a o (ns.map V.int)
  have good : HOk P w H st.heap := by
    intro b u h
    obtain ⟨rfl, _, rfl⟩ := scrH_in h
    exact ⟨at_, by rw [List.length_map]; exact fit, vs, _, rel, at_⟩
  have seq : SqL K H a (ns.map V.int) := by
    cases e : K.lookup a with
    | none => exact .inl (.inr ⟨o, if_pos ⟨rfl, e⟩⟩)
    | some p =>
      have z := inK a p e
      rw [at_] at z
      cases z
      exact .inr ⟨_, vs.toArray, _, e, rfl, rfl, rfl, by rw [List.size_toArray, lv]; exact fit, by simpa using rel⟩
  have free : ∀ {b : Addr} {p : Obj}, st.heap.get? b = some p → (b = a → K.lookup a = none → False) → (hidT st.heap H).get? b = some p := by
    intro b p e n
    refine hidT_get e ?_
    cases q : H b with
    | none => rfl
    | some u =>
      obtain ⟨e1, e2, _⟩ := scrH_in q
      exact (n e1 e2).elim
  have names : ∀ {b : Addr} {m : Str → Option Value}, st.heap.Ns b m → (hidT st.heap H).Ns b m := by
    rintro b m ⟨p, es, ep, e, d, r⟩
    refine ⟨p, es, ep, free e ?_, d, r⟩
    rintro rfl _
    rw [at_] at e
    cases e
    cases d
  have kept : K.In (hidT st.heap H) := by
    intro b p e
    refine free (inK b p e) ?_
    rintro rfl z
    rw [z] at e
    cases e
  have start : Env0 P w K mg (hidT st.heap H) callerA [] st H := by
    refine ⟨rfl, ⟨kept, names gl, ⟨mb, names bl, boot⟩, ?_⟩, fun b p e => of_hidT e, Nat.le_of_eq (hidT_size _ _), True.intro, ?_, good, .of_eq gn⟩
    · obtain ⟨mc, h1, h2⟩ := nol
      exact ⟨mc, names h1, h2⟩
    · intro b hb
      exact absurd (show b ∈ ([] : List Addr) from hb) (List.not_mem_nil)
  have run := (F _ kept (names gl)).run callerA [] st H ⟨[.ref a], []⟩ [.ref a] [.ref a] _ _ rfl room start (bind st (.ref a)) (.cons rfl .nil) (want H seq)
  refine codeAny_mono run ?_
  rintro (e | _ | _ | _ | u) s' z
  · exact (noX H e s' z).elim
  · exact z.elim
  · exact z.elim
  · exact z.elim
  · obtain ⟨v, H', os, bare, un, good', rv, rfl⟩ := z
    obtain rfl : u = Value.bool true := rv
    refine ⟨rfl, OldK.of_keep fun b p e => ?_, os, bare⟩
    cases q : H b with
    | none => exact un.keep b p e q (fun z => absurd (show b ∈ ([] : List Addr) from z) List.not_mem_nil) (by simp)
    | some t =>
      obtain ⟨rfl, _, rfl⟩ := scrH_in q
      have e2 := (good' b _ (un.frzs b o _ q)).1
      rw [at_] at e
      cases e
      exact e2
theorem walk_ofG {l : PySem.W.OpenLaw} {n k : Nat} {q : Program} {loose : List Str} {XP : (Str → Option Value) → Heap → Prop} {YP : World → Heap → Prop} {d : DefRec} {CX : CXT} {x : Str}
    (most : l.most = some n) (fit : n ≤ sizeLine) (plain : d.params.defaults = []) (room : Room k callerA)
    (told : ∀ (w : World) (mg : Str → Option Value) (fa : Addr) (h : Heap), YP w h → h.Ns mainGlobals mg → mg d.name = some (.ref fa) → ∃ (K : PySem.W.Frag) (fd : FuncData) (sp : Sp),
      K.In h ∧ (∀ (s : Shared) (u : Value), BindsTo s fd ⟨[u], []⟩ [(x, u)]) ∧ (∀ (H : Hp) (a : Addr) (ns : List Int), ns.length ≤ n → SqL K H a (ns.map V.int) →
        sp [.ref a] H (fun v _ => v = .bl true) fun _ _ _ => False) ∧ ∀ base : Heap, K.In base → base.Ns mainGlobals mg → FnG l.prog w K mg base CX k fa fd [x] sp)
    (noX : ∀ (H : Hp) (s : Shared) (e : Value) (s' : Shared), CX [] H s (fun _ _ _ => False) e s' → False) : PySem.W.WalkO q loose XP YP l.row.toRowW d [] (fun f vs => PySem.call f vs) := by
  refine Att.attach_call most plain ?_
  intro w s₀ st mg mb fa o pm cd doc a vs ns G Y ho hd hcd hmg there nums few gn
  obtain ⟨K, fd, sp, inK, bind, want, F⟩ := told w mg fa _ Y G.T.g hmg
  exact lawG inK G.T.g G.T.b G.T.builtins G.T.nolimit gn there nums (Nat.le_trans few fit) room F bind (fun H z => want H a ns few z) fun H e s' => noX H st e s'
end Md

set_option Elab.async false
set_option linter.all false
set_option maxRecDepth 100000
set_option maxHeartbeats 4000000
namespace Md
open PySem PySem.Spec PyProof.Rows PySem.Calls L2
local macro_rules | `(tactic| walk_at "v") => `(tactic| refine ⟨_, rfl, ?_⟩)
local macro_rules | `(tactic| walk_at "ii") => `(tactic| refine ⟨_, _, rfl, rfl, ?_⟩)
/-! ### layouts in the heap -/
def LayOk (ns ks : List Str) : Prop := ∀ (i : Nat) n k, ns[i]? = some n → ks[i]? = some k → isWord n = true ∧ n ∉ kRES ∧ (k = "number" ∨ k = "word")
def LayAt (A : Ads) (H : Hp) (a : Addr) (ns ks : List Str) : Prop := ∃ dx tn tk, H a = some (.ins A.cLayout dx [("names", .ref tn), ("_kinds", .ref tk)]) ∧ TupF H tn (ns.map V.str) ∧ TupF H tk (ks.map V.str) ∧ ns.length = ks.length ∧
  ns.length ≤ 5 ∧ LayOk ns ks ∧ ∀ (i : Nat) n, ns[i]? = some n → ∀ j, j < i → ns[j]? ≠ some n
theorem TupF.same {H H' : Hp} {a : Addr} {ys : List V} (h : TupF H a ys) (s : Same H H') : TupF H' a ys := by
  obtain ⟨o, h, r⟩ := h
  exact ⟨o, s _ _ h, r⟩
theorem LayAt.same {A : Ads} {H H' : Hp} {a : Addr} {ns ks : List Str} (h : LayAt A H a ns ks) (s : Same H H') : LayAt A H' a ns ks := by
  obtain ⟨dx, tn, tk, h1, h2, h3, h⟩ := h
  exact ⟨dx, tn, tk, s _ _ h1, h2.same s, h3.same s, h⟩
theorem FieldB.some_ {K : PySem.W.Frag} {H : Hp} {x : V} {n k : Str} (h : FieldB K H x (some (n, k))) : ∃ t, x = .ref t ∧ H t = some (.tup [.str n, .str k]) := by
  rcases h with ⟨T, _, _, e⟩ | ⟨a, xs, _, _, _, e⟩ | ⟨a, u, v, nm, rfl, ha, hf, hn, e⟩
  · cases e
  · cases e
  · rcases hn with ⟨_, rfl⟩ | ⟨z, rfl, _, _, rfl⟩
    · cases e
    · by_cases c : z ∈ kRES
      · rw [if_pos c] at e; cases e
      · rw [if_neg c] at e
        cases v with
        | str w =>
          have e' : some (n, k) = (if w = "number" ∨ w = "word" then some w else none : Option Str).map fun k => (z, k) := e
          by_cases d : w = "number" ∨ w = "word"
          · rw [if_pos d] at e'
            cases e'
            exact ⟨a, rfl, ha⟩
          · rw [if_neg d] at e'; cases e'
        | _ => cases e
theorem FieldB.word {K : PySem.W.Frag} {H : Hp} {x : V} {n k : Str} (h : FieldB K H x (some (n, k))) : isWord n = true ∧ n ∉ kRES ∧ (k = "number" ∨ k = "word") := by
  rcases h with ⟨T, _, _, e⟩ | ⟨a, xs, _, _, _, e⟩ | ⟨a, u, v, nm, rfl, ha, hf, hn, e⟩
  · cases e
  · cases e
  · rcases hn with ⟨_, rfl⟩ | ⟨z, rfl, _, hw, rfl⟩
    · cases e
    · by_cases c : z ∈ kRES
      · rw [if_pos c] at e; cases e
      · rw [if_neg c] at e
        cases v with
        | str w =>
          have e' : some (n, k) = (if w = "number" ∨ w = "word" then some w else none : Option Str).map fun k => (z, k) := e
          by_cases d : w = "number" ∨ w = "word"
          · rw [if_pos d] at e'
            cases e'
            exact ⟨hw, c, d⟩
          · rw [if_neg d] at e'; cases e'
        | _ => cases e
theorem SqL.xbI {K : PySem.W.Frag} {H H2 H3 : Hp} {l a C dx : Addr} {xs : List V} {fs : List (Str × V)} (h : SqL K H l xs) (ha : H a = some (.ins C dx fs)) (s : Same H H2) (x : Xb a H2 H3) : SqL K H3 l xs := by
  rcases h with (h | ⟨o, h⟩) | h
  · exact .inl (.inl (x _ _ (ne_of h ha (by intro z; cases z)) (s _ _ h)))
  · exact .inl (.inr ⟨o, x _ _ (ne_of h ha (by intro z; cases z)) (s _ _ h)⟩)
  · exact .inr h
/-! ### Layout.__init__ -/
def t_BadLayout___init__ (K : PySem.W.Frag) (A : Ads) (E : XK) : TS :=
    (tOst K "at" (tVar 0) (tVar 1))
def n_BadLayout___init__ : List Str := ["self", "at"]
def sp_BadLayout___init__ (K : PySem.W.Frag) (A : Ads) : Sp := spXi A.cBadLayout "at"
def t_Layout___init__ (K : PySem.W.Frag) (A : Ads) (E : XK) : TS :=
    (tSeq (tIfS (tOr (tNot (tB (tCB (rIsi K) (tCons (tVar 1) (tCons (tC (.ty "list")) tNil))))) (tNot (tTest (tChain rLe rLe (tC (.int 1)) (tCB (rLen K) (tCons (tVar 1) tNil)) (tC (.int 5)))))) (tRaise E (tMkO A.cBadLayout (sp_BadLayout___init__ K A) [] (tCons (tUn rNeg (tC (.int 1))) tNil))) tNext)
    (tSeq (tAsg (tLst tNil) (gName 2))
    (tSeq (tFor (iEnum K (tCons (tVar 1) tNil)) (gTup K 2 (gCons (gName 3) (gCons (gName 4) gNil))) (tSeq (tIfS (tOr (tNot (tB (tCall (sp__is_field K A) [] E0 (tCons (tVar 4) tNil)))) (tTest (tOp (rIn K false) (tOp (rIx K) (tVar 4) (tC (.int 0))) (tVar 2)))) (tRaise E (tMkO A.cBadLayout (sp_BadLayout___init__ K A) [] (tCons (tVar 3) tNil))) tNext)
    (tDrop (tBM K "list" rAppend (tVar 2) (tCons (tOp (rIx K) (tVar 4) (tC (.int 0))) tNil)))))
    (tSeq (sFld K (tVar 0) (tCB (rTupF K) (tCons (tVar 2) tNil)) "names")
    (sFld K (tVar 0) (tCB (rTupF K) (tCons (tLc (iList K (tVar 1)) (gName 4) tYes (tOp (rIx K) (tVar 4) (tC (.int 1))) [4]) tNil)) "_kinds")))))
def n_Layout___init__ : List Str := ["self", "fields", "names", "at", "field"]
def NoLay (K : PySem.W.Frag) (H : Hp) (x : V) : Prop := (∃ T, TyX K H x (.type T) ∧ T ≠ "list") ∨ ∃ l xs, x = .ref l ∧ SqL K H l xs ∧ TyX K H x (.type "list") ∧ (xs.length = 0 ∨ 5 < xs.length)
theorem kit_list {K : PySem.W.Frag} {H : Hp} {x : V} {T : String} (ty : TyX K H x (.type T)) (hn : T ≠ "list") : kitB T "list" = some false := by
  cases ty with
  | base b => cases b <;> first | exact absurd rfl hn | decide +kernel
  | _ => first | exact absurd rfl hn | decide +kernel
def sp_Layout___init__ (K : PySem.W.Frag) (A : Ads) : Sp := fun vs H Q E => (∃ (a dx : Addr) (x : V), vs = [.ref a, x] ∧ H a = some (.ins A.cLayout dx []) ∧ NoLay K H x ∧ ∀ d H', Same H H' → H' d = some (.xd [("at", .int (-1))]) → E (.ref A.cBadLayout) (some d) H') ∨ ∃ (a dx l : Addr) (xs : List V) (rs : List (Option (Str × Str))) (ns ks : List Str), vs = [.ref a, .ref l] ∧ H a = some (.ins A.cLayout dx []) ∧ SqL K H l xs ∧ TyX K H (.ref l) (.type "list") ∧
  xs.length = rs.length ∧ 1 ≤ xs.length ∧ xs.length ≤ 5 ∧ (∀ (i : Nat) x r, xs[i]? = some x → rs[i]? = some r → FieldB K H x r) ∧ ns.length ≤ rs.length ∧ ks.length = ns.length ∧
  (∀ (i : Nat) n k, ns[i]? = some n → ks[i]? = some k → rs[i]? = some (some (n, k)) ∧ n ∉ ns.take i) ∧
  (ns.length = rs.length → ∀ H', Xb a H H' → LayAt A H' a ns ks → Q .non H') ∧
  (ns.length < rs.length → (∃ r, rs[ns.length]? = some r ∧ ∀ n k, r = some (n, k) → n ∈ ns) ∧ ∀ d H', Xb a H H' → H' d = some (.xd [("at", .int (ns.length : Nat))]) → E (.ref A.cBadLayout) (some d) H')
theorem len_Layout___init__ {K : PySem.W.Frag} {A : Ads} {vs : List V} {H : Hp} {Q : VK} {E : XK} (h : sp_Layout___init__ K A vs H Q E) : vs.length = 2 := by
  rcases h with ⟨a, dx, x, rfl, _⟩ | ⟨a, dx, l, xs, rs, ns, ks, rfl, _⟩ <;> rfl
theorem pure_Layout___init__ {K : PySem.W.Frag} {A : Ads} (cl : Cls K A.cLayout) (nk : NoAttr K A.cLayout "_kinds") (nn : NoAttr K A.cLayout "names") {vs : List V} {H : Hp} {Q : VK} {E : XK} (h : sp_Layout___init__ K A vs H Q E) :
    t_Layout___init__ K A E { nx := fun _ H' => Q .non H', rt := Q } (start n_Layout___init__ vs) H := by
  rcases h with ⟨a, dx, x, rfl, ha, hx, kb⟩ | ⟨a, dx, l, xs, rs, ns, ks, rfl, ha, hl, tl, hxr, h1, h5, hF, hnr, hkn, hG, kok, kbad⟩
  · walk_at "v"
    have fin : ∀ {D : Ends} {σ : L2.St}, tRaise E (tMkO A.cBadLayout (sp_BadLayout___init__ K A) [] (tCons (tUn rNeg (tC (.int 1))) tNil)) D σ H := fun {D σ} => by
      refine ⟨_, rfl, ?_⟩
      exact mk_xi fun d H' s h => kb d H' s h
    rcases hx with ⟨T, ty, hn⟩ | ⟨l, xs, rfl, hl, tl, hlen⟩
    · refine ⟨_, _, _, _, _, rfl, .ty _, ty, kit_ty (kit_list ty hn), ?_⟩
      refine ⟨_, rfl, ?_⟩
      show (if (!false) = true then _ else _)
      refine iteT ?_
      show (if true = true then _ else _)
      refine iteT ?_
      exact fin
    · refine ⟨_, _, _, _, _, rfl, .ty _, tl, kit_ty (by decide +kernel : kitB "list" "list" = some true), ?_⟩
      refine ⟨_, rfl, ?_⟩
      show (if (!true) = true then _ else _)
      refine iteF ?_
      walk_at "v"
      refine ⟨_, _, rfl, .inl ⟨_, hl, rfl⟩, ?_⟩
      walk_at "ii"
      refine ⟨_, rfl, ?_⟩
      refine iteD (fun h1 => ?_) (fun h1 => ?_)
      · walk_at "ii"
        refine ⟨_, rfl, ?_⟩
        refine iteN (fun h5 => absurd h5 (by omega)) (fun h5 => ?_)
        exact fin
      · refine ⟨_, rfl, ?_⟩
        show (if (!false) = true then _ else _)
        refine iteT ?_
        exact fin
  walk_at "v"
  refine ⟨_, _, _, _, _, rfl, .ty _, tl, kit_ty (by decide +kernel : kitB "list" "list" = some true), ?_⟩
  walk_at "v"
  show (if (!true) = true then _ else _)
  refine iteF ?_
  walk_at "v"
  refine ⟨_, _, rfl, .inl ⟨_, hl, rfl⟩, ?_⟩
  walk_at "ii"
  refine ⟨_, rfl, ?_⟩
  refine iteD (fun _ => ?_) (fun h => absurd (by omega) h)
  walk_at "ii"
  refine ⟨_, rfl, ?_⟩
  refine iteN (fun _ => ?_) (fun h => absurd (by omega) h)
  -- names = []
  refine ⟨by show 0 ≤ sizeLine; decide, fun nl hnl => ?_⟩
  have s0 := Same.new (o := .lst []) hnl
  walk_at "v"
  refine ⟨l, xs, rfl, Md.Same.sqL s0 hl, ?_⟩
  refine for_it (walk_enum (K := K) (a := l) (xs := xs)) (fun i σ H' => i ≤ ns.length ∧ Same H H' ∧ (∃ w3 w4, σ = [some (.ref a), some (.ref l), some (.ref nl), w3, w4]) ∧ H' nl = some (.lst ((ns.take i).map V.str)))
    ⟨Nat.zero_le _, s0, ⟨_, _, rfl⟩, upd_same⟩ (fun i σ H' _ z => Md.Same.sqL z.2.1 hl) ?_ ?_
  · rintro i x σ H1 H1' hi ⟨him, s1, ⟨w3, w4, rfl⟩, hnl1⟩ ⟨T, y0, y, rfl, hT, rfl, ey0, hy⟩
    cases ey0
    have sT := Same.new (o := .tup [.int (i : Nat), y]) hT
    have s2 := Same.trans s1 sT
    refine ⟨T, _, rfl, SqT.of upd_same, rfl, _, _, rfl, _, _, rfl, rfl, ?_⟩
    have hnl2 := sT _ _ hnl1
    generalize upd H1 T (.tup [.int (i : Nat), y]) = H2 at hnl2 s2 ⊢
    obtain ⟨r, hr⟩ : ∃ r, rs[i]? = some r := ⟨rs[i], List.getElem?_eq_getElem (by omega)⟩
    have hf := (hF i y r hy hr).mono s2
    walk_at "v"
    refine ⟨y, r, rfl, hf, fun H3 s3 => ?_⟩
    have hnl3 := s3 _ _ hnl2
    have s3' := Same.trans s2 s3
    refine ⟨_, rfl, ?_⟩
    rcases Nat.lt_or_ge i ns.length with hlt | hge
    · obtain ⟨n, en⟩ : ∃ n, ns[i]? = some n := ⟨ns[i], List.getElem?_eq_getElem hlt⟩
      obtain ⟨k, ek⟩ : ∃ k, ks[i]? = some k := ⟨ks[i], List.getElem?_eq_getElem (by omega)⟩
      obtain ⟨er, hni⟩ := hG i n k en ek
      rw [hr] at er
      cases er
      obtain ⟨t, rfl, ht⟩ := (hf.mono s3).some_
      show (if (!true) = true then _ else _)
      refine iteF ?_
      walk_at "v"
      refine Or.inr (Or.inl ⟨_, _, _, _, rfl, rfl, SqT.of ht, rfl, ?_⟩)
      walk_at "v"
      refine ⟨nl, _, rfl, .inl (SqL.of hnl3), rfl, flat_strs _, ?_⟩
      refine ⟨_, rfl, ?_⟩
      have e : inV (.str n) ((ns.take i).map V.str) = false := by rw [inV_strs]; exact decide_eq_false hni
      show (if inV (.str n) ((ns.take i).map V.str) = true then _ else _)
      rw [e]
      refine iteF ?_
      walk_at "v"
      refine ⟨.inl ⟨rfl, _, SqL.of hnl3⟩, ?_⟩
      walk_at "v"
      refine Or.inr (Or.inl ⟨_, _, _, _, rfl, rfl, SqT.of ht, rfl, ?_⟩)
      refine ⟨nl, _, _, rfl, rfl, hnl3, ?_, ?_⟩
      · rw [List.length_map, List.length_take]
        exact Nat.lt_of_le_of_lt (Nat.min_le_right _ _) (Nat.lt_of_lt_of_le (show ns.length < 6 by omega) (by decide))
      · refine ⟨hlt, fun b o hb => ?_, ⟨_, _, rfl⟩, ?_⟩
        · rw [upd_ne (ne_of_none hb hnl)]
          exact s3' b o hb
        · rw [upd_same, List.take_succ, en]
          simp
    · obtain ⟨⟨r', er', hr'⟩, kb⟩ := kbad (by omega)
      have ei : i = ns.length := by omega
      subst ei
      rw [hr] at er'
      cases er'
      cases r with
      | none =>
        show (if (!false) = true then _ else _)
        refine iteT ?_
        show (if true = true then _ else _)
        refine iteT ?_
        walk_at "v"
        exact mk_xi fun d H' s h => kb d H' (Xb.of (Same.trans s3' s)) h
      | some q =>
        obtain ⟨n, k⟩ := q
        have hin := hr' n k rfl
        obtain ⟨t, rfl, ht⟩ := (hf.mono s3).some_
        show (if (!true) = true then _ else _)
        refine iteF ?_
        walk_at "v"
        refine Or.inr (Or.inl ⟨_, _, _, _, rfl, rfl, SqT.of ht, rfl, ?_⟩)
        walk_at "v"
        refine ⟨nl, _, rfl, .inl (SqL.of hnl3), rfl, flat_strs _, ?_⟩
        refine ⟨_, rfl, ?_⟩
        have e : inV (.str n) ((ns.take ns.length).map V.str) = true := by rw [inV_strs, List.take_length]; exact decide_eq_true hin
        show (if inV (.str n) ((ns.take ns.length).map V.str) = true then _ else _)
        rw [e]
        refine iteT ?_
        walk_at "v"
        exact mk_xi fun d H' s h => kb d H' (Xb.of (Same.trans s3' s)) h
  · rintro σ H1 ⟨him, s1, ⟨w3, w4, rfl⟩, hnl1⟩
    have em : ns.length = rs.length := by omega
    have et : ns.take xs.length = ns := List.take_of_length_le (by omega)
    rw [et] at hnl1
    walk_at "v"
    refine ⟨nl, _, rfl, SqL.of hnl1, fun tn on htn hcn hdn => ?_⟩
    have sn := Same.new (o := .frz on (.tup (ns.map V.str))) htn
    have s2 := Same.trans s1 sn
    have gtn : TupF (upd H1 tn (.frz on (.tup (ns.map V.str)))) tn (ns.map V.str) := ⟨on, upd_same, hcn, hdn⟩
    generalize upd H1 tn (.frz on (.tup (ns.map V.str))) = H2 at gtn s2 ⊢
    walk_at "v"
    have ha2 := s2 _ _ ha
    refine ⟨a, A.cLayout, dx, [], rfl, ha2, cl, nn, by decide, ?_⟩
    have x3 : Xb a H2 (upd H2 a (.ins A.cLayout dx (putF "names" (.ref tn) []))) := Xb.upd Xb.refl
    have ha3 : (upd H2 a (.ins A.cLayout dx (putF "names" (.ref tn) []))) a = some (.ins A.cLayout dx [("names", .ref tn)]) := upd_same
    generalize upd H2 a (.ins A.cLayout dx (putF "names" (.ref tn) [])) = H3 at x3 ha3 ⊢
    have hl3 := SqL.xbI hl ha s2 x3
    have ntn : tn ≠ a := by
      obtain ⟨o, e, _⟩ := gtn
      exact ne_of e ha2 (by intro z; cases z)
    have gtn3 : TupF H3 tn (ns.map V.str) := by
      obtain ⟨o, e, r⟩ := gtn
      exact ⟨o, x3 _ _ ntn e, r⟩
    walk_at "v"
    refine ⟨l, rfl, ⟨xs, hl3⟩, fun D hD => ?_⟩
    refine lc_list (K := K) (a := l) (xs := xs) (fun i H' => Same H3 H' ∧ H' D = some (.lst ((ks.take i).map V.str))) ⟨Same.new hD, upd_same⟩ (fun i H' _ z => Same.sqL z.1 hl3) ?_ ?_
    · rintro i x H4 hx ⟨s4, hD4⟩
      have hi : i < ns.length := by
        have := (List.getElem?_eq_some_iff.mp hx).1
        omega
      obtain ⟨n, en⟩ : ∃ n, ns[i]? = some n := ⟨ns[i], List.getElem?_eq_getElem hi⟩
      obtain ⟨k, ek⟩ : ∃ k, ks[i]? = some k := ⟨ks[i], List.getElem?_eq_getElem (by omega)⟩
      obtain ⟨t, rfl, ht⟩ := (hF i x _ hx (hG i n k en ek).1).some_
      have ht2 := s2 _ _ ht
      have ht4 := s4 _ _ (x3 t _ (ne_of ht2 ha2 (by intro z; cases z)) ht2)
      refine ⟨rfl, ?_⟩
      walk_at "v"
      refine Or.inr (Or.inl ⟨_, _, _, _, rfl, rfl, SqT.of ht4, rfl, ?_⟩)
      refine ⟨_, hD4, ?_, fun b o hb => ?_, ?_⟩
      · rw [List.length_map, List.length_take]
        exact Nat.lt_of_le_of_lt (Nat.min_le_right _ _) (Nat.lt_of_lt_of_le (show ks.length < 6 by omega) (by decide))
      · rw [upd_ne (ne_of_none hb hD)]
        exact s4 b o hb
      · rw [upd_same, List.take_succ, ek]
        simp
    · rintro H4 ⟨s4, hD4⟩
      have ek : ks.take xs.length = ks := List.take_of_length_le (by omega)
      rw [ek] at hD4
      refine ⟨D, _, rfl, SqL.of hD4, fun tk ok_ htk hck hdk => ?_⟩
      have s5 := Same.trans s4 (Same.new (o := .frz ok_ (.tup (ks.map V.str))) htk)
      have gtk : TupF (upd H4 tk (.frz ok_ (.tup (ks.map V.str)))) tk (ks.map V.str) := ⟨ok_, upd_same, hck, hdk⟩
      generalize upd H4 tk (.frz ok_ (.tup (ks.map V.str))) = H5 at gtk s5 ⊢
      have ha5 := s5 _ _ ha3
      walk_at "v"
      refine ⟨a, A.cLayout, dx, _, rfl, ha5, cl, nk, by show 1 < 1000; decide, ?_⟩
      have ntk : tk ≠ a := by
        obtain ⟨o, e, _⟩ := gtk
        exact ne_of e ha5 (by intro z; cases z)
      refine kok em _ (fun b o nb hb => ?_) ⟨dx, tn, tk, upd_same, ?_, ?_, hkn.symm, by omega, fun i n k e1 e2 => ?_, fun i n hn j hj hjn => ?_⟩
      · rw [upd_ne nb]
        exact s5 _ _ (x3 _ _ nb (s2 _ _ hb))
      · obtain ⟨o, e, r⟩ := gtn3
        exact ⟨o, by rw [upd_ne ntn]; exact s5 _ _ e, r⟩
      · obtain ⟨o, e, r⟩ := gtk
        exact ⟨o, by rw [upd_ne ntk]; exact e, r⟩
      · have er := (hG i n k e1 e2).1
        have hi : i < rs.length := (List.getElem?_eq_some_iff.mp er).1
        have hx : xs[i]? = some xs[i] := List.getElem?_eq_getElem (by omega)
        exact (hF i _ _ hx er).word
      · have hi : i < ns.length := (List.getElem?_eq_some_iff.mp hn).1
        obtain ⟨k, ek⟩ : ∃ k, ks[i]? = some k := ⟨ks[i], List.getElem?_eq_getElem (by omega)⟩
        refine (hG i n k hn ek).2 (List.mem_of_getElem? (i := j) ?_)
        rw [List.getElem?_take_of_lt hj]
        exact hjn
/-! ### its length, a field's kind -/
def t_Layout___len__ (K : PySem.W.Frag) (A : Ads) (E : XK) : TS :=
    (tRet (tCB (rLen K) (tCons (tFld K (tVar 0) "names") tNil)))
def n_Layout___len__ : List Str := ["self"]
def sp_Layout___len__ (K : PySem.W.Frag) (A : Ads) : Sp := fun vs H Q _ => ∃ (a : Addr) (ns ks : List Str), vs = [.ref a] ∧ LayAt A H a ns ks ∧ Q (.int (ns.length : Nat)) H
theorem len_Layout___len__ {K : PySem.W.Frag} {A : Ads} {vs : List V} {H : Hp} {Q : VK} {E : XK} (h : sp_Layout___len__ K A vs H Q E) : vs.length = 1 := by
  obtain ⟨a, _, _, rfl, _⟩ := h
  rfl
theorem pure_Layout___len__ {K : PySem.W.Frag} {A : Ads} (cl : Cls K A.cLayout) (nn : NoAttr K A.cLayout "names") {vs : List V} {H : Hp} {Q : VK} {E : XK} (h : sp_Layout___len__ K A vs H Q E) :
    t_Layout___len__ K A E { nx := fun _ H' => Q .non H', rt := Q } (start n_Layout___len__ vs) H := by
  obtain ⟨a, ns, ks, rfl, ⟨dx, tn, tk, ha, gn, gk, r⟩, k⟩ := h
  walk_at "v"
  refine ⟨a, _, dx, _, _, rfl, ha, cl, nn, rfl, ?_⟩
  refine ⟨_, _, rfl, .inr ⟨_, gn.seq, rfl⟩, ?_⟩
  rw [List.length_map]
  exact k
def t_BadField___init__ (K : PySem.W.Frag) (A : Ads) (E : XK) : TS :=
    (tOst K "name" (tVar 0) (tVar 1))
def n_BadField___init__ : List Str := ["self", "name"]
def sp_BadField___init__ (K : PySem.W.Frag) (A : Ads) : Sp := spXi A.cBadField "name"
def t_Layout_kind (K : PySem.W.Frag) (A : Ads) (E : XK) : TS :=
    (tSeq (tIfS (tTest (tOp (rNotInT2 K) (tVar 1) (tFld K (tVar 0) "names"))) (tRaise E (tMkO A.cBadField (sp_BadField___init__ K A) [] (tCons (tVar 1) tNil))) tNext)
    (tRet (tOp (rIx K) (tFld K (tVar 0) "_kinds") (tBMF (rTIdx K) (tFld K (tVar 0) "names") (tCons (tVar 1) tNil)))))
def n_Layout_kind : List Str := ["self", "name"]
def sp_Layout_kind (K : PySem.W.Frag) (A : Ads) : Sp := fun vs H Q E => ∃ (a : Addr) (x : V) (d : PyData) (ns ks : List Str), vs = [.ref a, x] ∧ LayAt A H a ns ks ∧ Dp K H x d ∧ SeqAt.shaped d = true ∧
  (∀ (i : Nat) n k, x = .str n → ns[i]? = some n → ks[i]? = some k → Q (.str k) H) ∧ (inD ns d = false → ∀ dd H', Same H H' → H' dd = some (.xd [("name", x)]) → E (.ref A.cBadField) (some dd) H')
theorem len_Layout_kind {K : PySem.W.Frag} {A : Ads} {vs : List V} {H : Hp} {Q : VK} {E : XK} (h : sp_Layout_kind K A vs H Q E) : vs.length = 2 := by
  obtain ⟨a, _, _, _, _, rfl, _⟩ := h
  rfl
theorem LayOk.strs {ns ks : List Str} (h : LayOk ns ks) (e : ns.length = ks.length) : ∀ n ∈ ns, isWord n = true ∧ n ∉ kRES := fun n hn => by
  obtain ⟨i, hi, e1⟩ := List.getElem_of_mem hn
  have z := h i n (ks[i]) (by rw [List.getElem?_eq_getElem hi, e1]) (List.getElem?_eq_getElem (by omega))
  exact ⟨z.1, z.2.1⟩
theorem LayOk.shaped {ns ks : List Str} (h : LayOk ns ks) (e : ns.length = ks.length) : SeqAt.shaped (.tuple (ns.map PyData.str)) = true := shaped_tupS fun n hn => word_ok (h.strs e n hn).1
theorem LayOk.kinds {ns ks : List Str} (h : LayOk ns ks) (e : ns.length = ks.length) : ∀ k ∈ ks, k = "number" ∨ k = "word" := fun k hk => by
  obtain ⟨i, hi, e1⟩ := List.getElem_of_mem hk
  exact (h i (ns[i]) k (List.getElem?_eq_getElem (by omega)) (by rw [List.getElem?_eq_getElem hi, e1])).2.2
theorem LayOk.shapedK {ns ks : List Str} (h : LayOk ns ks) (e : ns.length = ks.length) : SeqAt.shaped (.tuple (ks.map PyData.str)) = true := shaped_tupS fun k hk => by
  rcases h.kinds e k hk with rfl | rfl <;> decide +kernel
theorem pure_Layout_kind {K : PySem.W.Frag} {A : Ads} (cl : Cls K A.cLayout) (nk : NoAttr K A.cLayout "_kinds") (nn : NoAttr K A.cLayout "names") {vs : List V} {H : Hp} {Q : VK} {E : XK} (h : sp_Layout_kind K A vs H Q E) :
    t_Layout_kind K A E { nx := fun _ H' => Q .non H', rt := Q } (start n_Layout_kind vs) H := by
  obtain ⟨a, x, d, ns, ks, rfl, ⟨dx, tn, tk, ha, gn, gk, hnk, h5, hok, hd⟩, hx, hs, k1, k2⟩ := h
  walk_at "v"; walk_at "v"
  refine ⟨a, _, dx, _, _, rfl, ha, cl, nn, rfl, ?_⟩
  refine .inr ⟨d, _, hx, dp_tupS gn.seq, hs, hok.shaped hnk, ?_⟩
  refine ⟨_, rfl, ?_⟩
  show (if (!inD ns d) = true then _ else _)
  refine iteBN (fun hin => ?_) (fun hin => ?_)
  · obtain ⟨n, rfl, hn⟩ := inD_true hin
    obtain rfl := dp_str_inv hx
    obtain ⟨i, hi, e⟩ := List.getElem_of_mem hn
    have en : ns[i]? = some n := by rw [List.getElem?_eq_getElem hi, e]
    obtain ⟨k, ek⟩ : ∃ k, ks[i]? = some k := ⟨ks[i], List.getElem?_eq_getElem (by omega)⟩
    walk_at "v"
    refine ⟨a, _, dx, _, _, rfl, ha, cl, nk, rfl, ?_⟩
    walk_at "v"
    refine ⟨a, _, dx, _, _, rfl, ha, cl, nn, rfl, ?_⟩
    refine ⟨⟨tn, _, rfl, gn⟩, ?_⟩
    walk_at "v"
    refine ⟨tn, ns, n, i, rfl, rfl, gn.seq, en, fun m hm => hd i n en m hm, ?_⟩
    refine Or.inr (Or.inl ⟨_, _, _, _, rfl, rfl, gk.seq, ?_, k1 i n k rfl en ek⟩)
    have hik : i < (ks.map V.str).length := by rw [List.length_map]; omega
    obtain ⟨x, e1, e2⟩ := atI_of (xs := ks.map V.str) (d := (i : Int)) (by omega) (by omega)
    rw [e1]
    have e3 : (i : Int).toNat = i := by omega
    rw [e3, List.getElem?_map, ek] at e2
    exact e2.symm
  · walk_at "v"
    exact mk_xi fun d H' s h => k2 hin d H' s h
/-! ### a name among the fields; equal layouts -/
def t_Layout___contains__ (K : PySem.W.Frag) (A : Ads) (E : XK) : TS :=
    (tRet (tOp (rInT2 K) (tVar 1) (tFld K (tVar 0) "names")))
def n_Layout___contains__ : List Str := ["self", "name"]
def sp_Layout___contains__ (K : PySem.W.Frag) (A : Ads) : Sp := fun vs H Q _ => ∃ (a : Addr) (x : V) (d : PyData) (ns ks : List Str), vs = [.ref a, x] ∧ LayAt A H a ns ks ∧ Dp K H x d ∧ SeqAt.shaped d = true ∧ Q (.bl (inD ns d)) H
theorem len_Layout___contains__ {K : PySem.W.Frag} {A : Ads} {vs : List V} {H : Hp} {Q : VK} {E : XK} (h : sp_Layout___contains__ K A vs H Q E) : vs.length = 2 := by
  obtain ⟨a, _, _, _, _, rfl, _⟩ := h
  rfl
theorem pure_Layout___contains__ {K : PySem.W.Frag} {A : Ads} (cl : Cls K A.cLayout) (nn : NoAttr K A.cLayout "names") {vs : List V} {H : Hp} {Q : VK} {E : XK} (h : sp_Layout___contains__ K A vs H Q E) :
    t_Layout___contains__ K A E { nx := fun _ H' => Q .non H', rt := Q } (start n_Layout___contains__ vs) H := by
  obtain ⟨a, x, d, ns, ks, rfl, ⟨dx, tn, tk, ha, gn, gk, hnk, h5, hok, hd⟩, hx, hs, k⟩ := h
  walk_at "v"; walk_at "v"
  refine ⟨a, _, dx, _, _, rfl, ha, cl, nn, rfl, ?_⟩
  exact .inr ⟨d, _, hx, dp_tupS gn.seq, hs, hok.shaped hnk, k⟩
theorem eqv_strs : ∀ (xs ys : List Str), PyData.eqvAll (xs.map PyData.str) (ys.map PyData.str) = decide (xs = ys)
  | [], [] => by simp [PyData.eqvAll]
  | x :: xs, [] => by simp [PyData.eqvAll]
  | [], y :: ys => by simp [PyData.eqvAll]
  | x :: xs, y :: ys => by
    have ih := eqv_strs xs ys
    simp only [List.map_cons, PyData.eqvAll, PyData.eqv, ih, List.cons.injEq]
    by_cases c : x = y <;> by_cases d : xs = ys <;> simp [c, d]
/-- what stands beside a layout in ==: another layout, or a thing of a built-in type -/
def LayEq (K : PySem.W.Frag) (A : Ads) (H : Hp) (ns ks : List Str) (y : V) (b : Bool) : Prop := (∃ T, TyX K H y (.type T) ∧ offB T = true ∧ b = false) ∨ ∃ a ms ls, y = .ref a ∧ LayAt A H a ms ls ∧ b = decide (ns = ms ∧ ks = ls)
theorem LayEq.ty {K : PySem.W.Frag} {A : Ads} {H : Hp} {ns ks : List Str} {y : V} {b : Bool} (cl : Cls K A.cLayout) (tc : TyC K A.cLayout) (h : LayEq K A H ns ks y b) : ∃ t, TyX K H y t ∧ PySem.W.notFirst K A.cLayout t = true := by
  rcases h with ⟨T, ty, ho, _⟩ | ⟨a, ms, ls, rfl, ⟨dx, _, _, ha, _⟩, _⟩
  · exact ⟨_, ty, nf_off ho⟩
  · exact ⟨_, tc.ty cl ha, nf_self⟩
def t_Layout___eq__ (K : PySem.W.Frag) (A : Ads) (E : XK) : TS :=
    (tRet (tAndV (tCB (rIsi K) (tCons (tVar 1) (tCons (tC (.ref A.cLayout)) tNil))) (tAndV (tOp (rEqD K) (tFld K (tVar 0) "names") (tFld K (tVar 1) "names")) (tOp (rEqD K) (tFld K (tVar 0) "_kinds") (tFld K (tVar 1) "_kinds")))))
def n_Layout___eq__ : List Str := ["self", "other"]
def sp_Layout___eq__ (K : PySem.W.Frag) (A : Ads) : Sp := fun vs H Q _ => ∃ (a : Addr) (y : V) (ns ks : List Str) (b : Bool), vs = [.ref a, y] ∧ LayAt A H a ns ks ∧ LayEq K A H ns ks y b ∧ Q (.bl b) H
theorem len_Layout___eq__ {K : PySem.W.Frag} {A : Ads} {vs : List V} {H : Hp} {Q : VK} {E : XK} (h : sp_Layout___eq__ K A vs H Q E) : vs.length = 2 := by
  obtain ⟨a, _, _, _, _, rfl, _⟩ := h
  rfl
theorem pure_Layout___eq__ {K : PySem.W.Frag} {A : Ads} (cl : Cls K A.cLayout) (nk : NoAttr K A.cLayout "_kinds") (nn : NoAttr K A.cLayout "names") (tc : TyC K A.cLayout) {vs : List V} {H : Hp} {Q : VK} {E : XK} (h : sp_Layout___eq__ K A vs H Q E) :
    t_Layout___eq__ K A E { nx := fun _ H' => Q .non H', rt := Q } (start n_Layout___eq__ vs) H := by
  obtain ⟨a, y, ns, ks, b, rfl, ⟨dx, tn, tk, ha, gn, gk, hnk, h5, hok, hd⟩, hy, k⟩ := h
  walk_at "v"
  rcases hy with ⟨T, ty, ho, rfl⟩ | ⟨a2, ms, ls, rfl, ⟨dx2, tn2, tk2, ha2, gn2, gk2, hnk2, h52, hok2, hd2⟩, rfl⟩
  · refine ⟨_, _, _, _, _, rfl, .own _, ty, tc.off ho, ?_⟩
    exact ⟨_, rfl, iteF k⟩
  · refine ⟨_, _, _, _, _, rfl, .own _, tc.ty cl ha2, TyC.self, ?_⟩
    refine ⟨_, rfl, iteT ?_⟩
    walk_at "v"
    refine ⟨a, _, dx, _, _, rfl, ha, cl, nn, rfl, ?_⟩
    walk_at "v"
    refine ⟨a2, _, dx2, _, _, rfl, ha2, cl, nn, rfl, ?_⟩
    refine ⟨_, _, dp_tupS gn.seq, dp_tupS gn2.seq, hok.shaped hnk, hok2.shaped hnk2, ?_⟩
    have e : PyData.eqv (.tuple (ns.map PyData.str)) (.tuple (ms.map PyData.str)) = decide (ns = ms) := by rw [← eqv_strs]; simp [PyData.eqv]
    rw [e]
    refine ⟨_, rfl, ?_⟩
    refine iteD (fun h1 => ?_) (fun h1 => ?_)
    · walk_at "v"
      refine ⟨a, _, dx, _, _, rfl, ha, cl, nk, rfl, ?_⟩
      walk_at "v"
      refine ⟨a2, _, dx2, _, _, rfl, ha2, cl, nk, rfl, ?_⟩
      refine ⟨_, _, dp_tupS gk.seq, dp_tupS gk2.seq, hok.shapedK hnk, hok2.shapedK hnk2, ?_⟩
      have e : PyData.eqv (.tuple (ks.map PyData.str)) (.tuple (ls.map PyData.str)) = decide (ns = ms ∧ ks = ls) := by
        have : decide (ns = ms ∧ ks = ls) = decide (ks = ls) := by simp [h1]
        rw [this, ← eqv_strs]; simp [PyData.eqv]
      rw [e]
      exact k
    · have e : decide (ns = ms ∧ ks = ls) = false := by simp [h1]
      rw [e] at k
      exact k
end Md

set_option Elab.async false
set_option linter.all false
set_option maxRecDepth 100000
set_option maxHeartbeats 4000000
/-! the script's list away from lists that change -/
namespace Md
open PySem PySem.Spec PyProof.Rows PySem.Calls L2
theorem new_ne {n : Nat} {H : Hp} {b l : Addr} (hB : Bag n H b) (h : H l = none) : l ≠ b := by
  rintro rfl
  obtain ⟨L, e⟩ := hB.at_
  rw [h] at e
  cases e
/-- the script's list, away from the lists bs that change -/
def ScrN (K : PySem.W.Frag) (H : Hp) (a : Addr) (xs : List V) (bs : List Addr) : Prop := SqL K H a xs ∧ (a ∈ bs → ∀ H', SqL K H' a xs)
theorem ScrN.step {K : PySem.W.Frag} {H H' : Hp} {a : Addr} {xs : List V} {bs : List Addr} (h : ScrN K H a xs bs) (x : ∀ q o, q ∉ bs → H q = some o → H' q = some o) : ScrN K H' a xs bs := by
  refine ⟨?_, h.2⟩
  by_cases c : a ∈ bs
  · exact h.2 c H'
  · rcases h.1 with (e | ⟨o, e⟩) | e
    · exact .inl (.inl (x _ _ c e))
    · exact .inl (.inr ⟨o, x _ _ c e⟩)
    · exact .inr e
theorem ScrN.xb {K : PySem.W.Frag} {H H' : Hp} {a b : Addr} {xs : List V} {bs : List Addr} (h : ScrN K H a xs bs) (x : Xb b H H') (hb : b ∈ bs := by simp) : ScrN K H' a xs bs := h.step fun q o hq e => x q o (fun z => hq (by rw [z]; exact hb)) e
theorem ScrN.same {K : PySem.W.Frag} {H H' : Hp} {a : Addr} {xs : List V} {bs : List Addr} (h : ScrN K H a xs bs) (s : Same H H') : ScrN K H' a xs bs := h.step fun q o _ e => s q o e
theorem ScrN.new {K : PySem.W.Frag} {H : Hp} {a b : Addr} {xs : List V} {bs : List Addr} (h : ScrN K H a xs bs) (hb : H b = none) : ScrN K H a xs (b :: bs) := by
  refine ⟨h.1, fun hm H' => ?_⟩
  rcases List.mem_cons.mp hm with e | e
  · subst e
    rcases h.1 with (e | ⟨o, e⟩) | e
    · rw [hb] at e; cases e
    · rw [hb] at e; cases e
    · exact .inr e
  · exact h.2 e H'
end Md

set_option Elab.async false
set_option linter.all false
set_option maxRecDepth 100000
set_option maxHeartbeats 4000000
set_option exponentiation.threshold 20000
namespace Md
open PySem PySem.Spec PyProof.Rows PySem.Calls L2 PySem.NumText
local macro_rules | `(tactic| walk_at "v") => `(tactic| refine ⟨_, rfl, ?_⟩)
local macro_rules | `(tactic| walk_at "ii") => `(tactic| refine ⟨_, _, rfl, rfl, ?_⟩)
local macro_rules | `(tactic| walk_at "fls") => `(tactic| (refine ⟨_, rfl, ?_⟩; show (if (!true) = true then _ else _); refine iteF ?_))
/-! ### texts that are no written form -/
theorem bad_sign {cs : List Nat} (c : Nat) (hc : c ∈ cs) (h : c ≠ 45 ∧ c ≠ 47 ∧ ¬ (48 ≤ c ∧ c ≤ 57)) : ¬ IsW cs := fun w => by
  rcases w.signs c hc with e | e | e
  · exact h.1 e
  · exact h.2.1 e
  · exact h.2.2 e
/-- small signs alone -/
def Sm (z : Str) : Prop := ∀ c ∈ z.cps.toList, c < 128
theorem Sm.ok {z : Str} (h : Sm z) : PyData.strOk z = true := by
  show z.cps.all (· < 0x110000) = true
  rw [← Array.all_toList, List.all_eq_true]
  exact fun c hc => decide_eq_true (Nat.lt_trans (h c hc) (by decide))
theorem Sm.app {a b : Str} (ha : Sm a) (hb : Sm b) : Sm (a ++ b) := fun c hc => by
  rw [app_list] at hc
  rcases List.mem_append.mp hc with h | h
  · exact ha c h
  · exact hb c h
theorem show_text {z : Str} (h : z.length ≤ 600) (hs : PyData.strOk z = true) : ShowD (.str z) := by
  refine ⟨?_, rfl, rfl, ?_⟩
  · unfold SeqAt.shaped
    simp [PyData.canLay0, PyData.depth, hs]
  · have := StrLaws.reprText_len z fun c hc => by
      have h2 : z.cps.all (· < 0x110000) = true := hs
      rw [← Array.all_toList, List.all_eq_true] at h2
      exact Nat.lt_of_lt_of_le (of_decide_eq_true (h2 c hc)) (by decide)
    show (reprText z).length ≤ sizeLine
    exact Nat.le_trans (show _ ≤ 7000 by omega) (by decide)
/-- a thing that read_number refuses, and that is shown -/
def RefAt (K : PySem.W.Frag) (H : Hp) (x : V) : Prop := ∃ d, Dp K H x d ∧ ShowD d ∧ BadTxt K H x
theorem RefAt.same {K : PySem.W.Frag} {H H' : Hp} {x : V} (h : RefAt K H x) (s : Same H H') : RefAt K H' x := by
  obtain ⟨d, h1, h2, h3⟩ := h
  exact ⟨d, Dp.same s h1, h2, h3.same s⟩
theorem ref_str {K : PySem.W.Frag} {H : Hp} {z : Str} (hl : z.length ≤ 560) (hs : Sm z) (hw : ¬ IsW z.cps.toList) : RefAt K H (.str z) := ⟨_, .str z, show_text (by omega) hs.ok, .inr ⟨z, rfl, by omega, hw⟩⟩
def AllRef (K : PySem.W.Frag) (H : Hp) (xs : List V) : Prop := ∀ x ∈ xs, RefAt K H x
theorem AllRef.same {K : PySem.W.Frag} {H H' : Hp} {xs : List V} (h : AllRef K H xs) (s : Same H H') : AllRef K H' xs := fun x hx => (h x hx).same s
theorem AllRef.app {K : PySem.W.Frag} {H : Hp} {xs ys : List V} (h : AllRef K H xs) (h' : AllRef K H ys) : AllRef K H (xs ++ ys) := fun x hx => by
  rcases List.mem_append.mp hx with e | e
  · exact h x e
  · exact h' x e
theorem sI_len {i : Int} {k : Nat} (hk : 0 < k) (h : i.natAbs < 10 ^ k) : (sI i).length ≤ k + 1 := by
  rw [← sI_text, signs_ofString, List.length_map, String.length_toList]
  exact int_text_length_le10 hk h
theorem ws_len {p q : Int} (hp : p.natAbs < 10 ^ 260) (hq : q.natAbs < 10 ^ 260) : (ws p q).length ≤ 530 := by
  have e : (ws p q).length = (wl p q).length := by show (wl p q).toArray.size = _; rw [List.size_toArray]
  have h1 := sI_len (by decide) hp
  have h2 := sI_len (by decide) hq
  rw [e]
  unfold wl
  split
  · omega
  · rw [List.length_append, List.length_cons]; omega
theorem wl_sign {p q : Int} {c : Nat} (h : c ∈ wl p q) : c = 45 ∨ c = 47 ∨ (48 ≤ c ∧ c ≤ 57) := by
  unfold wl at h
  split at h
  · rcases sI_sign h with h | h
    · exact .inl h
    · exact .inr (.inr h)
  · rcases List.mem_append.mp h with h | h
    · rcases sI_sign h with h | h
      · exact .inl h
      · exact .inr (.inr h)
    rcases List.mem_cons.mp h with h | h
    · exact .inr (.inl h)
    · rcases sI_sign h with h | h
      · exact .inl h
      · exact .inr (.inr h)
theorem ws_sm (p q : Int) : Sm (ws p q) := fun c hc => by
  rw [ws_list] at hc
  rcases wl_sign hc with h | h | h <;> omega
/-- behind a whole form no line may stand -/
theorem bad_line {cs b : List Nat} (h : ¬ ∃ q : Int, 2 ≤ q ∧ b = sI q) : ¬ IsW (cs ++ 47 :: b) := fun w => by
  obtain ⟨p, q, h2, _, _, e⟩ := w.line
  exact h ⟨q, h2, e⟩
theorem bad_val {b : List Nat} (h : ¬ 2 ≤ valI b) : ¬ ∃ q : Int, 2 ≤ q ∧ b = sI q := fun ⟨q, h2, e⟩ => h (by rw [e, valI_sI]; exact h2)
theorem bad_in {b : List Nat} (h : 47 ∈ b) : ¬ ∃ q : Int, 2 ≤ q ∧ b = sI q := fun ⟨q, h2, e⟩ => sI_47 q (by rw [← e]; exact h)
theorem bad_eq {b : List Nat} (h : b ≠ sI (valI b)) : ¬ ∃ q : Int, 2 ≤ q ∧ b = sI q := fun ⟨q, h2, e⟩ => h (by
  have := congrArg valI e
  rw [valI_sI] at this
  rw [this]
  exact e)
theorem bad_cop {a b : List Nat} (h : ¬ Nat.gcd (valI a).natAbs (valI b).natAbs = 1) : ¬ IsW (a ++ 47 :: b) := fun w => by
  obtain ⟨p, q, h2, hc, e1, e2⟩ := w.line
  refine h ?_
  rw [e1, e2, valI_sI, valI_sI]
  exact hc
theorem bad_nil : ¬ IsW [] := fun ⟨p, q, _, _, e⟩ => wl_ne p q e.symm
theorem bad_m {r : List Nat} (h : ∀ d r', r = d :: r' → ¬ (49 ≤ d ∧ d ≤ 57)) : ¬ IsW (45 :: r) := fun w => by
  obtain ⟨d, r', e, h1, h2⟩ := w.head.2.1 rfl
  exact h d r' e ⟨h1, h2⟩
theorem bad_0 {r : List Nat} (h : r ≠ []) : ¬ IsW (48 :: r) := fun w => h (w.head.2.2 rfl)
theorem bad_47 {r : List Nat} : ¬ IsW (47 :: r) := fun w => w.head.1 rfl
theorem sm_lit {z : Str} (h : (z.cps.toList.all fun c => decide (c < 128)) = true) : Sm z := fun c hc => of_decide_eq_true (List.all_eq_true.mp h c hc)

/-! ### _law_text_of -/
def t__law_text_of (K : PySem.W.Frag) (A : Ads) (E : XK) : TS :=
    (tSeq (tIfS (tB (tCB (rIsi K) (tCons (tVar 0) (tCons (tC (.ty "tuple")) tNil)))) (tRet (tOp rAddS (tOp rAddS (tCB rStrI (tCons (tOp (rIx K) (tVar 0) (tC (.int 0))) tNil)) (tC (.str "/"))) (tCB rStrI (tCons (tOp (rIx K) (tVar 0) (tC (.int 1))) tNil)))) tNext)
    (tRet (tCB rStrI (tCons (tVar 0) tNil))))
def n__law_text_of : List Str := ["_law_value_here"]
def sp__law_text_of (K : PySem.W.Frag) (A : Ads) : Sp := fun vs H Q _ => ∃ (x : V) (p q : Int), vs = [x] ∧ NumAt H x p q ∧ p.natAbs < 10 ^ 570 ∧ q.natAbs < 10 ^ 570 ∧ Q (.str (ws p q)) H
theorem len__law_text_of {K : PySem.W.Frag} {A : Ads} {vs : List V} {H : Hp} {Q : VK} {E : XK} (h : sp__law_text_of K A vs H Q E) : vs.length = 1 := by
  obtain ⟨x, p, q, rfl, _⟩ := h
  rfl
theorem pure__law_text_of {K : PySem.W.Frag} {A : Ads} {vs : List V} {H : Hp} {Q : VK} {E : XK} (h : sp__law_text_of K A vs H Q E) : t__law_text_of K A E { nx := fun _ H' => Q .non H', rt := Q } (start n__law_text_of vs) H := by
  obtain ⟨x, p, q, rfl, hx, hp, hq, k⟩ := h
  have l1 := text_len hp
  have l2 := text_len hq
  walk_at "v"
  rcases hx with ⟨rfl, rfl⟩ | ⟨a, rfl, ha, h2, hc⟩
  · refine ⟨_, _, _, _, _, rfl, .ty _, ty_int, kit_ty (by decide +kernel : kitB "int" "tuple" = some false), ?_⟩
    refine ⟨_, rfl, ?_⟩
    refine iteF ?_
    walk_at "v"
    refine ⟨p, rfl, log_of hp, ?_⟩
    have e : (Str.ofString (toString p)) = ws p 1 := str_ext (by rw [sI_text, ws_list]; unfold wl; rw [if_pos rfl])
    show Q (.str (Str.ofString (toString p))) H
    rw [e]
    exact k
  · refine ⟨_, _, _, _, _, rfl, .ty _, ty_tup ha, kit_ty (by decide +kernel : kitB "tuple" "tuple" = some true), ?_⟩
    refine ⟨_, rfl, ?_⟩
    refine iteT ?_
    walk_at "v"
    refine Or.inr (Or.inl ⟨_, _, _, .int p, rfl, rfl, SqT.of ha, rfl, ?_⟩)
    refine ⟨p, rfl, log_of hp, ?_⟩
    refine ⟨_, _, rfl, rfl, sz_1200 (by show (Str.ofString (toString p)).length + 1 ≤ 1200; omega), ?_⟩
    walk_at "v"
    refine Or.inr (Or.inl ⟨_, _, _, .int q, rfl, rfl, SqT.of ha, rfl, ?_⟩)
    refine ⟨q, rfl, log_of hq, ?_⟩
    refine ⟨_, _, rfl, rfl, sz_1200 (by rw [app_len]; show (Str.ofString (toString p)).length + 1 + (Str.ofString (toString q)).length ≤ 1200; omega), ?_⟩
    have e : (Str.ofString (toString p)) ++ ("/" : Str) ++ (Str.ofString (toString q)) = ws p q := str_ext (by
      rw [app_list, app_list, sI_text, sI_text, ws_list]
      unfold wl
      rw [if_neg (by omega)]
      show sI p ++ [47] ++ sI q = _
      simp)
    show Q (.str ((Str.ofString (toString p)) ++ ("/" : Str) ++ (Str.ofString (toString q)))) H
    rw [e]
    exact k
/-! ### _law_is_refused -/
def tb__law_is_refused (K : PySem.W.Frag) (A : Ads) (W : WX) : TS := (tDrop (tCallSD (sp_read_number K A) [] (WE W) (tCons (tVar 0) tNil)))
def ts__law_is_refused (K : PySem.W.Frag) (A : Ads) (a : Addr) (cls : Value) (d : Option Addr) : TS := (tRet (tOp rEq (tCB (rRepr K) (tCons (tXf a cls d A.cBadNumber "thing" (tVar 1)) tNil)) (tCB (rRepr K) (tCons (tVar 0) tNil))))
def t__law_is_refused (K : PySem.W.Frag) (A : Ads) (E : XK) : TS :=
    (tSeq (fun D σ H => tb__law_is_refused K A (wAs K (.ref A.cBadNumber) 1 (ts__law_is_refused K A) (fun _ _ _ _ => False) D) D σ H)
    (tRet (tC (.bl false))))
def n__law_is_refused : List Str := ["_law_thing", "e"]
def sp__law_is_refused (K : PySem.W.Frag) (A : Ads) : Sp := fun vs H Q _ => ∃ x : V, vs = [x] ∧ RefAt K H x ∧ ∀ H', Same H H' → Q (.bl true) H'
theorem len__law_is_refused {K : PySem.W.Frag} {A : Ads} {vs : List V} {H : Hp} {Q : VK} {E : XK} (h : sp__law_is_refused K A vs H Q E) : vs.length = 1 := by
  obtain ⟨x, rfl, _⟩ := h
  rfl
theorem pure__law_is_refused {K : PySem.W.Frag} {A : Ads} (xm : PySem.W.exmOne K (.ref A.cBadNumber) (.ref A.cBadNumber) = some true) {vs : List V} {H : Hp} {Q : VK} {E : XK} (h : sp__law_is_refused K A vs H Q E) :
    t__law_is_refused K A E { nx := fun _ H' => Q .non H', rt := Q } (start n__law_is_refused vs) H := by
  obtain ⟨x, rfl, ⟨d, hd, sd, hb⟩, k⟩ := h
  walk_at "v"
  refine ⟨x, rfl, .inr ⟨hb, fun dd H' s hx => ?_⟩⟩
  refine ⟨true, xm, fun _ e he => ?_, fun q => Bool.noConfusion q⟩
  have hd' := Dp.same s hd
  walk_at "v"
  refine ⟨rfl, rfl, dd, _, _, rfl, hx, rfl, ?_⟩
  refine ⟨x, d, rfl, hd', sd.sh, sd.sw, sd.nd, sd.sz, ?_⟩
  walk_at "v"
  refine ⟨x, d, rfl, hd', sd.sh, sd.sw, sd.nd, sd.sz, ?_⟩
  refine ⟨rfl, ?_⟩
  have e : decide (V.str d.shown = V.str d.shown) = true := decide_eq_true rfl
  rw [e]
  exact k H' s

/-! ### _law_wrong -/
theorem ref_num {K : PySem.W.Frag} {H : Hp} {x : V} {p q : Int} (h : NumAt H x p q) (hp : p.natAbs < 10 ^ 260) (hq : q.natAbs < 10 ^ 260) : RefAt K H x := by
  have l1 : p.natAbs.log2 < 1920 := pow_lt (Nat.lt_of_lt_of_le hp (by decide)) (by decide)
  have l2 : q.natAbs.log2 < 1920 := pow_lt (Nat.lt_of_lt_of_le hq (by decide)) (by decide)
  have e1 : ∀ i : Int, i.natAbs < 10 ^ 260 → (Str.ofString (toString i)).length ≤ 261 := fun i hi => by
    have e : (Str.ofString (toString i)).cps.toList.length = (Str.ofString (toString i)).length := Array.length_toList
    rw [← e, sI_text]
    exact sI_len (by decide) hi
  rcases h with ⟨rfl, rfl⟩ | ⟨a, rfl, ha, h2, hc⟩
  · refine ⟨_, .int p, ⟨?_, decide_eq_true l1, rfl, ?_⟩, .inl ⟨_, ty_int, by decide⟩⟩
    · unfold SeqAt.shaped
      simp [PyData.canLay0, PyData.depth]
    · have := e1 p hp
      show (Str.ofString (toString p)).length ≤ sizeLine
      exact sz_1200 (by omega)
  · refine ⟨_, .tup (SqT.of ha) (.cons (.int p) (.cons (.int q) .nil)), ⟨?_, ?_, ?_, ?_⟩, .inl ⟨_, ty_tup ha, by decide⟩⟩
    · unfold SeqAt.shaped
      simp [PyData.canLay0, PyData.canLayAll0, PyData.depth, PyData.depthAll]
    · simp [PyData.showable, PyData.showableAll, l1, l2]
    · simp [PyData.hasDict, PyData.hasDictAll]
    · have h1 := e1 p hp
      have h2 := e1 q hq
      have := tupleText_len_le [(Str.ofString (toString p)), (Str.ofString (toString q))]
      simp only [List.map_cons, List.map_nil, List.sum_cons, List.sum_nil, List.length_cons, List.length_nil] at this
      show (tupleText [(Str.ofString (toString p)), (Str.ofString (toString q))]).length ≤ sizeLine
      exact sz_1200 (by omega)
theorem cut_tail {z : Str} {c : Nat} {r : List Nat} (h : z.cps.toList = c :: r) : (cutS z (some 1) none).cps.toList = r := by
  show ((z.cps.toList.drop (HT.sIx z.length 0 (some ((1 : Nat) : Int)))).take (HT.sIx z.length z.length none - HT.sIx z.length 0 (some ((1 : Nat) : Int)))).toArray.toList = r
  have hl : z.cps.toList.length = z.length := Array.length_toList
  rw [List.toList_toArray, HT.sIx_nat, HT.sIx_none, h]
  rw [h, List.length_cons] at hl
  rw [show min 1 z.length = 1 by omega, List.drop_succ_cons, List.drop_zero]
  exact List.take_of_length_le (by omega)
theorem show_l1 {z : Str} (h : z.length ≤ 600) (hs : PyData.strOk z = true) : ShowD (.list [.str z]) := by
  have h2 : (reprText z).length ≤ 7000 := by
    have := StrLaws.reprText_len z fun c hc => by
      have h2 : z.cps.all (· < 0x110000) = true := hs
      rw [← Array.all_toList, List.all_eq_true] at h2
      exact Nat.lt_of_lt_of_le (of_decide_eq_true (h2 c hc)) (by decide)
    omega
  refine ⟨shaped_lst1 hs, by simp [PyData.showable, PyData.showableAll], by simp [PyData.hasDict, PyData.hasDictAll], ?_⟩
  have := listText_len_le [reprText z]
  simp only [PyData.shown, PyData.shownAll]
  simp only [List.map_cons, List.map_nil, List.sum_cons, List.sum_nil, List.length_cons, List.length_nil] at this
  exact Nat.le_trans (show _ ≤ 8000 by omega) (by decide)
theorem show_t1 {z : Str} (h : z.length ≤ 600) (hs : PyData.strOk z = true) : ShowD (.tuple [.str z]) := by
  have h2 : (reprText z).length ≤ 7000 := by
    have := StrLaws.reprText_len z fun c hc => by
      have h2 : z.cps.all (· < 0x110000) = true := hs
      rw [← Array.all_toList, List.all_eq_true] at h2
      exact Nat.lt_of_lt_of_le (of_decide_eq_true (h2 c hc)) (by decide)
    omega
  refine ⟨shaped_tupS (ns := [z]) (fun n hn => by rw [List.mem_singleton.mp hn]; exact hs), by simp [PyData.showable, PyData.showableAll], by simp [PyData.hasDict, PyData.hasDictAll], ?_⟩
  have := tupleText_len_le [reprText z]
  simp only [PyData.shown, PyData.shownAll]
  simp only [List.map_cons, List.map_nil, List.sum_cons, List.sum_nil, List.length_cons, List.length_nil] at this
  exact Nat.le_trans (show _ ≤ 8000 by omega) (by decide)
theorem tail_len (z : Str) : (cutS z (some 1) none).length ≤ z.length := cutS_length z (some 1) none
def t__law_wrong (K : PySem.W.Frag) (A : Ads) (E : XK) : TS :=
    (tSeq (tAsg (tLst (tCons (tOp rAddS (tC (.str "+")) (tVar 0)) (tCons (tOp rAddS (tVar 0) (tC (.str " "))) (tCons (tOp rAddS (tC (.str " ")) (tVar 0)) (tCons (tOp rAddS (tVar 0) (tC (.str "/1"))) (tCons (tOp rAddS (tVar 0) (tC (.str "/"))) (tCons (tOp rAddS (tC (.str "/")) (tVar 0)) (tCons (tOp rAddS (tC (.str "--")) (tVar 0)) (tCons (tOp rAddS (tVar 0) (tC (.str "//3"))) (tCons (tOp rAddS (tVar 0) (tC (.str "/-2"))) tNil)))))))))) (gName 2))
    (tSeq (tAsg (tOp rCat (tVar 2) (tLst (tCons (tOp rAddS (tC (.str "0")) (tVar 0)) (tCons (tC (.str "-0")) (tCons (tC (.str "")) (tCons (tC (.str "-")) (tCons (tC (.str "/")) (tCons (tC (.str "1/0")) (tCons (tC (.str "2/4")) (tCons (tC (.str "-6/3")) (tCons (tC (.str "0/5")) (tCons (tC (.str "00")) (tCons (tC (.str "1/02")) (tCons (tC (.str "1.5")) (tCons (tC (.str "1e3")) (tCons (tC (.str "1_0")) (tCons (tC (.str "0x1")) tNil))))))))))))))))) (gName 2))
    (tSeq (tAsg (tOp rCat (tVar 2) (tLst (tCons (tOp rAddS (tVar 0) (tC (.str "x"))) (tCons (tOp rAddS (tC (.str "x")) (tVar 0)) (tCons (tOp rAddS (tOp rAddS (tC (.str "'")) (tVar 0)) (tC (.str "'"))) (tCons (tC (.str "1 /2")) (tCons (tC (.str "- 1")) (tCons (tC (.str "1/2/3")) (tCons (tVar 1) (tCons (tC (.bl true)) (tCons (tC .non) (tCons (tLst (tCons (tVar 0) tNil)) (tCons (tTup (tCons (tVar 0) tNil)) tNil))))))))))))) (gName 2))
    (tSeq (tIfS (tTest (tOp rEq (tOp (rIx K) (tVar 0) (tC (.int 0))) (tC (.str "-")))) (tRet (tOp rCat (tVar 2) (tLst (tCons (tOp rAddS (tC (.str "-0")) (tSl rSlS (tVar 0) (tPart (tC (.int 1))) tNoPart)) (tCons (tOp rAddS (tC (.str "+")) (tSl rSlS (tVar 0) (tPart (tC (.int 1))) tNoPart)) (tCons (tOp rAddS (tC (.str "- ")) (tSl rSlS (tVar 0) (tPart (tC (.int 1))) tNoPart)) tNil)))))) tNext)
    (tRet (tOp rCat (tVar 2) (tLst (tCons (tOp rAddS (tC (.str "-0")) (tVar 0)) tNil))))))))
def n__law_wrong : List Str := ["_law_text", "_law_value_here", "_law_found"]
def sp__law_wrong (K : PySem.W.Frag) (A : Ads) : Sp := fun vs H Q _ => ∃ (x : V) (p q : Int), vs = [.str (ws p q), x] ∧ NumAt H x p q ∧ p.natAbs < 10 ^ 260 ∧ q.natAbs < 10 ^ 260 ∧ ∀ l H' xs, Same H H' → H' l = some (.lst xs) → AllRef K H' xs → Q (.ref l) H'
theorem len__law_wrong {K : PySem.W.Frag} {A : Ads} {vs : List V} {H : Hp} {Q : VK} {E : XK} (h : sp__law_wrong K A vs H Q E) : vs.length = 2 := by
  obtain ⟨x, p, q, rfl, _⟩ := h
  rfl
theorem pure__law_wrong {K : PySem.W.Frag} {A : Ads} {vs : List V} {H : Hp} {Q : VK} {E : XK} (h : sp__law_wrong K A vs H Q E) : t__law_wrong K A E { nx := fun _ H' => Q .non H', rt := Q } (start n__law_wrong vs) H := by
  obtain ⟨x, p, q, rfl, hx, hp, hq, k⟩ := h
  have wl5 := ws_len hp hq
  walk_at "v"
  refine ⟨_, _, rfl, rfl, sz_1200 (by show 1 + (ws p q).length ≤ 1200; omega), ?_⟩
  walk_at "v"
  refine ⟨_, _, rfl, rfl, sz_1200 (by show (ws p q).length + 1 ≤ 1200; omega), ?_⟩
  walk_at "v"
  refine ⟨_, _, rfl, rfl, sz_1200 (by show 1 + (ws p q).length ≤ 1200; omega), ?_⟩
  walk_at "v"
  refine ⟨_, _, rfl, rfl, sz_1200 (by show (ws p q).length + 2 ≤ 1200; omega), ?_⟩
  walk_at "v"
  refine ⟨_, _, rfl, rfl, sz_1200 (by show (ws p q).length + 1 ≤ 1200; omega), ?_⟩
  walk_at "v"
  refine ⟨_, _, rfl, rfl, sz_1200 (by show 1 + (ws p q).length ≤ 1200; omega), ?_⟩
  walk_at "v"
  refine ⟨_, _, rfl, rfl, sz_1200 (by show 2 + (ws p q).length ≤ 1200; omega), ?_⟩
  walk_at "v"
  refine ⟨_, _, rfl, rfl, sz_1200 (by show (ws p q).length + 3 ≤ 1200; omega), ?_⟩
  walk_at "v"
  refine ⟨_, _, rfl, rfl, sz_1200 (by show (ws p q).length + 3 ≤ 1200; omega), ?_⟩
  refine ⟨by show 9 ≤ sizeLine; decide, fun l1 hl1 => ?_⟩
  generalize e1 : upd _ l1 _ = H1
  have s1 : Same H H1 := by rw [← e1]; exact Same.new hl1
  have g1 : H1 l1 = some (.lst [.str (("+" : Str) ++ ws p q), .str (ws p q ++ (" " : Str)), .str ((" " : Str) ++ ws p q), .str (ws p q ++ ("/1" : Str)), .str (ws p q ++ ("/" : Str)), .str (("/" : Str) ++ ws p q), .str (("--" : Str) ++ ws p q), .str (ws p q ++ ("//3" : Str)), .str (ws p q ++ ("/-2" : Str))]) := by rw [← e1, upd_same]
  clear e1 hl1
  have A1 : AllRef K H1 [V.str (("+" : Str) ++ ws p q), V.str (ws p q ++ (" " : Str)), V.str ((" " : Str) ++ ws p q), V.str (ws p q ++ ("/1" : Str)), V.str (ws p q ++ ("/" : Str)), V.str (("/" : Str) ++ ws p q), V.str (("--" : Str) ++ ws p q), V.str (ws p q ++ ("//3" : Str)), V.str (ws p q ++ ("/-2" : Str))] := by
    intro y hy
    rcases List.mem_cons.mp hy with rfl | hy
    · exact ref_str (by rw [app_len]; show 1 + (ws p q).length ≤ 560; omega) (Sm.app (sm_lit (by decide +kernel)) (ws_sm p q)) (by rw [app_list, ws_list]; show ¬ IsW ([43] ++ wl p q); exact bad_sign 43 (List.mem_append_left _ (by decide)) (by decide))
    rcases List.mem_cons.mp hy with rfl | hy
    · exact ref_str (by rw [app_len]; show (ws p q).length + 1 ≤ 560; omega) (Sm.app (ws_sm p q) (sm_lit (by decide +kernel))) (by rw [app_list, ws_list]; show ¬ IsW (wl p q ++ [32]); exact bad_sign 32 (List.mem_append_right _ (by decide)) (by decide))
    rcases List.mem_cons.mp hy with rfl | hy
    · exact ref_str (by rw [app_len]; show 1 + (ws p q).length ≤ 560; omega) (Sm.app (sm_lit (by decide +kernel)) (ws_sm p q)) (by rw [app_list, ws_list]; show ¬ IsW ([32] ++ wl p q); exact bad_sign 32 (List.mem_append_left _ (by decide)) (by decide))
    rcases List.mem_cons.mp hy with rfl | hy
    · exact ref_str (by rw [app_len]; show (ws p q).length + 2 ≤ 560; omega) (Sm.app (ws_sm p q) (sm_lit (by decide +kernel))) (by rw [app_list, ws_list]; show ¬ IsW (wl p q ++ [47, 49]); exact bad_line (bad_val (by decide +kernel)))
    rcases List.mem_cons.mp hy with rfl | hy
    · exact ref_str (by rw [app_len]; show (ws p q).length + 1 ≤ 560; omega) (Sm.app (ws_sm p q) (sm_lit (by decide +kernel))) (by rw [app_list, ws_list]; show ¬ IsW (wl p q ++ [47]); exact bad_line (bad_val (by decide +kernel)))
    rcases List.mem_cons.mp hy with rfl | hy
    · exact ref_str (by rw [app_len]; show 1 + (ws p q).length ≤ 560; omega) (Sm.app (sm_lit (by decide +kernel)) (ws_sm p q)) (by rw [app_list, ws_list]; show ¬ IsW ([47] ++ wl p q); exact bad_47)
    rcases List.mem_cons.mp hy with rfl | hy
    · exact ref_str (by rw [app_len]; show 2 + (ws p q).length ≤ 560; omega) (Sm.app (sm_lit (by decide +kernel)) (ws_sm p q)) (by rw [app_list, ws_list]; show ¬ IsW ([45, 45] ++ wl p q); exact bad_m fun d r' e h => by cases e; omega)
    rcases List.mem_cons.mp hy with rfl | hy
    · exact ref_str (by rw [app_len]; show (ws p q).length + 3 ≤ 560; omega) (Sm.app (ws_sm p q) (sm_lit (by decide +kernel))) (by rw [app_list, ws_list]; show ¬ IsW (wl p q ++ [47, 47, 51]); exact bad_line (bad_in (by decide)))
    rcases List.mem_cons.mp hy with rfl | hy
    · exact ref_str (by rw [app_len]; show (ws p q).length + 3 ≤ 560; omega) (Sm.app (ws_sm p q) (sm_lit (by decide +kernel))) (by rw [app_list, ws_list]; show ¬ IsW (wl p q ++ [47, 45, 50]); exact bad_line (bad_val (by decide +kernel)))
    cases hy
  walk_at "v"
  walk_at "v"
  refine ⟨_, _, rfl, rfl, sz_1200 (by show 1 + (ws p q).length ≤ 1200; omega), ?_⟩
  refine ⟨by show 15 ≤ sizeLine; decide, fun l2 hl2 => ?_⟩
  generalize e1 : upd _ l2 _ = H2
  have s2 : Same H1 H2 := by rw [← e1]; exact Same.new hl2
  have g2 : H2 l2 = some (.lst [.str (("0" : Str) ++ ws p q), .str (("-0" : Str)), .str (("" : Str)), .str (("-" : Str)), .str (("/" : Str)), .str (("1/0" : Str)), .str (("2/4" : Str)), .str (("-6/3" : Str)), .str (("0/5" : Str)), .str (("00" : Str)), .str (("1/02" : Str)), .str (("1.5" : Str)), .str (("1e3" : Str)), .str (("1_0" : Str)), .str (("0x1" : Str))]) := by rw [← e1, upd_same]
  clear e1 hl2
  have A2 : AllRef K H2 [V.str (("0" : Str) ++ ws p q), V.str (("-0" : Str)), V.str (("" : Str)), V.str (("-" : Str)), V.str (("/" : Str)), V.str (("1/0" : Str)), V.str (("2/4" : Str)), V.str (("-6/3" : Str)), V.str (("0/5" : Str)), V.str (("00" : Str)), V.str (("1/02" : Str)), V.str (("1.5" : Str)), V.str (("1e3" : Str)), V.str (("1_0" : Str)), V.str (("0x1" : Str))] := by
    intro y hy
    rcases List.mem_cons.mp hy with rfl | hy
    · exact ref_str (by rw [app_len]; show 1 + (ws p q).length ≤ 560; omega) (Sm.app (sm_lit (by decide +kernel)) (ws_sm p q)) (by rw [app_list, ws_list]; show ¬ IsW ([48] ++ wl p q); exact bad_0 (wl_ne p q))
    rcases List.mem_cons.mp hy with rfl | hy
    · exact ref_str (by decide) (sm_lit (by decide +kernel)) (by show ¬ IsW [45, 48]; exact bad_m fun d r' e h => by cases e; omega)
    rcases List.mem_cons.mp hy with rfl | hy
    · exact ref_str (by decide) (sm_lit (by decide +kernel)) (by show ¬ IsW []; exact bad_nil)
    rcases List.mem_cons.mp hy with rfl | hy
    · exact ref_str (by decide) (sm_lit (by decide +kernel)) (by show ¬ IsW [45]; exact bad_m fun d r' e h => by cases e)
    rcases List.mem_cons.mp hy with rfl | hy
    · exact ref_str (by decide) (sm_lit (by decide +kernel)) (by show ¬ IsW [47]; exact bad_47)
    rcases List.mem_cons.mp hy with rfl | hy
    · exact ref_str (by decide) (sm_lit (by decide +kernel)) (by show ¬ IsW [49, 47, 48]; exact bad_line (cs := [49]) (bad_val (by decide +kernel)))
    rcases List.mem_cons.mp hy with rfl | hy
    · exact ref_str (by decide) (sm_lit (by decide +kernel)) (by show ¬ IsW [50, 47, 52]; exact bad_cop (a := [50]) (by decide +kernel))
    rcases List.mem_cons.mp hy with rfl | hy
    · exact ref_str (by decide) (sm_lit (by decide +kernel)) (by show ¬ IsW [45, 54, 47, 51]; exact bad_cop (a := [45, 54]) (by decide +kernel))
    rcases List.mem_cons.mp hy with rfl | hy
    · exact ref_str (by decide) (sm_lit (by decide +kernel)) (by show ¬ IsW [48, 47, 53]; exact bad_0 (by decide))
    rcases List.mem_cons.mp hy with rfl | hy
    · exact ref_str (by decide) (sm_lit (by decide +kernel)) (by show ¬ IsW [48, 48]; exact bad_0 (by decide))
    rcases List.mem_cons.mp hy with rfl | hy
    · exact ref_str (by decide) (sm_lit (by decide +kernel)) (by show ¬ IsW [49, 47, 48, 50]; exact bad_line (cs := [49]) (bad_eq (by decide +kernel)))
    rcases List.mem_cons.mp hy with rfl | hy
    · exact ref_str (by decide) (sm_lit (by decide +kernel)) (by show ¬ IsW [49, 46, 53]; exact bad_sign 46 (by decide) (by decide))
    rcases List.mem_cons.mp hy with rfl | hy
    · exact ref_str (by decide) (sm_lit (by decide +kernel)) (by show ¬ IsW [49, 101, 51]; exact bad_sign 101 (by decide) (by decide))
    rcases List.mem_cons.mp hy with rfl | hy
    · exact ref_str (by decide) (sm_lit (by decide +kernel)) (by show ¬ IsW [49, 95, 48]; exact bad_sign 95 (by decide) (by decide))
    rcases List.mem_cons.mp hy with rfl | hy
    · exact ref_str (by decide) (sm_lit (by decide +kernel)) (by show ¬ IsW [48, 120, 49]; exact bad_sign 120 (by decide) (by decide))
    cases hy
  refine ⟨l1, l2, _, _, rfl, rfl, s2 _ _ g1, g2, by show 24 ≤ sizeLine; decide, fun c1 hc1 => ?_⟩
  generalize e1 : upd _ c1 _ = H3
  have s3 : Same H2 H3 := by rw [← e1]; exact Same.new hc1
  have A3 := ((A1.same s2).app A2).same s3
  obtain ⟨xs3, g3, A3, n3⟩ : ∃ xs, H3 c1 = some (.lst xs) ∧ AllRef K H3 xs ∧ xs.length = 24 := ⟨_, by rw [← e1, upd_same], A3, rfl⟩
  clear e1 hc1 A1 A2 g1 g2
  walk_at "v"
  walk_at "v"
  refine ⟨_, _, rfl, rfl, sz_1200 (by show (ws p q).length + 1 ≤ 1200; omega), ?_⟩
  walk_at "v"
  refine ⟨_, _, rfl, rfl, sz_1200 (by show 1 + (ws p q).length ≤ 1200; omega), ?_⟩
  walk_at "v"
  refine ⟨_, _, rfl, rfl, sz_1200 (by show 1 + (ws p q).length ≤ 1200; omega), ?_⟩
  refine ⟨_, _, rfl, rfl, sz_1200 (by rw [app_len]; show 1 + (ws p q).length + 1 ≤ 1200; omega), ?_⟩
  walk_at "v"; walk_at "v"
  refine ⟨by show 1 ≤ sizeLine; decide, fun u1 hu1 => ?_⟩
  generalize e1 : upd _ u1 _ = H4
  have s4 : Same H3 H4 := by rw [← e1]; exact Same.new hu1
  have g4 : H4 u1 = some (.lst [.str (ws p q)]) := by rw [← e1, upd_same]
  clear e1 hu1
  walk_at "v"
  refine ⟨by show 1 ≤ sizeLine; decide, fun u2 hu2 => ?_⟩
  generalize e1 : upd _ u2 _ = H5
  have s5 : Same H4 H5 := by rw [← e1]; exact Same.new hu2
  have g5 : H5 u2 = some (.tup [.str (ws p q)]) := by rw [← e1, upd_same]
  clear e1 hu2
  refine ⟨by show 11 ≤ sizeLine; decide, fun l3 hl3 => ?_⟩
  generalize e1 : upd _ l3 _ = H6
  have s6 : Same H5 H6 := by rw [← e1]; exact Same.new hl3
  have S36 := Same.trans s4 (Same.trans s5 s6)
  have S06 := Same.trans s1 (Same.trans s2 (Same.trans s3 S36))
  have g6 : H6 l3 = some (.lst [.str (ws p q ++ ("x" : Str)), .str (("x" : Str) ++ ws p q), .str (("'" : Str) ++ ws p q ++ ("'" : Str)), .str "1 /2", .str "- 1", .str "1/2/3", x, .bl true, .non, .ref u1, .ref u2]) := by rw [← e1, upd_same]
  clear e1 hl3
  have A6 : AllRef K H6 [V.str (ws p q ++ ("x" : Str)), V.str (("x" : Str) ++ ws p q), V.str (("'" : Str) ++ ws p q ++ ("'" : Str)), V.str "1 /2", V.str "- 1", V.str "1/2/3", x, .bl true, .non, .ref u1, .ref u2] := by
    intro y hy
    rcases List.mem_cons.mp hy with rfl | hy
    · exact ref_str (by rw [app_len]; show (ws p q).length + 1 ≤ 560; omega) (Sm.app (ws_sm p q) (sm_lit (by decide +kernel))) (by rw [app_list, ws_list]; show ¬ IsW (wl p q ++ [120]); exact bad_sign 120 (List.mem_append_right _ (by decide)) (by decide))
    rcases List.mem_cons.mp hy with rfl | hy
    · exact ref_str (by rw [app_len]; show 1 + (ws p q).length ≤ 560; omega) (Sm.app (sm_lit (by decide +kernel)) (ws_sm p q)) (by rw [app_list, ws_list]; show ¬ IsW ([120] ++ wl p q); exact bad_sign 120 (List.mem_append_left _ (by decide)) (by decide))
    rcases List.mem_cons.mp hy with rfl | hy
    · exact ref_str (by rw [app_len, app_len]; show 1 + (ws p q).length + 1 ≤ 560; omega) (Sm.app (Sm.app (sm_lit (by decide +kernel)) (ws_sm p q)) (sm_lit (by decide +kernel))) (by rw [app_list, app_list]; exact bad_sign 39 (List.mem_append_right _ (by decide +kernel)) (by decide))
    rcases List.mem_cons.mp hy with rfl | hy
    · exact ref_str (by decide) (sm_lit (by decide +kernel)) (by show ¬ IsW [49, 32, 47, 50]; exact bad_sign 32 (by decide) (by decide))
    rcases List.mem_cons.mp hy with rfl | hy
    · exact ref_str (by decide) (sm_lit (by decide +kernel)) (by show ¬ IsW [45, 32, 49]; exact bad_sign 32 (by decide) (by decide))
    rcases List.mem_cons.mp hy with rfl | hy
    · exact ref_str (by decide) (sm_lit (by decide +kernel)) (by show ¬ IsW [49, 47, 50, 47, 51]; exact bad_line (cs := [49]) (bad_in (by decide)))
    rcases List.mem_cons.mp hy with rfl | hy
    · exact ref_num (hx.same S06) hp hq
    rcases List.mem_cons.mp hy with rfl | hy
    · exact ⟨_, .bl true, ⟨by decide +kernel, rfl, rfl, by decide +kernel⟩, .inl ⟨_, .base (.bl true), by decide⟩⟩
    rcases List.mem_cons.mp hy with rfl | hy
    · exact ⟨_, .non, ⟨by decide +kernel, rfl, rfl, by decide +kernel⟩, .inl ⟨_, .base .non, by decide⟩⟩
    rcases List.mem_cons.mp hy with rfl | hy
    · exact ⟨_, .lst (SqL.of ((Same.trans s5 s6) _ _ g4)) (.cons (.str _) .nil), show_l1 (by omega) (ws_sm p q).ok, .inl ⟨_, .base (.lst ((Same.trans s5 s6) _ _ g4)), by decide⟩⟩
    rcases List.mem_cons.mp hy with rfl | hy
    · exact ⟨_, .tup (SqT.of (s6 _ _ g5)) (.cons (.str _) .nil), show_t1 (by omega) (ws_sm p q).ok, .inl ⟨_, ty_tup (s6 _ _ g5), by decide⟩⟩
    cases hy
  refine ⟨c1, l3, _, _, rfl, rfl, S36 _ _ g3, g6, by show xs3.length + 11 ≤ sizeLine; rw [n3]; decide, fun c2 hc2 => ?_⟩
  generalize e1 : upd _ c2 _ = H7
  have s7 : Same H6 H7 := by rw [← e1]; exact Same.new hc2
  have S07 := Same.trans S06 s7
  obtain ⟨xs7, g7, A7, n7⟩ : ∃ xs, H7 c2 = some (.lst xs) ∧ AllRef K H7 xs ∧ xs.length = 35 := ⟨_, by rw [← e1, upd_same], ((A3.same S36).app A6).same s7, by rw [List.length_append, n3]; rfl⟩
  clear e1 hc2 A3 A6 g3 g6 g4 g5 s1 s2 s3 s4 s5 s6 s7 S36 S06 n3
  -- the first sign
  obtain ⟨c0, r0, e0⟩ : ∃ c r, wl p q = c :: r := by
    cases e : wl p q with
    | nil => exact absurd e (wl_ne p q)
    | cons c r => exact ⟨c, r, rfl⟩
  have el : (ws p q).cps.toList = c0 :: r0 := by rw [ws_list, e0]
  have tl : (cutS (ws p q) (some 1) none).cps.toList = r0 := cut_tail el
  have tlen := tail_len (ws p q)
  have tsm : Sm (cutS (ws p q) (some 1) none) := fun c hc => by
    rw [tl] at hc
    exact ws_sm p q c (by rw [el]; exact List.mem_cons_of_mem _ hc)
  walk_at "v"
  refine Or.inr (Or.inr ⟨_, _, c0, rfl, rfl, by show (ws p q).length ≤ 16777216; omega, ?_, ?_⟩)
  · obtain ⟨c, e1, e2⟩ := atI_of (xs := (ws p q).cps.toList) (d := (0 : Int)) (by decide) (by rw [el]; simp)
    rw [e1]
    rw [el] at e2
    exact e2.symm
  refine ⟨rfl, ?_⟩
  refine ⟨_, rfl, ?_⟩
  refine iteD (fun hm => ?_) (fun hm => ?_)
  · walk_at "v"
    walk_at "v"; walk_at "v"
    refine ⟨_, rfl, sz_1200 (by omega), ?_⟩
    refine ⟨_, _, rfl, rfl, sz_1200 (by show 2 + (cutS (ws p q) (some 1) none).length ≤ 1200; omega), ?_⟩
    walk_at "v"; walk_at "v"
    refine ⟨_, rfl, sz_1200 (by omega), ?_⟩
    refine ⟨_, _, rfl, rfl, sz_1200 (by show 1 + (cutS (ws p q) (some 1) none).length ≤ 1200; omega), ?_⟩
    walk_at "v"; walk_at "v"
    refine ⟨_, rfl, sz_1200 (by omega), ?_⟩
    refine ⟨_, _, rfl, rfl, sz_1200 (by show 2 + (cutS (ws p q) (some 1) none).length ≤ 1200; omega), ?_⟩
    refine ⟨by show 3 ≤ sizeLine; decide, fun l4 hl4 => ?_⟩
    generalize e1 : upd _ l4 _ = H8
    have s8 : Same H7 H8 := by rw [← e1]; exact Same.new hl4
    have g8 : H8 l4 = some (.lst [.str (("-0" : Str) ++ cutS (ws p q) (some 1) none), .str (("+" : Str) ++ cutS (ws p q) (some 1) none), .str (("- " : Str) ++ cutS (ws p q) (some 1) none)]) := by rw [← e1, upd_same]
    clear e1 hl4
    have A8 : AllRef K H8 [V.str (("-0" : Str) ++ cutS (ws p q) (some 1) none), V.str (("+" : Str) ++ cutS (ws p q) (some 1) none), V.str (("- " : Str) ++ cutS (ws p q) (some 1) none)] := by
      intro y hy
      rcases List.mem_cons.mp hy with rfl | hy
      · exact ref_str (by rw [app_len]; show 2 + (cutS (ws p q) (some 1) none).length ≤ 560; omega) (Sm.app (sm_lit (by decide +kernel)) tsm) (by rw [app_list, tl]; show ¬ IsW ([45, 48] ++ r0); exact bad_m fun d r' e h => by cases e; omega)
      rcases List.mem_cons.mp hy with rfl | hy
      · exact ref_str (by rw [app_len]; show 1 + (cutS (ws p q) (some 1) none).length ≤ 560; omega) (Sm.app (sm_lit (by decide +kernel)) tsm) (by rw [app_list, tl]; show ¬ IsW ([43] ++ r0); exact bad_sign 43 List.mem_cons_self (by decide))
      rcases List.mem_cons.mp hy with rfl | hy
      · exact ref_str (by rw [app_len]; show 2 + (cutS (ws p q) (some 1) none).length ≤ 560; omega) (Sm.app (sm_lit (by decide +kernel)) tsm) (by rw [app_list, tl]; show ¬ IsW ([45, 32] ++ r0); exact bad_sign 32 (List.mem_cons_of_mem _ List.mem_cons_self) (by decide))
      cases hy
    refine ⟨c2, l4, _, _, rfl, rfl, s8 _ _ g7, g8, by show xs7.length + 3 ≤ sizeLine; rw [n7]; decide, fun c3 hc3 => ?_⟩
    generalize e1 : upd _ c3 _ = H9
    have s9 : Same H8 H9 := by rw [← e1]; exact Same.new hc3
    exact k c3 H9 _ (Same.trans S07 (Same.trans s8 s9)) (by rw [← e1, upd_same]) (((A7.same s8).app A8).same s9)
  · walk_at "v"; walk_at "v"
    refine ⟨_, _, rfl, rfl, sz_1200 (by show 2 + (ws p q).length ≤ 1200; omega), ?_⟩
    refine ⟨by show 1 ≤ sizeLine; decide, fun l4 hl4 => ?_⟩
    generalize e1 : upd _ l4 _ = H8
    have s8 : Same H7 H8 := by rw [← e1]; exact Same.new hl4
    have g8 : H8 l4 = some (.lst [.str (("-0" : Str) ++ ws p q)]) := by rw [← e1, upd_same]
    clear e1 hl4
    have A8 : AllRef K H8 [V.str (("-0" : Str) ++ ws p q)] := by
      intro y hy
      rcases List.mem_cons.mp hy with rfl | hy
      · exact ref_str (by rw [app_len]; show 2 + (ws p q).length ≤ 560; omega) (Sm.app (sm_lit (by decide +kernel)) (ws_sm p q)) (by rw [app_list, ws_list]; show ¬ IsW ([45, 48] ++ wl p q); exact bad_m fun d r' e h => by cases e; omega)
      cases hy
    refine ⟨c2, l4, _, _, rfl, rfl, s8 _ _ g7, g8, by show xs7.length + 1 ≤ sizeLine; rw [n7]; decide, fun c3 hc3 => ?_⟩
    generalize e1 : upd _ c3 _ = H9
    have s9 : Same H8 H9 := by rw [← e1]; exact Same.new hc3
    exact k c3 H9 _ (Same.trans S07 (Same.trans s8 s9)) (by rw [← e1, upd_same]) (((A7.same s8).app A8).same s9)
end Md

set_option Elab.async false
set_option linter.all false
set_option maxRecDepth 100000
set_option maxHeartbeats 4000000
set_option exponentiation.threshold 20000
namespace Md
open PySem PySem.Spec PyProof.Rows PySem.Calls L2 PySem.NumText
local macro_rules | `(tactic| walk_at "v") => `(tactic| refine ⟨_, rfl, ?_⟩)
local macro_rules | `(tactic| walk_at "ii") => `(tactic| refine ⟨_, _, rfl, rfl, ?_⟩)
local macro_rules | `(tactic| walk_at "fls") => `(tactic| (refine ⟨_, rfl, ?_⟩; show (if (!true) = true then _ else _); refine iteF ?_))
/-- the ways of a statement meet behind it -/
theorem seq_if {c : TT} {x y b : TS} {D : Ends} {σ : L2.St} {H : Hp} (J : L2.St → Hp → Prop) (h : (∀ σ' H', J σ' H' → b D σ' H') → tIfS c x y { D with nx := fun σ' H' => b D σ' H' } σ H) (h1 : ∀ σ' H', J σ' H' → b D σ' H') : tSeq (tIfS c x y) b D σ H := h h1
theorem gName_go {i : Nat} {x : V} {σ : L2.St} {H : Hp} {D : L2.St → Hp → Prop} (h : D (σ.set i (some x)) H) : gName i x σ H D := h
theorem nx_go {f : L2.St → Hp → Prop} {r : VK} {b c : L2.St → Hp → Prop} {σ : L2.St} {H : Hp} (h : f σ H) : ({ nx := f, rt := r, bk := b, ct := c } : Ends).nx σ H := h
theorem great_ok : PySem.intText? (("1" : Str) ++ Txt.mul "0" 250) = some (10 ^ 250) := by decide +kernel
theorem great_len : (Txt.mul "0" 250).length = 250 := by decide +kernel
def t_law (K : PySem.W.Frag) (A : Ads) (E : XK) : TS :=
    (tSeq (tFor (iRng1 (tCons (tCB rMax2 (tCons (tC (.int 1)) (tCons (tCB rMin2 (tCons (tC (.int 6)) (tCons (tCB (rLen K) (tCons (tVar 0) tNil)) tNil))) tNil))) tNil)) (gName 1) (tSeq (tAsg (tCall (sp__law_bag K A) [] E0 (tCons (tVar 0) (tCons (tVar 1) tNil))) (gName 2))
    (tSeq (tAsg (tCall (sp__law_number K A) [] E0 (tCons (tVar 2) tNil)) (gName 3))
    (tSeq (tIfS (tTest (tOp rEq (tCall (sp__law_take K A) [] E0 (tCons (tVar 2) (tCons (tC (.int 4)) tNil))) (tC (.int 0)))) (tSeq (tAsg (tCB rIntS (tCons (tOp rAddS (tC (.str "1")) (tOp rMulS (tC (.str "0")) (tC (.int 250)))) tNil)) (gName 7))
    (tAsg (tOp rSub (tCall (sp__law_take K A) [] E0 (tCons (tVar 2) (tCons (tOp rAdd (tOp rMulW (tC (.int 2)) (tVar 7)) (tC (.int 1))) tNil))) (tVar 7)) (gName 3))) tNext)
    (tSeq (tAsg (tCall (sp__law_text_of K A) [] E0 (tCons (tVar 3) tNil)) (gName 4))
    (tSeq (tAsg (tCall (sp_written K A) [] E0 (tCons (tVar 3) tNil)) (gName 5))
    (tSeq (tIfS (tOr (tNot (tB (tCB (rIsi K) (tCons (tVar 5) (tCons (tC (.ty "str")) tNil))))) (tOr (tTest (tOp rNe (tVar 5) (tVar 4))) (tNot (tB (tCall (sp__law_same K A) [] E0 (tCons (tCall (sp_read_number K A) [] E0 (tCons (tVar 4) tNil)) (tCons (tVar 3) tNil))))))) (tRet (tC (.bl false))) tNext)
    (tSeq (tFor (iList K (tCall (sp__law_wrong K A) [] E0 (tCons (tVar 4) (tCons (tVar 3) tNil)))) (gName 6) (tIfS (tNot (tB (tCall (sp__law_is_refused K A) [] E0 (tCons (tVar 6) tNil)))) (tRet (tC (.bl false))) tNext))
    (tIfS (tNot (tB (tCall (sp__law_same K A) [] E0 (tCons (tCall (sp_read_number K A) [] E0 (tCons (tCall (sp_written K A) [] E0 (tCons (tVar 3) tNil)) tNil)) (tCons (tVar 3) tNil))))) (tRet (tC (.bl false))) tNext)))))))))
    (tRet (tC (.bl true))))
def n_law : List Str := ["_law_script", "_law_at", "_law_bag_here", "_law_value_here", "_law_text", "_law_told", "_law_thing", "_law_great"]
def sp_law (K : PySem.W.Frag) : Sp := fun vs H Q _ => ∃ (a : Addr) (ns : List Int), vs = [.ref a] ∧ SqL K H a (ns.map V.int) ∧ ns.length ≤ 63 ∧ ∀ H', Q (.bl true) H'
theorem len_law {K : PySem.W.Frag} {vs : List V} {H : Hp} {Q : VK} {E : XK} (h : sp_law K vs H Q E) : vs.length = 1 := by
  obtain ⟨x, p, rfl, _⟩ := h
  rfl
theorem pure_law {K : PySem.W.Frag} {A : Ads} {vs : List V} {H : Hp} {Q : VK} {E : XK} (h : sp_law K vs H Q E) : t_law K A E { nx := fun _ H' => Q .non H', rt := Q } (start n_law vs) H := by
  obtain ⟨a, ns, rfl, hS2, hn, k⟩ := h
  walk_at "v"
  refine ⟨_, _, rfl, Or.inl ⟨_, hS2, rfl⟩, ?_⟩
  refine ⟨_, _, rfl, ?_⟩
  refine ⟨_, _, rfl, ?_⟩
  have hl : (ns.map V.int).length = ns.length := List.length_map ..
  obtain ⟨m, em, hm⟩ : ∃ m : Int, m = (if (if ((ns.map V.int).length : Int) < 6 then ((ns.map V.int).length : Int) else 6) > 1 then (if ((ns.map V.int).length : Int) < 6 then ((ns.map V.int).length : Int) else 6) else 1) ∧ m ≤ 6 := ⟨_, rfl, by split <;> split <;> omega⟩
  rw [← em]
  refine ⟨m, rfl, by omega, by omega, ?_⟩
  refine for_range (lo := 0) (n := m.toNat) (fun i σ H' => SqL K H' a (ns.map V.int) ∧ ∃ v1 v2 v3 v4 v5 v6 v7, σ = [some (.ref a), v1, v2, v3, v4, v5, v6, v7]) ⟨hS2, _, _, _, _, _, _, _, rfl⟩ ?_ ?_
  rotate_left
  · rintro σ H' ⟨_, _, _, _, _, _, _, _, _, rfl⟩
    exact k H'
  rintro i σ H3 hi ⟨hS3, v1, v2, v3, v4, v5, v6, v7, rfl⟩
  walk_at "v"; walk_at "v"
  refine ⟨a, ns, 0 + i, rfl, hS3, hn, by omega, by omega, fun b H4 hb0 s4 hB => ?_⟩
  have sc : ScrN K H4 a (ns.map V.int) [b] := ((show ScrN K H3 a (ns.map V.int) [] from ⟨hS3, fun h => nomatch h⟩).new hb0).same s4
  have hB4 : Bag (2 + 3) H4 b := hB.mono (by decide)
  clear hB hS3 s4 hb0
  walk_at "v"
  refine ⟨b, 2, rfl, hB4, fun x p q H5 x5 hB5 hx hp hq => ?_⟩
  have sc5 := sc.xb x5
  clear sc hB4 x5
  refine gName_go ?_
  refine nx_go ?_
  refine seq_if (fun σ' H' => ScrN K H' a (ns.map V.int) [b] ∧ ∃ x p q w1 w7, σ' = [some (.ref a), w1, some (.ref b), some x, v4, v5, v6, w7] ∧ NumAt H' x p q ∧ p.natAbs < 10 ^ 260 ∧ q.natAbs < 10 ^ 260) (fun rest => ?_) ?_
  · walk_at "v"
    refine ⟨b, 4, 1, rfl, hB5, by decide, by decide, fun d H6 d0 d1 x6 hB6 => ?_⟩
    have sc6 := sc5.xb x6
    have hx6 := hx.xb hB5 x6
    refine ⟨rfl, ?_⟩
    refine ⟨_, rfl, ?_⟩
    refine iteD (fun h => ?_) (fun h => ?_)
    · refine ⟨_, _, rfl, rfl, by decide, by decide, by decide, ?_⟩
      refine ⟨_, _, rfl, rfl, sz_1200 (by rw [great_len]; decide), ?_⟩
      refine ⟨_, _, rfl, great_ok, ?_, ?_⟩
      · rw [app_len, great_len]; decide
      walk_at "v"
      walk_at "v"
      refine ⟨_, _, rfl, rfl, (show CMulW 2 (10 ^ 250) by unfold CMulW; decide +kernel), ?_⟩
      refine ⟨_, _, rfl, rfl, ?_⟩
      refine ⟨b, 2 * 10 ^ 250 + 1, 0, rfl, hB6, by decide, by decide +kernel, fun e H7 e0 e1 x7 hB7 => ?_⟩
      walk_at "v"
      refine ⟨_, _, rfl, rfl, ?_⟩
      refine rest _ _ ⟨sc6.xb x7, _, _, _, _, _, rfl, NumAt.int _ _, ?_, by decide⟩
      have : (10 : Int) ^ 250 < 10 ^ 260 := by decide +kernel
      have h2 : ((10 : Nat) ^ 260 : Int) = 10 ^ 260 := by norm_cast
      omega
    · refine rest _ _ ⟨sc6, _, _, _, _, _, rfl, hx6, ?_, ?_⟩
      · exact Nat.lt_of_le_of_lt hp (by decide)
      · exact Nat.lt_of_le_of_lt hq (by decide)
  rintro σ H6 ⟨sc6, y, r, s, w1, w7, rfl, hy, hr, hs⟩
  have hr' : r.natAbs < 10 ^ 570 := Nat.lt_of_lt_of_le hr (Nat.pow_le_pow_right (by decide) (by decide))
  have hs' : s.natAbs < 10 ^ 570 := Nat.lt_of_lt_of_le hs (Nat.pow_le_pow_right (by decide) (by decide))
  have wlen := ws_len hr hs
  have spos := hy.pos
  have scop := hy.cop
  walk_at "v"
  refine ⟨y, r, s, rfl, hy, hr', hs', ?_⟩
  walk_at "v"
  refine ⟨y, r, s, rfl, hy, hr', hs', fun H7 s7 => ?_⟩
  have hy7 := hy.same s7
  walk_at "v"
  refine ⟨_, _, _, _, _, rfl, .ty _, .base (.str _), kit_ty (by decide +kernel : kitB "str" "str" = some true), ?_⟩
  walk_at "fls"
  walk_at "v"; walk_at "v"
  refine ⟨rfl, ?_⟩
  refine ⟨_, rfl, ?_⟩
  refine iteN (fun _ => ?_) fun h => absurd rfl h
  walk_at "v"
  refine ⟨_, rfl, .inl ⟨r, s, rfl, by omega, scop, by omega, fun v H8 s8 hv => ?_⟩⟩
  walk_at "v"
  refine ⟨v, y, r, s, rfl, hv, hy7.same s8, fun H9 s9 => ?_⟩
  walk_at "fls"
  have S9 := Same.trans s7 (Same.trans s8 s9)
  have hy9 := hy.same S9
  have sc9 := sc6.same S9
  clear s7 s8 s9 S9 hy7 hv hy sc6
  walk_at "v"; walk_at "v"
  refine ⟨y, r, s, rfl, hy9, hr, hs, fun l Ha xs sa hxs hA => ?_⟩
  have hya := hy9.same sa
  have sca := sc9.same sa
  refine ⟨l, rfl, ⟨_, SqL.of hxs⟩, ?_⟩
  refine for_list (K := K) (a := l) (xs := xs) (fun i σ H' => Same Ha H' ∧ ∃ w1 w2 w3 w4 w5 : Option V, σ = [some (.ref a), w1, some (.ref b), some y, w2, w3, w4, w5]) ⟨Same.refl Ha, _, _, _, _, _, rfl⟩ (fun i σ H' _ z => SqL.of (z.1 _ _ hxs)) ?_ ?_
  · rintro j x σ Hb hx ⟨sb, w1, w2, w3, w4, w5, rfl⟩
    walk_at "v"
    refine ⟨x, rfl, (hA x (List.mem_of_getElem? hx)).same sb, fun Hc sc' => ?_⟩
    walk_at "fls"
    exact ⟨Same.trans sb sc', _, _, _, _, _, rfl⟩
  rintro σ Hb ⟨sb, w1, w2, w3, w4, w5, rfl⟩
  have hyb := hya.same sb
  walk_at "v"
  refine ⟨y, r, s, rfl, hyb, hr', hs', fun Hc sc' => ?_⟩
  refine ⟨_, rfl, .inl ⟨r, s, rfl, by omega, scop, by omega, fun v Hd sd hv => ?_⟩⟩
  walk_at "v"
  refine ⟨v, y, r, s, rfl, hv, (hyb.same sc').same sd, fun He se => ?_⟩
  walk_at "fls"
  exact ⟨((((sca.same sb).same sc').same sd).same se).1, _, _, _, _, _, _, _, rfl⟩
end Md

set_option Elab.async false
set_option linter.all false
set_option maxRecDepth 100000
set_option maxHeartbeats 8000000
namespace Md
open PySem PySem.Spec PyProof.Rows PySem.Calls L2
/-! ### the text of the row, def by def -/
def top (i : Nat) : Stmt := PySem.Challenge.pw_mendrounds_k03_numbers_written_and_read.main.body.getD i (.Pass ⟨0, 0, 0, 0⟩)
abbrev s_BadNumber___init__ : Stmt := inClass (top 3) 0
theorem sc_BadNumber___init__ : FnScope ["self", "thing"] ["self", "thing"] (defScope s_BadNumber___init__) := ⟨rfl, rfl, rfl, by decide +kernel, rfl, by decide +kernel, by decide +kernel⟩
abbrev s_is_whole : Stmt := top 6
theorem sc_is_whole : FnScope n_is_whole ["thing"] (defScope s_is_whole) := ⟨rfl, rfl, rfl, by decide +kernel, rfl, by decide +kernel, by decide +kernel⟩
abbrev s_is_number : Stmt := top 7
theorem sc_is_number : FnScope n_is_number ["thing"] (defScope s_is_number) := ⟨rfl, rfl, rfl, by decide +kernel, rfl, by decide +kernel, by decide +kernel⟩
abbrev s__over : Stmt := top 8
theorem sc__over : FnScope n__over ["value"] (defScope s__over) := ⟨rfl, rfl, rfl, by decide +kernel, rfl, by decide +kernel, by decide +kernel⟩
abbrev s_written : Stmt := top 9
theorem sc_written : FnScope n_written ["value"] (defScope s_written) := ⟨rfl, rfl, rfl, by decide +kernel, rfl, by decide +kernel, by decide +kernel⟩
abbrev s__is_digits : Stmt := top 10
theorem sc__is_digits : FnScope n__is_digits ["text"] (defScope s__is_digits) := ⟨rfl, rfl, rfl, by decide +kernel, rfl, by decide +kernel, by decide +kernel⟩
abbrev s_read_number : Stmt := top 11
theorem sc_read_number : FnScope n_read_number ["text"] (defScope s_read_number) := ⟨rfl, rfl, rfl, by decide +kernel, rfl, by decide +kernel, by decide +kernel⟩
abbrev s__law_bag : Stmt := top 13
theorem sc__law_bag : FnScope n__law_bag ["_law_script", "_law_at"] (defScope s__law_bag) := ⟨rfl, rfl, rfl, by decide +kernel, rfl, by decide +kernel, by decide +kernel⟩
abbrev s__law_take : Stmt := top 14
theorem sc__law_take : FnScope n__law_take ["_law_bag_here", "_law_many"] (defScope s__law_take) := ⟨rfl, rfl, rfl, by decide +kernel, rfl, by decide +kernel, by decide +kernel⟩
abbrev s__law_value : Stmt := top 15
theorem sc__law_value : FnScope n__law_value ["_law_p", "_law_q"] (defScope s__law_value) := ⟨rfl, rfl, rfl, by decide +kernel, rfl, by decide +kernel, by decide +kernel⟩
abbrev s__law_number : Stmt := top 16
theorem sc__law_number : FnScope n__law_number ["_law_bag_here"] (defScope s__law_number) := ⟨rfl, rfl, rfl, by decide +kernel, rfl, by decide +kernel, by decide +kernel⟩
abbrev s__law_is_int : Stmt := top 17
theorem sc__law_is_int : FnScope n__law_is_int ["_law_thing"] (defScope s__law_is_int) := ⟨rfl, rfl, rfl, by decide +kernel, rfl, by decide +kernel, by decide +kernel⟩
abbrev s__law_same : Stmt := top 18
theorem sc__law_same : FnScope n__law_same ["_law_actual", "_law_due"] (defScope s__law_same) := ⟨rfl, rfl, rfl, by decide +kernel, rfl, by decide +kernel, by decide +kernel⟩
abbrev s__law_text_of : Stmt := top 19
theorem sc__law_text_of : FnScope n__law_text_of ["_law_value_here"] (defScope s__law_text_of) := ⟨rfl, rfl, rfl, by decide +kernel, rfl, by decide +kernel, by decide +kernel⟩
abbrev s__law_is_refused : Stmt := top 20
theorem sc__law_is_refused : FnScope n__law_is_refused ["_law_thing"] (defScope s__law_is_refused) := ⟨rfl, rfl, rfl, by decide +kernel, rfl, by decide +kernel, by decide +kernel⟩
abbrev s__law_wrong : Stmt := top 21
theorem sc__law_wrong : FnScope ["_law_text", "_law_value_here", "_law_found"] ["_law_text", "_law_value_here"] (defScope s__law_wrong) := ⟨rfl, rfl, rfl, by decide +kernel, rfl, by decide +kernel, by decide +kernel⟩
abbrev s_law : Stmt := top 22
theorem sc_law : FnScope n_law ["_law_script"] (defScope s_law) := ⟨rfl, rfl, rfl, by decide +kernel, rfl, by decide +kernel, by decide +kernel⟩
section
variable {P : Program} {w : World} {K : PySem.W.Frag} {mg : Str → Option Value} {base : Heap} {A : Ads} {f : Addr} {fd : FuncData}
theorem ok_BadNumber___init__ (F : FunD K "__init__" "BadNumber.__init__" (defArgs s_BadNumber___init__) (defBody s_BadNumber___init__) (defScope s_BadNumber___init__) [] [] f fd) (T : OexC K A.cBadNumber) (hn : PySem.W.findIn K (.ref A.cBadNumber) "thing" = some none) : FnOk P w K mg base (L2N.CX P w) 1 f fd ["self", "thing"] (sp_BadNumber___init__ K A) := by
  refine F.ok (CX := (L2N.CX P w)) sc_BadNumber___init__ (fun vs H Q E h => len_xi h) (fun cdv A' outer s H vs Q E hr h => ⟨t_xi K "thing", ?_, pure_xi T hn h⟩)
  exact (pss_one (ps_ost (pv 0) (pv 1)))
theorem ok_is_whole (F : FunD K "is_whole" "is_whole" (defArgs s_is_whole) (defBody s_is_whole) (defScope s_is_whole) [] [] f fd) (fr_bool : mg "bool" = none) (fr_int : mg "int" = none) (fr_isinstance : mg "isinstance" = none) : FnOk P w K mg base (L2N.CX P w) 1 f fd ["thing"] (sp_is_whole K A) := by
  refine F.ok (CX := (L2N.CX P w)) sc_is_whole (fun vs H Q E h => len_is_whole h) (fun cdv A' outer s H vs Q E hr h => ⟨t_is_whole K A E, ?_, pure_is_whole h⟩)
  exact (pss_one (ps_ret (pe_and (pe_callB call_isi rfl fr_isinstance boot_isinstance (pa_cons (pv 0) (pa_cons (pe_bltn rfl fr_int boot_int rfl) pa_nil))) (pe_one (pe_not (pe_callB call_isi rfl fr_isinstance boot_isinstance (pa_cons (pv 0) (pa_cons (pe_bltn rfl fr_bool boot_bool rfl) pa_nil))))))))
theorem ok_is_number (F : FunD K "is_number" "is_number" (defArgs s_is_number) (defBody s_is_number) (defScope s_is_number) [] [] f fd) (fr_isinstance : mg "isinstance" = none) (fr_len : mg "len" = none) (fr_tuple : mg "tuple" = none) (gm_gcd : mg "gcd" = some (.builtin "math.gcd")) (c_is_whole : Cl P w K mg base 1 "is_whole" (sp_is_whole K A) []) : FnOk P w K mg base (L2N.CX P w) 2 f fd ["thing"] (sp_is_number K A) := by
  refine F.ok (CX := (L2N.CX P w)) sc_is_number (fun vs H Q E h => len_is_number h) (fun cdv A' outer s H vs Q E hr h => ⟨t_is_number K A E, ?_, pure_is_number h⟩)
  exact (pss_cons (ps_if (pt_val (pe_cl c_is_whole hr (by decide) rfl passN (pa_cons (pv 0) pa_nil))) (pss_one (ps_ret pe_bl)) pss_nil)
    (pss_cons (ps_if (PW.pt (pw_or (pt_not (pt_val (pe_callB call_isi rfl fr_isinstance boot_isinstance (pa_cons (pv 0) (pa_cons (pe_bltn rfl fr_tuple boot_tuple rfl) pa_nil))))) (pw_or1 (pt_cmpR op_ne (pe_callB call_len rfl fr_len boot_len (pa_cons (pv 0) pa_nil)) pe_int (nomark _))))) (pss_one (ps_ret pe_bl)) pss_nil)
    (pss_cons (ps_asg (pv 0) (pg_tup rfl (pgs_cons (pg_name (i := 1) sc_is_number.nd rfl (by first | exact Or.inl rfl | exact Or.inr rfl)) (pgs_cons (pg_name (i := 2) sc_is_number.nd rfl (by first | exact Or.inl rfl | exact Or.inr rfl)) pgs_nil))))
    (pss_one (ps_ret (pe_and (pe_cl c_is_whole hr (by decide) rfl passN (pa_cons (pv 1) pa_nil)) (pe_and (pe_cl c_is_whole hr (by decide) rfl passN (pa_cons (pv 2) pa_nil)) (pe_and (pe_cmpR op_ge (pv 2) pe_int (nomark _)) (pe_one (pe_cmpR op_eq (pe_callBfun cr_gcd rfl gm_gcd (pa_cons (pv 1) (pa_cons (pv 2) pa_nil))) pe_int (nomark _)))))))))))
theorem ok__over (F : FunD K "_over" "_over" (defArgs s__over) (defBody s__over) (defScope s__over) [] [] f fd) (c_is_whole : Cl P w K mg base 1 "is_whole" (sp_is_whole K A) []) : FnOk P w K mg base (L2N.CX P w) 2 f fd ["value"] (sp__over K A) := by
  refine F.ok (CX := (L2N.CX P w)) sc__over (fun vs H Q E h => len__over h) (fun cdv A' outer s H vs Q E hr h => ⟨t__over K A E, ?_, pure__over h⟩)
  exact (pss_cons (ps_if (pt_val (pe_cl c_is_whole hr (by decide) rfl passN (pa_cons (pv 0) pa_nil))) (pss_one (ps_ret (pe_tup (pa_cons (pv 0) (pa_cons pe_int pa_nil))))) pss_nil)
    (pss_one (ps_ret (pv 0))))
theorem ok_written (F : FunD K "written" "written" (defArgs s_written) (defBody s_written) (defScope s_written) [] [] f fd) (fr_str : mg "str" = none) (c__over : Cl P w K mg base 2 "_over" (sp__over K A) []) : FnOk P w K mg base (L2N.CX P w) 3 f fd ["value"] (sp_written K A) := by
  refine F.ok (CX := (L2N.CX P w)) sc_written (fun vs H Q E h => len_written h) (fun cdv A' outer s H vs Q E hr h => ⟨t_written K A E, ?_, pure_written h⟩)
  exact (pss_cons (ps_asg (pe_cl c__over hr (by decide) rfl passN (pa_cons (pv 0) pa_nil)) (pg_tup rfl (pgs_cons (pg_name (i := 1) sc_written.nd rfl (by first | exact Or.inl rfl | exact Or.inr rfl)) (pgs_cons (pg_name (i := 2) sc_written.nd rfl (by first | exact Or.inl rfl | exact Or.inr rfl)) pgs_nil))))
    (pss_one (ps_ret (pe_ifExp (pt_cmpR op_eq (pv 2) pe_int (nomark _)) (pe_callTy call_str_int rfl fr_str boot_str (pa_cons (pv 1) pa_nil)) (pe_joined (PJ.cons (pe_fmt (pv 1)) (PJ.cons pe_str (PJ.cons (pe_fmt (pv 2)) PJ.nil))))))))
theorem ok__is_digits (F : FunD K "_is_digits" "_is_digits" (defArgs s__is_digits) (defBody s__is_digits) (defScope s__is_digits) [] [] f fd) (fr_all : mg "all" = none) (gm_DIGITS : ∃ t, mg "DIGITS" = some (.str "0123456789" t)) : FnOk P w K mg base (L2N.CX P w) 1 f fd ["text"] (sp__is_digits K A) := by
  refine F.ok (CX := (L2N.CX P w)) sc__is_digits (fun vs H Q E h => len__is_digits h) (fun cdv A' outer s H vs Q E hr h => ⟨t__is_digits K A E, ?_, pure__is_digits h⟩)
  exact (pss_one (ps_ret (pe_and (pe_cmpR op_ne (pv 0) pe_str (nomark _)) (pe_one (pe_callB (cr_all rfl) rfl fr_all boot_all (pa_cons (pe_lc (own := [("sign", 1)]) (g := (gName 1)) (tt := tYes) rfl sc__is_digits.nd (pi_str (pv 0)) (blkOk_by (own := [("sign", 1)]) (N := ["text", "sign"]) (sc := defScope s__is_digits) (by decide +kernel)) (fun _ _ _ _ _ => (pg_name (i := 1) sc__is_digits.nd rfl (by first | exact Or.inl rfl | exact Or.inr rfl))) (fun _ _ _ _ _ => pts_nil) (fun _ _ _ _ _ => (pe_cmpR op_inS (pv 1) (pe_gc rfl (gStr gm_DIGITS)) (by with_unfolding_all rfl)))) pa_nil))))))
theorem ok_read_number (F : FunD K "read_number" "read_number" (defArgs s_read_number) (defBody s_read_number) (defScope s_read_number) [] [] f fd) (fr_int : mg "int" = none) (fr_isinstance : mg "isinstance" = none) (fr_str : mg "str" = none) (k_BadNumber : Kx P w K mg base 1 "BadNumber" A.cBadNumber (sp_BadNumber___init__ K A)) (c__is_digits : Cl P w K mg base 1 "_is_digits" (sp__is_digits K A) []) (c_is_number : Cl P w K mg base 2 "is_number" (sp_is_number K A) []) (c_written : Cl P w K mg base 3 "written" (sp_written K A) []) : FnOk P w K mg base (L2N.CX P w) 4 f fd ["text"] (sp_read_number K A) := by
  refine F.ok (CX := (L2N.CX P w)) sc_read_number (fun vs H Q E h => len_read_number h) (fun cdv A' outer s H vs Q E hr h => ⟨t_read_number K A E, ?_, pure_read_number h⟩)
  exact (pss_cons (ps_if (pt_not (pt_val (pe_callB call_isi rfl fr_isinstance boot_isinstance (pa_cons (pv 0) (pa_cons (pe_bltn rfl fr_str boot_str rfl) pa_nil))))) (pss_one (L2N.ps_raise rfl (L2N.takes_of rfl rfl rfl rfl) (pmk_cl k_BadNumber hr (by decide) rfl (pa_cons (pv 0) pa_nil)))) pss_nil)
    (pss_cons (ps_asg (pe_partition (pv 0) pe_str) (pg_tup rfl (pgs_cons (pg_name (i := 2) sc_read_number.nd rfl (by first | exact Or.inl rfl | exact Or.inr rfl)) (pgs_cons (pg_name (i := 3) sc_read_number.nd rfl (by first | exact Or.inl rfl | exact Or.inr rfl)) (pgs_cons (pg_name (i := 4) sc_read_number.nd rfl (by first | exact Or.inl rfl | exact Or.inr rfl)) pgs_nil)))))
    (pss_cons (ps_if (PW.pt (pw_or (pt_not (pt_val (pe_cl c__is_digits hr (by decide) rfl passN (pa_cons (pe_bm PySem.F.plainAttrs_str PySem.F.slot_str_removeprefix PySem.F.type_str_removeprefix mt_removeprefix (pv 2) (pa_cons pe_str pa_nil)) pa_nil)))) (pw_or1 (PW.pt (pw_and (pt_cmpR op_ne (pv 3) pe_str (nomark _)) (pw_and1 (pt_not (pt_val (pe_cl c__is_digits hr (by decide) rfl passN (pa_cons (pv 4) pa_nil)))))))))) (pss_one (L2N.ps_raise rfl (L2N.takes_of rfl rfl rfl rfl) (pmk_cl k_BadNumber hr (by decide) rfl (pa_cons (pv 0) pa_nil)))) pss_nil)
    (pss_cons (ps_set (i := 1) sc_read_number.nd rfl (by first | exact Or.inl rfl | exact Or.inr rfl) (pe_ifExp (pt_cmpR op_eq (pv 3) pe_str (nomark _)) (pe_callTy call_int_str rfl fr_int boot_int (pa_cons (pv 2) pa_nil)) (pe_tup (pa_cons (pe_callTy call_int_str rfl fr_int boot_int (pa_cons (pv 2) pa_nil)) (pa_cons (pe_callTy call_int_str rfl fr_int boot_int (pa_cons (pv 4) pa_nil)) pa_nil)))))
    (pss_cons (ps_if (PW.pt (pw_or (pt_not (pt_val (pe_cl c_is_number hr (by decide) rfl passN (pa_cons (pv 1) pa_nil)))) (pw_or1 (pt_cmpR op_ne (pe_cl c_written hr (by decide) rfl passN (pa_cons (pv 1) pa_nil)) (pv 0) (nomark _))))) (pss_one (L2N.ps_raise rfl (L2N.takes_of rfl rfl rfl rfl) (pmk_cl k_BadNumber hr (by decide) rfl (pa_cons (pv 0) pa_nil)))) pss_nil)
    (pss_one (ps_ret (pv 1))))))))
theorem ok__law_bag (F : FunD K "_law_bag" "_law_bag" (defArgs s__law_bag) (defBody s__law_bag) (defScope s__law_bag) [] [] f fd) (fr_abs : mg "abs" = none) (fr_int : mg "int" = none) (fr_len : mg "len" = none) : FnOk P w K mg base (L2N.CX P w) 1 f fd ["_law_script", "_law_at"] (sp__law_bag K A) := by
  refine F.ok (CX := (L2N.CX P w)) sc__law_bag (fun vs H Q E h => len__law_bag h) (fun cdv A' outer s H vs Q E hr h => ⟨t__law_bag K A E, ?_, pure__law_bag h⟩)
  exact (pss_cons (ps_set (i := 2) sc__law_bag.nd rfl (by first | exact Or.inl rfl | exact Or.inr rfl) (pe_ifExp (pt_cmpR op_lt (pv 1) (pe_callB call_len rfl fr_len boot_len (pa_cons (pv 0) pa_nil)) (nomark _)) (pe_ix ix_seq (pv 0) (pv 1) (fun _ _ => rfl)) pe_int))
    (pss_cons (ps_set (i := 3) sc__law_bag.nd rfl (by first | exact Or.inl rfl | exact Or.inr rfl) (pe_ifExp (pt_cmpR op_ge (pe_callB call_abs rfl fr_abs boot_abs (pa_cons (pv 2) pa_nil)) (pe_op op_pow pe_int pe_int) (nomark _)) (pe_callB call_abs rfl fr_abs boot_abs (pa_cons (pv 2) pa_nil)) pe_int))
    (pss_one (ps_ret (pe_lst (pa_cons (pv 3) (pa_cons (pe_op op_add (pe_op op_add (pe_op op_mulW (pe_op op_mod (pe_callTy call_int1 rfl fr_int boot_int (pa_cons (pv 2) pa_nil)) pe_int) pe_int) (pe_op op_mulW pe_int (pv 1))) pe_int) (pa_cons pe_int pa_nil))))))))
theorem ok__law_take (F : FunD K "_law_take" "_law_take" (defArgs s__law_take) (defBody s__law_take) (defScope s__law_take) [] [] f fd) (fr_int : mg "int" = none) : FnOk P w K mg base (L2N.CX P w) 1 f fd ["_law_bag_here", "_law_many"] (sp__law_take K A) := by
  refine F.ok (CX := (L2N.CX P w)) sc__law_take (fun vs H Q E h => len__law_take h) (fun cdv A' outer s H vs Q E hr h => ⟨t__law_take K A E, ?_, pure__law_take h⟩)
  exact (pss_cons (ps_if (pt_cmpR op_gt (pe_ix ix_seq (pv 0) pe_int (fun _ _ => rfl)) pe_int (nomark _)) (pss_cons (ps_set (i := 3) sc__law_take.nd rfl (by first | exact Or.inl rfl | exact Or.inr rfl) (pe_op op_mod (pe_callTy call_int1 rfl fr_int boot_int (pa_cons (pe_ix ix_seq (pv 0) pe_int (fun _ _ => rfl)) pa_nil)) (pv 1)))
    (pss_cons (ps_asg (pe_op op_fdivW (pe_ix ix_seq (pv 0) pe_int (fun _ _ => rfl)) (pv 1)) (pg_sub (pv 0) pe_int set_list))
    (pss_one (ps_ret (pv 3))))) pss_nil)
    (pss_cons (ps_asg (pe_op op_add (pe_ix ix_seq (pv 0) pe_int (fun _ _ => rfl)) pe_int) (pg_sub (pv 0) pe_int set_list))
    (pss_cons (ps_set (i := 2) sc__law_take.nd rfl (by first | exact Or.inl rfl | exact Or.inr rfl) (pe_op op_mod (pe_callTy call_int1 rfl fr_int boot_int (pa_cons (pe_op op_pow (pe_op op_add (pe_ix ix_seq (pv 0) pe_int (fun _ _ => rfl)) (pe_op op_mulW pe_int (pe_ix ix_seq (pv 0) pe_int (fun _ _ => rfl)))) pe_int) pa_nil)) pe_int))
    (pss_cons (ps_set (i := 2) sc__law_take.nd rfl (by first | exact Or.inl rfl | exact Or.inr rfl) (pe_op op_mod (pe_callTy call_int1 rfl fr_int boot_int (pa_cons (pe_op op_pow (pe_op op_add (pv 2) (pe_op op_mulW pe_int (pe_ix ix_seq (pv 0) pe_int (fun _ _ => rfl)))) pe_int) pa_nil)) pe_int))
    (pss_one (ps_ret (pe_op op_mod (pe_callTy call_int1 rfl fr_int boot_int (pa_cons (pe_op op_fdivW (pv 2) pe_int) pa_nil)) (pv 1))))))))
theorem ok__law_value (F : FunD K "_law_value" "_law_value" (defArgs s__law_value) (defBody s__law_value) (defScope s__law_value) [] [] f fd) (fr_abs : mg "abs" = none) (fr_int : mg "int" = none) : FnOk P w K mg base (L2N.CX P w) 1 f fd ["_law_p", "_law_q"] (sp__law_value K A) := by
  refine F.ok (CX := (L2N.CX P w)) sc__law_value (fun vs H Q E h => len__law_value h) (fun cdv A' outer s H vs Q E hr h => ⟨t__law_value K A E, ?_, pure__law_value h⟩)
  exact (pss_cons (ps_par (i := 2) (j := 3) rfl sc__law_value.nd rfl rfl (by decide) rfl rfl (pa_cons (pe_callB call_abs rfl fr_abs boot_abs (pa_cons (pv 0) pa_nil)) (pa_cons (pv 1) pa_nil)) rfl)
    (pss_cons (ps_while (passes_of rfl) (pt_cmpR op_gt (pv 2) pe_int (nomark _)) (pss_one (ps_par (i := 2) (j := 3) rfl sc__law_value.nd rfl rfl (by decide) rfl rfl (pa_cons (pe_op op_mod (pe_callTy call_int1 rfl fr_int boot_int (pa_cons (pv 3) pa_nil)) (pv 2)) (pa_cons (pv 2) pa_nil)) rfl)))
    (pss_one (ps_ret (pe_ifExp (pt_cmpR op_eq (pv 1) (pv 3) (nomark _)) (pe_op op_fdivW (pv 0) (pv 3)) (pe_tup (pa_cons (pe_op op_fdivW (pv 0) (pv 3)) (pa_cons (pe_op op_fdivW (pv 1) (pv 3)) pa_nil))))))))
theorem ok__law_number (F : FunD K "_law_number" "_law_number" (defArgs s__law_number) (defBody s__law_number) (defScope s__law_number) [] [] f fd) (c__law_take : Cl P w K mg base 1 "_law_take" (sp__law_take K A) []) (c__law_value : Cl P w K mg base 1 "_law_value" (sp__law_value K A) []) : FnOk P w K mg base (L2N.CX P w) 2 f fd ["_law_bag_here"] (sp__law_number K A) := by
  refine F.ok (CX := (L2N.CX P w)) sc__law_number (fun vs H Q E h => len__law_number h) (fun cdv A' outer s H vs Q E hr h => ⟨t__law_number K A E, ?_, pure__law_number h⟩)
  exact (pss_cons (ps_if (pt_cmpR op_gt (pe_cl c__law_take hr (by decide) rfl passN (pa_cons (pv 0) (pa_cons pe_int pa_nil))) pe_int (nomark _)) (pss_one (ps_ret (pe_cl c__law_value hr (by decide) rfl passN (pa_cons (pe_op op_sub (pe_cl c__law_take hr (by decide) rfl passN (pa_cons (pv 0) (pa_cons pe_int pa_nil))) pe_int) (pa_cons (pe_op op_add pe_int (pe_cl c__law_take hr (by decide) rfl passN (pa_cons (pv 0) (pa_cons pe_int pa_nil)))) pa_nil))))) pss_nil)
    (pss_one (ps_ret (pe_cl c__law_value hr (by decide) rfl passN (pa_cons (pe_op op_sub (pe_cl c__law_take hr (by decide) rfl passN (pa_cons (pv 0) (pa_cons (pe_op op_add (pe_op op_mulW pe_int (pe_op op_pow pe_int pe_int)) pe_int) pa_nil))) (pe_op op_pow pe_int pe_int)) (pa_cons (pe_op op_add pe_int (pe_cl c__law_take hr (by decide) rfl passN (pa_cons (pv 0) (pa_cons (pe_op op_pow pe_int pe_int) pa_nil)))) pa_nil))))))
theorem ok__law_is_int (F : FunD K "_law_is_int" "_law_is_int" (defArgs s__law_is_int) (defBody s__law_is_int) (defScope s__law_is_int) [] [] f fd) (fr_bool : mg "bool" = none) (fr_int : mg "int" = none) (fr_isinstance : mg "isinstance" = none) : FnOk P w K mg base (L2N.CX P w) 1 f fd ["_law_thing"] (sp__law_is_int K A) := by
  refine F.ok (CX := (L2N.CX P w)) sc__law_is_int (fun vs H Q E h => len__law_is_int h) (fun cdv A' outer s H vs Q E hr h => ⟨t__law_is_int K A E, ?_, pure__law_is_int h⟩)
  exact (pss_one (ps_ret (pe_and (pe_callB call_isi rfl fr_isinstance boot_isinstance (pa_cons (pv 0) (pa_cons (pe_bltn rfl fr_int boot_int rfl) pa_nil))) (pe_one (pe_not (pe_callB call_isi rfl fr_isinstance boot_isinstance (pa_cons (pv 0) (pa_cons (pe_bltn rfl fr_bool boot_bool rfl) pa_nil))))))))
theorem ok__law_same (F : FunD K "_law_same" "_law_same" (defArgs s__law_same) (defBody s__law_same) (defScope s__law_same) [] [] f fd) (fr_isinstance : mg "isinstance" = none) (fr_len : mg "len" = none) (fr_tuple : mg "tuple" = none) (c__law_is_int : Cl P w K mg base 1 "_law_is_int" (sp__law_is_int K A) []) : FnOk P w K mg base (L2N.CX P w) 2 f fd ["_law_actual", "_law_due"] (sp__law_same K A) := by
  refine F.ok (CX := (L2N.CX P w)) sc__law_same (fun vs H Q E h => len__law_same h) (fun cdv A' outer s H vs Q E hr h => ⟨t__law_same K A E, ?_, pure__law_same h⟩)
  exact (pss_cons (ps_if (pt_not (pt_val (pe_callB call_isi rfl fr_isinstance boot_isinstance (pa_cons (pv 1) (pa_cons (pe_bltn rfl fr_tuple boot_tuple rfl) pa_nil))))) (pss_one (ps_ret (pe_and (pe_cl c__law_is_int hr (by decide) rfl passN (pa_cons (pv 0) pa_nil)) (pe_one (pe_cmpR (op_eqD hr.units) (pv 0) (pv 1) (nomark _)))))) pss_nil)
    (pss_cons (ps_if (PW.pt (pw_or (pt_not (pt_val (pe_callB call_isi rfl fr_isinstance boot_isinstance (pa_cons (pv 0) (pa_cons (pe_bltn rfl fr_tuple boot_tuple rfl) pa_nil))))) (pw_or1 (pt_cmpR op_ne (pe_callB call_len rfl fr_len boot_len (pa_cons (pv 0) pa_nil)) pe_int (nomark _))))) (pss_one (ps_ret pe_bl)) pss_nil)
    (pss_one (ps_ret (pe_and (pe_cl c__law_is_int hr (by decide) rfl passN (pa_cons (pe_ix ix_seq (pv 0) pe_int (fun _ _ => rfl)) pa_nil)) (pe_and (pe_cl c__law_is_int hr (by decide) rfl passN (pa_cons (pe_ix ix_seq (pv 0) pe_int (fun _ _ => rfl)) pa_nil)) (pe_one (pe_cmpR (op_eqD hr.units) (pv 0) (pv 1) (nomark _)))))))))
theorem ok__law_text_of (F : FunD K "_law_text_of" "_law_text_of" (defArgs s__law_text_of) (defBody s__law_text_of) (defScope s__law_text_of) [] [] f fd) (fr_isinstance : mg "isinstance" = none) (fr_str : mg "str" = none) (fr_tuple : mg "tuple" = none) : FnOk P w K mg base (L2N.CX P w) 1 f fd ["_law_value_here"] (sp__law_text_of K A) := by
  refine F.ok (CX := (L2N.CX P w)) sc__law_text_of (fun vs H Q E h => len__law_text_of h) (fun cdv A' outer s H vs Q E hr h => ⟨t__law_text_of K A E, ?_, pure__law_text_of h⟩)
  exact (pss_cons (ps_if (pt_val (pe_callB call_isi rfl fr_isinstance boot_isinstance (pa_cons (pv 0) (pa_cons (pe_bltn rfl fr_tuple boot_tuple rfl) pa_nil)))) (pss_one (ps_ret (pe_op op_add_str (pe_op op_add_str (pe_callTy call_str_int rfl fr_str boot_str (pa_cons (pe_ix ix_seq (pv 0) pe_int (fun _ _ => rfl)) pa_nil)) pe_str) (pe_callTy call_str_int rfl fr_str boot_str (pa_cons (pe_ix ix_seq (pv 0) pe_int (fun _ _ => rfl)) pa_nil))))) pss_nil)
    (pss_one (ps_ret (pe_callTy call_str_int rfl fr_str boot_str (pa_cons (pv 0) pa_nil)))))
theorem ok__law_is_refused (F : FunD K "_law_is_refused" "_law_is_refused" (defArgs s__law_is_refused) (defBody s__law_is_refused) (defScope s__law_is_refused) [] [] f fd) (fr_repr : mg "repr" = none) (gm_BadNumber : mg "BadNumber" = some (.ref A.cBadNumber)) (xf_BadNumber : XfC K A.cBadNumber) (xn_BadNumber_thing : PySem.W.findIn K (.ref A.cBadNumber) "thing" = some none) (xm_BadNumber : PySem.W.exmOne K (.ref A.cBadNumber) (.ref A.cBadNumber) = some true) (c_read_number : Cl P w K mg base 4 "read_number" (sp_read_number K A) []) : FnG P w K mg base (L2N.CX P w) 5 f fd ["_law_thing"] (sp__law_is_refused K A) := by
  refine fnG_of (CX := (L2N.CX P w)) F sc__law_is_refused (fun vs H Q E h => len__law_is_refused h) (fun cdv A' outer s H vs Q E gd hr h => ⟨t__law_is_refused K A E, ?_, pure__law_is_refused xm_BadNumber h⟩)
  exact (pss_cons (L2N.ps_try_as (i := 1) (tb := tb__law_is_refused K A) (ts := ts__law_is_refused K A) (Wout := fun _ _ _ _ => False) rfl rfl sc__law_is_refused.nd rfl rfl ⟨rfl, by decide, Or.inl gm_BadNumber⟩ takesN (fun W pn xe tk _ => by exact (pss_one (ps_expr (pe_clS c_read_number hr (by decide) rfl (fun σ => L2N.passAt tk σ) (pa_cons (pv 0) pa_nil))))) (fun a oe cls d pn hz hf => by exact (pss_one (ps_ret (pe_cmpR op_eq (pe_callB (call_repr gd (huS hr)) rfl fr_repr bootS_repr (pa_cons (pe_xf xf_BadNumber xn_BadNumber_thing hz.zc hf (pv 1)) pa_nil)) (pe_callB (call_repr gd (huS hr)) rfl fr_repr bootS_repr (pa_cons (pv 0) pa_nil)) (nomark _))))))
    (pss_one (ps_ret pe_bl)))
theorem ok__law_wrong (F : FunD K "_law_wrong" "_law_wrong" (defArgs s__law_wrong) (defBody s__law_wrong) (defScope s__law_wrong) [] [] f fd) : FnOk P w K mg base (L2N.CX P w) 1 f fd ["_law_text", "_law_value_here"] (sp__law_wrong K A) := by
  refine F.ok (CX := (L2N.CX P w)) sc__law_wrong (fun vs H Q E h => len__law_wrong h) (fun cdv A' outer s H vs Q E hr h => ⟨t__law_wrong K A E, ?_, pure__law_wrong h⟩)
  exact (pss_cons (ps_set (i := 2) sc__law_wrong.nd rfl (by first | exact Or.inl rfl | exact Or.inr rfl) (pe_lst (pa_cons (pe_op op_add_str pe_str (pv 0)) (pa_cons (pe_op op_add_str (pv 0) pe_str) (pa_cons (pe_op op_add_str pe_str (pv 0)) (pa_cons (pe_op op_add_str (pv 0) pe_str) (pa_cons (pe_op op_add_str (pv 0) pe_str) (pa_cons (pe_op op_add_str pe_str (pv 0)) (pa_cons (pe_op op_add_str pe_str (pv 0)) (pa_cons (pe_op op_add_str (pv 0) pe_str) (pa_cons (pe_op op_add_str (pv 0) pe_str) pa_nil)))))))))))
    (pss_cons (ps_set (i := 2) sc__law_wrong.nd rfl (by first | exact Or.inl rfl | exact Or.inr rfl) (pe_op op_cat (pv 2) (pe_lst (pa_cons (pe_op op_add_str pe_str (pv 0)) (pa_cons pe_str (pa_cons pe_str (pa_cons pe_str (pa_cons pe_str (pa_cons pe_str (pa_cons pe_str (pa_cons pe_str (pa_cons pe_str (pa_cons pe_str (pa_cons pe_str (pa_cons pe_str (pa_cons pe_str (pa_cons pe_str (pa_cons pe_str pa_nil))))))))))))))))))
    (pss_cons (ps_set (i := 2) sc__law_wrong.nd rfl (by first | exact Or.inl rfl | exact Or.inr rfl) (pe_op op_cat (pv 2) (pe_lst (pa_cons (pe_op op_add_str (pv 0) pe_str) (pa_cons (pe_op op_add_str pe_str (pv 0)) (pa_cons (pe_op op_add_str (pe_op op_add_str pe_str (pv 0)) pe_str) (pa_cons pe_str (pa_cons pe_str (pa_cons pe_str (pa_cons (pv 1) (pa_cons pe_bl (pa_cons pe_non (pa_cons (pe_lst (pa_cons (pv 0) pa_nil)) (pa_cons (pe_tup (pa_cons (pv 0) pa_nil)) pa_nil))))))))))))))
    (pss_cons (ps_if (pt_cmpR op_eq (pe_ix ix_seq (pv 0) pe_int (fun _ _ => rfl)) pe_str (nomark _)) (pss_one (ps_ret (pe_op op_cat (pv 2) (pe_lst (pa_cons (pe_op op_add_str pe_str (pe_slice sl_str (pv 0) (po_some pe_int) po_none)) (pa_cons (pe_op op_add_str pe_str (pe_slice sl_str (pv 0) (po_some pe_int) po_none)) (pa_cons (pe_op op_add_str pe_str (pe_slice sl_str (pv 0) (po_some pe_int) po_none)) pa_nil))))))) pss_nil)
    (pss_one (ps_ret (pe_op op_cat (pv 2) (pe_lst (pa_cons (pe_op op_add_str pe_str (pv 0)) pa_nil)))))))))
theorem ok_law (F : FunD K "law" "law" (defArgs s_law) (defBody s_law) (defScope s_law) [] [] f fd) (fr_int : mg "int" = none) (fr_isinstance : mg "isinstance" = none) (fr_len : mg "len" = none) (fr_max : mg "max" = none) (fr_min : mg "min" = none) (fr_range : mg "range" = none) (fr_str : mg "str" = none) (c__law_bag : Cl P w K mg base 1 "_law_bag" (sp__law_bag K A) []) (c__law_number : Cl P w K mg base 2 "_law_number" (sp__law_number K A) []) (c__law_take : Cl P w K mg base 1 "_law_take" (sp__law_take K A) []) (c__law_text_of : Cl P w K mg base 1 "_law_text_of" (sp__law_text_of K A) []) (c_written : Cl P w K mg base 3 "written" (sp_written K A) []) (c__law_same : Cl P w K mg base 2 "_law_same" (sp__law_same K A) []) (c_read_number : Cl P w K mg base 4 "read_number" (sp_read_number K A) []) (c__law_wrong : Cl P w K mg base 1 "_law_wrong" (sp__law_wrong K A) []) (cG__law_is_refused : ClG P w K mg base 5 "_law_is_refused" (sp__law_is_refused K A) []) : FnG P w K mg base CX0 6 f fd ["_law_script"] (sp_law K) := by
  refine fnG_of (CX := CX0) F sc_law (fun vs H Q E h => len_law h) (fun cdv A' outer s H vs Q E gd hr h => ⟨t_law K A E, ?_, pure_law h⟩)
  exact (pss_cons (ps_for (passes_of rfl) rfl (pi_range1 rfl fr_range (pa_cons (pe_callB (call_max2 rfl) rfl fr_max boot_max (pa_cons pe_int (pa_cons (pe_callB (call_min2 rfl) rfl fr_min boot_min (pa_cons pe_int (pa_cons (pe_callB call_len rfl fr_len boot_len (pa_cons (pv 0) pa_nil)) pa_nil))) pa_nil))) pa_nil)) (pg_name (i := 1) sc_law.nd rfl (by first | exact Or.inl rfl | exact Or.inr rfl)) (pss_cons (ps_set (i := 2) sc_law.nd rfl (by first | exact Or.inl rfl | exact Or.inr rfl) (pe_cl c__law_bag hr (by decide) rfl passN (pa_cons (pv 0) (pa_cons (pv 1) pa_nil))))
    (pss_cons (ps_set (i := 3) sc_law.nd rfl (by first | exact Or.inl rfl | exact Or.inr rfl) (pe_cl c__law_number hr (by decide) rfl passN (pa_cons (pv 2) pa_nil)))
    (pss_cons (ps_if (pt_cmpR op_eq (pe_cl c__law_take hr (by decide) rfl passN (pa_cons (pv 2) (pa_cons pe_int pa_nil))) pe_int (nomark _)) (pss_cons (ps_set (i := 7) sc_law.nd rfl (by first | exact Or.inl rfl | exact Or.inr rfl) (pe_callTy call_int_str rfl fr_int boot_int (pa_cons (pe_op op_add_str pe_str (pe_op op_mulS pe_str pe_int)) pa_nil)))
    (pss_one (ps_set (i := 3) sc_law.nd rfl (by first | exact Or.inl rfl | exact Or.inr rfl) (pe_op op_sub (pe_cl c__law_take hr (by decide) rfl passN (pa_cons (pv 2) (pa_cons (pe_op op_add (pe_op op_mulW pe_int (pv 7)) pe_int) pa_nil))) (pv 7))))) pss_nil)
    (pss_cons (ps_set (i := 4) sc_law.nd rfl (by first | exact Or.inl rfl | exact Or.inr rfl) (pe_cl c__law_text_of hr (by decide) rfl passN (pa_cons (pv 3) pa_nil)))
    (pss_cons (ps_set (i := 5) sc_law.nd rfl (by first | exact Or.inl rfl | exact Or.inr rfl) (pe_cl c_written hr (by decide) rfl passN (pa_cons (pv 3) pa_nil)))
    (pss_cons (ps_if (PW.pt (pw_or (pt_not (pt_val (pe_callB call_isi rfl fr_isinstance boot_isinstance (pa_cons (pv 5) (pa_cons (pe_bltn rfl fr_str boot_str rfl) pa_nil))))) (pw_or (pt_cmpR op_ne (pv 5) (pv 4) (nomark _)) (pw_or1 (pt_not (pt_val (pe_cl c__law_same hr (by decide) rfl passN (pa_cons (pe_cl c_read_number hr (by decide) rfl passN (pa_cons (pv 4) pa_nil)) (pa_cons (pv 3) pa_nil))))))))) (pss_one (ps_ret pe_bl)) pss_nil)
    (pss_cons (ps_for (passes_of rfl) rfl (pi_list (pe_cl c__law_wrong hr (by decide) rfl passN (pa_cons (pv 4) (pa_cons (pv 3) pa_nil)))) (pg_name (i := 6) sc_law.nd rfl (by first | exact Or.inl rfl | exact Or.inr rfl)) (pss_one (ps_if (pt_not (pt_val (pe_clG cG__law_is_refused gd hr (by decide) rfl passN (pa_cons (pv 6) pa_nil)))) (pss_one (ps_ret pe_bl)) pss_nil)))
    (pss_one (ps_if (pt_not (pt_val (pe_cl c__law_same hr (by decide) rfl passN (pa_cons (pe_cl c_read_number hr (by decide) rfl passN (pa_cons (pe_cl c_written hr (by decide) rfl passN (pa_cons (pv 3) pa_nil)) pa_nil)) (pa_cons (pv 3) pa_nil))))) (pss_one (ps_ret pe_bl)) pss_nil))))))))))
    (pss_one (ps_ret pe_bl)))
end
/-! ### the head: facts by names, the run -/
namespace Hd
def d_BadNumber___init__ : He.DefD := ⟨("BadNumber", some "__init__"), "__init__", "BadNumber.__init__", defArgs s_BadNumber___init__, defBody s_BadNumber___init__, defScope s_BadNumber___init__, [], []⟩
def d_is_whole : He.DefD := ⟨("is_whole", none), "is_whole", "is_whole", defArgs s_is_whole, defBody s_is_whole, defScope s_is_whole, [], []⟩
def d_is_number : He.DefD := ⟨("is_number", none), "is_number", "is_number", defArgs s_is_number, defBody s_is_number, defScope s_is_number, [], []⟩
def d__over : He.DefD := ⟨("_over", none), "_over", "_over", defArgs s__over, defBody s__over, defScope s__over, [], []⟩
def d_written : He.DefD := ⟨("written", none), "written", "written", defArgs s_written, defBody s_written, defScope s_written, [], []⟩
def d__is_digits : He.DefD := ⟨("_is_digits", none), "_is_digits", "_is_digits", defArgs s__is_digits, defBody s__is_digits, defScope s__is_digits, [], []⟩
def d_read_number : He.DefD := ⟨("read_number", none), "read_number", "read_number", defArgs s_read_number, defBody s_read_number, defScope s_read_number, [], []⟩
def d__law_bag : He.DefD := ⟨("_law_bag", none), "_law_bag", "_law_bag", defArgs s__law_bag, defBody s__law_bag, defScope s__law_bag, [], []⟩
def d__law_take : He.DefD := ⟨("_law_take", none), "_law_take", "_law_take", defArgs s__law_take, defBody s__law_take, defScope s__law_take, [], []⟩
def d__law_value : He.DefD := ⟨("_law_value", none), "_law_value", "_law_value", defArgs s__law_value, defBody s__law_value, defScope s__law_value, [], []⟩
def d__law_number : He.DefD := ⟨("_law_number", none), "_law_number", "_law_number", defArgs s__law_number, defBody s__law_number, defScope s__law_number, [], []⟩
def d__law_is_int : He.DefD := ⟨("_law_is_int", none), "_law_is_int", "_law_is_int", defArgs s__law_is_int, defBody s__law_is_int, defScope s__law_is_int, [], []⟩
def d__law_same : He.DefD := ⟨("_law_same", none), "_law_same", "_law_same", defArgs s__law_same, defBody s__law_same, defScope s__law_same, [], []⟩
def d__law_text_of : He.DefD := ⟨("_law_text_of", none), "_law_text_of", "_law_text_of", defArgs s__law_text_of, defBody s__law_text_of, defScope s__law_text_of, [], []⟩
def d__law_is_refused : He.DefD := ⟨("_law_is_refused", none), "_law_is_refused", "_law_is_refused", defArgs s__law_is_refused, defBody s__law_is_refused, defScope s__law_is_refused, [], []⟩
def d__law_wrong : He.DefD := ⟨("_law_wrong", none), "_law_wrong", "_law_wrong", defArgs s__law_wrong, defBody s__law_wrong, defScope s__law_wrong, [], []⟩
def d_law : He.DefD := ⟨("law", none), "law", "law", defArgs s_law, defBody s_law, defScope s_law, [], []⟩
def fn : List He.DefD := [d_BadNumber___init__, d_is_whole, d_is_number, d__over, d_written, d__is_digits, d_read_number, d__law_bag, d__law_take, d__law_value, d__law_number, d__law_is_int, d__law_same, d__law_text_of, d__law_is_refused, d__law_wrong, d_law]
def fa : List He.Fa := [.glo "is_whole", .glo "is_number", .glo "_over", .glo "written", .glo "_is_digits", .glo "read_number", .glo "_law_bag", .glo "_law_take", .glo "_law_value", .glo "_law_number", .glo "_law_is_int", .glo "_law_same", .glo "_law_text_of", .glo "_law_is_refused", .glo "_law_wrong", .glo "law", .glo "MendroundsError", .glo "BadNumber", .free "abs", .free "all", .free "bool", .free "int", .free "isinstance", .free "len", .free "max", .free "min", .free "range", .free "repr", .free "str", .free "tuple", .str "DIGITS" "0123456789"]
def exs : List (PySem.W.Frag → Bool) := [(fun K => He.eqO (PySem.W.nsIn K mainGlobals "gcd") (some (some (.builtin "math.gcd")))), (fun K => oexB K (He.ga K "MendroundsError")), (fun K => oexB K (He.ga K "BadNumber")), (fun K => inoB K (He.ga K "BadNumber")), (fun K => noB K (He.ga K "BadNumber") "thing"), (fun K => xfB K (He.ga K "BadNumber")), (fun K => decide (PySem.W.exmOne K (.ref (He.ga K "BadNumber")) (.ref (He.ga K "BadNumber")) = some true))]
def ex (K : PySem.W.Frag) : Bool := exs.all fun b => b K
def ads (K : PySem.W.Frag) : Ads := { cMendroundsError := He.ga K "MendroundsError", cBadNumber := He.ga K "BadNumber" }
abbrev R : PySem.W.OpenRow := PySem.W.OpenLaw.row PySem.Challenge.rw_mendrounds_k03_numbers_written_and_read
abbrev hk : PySem.W.Hook := hookM 7 fa fn ex
def ob (s : PySem.W.SharedT) : He.AlD × Bool := obsM 7 fa fn ex (HandSHeadRun.getT s)
theorem ob_eq (s : PySem.W.SharedT) : ob s = hk.obs s.abs := obsM_eq (HandSHeadRun.getT_eq s)
def names0 : List PySem.Str := ["MendroundsError", "BadNumber", "DIGITS", "is_whole", "is_number", "_over", "written", "_is_digits", "read_number", "_law_bag", "_law_take", "_law_value", "_law_number", "_law_is_int", "_law_same", "_law_text_of", "_law_is_refused", "_law_wrong"]
def names : List PySem.Str := names0
theorem run (w : World) : HandSHeadRun.RunEqI R (PySem.W.view R.prog [0, 22]) hk ob 20000 names w := by
  unfold HandSHeadRun.RunEqI
  kernel_rfl
theorem facts {P : Program} {w : World} {K : PySem.W.Frag} {h : Heap} {mg : Str → Option Value} {f : Addr} (X : K.In h) (G : h.Ns mainGlobals mg) (hfa : mg ("law" : Str) = some (.ref f)) (c : He.SaysD fa fn K) (cx : ex K = true) :
    ∃ fd : FuncData, (∀ (s : Shared) (v : Value), BindsTo s fd ⟨[v], []⟩ [("_law_script", v)]) ∧ ∀ base : Heap, K.In base → base.Ns mainGlobals mg → FnG P w K mg base CX0 6 f fd ["_law_script"] (sp_law K) := by
  have ce : ∀ (i : Nat) (b : PySem.W.Frag → Bool), exs[i]? = some b → b K = true := fun i b e => List.all_eq_true.mp cx b (List.mem_of_getElem? e)
  have e_gm_gcd : (He.eqO (PySem.W.nsIn K mainGlobals "gcd") (some (some (.builtin "math.gcd")))) = true := ce 0 _ rfl
  have e_oex_MendroundsError : (oexB K (He.ga K "MendroundsError")) = true := ce 1 _ rfl
  have e_oex_BadNumber : (oexB K (He.ga K "BadNumber")) = true := ce 2 _ rfl
  have e_ino_BadNumber : (inoB K (He.ga K "BadNumber")) = true := ce 3 _ rfl
  have e_no_BadNumber_thing : (noB K (He.ga K "BadNumber") "thing") = true := ce 4 _ rfl
  have e_xf_BadNumber : (xfB K (He.ga K "BadNumber")) = true := ce 5 _ rfl
  have e_xm_BadNumber : (decide (PySem.W.exmOne K (.ref (He.ga K "BadNumber")) (.ref (He.ga K "BadNumber")) = some true)) = true := ce 6 _ rfl
  obtain ⟨fd_BadNumber___init__, F_BadNumber___init__⟩ := c.def_ 0 (d := d_BadNumber___init__) rfl
  obtain ⟨fd_is_whole, F_is_whole⟩ := c.def_ 1 (d := d_is_whole) rfl
  obtain ⟨fd_is_number, F_is_number⟩ := c.def_ 2 (d := d_is_number) rfl
  obtain ⟨fd__over, F__over⟩ := c.def_ 3 (d := d__over) rfl
  obtain ⟨fd_written, F_written⟩ := c.def_ 4 (d := d_written) rfl
  obtain ⟨fd__is_digits, F__is_digits⟩ := c.def_ 5 (d := d__is_digits) rfl
  obtain ⟨fd_read_number, F_read_number⟩ := c.def_ 6 (d := d_read_number) rfl
  obtain ⟨fd__law_bag, F__law_bag⟩ := c.def_ 7 (d := d__law_bag) rfl
  obtain ⟨fd__law_take, F__law_take⟩ := c.def_ 8 (d := d__law_take) rfl
  obtain ⟨fd__law_value, F__law_value⟩ := c.def_ 9 (d := d__law_value) rfl
  obtain ⟨fd__law_number, F__law_number⟩ := c.def_ 10 (d := d__law_number) rfl
  obtain ⟨fd__law_is_int, F__law_is_int⟩ := c.def_ 11 (d := d__law_is_int) rfl
  obtain ⟨fd__law_same, F__law_same⟩ := c.def_ 12 (d := d__law_same) rfl
  obtain ⟨fd__law_text_of, F__law_text_of⟩ := c.def_ 13 (d := d__law_text_of) rfl
  obtain ⟨fd__law_is_refused, F__law_is_refused⟩ := c.def_ 14 (d := d__law_is_refused) rfl
  obtain ⟨fd__law_wrong, F__law_wrong⟩ := c.def_ 15 (d := d__law_wrong) rfl
  obtain ⟨fd_law, F_law⟩ := c.def_ 16 (d := d_law) rfl
  have e := hfa.symm.trans (He.glo_ok X G (c.fact 15 (f := .glo "law") rfl))
  cases e
  have fr_abs := He.free_ok X G (c.fact 18 (f := .free "abs") rfl)
  have fr_all := He.free_ok X G (c.fact 19 (f := .free "all") rfl)
  have fr_bool := He.free_ok X G (c.fact 20 (f := .free "bool") rfl)
  have fr_int := He.free_ok X G (c.fact 21 (f := .free "int") rfl)
  have fr_isinstance := He.free_ok X G (c.fact 22 (f := .free "isinstance") rfl)
  have fr_len := He.free_ok X G (c.fact 23 (f := .free "len") rfl)
  have fr_max := He.free_ok X G (c.fact 24 (f := .free "max") rfl)
  have fr_min := He.free_ok X G (c.fact 25 (f := .free "min") rfl)
  have fr_range := He.free_ok X G (c.fact 26 (f := .free "range") rfl)
  have fr_repr := He.free_ok X G (c.fact 27 (f := .free "repr") rfl)
  have fr_str := He.free_ok X G (c.fact 28 (f := .free "str") rfl)
  have fr_tuple := He.free_ok X G (c.fact 29 (f := .free "tuple") rfl)
  have gm_BadNumber : mg "BadNumber" = some (.ref (ads K).cBadNumber) := He.glo_ok X G (c.fact 17 (f := .glo "BadNumber") rfl)
  have gm_DIGITS := He.str_ok X G (c.fact 30 (f := .str "DIGITS" "0123456789") rfl)
  have gm_gcd := PySem.W.mg_of X G (He.eqO_ok e_gm_gcd)
  have xf_BadNumber := xfB_ok e_xf_BadNumber
  have xm_BadNumber := of_decide_eq_true e_xm_BadNumber
  have xn_BadNumber_thing := noB_ok e_no_BadNumber_thing
  have bL := FunD.bindsA (ps := ["_law_script"]) F_law fun _ _ _ _ _ _ us hl => match us, hl with | [_], _ => rfl
  refine ⟨fd_law, fun s v => bL s [v] rfl, fun base _ _ => ?_⟩
  have G_BadNumber___init__ := ok_BadNumber___init__ (P := P) (w := w) (mg := mg) (base := base) (A := ads K) F_BadNumber___init__ (oexB_ok e_oex_BadNumber) (noB_ok e_no_BadNumber_thing)
  have b_BadNumber___init__ : Binds K fd_BadNumber___init__ ["self", "thing"] [] := F_BadNumber___init__.bindsN fun _ _ _ _ _ _ us hl => match us, hl with | [_, _], _ => rfl
  have k_BadNumber : Kx P w K mg base 1 "BadNumber" (ads K).cBadNumber (sp_BadNumber___init__ K (ads K)) := ⟨oexB_ok e_oex_BadNumber, _, _, _, (inoB_ok e_ino_BadNumber).1, (inoB_ok e_ino_BadNumber).2, G_BadNumber___init__, b_BadNumber___init__, He.glo_ok X G (c.fact 17 (f := .glo "BadNumber") rfl)⟩
  have G_is_whole := ok_is_whole (P := P) (w := w) (mg := mg) (base := base) (A := ads K) F_is_whole fr_bool fr_int fr_isinstance
  have b_is_whole : Binds K fd_is_whole ["thing"] [] := F_is_whole.bindsN fun _ _ _ _ _ _ us hl => match us, hl with | [_], _ => rfl
  have c_is_whole := cl_of G_is_whole (He.glo_ok X G (c.fact 0 (f := .glo "is_whole") rfl)) F_is_whole.kp b_is_whole
  have G__is_digits := ok__is_digits (P := P) (w := w) (mg := mg) (base := base) (A := ads K) F__is_digits fr_all gm_DIGITS
  have b__is_digits : Binds K fd__is_digits ["text"] [] := F__is_digits.bindsN fun _ _ _ _ _ _ us hl => match us, hl with | [_], _ => rfl
  have c__is_digits := cl_of G__is_digits (He.glo_ok X G (c.fact 4 (f := .glo "_is_digits") rfl)) F__is_digits.kp b__is_digits
  have G__law_bag := ok__law_bag (P := P) (w := w) (mg := mg) (base := base) (A := ads K) F__law_bag fr_abs fr_int fr_len
  have b__law_bag : Binds K fd__law_bag ["_law_script", "_law_at"] [] := F__law_bag.bindsN fun _ _ _ _ _ _ us hl => match us, hl with | [_, _], _ => rfl
  have c__law_bag := cl_of G__law_bag (He.glo_ok X G (c.fact 6 (f := .glo "_law_bag") rfl)) F__law_bag.kp b__law_bag
  have G__law_take := ok__law_take (P := P) (w := w) (mg := mg) (base := base) (A := ads K) F__law_take fr_int
  have b__law_take : Binds K fd__law_take ["_law_bag_here", "_law_many"] [] := F__law_take.bindsN fun _ _ _ _ _ _ us hl => match us, hl with | [_, _], _ => rfl
  have c__law_take := cl_of G__law_take (He.glo_ok X G (c.fact 7 (f := .glo "_law_take") rfl)) F__law_take.kp b__law_take
  have G__law_value := ok__law_value (P := P) (w := w) (mg := mg) (base := base) (A := ads K) F__law_value fr_abs fr_int
  have b__law_value : Binds K fd__law_value ["_law_p", "_law_q"] [] := F__law_value.bindsN fun _ _ _ _ _ _ us hl => match us, hl with | [_, _], _ => rfl
  have c__law_value := cl_of G__law_value (He.glo_ok X G (c.fact 8 (f := .glo "_law_value") rfl)) F__law_value.kp b__law_value
  have G__law_is_int := ok__law_is_int (P := P) (w := w) (mg := mg) (base := base) (A := ads K) F__law_is_int fr_bool fr_int fr_isinstance
  have b__law_is_int : Binds K fd__law_is_int ["_law_thing"] [] := F__law_is_int.bindsN fun _ _ _ _ _ _ us hl => match us, hl with | [_], _ => rfl
  have c__law_is_int := cl_of G__law_is_int (He.glo_ok X G (c.fact 10 (f := .glo "_law_is_int") rfl)) F__law_is_int.kp b__law_is_int
  have G__law_text_of := ok__law_text_of (P := P) (w := w) (mg := mg) (base := base) (A := ads K) F__law_text_of fr_isinstance fr_str fr_tuple
  have b__law_text_of : Binds K fd__law_text_of ["_law_value_here"] [] := F__law_text_of.bindsN fun _ _ _ _ _ _ us hl => match us, hl with | [_], _ => rfl
  have c__law_text_of := cl_of G__law_text_of (He.glo_ok X G (c.fact 12 (f := .glo "_law_text_of") rfl)) F__law_text_of.kp b__law_text_of
  have G__law_wrong := ok__law_wrong (P := P) (w := w) (mg := mg) (base := base) (A := ads K) F__law_wrong
  have b__law_wrong : Binds K fd__law_wrong ["_law_text", "_law_value_here"] [] := F__law_wrong.bindsN fun _ _ _ _ _ _ us hl => match us, hl with | [_, _], _ => rfl
  have c__law_wrong := cl_of G__law_wrong (He.glo_ok X G (c.fact 14 (f := .glo "_law_wrong") rfl)) F__law_wrong.kp b__law_wrong
  have G_is_number := ok_is_number (P := P) (w := w) (mg := mg) (base := base) (A := ads K) F_is_number fr_isinstance fr_len fr_tuple gm_gcd c_is_whole
  have b_is_number : Binds K fd_is_number ["thing"] [] := F_is_number.bindsN fun _ _ _ _ _ _ us hl => match us, hl with | [_], _ => rfl
  have c_is_number := cl_of G_is_number (He.glo_ok X G (c.fact 1 (f := .glo "is_number") rfl)) F_is_number.kp b_is_number
  have G__over := ok__over (P := P) (w := w) (mg := mg) (base := base) (A := ads K) F__over c_is_whole
  have b__over : Binds K fd__over ["value"] [] := F__over.bindsN fun _ _ _ _ _ _ us hl => match us, hl with | [_], _ => rfl
  have c__over := cl_of G__over (He.glo_ok X G (c.fact 2 (f := .glo "_over") rfl)) F__over.kp b__over
  have G__law_number := ok__law_number (P := P) (w := w) (mg := mg) (base := base) (A := ads K) F__law_number c__law_take c__law_value
  have b__law_number : Binds K fd__law_number ["_law_bag_here"] [] := F__law_number.bindsN fun _ _ _ _ _ _ us hl => match us, hl with | [_], _ => rfl
  have c__law_number := cl_of G__law_number (He.glo_ok X G (c.fact 9 (f := .glo "_law_number") rfl)) F__law_number.kp b__law_number
  have G__law_same := ok__law_same (P := P) (w := w) (mg := mg) (base := base) (A := ads K) F__law_same fr_isinstance fr_len fr_tuple c__law_is_int
  have b__law_same : Binds K fd__law_same ["_law_actual", "_law_due"] [] := F__law_same.bindsN fun _ _ _ _ _ _ us hl => match us, hl with | [_, _], _ => rfl
  have c__law_same := cl_of G__law_same (He.glo_ok X G (c.fact 11 (f := .glo "_law_same") rfl)) F__law_same.kp b__law_same
  have G_written := ok_written (P := P) (w := w) (mg := mg) (base := base) (A := ads K) F_written fr_str c__over
  have b_written : Binds K fd_written ["value"] [] := F_written.bindsN fun _ _ _ _ _ _ us hl => match us, hl with | [_], _ => rfl
  have c_written := cl_of G_written (He.glo_ok X G (c.fact 3 (f := .glo "written") rfl)) F_written.kp b_written
  have G_read_number := ok_read_number (P := P) (w := w) (mg := mg) (base := base) (A := ads K) F_read_number fr_int fr_isinstance fr_str k_BadNumber c__is_digits c_is_number c_written
  have b_read_number : Binds K fd_read_number ["text"] [] := F_read_number.bindsN fun _ _ _ _ _ _ us hl => match us, hl with | [_], _ => rfl
  have c_read_number := cl_of G_read_number (He.glo_ok X G (c.fact 5 (f := .glo "read_number") rfl)) F_read_number.kp b_read_number
  have G__law_is_refused := ok__law_is_refused (P := P) (w := w) (mg := mg) (base := base) (A := ads K) F__law_is_refused fr_repr gm_BadNumber xf_BadNumber xn_BadNumber_thing xm_BadNumber c_read_number
  have b__law_is_refused : Binds K fd__law_is_refused ["_law_thing"] [] := F__law_is_refused.bindsN fun _ _ _ _ _ _ us hl => match us, hl with | [_], _ => rfl
  have cG__law_is_refused := clG_of G__law_is_refused (He.glo_ok X G (c.fact 13 (f := .glo "_law_is_refused") rfl)) F__law_is_refused.kp b__law_is_refused
  exact ok_law (A := ads K) F_law fr_int fr_isinstance fr_len fr_max fr_min fr_range fr_str c__law_bag c__law_number c__law_take c__law_text_of c_written c__law_same c_read_number c__law_wrong cG__law_is_refused
end Hd
end Md
open PySem PySem.W PySem.Calls PyProof.Rows
set_option maxRecDepth 100000 in
set_option maxHeartbeats 0 in
theorem PySem.Challenge.cw_mendrounds_k03_numbers_written_and_read_holds : PySem.Challenge.rw_mendrounds_k03_numbers_written_and_read.Holds := by
  w_on; o_law
  refine HandSHeadRun.head_imp (r := OpenLaw.row PySem.Challenge.rw_mendrounds_k03_numbers_written_and_read) (q := view (OpenLaw.row PySem.Challenge.rw_mendrounds_k03_numbers_written_and_read).prog [0, 22]) (H := Md.Hd.hk) (ob := Md.Hd.ob) (M := 20000) (loose := Md.Hd.names) (d := HandSHeadRun.topDef (OpenLaw.row PySem.Challenge.rw_mendrounds_k03_numbers_written_and_read).prog 22) (kwd := []) Md.Hd.ob_eq
    Md.Hd.run (by kernel_rfl) (by kernel_rfl) (by kernel_rfl) (by rfl) (by first | assumption | decide +kernel) (by decide +kernel) ⟨rfl, rfl, rfl, rfl, rfl, by decide +kernel⟩ ?hw ?hc
  case hw => w_witness2
  case hc =>
    refine Md.walk_ofG (l := PySem.Challenge.rw_mendrounds_k03_numbers_written_and_read) (n := 63) (k := 6) (x := "_law_script") (CX := L2.CX0) rfl (by decide) (by kernel_rfl) ⟨rfl, by decide, by decide⟩ ?F (fun _ _ _ _ z => z)
    intro w mg fa h Y G hmg0
    obtain ⟨K, KX, c⟩ := Y
    have hmg : mg ("law" : PySem.Str) = some (.ref fa) := by
      have e : (HandSHeadRun.topDef (OpenLaw.row PySem.Challenge.rw_mendrounds_k03_numbers_written_and_read).prog 22).name = ("law" : PySem.Str) := by kernel_rfl
      rw [← e]
      exact hmg0
    obtain ⟨fd, hb, hF⟩ := Md.Hd.facts (P := (PySem.Challenge.rw_mendrounds_k03_numbers_written_and_read).prog) (w := w) KX G hmg c.d c.more
    exact ⟨K, fd, Md.sp_law K, KX, hb, fun H a ns hl hS => ⟨a, ns, rfl, hS, hl, fun _ => rfl⟩, hF⟩
