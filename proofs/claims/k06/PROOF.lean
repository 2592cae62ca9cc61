import PyProof.Rows.All
import Wide.All
import OpenK.AllK
import Wide.FinOn
import KE.KStateDown
import Lean
import HandS.Base
import HandS.Call
import HandS.List
import HandS.Comp
import HandS.Ends
import HandS.Dict
import HandS.Iter
import HandS.Text
import HandS.More
import HandS.Words
import HandS.WordsList
import HandS.WordsDict
import HandS.Exc
import HandS.ExcOwn
import HandS.TryOnly
import HandS.WordsExc
import HandS.ExcCtx
import HandS.HotCalls
import KE.KExcIs
import HandS.Defaults
import HandS.Codes
import HandS.CallSlots
import HandS.Steps
import HandS.Style
import HandS.Wide
import HandS.WideMore
import HandS.WideBits
import HandS.IsInst
import HandS.ExcInit
import HandS.ExcField
import HandS.ExcIs
import HandS.Gcd
import HandS.FStr
import HandS.RaiseMore
import HandS.Head0
import HandS.Head1
import HandS.Head2
import HandS.Head3
import HandS.HeadEnd
import HandS.HeadHook1
import HandS.HeadHook2
import HandS.HeadHook3
import HandS.HeadHook4
import HandS.ClsMeth
import HandS.Strs
import PyProof.Rows.StrRev
import HandS.Evl
import HandS.Walk
import HandS.Deep
import PyProof.Rows.StrFit
import HandS.HeadNt
import PySem.Challenge.RW_mendrounds_k06_layouts_refused
set_option Elab.async false
set_option linter.all false
set_option maxRecDepth 100000
set_option maxHeartbeats 4000000
namespace Md
open PySem PySem.Spec PyProof.Rows PySem.Calls L2

/-! ### where the classes and tables of the program stand -/
structure Ads where
  cMendroundsError : Addr := 0
  cBadNumber : Addr := 0
  cBadLayout : Addr := 0
  cBadField : Addr := 0
  cBadValue : Addr := 0
  cBadFilling : Addr := 0
  cBadCondition : Addr := 0
  cBadCheck : Addr := 0
  cBadForm : Addr := 0
  cBadPattern : Addr := 0
  cNoFilling : Addr := 0
  cUnlike : Addr := 0
  cTooMany : Addr := 0
  cBadTelling : Addr := 0
  cBadChange : Addr := 0
  cBadBatch : Addr := 0
  cNoCheck : Addr := 0
  cNotTold : Addr := 0
  cRefused : Addr := 0
  cLocked : Addr := 0
  cUnmet : Addr := 0
  cClosed : Addr := 0
  cStarted : Addr := 0
  cLayout : Addr := 0
  cSpace : Addr := 0
  gRESERVED : Addr := 0

/-! ### readings by short names -/
abbrev rAdd : R2 := rI0 fun i j => .int (i + j)
abbrev rSub : R2 := rI0 fun i j => .int (i - j)
abbrev rMulW : R2 := rI CMulW fun i j => .int (i * j)
abbrev rMul : R2 := rI CMul fun i j => .int (i * j)
abbrev rFdvW : R2 := rI CDivW fun i j => .int (i / j)
abbrev rMod : R2 := rI (fun _ j => 0 < j) fun i j => .int (i % j)
abbrev rPow : R2 := rI CPow fun i j => .int (i ^ j.toNat)
abbrev rLt : R2 := rI0 fun i j => .bl (decide (i < j))
abbrev rLe : R2 := rI0 fun i j => .bl (decide (i ≤ j))
abbrev rGt : R2 := rI0 fun i j => .bl (decide (j < i))
abbrev rGe : R2 := rI0 fun i j => .bl (decide (j ≤ i))
abbrev rNeg : V → Hp → VK → Prop := rU fun i => .int (-i)
abbrev rAbs : List V → Hp → VK → Prop := fun xs H Q => ∃ i, xs = [.int i] ∧ Q (.int (if i < 0 then -i else i)) H
abbrev rMax2 : List V → Hp → VK → Prop := fun xs H Q => ∃ i j, xs = [.int i, .int j] ∧ Q (.int (if j > i then j else i)) H
abbrev rMin2 : List V → Hp → VK → Prop := fun xs H Q => ∃ i j, xs = [.int i, .int j] ∧ Q (.int (if j < i then j else i)) H
abbrev rInt1 : List V → Hp → VK → Prop := fun xs H Q => (∃ i, xs = [.int i] ∧ Q (.int i) H) ∨ ∃ k, xs = [.bl k] ∧ Q (.int (if k then 1 else 0)) H
abbrev rStrI : List V → Hp → VK → Prop := fun xs H Q => ∃ i : Int, xs = [.int i] ∧ i.natAbs.log2 < 1920 ∧ Q (.str (toString i)) H
abbrev rAddS : R2 := fun x y H Q => ∃ i j, x = .str i ∧ y = .str j ∧ i.length + j.length ≤ sizeLine ∧ Q (.str (i ++ j)) H
abbrev tRaise (E : XK) (t : L2.St → Hp → XK → Prop) : TS := fun _ σ H => t σ H fun cls d H' => E cls d H'
abbrev tTru (K : PySem.W.Frag) (ta : TE) : TT := fun σ H Q => ta σ H fun x H' => ∃ k, TruV K x H' k ∧ Q k H'
/-- // by any divisor but 0 -/
def CDivG (_ j : Int) : Prop := j ≠ 0 ∧ j.natAbs.log2 < 9000
abbrev rFdvG : R2 := rI CDivG fun i j => .int (i.fdiv j)
theorem op_fdivG {X : Cx} : OpR X (binaryOp .FloorDiv) rFdvG := opI fun i j _ _ _ _ _ hc q => floordiv_int hc.1 q (.inl (PyProof.noPylong_of_log2 hc.2))
theorem gStr {mg : Str → Option Value} {x z : Str} (h : ∃ t, mg x = some (.str z t)) : ∃ u, mg x = some u ∧ RelV (.str z) u := by
  obtain ⟨t, e⟩ := h
  exact ⟨_, e, t, rfl⟩
theorem gInt {mg : Str → Option Value} {x : Str} {i : Int} (h : ∃ t, mg x = some (.int i t)) : ∃ u, mg x = some u ∧ RelV (.int i) u := by
  obtain ⟨t, e⟩ := h
  exact ⟨_, e, t, rfl⟩

theorem passN {X : Cx} : Passes (L2N.CX X.prog X.w) X E0 := fun _ _ _ _ _ _ _ h => by
  obtain ⟨_, _, _, _, _, _, _, _, _, _, _, _, z⟩ := h
  exact z.elim
/-- around a body nothing is let out -/
theorem takesN {X : Cx} : L2N.Takes X (fun _ _ _ _ => False) := fun _ _ x => by
  obtain ⟨_, _, _, _, _, _, _, _, _, _, _, _, _, _, _, _, z⟩ := x
  exact z.elim
theorem mk_endN {X : Cx} {pins : List (Addr × Obj)} {σ : L2.St} {H1 H2 : Hp} {Q : XK} {hp hp2 h2 : Heap} {g1 g2 : Array GenState} {d1 d2 : Drawn} {t1 t2 : Nat} {os1 os2 : OsState} {a C d : Addr} {fs : List (Str × V)} (T : Raises X (.ref C)) (I1 : Inv X pins σ H1 ⟨hp, g1, d1, t1, os1⟩)
    (ha : hp.objs.size ≤ a) (k : ∀ b o, hp.get? b = some o → hp2.get? b = some o) (un : Un (frs X.stack) [] (upd H1 a (exo a C none)) H2 hp2 h2) (hok : HOk X.prog X.w H2 h2) (ho : os2 = os1) (hb : AllBare g2)
    (ea : H2 a = some (exo a C (some d))) (ed : H2 d = some (exd d fs)) (hd1 : H1 d = none) (q : Q (.ref C) (some d) (upd (del H2 a) d (.xd fs))) : L2N.MkP X pins σ Q (.ref a) ⟨h2, g2, d2, t2, os2⟩ := by
  obtain ⟨t0, G, J, kG, ge, hoe, na⟩ := mk_end0 (d2 := d2) (t2 := t2) I1 ha k un hok ho hb ea ed hd1
  exact ⟨a, _, _, ⟨G, g2, d2, t2, os2⟩, _, .ref C, some d, rfl, J, kG, ge, hoe, ⟨rfl, rfl, fun vs e => by cases e; rfl⟩, rfl, rfl, na, rfl, hb, T, q⟩
theorem pmk_oexN {X : Cx} {e : Expr} {es : List Expr} {ta : TA} {p pos : Pos} {CX : CXT} {x : Str} {C fI : Addr} {k : Nat} {fd : FuncData} {ps : List Str} {sp : Sp} {ds : List Value} {dvs : List V} (T : OexC X.K C) (iC : PySem.W.findIn X.K (.ref C) "__init__" = some (some (.ref fI))) (tI : PySem.W.typeIn X.K (.ref fI) = some (.type "function"))
    (F1 : FnOk X.prog X.w X.K X.mg X.base CX k fI fd ps sp) (hr : Room (k + 1) X.A) (hb : Binds X.K fd ps ds) (hd : Vals dvs ds) (hx : Passes CX X (fun _ _ _ => False)) (hg : Gl X x) (hm : X.mg x = some (.ref C)) (ha : PA X (e :: es) ta)
    (hdb : (x == ("__debug__" : Str)) = false := by decide) (he : starEach (e :: es) X.env = (false, eval e X.env) :: starEach es X.env := by rfl) (hpl : (backTo pos (starEach es X.env)).any (·.1) = false := by rfl) :
    L2N.PMk X (.Call (.Name x p) (e :: es) [] pos) (tMkO C sp dvs ta) := by
  intro pins s σ H Q I h
  obtain ⟨nm, q, N, bs, bm, sn, sub, ab, col, dd, k0, k1, k2, k3, k5, hC, hbm⟩ := T.cls
  refine wpAny_Call_Name_kw (ld_glob I hg hm ?_ hdb)
  refine PySem.W.callWith_K (h₀ := X.base) I.ok.mod.kin T.kC (thn (ha.run pos pins s σ H _ I h) fun us s1 ⟨vs, H1, I1, r1, hz, q1⟩ => ⟨I1.kIn, ?_⟩) he hpl
  show wpAny _ _ (call (.ref C) us) _ _ _
  obtain ⟨hp, g, dr, tk, os⟩ := s1
  have hsz : hp.objs.size ≤ hp.objs.size + 1 := Nat.le_succ _
  have hn : H1 (hp.objs.size + 1) = none := I1.hok.fresh hsz
  have hq := q1 (hp.objs.size + 1) hn
  have kk : ∀ b o, hp.get? b = some o → ((hp.push (PySem.W.kdv_tup us)).push (PySem.HandSPX.excO C hp.objs.size)).get? b = some o := fun b o e => Heap.get?_push_of_some _ (Heap.get?_push_of_some _ e)
  have hget : ((hp.push (PySem.W.kdv_tup us)).push (PySem.HandSPX.excO C hp.objs.size)).get? (hp.objs.size + 1) = some (PySem.HandSPX.excO C hp.objs.size) := by heap_get
  have I2 : Inv X pins σ (upd H1 (hp.objs.size + 1) (exo (hp.objs.size + 1) C none)) ⟨(hp.push (PySem.W.kdv_tup us)).push (PySem.HandSPX.excO C hp.objs.size), g, dr, tk, os⟩ :=
    I1.laid (t' := tk) (a := hp.objs.size + 1) (o := exo (hp.objs.size + 1) C none) (h' := (hp.push (PySem.W.kdv_tup us)).push (PySem.HandSPX.excO C hp.objs.size)) kk hsz (exo_ok hget)
  have r2 : Vals (V.ref (hp.objs.size + 1) :: (vs ++ dvs)) (Value.ref (hp.objs.size + 1) :: (us ++ ds)) := .cons rfl (r1.append hd)
  have hl : (Value.ref (hp.objs.size + 1) :: us ++ ds).length = ps.length := by
    have e := r2.length
    rw [F1.len _ _ _ _ hq] at e
    exact e.symm
  have hus : us.length ≤ sizeLine := by
    rw [← Paired.length r1, sizeLine_eq]
    omega
  refine wpAny_call (PySem.HandSPX.call_own F.excBase_ValueError (fun Y => PySem.HandSPX.refsVE_contains Y bm hbm) (I1.kIn _ _ hC) (PySem.W.looks_findIn I1.kIn iC) (fun self => PySem.W.bind_fn I1.kIn self tI) hus
    (codeAny_mono (F1.run _ X.stack _ _ ⟨Value.ref (hp.objs.size + 1) :: us, []⟩ (Value.ref (hp.objs.size + 1) :: (us ++ ds)) _ _ (fun _ _ _ => False) (hr.make C us []) (I2.env0.make C us []) (hb _ (Value.ref (hp.objs.size + 1) :: us) I2.kIn hl) r2 hq) fun r s' hq' => ?_))
  cases r with
  | error er => exact (hx pins σ _ _ er s' I2 hq')
  | ok fl =>
    cases fl with
    | ret u =>
      obtain ⟨v, H2, os2, bare2, un2, hok2, rv, ev, d, fs, ea, ed, hd1, q2⟩ := hq'
      subst ev
      obtain ⟨h2, g2, d2, t2, os'⟩ := s'
      exact ⟨rv, mk_endN (raises_own T.exC T.tyC) I1 hsz kk un2 hok2 os2 bare2 ea ed hd1 q2⟩
    | next => exact False.elim hq'
    | brk => exact False.elim hq'
    | cont => exact False.elim hq'

/-! ### isinstance of the error that a suite holds, whatever its dict -/
theorem kitx_excD {K : PySem.W.Frag} {x D : Addr} {ox : Obj} {od : Option Obj} (hga : PySem.W.findIn K (.ref D) "__getattribute__" = some (some (.builtin "BaseException.__getattribute__"))) (hgt : PySem.W.findIn K (.ref D) "__getattr__" = some none) (hsub : PySem.W.subIn K (.ref D) (.type "BaseException") = some true) (hdct : PySem.W.hasDictIn K D = true) (ha : PySem.W.findIn K (.ref D) "__class__" = some (some (.builtin "object.__class__")))
    (hn : PySem.W.specialIn K (.builtin "object.__class__") "__get__" = some (some (.builtin "getset_descriptor.__get__"))) (htk : PySem.W.takesIn K (.builtin "object.__class__") = some true) (hm : PySem.W.mroIn K D (.type "object") = some true) :
    PySem.W.KitX K (.ref x) (.ref D) (fun h => PySem.W.InstAt h x ox D od) where
  ty := fun _ _ _ I => I.type
  it := fun _ _ X _ => by
    obtain ⟨cdD, hcD, _⟩ := PySem.W.any_some hdct
    unfold PySem.W.clsIn at hcD
    split at hcD
    · rename_i c' d' cd' sl' ho
      intro A' Q' E' s' k q
      unfold isType loadHead
      exact wpAny_bind (wpAny_loadPart (k _ _ (X _ _ ho)) (wpAny_pure q))
    · cases hcD
  ne := fun h tp dd its n sl X htp => by
    obtain ⟨cdD, hcD, _⟩ := PySem.W.any_some hdct
    refine Bool.eq_false_iff.mpr fun q => ?_
    have e : D = tp := Value.ref.inj (beq_iff_eq.mp q)
    subst e
    unfold PySem.W.clsIn at hcD
    split at hcD
    · rename_i c' d' cd' sl' ho
      have z := (X _ _ ho).symm.trans htp
      cases z
    · cases hcD
  ca := fun X I k => PySem.W.kx_classE X I hga hgt hsub (PySem.W.findObj_dataE (by obtain ⟨cd, hc, _⟩ := PySem.W.any_some hdct; rw [hc]; rfl) ha hn htk) hm k
/-- isinstance(e, c), e the error that the suite holds -/
def rIsX (K : PySem.W.Frag) (a : Addr) (cls : Value) (d : Option Addr) : List V → Hp → VK → Prop := fun xs H Q => ∃ (D dd : Addr) (fs : List (Str × V)) (c : V) (cv : Value) (b : Bool), cls = .ref D ∧ d = some dd ∧ ExcC K D ∧ H dd = some (.xd fs) ∧ xs = [.ref a, c] ∧ ClsV c cv ∧ PySem.W.kitOne K (.ref D) cv = some b ∧ Q (.bl b) H
theorem call_isX {X : Cx} {a : Addr} {oe : Obj} {pn : List (Addr × Obj)} {cls : Value} {d : Option Addr} (hz : Zc cls d oe) (hf : ∃ vs, oe.data = .fields vs) : CallR (X.suite a ((a, oe) :: pn)) (.builtin "isinstance") (rIsX X.K a cls d) := by
  intro pins s σ H xs us Q I r h
  obtain ⟨D, dd, fs, c, cv, b, rfl, rfl, C, hdd, rfl, hcv, e, q⟩ := h
  cases r with
  | cons rx rr =>
    cases rr with
    | cons rt rr =>
      cases rr
      cases rx
      have ec := hcv.eq rt
      subst ec
      obtain ⟨hget, _⟩ := I.pin (a, oe) (List.mem_append.mpr (.inl List.mem_cons_self))
      obtain ⟨vs, hv⟩ := hf
      have hx : ObjOk X.prog X.w H s.heap dd (.xd fs) := I.hok dd _ hdd
      obtain ⟨mA, hns, hr⟩ := hx
      obtain ⟨od, ho, hl⟩ := lookIn_ns hns
      have J : PySem.W.InstAt s.heap a oe D (some od) := by
        obtain ⟨oc, od', oda, osl⟩ := oe
        obtain ⟨h1, h2⟩ := hz
        dsimp only at h1 h2 hv
        subst h1 h2 hv
        exact ⟨hget, rfl, rfl, ho⟩
      exact PySem.W.kia_one (kitx_excD C.hg C.hk C.hs C.hd C.ha C.hn C.ht C.hm) I.kIn J e (fun z => nomatch z) fun tk => ⟨.bl b, H, I.kept (t' := tk) fun _ _ z => z, rfl, q⟩
/-- what ExcC asks, as one Bool -/
def xcB (K : PySem.W.Frag) (D : Addr) : Bool := xfB K D && (decide (PySem.W.findIn K (.ref D) "__class__" = some (some (.builtin "object.__class__"))) && (decide (PySem.W.specialIn K (.builtin "object.__class__") "__get__" = some (some (.builtin "getset_descriptor.__get__"))) &&
  (decide (PySem.W.takesIn K (.builtin "object.__class__") = some true) && decide (PySem.W.mroIn K D (.type "object") = some true))))
theorem xcB_ok {K : PySem.W.Frag} {D : Addr} (h : xcB K D = true) : ExcC K D := by
  obtain ⟨h1, h⟩ := Bool.and_eq_true_iff.mp h
  obtain ⟨h2, h⟩ := Bool.and_eq_true_iff.mp h
  obtain ⟨h3, h⟩ := Bool.and_eq_true_iff.mp h
  obtain ⟨h4, h5⟩ := Bool.and_eq_true_iff.mp h
  have x := xfB_ok h1
  exact ⟨x.ga, x.gg, x.exC, x.hdC, of_decide_eq_true h2, of_decide_eq_true h3, of_decide_eq_true h4, of_decide_eq_true h5⟩
/-- what a law asks of an error class: which classes its errors are of, the clause that catches them -/
structure XcA (K : PySem.W.Frag) (D : Addr) : Prop where
  xc : ExcC K D
  me : PySem.W.exmOne K (.ref D) (.ref D) = some true

/-! ### a def as its callers see it -/
/-- the same where an error is handled -/
structure ClH (P : Program) (w : World) (K : PySem.W.Frag) (mg : Str → Option Value) (base : Heap) (k : Nat) (x : Str) (sp : Sp) : Prop where
  ex : ∃ (f : Addr) (fd : FuncData) (ps : List Str), L2H.FnH P w K mg base (L2N.CX P w) k f fd ps sp ∧ mg x = some (.ref f) ∧ PySem.W.keepIn K (.ref f) = true ∧ Binds K fd ps []
/-- as FunD.ok, where an error is handled -/
theorem funD_okH {P : Program} {w : World} {K : PySem.W.Frag} {mg : Str → Option Value} {base : Heap} {x qual : Str} {params : Arguments} {body : List Stmt} {scope : Scope} {dvs : List V} {kws : List (Str × V)} {f : Addr} {fd : FuncData} {CX : CXT} {N ps : List Str} {k : Nat} {sp : Sp} (F : FunD K x qual params body scope dvs kws f fd) (S : FnScope N ps scope) (len : ∀ vs H Q E, sp vs H Q E → vs.length = ps.length)
    (hbody : ∀ (cdv : Value) (A : Around) (outer : List Env) (s : Shared) (H : Hp) (vs : List V) (Q : VK) (E : XK) (p : Addr × Obj), L2H.Hot1 A p → L2H.RoomH k (A.deeper (envOfC qual scope s.heap.objs.size f cdv)) → sp vs H Q E →
      ∃ t, PSs (L2H.cxH CX P w K mg base N qual scope f cdv A outer s H E p) body t ∧ t { nx := fun _ H' => Q .non H', rt := Q } (L2.start N vs) H) : L2H.FnH P w K mg base CX (k + 1) f fd ps sp := by
  obtain ⟨oc, od, dV, kV, doc, pm, an, cdv, ct, osl, rfl, lk, hcd, _, _⟩ := F.ex
  exact L2H.fn_ofH lk hcd S len fun A outer s H vs Q E p hp hr hsp => hbody cdv A outer s H vs Q E p hp hr hsp
structure Cl (P : Program) (w : World) (K : PySem.W.Frag) (mg : Str → Option Value) (base : Heap) (k : Nat) (x : Str) (sp : Sp) (dvs : List V) : Prop where
  ex : ∃ (f : Addr) (fd : FuncData) (ps : List Str) (ds : List Value), FnOk P w K mg base (L2N.CX P w) k f fd ps sp ∧ mg x = some (.ref f) ∧ PySem.W.keepIn K (.ref f) = true ∧ Binds K fd ps ds ∧ Vals dvs ds
/-- a class over ValueError with an __init__ of its own, as it is raised -/
structure Kx (P : Program) (w : World) (K : PySem.W.Frag) (mg : Str → Option Value) (base : Heap) (k : Nat) (x : Str) (C : Addr) (sp : Sp) : Prop where
  T : OexC K C
  ex : ∃ (fI : Addr) (fd : FuncData) (ps : List Str), PySem.W.findIn K (.ref C) "__init__" = some (some (.ref fI)) ∧ PySem.W.typeIn K (.ref fI) = some (.type "function") ∧ FnOk P w K mg base (L2N.CX P w) k fI fd ps sp ∧ Binds K fd ps [] ∧ mg x = some (.ref C)
/-- a plain class, as it is made; a method of it -/
structure Km (P : Program) (w : World) (K : PySem.W.Frag) (mg : Str → Option Value) (base : Heap) (k : Nat) (x : Str) (C : Addr) (sp : Sp) : Prop where
  ex : ∃ (fI : Addr) (fd : FuncData) (ps : List Str), Mk K C fI ∧ FnOk P w K mg base (L2N.CX P w) k fI fd ps sp ∧ Binds K fd ps [] ∧ mg x = some (.ref C)
structure Mt (P : Program) (w : World) (K : PySem.W.Frag) (mg : Str → Option Value) (base : Heap) (k : Nat) (C : Addr) (m : Str) (sp : Sp) : Prop where
  ex : ∃ (f : Addr) (fd : FuncData) (ps : List Str), Cls K C ∧ Meth K C m f ∧ FnOk P w K mg base (L2N.CX P w) k f fd ps sp ∧ Binds K fd ps []
section
variable {X : Cx} {k j : Nat} {C : Addr} {sp : Sp} {dvs : List V} {E : XK} {W : WX} {x m : Str} {p pos apos : Pos} {e o : Expr} {es : List Expr} {ta : TE} {t : TA}
theorem pe_cl (c : Cl X.prog X.w X.K X.mg X.base k x sp dvs) (hr : Room j X.A) (hk : k ≤ j) (hg : Gl X x) (hx : Passes (L2N.CX X.prog X.w) X E) (ha : PA X (e :: es) t)
    (hdb : (x == ("__debug__" : Str)) = false := by decide) (he : starEach (e :: es) X.env = (false, eval e X.env) :: starEach es X.env := by rfl) (hpl : (backTo pos (starEach es X.env)).any (·.1) = false := by rfl) :
    PE X (.Call (.Name x p) (e :: es) [] pos) (tCall sp dvs E t) := by
  obtain ⟨f, fd, ps, ds, F, hm, kp, b, d⟩ := c.ex
  exact pe_call F (hr.mono hk) hg hm kp b d hx ha hdb he hpl
theorem pe_clS (c : Cl X.prog X.w X.K X.mg X.base k x sp dvs) (hr : Room j X.A) (hk : k ≤ j) (hg : Gl X x) (hx : ∀ σ, PassesAt (L2N.CX X.prog X.w) X σ (WE W σ)) (ha : PA X (e :: es) t)
    (hdb : (x == ("__debug__" : Str)) = false := by decide) (he : starEach (e :: es) X.env = (false, eval e X.env) :: starEach es X.env := by rfl) (hpl : (backTo pos (starEach es X.env)).any (·.1) = false := by rfl) :
    PE X (.Call (.Name x p) (e :: es) [] pos) (tCallSD sp dvs (WE W) t) := by
  obtain ⟨f, fd, ps, ds, F, hm, kp, b, d⟩ := c.ex
  exact pe_callSD F (hr.mono hk) hg hm kp b d hx ha hdb he hpl
theorem hot_of {X : Cx} {a : Addr} {oe : Obj} {pn : List (Addr × Obj)} {cls : Value} {d : Option Addr} (hz : L2N.Zn cls d oe) (hf : ∃ vs, oe.data = .fields vs) : L2H.HotC (X.suite a ((a, oe) :: pn)) := by
  obtain ⟨vs, hv⟩ := hf
  exact ⟨(a, oe), ⟨rfl, vs, hv, hz.2.2 vs hv⟩, List.mem_cons_self⟩
theorem roomH_suite {X : Cx} {a : Addr} {pn : List (Addr × Obj)} (hr : Room j X.A) : L2H.RoomH j (X.suite a pn).A := ⟨hr.dp, hr.un⟩
theorem passH {X : Cx} (σ : L2.St) : PassesAt (L2N.CX X.prog X.w) X σ E0 := fun _ _ _ _ _ _ h => by
  obtain ⟨_, _, _, _, _, _, _, _, _, _, _, _, z⟩ := h
  exact z.elim
theorem pe_clH (c : ClH X.prog X.w X.K X.mg X.base k x sp) (hr : L2H.RoomH j X.A) (hc : L2H.HotC X) (hk : k ≤ j) (hg : Gl X x) (ha : PA X (e :: es) t)
    (hdb : (x == ("__debug__" : Str)) = false := by decide) (he : starEach (e :: es) X.env = (false, eval e X.env) :: starEach es X.env := by rfl) (hpl : (backTo pos (starEach es X.env)).any (·.1) = false := by rfl) :
    PE X (.Call (.Name x p) (e :: es) [] pos) (tCallS sp (fun _ => E0) t) := by
  obtain ⟨f, fd, ps, F, hm, kp, b⟩ := c.ex
  exact L2H.pe_callH F (hr.mono hk) hc hg hm kp b (fun σ => passH σ) ha hdb he hpl
theorem pmk_cl (c : Kx X.prog X.w X.K X.mg X.base k x C sp) (hr : Room j X.A) (hk : k + 1 ≤ j) (hg : Gl X x) (ha : PA X (e :: es) t)
    (hdb : (x == ("__debug__" : Str)) = false := by decide) (he : starEach (e :: es) X.env = (false, eval e X.env) :: starEach es X.env := by rfl) (hpl : (backTo pos (starEach es X.env)).any (·.1) = false := by rfl) :
    L2N.PMk X (.Call (.Name x p) (e :: es) [] pos) (tMkO C sp [] t) := by
  obtain ⟨fI, fd, ps, h1, h2, F, b, hm⟩ := c.ex
  exact pmk_oexN c.T h1 h2 F (hr.mono hk) b .nil passN hg hm ha hdb he hpl
theorem pe_mk2 (c : Km X.prog X.w X.K X.mg X.base k x C sp) (hr : Room j X.A) (hk : k + 1 ≤ j) (hg : Gl X x) (hx : Passes (L2N.CX X.prog X.w) X E) (ha : PA X (e :: es) t)
    (hdb : (x == ("__debug__" : Str)) = false := by decide) (he : starEach (e :: es) X.env = (false, eval e X.env) :: starEach es X.env := by rfl) (hpl : (backTo pos (starEach es X.env)).any (·.1) = false := by rfl) :
    PE X (.Call (.Name x p) (e :: es) [] pos) (tMake C sp [] E t) := by
  obtain ⟨fI, fd, ps, M, F, b, hm⟩ := c.ex
  exact pe_make M F (hr.mono hk) hg hm b .nil hx ha hdb he hpl
end
/-! ### calls with keywords -/
structure ClK (P : Program) (w : World) (K : PySem.W.Frag) (mg : Str → Option Value) (base : Heap) (k : Nat) (x : Str) (sp : Sp) (n : Nat) (ks : List Str) (gV : List V → List V → List V) : Prop where
  ex : ∃ (f : Addr) (fd : FuncData) (ps : List Str) (g : List Value → List Value → List Value), FnOk P w K mg base (L2N.CX P w) k f fd ps sp ∧ mg x = some (.ref f) ∧ PySem.W.keepIn K (.ref f) = true ∧ KBn K fd ps n ks g gV
section
variable {X : Cx} {k j n m : Nat} {sp : Sp} {ks : List Str} {gV : List V → List V → List V} {E : XK} {x : Str} {p pos : Pos} {e : Expr} {es : List Expr} {kws : List Keyword} {t tk : TA}
theorem pe_clK (c : ClK X.prog X.w X.K X.mg X.base k x sp n ks gV) (hr : Room j X.A) (hk : k ≤ j) (hg : Gl X x) (hx : Passes (L2N.CX X.prog X.w) X E) (ha : PA X (e :: es) t) (hkw : PK X kws tk)
    (hall : (backToKw pos (keywordEach kws X.env)).all (·.1.isSome) = true := by rfl) (hks : (backToKw pos (keywordEach kws X.env)).filterMap (·.1) = ks := by rfl)
    (hdb : (x == ("__debug__" : Str)) = false := by decide) (he : starEach (e :: es) X.env = (false, eval e X.env) :: starEach es X.env := by rfl)
    (hpl : ((backTo pos (starEach (e :: es) X.env)).any (·.1) || (backToKw pos (keywordEach kws X.env)).any (·.1.isNone)) = false := by rfl)
    (hlen : ks.length = m := by rfl) : PE X (.Call (.Name x p) (e :: es) kws pos) (tCallN n m sp gV E t tk) := by
  subst hlen
  obtain ⟨f, fd, ps, g, F, hm, kp, b⟩ := c.ex
  exact pe_callN F (hr.mono hk) hg hm kp b hx ha hkw hall hks hdb he hpl
theorem pe_clK0 (c : ClK X.prog X.w X.K X.mg X.base k x sp 0 ks gV) (hr : Room j X.A) (hk : k ≤ j) (hg : Gl X x) (hx : Passes (L2N.CX X.prog X.w) X E) (hkw : PK X kws tk)
    (hall : (backToKw pos (keywordEach kws X.env)).all (·.1.isSome) = true := by rfl) (hks : (backToKw pos (keywordEach kws X.env)).filterMap (·.1) = ks := by rfl)
    (hdb : (x == ("__debug__" : Str)) = false := by decide)
    (hpl : ((backTo pos (starEach [] X.env)).any (·.1) || (backToKw pos (keywordEach kws X.env)).any (·.1.isNone)) = false := by rfl)
    (hlen : ks.length = m := by rfl) : PE X (.Call (.Name x p) [] kws pos) (tCallN 0 m sp gV E tNil tk) := by
  subst hlen
  obtain ⟨f, fd, ps, g, F, hm, kp, b⟩ := c.ex
  refine ⟨fun pins s σ H Q I h => ?_⟩
  refine wpAny_Call_Name_kw (ld_glob I hg hm ?_ hdb)
  refine PySem.W.callWith_KW0 (h₀ := X.base) I.ok.mod.kin kp hall (thn (hkw.run pos pins s σ H _ I h) fun ws s2 ⟨zs, H2, I2, rz, l1, l2, q2⟩ => ⟨I2.kIn, ?_⟩) hpl
  rw [hks]
  exact run_fnN (us := []) F (hr.mono hk) b hx I2 .nil rz l1 l2 q2
end
def srcOf {α : Type} (us its ws : List α) : Nat → List α
  | 0 => us
  | 1 => its
  | _ + 2 => ws
/-- the parameters' values: from the positional ones (0), the defaults (1), the keywords' (2) -/
def pick {α : Type} (idx : List (Nat × Nat)) (us its ws : List α) : List α := idx.filterMap fun p => (srcOf us its ws p.1)[p.2]?
theorem src_rel {vs ds zs : List V} {us its ws : List Value} (r1 : Vals vs us) (r2 : Vals ds its) (r3 : Vals zs ws) : ∀ s, Vals (srcOf vs ds zs s) (srcOf us its ws s)
  | 0 => r1
  | 1 => r2
  | _ + 2 => r3
theorem pick_rel {vs ds zs : List V} {us its ws : List Value} (r1 : Vals vs us) (r2 : Vals ds its) (r3 : Vals zs ws) : ∀ idx : List (Nat × Nat), Vals (pick idx vs ds zs) (pick idx us its ws)
  | [] => .nil
  | (s, i) :: r => by
    have ih := pick_rel r1 r2 r3 r
    have rr := src_rel r1 r2 r3 s
    unfold pick at ih ⊢
    rw [List.filterMap_cons, List.filterMap_cons]
    cases e : (srcOf vs ds zs s)[i]? with
    | some v =>
      obtain ⟨u, h1, h2⟩ := Vals.get rr e
      rw [h1]
      exact .cons h2 ih
    | none =>
      rw [Vals.none_of rr e]
      exact ih
/-- n positional values and keywords ks for a def with defaults dvs -/
theorem funD_kb1 {K : PySem.W.Frag} {x qual : Str} {params : Arguments} {body : List Stmt} {scope : Scope} {dvs : List V} {f : Addr} {fd : FuncData} {ps : List Str} (F : FunD K x qual params body scope dvs [] f fd) (n : Nat) (ks : List Str) (g : {α : Type} → List α → List α → List α → List α) (hd : dvs ≠ [])
    (hrel : ∀ {vs ds zs : List V} {us its ws : List Value}, Vals vs us → Vals ds its → Vals zs ws → Vals (g vs ds zs) (g us its ws))
    (h : ∀ (T : Addr) (kV doc pm : Value) (an : Option Addr) (cdv ct : Value) (us its ws : List Value), us.length = n → its.length = dvs.length → ws.length = ks.length →
      ∃ k, bindArgs (PySem.W.fnOf x qual params body scope (.ref T) kV doc pm an cdv ct) ⟨us, ks.zip ws⟩ = seqItems? (.ref T) >>= k ∧ k (some its.toArray) = pure (ps.zip (g us its ws))) :
    ∃ its : List Value, KBn K fd ps n ks (fun us ws => g us its ws) (fun vs zs => g vs dvs zs) := by
  obtain ⟨oc, od, dV, kV, doc, pm, an, cdv, ct, osl, rfl, lk, hcd, hD, hK⟩ := F.ex
  rcases hD with ⟨e, _⟩ | ⟨_, T, o, its, m, rfl, lT, oT, rT⟩
  · exact absurd e hd
  · refine ⟨its, ⟨fun s us ws X l1 l2 => ?_, fun r1 r2 => hrel r1 rT r2⟩⟩
    obtain ⟨k, e1, e2⟩ := h T kV doc pm an cdv ct us its ws l1 rT.length.symm l2
    refine BindsTo.of_looks fun M => ?_
    rw [e1]
    exact looks_items X lT oT (.of_pure e2)
/-- the same of a def without defaults -/
theorem funD_kb0 {K : PySem.W.Frag} {x qual : Str} {params : Arguments} {body : List Stmt} {scope : Scope} {f : Addr} {fd : FuncData} {ps : List Str} (F : FunD K x qual params body scope [] [] f fd) (n : Nat) (ks : List Str) (g : {α : Type} → List α → List α → List α)
    (hrel : ∀ {vs zs : List V} {us ws : List Value}, Vals vs us → Vals zs ws → Vals (g vs zs) (g us ws))
    (h : ∀ (kV doc pm : Value) (an : Option Addr) (cdv ct : Value) (us ws : List Value), us.length = n → ws.length = ks.length → bindArgs (PySem.W.fnOf x qual params body scope .none kV doc pm an cdv ct) ⟨us, ks.zip ws⟩ = pure (ps.zip (g us ws))) :
    KBn K fd ps n ks (fun us ws => g us ws) (fun vs zs => g vs zs) := by
  obtain ⟨oc, od, dV, kV, doc, pm, an, cdv, ct, osl, rfl, lk, hcd, hD, hK⟩ := F.ex
  rcases hD with ⟨_, rfl⟩ | ⟨e, _⟩
  · exact ⟨fun s us ws X l1 l2 => .of_eq (h kV doc pm an cdv ct us ws l1 l2), fun r1 r2 => hrel r1 r2⟩
  · exact absurd rfl e
/-! ### the end of a def's row -/
theorem cl_of {P : Program} {w : World} {K : PySem.W.Frag} {mg : Str → Option Value} {base : Heap} {k : Nat} {x : Str} {f : Addr} {fd : FuncData} {ps : List Str} {sp : Sp}
    (G : FnOk P w K mg base (L2N.CX P w) k f fd ps sp) (g : mg x = some (.ref f)) (kp : PySem.W.keepIn K (.ref f) = true) (b : Binds K fd ps []) : Cl P w K mg base k x sp [] := ⟨_, _, _, _, G, g, kp, b, .nil⟩
/-- what the written part says of such a class, as one Bool -/
def clsB (K : PySem.W.Frag) (C : Addr) : Bool := match K.lookup C with
  | some ⟨.type "type", _, .cls cd, sl⟩ => (match cd.mro, sl.toList with
    | .ref C' :: bm, [_, _, _, _, some (.builtin n), _] => C' == C && (n == "ValueError.__new__" && (!cd.hasDel && (cd.hasDict && PySem.HandSPX.refsVE bm)))
    | _, _ => false)
  | _ => false
theorem clsB_ok {K : PySem.W.Frag} {C : Addr} (h : clsB K C = true) : ∃ nm q N bs bm sn sub ab col dd k0 k1 k2 k3 k5, K.lookup C = some (excClassObj nm q C N bs bm true sn sub ab col dd k0 k1 k2 k3 k5 "ValueError.__new__") ∧ PySem.HandSPX.refsVE bm = true := by
  unfold clsB at h
  split at h
  · rename_i dd cd sl e
    split at h
    · rename_i C' bm a b c d n f e1 e2
      obtain ⟨nm, bs, mro, ns, qn, hd, sn, sb, ab, col, del⟩ := cd
      obtain ⟨h1, h⟩ := Bool.and_eq_true_iff.mp h
      obtain ⟨h2, h⟩ := Bool.and_eq_true_iff.mp h
      obtain ⟨h3, h⟩ := Bool.and_eq_true_iff.mp h
      obtain ⟨h4, h5⟩ := Bool.and_eq_true_iff.mp h
      have e3 : C' = C := eq_of_beq h1
      have e4 : n = "ValueError.__new__" := eq_of_beq h2
      have e5 : del = false := by
        cases del with
        | false => rfl
        | true => cases h3
      have e6 : hd = true := h4
      have e7 : mro = .ref C' :: bm := e1
      have e8 : sl = #[a, b, c, d, some (.builtin n), f] := by
        have := congrArg List.toArray e2
        simpa using this
      subst e3 e4 e5 e6 e7 e8
      exact ⟨nm, qn, ns, bs, bm, sn, sb, ab, col, dd, a, b, c, d, f, e, h5⟩
    · cases h
  · cases h
def oexB (K : PySem.W.Frag) (C : Addr) : Bool := clsB K C && (decide (PySem.W.findIn K (.ref C) "__setattr__" = some (some (.builtin "object.__setattr__"))) && (decide (PySem.W.subIn K (.ref C) (.type "BaseException") = some true) &&
  (decide (PySem.W.typeIn K (.ref C) = some (.type "type")) && PySem.W.keepIn K (.ref C))))
theorem oexB_ok {K : PySem.W.Frag} {C : Addr} (h : oexB K C = true) : OexC K C := by
  obtain ⟨h1, h⟩ := Bool.and_eq_true_iff.mp h
  obtain ⟨h2, h⟩ := Bool.and_eq_true_iff.mp h
  obtain ⟨h3, h⟩ := Bool.and_eq_true_iff.mp h
  obtain ⟨h4, h5⟩ := Bool.and_eq_true_iff.mp h
  exact ⟨clsB_ok h1, of_decide_eq_true h2, of_decide_eq_true h3, of_decide_eq_true h4, h5⟩
/-- __init__ of such a class is the def at ma -/
def inoB (K : PySem.W.Frag) (C : Addr) : Bool := decide (PySem.W.findIn K (.ref C) "__init__" = some (some (.ref (He.ma K C "__init__")))) && decide (PySem.W.typeIn K (.ref (He.ma K C "__init__")) = some (.type "function"))
theorem inoB_ok {K : PySem.W.Frag} {C : Addr} (h : inoB K C = true) : PySem.W.findIn K (.ref C) "__init__" = some (some (.ref (He.ma K C "__init__"))) ∧ PySem.W.typeIn K (.ref (He.ma K C "__init__")) = some (.type "function") := by
  obtain ⟨h1, h2⟩ := Bool.and_eq_true_iff.mp h
  exact ⟨of_decide_eq_true h1, of_decide_eq_true h2⟩
def noB (K : PySem.W.Frag) (C : Addr) (f : Str) : Bool := decide (PySem.W.findIn K (.ref C) f = some none)
theorem noB_ok {K : PySem.W.Frag} {C : Addr} {f : Str} (h : noB K C f = true) : PySem.W.findIn K (.ref C) f = some none := of_decide_eq_true h
end Md

set_option Elab.async false
set_option linter.all false
set_option maxRecDepth 100000
set_option maxHeartbeats 4000000
/-! plain classes: methods called, instances made in a try, len by an own __len__, constants read off a class -/
namespace Md
open PySem PySem.Spec PyProof.Rows PySem.Calls L2
section
variable {X : Cx} {k j : Nat} {C : Addr} {sp : Sp} {E : XK} {W : WX} {x m : Str} {p pos apos : Pos} {e o : Expr} {es : List Expr} {ta : TE} {t : TA}
theorem pe_gc {v : V} (hg : Gl X x) (h : ∃ u, X.mg x = some u ∧ RelV v u) (hd : (x == ("__debug__" : Str)) = false := by decide) : PE X (.Name x pos) (tC v) := C8.pe_gc hg h hd
theorem pe_cl0 {dvs : List V} (c : Cl X.prog X.w X.K X.mg X.base k x sp dvs) (hr : Room j X.A) (hk : k ≤ j) (hg : Gl X x) (hx : Passes (L2N.CX X.prog X.w) X E) (hdb : (x == ("__debug__" : Str)) = false := by decide) :
    PE X (.Call (.Name x p) [] [] pos) (tCall sp dvs E tNil) := by
  obtain ⟨f, fd, ps, ds, F, hm, kp, b, d⟩ := c.ex
  exact pe_call0 F (hr.mono hk) hg hm kp b d hx hdb
theorem pe_mt2 {pl : Sem Bool} (c : Mt X.prog X.w X.K X.mg X.base k C m sp) (hr : Room j X.A) (hk : k ≤ j) (hx : Passes (L2N.CX X.prog X.w) X E) (he : PE X o ta) (ha : PA X (e :: es) t)
    (hst : starEach (e :: es) X.env = (false, eval e X.env) :: starEach es X.env := by rfl) (hpl : (backTo pos (starEach es X.env)).any (·.1) = false := by rfl)
    (ht : eval (.Call (.Attribute o m apos) (e :: es) [] pos) X.env = (do
      let ov ← eval o X.env
      standAt apos.atName
      let (f, first) ← holding [ov] (getMethod ov m pl)
      callWith pos f first (backTo pos (starEach (e :: es) X.env)) (backToKw pos (keywordEach [] X.env))) := by rfl) :
    PE X (.Call (.Attribute o m apos) (e :: es) [] pos) (tMeth C m sp [] E ta t) := by
  obtain ⟨f, fd, ps, c1, hm, F, b⟩ := c.ex
  exact pe_meth he c1 hm F (hr.mono hk) b .nil hx ha hst hpl ht
theorem pe_mt20 {pl : Sem Bool} (c : Mt X.prog X.w X.K X.mg X.base k C m sp) (hr : Room j X.A) (hk : k ≤ j) (hx : Passes (L2N.CX X.prog X.w) X E) (he : PE X o ta)
    (ht : eval (.Call (.Attribute o m apos) [] [] pos) X.env = (do
      let ov ← eval o X.env
      standAt apos.atName
      let (f, first) ← holding [ov] (getMethod ov m pl)
      callWith pos f first (backTo pos (starEach [] X.env)) (backToKw pos (keywordEach [] X.env))) := by rfl) :
    PE X (.Call (.Attribute o m apos) [] [] pos) (tMeth C m sp [] E ta tNil) := by
  obtain ⟨f, fd, ps, c1, hm, F, b⟩ := c.ex
  exact pe_meth0 he c1 hm F (hr.mono hk) b .nil hx ht
/-- C(..) in a try: what __init__ raises, the try takes -/
def tMakeS (C : Addr) (sp : Sp) (E : L2.St → XK) (t : TA) : TE := fun σ H Q => t σ H fun vs H1 => ∀ x dx, H1 x = none → H1 dx = none → dx ≠ x →
  sp (.ref x :: (vs ++ [])) (upd (upd H1 dx (.own x)) x (.ins C dx [])) (fun v H2 => v = .non ∧ Q (.ref x) H2) (E σ)
theorem run_makeS {pins : List (Addr × Obj)} {σ : L2.St} {H : Hp} {s : Shared} {Q : VK} {us : List Value} {vs : List V} {f : Addr} {fd : FuncData} {ps : List Str} (M : Mk X.K C f) (F : FnOk X.prog X.w X.K X.mg X.base (L2N.CX X.prog X.w) k f fd ps sp) (hr : Room (k + 1) X.A)
    (hb : Binds X.K fd ps []) (hx : PassesAt (L2N.CX X.prog X.w) X σ E) (I : Inv X pins σ H s) (r : Vals vs us)
    (h : ∀ x dx, H x = none → H dx = none → dx ≠ x → sp (.ref x :: (vs ++ [])) (upd (upd H dx (.own x)) x (.ins C dx [])) (fun v H2 => v = .non ∧ Q (.ref x) H2) E) :
    wpAny (model X.prog X.w) X.A (call (.ref C) us) (EP X pins σ Q) X.xe s := by
  have hq := h (s.heap.objs.size + 1) s.heap.objs.size (I.hok.fresh (Nat.le_succ _)) (I.hok.fresh (Nat.le_refl _)) (Nat.ne_of_lt (Nat.lt_succ_self _))
  have I2 := Inv.made (C := C) I
  have r2 : Vals (V.ref (s.heap.objs.size + 1) :: (vs ++ [])) (Value.ref (s.heap.objs.size + 1) :: (us ++ [])) := .cons rfl (r.append .nil)
  have hl : (Value.ref (s.heap.objs.size + 1) :: us ++ []).length = ps.length := by
    have e := r2.length
    rw [F.len _ _ _ _ hq] at e
    exact e.symm
  refine wpAny_call (make_map (f := f) I.kIn M.makes M.init (beq_iff_eq.mp M.fn) (codeAny_mono (F.run _ X.stack _ _ ⟨Value.ref (s.heap.objs.size + 1) :: us, []⟩ (Value.ref (s.heap.objs.size + 1) :: (us ++ [])) _ _ E (hr.make C us [])
    (I2.env0.make C us []) (by
      have z := hb _ (Value.ref (s.heap.objs.size + 1) :: us) I2.kIn hl
      rw [List.cons_append] at z
      exact z) r2 hq) fun r s' hq' => ?_))
  cases r with
  | error e => exact hx pins _ _ e s' I2 hq'
  | ok fl =>
    cases fl with
    | ret u =>
      obtain ⟨v, H', I3, rv, ev, q3⟩ := I2.after hq'
      subst ev
      exact ⟨rv, ⟨V.ref (s.heap.objs.size + 1), H', I3, rfl, q3⟩⟩
    | next => exact False.elim hq'
    | brk => exact False.elim hq'
    | cont => exact False.elim hq'
theorem pe_mkS (c : Km X.prog X.w X.K X.mg X.base k x C sp) (hr : Room j X.A) (hk : k + 1 ≤ j) (hg : Gl X x) (hx : ∀ σ, PassesAt (L2N.CX X.prog X.w) X σ (WE W σ)) (ha : PA X (e :: es) t)
    (hdb : (x == ("__debug__" : Str)) = false := by decide) (he : starEach (e :: es) X.env = (false, eval e X.env) :: starEach es X.env := by rfl) (hpl : (backTo pos (starEach es X.env)).any (·.1) = false := by rfl) :
    PE X (.Call (.Name x p) (e :: es) [] pos) (tMakeS C sp (WE W) t) := by
  obtain ⟨fI, fd, ps, M, F, b, hm⟩ := c.ex
  refine ⟨fun pins s σ H Q I h => ?_⟩
  refine wpAny_Call_Name_kw (ld_glob I hg hm ?_ hdb)
  refine PySem.W.callWith_K (h₀ := X.base) I.ok.mod.kin M.kp (thn (ha.run pos pins s σ H _ I h) fun us s1 ⟨vs, H1, I1, r, q⟩ => ⟨I1.kIn, ?_⟩) he hpl
  exact run_makeS M F (hr.mono hk) b (hx σ) I1 r q
/-- len(o) by the class's own __len__ -/
def rLenO (C : Addr) (sp : Sp) (E : XK) : List V → Hp → VK → Prop := fun xs H Q => ∃ a dx fs, xs = [.ref a] ∧ H a = some (.ins C dx fs) ∧ sp [.ref a] H (fun v H1 => ∃ n : Int, v = .int n ∧ 0 ≤ n ∧ n < 2 ^ 63 ∧ Q (.int n) H1) E
theorem call_lenO (c : Mt X.prog X.w X.K X.mg X.base k C "__len__" sp) (hr : Room j X.A) (hk : k + 1 ≤ j) (hx : Passes (L2N.CX X.prog X.w) X E) : CallR X (.builtin "len") (rLenO C sp E) := by
  intro pins s σ H xs us Q I r h
  obtain ⟨a, dx, fs, rfl, ha, q⟩ := h
  obtain ⟨u, rfl, rx⟩ := vals1 r
  obtain rfl : u = .ref a := rx
  obtain ⟨f, fd, ps, c1, hm, F, b⟩ := c.ex
  obtain ⟨mA, O, _, _, _, _⟩ := ins_get I.hok ha
  obtain ⟨od, J, _⟩ := O.look
  obtain ⟨m, Fr⟩ := I.fr
  refine PySem.W.len_K Fr I.ok.mod.kin J hm.at_ hm.fn ?_
  have hl : ([Value.ref a] ++ []).length = ps.length := by
    have e := F.len _ _ _ _ q
    rw [← e]
    rfl
  refine wpAny_call (codeAny_mono (F.run X.A.in1 X.stack s H ⟨[.ref a], []⟩ [.ref a] [.ref a] _ E (hr.mono hk).in1 I.env0.in1 (b s [.ref a] I.kIn hl) (.cons rfl .nil) q) fun r s' hq => ?_)
  cases r with
  | error e => exact hx pins σ H s e s' I hq
  | ok fl =>
    cases fl with
    | ret u =>
      obtain ⟨v, H', I3, rv, n, rfl, h0, h1, q3⟩ := I.after hq
      obtain ⟨t, rfl⟩ := (show ∃ t, u = Value.int n t from rv)
      exact ⟨⟨h0, h1⟩, ⟨.int n, H', I3.tok _, ⟨_, rfl⟩, q3⟩⟩
    | next => exact False.elim hq
    | brk => exact False.elim hq
    | cont => exact False.elim hq
/-- C.f, a constant of the class -/
structure CCon (K : PySem.W.Frag) (C : Addr) (f : Str) (v : V) : Prop where
  ex : ∃ mc u, ClX.CRead K C mc ∧ ClX.CVal K C mc f v u
theorem pe_ccon {f : Str} {v : V} (h : CCon X.K C f v) (he : PE X e (tC (.ref C))) (hb : attributeBase e f X.env (eval e X.env) = eval e X.env := by rfl) : PE X (.Attribute e f pos) (tC v) := by
  obtain ⟨mc, u, h1, h2⟩ := h.ex
  exact ⟨fun pins s σ H Q I q => (ClX.pe_cval he hb).run pins s σ H Q I ⟨C, mc, v, u, rfl, h1, h2, q⟩⟩
end
def cconB (K : PySem.W.Frag) (C : Addr) (f : Str) (v : V) : Bool := match K.lookup C with
  | some o => PySem.W.readsIn K C o.cls && (He.eqO (PySem.W.specialIn K (.ref C) "__getattribute__") (some (some (.builtin "type.__getattribute__"))) && match PySem.W.findCls K (.ref C) o.cls f with
    | some (.val u) => He.relB v u
    | _ => false)
  | none => false
theorem cconB_ok {K : PySem.W.Frag} {C : Addr} {f : Str} {v : V} (h : cconB K C f v = true) : CCon K C f v := by
  unfold cconB at h
  split at h
  · rename_i o _
    obtain ⟨h1, h⟩ := Bool.and_eq_true_iff.mp h
    obtain ⟨h2, h⟩ := Bool.and_eq_true_iff.mp h
    split at h
    · rename_i u hu
      exact ⟨_, u, ⟨h1, He.eqO_ok h2⟩, ⟨hu, He.relB_ok h⟩⟩
    · cases h
  · cases h
end Md

set_option Elab.async false
set_option linter.all false
set_option maxRecDepth 100000
set_option maxHeartbeats 4000000
/-! texts: z[::-1]; readings by name -/
namespace Md
open PySem PySem.Spec PyProof.Rows PySem.Calls L2
def revS (z : Str) : Str := ⟨z.cps.toList.reverse.toArray⟩
theorem revS_picked (z : Str) : (Builtin.Str.strSliceIndices none none (-1) z.length).filterMap (z.cps[·]?) = z.cps.toList.reverse := by
  rw [PyProof.Rows.picked_rev, PyProof.Rows.filterMap_get, List.map_map]
  · refine List.ext_getElem (by simp [Str.length]) fun i h1 h2 => ?_
    simp only [List.getElem_map, List.getElem_range, Function.comp, List.getElem_reverse, Array.getElem_toList, Array.length_toList]
    have h3 : i < z.cps.size := by simpa using h2
    have e : z.length - 1 - i = z.cps.size - 1 - i := rfl
    rw [e, Array.getD, dif_pos (by omega)]
    rfl
  · intro i hi
    obtain ⟨k, hk, rfl⟩ := List.mem_map.mp hi
    have hk' : k < z.length := List.mem_range.mp hk
    show z.length - 1 - k < z.length
    omega
def tRevS (te : TE) : TE := fun σ H Q => te σ H fun x H1 => ∃ z, x = .str z ∧ z.length ≤ sizeLine ∧ Q (.str (revS z)) H1
section
variable {X : Cx}
theorem pe_revS {e : Expr} {te : TE} {k : Nat} {p1 p2 p3 pos : Pos} (he : PE X e te) : PE X (.Subscript e (.Slice none none (some (.UnaryOp .USub (.Constant (.int 1) k p1) p2)) p3) pos) (tRevS te) := by
  refine ⟨fun pins s σ H Q I h => ?_⟩
  refine Subscript_ (thn (he.run pins s σ H _ I h) fun v s1 ⟨x, H1, I1, r1, q1⟩ => ?_)
  obtain ⟨z, ex, hz, q⟩ := q1
  subst ex
  obtain ⟨t, rfl⟩ := r1
  have hst : PO X (some (.UnaryOp .USub (.Constant (.int 1) k p1) p2)) (tPart (tUn (rU fun i => .int (-i)) (tC (.int 1)))) := po_some (pe_un un_neg pe_int)
  refine wpAny_Slice (thn (po_none.run pins s1 σ H1 (fun o H2 => o = none ∧ H2 = H1) I1 ⟨rfl, rfl⟩) fun vl s2 ⟨l, H2, I2, pl, el, e2⟩ => ?_)
  subst el e2
  refine thn (po_none.run pins s2 σ H2 (fun o H3 => o = none ∧ H3 = H2) I2 ⟨rfl, rfl⟩) fun vu s3 ⟨u, H3, I3, pu, eu, e3⟩ => ?_
  subst eu e3
  refine thn (hst.run pins s3 σ H3 (fun o H4 => o = some (-1) ∧ H4 = H3) I3 ⟨1, rfl, -1, rfl, rfl, rfl⟩) fun vs s4 ⟨o, H4, I4, ps, eo, e4⟩ => ?_
  subst eo e4
  have I5 : Inv X pins σ H4 { s4 with heap := s4.heap.push { cls := .type "slice", data := .fields #[vl, vu, vs] } } := I4.kept (t' := s4.toks) fun b ob q => Heap.get?_push_of_some _ q
  obtain ⟨l, rfl, el⟩ := IsPart.raw pl
  obtain ⟨u, rfl, eu⟩ := IsPart.raw pu
  obtain ⟨w, rfl, ew⟩ := IsPart.raw ps
  obtain rfl : l = none := by cases l <;> first | rfl | cases el
  obtain rfl : u = none := by cases u <;> first | rfl | cases eu
  obtain ⟨wt, rfl⟩ : ∃ wt, w = some (-1, wt) := by
    cases w with
    | none => cases ew
    | some p =>
      obtain ⟨i, wt⟩ := p
      cases ew
      exact ⟨wt, rfl⟩
  refine tail_any (ops := [.str z t, .ref s4.heap.objs.size]) (typeIs_str _ _ _) (PySem.F.slot_str_getitem.lookup) ?_ (by with_unfolding_all rfl)
  refine wpAny_getItem_str_slice (l := none) (u := none) (st := some (-1, wt)) (Heap.IsSliceOf.new _ _ _ _) rfl ?_
  show Made.post (if ((-1 : Int) == 1 && (Builtin.Str.strSliceIndices none none (-1) z.length).length == z.length) = true then Made.val (.str z t)
    else Made.str ⟨((Builtin.Str.strSliceIndices none none (-1) z.length).filterMap (z.cps[·]?)).toArray⟩) (EP X pins σ Q) _
  rw [if_neg (by simp), revS_picked]
  refine ⟨?_, .str _, H4, I5.tok _, ⟨_, rfl⟩, q⟩
  show z.cps.toList.reverse.toArray.size ≤ sizeLine
  rw [List.size_toArray, List.length_reverse, Array.length_toList]
  exact hz
def rTIdx (K : PySem.W.Frag) : V → List V → Hp → VK → Prop := fun x xs H Q => ∃ p, ∃ ys : List Str, ∃ z j, x = .ref p ∧ xs = [.str z] ∧ SqT K H p (ys.map V.str) ∧ ys[j]? = some z ∧ (∀ m, m < j → ys[m]? ≠ some z) ∧ Q (.int (j : Nat)) H
theorem mt_tidx : MtR X "tuple.index" (rTIdx X.K) := mt_tup_index
/-- a tuple made by tuple(x) or displayed: of no dict -/
def TupF (H : Hp) (a : Addr) (ys : List V) : Prop := ∃ o, H a = some (.frz o (.tup ys)) ∧ o.cls = .type "tuple" ∧ o.dict = none
theorem TupF.seq {K : PySem.W.Frag} {H : Hp} {a : Addr} {ys : List V} (h : TupF H a ys) : SqT K H a ys := by
  obtain ⟨o, h, _⟩ := h
  exact .inl (.inr ⟨o, h⟩)
def rTupF (K : PySem.W.Frag) : List V → Hp → VK → Prop := fun xs H Q => ∃ p ys, xs = [.ref p] ∧ SqL K H p ys ∧ ∀ l (o : Obj), H l = none → o.cls = .type "tuple" → o.dict = none → Q (.ref l) (upd H l (.frz o (.tup ys)))
theorem call_tupF : CallR X (.type "tuple") (rTupF X.K) := by
  intro pins s σ H xs us Q I r h
  obtain ⟨p, ys, rfl, hq, q⟩ := h
  obtain ⟨u, rfl, rx⟩ := vals1 r
  cases rx
  obtain ⟨its, r', pl, hz⟩ := I.list hq
  have hlen := r'.length
  refine call_tuple_list pl.isList (fun h' kp => ?_) (by simp only [List.size_toArray] <;> omega)
  have I1 : Inv X pins σ H { s with heap := h' } := I.kept (t' := s.toks) kp
  have I2 : Inv X pins σ (upd H h'.objs.size (.frz { cls := .type "tuple", data := .seq its.toArray } (.tup ys))) { s with heap := h'.push { cls := .type "tuple", data := .seq its.toArray } } :=
    I1.laid (t' := s.toks) (fun b o e => Heap.get?_push_of_some _ e) (Nat.le_refl _) (show ObjOk X.prog X.w _ _ _ (.frz _ (.tup ys)) from ⟨Heap.get?_push_size _ rfl, hz, its, r', IsTup.new _ _⟩)
  exact ⟨.ref h'.objs.size, _, I2, rfl, q _ _ (I1.hok.fresh (Nat.le_refl _)) rfl rfl⟩
def tBMF (r : V → List V → Hp → VK → Prop) (to : TE) (t : TA) : TE := fun σ H Q => to σ H fun x H1 => (∃ p ys, x = .ref p ∧ TupF H1 p ys) ∧ t σ H1 fun xs H2 => r x xs H2 Q
theorem pe_bmF {o e : Expr} {es : List Expr} {to : TE} {t : TA} {name : Str} {apos cpos : Pos} {id : String} {r : V → List V → Hp → VK → Prop} (pa : PlainAttrs "tuple") (slot : Slot "tuple" name id) (hty : typeOf (.builtin id) = pure (.type "method_descriptor")) (hm : MtR X id r) (ho : PE X o to) (ha : PA X (e :: es) t)
    (hbase : attributeBase o name X.env (eval o X.env) = eval o X.env := by rfl)
    (hfew : ((backTo cpos (starEach (e :: es) X.env)).all (fun x => !x.1) && (backToKw cpos (keywordEach [] X.env)).all (fun x => x.1.isSome)
      && decide ((e :: es).length + ([] : List Keyword).length + (if ([] : List Keyword).isEmpty then 0 else 1) < 30)) = true := by rfl)
    (hline : (apos.endLine == cpos.line) = true := by rfl) (hs : starEach (e :: es) X.env = (false, eval e X.env) :: starEach es X.env := by rfl) (hplain : (backTo cpos (starEach es X.env)).any (·.1) = false := by rfl) :
    PE X (.Call (.Attribute o name apos) (e :: es) [] cpos) (tBMF r to t) := by
  refine ⟨fun pins s σ H Q I h => ?_⟩
  refine wpAny_Call_method_late hbase hfew hline rfl (thn (ho.run pins s σ H _ I h) fun v s1 ⟨x, H1, I1, r1, ty, q1⟩ => ?_)
  have h12 : s1.TypeIs v "tuple" ∧ ∀ a, v = .ref a → ∃ ob, s1.heap.get? a = some ob ∧ ob.dict = none := by
    obtain ⟨p, ys, rfl, ob, hp, hc, hd⟩ := ty
    cases r1
    have g := (show ObjOk X.prog X.w H1 s1.heap p (.frz ob (.tup ys)) from I1.hok p _ hp).1
    refine ⟨⟨ob, g, hc⟩, fun a e2 => ?_⟩
    cases e2
    exact ⟨ob, g, hd⟩
  refine ⟨"tuple", id, pa, slot, hty, h12.1, h12.2, ?_⟩
  have hA := ha.run cpos pins s1 σ H1 _ I1 q1
  rw [hs] at hA ⊢
  refine Calls.callWith_builtin (by show (false || (backTo cpos (starEach es X.env)).any (·.1)) = false; rw [hplain] <;> rfl) (Calls.evalArgs_plain ?_)
  exact thn hA fun us s2 ⟨vs, H2, I2, r2, q2⟩ => hm pins s2 σ H2 x vs v us Q I2 r1 r2 q2
def rLenD : List V → Hp → VK → Prop := fun xs H Q => ∃ a kvs, xs = [V.ref a] ∧ H a = some (.dK kvs) ∧ Q (.int kvs.length) H
def rJoin (K : PySem.W.Frag) : V → List V → Hp → VK → Prop := fun x xs H Q => ∃ a p, ∃ ys : List Str, x = .str a ∧ xs = [.ref p] ∧ (SqL K H p (ys.map V.str) ∨ SqT K H p (ys.map V.str)) ∧ (ys.map (·.length)).sum + ys.length * a.length ≤ 16777216 ∧ Q (.str (Txt.join a ys)) H
def rSplitS : V → List V → Hp → VK → Prop := fun x xs H Q => ∃ a b, x = .str a ∧ xs = [.str b] ∧ (b.length == 0) = false ∧ a.length + 2 ≤ sizeLine ∧ rNewStrs (Txt.split a b) H Q
def rUpperS : V → List V → Hp → VK → Prop := fun x xs H Q => ∃ a, x = .str a ∧ xs = [] ∧ a.length ≤ 5592405 ∧ Q (.str (Txt.upper a)) H
end
end Md

set_option Elab.async false
set_option linter.all false
set_option maxRecDepth 100000
set_option maxHeartbeats 4000000
namespace Md
open PySem PySem.Spec PyProof.Rows PySem.Calls L2

/-! ### ways of a test -/
theorem iteD {p A B : Prop} [Decidable p] (h1 : p → A) (h2 : ¬ p → B) : if decide p = true then A else B := by
  by_cases h : p
  · rw [if_pos (decide_eq_true h)]; exact h1 h
  · rw [if_neg (by simp [h])]; exact h2 h
theorem iteN {p A B : Prop} [Decidable p] (h1 : p → B) (h2 : ¬ p → A) : if (!decide p) = true then A else B := by
  by_cases h : p
  · rw [if_neg (by simp [h])]; exact h1 h
  · rw [if_pos (by simp [h])]; exact h2 h
theorem iteB {b : Bool} {A B : Prop} (h1 : b = true → A) (h2 : b = false → B) : if b = true then A else B := by
  cases b with
  | true => rw [if_pos rfl]; exact h1 rfl
  | false => rw [if_neg (by decide)]; exact h2 rfl
theorem iteBN {b : Bool} {A B : Prop} (h1 : b = true → B) (h2 : b = false → A) : if (!b) = true then A else B := by
  cases b with
  | true => rw [if_neg (by decide)]; exact h1 rfl
  | false => rw [if_pos (by decide)]; exact h2 rfl
/-! ### heaps: all but the list at b stands -/
def Xb (b : Addr) (H H' : Hp) : Prop := ∀ a o, a ≠ b → H a = some o → H' a = some o
theorem Xb.refl {b : Addr} {H : Hp} : Xb b H H := fun _ _ _ h => h
theorem Xb.trans {b : Addr} {H H1 H2 : Hp} (x : Xb b H H1) (y : Xb b H1 H2) : Xb b H H2 := fun a o n h => y a o n (x a o n h)
theorem Xb.upd {b : Addr} {H H' : Hp} {o : HO} (x : Xb b H H') : Xb b H (upd H' b o) := fun a u n h => by
  rw [upd_ne n]
  exact x a u n h
theorem Xb.of {b : Addr} {H H' : Hp} (x : Same H H') : Xb b H H' := fun a o _ h => x a o h
theorem Same.new {H : Hp} {p : Addr} {o : HO} (h : H p = none) : Same H (L2.upd H p o) := fun a u e => by
  rw [upd_ne (ne_of_none e h)]
  exact e
theorem Xb.tup {b a : Addr} {H H' : Hp} {L xs : List V} (x : Xb b H H') (hb : H b = some (.lst L)) (h : H a = some (.tup xs)) : H' a = some (.tup xs) :=
  x a _ (ne_of h hb (by intro z; cases z)) h
/-- the draws' list: the digits, the seed, the count; n draws are left -/
def Bag (n : Nat) (H : Hp) (b : Addr) : Prop := ∃ L S C : Int, H b = some (.lst [.int L, .int S, .int C]) ∧ 0 ≤ L ∧ 0 ≤ S ∧ S < 16140901064496457664 ∧ 0 ≤ C ∧ C + n ≤ 549755813888
theorem Bag.mono {n m : Nat} {H : Hp} {b : Addr} (h : Bag n H b) (l : m ≤ n) : Bag m H b := by
  obtain ⟨L, S, C, e, h1, h2, h3, h4, h5⟩ := h
  exact ⟨L, S, C, e, h1, h2, h3, h4, by omega⟩
theorem Bag.same {n : Nat} {H H' : Hp} {b : Addr} (h : Bag n H b) (s : Same H H') : Bag n H' b := by
  obtain ⟨L, S, C, e, h⟩ := h
  exact ⟨L, S, C, s _ _ e, h⟩
theorem Bag.at_ {n : Nat} {H : Hp} {b : Addr} (h : Bag n H b) : ∃ L, H b = some (.lst L) := by
  obtain ⟨L, S, C, e, _⟩ := h
  exact ⟨_, e⟩
theorem Xb.tupB {n : Nat} {b a : Addr} {H H' : Hp} {xs : List V} (x : Xb b H H') (hb : Bag n H b) (h : H a = some (.tup xs)) : H' a = some (.tup xs) := by
  obtain ⟨L, e⟩ := hb.at_
  exact x.tup e h
theorem pow_lt {x : Int} {k : Nat} (h : x.natAbs < 2 ^ k) (hk : 0 < k) : x.natAbs.log2 < k := PySem.Flt.log2_lt_of hk h

theorem CMulW.small {i j : Int} (hi : i.natAbs < 2 ^ 64) (h0 : 0 ≤ j) (h1 : j < 2 ^ 64) : CMulW i j := wide_mul (a := 64) (b := 64) hi (by omega) (by decide) (by decide) (by decide)
/-! ### _law_take -/
def t__law_take (K : PySem.W.Frag) (A : Ads) (E : XK) : TS :=
    (tSeq (tIfS (tTest (tOp rGt (tOp (rIx K) (tVar 0) (tC (.int 0))) (tC (.int 0)))) (tSeq (tAsg (tOp rMod (tCB rInt1 (tCons (tOp (rIx K) (tVar 0) (tC (.int 0))) tNil)) (tVar 1)) (gName 3))
    (tSeq (tAsg (tOp rFdvW (tOp (rIx K) (tVar 0) (tC (.int 0))) (tVar 1)) (gSub (tVar 0) (tC (.int 0)) rSetL))
    (tRet (tVar 3)))) tNext)
    (tSeq (tAsg (tOp rAdd (tOp (rIx K) (tVar 0) (tC (.int 2))) (tC (.int 1))) (gSub (tVar 0) (tC (.int 2)) rSetL))
    (tSeq (tAsg (tOp rMod (tCB rInt1 (tCons (tOp rPow (tOp rAdd (tOp (rIx K) (tVar 0) (tC (.int 1))) (tOp rMulW (tC (.int 1000003)) (tOp (rIx K) (tVar 0) (tC (.int 2))))) (tC (.int 3))) tNil)) (tC (.int 2305843009213693921))) (gName 2))
    (tSeq (tAsg (tOp rMod (tCB rInt1 (tCons (tOp rPow (tOp rAdd (tVar 2) (tOp rMulW (tC (.int 15485863)) (tOp (rIx K) (tVar 0) (tC (.int 2))))) (tC (.int 2))) tNil)) (tC (.int 2305843009213693951))) (gName 2))
    (tRet (tOp rMod (tCB rInt1 (tCons (tOp rFdvW (tVar 2) (tC (.int 8192))) tNil)) (tVar 1)))))))
def n__law_take : List Str := ["_law_bag_here", "_law_many", "_law_mixed", "_law_digit"]
def sp__law_take (K : PySem.W.Frag) (A : Ads) : Sp := fun vs H Q _ => ∃ (b : Addr) (many : Int) (n : Nat), vs = [.ref b, .int many] ∧ Bag (n + 1) H b ∧ 0 < many ∧ many.natAbs < 2 ^ 9000 ∧
  ∀ d H', 0 ≤ d → d < many → Xb b H H' → Bag n H' b → Q (.int d) H'
theorem len__law_take {K : PySem.W.Frag} {A : Ads} {vs : List V} {H : Hp} {Q : VK} {E : XK} (h : sp__law_take K A vs H Q E) : vs.length = 2 := by
  obtain ⟨b, many, n, rfl, _⟩ := h
  rfl
local macro_rules | `(tactic| walk_at "v") => `(tactic| refine ⟨_, rfl, ?_⟩)
local macro_rules | `(tactic| walk_at "ii") => `(tactic| refine ⟨_, _, rfl, rfl, ?_⟩)
local macro_rules | `(tactic| walk_at "ixL") => `(tactic| refine Or.inl ⟨_, _, _, _, rfl, rfl, SqL.of (by assumption), rfl, ?_⟩)
set_option maxHeartbeats 400000 in
theorem pure__law_take {K : PySem.W.Frag} {A : Ads} {vs : List V} {H : Hp} {Q : VK} {E : XK} (h : sp__law_take K A vs H Q E) :
    t__law_take K A E { nx := fun _ H' => Q .non H', rt := Q } (start n__law_take vs) H := by
  obtain ⟨b, many, n, rfl, ⟨L, S, C, hb, hL, hS, hS2, hC, hCn⟩, hm, hm2, q⟩ := h
  have em : many.natAbs.log2 < 9000 := pow_lt hm2 (by decide)
  walk_at "v"; walk_at "ixL"; walk_at "ii"; walk_at "v"
  refine iteD (fun h0 => ?_) (fun h0 => ?_)
  · walk_at "v"; walk_at "ixL"; refine Or.inl ⟨_, rfl, ?_⟩; walk_at "v"; refine ⟨_, _, rfl, rfl, hm, ?_⟩
    walk_at "v"; walk_at "ixL"; walk_at "v"; refine ⟨_, _, rfl, rfl, ⟨hm, em⟩, ?_⟩
    walk_at "v"; refine ⟨_, _, _, _, rfl, rfl, hb, rfl, ?_⟩
    walk_at "v"
    refine q _ _ (Int.emod_nonneg _ (by omega)) (Int.emod_lt_of_pos _ hm) (Xb.upd Xb.refl) ⟨_, S, C, upd_same, Int.ediv_nonneg hL (by omega), hS, hS2, hC, by omega⟩
  · walk_at "v"; walk_at "ixL"; walk_at "ii"; walk_at "v"; refine ⟨_, _, _, _, rfl, rfl, hb, rfl, ?_⟩
    generalize e2 : upd H b _ = H2
    have hb2 : H2 b = some (.lst [V.int L, V.int S, V.int (C + 1)]) := by rw [← e2]; exact upd_same
    have x2 : Xb b H H2 := by rw [← e2]; exact Xb.upd Xb.refl
    walk_at "v"; walk_at "ixL"; walk_at "v"; walk_at "ixL"; refine ⟨_, _, rfl, rfl, CMulW.small (by decide) (by omega) (by omega), ?_⟩
    walk_at "ii"; refine ⟨_, _, rfl, rfl, ⟨by decide, by decide, by omega⟩, ?_⟩; refine Or.inl ⟨_, rfl, ?_⟩; refine ⟨_, _, rfl, rfl, (by decide : (0 : Int) < 2305843009213693921), ?_⟩
    have b1 := Int.emod_nonneg ((S + 1000003 * (C + 1)) ^ (3 : Int).toNat) (by decide : (2305843009213693921 : Int) ≠ 0)
    have b2 := Int.emod_lt_of_pos ((S + 1000003 * (C + 1)) ^ (3 : Int).toNat) (by decide : (0 : Int) < 2305843009213693921)
    generalize (S + 1000003 * (C + 1)) ^ (3 : Int).toNat % 2305843009213693921 = M at b1 b2 ⊢
    walk_at "v"; walk_at "v"; walk_at "ixL"; refine ⟨_, _, rfl, rfl, CMulW.small (by decide) (by omega) (by omega), ?_⟩
    walk_at "ii"; refine ⟨_, _, rfl, rfl, ⟨by decide, by decide, by omega⟩, ?_⟩; refine Or.inl ⟨_, rfl, ?_⟩; refine ⟨_, _, rfl, rfl, (by decide : (0 : Int) < 2305843009213693951), ?_⟩
    walk_at "v"; refine ⟨_, _, rfl, rfl, ⟨(by decide : (0 : Int) < 8192), by decide +kernel⟩, ?_⟩; refine Or.inl ⟨_, rfl, ?_⟩; walk_at "v"; refine ⟨_, _, rfl, rfl, hm, ?_⟩
    exact q _ _ (Int.emod_nonneg _ (by omega)) (Int.emod_lt_of_pos _ hm) x2 ⟨L, S, C + 1, hb2, hL, hS, hS2, by omega, by omega⟩
end Md

set_option Elab.async false
set_option linter.all false
set_option maxRecDepth 100000
set_option maxHeartbeats 4000000
namespace Md
/-! ### fractions in lowest terms (plain Lean) -/
/-- the greatest common divisor -/
def gI (p q : Int) : Int := ((Nat.gcd p.natAbs q.natAbs : Nat) : Int)
def lowN (p q : Int) : Int := p / gI p q
def lowD (p q : Int) : Int := q / gI p q
def Cop (p q : Int) : Prop := Nat.gcd p.natAbs q.natAbs = 1
theorem gI_pos {p q : Int} (h : q ≠ 0) : 0 < gI p q := by
  unfold gI
  have : 0 < Nat.gcd p.natAbs q.natAbs := Nat.gcd_pos_of_pos_right _ (by omega)
  omega
theorem gI_dvd_l (p q : Int) : gI p q ∣ p := Int.ofNat_dvd_left.mpr (Nat.gcd_dvd_left ..)
theorem gI_dvd_r (p q : Int) : gI p q ∣ q := Int.ofNat_dvd_left.mpr (Nat.gcd_dvd_right ..)
theorem low_l (p q : Int) : gI p q * lowN p q = p := Int.mul_ediv_cancel' (gI_dvd_l p q)
theorem low_r (p q : Int) : gI p q * lowD p q = q := Int.mul_ediv_cancel' (gI_dvd_r p q)
theorem lowD_pos {p q : Int} (h : 0 < q) : 0 < lowD p q := by
  have h1 := gI_pos (p := p) (q := q) (by omega)
  have h2 := low_r p q
  rcases Int.lt_or_le 0 (lowD p q) with h3 | h3
  · exact h3
  · have := Int.mul_nonpos_of_nonneg_of_nonpos (Int.le_of_lt h1) h3
    omega
theorem low_cop {p q : Int} (h : q ≠ 0) : Cop (lowN p q) (lowD p q) := by
  have h1 := gI_pos (p := p) (q := q) h
  have e1 : (gI p q).natAbs * (lowN p q).natAbs = p.natAbs := by rw [← Int.natAbs_mul, low_l]
  have e2 : (gI p q).natAbs * (lowD p q).natAbs = q.natAbs := by rw [← Int.natAbs_mul, low_r]
  have e3 : (gI p q).natAbs = Nat.gcd p.natAbs q.natAbs := by unfold gI; omega
  have e4 : Nat.gcd ((gI p q).natAbs * (lowN p q).natAbs) ((gI p q).natAbs * (lowD p q).natAbs) = (gI p q).natAbs * Nat.gcd (lowN p q).natAbs (lowD p q).natAbs := Nat.gcd_mul_left ..
  rw [e1, e2, ← e3] at e4
  have h5 : 0 < (gI p q).natAbs := by omega
  have e6 : (gI p q).natAbs * 1 = (gI p q).natAbs * Nat.gcd (lowN p q).natAbs (lowD p q).natAbs := by rw [Nat.mul_one]; exact e4
  exact (Nat.eq_of_mul_eq_mul_left h5 e6).symm
theorem low_cross {p q : Int} : lowN p q * q = p * lowD p q := by
  have h1 := low_l p q
  have h2 := low_r p q
  calc lowN p q * q = lowN p q * (gI p q * lowD p q) := by rw [h2]
    _ = (gI p q * lowN p q) * lowD p q := by rw [← Int.mul_assoc, Int.mul_comm (lowN p q)]
    _ = p * lowD p q := by rw [h1]
/-- two fractions in lowest terms of one value are one -/
theorem cop_uniq {p q p' q' : Int} (h : Cop p q) (h' : Cop p' q') (hq : 0 < q) (hq' : 0 < q') (e : p * q' = p' * q) : p = p' ∧ q = q' := by
  have e2 : p.natAbs * q'.natAbs = p'.natAbs * q.natAbs := by rw [← Int.natAbs_mul, ← Int.natAbs_mul, e]
  have d1 : q.natAbs ∣ q'.natAbs := by
    have : q.natAbs ∣ p.natAbs * q'.natAbs := by rw [e2]; exact Nat.dvd_mul_left ..
    exact (Nat.Coprime.symm h : Nat.Coprime q.natAbs p.natAbs).dvd_of_dvd_mul_left this
  have d2 : q'.natAbs ∣ q.natAbs := by
    have : q'.natAbs ∣ p'.natAbs * q.natAbs := by rw [← e2]; exact Nat.dvd_mul_left ..
    exact (Nat.Coprime.symm h' : Nat.Coprime q'.natAbs p'.natAbs).dvd_of_dvd_mul_left this
  have e3 : q.natAbs = q'.natAbs := Nat.dvd_antisymm d1 d2
  have e4 : q = q' := by omega
  subst e4
  exact ⟨Int.eq_of_mul_eq_mul_right (by omega) e, rfl⟩
theorem low_of_cop {p q : Int} (h : Cop p q) (hq : 0 < q) : lowN p q = p ∧ lowD p q = q := by
  have e : gI p q = 1 := by unfold gI; rw [h]; rfl
  unfold lowN lowD
  rw [e, Int.ediv_one, Int.ediv_one]
  exact ⟨rfl, rfl⟩
theorem low_mul {p q c : Int} (hq : 0 < q) (hc : 0 < c) : lowN (p * c) (q * c) = lowN p q ∧ lowD (p * c) (q * c) = lowD p q := by
  have hqc : 0 < q * c := Int.mul_pos hq hc
  refine cop_uniq (low_cop (by omega)) (low_cop (by omega)) (lowD_pos hqc) (lowD_pos hq) ?_
  have h1 : lowN (p * c) (q * c) * (q * c) = (p * c) * lowD (p * c) (q * c) := low_cross
  have h2 : lowN p q * q = p * lowD p q := low_cross
  -- cancel q * c
  refine Int.eq_of_mul_eq_mul_right (a := q * c) (by omega) ?_
  calc lowN (p * c) (q * c) * lowD p q * (q * c) = (lowN (p * c) (q * c) * (q * c)) * lowD p q := by rw [Int.mul_assoc, Int.mul_comm (lowD p q), ← Int.mul_assoc]
    _ = (p * c * lowD (p * c) (q * c)) * lowD p q := by rw [h1]
    _ = (p * lowD p q) * (c * lowD (p * c) (q * c)) := by
      rw [Int.mul_assoc p, Int.mul_assoc p, Int.mul_assoc p, Int.mul_comm (lowD p q)]
    _ = (lowN p q * q) * (c * lowD (p * c) (q * c)) := by rw [h2]
    _ = lowN p q * lowD (p * c) (q * c) * (q * c) := by
      rw [Int.mul_assoc, Int.mul_assoc, ← Int.mul_assoc q c, Int.mul_comm (q * c)]
theorem low_one (p : Int) : lowN p 1 = p ∧ lowD p 1 = 1 := low_of_cop (by unfold Cop; simp) (by decide)
theorem low_neg (p q : Int) : lowN (-p) q = -lowN p q ∧ lowD (-p) q = lowD p q := by
  have e : gI (-p) q = gI p q := by unfold gI; rw [Int.natAbs_neg]
  unfold lowN lowD
  rw [e]
  exact ⟨Int.neg_ediv_of_dvd (gI_dvd_l p q), rfl⟩
theorem lowN_le (p q : Int) (h : q ≠ 0) : (lowN p q).natAbs ≤ p.natAbs := by
  have e1 : (gI p q).natAbs * (lowN p q).natAbs = p.natAbs := by rw [← Int.natAbs_mul, low_l]
  have h1 := gI_pos (p := p) (q := q) h
  rw [← e1]
  exact Nat.le_mul_of_pos_left _ (by omega)
theorem lowD_le (p q : Int) (h : q ≠ 0) : (lowD p q).natAbs ≤ q.natAbs := by
  have e1 : (gI p q).natAbs * (lowD p q).natAbs = q.natAbs := by rw [← Int.natAbs_mul, low_r]
  have h1 := gI_pos (p := p) (q := q) h
  rw [← e1]
  exact Nat.le_mul_of_pos_left _ (by omega)
/-- the fraction top/bottom, bottom of either sign -/
def frN (p q : Int) : Int := if q < 0 then lowN (-p) (-q) else lowN p q
def frD (p q : Int) : Int := if q < 0 then lowD (-p) (-q) else lowD p q
theorem gI_neg (p q : Int) : gI (-p) (-q) = gI p q := by unfold gI; rw [Int.natAbs_neg, Int.natAbs_neg]
theorem frD_pos {p q : Int} (h : q ≠ 0) : 0 < frD p q := by
  unfold frD
  split
  · exact lowD_pos (by omega)
  · exact lowD_pos (by omega)
theorem fr_cop {p q : Int} (h : q ≠ 0) : Cop (frN p q) (frD p q) := by
  unfold frN frD
  split
  · exact low_cop (by omega)
  · exact low_cop h
/-! ### sizes -/
theorem nat_mul_lt {a b m n : Nat} (h1 : a < 2 ^ m) (h2 : b < 2 ^ n) : a * b < 2 ^ (m + n) := by
  rw [Nat.pow_add]
  exact Nat.mul_lt_mul'' h1 h2
theorem int_mul_lt {a b : Int} {m n : Nat} (h1 : a.natAbs < 2 ^ m) (h2 : b.natAbs < 2 ^ n) : (a * b).natAbs < 2 ^ (m + n) := by
  rw [Int.natAbs_mul]
  exact nat_mul_lt h1 h2
theorem pow_mono {m n : Nat} {a : Nat} (h : a < 2 ^ m) (l : m ≤ n) : a < 2 ^ n := Nat.lt_of_lt_of_le h (Nat.pow_le_pow_right (by decide) l)
end Md

set_option Elab.async false
set_option linter.all false
set_option maxRecDepth 100000
set_option maxHeartbeats 4000000
namespace Md
open PySem PySem.Spec PyProof.Rows PySem.Calls L2
local macro_rules | `(tactic| walk_at "v") => `(tactic| refine ⟨_, rfl, ?_⟩)
local macro_rules | `(tactic| walk_at "ii") => `(tactic| refine ⟨_, _, rfl, rfl, ?_⟩)
local macro_rules | `(tactic| walk_at "ixL") => `(tactic| refine Or.inl ⟨_, _, _, _, rfl, rfl, SqL.of (by assumption), rfl, ?_⟩)
local macro_rules | `(tactic| walk_at "ixT") => `(tactic| refine Or.inr (Or.inl ⟨_, _, _, _, rfl, rfl, SqT.of (by assumption), rfl, ?_⟩))

/-! ### types of values -/
def isIntV : V → Bool
  | .int _ => true
  | _ => false
def isBoolV : V → Bool
  | .bl _ => true
  | _ => false
theorem isi_of {K : PySem.W.Frag} {H : Hp} {x : V} {T C : String} {b : Bool} {Q : VK} (ty : TyX K H x (.type T)) (h : kitB T C = some b) (q : Q (.bl b) H) : rIsi K [x, .ty C] H Q := ⟨x, .ty C, _, _, b, rfl, .ty C, ty, kit_ty h, q⟩
theorem kit_int {K : PySem.W.Frag} {H : Hp} {x : V} {T : String} (ty : TyX K H x (.type T)) : kitB T "int" = some (isIntV x || isBoolV x) ∧ kitB T "bool" = some (isBoolV x) := by
  cases ty with
  | base b => cases b <;> (constructor <;> (simp only [isIntV, isBoolV, Bool.or_false, Bool.or_true, Bool.false_or, Bool.true_or]; decide +kernel))
  | _ => constructor <;> (simp only [isIntV, isBoolV, Bool.or_false, Bool.or_true, Bool.false_or, Bool.true_or]; decide +kernel)
theorem ty_int {K : PySem.W.Frag} {H : Hp} {i : Int} : TyX K H (.int i) (.type "int") := .base (.int i)
theorem ty_tup {K : PySem.W.Frag} {H : Hp} {a : Addr} {xs : List V} (h : H a = some (.tup xs)) : TyX K H (.ref a) (.type "tuple") := .base (.tup h)

/-! ### an error class of one field -/
def spXi (C : Addr) (f : Str) : Sp := fun vs H Q _ => ∃ (a : Addr) (x : V), vs = [.ref a, x] ∧ H a = some (exo a C none) ∧ ∀ d, H d = none → d ≠ a → Q .non (upd (upd H d (exd d [(f, x)])) a (exo a C (some d)))
theorem len_xi {C : Addr} {f : Str} {vs : List V} {H : Hp} {Q : VK} {E : XK} (h : spXi C f vs H Q E) : vs.length = 2 := by
  obtain ⟨a, x, rfl, _⟩ := h
  rfl
def t_xi (K : PySem.W.Frag) (f : Str) : TS := tOst K f (tVar 0) (tVar 1)
theorem pure_xi {K : PySem.W.Frag} {C : Addr} {f n : Str} (T : OexC K C) (hn : PySem.W.findIn K (.ref C) f = some none) {vs : List V} {H : Hp} {Q : VK} {E : XK} (h : spXi C f vs H Q E) :
    t_xi K f { nx := fun _ H' => Q .non H', rt := Q } (start ["self", n] vs) H := by
  obtain ⟨a, x, rfl, ha, q⟩ := h
  walk_at "v"; walk_at "v"
  exact ⟨a, C, rfl, T, hn, .inl ⟨ha, fun dx h1 h2 => q dx h1 h2⟩⟩
/-- such an error is made -/
theorem mk_xi {C : Addr} {f : Str} {x : V} {H : Hp} {Q : XK} (q : ∀ d H', Same H H' → H' d = some (.xd [(f, x)]) → Q (.ref C) (some d) H') :
    [x].length ≤ 1000 ∧ ∀ a, H a = none → spXi C f (.ref a :: ([x] ++ [])) (upd H a (exo a C none)) (fun v H2 => v = .non ∧ ∃ (d : Addr) (fs : List (Str × V)), H2 a = some (exo a C (some d)) ∧ H2 d = some (exd d fs) ∧ H d = none ∧ Q (.ref C) (some d) (upd (del H2 a) d (.xd fs))) (fun _ _ _ => False) := by
  refine ⟨by show 1 ≤ 1000; decide, fun a ha => ⟨a, x, rfl, upd_same, fun d hd hda => ⟨rfl, d, [(f, x)], upd_same, ?_, ?_, ?_⟩⟩⟩
  · rw [upd_ne hda, upd_same]
  · rw [upd_ne hda] at hd; exact hd
  · rw [upd_ne hda] at hd
    refine q d _ (fun b o e => ?_) upd_same
    have nb : b ≠ d := ne_of_none e hd
    have na : b ≠ a := ne_of_none e ha
    rw [upd_ne nb, del_ne na, upd_ne na, upd_ne nb, upd_ne na]
    exact e

/-! ### numbers in the heap -/
def NumAt (H : Hp) (x : V) (p q : Int) : Prop := (x = .int p ∧ q = 1) ∨ ∃ a, x = .ref a ∧ H a = some (.tup [.int p, .int q]) ∧ 2 ≤ q ∧ Cop p q
def PairAt (H : Hp) (x : V) (p q : Int) : Prop := ∃ a, x = .ref a ∧ H a = some (.tup [.int p, .int q])
theorem NumAt.same {H H' : Hp} {x : V} {p q : Int} (h : NumAt H x p q) (s : Same H H') : NumAt H' x p q := by
  rcases h with h | ⟨a, e, ha, h⟩
  · exact .inl h
  · exact .inr ⟨a, e, s _ _ ha, h⟩
theorem NumAt.xb {H H' : Hp} {x : V} {p q : Int} {b : Addr} {n : Nat} (h : NumAt H x p q) (hb : Bag n H b) (s : Xb b H H') : NumAt H' x p q := by
  rcases h with h | ⟨a, e, ha, h⟩
  · exact .inl h
  · exact .inr ⟨a, e, s.tupB hb ha, h⟩
theorem NumAt.pos {H : Hp} {x : V} {p q : Int} (h : NumAt H x p q) : 0 < q := by
  rcases h with ⟨_, h⟩ | ⟨a, e, ha, h, _⟩ <;> omega
theorem NumAt.cop {H : Hp} {x : V} {p q : Int} (h : NumAt H x p q) : Cop p q := by
  rcases h with ⟨_, h⟩ | ⟨a, e, ha, h, c⟩
  · subst h; unfold Cop; simp
  · exact c
theorem NumAt.ty {K : PySem.W.Frag} {H : Hp} {x : V} {p q : Int} (h : NumAt H x p q) : ∃ T, TyX K H x (.type T) := by
  rcases h with ⟨rfl, h⟩ | ⟨a, rfl, ha, h, _⟩
  · exact ⟨_, ty_int⟩
  · exact ⟨_, ty_tup ha⟩
theorem PairAt.same {H H' : Hp} {x : V} {p q : Int} (h : PairAt H x p q) (s : Same H H') : PairAt H' x p q := by
  obtain ⟨a, e, ha⟩ := h
  exact ⟨a, e, s _ _ ha⟩
theorem PairAt.xb {H H' : Hp} {x : V} {p q : Int} {b : Addr} {n : Nat} (h : PairAt H x p q) (hb : Bag n H b) (s : Xb b H H') : PairAt H' x p q := by
  obtain ⟨a, e, ha⟩ := h
  exact ⟨a, e, s.tupB hb ha⟩
theorem NumAt.int (H : Hp) (p : Int) : NumAt H (.int p) p 1 := .inl ⟨rfl, rfl⟩
/-- a fraction in lowest terms, laid as a number -/
theorem NumAt.eqv {H : Hp} {x : V} {p q p' q' : Int} (h : NumAt H x p q) (e1 : p = p') (e2 : q = q') : NumAt H x p' q' := by subst e1 e2; exact h

/-! ### is_whole, _law_is_int -/
def t_is_whole (K : PySem.W.Frag) (A : Ads) (E : XK) : TS :=
    (tRet (tAndV (tCB (rIsi K) (tCons (tVar 0) (tCons (tC (.ty "int")) tNil))) (tNotV (tCB (rIsi K) (tCons (tVar 0) (tCons (tC (.ty "bool")) tNil))))))
def n_is_whole : List Str := ["thing"]
def sp_is_whole (K : PySem.W.Frag) (A : Ads) : Sp := fun vs H Q _ => ∃ (x : V) (T : String), vs = [x] ∧ TyX K H x (.type T) ∧ Q (.bl (isIntV x)) H
theorem len_is_whole {K : PySem.W.Frag} {A : Ads} {vs : List V} {H : Hp} {Q : VK} {E : XK} (h : sp_is_whole K A vs H Q E) : vs.length = 1 := by
  obtain ⟨x, T, rfl, _⟩ := h
  rfl
theorem pure_is_whole {K : PySem.W.Frag} {A : Ads} {vs : List V} {H : Hp} {Q : VK} {E : XK} (h : sp_is_whole K A vs H Q E) : t_is_whole K A E { nx := fun _ H' => Q .non H', rt := Q } (start n_is_whole vs) H := by
  obtain ⟨x, T, rfl, ty, q⟩ := h
  obtain ⟨e1, e2⟩ := kit_int ty
  walk_at "v"
  refine ⟨_, _, _, _, _, rfl, .ty _, ty, kit_ty e1, ?_⟩
  refine ⟨_, rfl, ?_⟩
  refine iteB (fun h1 => ?_) (fun h1 => ?_)
  · walk_at "v"
    refine ⟨_, _, _, _, _, rfl, .ty _, ty, kit_ty e2, ?_⟩
    refine ⟨_, rfl, ?_⟩
    cases x <;> first | exact q | (simp [isIntV, isBoolV] at h1)
  · cases x <;> first | exact q | (simp [isIntV, isBoolV] at h1)
def t__law_is_int (K : PySem.W.Frag) (A : Ads) (E : XK) : TS :=
    (tRet (tAndV (tCB (rIsi K) (tCons (tVar 0) (tCons (tC (.ty "int")) tNil))) (tNotV (tCB (rIsi K) (tCons (tVar 0) (tCons (tC (.ty "bool")) tNil))))))
def n__law_is_int : List Str := ["_law_thing"]
def sp__law_is_int (K : PySem.W.Frag) (A : Ads) : Sp := sp_is_whole K A
theorem len__law_is_int {K : PySem.W.Frag} {A : Ads} {vs : List V} {H : Hp} {Q : VK} {E : XK} (h : sp__law_is_int K A vs H Q E) : vs.length = 1 := len_is_whole h
theorem pure__law_is_int {K : PySem.W.Frag} {A : Ads} {vs : List V} {H : Hp} {Q : VK} {E : XK} (h : sp__law_is_int K A vs H Q E) : t__law_is_int K A E { nx := fun _ H' => Q .non H', rt := Q } (start n__law_is_int vs) H := pure_is_whole h

/-! ### number -/
def sp_BadNumber___init__ (K : PySem.W.Frag) (A : Ads) : Sp := spXi A.cBadNumber "thing"
def t_number (K : PySem.W.Frag) (A : Ads) (E : XK) : TS :=
    (tSeq (tIfS (tTest (tOp rEq (tVar 1) (tC (.int 0)))) (tRaise E (tMkO A.cBadNumber (sp_BadNumber___init__ K A) [] (tCons (tVar 1) tNil))) tNext)
    (tSeq (tAsg (tCB rGcd (tCons (tVar 0) (tCons (tVar 1) tNil))) (gName 2))
    (tSeq (tIfS (tTest (tOp rLt (tVar 1) (tC (.int 0)))) (tAsg (tUn rNeg (tVar 2)) (gName 2)) tNext)
    (tSeq (tIfS (tTest (tOp rEq (tVar 1) (tVar 2))) (tRet (tOp rFdvG (tVar 0) (tVar 2))) tNext)
    (tRet (tTup (tCons (tOp rFdvG (tVar 0) (tVar 2)) (tCons (tOp rFdvG (tVar 1) (tVar 2)) tNil))))))))
def n_number : List Str := ["top", "bottom", "shared"]
def sp_number (K : PySem.W.Frag) (A : Ads) : Sp := fun vs H Q E => ∃ p q : Int, vs = [.int p, .int q] ∧ q.natAbs < 2 ^ 9000 ∧ (q ≠ 0 → ∀ x H', Same H H' → NumAt H' x (frN p q) (frD p q) → Q x H') ∧
  (q = 0 → ∀ d H', Same H H' → H' d = some (.xd [("thing", .int 0)]) → E (.ref A.cBadNumber) (some d) H')
theorem len_number {K : PySem.W.Frag} {A : Ads} {vs : List V} {H : Hp} {Q : VK} {E : XK} (h : sp_number K A vs H Q E) : vs.length = 2 := by
  obtain ⟨p, q, rfl, _⟩ := h
  rfl
theorem fdiv_exact {p s k : Int} (hs : s ≠ 0) (e : p = s * k) : p.fdiv s = k := by rw [e]; exact Int.mul_fdiv_cancel_left k hs
theorem gI_size {p q : Int} (h : q ≠ 0) : (gI p q).natAbs ≤ q.natAbs := by
  have e1 : (gI p q).natAbs * (lowD p q).natAbs = q.natAbs := by rw [← Int.natAbs_mul, low_r]
  have : 0 < (lowD p q).natAbs := by
    rcases Nat.eq_zero_or_pos (lowD p q).natAbs with z | z
    · rw [z] at e1; omega
    · exact z
  rw [← e1]
  exact Nat.le_mul_of_pos_right _ this
theorem pure_number {K : PySem.W.Frag} {A : Ads} {vs : List V} {H : Hp} {Q : VK} {E : XK} (h : sp_number K A vs H Q E) : t_number K A E { nx := fun _ H' => Q .non H', rt := Q } (start n_number vs) H := by
  obtain ⟨p, q, rfl, hz, kQ, kE⟩ := h
  walk_at "v"; refine ⟨rfl, ?_⟩; walk_at "v"
  refine iteD (fun h0 => ?_) (fun h0 => ?_)
  · have e0 : q = 0 := V.int.inj h0
    subst e0
    walk_at "v"
    exact mk_xi fun d H' s e => kE rfl d H' s e
  have hq : q ≠ 0 := fun z => h0 (by rw [z])
  have hg := gI_pos (p := p) (q := q) hq
  have hs := gI_size (p := p) hq
  walk_at "v"; walk_at "v"; refine ⟨_, _, rfl, ?_⟩
  have main : ∀ s : Int, (s = gI p q ∧ 0 < q ∨ s = -gI p q ∧ q < 0) → (tSeq (tIfS (tTest (tOp rEq (tVar 1) (tVar 2))) (tRet (tOp rFdvG (tVar 0) (tVar 2))) tNext) (tRet (tTup (tCons (tOp rFdvG (tVar 0) (tVar 2)) (tCons (tOp rFdvG (tVar 1) (tVar 2)) tNil)))))
      { nx := fun _ H' => Q .non H', rt := Q } [some (.int p), some (.int q), some (.int s)] H := by
    intro s hs2
    have s0 : s ≠ 0 := by omega
    have sz : s.natAbs.log2 < 9000 := pow_lt (Nat.lt_of_le_of_lt (by omega) hz) (by decide)
    obtain ⟨eN, eD⟩ : p.fdiv s = frN p q ∧ q.fdiv s = frD p q := by
      unfold frN frD
      rcases hs2 with ⟨e, h1⟩ | ⟨e, h1⟩
      · rw [if_neg (by omega), if_neg (by omega), e]
        exact ⟨fdiv_exact (by omega) (low_l p q).symm, fdiv_exact (by omega) (low_r p q).symm⟩
      · rw [if_pos h1, if_pos h1]
        have l1 := low_l (-p) (-q)
        have l2 := low_r (-p) (-q)
        rw [gI_neg] at l1 l2
        refine ⟨fdiv_exact s0 ?_, fdiv_exact s0 ?_⟩
        · rw [e, Int.neg_mul, l1, Int.neg_neg]
        · rw [e, Int.neg_mul, l2, Int.neg_neg]
    have hD := frD_pos (p := p) hq
    have hC := fr_cop (p := p) hq
    walk_at "v"; walk_at "v"; refine ⟨rfl, ?_⟩; walk_at "v"
    refine iteD (fun h1 => ?_) (fun h1 => ?_)
    · have e1 : q = s := V.int.inj h1
      walk_at "v"; walk_at "v"; refine ⟨_, _, rfl, rfl, ⟨s0, sz⟩, ?_⟩
      refine kQ hq _ _ (Same.refl H) (.inl ⟨congrArg V.int eN, ?_⟩)
      rw [← eD, ← e1]
      exact fdiv_exact hq (by omega)
    · walk_at "v"; walk_at "v"; refine ⟨_, _, rfl, rfl, ⟨s0, sz⟩, ?_⟩
      walk_at "v"; walk_at "v"; refine ⟨_, _, rfl, rfl, ⟨s0, sz⟩, ?_⟩
      refine ⟨by show 2 ≤ sizeLine; decide, fun a ha => ?_⟩
      refine kQ hq _ _ (Same.new ha) (.inr ⟨a, rfl, ?_, ?_, hC⟩)
      · exact upd_same.trans (by show some (HO.tup [V.int (p.fdiv s), V.int (q.fdiv s)]) = _; rw [eN, eD])
      · rcases Int.lt_or_le (frD p q) 2 with z | z
        · exfalso
          have z1 : frD p q = 1 := by omega
          apply h1
          have : q = s * frD p q := by
            rcases hs2 with ⟨e, h2⟩ | ⟨e, h2⟩
            · unfold frD; rw [if_neg (by omega), e, low_r]
            · unfold frD
              have l2 := low_r (-p) (-q)
              rw [gI_neg] at l2
              rw [if_pos h2, e, Int.neg_mul, l2, Int.neg_neg]
          rw [z1, Int.mul_one] at this
          rw [this]
        · exact z
  walk_at "v"; walk_at "ii"; walk_at "v"
  refine iteD (fun h1 => ?_) (fun h1 => ?_)
  · walk_at "v"; walk_at "v"
    exact main _ (.inr ⟨rfl, h1⟩)
  · exact main _ (.inl ⟨rfl, by omega⟩)
end Md

set_option Elab.async false
set_option linter.all false
set_option maxRecDepth 100000
set_option maxHeartbeats 4000000
namespace Md
open PySem PySem.Spec PyProof.Rows PySem.Calls L2
local macro_rules | `(tactic| walk_at "v") => `(tactic| refine ⟨_, rfl, ?_⟩)
local macro_rules | `(tactic| walk_at "ii") => `(tactic| refine ⟨_, _, rfl, rfl, ?_⟩)
local macro_rules | `(tactic| walk_at "ixL") => `(tactic| refine Or.inl ⟨_, _, _, _, rfl, rfl, SqL.of (by assumption), rfl, ?_⟩)
local macro_rules | `(tactic| walk_at "ixT") => `(tactic| refine Or.inr (Or.inl ⟨_, _, _, _, rfl, rfl, SqT.of (by assumption), rfl, ?_⟩))

/-! ### _over -/
def t__over (K : PySem.W.Frag) (A : Ads) (E : XK) : TS :=
    (tSeq (tIfS (tB (tCall (sp_is_whole K A) [] E0 (tCons (tVar 0) tNil))) (tRet (tTup (tCons (tVar 0) (tCons (tC (.int 1)) tNil)))) tNext)
    (tRet (tVar 0)))
def n__over : List Str := ["value"]
def sp__over (K : PySem.W.Frag) (A : Ads) : Sp := fun vs H Q _ => ∃ (x : V) (p q : Int), vs = [x] ∧ NumAt H x p q ∧ ∀ y H', Same H H' → PairAt H' y p q → Q y H'
theorem len__over {K : PySem.W.Frag} {A : Ads} {vs : List V} {H : Hp} {Q : VK} {E : XK} (h : sp__over K A vs H Q E) : vs.length = 1 := by
  obtain ⟨x, p, q, rfl, _⟩ := h
  rfl
theorem pure__over {K : PySem.W.Frag} {A : Ads} {vs : List V} {H : Hp} {Q : VK} {E : XK} (h : sp__over K A vs H Q E) : t__over K A E { nx := fun _ H' => Q .non H', rt := Q } (start n__over vs) H := by
  obtain ⟨x, p, q, rfl, hn, k⟩ := h
  rcases hn with ⟨rfl, rfl⟩ | ⟨a, rfl, ha, h2, hc⟩
  · walk_at "v"
    refine ⟨_, _, rfl, ty_int, ⟨_, rfl, ?_⟩⟩
    show (if true = true then _ else _)
    refine iteT ?_
    walk_at "v"
    refine ⟨by show 2 ≤ sizeLine; decide, fun t ht => ?_⟩
    exact k _ _ (Same.new ht) ⟨t, rfl, upd_same⟩
  · walk_at "v"
    refine ⟨_, _, rfl, ty_tup ha, ⟨_, rfl, ?_⟩⟩
    refine iteF ?_
    walk_at "v"
    exact k _ _ (Same.refl H) ⟨a, rfl, ha⟩
/-! ### compare -/
def cmpI (a b : Int) : Int := if a < b then -1 else if b < a then 1 else 0
def t_compare (K : PySem.W.Frag) (A : Ads) (E : XK) : TS :=
    (tSeq (tAsg (tCall (sp__over K A) [] E0 (tCons (tVar 0) tNil)) (gTup K 2 (gCons (gName 4) (gCons (gName 5) gNil))))
    (tSeq (tAsg (tCall (sp__over K A) [] E0 (tCons (tVar 1) tNil)) (gTup K 2 (gCons (gName 6) (gCons (gName 7) gNil))))
    (tSeq (tAsg (tOp rMulW (tVar 4) (tVar 7)) (gName 2))
    (tSeq (tAsg (tOp rMulW (tVar 6) (tVar 5)) (gName 3))
    (tSeq (tIfS (tTest (tOp rLt (tVar 2) (tVar 3))) (tRet (tUn rNeg (tC (.int 1)))) tNext)
    (tRet (tIf (tTest (tOp rGt (tVar 2) (tVar 3))) (tC (.int 1)) (tC (.int 0)))))))))
def n_compare : List Str := ["one", "other", "left", "right", "top", "bottom", "other_top", "other_bottom"]
def sp_compare (K : PySem.W.Frag) (A : Ads) : Sp := fun vs H Q _ => ∃ (x y : V) (p q p' q' : Int), vs = [x, y] ∧ NumAt H x p q ∧ NumAt H y p' q' ∧ (p.natAbs < 2 ^ 9000 ∧ q.natAbs < 2 ^ 9000 ∧ p'.natAbs < 2 ^ 9000 ∧ q'.natAbs < 2 ^ 9000) ∧
  ∀ H', Same H H' → Q (.int (cmpI (p * q') (p' * q))) H'
theorem len_compare {K : PySem.W.Frag} {A : Ads} {vs : List V} {H : Hp} {Q : VK} {E : XK} (h : sp_compare K A vs H Q E) : vs.length = 2 := by
  obtain ⟨x, y, p, q, p', q', rfl, _⟩ := h
  rfl
theorem mulW {i j : Int} (h1 : i.natAbs < 2 ^ 9001) (h2 : j.natAbs < 2 ^ 9001) : CMulW i j := wide_mul h1 h2 (by decide) (by decide) (by decide)
theorem mulW0 {i j : Int} (h1 : i.natAbs < 2 ^ 9000) (h2 : j.natAbs < 2 ^ 9000) : CMulW i j := mulW (pow_mono h1 (by decide)) (pow_mono h2 (by decide))
theorem pure_compare {K : PySem.W.Frag} {A : Ads} {vs : List V} {H : Hp} {Q : VK} {E : XK} (h : sp_compare K A vs H Q E) : t_compare K A E { nx := fun _ H' => Q .non H', rt := Q } (start n_compare vs) H := by
  obtain ⟨x, y, p, q, p', q', rfl, h1, h2, ⟨z1, z2, z3, z4⟩, k⟩ := h
  walk_at "v"
  refine ⟨_, _, _, rfl, h1, fun u H1 s1 hu => ?_⟩
  obtain ⟨a, rfl, ha⟩ := hu
  refine ⟨a, _, rfl, SqT.of ha, rfl, _, _, rfl, _, _, rfl, rfl, ?_⟩
  walk_at "v"
  refine ⟨_, _, _, rfl, h2.same s1, fun u2 H2 s2 hu2 => ?_⟩
  obtain ⟨a2, rfl, ha2⟩ := hu2
  refine ⟨a2, _, rfl, SqT.of ha2, rfl, _, _, rfl, _, _, rfl, rfl, ?_⟩
  have s3 := Same.trans s1 s2
  walk_at "v"; walk_at "v"; refine ⟨_, _, rfl, rfl, mulW0 z1 z4, ?_⟩
  walk_at "v"; walk_at "v"; refine ⟨_, _, rfl, rfl, mulW0 z3 z2, ?_⟩
  have kk := k H2 s3
  unfold cmpI at kk
  walk_at "v"; walk_at "v"; walk_at "ii"; walk_at "v"
  refine iteD (fun h0 => ?_) (fun h0 => ?_)
  · refine ⟨_, rfl, ?_⟩
    rw [if_pos h0] at kk
    exact kk
  · rw [if_neg h0] at kk
    walk_at "v"; walk_at "v"; walk_at "ii"; walk_at "v"
    refine iteD (fun h3 => ?_) (fun h3 => ?_)
    · rw [if_pos h3] at kk
      exact kk
    · rw [if_neg h3] at kk
      exact kk
/-! ### _negative -/
def t__negative (K : PySem.W.Frag) (A : Ads) (E : XK) : TS :=
    (tRet (tTup (tCons (tUn rNeg (tOp (rIx K) (tVar 0) (tC (.int 0)))) (tCons (tOp (rIx K) (tVar 0) (tC (.int 1))) tNil))))
def n__negative : List Str := ["over"]
def sp__negative (K : PySem.W.Frag) (A : Ads) : Sp := fun vs H Q _ => ∃ (x : V) (p q : Int), vs = [x] ∧ PairAt H x p q ∧ ∀ y H', Same H H' → PairAt H' y (-p) q → Q y H'
theorem len__negative {K : PySem.W.Frag} {A : Ads} {vs : List V} {H : Hp} {Q : VK} {E : XK} (h : sp__negative K A vs H Q E) : vs.length = 1 := by
  obtain ⟨x, p, q, rfl, _⟩ := h
  rfl
theorem pure__negative {K : PySem.W.Frag} {A : Ads} {vs : List V} {H : Hp} {Q : VK} {E : XK} (h : sp__negative K A vs H Q E) : t__negative K A E { nx := fun _ H' => Q .non H', rt := Q } (start n__negative vs) H := by
  obtain ⟨x, p, q, rfl, ⟨a, rfl, ha⟩, k⟩ := h
  walk_at "v"; walk_at "ixT"; walk_at "v"; walk_at "v"; walk_at "ixT"
  refine ⟨by show 2 ≤ sizeLine; decide, fun t ht => ?_⟩
  exact k _ _ (Same.new ht) ⟨t, rfl, upd_same⟩

/-! ### _law_bag -/
def t__law_bag (K : PySem.W.Frag) (A : Ads) (E : XK) : TS :=
    (tSeq (tAsg (tIf (tTest (tOp rLt (tVar 1) (tCB (rLen K) (tCons (tVar 0) tNil)))) (tOp (rIx K) (tVar 0) (tVar 1)) (tC (.int 0))) (gName 2))
    (tSeq (tAsg (tIf (tTest (tOp rGe (tCB rAbs (tCons (tVar 2) tNil)) (tOp rPow (tC (.int 10)) (tC (.int 18))))) (tCB rAbs (tCons (tVar 2) tNil)) (tC (.int 0))) (gName 3))
    (tRet (tLst (tCons (tVar 3) (tCons (tOp rAdd (tOp rAdd (tOp rMulW (tOp rMod (tCB rInt1 (tCons (tVar 2) tNil)) (tC (.int 2305843009213693951))) (tC (.int 7))) (tOp rMulW (tC (.int 9176)) (tVar 1))) (tC (.int 7001))) (tCons (tC (.int 0)) tNil)))))))
def n__law_bag : List Str := ["_law_script", "_law_at", "_law_cell", "_law_large"]
def sp__law_bag (K : PySem.W.Frag) (A : Ads) : Sp := fun vs H Q _ => ∃ (s : Addr) (ns : List Int) (at_ : Int), vs = [.ref s, .int at_] ∧ SqL K H s (ns.map V.int) ∧ ns.length ≤ 63 ∧ 0 ≤ at_ ∧ at_ ≤ 62 ∧ ∀ b H', H b = none → Same H H' → Bag 549755813888 H' b → Q (.ref b) H'
theorem len__law_bag {K : PySem.W.Frag} {A : Ads} {vs : List V} {H : Hp} {Q : VK} {E : XK} (h : sp__law_bag K A vs H Q E) : vs.length = 2 := by
  obtain ⟨x, p, q, rfl, _⟩ := h
  rfl
theorem atI_map {ns : List Int} {i : Int} (h0 : 0 ≤ i) (h1 : i < ns.length) : ∃ c, atI (ns.map V.int) i = some (.int c) := by
  have h2 : i.toNat < ns.length := by omega
  refine ⟨ns[i.toNat], ?_⟩
  unfold atI ixN
  rw [if_pos h0, List.length_map, if_pos h1]
  show (ns.map V.int)[i.toNat]? = _
  rw [List.getElem?_map, List.getElem?_eq_getElem h2]
  rfl
theorem pure__law_bag {K : PySem.W.Frag} {A : Ads} {vs : List V} {H : Hp} {Q : VK} {E : XK} (h : sp__law_bag K A vs H Q E) : t__law_bag K A E { nx := fun _ H' => Q .non H', rt := Q } (start n__law_bag vs) H := by
  obtain ⟨s, ns, i, rfl, hs, hn, h0, h1, k⟩ := h
  have main : ∀ c : Int, (tSeq (tAsg (tIf (tTest (tOp rGe (tCB rAbs (tCons (tVar 2) tNil)) (tOp rPow (tC (.int 10)) (tC (.int 18))))) (tCB rAbs (tCons (tVar 2) tNil)) (tC (.int 0))) (gName 3))
    (tRet (tLst (tCons (tVar 3) (tCons (tOp rAdd (tOp rAdd (tOp rMulW (tOp rMod (tCB rInt1 (tCons (tVar 2) tNil)) (tC (.int 2305843009213693951))) (tC (.int 7))) (tOp rMulW (tC (.int 9176)) (tVar 1))) (tC (.int 7001))) (tCons (tC (.int 0)) tNil))))))
     { nx := fun _ H' => Q .non H', rt := Q } [some (.ref s), some (.int i), some (.int c), none] H := by
    intro c
    have fin : ∀ L : Int, 0 ≤ L → (tRet (tLst (tCons (tVar 3) (tCons (tOp rAdd (tOp rAdd (tOp rMulW (tOp rMod (tCB rInt1 (tCons (tVar 2) tNil)) (tC (.int 2305843009213693951))) (tC (.int 7))) (tOp rMulW (tC (.int 9176)) (tVar 1))) (tC (.int 7001))) (tCons (tC (.int 0)) tNil)))))
     { nx := fun _ H' => Q .non H', rt := Q } [some (.ref s), some (.int i), some (.int c), some (.int L)] H := by
      intro L hL
      have b1 := Int.emod_nonneg c (by decide : (2305843009213693951 : Int) ≠ 0)
      have b2 := Int.emod_lt_of_pos c (by decide : (0 : Int) < 2305843009213693951)
      walk_at "v"; walk_at "v"; refine Or.inl ⟨_, rfl, ?_⟩; refine ⟨_, _, rfl, rfl, (by decide : (0 : Int) < 2305843009213693951), ?_⟩
      refine ⟨_, _, rfl, rfl, CMulW.small (by omega) (by decide) (by decide), ?_⟩
      walk_at "v"; refine ⟨_, _, rfl, rfl, CMulW.small (by decide) (by omega) (by omega), ?_⟩
      walk_at "ii"; walk_at "ii"
      refine ⟨by show 3 ≤ sizeLine; decide, fun t ht => ?_⟩
      refine k t _ ht (Same.new ht) ⟨L, _, 0, upd_same, hL, by omega, by omega, by omega, by omega⟩
    walk_at "v"; walk_at "v"; refine ⟨_, _, rfl, rfl, ⟨by decide, by decide, by decide⟩, ?_⟩; walk_at "ii"; walk_at "v"
    refine iteD (fun h2 => ?_) (fun h2 => ?_)
    · walk_at "v"; walk_at "v"
      refine fin _ ?_
      split <;> omega
    · exact fin 0 (by omega)
  walk_at "v"; walk_at "v"; refine ⟨_, _, rfl, Or.inl ⟨_, hs, rfl⟩, ?_⟩; walk_at "ii"; walk_at "v"
  refine iteD (fun h2 => ?_) (fun h2 => ?_)
  · rw [List.length_map] at h2
    obtain ⟨c, hc⟩ := atI_map h0 h2
    walk_at "v"; walk_at "v"
    refine Or.inl ⟨_, _, _, _, rfl, rfl, hs, hc, ?_⟩
    exact main c
  · exact main 0

/-! ### _law_value -/
def t__law_value (K : PySem.W.Frag) (A : Ads) (E : XK) : TS :=
    (tSeq (tPar 2 3 (tCons (tCB rAbs (tCons (tVar 0) tNil)) (tCons (tVar 1) tNil)))
    (tSeq (tWhile (tTest (tOp rGt (tVar 2) (tC (.int 0)))) (tPar 2 3 (tCons (tOp rMod (tCB rInt1 (tCons (tVar 3) tNil)) (tVar 2)) (tCons (tVar 2) tNil))))
    (tRet (tIf (tTest (tOp rEq (tVar 1) (tVar 3))) (tOp rFdvW (tVar 0) (tVar 3)) (tTup (tCons (tOp rFdvW (tVar 0) (tVar 3)) (tCons (tOp rFdvW (tVar 1) (tVar 3)) tNil)))))))
def n__law_value : List Str := ["_law_p", "_law_q", "_law_low", "_law_high"]
def sp__law_value (K : PySem.W.Frag) (A : Ads) : Sp := fun vs H Q _ => ∃ p q : Int, vs = [.int p, .int q] ∧ 0 < q ∧ q.natAbs < 2 ^ 9000 ∧ ∀ x H', Same H H' → NumAt H' x (lowN p q) (lowD p q) → Q x H'
theorem len__law_value {K : PySem.W.Frag} {A : Ads} {vs : List V} {H : Hp} {Q : VK} {E : XK} (h : sp__law_value K A vs H Q E) : vs.length = 2 := by
  obtain ⟨p, q, rfl, _⟩ := h
  rfl
theorem gI_step {l h : Int} (hl : 0 < l) (hh : 0 ≤ h) : gI (h % l) l = gI l h := by
  unfold gI
  obtain ⟨m, rfl⟩ := Int.eq_ofNat_of_zero_le (Int.le_of_lt hl)
  obtain ⟨n, rfl⟩ := Int.eq_ofNat_of_zero_le hh
  have e : ((n : Int) % (m : Int)).natAbs = n % m := by rw [← Int.natCast_emod]; rfl
  rw [e]
  show ((Nat.gcd (n % m) m : Nat) : Int) = ((Nat.gcd m n : Nat) : Int)
  rw [Nat.gcd_rec m n]
theorem pure__law_value {K : PySem.W.Frag} {A : Ads} {vs : List V} {H : Hp} {Q : VK} {E : XK} (h : sp__law_value K A vs H Q E) : t__law_value K A E { nx := fun _ H' => Q .non H', rt := Q } (start n__law_value vs) H := by
  obtain ⟨p, q, rfl, hq, hz, k⟩ := h
  walk_at "v"; walk_at "v"; walk_at "v"
  refine ⟨_, _, rfl, ?_⟩
  refine ⟨fun m σ H' => H' = H ∧ ∃ l h : Int, σ = [some (.int p), some (.int q), some (.int l), some (.int h)] ∧ 0 ≤ l ∧ 0 < h ∧ gI l h = gI p q ∧ m = l.toNat, ⟨_, rfl, _, _, rfl, ?_, hq, ?_, rfl⟩, ?_⟩
  · split <;> omega
  · show gI (if p < 0 then -p else p) q = gI p q
    unfold gI
    split
    · rw [Int.natAbs_neg]
    · rfl
  · rintro m σ H' ⟨rfl, l, h, rfl, h0, h1, hg, rfl⟩
    walk_at "v"; walk_at "ii"; walk_at "v"
    refine iteD (fun h2 => ?_) (fun h2 => ?_)
    · refine ⟨_, fun σ' H' z => z, ?_⟩
      · walk_at "v"; refine Or.inl ⟨_, rfl, ?_⟩; walk_at "v"; refine ⟨_, _, rfl, rfl, h2, ?_⟩; walk_at "v"
        refine ⟨_, _, rfl, ?_⟩
        have b1 := Int.emod_nonneg h (by omega : l ≠ 0)
        have b2 := Int.emod_lt_of_pos h h2
        exact ⟨(h % l).toNat, by omega, rfl, h % l, l, rfl, b1, h2, by rw [gI_step h2 (by omega), hg], rfl⟩
    · have e0 : l = 0 := by omega
      subst e0
      have eh : h = gI p q := by
        rw [← hg]
        unfold gI
        show h = ((Nat.gcd 0 h.natAbs : Nat) : Int)
        rw [Nat.gcd_zero_left]
        omega
      have hs := gI_size (p := p) (q := q) (by omega)
      have hd : CDivW p h := ⟨h1, pow_lt (Nat.lt_of_le_of_lt (by omega) hz) (by decide)⟩
      have hD := lowD_pos (p := p) hq
      walk_at "v"; walk_at "v"; refine ⟨rfl, ?_⟩; walk_at "v"
      refine iteD (fun h3 => ?_) (fun h3 => ?_)
      · have e3 : q = h := V.int.inj h3
        walk_at "v"; walk_at "v"; refine ⟨_, _, rfl, rfl, hd, ?_⟩
        refine k _ _ (Same.refl _) (.inl ⟨by unfold lowN; rw [← eh], ?_⟩)
        unfold lowD
        rw [← eh, e3, Int.ediv_self (by omega)]
      · walk_at "v"; walk_at "v"; refine ⟨_, _, rfl, rfl, hd, ?_⟩
        walk_at "v"; walk_at "v"; refine ⟨_, _, rfl, rfl, hd, ?_⟩
        refine ⟨by show 2 ≤ sizeLine; decide, fun a ha => ?_⟩
        refine k _ _ (Same.new ha) (.inr ⟨a, rfl, ?_, ?_, low_cop (by omega)⟩)
        · refine upd_same.trans ?_
          show some (HO.tup [V.int (p / h), V.int (q / h)]) = _
          rw [eh]; rfl
        · rcases Int.lt_or_le (lowD p q) 2 with z | z
          · exfalso
            apply h3
            have e1 : lowD p q = 1 := by omega
            have e2 := low_r p q
            rw [e1, Int.mul_one] at e2
            rw [eh, e2]
          · exact z
end Md

set_option Elab.async false
set_option linter.all false
set_option maxRecDepth 100000
set_option maxHeartbeats 4000000
set_option exponentiation.threshold 20000
namespace Md
open PySem PySem.Spec PyProof.Rows PySem.Calls L2
local macro_rules | `(tactic| walk_at "v") => `(tactic| refine ⟨_, rfl, ?_⟩)
local macro_rules | `(tactic| walk_at "ii") => `(tactic| refine ⟨_, _, rfl, rfl, ?_⟩)
local macro_rules | `(tactic| walk_at "ixL") => `(tactic| refine Or.inl ⟨_, _, _, _, rfl, rfl, SqL.of (by assumption), rfl, ?_⟩)
local macro_rules | `(tactic| walk_at "ixT") => `(tactic| refine Or.inr (Or.inl ⟨_, _, _, _, rfl, rfl, SqT.of (by assumption), rfl, ?_⟩))

/-! ### _law_number -/
def t__law_number (K : PySem.W.Frag) (A : Ads) (E : XK) : TS :=
    (tSeq (tIfS (tTest (tOp rGt (tCall (sp__law_take K A) [] E0 (tCons (tVar 0) (tCons (tC (.int 3)) tNil))) (tC (.int 0)))) (tRet (tCall (sp__law_value K A) [] E0 (tCons (tOp rSub (tCall (sp__law_take K A) [] E0 (tCons (tVar 0) (tCons (tC (.int 11)) tNil))) (tC (.int 5))) (tCons (tOp rAdd (tC (.int 1)) (tCall (sp__law_take K A) [] E0 (tCons (tVar 0) (tCons (tC (.int 3)) tNil)))) tNil)))) tNext)
    (tRet (tCall (sp__law_value K A) [] E0 (tCons (tOp rSub (tCall (sp__law_take K A) [] E0 (tCons (tVar 0) (tCons (tOp rAdd (tOp rMulW (tC (.int 2)) (tOp rPow (tC (.int 10)) (tC (.int 20)))) (tC (.int 1))) tNil))) (tOp rPow (tC (.int 10)) (tC (.int 20)))) (tCons (tOp rAdd (tC (.int 1)) (tCall (sp__law_take K A) [] E0 (tCons (tVar 0) (tCons (tOp rPow (tC (.int 10)) (tC (.int 9))) tNil)))) tNil)))))
def n__law_number : List Str := ["_law_bag_here"]
def sp__law_number (K : PySem.W.Frag) (A : Ads) : Sp := fun vs H Q _ => ∃ (b : Addr) (n : Nat), vs = [.ref b] ∧ Bag (n + 3) H b ∧ ∀ x p q H', Xb b H H' → Bag n H' b → NumAt H' x p q → p.natAbs ≤ 10 ^ 20 → q.natAbs ≤ 10 ^ 9 → Q x H'
theorem len__law_number {K : PySem.W.Frag} {A : Ads} {vs : List V} {H : Hp} {Q : VK} {E : XK} (h : sp__law_number K A vs H Q E) : vs.length = 1 := by
  obtain ⟨p, q, rfl, _⟩ := h
  rfl
theorem pure__law_number {K : PySem.W.Frag} {A : Ads} {vs : List V} {H : Hp} {Q : VK} {E : XK} (h : sp__law_number K A vs H Q E) : t__law_number K A E { nx := fun _ H' => Q .non H', rt := Q } (start n__law_number vs) H := by
  obtain ⟨b, n, rfl, hb, k⟩ := h
  walk_at "v"
  refine ⟨b, 3, n + 2, rfl, hb, by decide, by decide, fun d H1 d0 d1 x1 hb1 => ?_⟩
  walk_at "ii"; walk_at "v"
  refine iteD (fun h0 => ?_) (fun h0 => ?_)
  · walk_at "v"
    refine ⟨b, 11, n + 1, rfl, hb1, by decide, by decide, fun d2 H2 d3 d4 x2 hb2 => ?_⟩
    walk_at "ii"; walk_at "v"
    refine ⟨b, 3, n, rfl, hb2, by decide, by decide, fun d5 H3 d6 d7 x3 hb3 => ?_⟩
    walk_at "ii"
    refine ⟨d2 - 5, 1 + d5, rfl, by omega, by omega, fun x H4 s4 hn => ?_⟩
    have l1 := lowN_le (d2 - 5) (1 + d5) (by omega)
    have l2 := lowD_le (d2 - 5) (1 + d5) (by omega)
    exact k x _ _ H4 ((x1.trans x2).trans (x3.trans (Xb.of s4))) (hb3.same s4) hn (by omega) (by omega)
  · walk_at "v"; refine ⟨_, _, rfl, rfl, ⟨by decide, by decide, by decide⟩, ?_⟩
    refine ⟨_, _, rfl, rfl, wide_mul (a := 8) (b := 128) (by decide) (by decide) (by decide) (by decide) (by decide), ?_⟩
    walk_at "ii"
    refine ⟨b, _, n + 1, rfl, hb1, by decide, by decide, fun d2 H2 d3 d4 x2 hb2 => ?_⟩
    refine ⟨_, _, rfl, rfl, ⟨by decide, by decide, by decide⟩, ?_⟩
    walk_at "ii"; walk_at "v"
    refine ⟨_, _, rfl, rfl, ⟨by decide, by decide, by decide⟩, ?_⟩
    refine ⟨b, _, n, rfl, hb2, by decide, by decide, fun d5 H3 d6 d7 x3 hb3 => ?_⟩
    walk_at "ii"
    have e1 : (10 : Int) ^ (20 : Int).toNat = 100000000000000000000 := by decide
    have e2 : (10 : Int) ^ (9 : Int).toNat = 1000000000 := by decide
    rw [e1] at d4
    rw [e2] at d7
    refine ⟨d2 - 10 ^ (20 : Int).toNat, 1 + d5, rfl, by omega, by omega, fun x H4 s4 hn => ?_⟩
    rw [e1] at hn
    have l1 := lowN_le (d2 - 100000000000000000000) (1 + d5) (by omega)
    have l2 := lowD_le (d2 - 100000000000000000000) (1 + d5) (by omega)
    refine k x _ _ H4 ((x1.trans x2).trans (x3.trans (Xb.of s4))) (hb3.same s4) hn ?_ ?_
    · have : (10 : Nat) ^ 20 = 100000000000000000000 := by decide
      omega
    · have : (10 : Nat) ^ 9 = 1000000000 := by decide
      omega
/-! ### _law_pair, _law_order -/
def t__law_pair (K : PySem.W.Frag) (A : Ads) (E : XK) : TS :=
    (tRet (tIf (tB (tCB (rIsi K) (tCons (tVar 0) (tCons (tC (.ty "tuple")) tNil)))) (tVar 0) (tTup (tCons (tVar 0) (tCons (tC (.int 1)) tNil)))))
def n__law_pair : List Str := ["_law_value_here"]
def sp__law_pair (K : PySem.W.Frag) (A : Ads) : Sp := sp__over K A
theorem len__law_pair {K : PySem.W.Frag} {A : Ads} {vs : List V} {H : Hp} {Q : VK} {E : XK} (h : sp__law_pair K A vs H Q E) : vs.length = 1 := len__over h
theorem pure__law_pair {K : PySem.W.Frag} {A : Ads} {vs : List V} {H : Hp} {Q : VK} {E : XK} (h : sp__law_pair K A vs H Q E) : t__law_pair K A E { nx := fun _ H' => Q .non H', rt := Q } (start n__law_pair vs) H := by
  obtain ⟨x, p, q, rfl, hn, k⟩ := h
  rcases hn with ⟨rfl, rfl⟩ | ⟨a, rfl, ha, h2, hc⟩
  · walk_at "v"
    refine ⟨_, _, _, _, _, rfl, .ty _, ty_int, kit_ty (by decide +kernel : kitB "int" "tuple" = some false), ?_⟩
    walk_at "v"
    refine iteF ?_
    walk_at "v"
    refine ⟨by show 2 ≤ sizeLine; decide, fun t ht => ?_⟩
    exact k _ _ (Same.new ht) ⟨t, rfl, upd_same⟩
  · walk_at "v"
    refine ⟨_, _, _, _, _, rfl, .ty _, ty_tup ha, kit_ty (by decide +kernel : kitB "tuple" "tuple" = some true), ?_⟩
    walk_at "v"
    refine iteT ?_
    walk_at "v"
    exact k _ _ (Same.refl H) ⟨a, rfl, ha⟩
def t__law_order (K : PySem.W.Frag) (A : Ads) (E : XK) : TS :=
    (tSeq (tPar 2 3 (tCons (tCall (sp__law_pair K A) [] E0 (tCons (tVar 0) tNil)) (tCons (tCall (sp__law_pair K A) [] E0 (tCons (tVar 1) tNil)) tNil)))
    (tRet (tOp rSub (tOp rMulW (tOp (rIx K) (tVar 2) (tC (.int 0))) (tOp (rIx K) (tVar 3) (tC (.int 1)))) (tOp rMulW (tOp (rIx K) (tVar 3) (tC (.int 0))) (tOp (rIx K) (tVar 2) (tC (.int 1)))))))
def n__law_order : List Str := ["_law_one", "_law_other", "_law_left", "_law_right"]
def sp__law_order (K : PySem.W.Frag) (A : Ads) : Sp := fun vs H Q _ => ∃ (x y : V) (p q p' q' : Int), vs = [x, y] ∧ NumAt H x p q ∧ NumAt H y p' q' ∧ (p.natAbs < 2 ^ 9000 ∧ q.natAbs < 2 ^ 9000 ∧ p'.natAbs < 2 ^ 9000 ∧ q'.natAbs < 2 ^ 9000) ∧
  ∀ H', Same H H' → Q (.int (p * q' - p' * q)) H'
theorem len__law_order {K : PySem.W.Frag} {A : Ads} {vs : List V} {H : Hp} {Q : VK} {E : XK} (h : sp__law_order K A vs H Q E) : vs.length = 2 := by
  obtain ⟨x, y, p, q, p', q', rfl, _⟩ := h
  rfl
theorem pure__law_order {K : PySem.W.Frag} {A : Ads} {vs : List V} {H : Hp} {Q : VK} {E : XK} (h : sp__law_order K A vs H Q E) : t__law_order K A E { nx := fun _ H' => Q .non H', rt := Q } (start n__law_order vs) H := by
  obtain ⟨x, y, p, q, p', q', rfl, h1, h2, ⟨z1, z2, z3, z4⟩, k⟩ := h
  walk_at "v"
  refine ⟨_, _, _, rfl, h1, fun u H1 s1 hu => ?_⟩
  obtain ⟨a, rfl, ha⟩ := hu
  walk_at "v"
  refine ⟨_, _, _, rfl, h2.same s1, fun u2 H2 s2 hu2 => ?_⟩
  obtain ⟨a2, rfl, ha2⟩ := hu2
  have ha1 := s2 _ _ ha
  refine ⟨_, _, rfl, ?_⟩
  walk_at "v"; walk_at "ixT"; walk_at "v"; walk_at "ixT"; refine ⟨_, _, rfl, rfl, mulW0 z1 z4, ?_⟩
  walk_at "v"; walk_at "ixT"; walk_at "v"; walk_at "ixT"; refine ⟨_, _, rfl, rfl, mulW0 z3 z2, ?_⟩
  walk_at "ii"
  exact k H2 (Same.trans s1 s2)
/-! ### _law_same, _law_is_lowest -/
theorem dp_pair {K : PySem.W.Frag} {H : Hp} {a : Addr} {p q : Int} (h : H a = some (.tup [.int p, .int q])) : Dp K H (.ref a) (.tuple [.int p, .int q]) := .tup (SqT.of h) (.cons (.int p) (.cons (.int q) .nil))
theorem shaped_int (p : Int) : SeqAt.shaped (.int p) = true := rfl
theorem shaped_pair (p q : Int) : SeqAt.shaped (.tuple [.int p, .int q]) = true := by
  unfold SeqAt.shaped
  simp [PyData.canLay0, PyData.canLayAll0, PyData.depth, PyData.depthAll]
theorem NumAt.eqD {K : PySem.W.Frag} {H : Hp} {x y : V} {p q : Int} {Q : VK} (h1 : NumAt H x p q) (h2 : NumAt H y p q) (k : Q (.bl true) H) : rEqD K x y H Q := by
  rcases h1 with ⟨rfl, rfl⟩ | ⟨a, rfl, ha, h3, _⟩
  · rcases h2 with ⟨rfl, _⟩ | ⟨b, rfl, hb, h4, _⟩
    · refine ⟨_, _, .int p, .int p, shaped_int p, shaped_int p, ?_⟩
      have e : PyData.eqv (.int p) (.int p) = true := by simp [PyData.eqv]
      rw [e]; exact k
    · omega
  · rcases h2 with ⟨rfl, h4⟩ | ⟨b, rfl, hb, h4, _⟩
    · omega
    · refine ⟨_, _, dp_pair ha, dp_pair hb, shaped_pair p q, shaped_pair p q, ?_⟩
      have e : PyData.eqv (.tuple [.int p, .int q]) (.tuple [.int p, .int q]) = true := by simp [PyData.eqv, PyData.eqvAll]
      rw [e]; exact k
def t__law_same (K : PySem.W.Frag) (A : Ads) (E : XK) : TS :=
    (tSeq (tIfS (tNot (tB (tCB (rIsi K) (tCons (tVar 1) (tCons (tC (.ty "tuple")) tNil))))) (tRet (tAndV (tCall (sp__law_is_int K A) [] E0 (tCons (tVar 0) tNil)) (tOp (rEqD K) (tVar 0) (tVar 1)))) tNext)
    (tSeq (tIfS (tOr (tNot (tB (tCB (rIsi K) (tCons (tVar 0) (tCons (tC (.ty "tuple")) tNil))))) (tTest (tOp rNe (tCB (rLen K) (tCons (tVar 0) tNil)) (tC (.int 2))))) (tRet (tC (.bl false))) tNext)
    (tRet (tAndV (tCall (sp__law_is_int K A) [] E0 (tCons (tOp (rIx K) (tVar 0) (tC (.int 0))) tNil)) (tAndV (tCall (sp__law_is_int K A) [] E0 (tCons (tOp (rIx K) (tVar 0) (tC (.int 1))) tNil)) (tOp (rEqD K) (tVar 0) (tVar 1)))))))
def n__law_same : List Str := ["_law_actual", "_law_due"]
def sp__law_same (K : PySem.W.Frag) (A : Ads) : Sp := fun vs H Q _ => ∃ (x y : V) (p q : Int), vs = [x, y] ∧ NumAt H x p q ∧ NumAt H y p q ∧ ∀ H', Same H H' → Q (.bl true) H'
theorem len__law_same {K : PySem.W.Frag} {A : Ads} {vs : List V} {H : Hp} {Q : VK} {E : XK} (h : sp__law_same K A vs H Q E) : vs.length = 2 := by
  obtain ⟨x, y, p, q, rfl, _⟩ := h
  rfl
theorem pure__law_same {K : PySem.W.Frag} {A : Ads} {vs : List V} {H : Hp} {Q : VK} {E : XK} (h : sp__law_same K A vs H Q E) : t__law_same K A E { nx := fun _ H' => Q .non H', rt := Q } (start n__law_same vs) H := by
  obtain ⟨x, y, p, q, rfl, h1, h2, k⟩ := h
  have kk := k H (Same.refl H)
  have ee := fun {Q : VK} => NumAt.eqD (K := K) (Q := Q) h1 h2
  rcases h1 with ⟨rfl, rfl⟩ | ⟨a, rfl, ha, h3, _⟩
  · rcases h2 with ⟨rfl, _⟩ | ⟨b, rfl, hb, h4, _⟩
    · walk_at "v"
      refine ⟨_, _, _, _, _, rfl, .ty _, ty_int, kit_ty (by decide +kernel : kitB "int" "tuple" = some false), ?_⟩
      walk_at "v"
      show (if (!false) = true then _ else _)
      refine iteT ?_
      walk_at "v"
      refine ⟨_, _, rfl, ty_int, ⟨_, rfl, ?_⟩⟩
      refine iteT ?_
      walk_at "v"; walk_at "v"
      exact ee kk
    · omega
  · rcases h2 with ⟨rfl, h4⟩ | ⟨b, rfl, hb, h4, _⟩
    · omega
    · walk_at "v"
      refine ⟨_, _, _, _, _, rfl, .ty _, ty_tup hb, kit_ty (by decide +kernel : kitB "tuple" "tuple" = some true), ?_⟩
      walk_at "v"
      show (if (!true) = true then _ else _)
      refine iteF ?_
      walk_at "v"
      refine ⟨_, _, _, _, _, rfl, .ty _, ty_tup ha, kit_ty (by decide +kernel : kitB "tuple" "tuple" = some true), ?_⟩
      walk_at "v"
      show (if (!true) = true then _ else _)
      refine iteF ?_
      walk_at "v"
      refine ⟨_, _, rfl, .inr ⟨_, SqT.of ha, rfl⟩, ?_⟩
      refine ⟨rfl, ?_⟩
      walk_at "v"
      show (if (!decide (V.int 2 = V.int 2)) = true then _ else _)
      refine iteF ?_
      walk_at "v"; walk_at "ixT"
      refine ⟨_, _, rfl, ty_int, ⟨_, rfl, ?_⟩⟩
      refine iteT ?_
      walk_at "v"; walk_at "ixT"
      refine ⟨_, _, rfl, ty_int, ⟨_, rfl, ?_⟩⟩
      refine iteT ?_
      walk_at "v"; walk_at "v"
      exact ee kk
def t__law_is_lowest (K : PySem.W.Frag) (A : Ads) (E : XK) : TS :=
    (tSeq (tIfS (tB (tCall (sp__law_is_int K A) [] E0 (tCons (tVar 0) tNil))) (tRet (tC (.bl true))) tNext)
    (tSeq (tIfS (tOr (tNot (tB (tCB (rIsi K) (tCons (tVar 0) (tCons (tC (.ty "tuple")) tNil))))) (tOr (tTest (tOp rNe (tCB (rLen K) (tCons (tVar 0) tNil)) (tC (.int 2)))) (tOr (tNot (tB (tCall (sp__law_is_int K A) [] E0 (tCons (tOp (rIx K) (tVar 0) (tC (.int 0))) tNil)))) (tNot (tB (tCall (sp__law_is_int K A) [] E0 (tCons (tOp (rIx K) (tVar 0) (tC (.int 1))) tNil))))))) (tRet (tC (.bl false))) tNext)
    (tRet (tAndV (tOp rGt (tOp (rIx K) (tVar 0) (tC (.int 1))) (tC (.int 1))) (tOp (rEqD K) (tCall (sp__law_value K A) [] E0 (tCons (tOp (rIx K) (tVar 0) (tC (.int 0))) (tCons (tOp (rIx K) (tVar 0) (tC (.int 1))) tNil))) (tVar 0))))))
def n__law_is_lowest : List Str := ["_law_value_here"]
def sp__law_is_lowest (K : PySem.W.Frag) (A : Ads) : Sp := fun vs H Q _ => ∃ (x : V) (p q : Int), vs = [x] ∧ NumAt H x p q ∧ q.natAbs < 2 ^ 9000 ∧ ∀ H', Same H H' → Q (.bl true) H'
theorem len__law_is_lowest {K : PySem.W.Frag} {A : Ads} {vs : List V} {H : Hp} {Q : VK} {E : XK} (h : sp__law_is_lowest K A vs H Q E) : vs.length = 1 := by
  obtain ⟨x, p, q, rfl, _⟩ := h
  rfl
theorem pure__law_is_lowest {K : PySem.W.Frag} {A : Ads} {vs : List V} {H : Hp} {Q : VK} {E : XK} (h : sp__law_is_lowest K A vs H Q E) : t__law_is_lowest K A E { nx := fun _ H' => Q .non H', rt := Q } (start n__law_is_lowest vs) H := by
  obtain ⟨x, p, q, rfl, h1, hz, k⟩ := h
  have h0 := h1
  rcases h1 with ⟨rfl, rfl⟩ | ⟨a, rfl, ha, h3, hc⟩
  · walk_at "v"
    refine ⟨_, _, rfl, ty_int, ⟨_, rfl, ?_⟩⟩
    refine iteT ?_
    exact k H (Same.refl H)
  · walk_at "v"
    refine ⟨_, _, rfl, ty_tup ha, ⟨_, rfl, ?_⟩⟩
    refine iteF ?_
    walk_at "v"
    refine ⟨_, _, _, _, _, rfl, .ty _, ty_tup ha, kit_ty (by decide +kernel : kitB "tuple" "tuple" = some true), ?_⟩
    walk_at "v"
    show (if (!true) = true then _ else _)
    refine iteF ?_
    walk_at "v"
    refine ⟨_, _, rfl, .inr ⟨_, SqT.of ha, rfl⟩, ?_⟩
    refine ⟨rfl, ?_⟩
    walk_at "v"
    show (if (!decide (V.int 2 = V.int 2)) = true then _ else _)
    refine iteF ?_
    walk_at "v"; walk_at "ixT"
    refine ⟨_, _, rfl, ty_int, ⟨_, rfl, ?_⟩⟩
    show (if (!true) = true then _ else _)
    refine iteF ?_
    walk_at "v"; walk_at "ixT"
    refine ⟨_, _, rfl, ty_int, ⟨_, rfl, ?_⟩⟩
    show (if (!true) = true then _ else _)
    refine iteF ?_
    walk_at "v"; walk_at "ixT"; walk_at "ii"; walk_at "v"
    refine iteD (fun h5 => ?_) (fun h5 => absurd (by omega) h5)
    walk_at "v"; walk_at "ixT"; walk_at "v"; walk_at "ixT"
    obtain ⟨e1, e2⟩ := low_of_cop hc (by omega)
    refine ⟨p, q, rfl, by omega, hz, fun y H1 s1 hy => ?_⟩
    walk_at "v"
    rw [e1, e2] at hy
    exact NumAt.eqD hy (h0.same s1) (k H1 s1)
end Md

set_option Elab.async false
set_option linter.all false
set_option maxRecDepth 100000
set_option maxHeartbeats 4000000
set_option exponentiation.threshold 20000
namespace Md
open PySem PySem.Spec PyProof.Rows PySem.Calls L2
local macro_rules | `(tactic| walk_at "v") => `(tactic| refine ⟨_, rfl, ?_⟩)
local macro_rules | `(tactic| walk_at "fls") => `(tactic| (refine ⟨_, rfl, ?_⟩; show (if (!true) = true then _ else _); refine iteF ?_))
local macro_rules | `(tactic| walk_at "isnt") => `(tactic| (refine ⟨_, _, rfl, rfl, _, rfl, ?_⟩; refine iteN (fun _ => ?_) fun h => absurd rfl h))
local macro_rules | `(tactic| walk_at "ii") => `(tactic| refine ⟨_, _, rfl, rfl, ?_⟩)
local macro_rules | `(tactic| walk_at "ixL") => `(tactic| refine Or.inl ⟨_, _, _, _, rfl, rfl, SqL.of (by assumption), rfl, ?_⟩)
local macro_rules | `(tactic| walk_at "ixT") => `(tactic| refine Or.inr (Or.inl ⟨_, _, _, _, rfl, rfl, SqT.of (by assumption), rfl, ?_⟩))
/-! ### is_number -/
def pairB : V → V → Bool
  | .int p, .int q => decide (2 ≤ q) && decide (Nat.gcd p.natAbs q.natAbs = 1)
  | _, _ => false
def NumB (K : PySem.W.Frag) (H : Hp) (x : V) (r : Bool) : Prop := (∃ T, TyX K H x (.type T) ∧ T ≠ "tuple" ∧ r = isIntV x) ∨ (∃ a xs, x = .ref a ∧ H a = some (.tup xs) ∧ xs.length ≠ 2 ∧ r = false) ∨
  (∃ a u v T1 T2, x = .ref a ∧ H a = some (.tup [u, v]) ∧ TyX K H u (.type T1) ∧ TyX K H v (.type T2) ∧ r = pairB u v)
theorem kit_tup {K : PySem.W.Frag} {H : Hp} {x : V} {T : String} (ty : TyX K H x (.type T)) (hn : T ≠ "tuple") : kitB T "tuple" = some false := by
  cases ty with
  | base b => cases b <;> first | (exact absurd rfl hn) | decide +kernel
  | _ => first | (exact absurd rfl hn) | decide +kernel
theorem NumB.same {K : PySem.W.Frag} {H H' : Hp} {x : V} {r : Bool} (h : NumB K H x r) (s : Same H H') (ht : ∀ y T, TyX K H y (.type T) → TyX K H' y (.type T)) : NumB K H' x r := by
  rcases h with ⟨T, h1, h2⟩ | ⟨a, xs, e, ha, h⟩ | ⟨a, u, v, T1, T2, e, ha, h1, h2, h3⟩
  · exact .inl ⟨T, ht _ _ h1, h2⟩
  · exact .inr (.inl ⟨a, xs, e, s _ _ ha, h⟩)
  · exact .inr (.inr ⟨a, u, v, T1, T2, e, s _ _ ha, ht _ _ h1, ht _ _ h2, h3⟩)
theorem tyX_same {K : PySem.W.Frag} {H H' : Hp} {x : V} {T : String} (s : Same H H') (h : TyX K H x (.type T)) : TyX K H' x (.type T) := by
  cases h with
  | base b =>
    refine .base ?_
    cases b with
    | non => exact .non
    | bl b => exact .bl b
    | int b => exact .int b
    | str b => exact .str b
    | flt b => exact .flt b
    | lst e => exact .lst (s _ _ e)
    | frz e => exact .frz (s _ _ e)
    | tup e => exact .tup (s _ _ e)
    | dK e => exact .dK (s _ _ e)
    | dT e => exact .dT (s _ _ e)
  | byt b => exact .byt b
  | set e => exact .set (s _ _ e)
  | kList e c => exact .kList e c
  | kTuple e c => exact .kTuple e c
  | kDict e c => exact .kDict e c
  | fTuple e => exact .fTuple (s _ _ e)
  | fDict e => exact .fDict (s _ _ e)
theorem NumB.mono {K : PySem.W.Frag} {H H' : Hp} {x : V} {r : Bool} (h : NumB K H x r) (s : Same H H') : NumB K H' x r := h.same s fun _ _ t => tyX_same s t
def t_is_number (K : PySem.W.Frag) (A : Ads) (E : XK) : TS :=
    (tSeq (tIfS (tB (tCall (sp_is_whole K A) [] E0 (tCons (tVar 0) tNil))) (tRet (tC (.bl true))) tNext)
    (tSeq (tIfS (tOr (tNot (tB (tCB (rIsi K) (tCons (tVar 0) (tCons (tC (.ty "tuple")) tNil))))) (tTest (tOp rNe (tCB (rLen K) (tCons (tVar 0) tNil)) (tC (.int 2))))) (tRet (tC (.bl false))) tNext)
    (tSeq (tAsg (tVar 0) (gTup K 2 (gCons (gName 1) (gCons (gName 2) gNil))))
    (tRet (tAndV (tCall (sp_is_whole K A) [] E0 (tCons (tVar 1) tNil)) (tAndV (tCall (sp_is_whole K A) [] E0 (tCons (tVar 2) tNil)) (tAndV (tOp rGe (tVar 2) (tC (.int 2))) (tOp rEq (tCB rGcd (tCons (tVar 1) (tCons (tVar 2) tNil))) (tC (.int 1))))))))))
def n_is_number : List Str := ["thing", "top", "bottom"]
def sp_is_number (K : PySem.W.Frag) (A : Ads) : Sp := fun vs H Q _ => ∃ (x : V) (r : Bool), vs = [x] ∧ NumB K H x r ∧ Q (.bl r) H
theorem len_is_number {K : PySem.W.Frag} {A : Ads} {vs : List V} {H : Hp} {Q : VK} {E : XK} (h : sp_is_number K A vs H Q E) : vs.length = 1 := by
  obtain ⟨x, T, rfl, _⟩ := h
  rfl
theorem pure_is_number {K : PySem.W.Frag} {A : Ads} {vs : List V} {H : Hp} {Q : VK} {E : XK} (h : sp_is_number K A vs H Q E) : t_is_number K A E { nx := fun _ H' => Q .non H', rt := Q } (start n_is_number vs) H := by
  obtain ⟨x, r, rfl, hn, k⟩ := h
  rcases hn with ⟨T, ty, hT, rfl⟩ | ⟨a, xs, rfl, ha, hl, rfl⟩ | ⟨a, u, v, T1, T2, rfl, ha, t1, t2, rfl⟩
  · walk_at "v"
    refine ⟨_, _, rfl, ty, ⟨_, rfl, ?_⟩⟩
    refine iteB (fun h1 => ?_) (fun h1 => ?_)
    · rw [h1] at k
      exact k
    · walk_at "v"
      refine ⟨_, _, _, _, _, rfl, .ty _, ty, kit_ty (kit_tup ty hT), ?_⟩
      walk_at "v"
      show (if (!false) = true then _ else _)
      refine iteT ?_
      refine iteT ?_
      rw [h1] at k
      exact k
  · walk_at "v"
    refine ⟨_, _, rfl, ty_tup ha, ⟨_, rfl, ?_⟩⟩
    refine iteF ?_
    walk_at "v"
    refine ⟨_, _, _, _, _, rfl, .ty _, ty_tup ha, kit_ty (by decide +kernel : kitB "tuple" "tuple" = some true), ?_⟩
    walk_at "v"
    show (if (!true) = true then _ else _)
    refine iteF ?_
    walk_at "v"
    refine ⟨_, _, rfl, .inr ⟨_, SqT.of ha, rfl⟩, ?_⟩
    refine ⟨rfl, ?_⟩
    walk_at "v"
    refine iteN (fun h1 => ?_) (fun h1 => k)
    exact absurd (by have := V.int.inj h1; omega) hl
  · walk_at "v"
    refine ⟨_, _, rfl, ty_tup ha, ⟨_, rfl, ?_⟩⟩
    refine iteF ?_
    walk_at "v"
    refine ⟨_, _, _, _, _, rfl, .ty _, ty_tup ha, kit_ty (by decide +kernel : kitB "tuple" "tuple" = some true), ?_⟩
    walk_at "v"
    show (if (!true) = true then _ else _)
    refine iteF ?_
    walk_at "v"
    refine ⟨_, _, rfl, .inr ⟨_, SqT.of ha, rfl⟩, ?_⟩
    refine ⟨rfl, ?_⟩
    walk_at "v"
    refine iteN (fun _ => ?_) (fun h1 => absurd rfl h1)
    walk_at "v"
    refine ⟨a, _, rfl, SqT.of ha, rfl, _, _, rfl, _, _, rfl, rfl, ?_⟩
    walk_at "v"
    refine ⟨_, _, rfl, t1, ⟨_, rfl, ?_⟩⟩
    cases u with
    | int p =>
      refine iteT ?_
      walk_at "v"
      refine ⟨_, _, rfl, t2, ⟨_, rfl, ?_⟩⟩
      cases v with
      | int q =>
        refine iteT ?_
        walk_at "v"; walk_at "ii"; walk_at "v"
        refine iteD (fun h2 => ?_) (fun h2 => ?_)
        · walk_at "v"; walk_at "v"; refine ⟨_, _, rfl, ?_⟩; refine ⟨rfl, ?_⟩
          have e : decide (V.int ((Nat.gcd p.natAbs q.natAbs : Nat) : Int) = V.int 1) = pairB (.int p) (.int q) := by
            show _ = (decide (2 ≤ q) && decide (Nat.gcd p.natAbs q.natAbs = 1))
            rw [decide_eq_true h2, Bool.true_and]
            congr 1
            apply propext
            constructor
            · intro h; have := V.int.inj h; omega
            · intro h; rw [h]; rfl
          show Q (.bl (decide (V.int ((Nat.gcd p.natAbs q.natAbs : Nat) : Int) = V.int 1))) H
          rw [e]
          exact k
        · have e : pairB (.int p) (.int q) = false := by
            show (decide (2 ≤ q) && decide (Nat.gcd p.natAbs q.natAbs = 1)) = false
            rw [decide_eq_false (by omega)]
            rfl
          rw [e] at k
          exact k
      | _ => exact iteF k
    | _ => exact iteF k
/-! ### _law_of -/
def t__law_of (K : PySem.W.Frag) (A : Ads) (E : XK) : TS :=
    (tRet (tOp (rIx K) (tVar 1) (tCall (sp__law_take K A) [] E0 (tCons (tVar 0) (tCons (tCB (rLen K) (tCons (tVar 1) tNil)) tNil)))))
def n__law_of : List Str := ["_law_bag_here", "_law_some"]
def sp__law_of (K : PySem.W.Frag) (A : Ads) : Sp := fun vs H Q _ => ∃ (b : Addr) (n : Nat), Bag (n + 1) H b ∧
  ((∃ (l : Addr) (xs : List V), vs = [.ref b, .ref l] ∧ H l = some (.lst xs) ∧ l ≠ b ∧ 0 < xs.length ∧ xs.length ≤ 1000000 ∧ ∀ (i : Nat) x H', xs[i]? = some x → Xb b H H' → Bag n H' b → Q x H') ∨
   (∃ z : Str, vs = [.ref b, .str z] ∧ 0 < z.length ∧ z.length ≤ 1000000 ∧ ∀ c H', c ∈ z.cps.toList → Xb b H H' → Bag n H' b → Q (.str ⟨#[c]⟩) H'))
theorem len__law_of {K : PySem.W.Frag} {A : Ads} {vs : List V} {H : Hp} {Q : VK} {E : XK} (h : sp__law_of K A vs H Q E) : vs.length = 2 := by
  obtain ⟨b, n, _, h⟩ := h
  rcases h with ⟨l, xs, rfl, _⟩ | ⟨z, rfl, _⟩ <;> rfl
theorem atI_of {α : Type} {xs : List α} {d : Int} (h0 : 0 ≤ d) (h1 : d < xs.length) : ∃ x, atI xs d = some x ∧ xs[d.toNat]? = some x := by
  have h2 : d.toNat < xs.length := by omega
  refine ⟨xs[d.toNat], ?_, List.getElem?_eq_getElem h2⟩
  unfold atI ixN
  rw [if_pos h0, if_pos h1]
  exact List.getElem?_eq_getElem h2
theorem size_1e6 {n : Nat} (h : n ≤ 1000000) : n ≤ sizeLine := Nat.le_trans h (by decide)
theorem len_bits {n : Nat} (h : n ≤ 1000000) : ((n : Int)).natAbs < 2 ^ 9000 := Nat.lt_of_le_of_lt (show ((n : Int)).natAbs ≤ 1000000 by omega) (Nat.lt_of_lt_of_le (by decide : 1000000 < 2 ^ 20) (Nat.pow_le_pow_right (by decide) (by decide)))
theorem pure__law_of {K : PySem.W.Frag} {A : Ads} {vs : List V} {H : Hp} {Q : VK} {E : XK} (h : sp__law_of K A vs H Q E) : t__law_of K A E { nx := fun _ H' => Q .non H', rt := Q } (start n__law_of vs) H := by
  obtain ⟨b, n, hB, h⟩ := h
  rcases h with ⟨l, xs, rfl, hl, hn, h0, h1, k⟩ | ⟨z, rfl, h0, h1, k⟩
  · walk_at "v"; walk_at "v"; walk_at "v"
    refine ⟨_, _, rfl, .inl ⟨_, SqL.of hl, rfl⟩, ?_⟩
    refine ⟨b, _, n, rfl, hB, by omega, len_bits h1, fun d H1 d0 d1 x1 hB1 => ?_⟩
    obtain ⟨x, e1, e2⟩ := atI_of d0 d1
    refine Or.inl ⟨l, xs, d, x, rfl, rfl, SqL.of (x1 _ _ hn hl), e1, k _ x H1 e2 x1 hB1⟩
  · walk_at "v"; walk_at "v"; walk_at "v"
    refine ⟨.str z, _, rfl, ⟨size_1e6 h1, rfl⟩, ?_⟩
    refine ⟨b, _, n, rfl, hB, by omega, len_bits h1, fun d H1 d0 d1 x1 hB1 => ?_⟩
    have ez : z.length = z.cps.toList.length := by simp [Str.length]
    obtain ⟨x, e1, e2⟩ := atI_of (xs := z.cps.toList) d0 (by rw [← ez]; exact d1)
    refine Or.inr (Or.inr ⟨z, d, x, rfl, rfl, size_1e6 h1, e1, k x H1 (List.mem_of_getElem? e2) x1 hB1⟩)
theorem Same.sqL {K : PySem.W.Frag} {H H' : Hp} {a : Addr} {xs : List V} (e : Same H H') (h : SqL K H a xs) : SqL K H' a xs := Evl.ex_l e h
theorem SqL.xbN {K : PySem.W.Frag} {H H1 H2 : Hp} {a b : Addr} {xs : List V} (h : SqL K H a xs) (hb : H b = none) (s : Same H H1) (x : Xb b H1 H2) : SqL K H2 a xs := by
  rcases h with (h | ⟨o, h⟩) | h
  · exact .inl (.inl (x _ _ (ne_of_none h hb) (s _ _ h)))
  · exact .inl (.inr ⟨o, x _ _ (ne_of_none h hb) (s _ _ h)⟩)
  · exact .inr h
/-- the script, away from the draws' list -/
def ScrAt (K : PySem.W.Frag) (H : Hp) (a b : Addr) (xs : List V) : Prop := ∃ H0 H1, SqL K H0 a xs ∧ H0 b = none ∧ Same H0 H1 ∧ Xb b H1 H
theorem ScrAt.seq {K : PySem.W.Frag} {H : Hp} {a b : Addr} {xs : List V} (h : ScrAt K H a b xs) : SqL K H a xs := by
  obtain ⟨H0, H1, h1, h2, h3, h4⟩ := h
  exact SqL.xbN h1 h2 h3 h4
theorem ScrAt.xb {K : PySem.W.Frag} {H H' : Hp} {a b : Addr} {xs : List V} (h : ScrAt K H a b xs) (x : Xb b H H') : ScrAt K H' a b xs := by
  obtain ⟨H0, H1, h1, h2, h3, h4⟩ := h
  exact ⟨H0, H1, h1, h2, h3, h4.trans x⟩
end Md

set_option Elab.async false
set_option linter.all false
set_option maxRecDepth 100000
set_option maxHeartbeats 4000000
namespace Md
open PySem PySem.Spec PyProof.Rows PySem.Calls L2
local macro_rules | `(tactic| walk_at "v") => `(tactic| refine ⟨_, rfl, ?_⟩)
local macro_rules | `(tactic| walk_at "ii") => `(tactic| refine ⟨_, _, rfl, rfl, ?_⟩)
/-! ### words -/
def isL (c : Nat) : Bool := decide (c ∈ (Str.ofString "abcdefghijklmnopqrstuvwxyz").cps.toList)
def isWord (z : Str) : Bool := (decide (1 ≤ z.length) && decide (z.length ≤ 8)) && z.cps.toList.all isL
def WordB (K : PySem.W.Frag) (H : Hp) (x : V) (w : Bool) : Prop := (∃ T, TyX K H x (.type T) ∧ T ≠ "str" ∧ w = false) ∨ ∃ z : Str, x = .str z ∧ z.length ≤ 1000000 ∧ w = isWord z
theorem kit_str {K : PySem.W.Frag} {H : Hp} {x : V} {T : String} (ty : TyX K H x (.type T)) (hn : T ≠ "str") : kitB T "str" = some false := by
  cases ty with
  | base b => cases b <;> first | exact absurd rfl hn | decide +kernel
  | _ => first | exact absurd rfl hn | decide +kernel
def t_is_word (K : PySem.W.Frag) (A : Ads) (E : XK) : TS :=
    (tSeq (tIfS (tOr (tNot (tB (tCB (rIsi K) (tCons (tVar 0) (tCons (tC (.ty "str")) tNil))))) (tNot (tTest (tChain rLe rLe (tC (.int 1)) (tCB (rLen K) (tCons (tVar 0) tNil)) (tC (.int 8)))))) (tRet (tC (.bl false))) tNext)
    (tRet (tCB (rAll K) (tCons (tLc (iStr (tVar 0)) (gName 1) tYes (tOp rInS (tVar 1) (tC (.str "abcdefghijklmnopqrstuvwxyz"))) [1]) tNil))))
def n_is_word : List Str := ["thing", "letter"]
def sp_is_word (K : PySem.W.Frag) (A : Ads) : Sp := fun vs H Q _ => ∃ (x : V) (w : Bool), vs = [x] ∧ WordB K H x w ∧ ∀ H', Same H H' → Q (.bl w) H'
theorem len_is_word {K : PySem.W.Frag} {A : Ads} {vs : List V} {H : Hp} {Q : VK} {E : XK} (h : sp_is_word K A vs H Q E) : vs.length = 1 := by
  obtain ⟨x, w, rfl, _⟩ := h
  rfl
theorem pure_is_word {K : PySem.W.Frag} {A : Ads} {vs : List V} {H : Hp} {Q : VK} {E : XK} (h : sp_is_word K A vs H Q E) : t_is_word K A E { nx := fun _ H' => Q .non H', rt := Q } (start n_is_word vs) H := by
  obtain ⟨x, w, rfl, hw, k⟩ := h
  rcases hw with ⟨T, ty, hn, rfl⟩ | ⟨z, rfl, hz, rfl⟩
  · walk_at "v"
    refine ⟨_, _, _, _, _, rfl, .ty _, ty, kit_ty (kit_str ty hn), ?_⟩
    walk_at "v"
    show (if (!false) = true then _ else _)
    refine iteT ?_
    show (if true = true then _ else _)
    refine iteT ?_
    exact k H (Same.refl H)
  · have hz2 : z.length ≤ sizeLine := Nat.le_trans hz (by decide)
    walk_at "v"
    refine ⟨_, _, _, _, _, rfl, .ty _, .base (.str z), kit_ty (by decide +kernel : kitB "str" "str" = some true), ?_⟩
    walk_at "v"
    show (if (!true) = true then _ else _)
    refine iteF ?_
    walk_at "v"
    refine ⟨_, _, rfl, ⟨hz2, rfl⟩, ?_⟩
    refine ⟨_, _, rfl, rfl, ?_⟩
    refine ⟨_, rfl, ?_⟩
    refine iteD (fun h1 => ?_) (fun h1 => ?_)
    · walk_at "ii"
      refine ⟨_, rfl, ?_⟩
      refine iteN (fun h2 => ?_) (fun h2 => ?_)
      · walk_at "v"
        refine ⟨z, rfl, fun D hD => ?_⟩
        refine lc_it walk_str (fun i H' => Same H H' ∧ H' D = some (.lst ((z.cps.toList.take i).map fun c => V.bl (isL c)))) ⟨Same.new hD, upd_same⟩ (fun _ _ _ _ => True.intro) ?_ ?_
        · rintro i x H1 H1' hi ⟨s1, hl⟩ ⟨rfl, c, hc, rfl⟩
          refine ⟨rfl, ?_⟩
          walk_at "v"
          refine ⟨c, _, rfl, rfl, ?_⟩
          refine ⟨_, hl, ?_, ?_, ?_⟩
          · rw [List.length_map, List.length_take]
            have e : z.length = z.cps.size := rfl
            have e2 : z.cps.toList.length = z.cps.size := Array.length_toList
            omega
          · exact fun b o hb => by
              rw [upd_ne (ne_of_none hb hD)]
              exact s1 b o hb
          · rw [upd_same]
            have e : z.cps.toList[i]? = some c := by rw [Array.getElem?_toList]; exact hc
            rw [List.take_succ, e]
            simp [isL]
        · rintro H1 ⟨s1, hl⟩
          have e2 : z.cps.toList.take z.cps.size = z.cps.toList := List.take_of_length_le (by rw [Array.length_toList]; exact Nat.le_refl _)
          rw [e2] at hl
          refine ⟨D, z.cps.toList.map isL, rfl, SqL.of (by rw [List.map_map]; exact hl), ?_⟩
          have e3 : (z.cps.toList.map isL).all id = isWord z := by
            rw [List.all_map]
            unfold isWord
            rw [decide_eq_true (show 1 ≤ z.length by omega), decide_eq_true (show z.length ≤ 8 by omega)]
            simp
          rw [e3]
          exact k H1 s1
      · have e3 : isWord z = false := by
          unfold isWord
          rw [decide_eq_false (show ¬ z.length ≤ 8 by omega), Bool.and_false, Bool.false_and]
        rw [e3] at k
        exact k H (Same.refl H)
    · have e3 : isWord z = false := by
        unfold isWord
        rw [decide_eq_false (show ¬ 1 ≤ z.length by omega), Bool.false_and, Bool.false_and]
      rw [e3] at k
      refine ⟨_, rfl, ?_⟩
      show (if (!false) = true then _ else _)
      refine iteT ?_
      exact k H (Same.refl H)
/-! ### names -/
def kRES : List Str := ["and", "or", "not", "in", "given", "true", "false", "blank", "number", "word", "needs", "instead", "after", "blames", "check", "guard", "barrier", "repair", "default", "exit", "self"]
def kRESERVED : List V := kRES.map V.str
theorem inV_strs (z : Str) (xs : List Str) : inV (.str z) (xs.map V.str) = decide (z ∈ xs) := by
  unfold inV
  rw [List.any_map, Bool.eq_iff_iff, List.any_eq_true, decide_eq_true_eq]
  constructor
  · rintro ⟨y, hy, e⟩
    have e' : (y == z) = true := e
    rw [eq_of_beq e'] at hy
    exact hy
  · intro h
    exact ⟨z, h, (beq_self_eq_true z : (z == z) = true)⟩
theorem flat_strs (xs : List Str) : (xs.map V.str).all flatV = true := by
  rw [List.all_map, List.all_eq_true]
  intro x _
  rfl
theorem WordB.mono {K : PySem.W.Frag} {H H' : Hp} {x : V} {w : Bool} (h : WordB K H x w) (s : Same H H') : WordB K H' x w := by
  rcases h with ⟨T, ty, h⟩ | h
  · exact .inl ⟨T, tyX_same s ty, h⟩
  · exact .inr h
def NameW (K : PySem.W.Frag) (H : Hp) (u : V) (nm : Option Str) : Prop := (WordB K H u false ∧ nm = none) ∨ ∃ z : Str, u = .str z ∧ z.length ≤ 1000000 ∧ isWord z = true ∧ nm = if z ∈ kRES then none else some z
theorem NameW.mono {K : PySem.W.Frag} {H H' : Hp} {x : V} {w : Option Str} (h : NameW K H x w) (s : Same H H') : NameW K H' x w := by
  rcases h with ⟨h, e⟩ | h
  · exact .inl ⟨h.mono s, e⟩
  · exact .inr h
def t_is_name (K : PySem.W.Frag) (A : Ads) (E : XK) : TS :=
    (tRet (tAndV (tCall (sp_is_word K A) [] E0 (tCons (tVar 0) tNil)) (tOp (rIn K true) (tVar 0) (tC (.ref A.gRESERVED)))))
def n_is_name : List Str := ["thing"]
def sp_is_name (K : PySem.W.Frag) (A : Ads) : Sp := fun vs H Q _ => ∃ (x : V) (nm : Option Str), vs = [x] ∧ NameW K H x nm ∧ ∀ H', Same H H' → Q (.bl nm.isSome) H'
theorem len_is_name {K : PySem.W.Frag} {A : Ads} {vs : List V} {H : Hp} {Q : VK} {E : XK} (h : sp_is_name K A vs H Q E) : vs.length = 1 := by
  obtain ⟨x, w, rfl, _⟩ := h
  rfl
theorem pure_is_name {K : PySem.W.Frag} {A : Ads} (tb : ∀ H, SqT K H A.gRESERVED kRESERVED) {vs : List V} {H : Hp} {Q : VK} {E : XK} (h : sp_is_name K A vs H Q E) : t_is_name K A E { nx := fun _ H' => Q .non H', rt := Q } (start n_is_name vs) H := by
  obtain ⟨x, nm, rfl, hw, k⟩ := h
  walk_at "v"
  rcases hw with ⟨hw, rfl⟩ | ⟨z, rfl, hz, hw, rfl⟩
  · refine ⟨x, false, rfl, hw, fun H1 s1 => ?_⟩
    refine ⟨_, rfl, ?_⟩
    refine iteF ?_
    exact k H1 s1
  · refine ⟨.str z, true, rfl, .inr ⟨z, rfl, hz, hw.symm⟩, fun H1 s1 => ?_⟩
    refine ⟨_, rfl, ?_⟩
    refine iteT ?_
    walk_at "v"
    refine ⟨_, _, rfl, .inr (tb H1), rfl, flat_strs _, ?_⟩
    have e : (if true = true then !inV (V.str z) kRESERVED else inV (V.str z) kRESERVED) = (if z ∈ kRES then (none : Option Str) else some z).isSome := by
      rw [if_pos rfl]
      show (!inV (V.str z) (kRES.map V.str)) = _
      rw [inV_strs]
      by_cases c : z ∈ kRES
      · rw [decide_eq_true c, if_pos c]; rfl
      · rw [decide_eq_false c, if_neg c]; rfl
    rw [e]
    exact k H1 s1
/-! ### texts -/
def one (c : Nat) : Str := ⟨#[c]⟩
theorem glue_ones (a : Array Nat) : ∀ cs : List Nat, (cs.map one).foldl (fun acc p => acc ++ (#[] : Array Nat) ++ p.cps) a = a ++ cs.toArray
  | [] => by simp
  | c :: r => by
    rw [List.map_cons, List.foldl_cons, glue_ones]
    simp [one]
theorem join_ones (cs : List Nat) (h : cs ≠ []) : Txt.join "" (cs.map one) = ⟨cs.toArray⟩ := by
  cases cs with
  | nil => exact absurd rfl h
  | cons c r =>
    show (⟨(r.map one).foldl (fun acc p => acc ++ (#[] : Array Nat) ++ p.cps) (one c).cps⟩ : Str) = _
    rw [glue_ones]
    simp [one]
theorem ones_sum : ∀ cs : List Nat, ((cs.map one).map (·.length)).sum = cs.length
  | [] => rfl
  | c :: r => by
    rw [List.map_cons, List.map_cons, List.sum_cons, ones_sum r, List.length_cons]
    show 1 + r.length = _
    omega
theorem isWord_of {cs : List Nat} (h1 : 1 ≤ cs.length) (h8 : cs.length ≤ 8) (h : ∀ c ∈ cs, isL c = true) : isWord ⟨cs.toArray⟩ = true := by
  unfold isWord
  have e : (⟨cs.toArray⟩ : Str).length = cs.length := by show cs.toArray.size = _; simp
  rw [e, decide_eq_true h1, decide_eq_true h8]
  show cs.toArray.toList.all isL = true
  rw [List.toList_toArray]
  exact List.all_eq_true.mpr h
theorem word_all {z : Str} (h : isWord z = true) : 1 ≤ z.length ∧ z.length ≤ 8 ∧ ∀ c ∈ z.cps.toList, isL c = true := by
  unfold isWord at h
  obtain ⟨h1, h2⟩ := Bool.and_eq_true_iff.mp h
  obtain ⟨h3, h4⟩ := Bool.and_eq_true_iff.mp h1
  exact ⟨of_decide_eq_true h3, of_decide_eq_true h4, List.all_eq_true.mp h2⟩
theorem app_list (a b : Str) : (a ++ b).cps.toList = a.cps.toList ++ b.cps.toList := by
  show (a.cps ++ b.cps).toList = _
  exact Array.toList_append
theorem app_len (a b : Str) : (a ++ b).length = a.length + b.length := by
  show (a.cps ++ b.cps).size = _
  exact Array.size_append
theorem letters_small : ∀ c ∈ (Str.ofString "abcdefghijklmnopqrstuvwxyz").cps.toList, c < 0x110000 := by decide +kernel
theorem word_ok {z : Str} (h : isWord z = true) : PyData.strOk z = true := by
  have h3 := (word_all h).2.2
  show z.cps.all (· < 0x110000) = true
  rw [← Array.all_toList, List.all_eq_true]
  intro c hc
  exact decide_eq_true (letters_small c (of_decide_eq_true (h3 c hc)))
theorem dp_strs {K : PySem.W.Frag} {H : Hp} {a : Addr} {p q : Str} (h : SqT K H a [.str p, .str q]) : Dp K H (.ref a) (.tuple [.str p, .str q]) := .tup h (.cons (.str p) (.cons (.str q) .nil))
theorem shaped_strs {p q : Str} (hp : PyData.strOk p = true) (hq : PyData.strOk q = true) : SeqAt.shaped (.tuple [.str p, .str q]) = true := by
  unfold SeqAt.shaped
  simp [PyData.canLay0, PyData.canLayAll0, PyData.depth, PyData.depthAll, hp, hq]
theorem shaped_lst1 {p : Str} (hp : PyData.strOk p = true) : SeqAt.shaped (.list [.str p]) = true := by
  unfold SeqAt.shaped
  simp [PyData.canLay0, PyData.canLayAll0, PyData.depth, PyData.depthAll, hp]
theorem bad_app (z : Str) {w : Str} (h : w.cps.toList.all isL = false) : isWord (z ++ w) = false := by
  unfold isWord
  rw [app_list, List.all_append, h, Bool.and_false, Bool.and_false]
theorem bad_pre (z : Str) {w : Str} (h : w.cps.toList.all isL = false) : isWord (w ++ z) = false := by
  unfold isWord
  rw [app_list, List.all_append, h, Bool.false_and, Bool.and_false]
theorem bad_len {z : Str} (h : 8 < z.length) : isWord z = false := by
  unfold isWord
  rw [decide_eq_false (show ¬ z.length ≤ 8 by omega), Bool.and_false, Bool.false_and]
theorem upper_letters : ∀ c ∈ (Str.ofString "abcdefghijklmnopqrstuvwxyz").cps.toList, (Unicode.upperOf c).any (fun x => !isL x) = true := by decide +kernel
theorem bad_upper {z : Str} (h : isWord z = true) : isWord (Txt.upper z) = false := by
  obtain ⟨h1, h8, ha⟩ := word_all h
  cases hb : isWord (Txt.upper z) with
  | false => rfl
  | true =>
    obtain ⟨_, _, hu⟩ := word_all hb
    have h0 : 0 < z.cps.size := h1
    have hc := ha z.cps[0] (by simp)
    obtain ⟨x, hx, nx⟩ := List.any_eq_true.mp (upper_letters _ (of_decide_eq_true hc))
    have hm : x ∈ (Txt.upper z).cps.toList := by
      rw [Array.mem_toList_iff]
      show x ∈ (z.cps.mapIdx fun _ c => (Unicode.upperOf c).toArray).flatten
      refine Array.mem_flatten.mpr ⟨(Unicode.upperOf z.cps[0]).toArray, Array.mem_mapIdx.mpr ⟨0, h0, rfl⟩, by simpa using hx⟩
    have := hu x hm
    rw [this] at nx
    cases nx
theorem wordB_bad {K : PySem.W.Frag} {H : Hp} {z : Str} (hl : z.length ≤ 1000000) (h : isWord z = false) : WordB K H (.str z) false := .inr ⟨z, rfl, hl, h.symm⟩
theorem wordB_of {K : PySem.W.Frag} {H : Hp} {z : Str} (h : isWord z = true) : WordB K H (.str z) true := .inr ⟨z, rfl, by have := (word_all h).2.1; omega, h.symm⟩
theorem hu65 {A : Around} {k : Nat} (hr : Room k A) : A.units + 65 < cLine := by have := hr.un; omega
/-- x in a tuple, x a flat value, or any plain data -/
def rInT2 (K : PySem.W.Frag) : R2 := fun x y H Q => rIn K false x y H Q ∨ ∃ d ds, Dp K H x d ∧ Dp K H y (.tuple ds) ∧ SeqAt.shaped d = true ∧ SeqAt.shaped (.tuple ds) = true ∧ Q (.bl (ds.any fun z => PyData.eqv z d)) H
theorem op_inT2 {X : Cx} (hu : X.A.units + 65 < cLine) : OpR X (compareOp .In) (rInT2 X.K) := by
  intro pins s σ H x y v u Q I rx ry h
  rcases h with h | ⟨d, ds, hd, he, sd, se, q⟩
  · exact op_in_seq pins s σ H x y v u Q I rx ry h
  · obtain ⟨as, r1⟩ := Dp.reads I d x v hd rx
    obtain ⟨bs, r2⟩ := Dp.reads I (.tuple ds) y u he ry
    exact SeqAt.in_tuple_reads r2 r1 (SeqAt.canLay_of_shaped se) (SeqAt.canLay_of_shaped sd) (room_in_shaped sd hu) ⟨.bl _, H, I, rfl, q⟩
/-- a kind as it may be passed: a flat value, or a list of one word -/
def KindV (H : Hp) (v : V) : Prop := flatV v = true ∨ ∃ q w, v = .ref q ∧ H q = some (.lst [.str w]) ∧ isWord w = true
theorem KindV.mono {H H' : Hp} {v : V} (h : KindV H v) (s : Same H H') : KindV H' v := by
  rcases h with h | ⟨q, w, e, hq, hw⟩
  · exact .inl h
  · exact .inr ⟨q, w, e, s _ _ hq, hw⟩
/-! ### fields -/
def kindOf : V → Option Str
  | .str z => if z = "number" ∨ z = "word" then some z else none
  | _ => none
def FieldB (K : PySem.W.Frag) (H : Hp) (x : V) (r : Option (Str × Str)) : Prop := (∃ T, TyX K H x (.type T) ∧ T ≠ "tuple" ∧ r = none) ∨ (∃ a xs, x = .ref a ∧ H a = some (.tup xs) ∧ xs.length ≠ 2 ∧ r = none) ∨
  (∃ a u v nm, x = .ref a ∧ H a = some (.tup [u, v]) ∧ KindV H v ∧ NameW K H u nm ∧ r = nm.bind fun n => (kindOf v).map fun k => (n, k))
theorem FieldB.mono {K : PySem.W.Frag} {H H' : Hp} {x : V} {r : Option (Str × Str)} (h : FieldB K H x r) (s : Same H H') : FieldB K H' x r := by
  rcases h with ⟨T, ty, h⟩ | ⟨a, xs, e, ha, h⟩ | ⟨a, u, v, nm, e, ha, hf, hn, h⟩
  · exact .inl ⟨T, tyX_same s ty, h⟩
  · exact .inr (.inl ⟨a, xs, e, s _ _ ha, h⟩)
  · exact .inr (.inr ⟨a, u, v, nm, e, s _ _ ha, hf.mono s, hn.mono s, h⟩)
theorem in_kinds {v : V} (h : flatV v = true) : inV v [.str "number", .str "word"] = (kindOf v).isSome := by
  cases v with
  | str z =>
    show (inV (.str z) (([("number" : Str), "word"] : List Str).map V.str)) = _
    rw [inV_strs]
    show _ = (if z = "number" ∨ z = "word" then some z else none : Option Str).isSome
    by_cases c : z = "number" ∨ z = "word"
    · rw [if_pos c]; exact decide_eq_true (by simpa using c)
    · rw [if_neg c]; exact decide_eq_false (by simpa using c)
  | non => rfl
  | bl b => rfl
  | int i => rfl
  | _ => cases h
def t__is_field (K : PySem.W.Frag) (A : Ads) (E : XK) : TS :=
    (tRet (tAndV (tCB (rIsi K) (tCons (tVar 0) (tCons (tC (.ty "tuple")) tNil))) (tAndV (tOp rEq (tCB (rLen K) (tCons (tVar 0) tNil)) (tC (.int 2))) (tAndV (tCall (sp_is_name K A) [] E0 (tCons (tOp (rIx K) (tVar 0) (tC (.int 0))) tNil)) (tOp (rInT2 K) (tOp (rIx K) (tVar 0) (tC (.int 1))) (tTup (tCons (tC (.str "number")) (tCons (tC (.str "word")) tNil))))))))
def n__is_field : List Str := ["thing"]
def sp__is_field (K : PySem.W.Frag) (A : Ads) : Sp := fun vs H Q _ => ∃ (x : V) (r : Option (Str × Str)), vs = [x] ∧ FieldB K H x r ∧ ∀ H', Same H H' → Q (.bl r.isSome) H'
theorem len__is_field {K : PySem.W.Frag} {A : Ads} {vs : List V} {H : Hp} {Q : VK} {E : XK} (h : sp__is_field K A vs H Q E) : vs.length = 1 := by
  obtain ⟨x, w, rfl, _⟩ := h
  rfl
theorem pure__is_field {K : PySem.W.Frag} {A : Ads} {vs : List V} {H : Hp} {Q : VK} {E : XK} (h : sp__is_field K A vs H Q E) : t__is_field K A E { nx := fun _ H' => Q .non H', rt := Q } (start n__is_field vs) H := by
  obtain ⟨x, r, rfl, hf, k⟩ := h
  walk_at "v"
  rcases hf with ⟨T, ty, hn, rfl⟩ | ⟨a, xs, rfl, ha, hn, rfl⟩ | ⟨a, u, v, nm, rfl, ha, fv, hn, rfl⟩
  · refine ⟨_, _, _, _, _, rfl, .ty _, ty, kit_ty (kit_tup ty hn), ?_⟩
    refine ⟨_, rfl, ?_⟩
    exact iteF (k H (Same.refl H))
  · refine ⟨_, _, _, _, _, rfl, .ty _, ty_tup ha, kit_ty (by decide +kernel : kitB "tuple" "tuple" = some true), ?_⟩
    refine ⟨_, rfl, iteT ?_⟩
    walk_at "v"
    refine ⟨_, _, rfl, .inr ⟨xs, SqT.of ha, rfl⟩, ?_⟩
    refine ⟨rfl, ?_⟩
    refine ⟨_, rfl, ?_⟩
    refine iteD (fun h => ?_) (fun _ => k H (Same.refl H))
    exact absurd (by injection h with h; omega) hn
  · refine ⟨_, _, _, _, _, rfl, .ty _, ty_tup ha, kit_ty (by decide +kernel : kitB "tuple" "tuple" = some true), ?_⟩
    refine ⟨_, rfl, iteT ?_⟩
    walk_at "v"
    refine ⟨_, _, rfl, .inr ⟨_, SqT.of ha, rfl⟩, ?_⟩
    refine ⟨rfl, ?_⟩
    refine ⟨_, rfl, ?_⟩
    refine iteD (fun _ => ?_) (fun h => absurd rfl h)
    walk_at "v"
    refine Or.inr (Or.inl ⟨_, _, _, _, rfl, rfl, SqT.of ha, rfl, ?_⟩)
    refine ⟨u, nm, rfl, hn, fun H1 s1 => ?_⟩
    refine ⟨_, rfl, ?_⟩
    cases nm with
    | none =>
      refine iteF ?_
      exact k H1 s1
    | some n =>
      refine iteT ?_
      walk_at "v"
      refine Or.inr (Or.inl ⟨_, _, _, _, rfl, rfl, SqT.of (s1 _ _ ha), rfl, ?_⟩)
      refine ⟨by show 2 ≤ sizeLine; decide, fun t ht => ?_⟩
      rcases fv with fv | ⟨q, w, rfl, hq, hw⟩
      · refine .inl ⟨t, _, rfl, .inr (SqT.of upd_same), fv, rfl, ?_⟩
        show Q (.bl (inV v [.str "number", .str "word"])) _
        rw [in_kinds fv]
        have e : (kindOf v).isSome = ((some n).bind fun n => (kindOf v).map fun k => (n, k)).isSome := by cases kindOf v <;> rfl
        rw [e]
        exact k _ (Same.trans s1 (Same.new ht))
      · have st := Same.new (o := .tup [.str "number", .str "word"]) ht
        refine .inr ⟨.list [.str w], [.str "number", .str "word"], .lst (SqL.of (st _ _ (s1 _ _ hq))) (.cons (.str w) .nil), .tup (SqT.of upd_same) (.cons (.str _) (.cons (.str _) .nil)), shaped_lst1 (word_ok hw), by decide +kernel, ?_⟩
        have e : ([PyData.str "number", PyData.str "word"].any fun z => PyData.eqv z (.list [.str w])) = false := by simp [PyData.eqv]
        rw [e]
        exact k _ (Same.trans s1 st)
end Md

set_option Elab.async false
set_option linter.all false
set_option maxRecDepth 100000
set_option maxHeartbeats 4000000
namespace Md
open PySem PySem.Spec PyProof.Rows PySem.Calls L2
local macro_rules | `(tactic| walk_at "v") => `(tactic| refine ⟨_, rfl, ?_⟩)
local macro_rules | `(tactic| walk_at "ii") => `(tactic| refine ⟨_, _, rfl, rfl, ?_⟩)
/-! ### layouts in the heap -/
def LayAt (A : Ads) (H : Hp) (a : Addr) (ns ks : List Str) : Prop := ∃ dx tn tk, H a = some (.ins A.cLayout dx [("names", .ref tn), ("_kinds", .ref tk)]) ∧ TupF H tn (ns.map V.str) ∧ TupF H tk (ks.map V.str) ∧ ns.length = ks.length ∧
  ns.length ≤ 5 ∧ ∀ (i : Nat) n, ns[i]? = some n → ∀ j, j < i → ns[j]? ≠ some n
theorem TupF.same {H H' : Hp} {a : Addr} {ys : List V} (h : TupF H a ys) (s : Same H H') : TupF H' a ys := by
  obtain ⟨o, h, r⟩ := h
  exact ⟨o, s _ _ h, r⟩
theorem LayAt.same {A : Ads} {H H' : Hp} {a : Addr} {ns ks : List Str} (h : LayAt A H a ns ks) (s : Same H H') : LayAt A H' a ns ks := by
  obtain ⟨dx, tn, tk, h1, h2, h3, h⟩ := h
  exact ⟨dx, tn, tk, s _ _ h1, h2.same s, h3.same s, h⟩
theorem FieldB.some_ {K : PySem.W.Frag} {H : Hp} {x : V} {n k : Str} (h : FieldB K H x (some (n, k))) : ∃ t, x = .ref t ∧ H t = some (.tup [.str n, .str k]) := by
  rcases h with ⟨T, _, _, e⟩ | ⟨a, xs, _, _, _, e⟩ | ⟨a, u, v, nm, rfl, ha, hf, hn, e⟩
  · cases e
  · cases e
  · rcases hn with ⟨_, rfl⟩ | ⟨z, rfl, _, _, rfl⟩
    · cases e
    · by_cases c : z ∈ kRES
      · rw [if_pos c] at e; cases e
      · rw [if_neg c] at e
        cases v with
        | str w =>
          have e' : some (n, k) = (if w = "number" ∨ w = "word" then some w else none : Option Str).map fun k => (z, k) := e
          by_cases d : w = "number" ∨ w = "word"
          · rw [if_pos d] at e'
            cases e'
            exact ⟨a, rfl, ha⟩
          · rw [if_neg d] at e'; cases e'
        | _ => cases e
theorem SqL.xbI {K : PySem.W.Frag} {H H2 H3 : Hp} {l a C dx : Addr} {xs : List V} {fs : List (Str × V)} (h : SqL K H l xs) (ha : H a = some (.ins C dx fs)) (s : Same H H2) (x : Xb a H2 H3) : SqL K H3 l xs := by
  rcases h with (h | ⟨o, h⟩) | h
  · exact .inl (.inl (x _ _ (ne_of h ha (by intro z; cases z)) (s _ _ h)))
  · exact .inl (.inr ⟨o, x _ _ (ne_of h ha (by intro z; cases z)) (s _ _ h)⟩)
  · exact .inr h
/-! ### Layout.__init__ -/
def t_BadLayout___init__ (K : PySem.W.Frag) (A : Ads) (E : XK) : TS :=
    (tOst K "at" (tVar 0) (tVar 1))
def n_BadLayout___init__ : List Str := ["self", "at"]
def sp_BadLayout___init__ (K : PySem.W.Frag) (A : Ads) : Sp := spXi A.cBadLayout "at"
def t_Layout___init__ (K : PySem.W.Frag) (A : Ads) (E : XK) : TS :=
    (tSeq (tIfS (tOr (tNot (tB (tCB (rIsi K) (tCons (tVar 1) (tCons (tC (.ty "list")) tNil))))) (tNot (tTest (tChain rLe rLe (tC (.int 1)) (tCB (rLen K) (tCons (tVar 1) tNil)) (tC (.int 5)))))) (tRaise E (tMkO A.cBadLayout (sp_BadLayout___init__ K A) [] (tCons (tUn rNeg (tC (.int 1))) tNil))) tNext)
    (tSeq (tAsg (tLst tNil) (gName 2))
    (tSeq (tFor (iEnum K (tCons (tVar 1) tNil)) (gTup K 2 (gCons (gName 3) (gCons (gName 4) gNil))) (tSeq (tIfS (tOr (tNot (tB (tCall (sp__is_field K A) [] E0 (tCons (tVar 4) tNil)))) (tTest (tOp (rIn K false) (tOp (rIx K) (tVar 4) (tC (.int 0))) (tVar 2)))) (tRaise E (tMkO A.cBadLayout (sp_BadLayout___init__ K A) [] (tCons (tVar 3) tNil))) tNext)
    (tDrop (tBM K "list" rAppend (tVar 2) (tCons (tOp (rIx K) (tVar 4) (tC (.int 0))) tNil)))))
    (tSeq (sFld K (tVar 0) (tCB (rTupF K) (tCons (tVar 2) tNil)) "names")
    (sFld K (tVar 0) (tCB (rTupF K) (tCons (tLc (iList K (tVar 1)) (gName 4) tYes (tOp (rIx K) (tVar 4) (tC (.int 1))) [4]) tNil)) "_kinds")))))
def n_Layout___init__ : List Str := ["self", "fields", "names", "at", "field"]
def NoLay (K : PySem.W.Frag) (H : Hp) (x : V) : Prop := (∃ T, TyX K H x (.type T) ∧ T ≠ "list") ∨ ∃ l xs, x = .ref l ∧ SqL K H l xs ∧ TyX K H x (.type "list") ∧ (xs.length = 0 ∨ 5 < xs.length)
theorem kit_list {K : PySem.W.Frag} {H : Hp} {x : V} {T : String} (ty : TyX K H x (.type T)) (hn : T ≠ "list") : kitB T "list" = some false := by
  cases ty with
  | base b => cases b <;> first | exact absurd rfl hn | decide +kernel
  | _ => first | exact absurd rfl hn | decide +kernel
def sp_Layout___init__ (K : PySem.W.Frag) (A : Ads) : Sp := fun vs H Q E => (∃ (a dx : Addr) (x : V), vs = [.ref a, x] ∧ H a = some (.ins A.cLayout dx []) ∧ NoLay K H x ∧ ∀ d H', Same H H' → H' d = some (.xd [("at", .int (-1))]) → E (.ref A.cBadLayout) (some d) H') ∨ ∃ (a dx l : Addr) (xs : List V) (rs : List (Option (Str × Str))) (ns ks : List Str), vs = [.ref a, .ref l] ∧ H a = some (.ins A.cLayout dx []) ∧ SqL K H l xs ∧ TyX K H (.ref l) (.type "list") ∧
  xs.length = rs.length ∧ 1 ≤ xs.length ∧ xs.length ≤ 5 ∧ (∀ (i : Nat) x r, xs[i]? = some x → rs[i]? = some r → FieldB K H x r) ∧ ns.length ≤ rs.length ∧ ks.length = ns.length ∧
  (∀ (i : Nat) n k, ns[i]? = some n → ks[i]? = some k → rs[i]? = some (some (n, k)) ∧ n ∉ ns.take i) ∧
  (ns.length = rs.length → ∀ H', Xb a H H' → LayAt A H' a ns ks → Q .non H') ∧
  (ns.length < rs.length → (∃ r, rs[ns.length]? = some r ∧ ∀ n k, r = some (n, k) → n ∈ ns) ∧ ∀ d H', Xb a H H' → H' d = some (.xd [("at", .int (ns.length : Nat))]) → E (.ref A.cBadLayout) (some d) H')
theorem len_Layout___init__ {K : PySem.W.Frag} {A : Ads} {vs : List V} {H : Hp} {Q : VK} {E : XK} (h : sp_Layout___init__ K A vs H Q E) : vs.length = 2 := by
  rcases h with ⟨a, dx, x, rfl, _⟩ | ⟨a, dx, l, xs, rs, ns, ks, rfl, _⟩ <;> rfl
theorem pure_Layout___init__ {K : PySem.W.Frag} {A : Ads} (cl : Cls K A.cLayout) (nk : NoAttr K A.cLayout "_kinds") (nn : NoAttr K A.cLayout "names") {vs : List V} {H : Hp} {Q : VK} {E : XK} (h : sp_Layout___init__ K A vs H Q E) :
    t_Layout___init__ K A E { nx := fun _ H' => Q .non H', rt := Q } (start n_Layout___init__ vs) H := by
  rcases h with ⟨a, dx, x, rfl, ha, hx, kb⟩ | ⟨a, dx, l, xs, rs, ns, ks, rfl, ha, hl, tl, hxr, h1, h5, hF, hnr, hkn, hG, kok, kbad⟩
  · walk_at "v"
    have fin : ∀ {D : Ends} {σ : L2.St}, tRaise E (tMkO A.cBadLayout (sp_BadLayout___init__ K A) [] (tCons (tUn rNeg (tC (.int 1))) tNil)) D σ H := fun {D σ} => by
      refine ⟨_, rfl, ?_⟩
      exact mk_xi fun d H' s h => kb d H' s h
    rcases hx with ⟨T, ty, hn⟩ | ⟨l, xs, rfl, hl, tl, hlen⟩
    · refine ⟨_, _, _, _, _, rfl, .ty _, ty, kit_ty (kit_list ty hn), ?_⟩
      refine ⟨_, rfl, ?_⟩
      show (if (!false) = true then _ else _)
      refine iteT ?_
      show (if true = true then _ else _)
      refine iteT ?_
      exact fin
    · refine ⟨_, _, _, _, _, rfl, .ty _, tl, kit_ty (by decide +kernel : kitB "list" "list" = some true), ?_⟩
      refine ⟨_, rfl, ?_⟩
      show (if (!true) = true then _ else _)
      refine iteF ?_
      walk_at "v"
      refine ⟨_, _, rfl, .inl ⟨_, hl, rfl⟩, ?_⟩
      walk_at "ii"
      refine ⟨_, rfl, ?_⟩
      refine iteD (fun h1 => ?_) (fun h1 => ?_)
      · walk_at "ii"
        refine ⟨_, rfl, ?_⟩
        refine iteN (fun h5 => absurd h5 (by omega)) (fun h5 => ?_)
        exact fin
      · refine ⟨_, rfl, ?_⟩
        show (if (!false) = true then _ else _)
        refine iteT ?_
        exact fin
  walk_at "v"
  refine ⟨_, _, _, _, _, rfl, .ty _, tl, kit_ty (by decide +kernel : kitB "list" "list" = some true), ?_⟩
  walk_at "v"
  show (if (!true) = true then _ else _)
  refine iteF ?_
  walk_at "v"
  refine ⟨_, _, rfl, .inl ⟨_, hl, rfl⟩, ?_⟩
  walk_at "ii"
  refine ⟨_, rfl, ?_⟩
  refine iteD (fun _ => ?_) (fun h => absurd (by omega) h)
  walk_at "ii"
  refine ⟨_, rfl, ?_⟩
  refine iteN (fun _ => ?_) (fun h => absurd (by omega) h)
  -- names = []
  refine ⟨by show 0 ≤ sizeLine; decide, fun nl hnl => ?_⟩
  have s0 := Same.new (o := .lst []) hnl
  walk_at "v"
  refine ⟨l, xs, rfl, Md.Same.sqL s0 hl, ?_⟩
  refine for_it (walk_enum (K := K) (a := l) (xs := xs)) (fun i σ H' => i ≤ ns.length ∧ Same H H' ∧ (∃ w3 w4, σ = [some (.ref a), some (.ref l), some (.ref nl), w3, w4]) ∧ H' nl = some (.lst ((ns.take i).map V.str)))
    ⟨Nat.zero_le _, s0, ⟨_, _, rfl⟩, upd_same⟩ (fun i σ H' _ z => Md.Same.sqL z.2.1 hl) ?_ ?_
  · rintro i x σ H1 H1' hi ⟨him, s1, ⟨w3, w4, rfl⟩, hnl1⟩ ⟨T, y0, y, rfl, hT, rfl, ey0, hy⟩
    cases ey0
    have sT := Same.new (o := .tup [.int (i : Nat), y]) hT
    have s2 := Same.trans s1 sT
    refine ⟨T, _, rfl, SqT.of upd_same, rfl, _, _, rfl, _, _, rfl, rfl, ?_⟩
    have hnl2 := sT _ _ hnl1
    generalize upd H1 T (.tup [.int (i : Nat), y]) = H2 at hnl2 s2 ⊢
    obtain ⟨r, hr⟩ : ∃ r, rs[i]? = some r := ⟨rs[i], List.getElem?_eq_getElem (by omega)⟩
    have hf := (hF i y r hy hr).mono s2
    walk_at "v"
    refine ⟨y, r, rfl, hf, fun H3 s3 => ?_⟩
    have hnl3 := s3 _ _ hnl2
    have s3' := Same.trans s2 s3
    refine ⟨_, rfl, ?_⟩
    rcases Nat.lt_or_ge i ns.length with hlt | hge
    · obtain ⟨n, en⟩ : ∃ n, ns[i]? = some n := ⟨ns[i], List.getElem?_eq_getElem hlt⟩
      obtain ⟨k, ek⟩ : ∃ k, ks[i]? = some k := ⟨ks[i], List.getElem?_eq_getElem (by omega)⟩
      obtain ⟨er, hni⟩ := hG i n k en ek
      rw [hr] at er
      cases er
      obtain ⟨t, rfl, ht⟩ := (hf.mono s3).some_
      show (if (!true) = true then _ else _)
      refine iteF ?_
      walk_at "v"
      refine Or.inr (Or.inl ⟨_, _, _, _, rfl, rfl, SqT.of ht, rfl, ?_⟩)
      walk_at "v"
      refine ⟨nl, _, rfl, .inl (SqL.of hnl3), rfl, flat_strs _, ?_⟩
      refine ⟨_, rfl, ?_⟩
      have e : inV (.str n) ((ns.take i).map V.str) = false := by rw [inV_strs]; exact decide_eq_false hni
      show (if inV (.str n) ((ns.take i).map V.str) = true then _ else _)
      rw [e]
      refine iteF ?_
      walk_at "v"
      refine ⟨.inl ⟨rfl, _, SqL.of hnl3⟩, ?_⟩
      walk_at "v"
      refine Or.inr (Or.inl ⟨_, _, _, _, rfl, rfl, SqT.of ht, rfl, ?_⟩)
      refine ⟨nl, _, _, rfl, rfl, hnl3, ?_, ?_⟩
      · rw [List.length_map, List.length_take]
        exact Nat.lt_of_le_of_lt (Nat.min_le_right _ _) (Nat.lt_of_lt_of_le (show ns.length < 6 by omega) (by decide))
      · refine ⟨hlt, fun b o hb => ?_, ⟨_, _, rfl⟩, ?_⟩
        · rw [upd_ne (ne_of_none hb hnl)]
          exact s3' b o hb
        · rw [upd_same, List.take_succ, en]
          simp
    · obtain ⟨⟨r', er', hr'⟩, kb⟩ := kbad (by omega)
      have ei : i = ns.length := by omega
      subst ei
      rw [hr] at er'
      cases er'
      cases r with
      | none =>
        show (if (!false) = true then _ else _)
        refine iteT ?_
        show (if true = true then _ else _)
        refine iteT ?_
        walk_at "v"
        exact mk_xi fun d H' s h => kb d H' (Xb.of (Same.trans s3' s)) h
      | some q =>
        obtain ⟨n, k⟩ := q
        have hin := hr' n k rfl
        obtain ⟨t, rfl, ht⟩ := (hf.mono s3).some_
        show (if (!true) = true then _ else _)
        refine iteF ?_
        walk_at "v"
        refine Or.inr (Or.inl ⟨_, _, _, _, rfl, rfl, SqT.of ht, rfl, ?_⟩)
        walk_at "v"
        refine ⟨nl, _, rfl, .inl (SqL.of hnl3), rfl, flat_strs _, ?_⟩
        refine ⟨_, rfl, ?_⟩
        have e : inV (.str n) ((ns.take ns.length).map V.str) = true := by rw [inV_strs, List.take_length]; exact decide_eq_true hin
        show (if inV (.str n) ((ns.take ns.length).map V.str) = true then _ else _)
        rw [e]
        refine iteT ?_
        walk_at "v"
        exact mk_xi fun d H' s h => kb d H' (Xb.of (Same.trans s3' s)) h
  · rintro σ H1 ⟨him, s1, ⟨w3, w4, rfl⟩, hnl1⟩
    have em : ns.length = rs.length := by omega
    have et : ns.take xs.length = ns := List.take_of_length_le (by omega)
    rw [et] at hnl1
    walk_at "v"
    refine ⟨nl, _, rfl, SqL.of hnl1, fun tn on htn hcn hdn => ?_⟩
    have sn := Same.new (o := .frz on (.tup (ns.map V.str))) htn
    have s2 := Same.trans s1 sn
    have gtn : TupF (upd H1 tn (.frz on (.tup (ns.map V.str)))) tn (ns.map V.str) := ⟨on, upd_same, hcn, hdn⟩
    generalize upd H1 tn (.frz on (.tup (ns.map V.str))) = H2 at gtn s2 ⊢
    walk_at "v"
    have ha2 := s2 _ _ ha
    refine ⟨a, A.cLayout, dx, [], rfl, ha2, cl, nn, by decide, ?_⟩
    have x3 : Xb a H2 (upd H2 a (.ins A.cLayout dx (putF "names" (.ref tn) []))) := Xb.upd Xb.refl
    have ha3 : (upd H2 a (.ins A.cLayout dx (putF "names" (.ref tn) []))) a = some (.ins A.cLayout dx [("names", .ref tn)]) := upd_same
    generalize upd H2 a (.ins A.cLayout dx (putF "names" (.ref tn) [])) = H3 at x3 ha3 ⊢
    have hl3 := SqL.xbI hl ha s2 x3
    have ntn : tn ≠ a := by
      obtain ⟨o, e, _⟩ := gtn
      exact ne_of e ha2 (by intro z; cases z)
    have gtn3 : TupF H3 tn (ns.map V.str) := by
      obtain ⟨o, e, r⟩ := gtn
      exact ⟨o, x3 _ _ ntn e, r⟩
    walk_at "v"
    refine ⟨l, rfl, ⟨xs, hl3⟩, fun D hD => ?_⟩
    refine lc_list (K := K) (a := l) (xs := xs) (fun i H' => Same H3 H' ∧ H' D = some (.lst ((ks.take i).map V.str))) ⟨Same.new hD, upd_same⟩ (fun i H' _ z => Same.sqL z.1 hl3) ?_ ?_
    · rintro i x H4 hx ⟨s4, hD4⟩
      have hi : i < ns.length := by
        have := (List.getElem?_eq_some_iff.mp hx).1
        omega
      obtain ⟨n, en⟩ : ∃ n, ns[i]? = some n := ⟨ns[i], List.getElem?_eq_getElem hi⟩
      obtain ⟨k, ek⟩ : ∃ k, ks[i]? = some k := ⟨ks[i], List.getElem?_eq_getElem (by omega)⟩
      obtain ⟨t, rfl, ht⟩ := (hF i x _ hx (hG i n k en ek).1).some_
      have ht2 := s2 _ _ ht
      have ht4 := s4 _ _ (x3 t _ (ne_of ht2 ha2 (by intro z; cases z)) ht2)
      refine ⟨rfl, ?_⟩
      walk_at "v"
      refine Or.inr (Or.inl ⟨_, _, _, _, rfl, rfl, SqT.of ht4, rfl, ?_⟩)
      refine ⟨_, hD4, ?_, fun b o hb => ?_, ?_⟩
      · rw [List.length_map, List.length_take]
        exact Nat.lt_of_le_of_lt (Nat.min_le_right _ _) (Nat.lt_of_lt_of_le (show ks.length < 6 by omega) (by decide))
      · rw [upd_ne (ne_of_none hb hD)]
        exact s4 b o hb
      · rw [upd_same, List.take_succ, ek]
        simp
    · rintro H4 ⟨s4, hD4⟩
      have ek : ks.take xs.length = ks := List.take_of_length_le (by omega)
      rw [ek] at hD4
      refine ⟨D, _, rfl, SqL.of hD4, fun tk ok_ htk hck hdk => ?_⟩
      have s5 := Same.trans s4 (Same.new (o := .frz ok_ (.tup (ks.map V.str))) htk)
      have gtk : TupF (upd H4 tk (.frz ok_ (.tup (ks.map V.str)))) tk (ks.map V.str) := ⟨ok_, upd_same, hck, hdk⟩
      generalize upd H4 tk (.frz ok_ (.tup (ks.map V.str))) = H5 at gtk s5 ⊢
      have ha5 := s5 _ _ ha3
      walk_at "v"
      refine ⟨a, A.cLayout, dx, _, rfl, ha5, cl, nk, by show 1 < 1000; decide, ?_⟩
      have ntk : tk ≠ a := by
        obtain ⟨o, e, _⟩ := gtk
        exact ne_of e ha5 (by intro z; cases z)
      refine kok em _ (fun b o nb hb => ?_) ⟨dx, tn, tk, upd_same, ?_, ?_, hkn.symm, by omega, fun i n hn j hj hjn => ?_⟩
      · rw [upd_ne nb]
        exact s5 _ _ (x3 _ _ nb (s2 _ _ hb))
      · obtain ⟨o, e, r⟩ := gtn3
        exact ⟨o, by rw [upd_ne ntn]; exact s5 _ _ e, r⟩
      · obtain ⟨o, e, r⟩ := gtk
        exact ⟨o, by rw [upd_ne ntk]; exact e, r⟩
      · have hi : i < ns.length := (List.getElem?_eq_some_iff.mp hn).1
        obtain ⟨k, ek⟩ : ∃ k, ks[i]? = some k := ⟨ks[i], List.getElem?_eq_getElem (by omega)⟩
        refine (hG i n k hn ek).2 (List.mem_of_getElem? (i := j) ?_)
        rw [List.getElem?_take_of_lt hj]
        exact hjn
/-! ### its length, a field's kind -/
def t_Layout___len__ (K : PySem.W.Frag) (A : Ads) (E : XK) : TS :=
    (tRet (tCB (rLen K) (tCons (tFld K (tVar 0) "names") tNil)))
def n_Layout___len__ : List Str := ["self"]
def sp_Layout___len__ (K : PySem.W.Frag) (A : Ads) : Sp := fun vs H Q _ => ∃ (a : Addr) (ns ks : List Str), vs = [.ref a] ∧ LayAt A H a ns ks ∧ Q (.int (ns.length : Nat)) H
theorem len_Layout___len__ {K : PySem.W.Frag} {A : Ads} {vs : List V} {H : Hp} {Q : VK} {E : XK} (h : sp_Layout___len__ K A vs H Q E) : vs.length = 1 := by
  obtain ⟨a, _, _, rfl, _⟩ := h
  rfl
theorem pure_Layout___len__ {K : PySem.W.Frag} {A : Ads} (cl : Cls K A.cLayout) (nn : NoAttr K A.cLayout "names") {vs : List V} {H : Hp} {Q : VK} {E : XK} (h : sp_Layout___len__ K A vs H Q E) :
    t_Layout___len__ K A E { nx := fun _ H' => Q .non H', rt := Q } (start n_Layout___len__ vs) H := by
  obtain ⟨a, ns, ks, rfl, ⟨dx, tn, tk, ha, gn, gk, r⟩, k⟩ := h
  walk_at "v"
  refine ⟨a, _, dx, _, _, rfl, ha, cl, nn, rfl, ?_⟩
  refine ⟨_, _, rfl, .inr ⟨_, gn.seq, rfl⟩, ?_⟩
  rw [List.length_map]
  exact k
def t_BadField___init__ (K : PySem.W.Frag) (A : Ads) (E : XK) : TS :=
    (tOst K "name" (tVar 0) (tVar 1))
def n_BadField___init__ : List Str := ["self", "name"]
def sp_BadField___init__ (K : PySem.W.Frag) (A : Ads) : Sp := spXi A.cBadField "name"
def t_Layout_kind (K : PySem.W.Frag) (A : Ads) (E : XK) : TS :=
    (tSeq (tIfS (tTest (tOp (rIn K true) (tVar 1) (tFld K (tVar 0) "names"))) (tRaise E (tMkO A.cBadField (sp_BadField___init__ K A) [] (tCons (tVar 1) tNil))) tNext)
    (tRet (tOp (rIx K) (tFld K (tVar 0) "_kinds") (tBMF (rTIdx K) (tFld K (tVar 0) "names") (tCons (tVar 1) tNil)))))
def n_Layout_kind : List Str := ["self", "name"]
def sp_Layout_kind (K : PySem.W.Frag) (A : Ads) : Sp := fun vs H Q E => ∃ (a : Addr) (n : Str) (ns ks : List Str), vs = [.ref a, .str n] ∧ LayAt A H a ns ks ∧
  (∀ (i : Nat) k, ns[i]? = some n → ks[i]? = some k → Q (.str k) H) ∧ (n ∉ ns → ∀ d H', Same H H' → H' d = some (.xd [("name", .str n)]) → E (.ref A.cBadField) (some d) H')
theorem len_Layout_kind {K : PySem.W.Frag} {A : Ads} {vs : List V} {H : Hp} {Q : VK} {E : XK} (h : sp_Layout_kind K A vs H Q E) : vs.length = 2 := by
  obtain ⟨a, _, _, _, rfl, _⟩ := h
  rfl
theorem pure_Layout_kind {K : PySem.W.Frag} {A : Ads} (cl : Cls K A.cLayout) (nk : NoAttr K A.cLayout "_kinds") (nn : NoAttr K A.cLayout "names") {vs : List V} {H : Hp} {Q : VK} {E : XK} (h : sp_Layout_kind K A vs H Q E) :
    t_Layout_kind K A E { nx := fun _ H' => Q .non H', rt := Q } (start n_Layout_kind vs) H := by
  obtain ⟨a, n, ns, ks, rfl, ⟨dx, tn, tk, ha, gn, gk, hnk, h5, hd⟩, k1, k2⟩ := h
  walk_at "v"; walk_at "v"
  refine ⟨a, _, dx, _, _, rfl, ha, cl, nn, rfl, ?_⟩
  refine ⟨tn, _, rfl, .inr gn.seq, rfl, flat_strs _, ?_⟩
  refine ⟨_, rfl, ?_⟩
  show (if (!inV (.str n) (ns.map V.str)) = true then _ else _)
  rw [inV_strs]
  refine iteN (fun hin => ?_) (fun hin => ?_)
  · obtain ⟨i, hi, e⟩ := List.getElem_of_mem hin
    have en : ns[i]? = some n := by rw [List.getElem?_eq_getElem hi, e]
    obtain ⟨k, ek⟩ : ∃ k, ks[i]? = some k := ⟨ks[i], List.getElem?_eq_getElem (by omega)⟩
    walk_at "v"
    refine ⟨a, _, dx, _, _, rfl, ha, cl, nk, rfl, ?_⟩
    walk_at "v"
    refine ⟨a, _, dx, _, _, rfl, ha, cl, nn, rfl, ?_⟩
    refine ⟨⟨tn, _, rfl, gn⟩, ?_⟩
    walk_at "v"
    refine ⟨tn, ns, n, i, rfl, rfl, gn.seq, en, fun m hm => hd i n en m hm, ?_⟩
    refine Or.inr (Or.inl ⟨_, _, _, _, rfl, rfl, gk.seq, ?_, k1 i k en ek⟩)
    have hik : i < (ks.map V.str).length := by rw [List.length_map]; omega
    obtain ⟨x, e1, e2⟩ := atI_of (xs := ks.map V.str) (d := (i : Int)) (by omega) (by omega)
    rw [e1]
    have e3 : (i : Int).toNat = i := by omega
    rw [e3, List.getElem?_map, ek] at e2
    exact e2.symm
  · walk_at "v"
    exact mk_xi fun d H' s h => k2 hin d H' s h
/-! ### what a field may hold -/
def HoldB (K : PySem.W.Frag) (H : Hp) (kd : Str) (x : V) (b : Bool) : Prop := (x = .non ∧ b = true) ∨ (x ≠ .non ∧ ((kd = "number" ∧ NumB K H x b) ∨ (kd ≠ "number" ∧ WordB K H x b)))
theorem HoldB.mono {K : PySem.W.Frag} {H H' : Hp} {kd : Str} {x : V} {b : Bool} (h : HoldB K H kd x b) (s : Same H H') : HoldB K H' kd x b := by
  rcases h with h | ⟨h, ⟨e, h2⟩ | ⟨e, h2⟩⟩
  · exact .inl h
  · exact .inr ⟨h, .inl ⟨e, h2.mono s⟩⟩
  · exact .inr ⟨h, .inr ⟨e, h2.mono s⟩⟩
def t__may_hold (K : PySem.W.Frag) (A : Ads) (E : XK) : TS :=
    (tSeq (tIfS (tTest (tOp rIsN (tVar 1) (tC .non))) (tRet (tC (.bl true))) tNext)
    (tRet (tIf (tTest (tOp rEq (tVar 0) (tC (.str "number")))) (tCall (sp_is_number K A) [] E0 (tCons (tVar 1) tNil)) (tCall (sp_is_word K A) [] E0 (tCons (tVar 1) tNil)))))
def n__may_hold : List Str := ["kind", "thing"]
def sp__may_hold (K : PySem.W.Frag) (A : Ads) : Sp := fun vs H Q _ => ∃ (kd : Str) (x : V) (b : Bool), vs = [.str kd, x] ∧ HoldB K H kd x b ∧ ∀ H', Same H H' → Q (.bl b) H'
theorem len__may_hold {K : PySem.W.Frag} {A : Ads} {vs : List V} {H : Hp} {Q : VK} {E : XK} (h : sp__may_hold K A vs H Q E) : vs.length = 2 := by
  obtain ⟨a, _, _, rfl, _⟩ := h
  rfl
theorem pure__may_hold {K : PySem.W.Frag} {A : Ads} {vs : List V} {H : Hp} {Q : VK} {E : XK} (h : sp__may_hold K A vs H Q E) : t__may_hold K A E { nx := fun _ H' => Q .non H', rt := Q } (start n__may_hold vs) H := by
  obtain ⟨kd, x, b, rfl, h, k⟩ := h
  walk_at "v"
  refine ⟨rfl, ?_⟩
  refine ⟨_, rfl, ?_⟩
  refine iteD (fun hx => ?_) (fun hx => ?_)
  · subst hx
    rcases h with ⟨_, rfl⟩ | ⟨h, _⟩
    · exact k H (Same.refl H)
    · exact absurd rfl h
  · rcases h with ⟨h, _⟩ | ⟨_, h⟩
    · exact absurd h hx
    walk_at "v"
    refine ⟨rfl, ?_⟩
    refine ⟨_, rfl, ?_⟩
    refine iteD (fun hk => ?_) (fun hk => ?_)
    · rcases h with ⟨_, h⟩ | ⟨h, _⟩
      · walk_at "v"
        exact ⟨x, b, rfl, h, k H (Same.refl H)⟩
      · exact absurd (by injection hk) h
    · rcases h with ⟨h, _⟩ | ⟨_, h⟩
      · exact absurd (congrArg V.str h) hk
      · walk_at "v"
        exact ⟨x, b, rfl, h, k⟩
/-! ### first_wrong -/
def Holds1 (K : PySem.W.Frag) (H : Hp) (ns ks : List Str) (kvs : List (Key × V)) (i : Nat) (b : Bool) : Prop := ∀ n k, ns[i]? = some n → ks[i]? = some k → (b = true ∧ valV kvs (.inr n) = none) ∨ ∃ v, valV kvs (.inr n) = some v ∧ HoldB K H k v b
theorem Holds1.mono {K : PySem.W.Frag} {H H' : Hp} {ns ks : List Str} {kvs : List (Key × V)} {i : Nat} {b : Bool} (h : Holds1 K H ns ks kvs i b) (s : Same H H') : Holds1 K H' ns ks kvs i b := fun n k e1 e2 => by
  rcases h n k e1 e2 with h | ⟨v, e, h⟩
  · exact .inl h
  · exact .inr ⟨v, e, h.mono s⟩
def t_first_wrong (K : PySem.W.Frag) (A : Ads) (E : XK) : TS :=
    (tSeq (tFor (iTup K (tFld K (tVar 0) "names")) (gName 2) (tIfS (tAnd (tB (tDIn (tVar 2) (tVar 1))) (tNot (tB (tCall (sp__may_hold K A) [] E0 (tCons (tMeth A.cLayout "kind" (sp_Layout_kind K A) [] E (tVar 0) (tCons (tVar 2) tNil)) (tCons (tDGet (tVar 1) (tVar 2)) tNil)))))) (tRet (tVar 2)) tNext))
    (tRet (tC .non)))
def n_first_wrong : List Str := ["layout", "values", "name"]
def sp_first_wrong (K : PySem.W.Frag) (A : Ads) : Sp := fun vs H Q _ => ∃ (a d : Addr) (ns ks : List Str) (kvs : List (Key × V)) (m : Nat), vs = [.ref a, .ref d] ∧ LayAt A H a ns ks ∧ H d = some (.dK kvs) ∧ m ≤ ns.length ∧
  (∀ i, i < m → Holds1 K H ns ks kvs i true) ∧ (m = ns.length → ∀ H', Same H H' → Q .non H') ∧ (m < ns.length → Holds1 K H ns ks kvs m false ∧ ∀ n H', ns[m]? = some n → Same H H' → Q (.str n) H')
theorem len_first_wrong {K : PySem.W.Frag} {A : Ads} {vs : List V} {H : Hp} {Q : VK} {E : XK} (h : sp_first_wrong K A vs H Q E) : vs.length = 2 := by
  obtain ⟨a, _, _, _, _, _, rfl, _⟩ := h
  rfl
theorem pure_first_wrong {K : PySem.W.Frag} {A : Ads} (cl : Cls K A.cLayout) (nn : NoAttr K A.cLayout "names") {vs : List V} {H : Hp} {Q : VK} {E : XK} (h : sp_first_wrong K A vs H Q E) :
    t_first_wrong K A E { nx := fun _ H' => Q .non H', rt := Q } (start n_first_wrong vs) H := by
  obtain ⟨a, d, ns, ks, kvs, m, rfl, lay, hd, hm, hok, k1, k2⟩ := h
  have lay0 := lay
  obtain ⟨dx, tn, tk, ha, gn, gk, hnk, h5, hdup⟩ := lay0
  walk_at "v"
  refine ⟨a, _, dx, _, _, rfl, ha, cl, nn, rfl, ?_⟩
  refine ⟨tn, rfl, ⟨_, gn.seq⟩, ?_⟩
  refine for_tup (K := K) (a := tn) (xs := ns.map V.str) (fun i σ H' => i ≤ m ∧ Same H H' ∧ ∃ w2, σ = [some (.ref a), some (.ref d), w2]) ⟨Nat.zero_le _, Same.refl H, _, rfl⟩ (fun i σ H' _ z => (gn.same z.2.1).seq) ?_ ?_
  · rintro i x σ H1 hx ⟨him, s1, w2, rfl⟩
    have hi : i < ns.length := by
      have := (List.getElem?_eq_some_iff.mp hx).1
      rwa [List.length_map] at this
    obtain ⟨n, en⟩ : ∃ n, ns[i]? = some n := ⟨ns[i], List.getElem?_eq_getElem hi⟩
    obtain ⟨k, ek⟩ : ∃ k, ks[i]? = some k := ⟨ks[i], List.getElem?_eq_getElem (by omega)⟩
    rw [List.getElem?_map, en] at hx
    cases hx
    have hd1 := s1 _ _ hd
    walk_at "v"; walk_at "v"
    refine ⟨d, valV kvs (.inr n), rfl, DGet.k (k := .inr n) hd1, ?_⟩
    refine ⟨_, rfl, ?_⟩
    have lay1 := lay.same s1
    -- the rest of the test, when the name is there
    have rest : ∀ v b, valV kvs (.inr n) = some v → HoldB K H k v b → ∀ Q2 : Bool → Hp → Prop, (∀ H', Same H H' → Q2 (!b) H') →
        tNot (tB (tCall (sp__may_hold K A) [] E0 (tCons (tMeth A.cLayout "kind" (sp_Layout_kind K A) [] E (tVar 0) (tCons (tVar 2) tNil)) (tCons (tDGet (tVar 1) (tVar 2)) tNil)))) [some (.ref a), some (.ref d), some (.str n)] H1 Q2 := by
      intro v b hv hb Q2 hQ2
      walk_at "v"
      refine ⟨a, dx, _, rfl, s1 _ _ ha, rfl, ?_⟩
      walk_at "v"
      refine ⟨a, n, ns, ks, rfl, lay1, fun i' k' e1 e2 => ?_, fun hn => absurd (List.mem_of_getElem? en) hn⟩
      have ei : i' = i := by
        rcases Nat.lt_trichotomy i' i with z | z | z
        · exact absurd e1 (hdup i n en i' z)
        · exact z
        · exact absurd en (hdup i' n e1 i z)
      subst ei
      rw [ek] at e2
      cases e2
      walk_at "v"; walk_at "v"
      refine ⟨d, v, rfl, by rw [← hv]; exact DGet.k (k := .inr n) hd1, ?_⟩
      refine ⟨k, v, b, rfl, hb.mono s1, fun H2 s2 => ?_⟩
      exact ⟨_, rfl, hQ2 _ (Same.trans s1 s2)⟩
    rcases Nat.lt_or_ge i m with hlt | hge
    · rcases hok i hlt n k en ek with ⟨_, hv⟩ | ⟨v, hv, hb⟩
      · rw [hv]
        refine iteF ?_
        refine iteF ?_
        exact ⟨hlt, s1, _, rfl⟩
      · rw [hv]
        refine iteT ?_
        refine rest v true hv hb _ fun H' s' => ?_
        refine iteF ?_
        exact ⟨hlt, s', _, rfl⟩
    · have ei : i = m := by omega
      subst ei
      obtain ⟨hw, kr⟩ := k2 hi
      rcases hw n k en ek with ⟨hb, _⟩ | ⟨v, hv, hb⟩
      · cases hb
      · rw [hv]
        refine iteT ?_
        refine rest v false hv hb _ fun H' s' => ?_
        refine iteT ?_
        walk_at "v"
        exact kr n H' en s'
  · rintro σ H1 ⟨him, s1, w2, rfl⟩
    rw [List.length_map] at him
    exact k1 (by omega) H1 s1
/-! ### is_filling -/
def HasB (K : PySem.W.Frag) (H : Hp) (ns : List Str) (x : V) (b : Bool) : Prop := (∃ T, TyX K H x (.type T) ∧ T ≠ "dict" ∧ b = false) ∨
  ∃ d kvs, x = .ref d ∧ H d = some (.dK kvs) ∧ b = (decide (kvs.length = ns.length) && ns.all fun n => (valV kvs (.inr n)).isSome)
theorem kit_dict {K : PySem.W.Frag} {H : Hp} {x : V} {T : String} (ty : TyX K H x (.type T)) (hn : T ≠ "dict") : kitB T "dict" = some false := by
  cases ty with
  | base b => cases b <;> first | exact absurd rfl hn | decide +kernel
  | _ => first | exact absurd rfl hn | decide +kernel
def t__has_all_fields (K : PySem.W.Frag) (A : Ads) (E : XK) : TS :=
    (tRet (tAndV (tCB (rIsi K) (tCons (tVar 1) (tCons (tC (.ty "dict")) tNil))) (tAndV (tOp rEq (tCB rLenD (tCons (tVar 1) tNil)) (tCB (rLenO A.cLayout (sp_Layout___len__ K A) E0) (tCons (tVar 0) tNil))) (tCB (rAll K) (tCons (tLc (iTup K (tFld K (tVar 0) "names")) (gName 2) tYes (tDIn (tVar 2) (tVar 1)) [2]) tNil)))))
def n__has_all_fields : List Str := ["layout", "thing", "name"]
def sp__has_all_fields (K : PySem.W.Frag) (A : Ads) : Sp := fun vs H Q _ => ∃ (a : Addr) (x : V) (ns ks : List Str) (b : Bool), vs = [.ref a, x] ∧ LayAt A H a ns ks ∧ HasB K H ns x b ∧ ∀ H', Same H H' → Q (.bl b) H'
theorem len__has_all_fields {K : PySem.W.Frag} {A : Ads} {vs : List V} {H : Hp} {Q : VK} {E : XK} (h : sp__has_all_fields K A vs H Q E) : vs.length = 2 := by
  obtain ⟨a, _, _, _, _, rfl, _⟩ := h
  rfl
theorem pure__has_all_fields {K : PySem.W.Frag} {A : Ads} (cl : Cls K A.cLayout) (nn : NoAttr K A.cLayout "names") {vs : List V} {H : Hp} {Q : VK} {E : XK} (h : sp__has_all_fields K A vs H Q E) :
    t__has_all_fields K A E { nx := fun _ H' => Q .non H', rt := Q } (start n__has_all_fields vs) H := by
  obtain ⟨a, x, ns, ks, b, rfl, lay, hb, k⟩ := h
  have lay0 := lay
  obtain ⟨dx, tn, tk, ha, gn, gk, hnk, h5, hdup⟩ := lay0
  walk_at "v"
  rcases hb with ⟨T, ty, hn, rfl⟩ | ⟨d, kvs, rfl, hd, rfl⟩
  · refine ⟨_, _, _, _, _, rfl, .ty _, ty, kit_ty (kit_dict ty hn), ?_⟩
    exact ⟨_, rfl, iteF (k H (Same.refl H))⟩
  · refine ⟨_, _, _, _, _, rfl, .ty _, .base (.dK hd), kit_ty (by decide +kernel : kitB "dict" "dict" = some true), ?_⟩
    refine ⟨_, rfl, iteT ?_⟩
    walk_at "v"
    refine ⟨d, kvs, rfl, hd, ?_⟩
    walk_at "v"
    refine ⟨a, dx, _, rfl, ha, a, ns, ks, rfl, lay, _, rfl, by omega, ?_, ?_⟩
    · have : (2 : Int) ^ 63 = 9223372036854775808 := by decide
      omega
    refine ⟨rfl, ?_⟩
    refine ⟨_, rfl, ?_⟩
    refine iteD (fun he => ?_) (fun he => ?_)
    · have he' : kvs.length = ns.length := by injection he with he; omega
      walk_at "v"
      refine ⟨a, _, dx, _, _, rfl, ha, cl, nn, rfl, ?_⟩
      refine ⟨tn, rfl, ⟨_, gn.seq⟩, fun D hD => ?_⟩
      refine lc_tup (K := K) (a := tn) (xs := ns.map V.str) (fun i H' => Same H H' ∧ H' D = some (.lst ((ns.take i).map fun n => V.bl (valV kvs (.inr n)).isSome))) ⟨Same.new hD, upd_same⟩ (fun i H' _ z => (gn.same z.1).seq) ?_ ?_
      · rintro i x H1 hx ⟨s1, hl⟩
        have hi : i < ns.length := by
          have := (List.getElem?_eq_some_iff.mp hx).1
          rwa [List.length_map] at this
        obtain ⟨n, en⟩ : ∃ n, ns[i]? = some n := ⟨ns[i], List.getElem?_eq_getElem hi⟩
        rw [List.getElem?_map, en] at hx
        cases hx
        refine ⟨rfl, ?_⟩
        walk_at "v"; walk_at "v"
        refine ⟨d, _, rfl, DGet.k (k := .inr n) (s1 _ _ hd), ?_⟩
        refine ⟨_, hl, ?_, fun b o hb => ?_, ?_⟩
        · rw [List.length_map, List.length_take]
          exact Nat.lt_of_le_of_lt (Nat.min_le_right _ _) (Nat.lt_of_lt_of_le (show ns.length < 6 by omega) (by decide))
        · rw [upd_ne (ne_of_none hb hD)]
          exact s1 b o hb
        · rw [upd_same, List.take_succ, en]
          simp
      · rintro H1 ⟨s1, hl⟩
        rw [List.length_map, List.take_length] at hl
        refine ⟨D, ns.map fun n => (valV kvs (.inr n)).isSome, rfl, SqL.of (by rw [List.map_map]; exact hl), ?_⟩
        have e3 : (ns.map fun n => (valV kvs (.inr n)).isSome).all id = (decide (kvs.length = ns.length) && ns.all fun n => (valV kvs (.inr n)).isSome) := by
          rw [List.all_map, decide_eq_true he', Bool.true_and]
          rfl
        rw [e3]
        exact k H1 s1
    · have e3 : (decide (kvs.length = ns.length) && ns.all fun n => (valV kvs (.inr n)).isSome) = false := by
        rw [decide_eq_false (fun z => he (by rw [z])), Bool.false_and]
      rw [e3] at k
      exact k H (Same.refl H)
def FillB (K : PySem.W.Frag) (H : Hp) (ns ks : List Str) (x : V) (b : Bool) : Prop := (HasB K H ns x false ∧ b = false) ∨ ∃ d kvs m, x = .ref d ∧ H d = some (.dK kvs) ∧ HasB K H ns x true ∧ m ≤ ns.length ∧ (∀ i, i < m → Holds1 K H ns ks kvs i true) ∧
  ((m = ns.length ∧ b = true) ∨ (m < ns.length ∧ Holds1 K H ns ks kvs m false ∧ b = false))
def t_Layout_is_filling (K : PySem.W.Frag) (A : Ads) (E : XK) : TS :=
    (tRet (tAndV (tCall (sp__has_all_fields K A) [] E0 (tCons (tVar 0) (tCons (tVar 1) tNil))) (tOp rIsN (tCall (sp_first_wrong K A) [] E (tCons (tVar 0) (tCons (tVar 1) tNil))) (tC .non))))
def n_Layout_is_filling : List Str := ["self", "thing"]
def sp_Layout_is_filling (K : PySem.W.Frag) (A : Ads) : Sp := fun vs H Q _ => ∃ (a : Addr) (x : V) (ns ks : List Str) (b : Bool), vs = [.ref a, x] ∧ LayAt A H a ns ks ∧ FillB K H ns ks x b ∧ ∀ H', Same H H' → Q (.bl b) H'
theorem len_Layout_is_filling {K : PySem.W.Frag} {A : Ads} {vs : List V} {H : Hp} {Q : VK} {E : XK} (h : sp_Layout_is_filling K A vs H Q E) : vs.length = 2 := by
  obtain ⟨a, _, _, _, _, rfl, _⟩ := h
  rfl
theorem pure_Layout_is_filling {K : PySem.W.Frag} {A : Ads} {vs : List V} {H : Hp} {Q : VK} {E : XK} (h : sp_Layout_is_filling K A vs H Q E) :
    t_Layout_is_filling K A E { nx := fun _ H' => Q .non H', rt := Q } (start n_Layout_is_filling vs) H := by
  obtain ⟨a, x, ns, ks, b, rfl, lay, hb, k⟩ := h
  walk_at "v"; walk_at "v"
  rcases hb with ⟨hb, rfl⟩ | ⟨d, kvs, m, rfl, hd, hb, hm, hok, hr⟩
  · refine ⟨a, x, ns, ks, false, rfl, lay, hb, fun H1 s1 => ?_⟩
    exact ⟨_, rfl, iteF (k H1 s1)⟩
  · refine ⟨a, .ref d, ns, ks, true, rfl, lay, hb, fun H1 s1 => ?_⟩
    refine ⟨_, rfl, iteT ?_⟩
    walk_at "v"; walk_at "v"
    refine ⟨a, d, ns, ks, kvs, m, rfl, lay.same s1, s1 _ _ hd, hm, fun i hi => (hok i hi).mono s1, fun em H2 s2 => ?_, fun hlt => ?_⟩
    · rcases hr with ⟨_, rfl⟩ | ⟨h, _⟩
      · exact ⟨rfl, k H2 (Same.trans s1 s2)⟩
      · omega
    · rcases hr with ⟨h, _⟩ | ⟨_, hw, rfl⟩
      · omega
      · exact ⟨hw.mono s1, fun n H2 en s2 => ⟨rfl, k H2 (Same.trans s1 s2)⟩⟩
end Md

set_option Elab.async false
set_option linter.all false
set_option maxRecDepth 100000
set_option maxHeartbeats 4000000
set_option exponentiation.threshold 20000
namespace Md
open PySem PySem.Spec PyProof.Rows PySem.Calls L2
local macro_rules | `(tactic| walk_at "v") => `(tactic| refine ⟨_, rfl, ?_⟩)
local macro_rules | `(tactic| walk_at "ii") => `(tactic| refine ⟨_, _, rfl, rfl, ?_⟩)
/-! ### drawn names: letters of a few with one mark among them -/
def isS (c : Nat) : Bool := decide (c ∈ (Str.ofString "abcfghklmnprst").cps.toList)
def NameOf (m : Nat) (z : Str) : Prop := ∃ a b : List Nat, z.cps.toList = a ++ m :: b ∧ (∀ c ∈ a, isS c = true) ∧ (∀ c ∈ b, isS c = true) ∧ a.length + b.length ≤ 7
theorem isS_isL : ∀ c ∈ (Str.ofString "abcfghklmnprst").cps.toList, isL c = true := by decide +kernel
theorem NameOf.word {m : Nat} {z : Str} (h : NameOf m z) (hm : isL m = true) : isWord z = true := by
  obtain ⟨a, b, e, ha, hb, hl⟩ := h
  have e2 : z = ⟨(a ++ m :: b).toArray⟩ := by rw [← e]
  rw [e2]
  refine isWord_of (by rw [List.length_append, List.length_cons]; omega) (by rw [List.length_append, List.length_cons]; omega) fun c hc => ?_
  rcases List.mem_append.mp hc with h | h
  · exact isS_isL c (of_decide_eq_true (ha c h))
  rcases List.mem_cons.mp h with rfl | h
  · exact hm
  · exact isS_isL c (of_decide_eq_true (hb c h))
theorem NameOf.mark {m : Nat} {z : Str} (h : NameOf m z) : m ∈ z.cps.toList ∧ ∀ c ∈ z.cps.toList, c = m ∨ isS c = true := by
  obtain ⟨a, b, e, ha, hb, hl⟩ := h
  rw [e]
  refine ⟨List.mem_append_right _ List.mem_cons_self, fun c hc => ?_⟩
  rcases List.mem_append.mp hc with h | h
  · exact .inr (ha c h)
  rcases List.mem_cons.mp h with rfl | h
  · exact .inl rfl
  · exact .inr (hb c h)
theorem NameOf.ne {m m' : Nat} {z z' : Str} (h : NameOf m z) (h' : NameOf m' z') (hm : m ≠ m') (hs : isS m = false) : z ≠ z' := by
  rintro rfl
  rcases h'.mark.2 m h.mark.1 with e | e
  · exact hm e
  · rw [hs] at e; cases e
def marks : List Nat := (Str.ofString "jqvxzyu").cps.toList
theorem res_marks : ∀ w ∈ kRES, ∀ m ∈ marks, (decide (m ∈ w.cps.toList) && w.cps.toList.all fun c => decide (c = m) || isS c) = false := by decide +kernel
theorem marks_ok : ∀ m ∈ marks, isL m = true ∧ isS m = false := by decide +kernel
theorem NameOf.free {m : Nat} {z : Str} (h : NameOf m z) (hm : m ∈ marks) : z ∉ kRES := by
  intro hz
  have e := res_marks z hz m hm
  have h2 := h.mark
  rw [decide_eq_true h2.1, Bool.true_and] at e
  have : (z.cps.toList.all fun c => decide (c = m) || isS c) = true := List.all_eq_true.mpr fun c hc => by
    rcases h2.2 c hc with e | e
    · rw [decide_eq_true e, Bool.true_or]
    · rw [e, Bool.or_true]
  rw [this] at e
  cases e
theorem NameOf.len {m : Nat} {z : Str} (h : NameOf m z) : z.length ≤ 8 := by
  obtain ⟨a, b, e, _, _, hl⟩ := h
  have : z.length = z.cps.toList.length := by simp [Str.length]
  rw [this, e, List.length_append, List.length_cons]
  omega
theorem NameOf.nameW {K : PySem.W.Frag} {H : Hp} {m : Nat} {z : Str} (h : NameOf m z) (hm : m ∈ marks) : NameW K H (.str z) (some z) :=
  .inr ⟨z, rfl, by have := h.len; omega, h.word (marks_ok m hm).1, by rw [if_neg (h.free hm)]⟩
theorem cutV_take {xs : List V} {k : Nat} (h : k ≤ xs.length) : cutV xs none (some (k : Int)) = xs.take k := by
  unfold cutV
  rw [HT.sIx_nat, HT.sIx_none, List.drop_zero, Nat.sub_zero, Nat.min_eq_left h]
theorem cutV_drop {xs : List V} {k : Nat} (h : k ≤ xs.length) : cutV xs (some (k : Int)) none = xs.drop k := by
  unfold cutV
  rw [HT.sIx_nat, HT.sIx_none, Nat.min_eq_left h]
  exact List.take_of_length_le (by rw [List.length_drop]; exact Nat.le_refl _)
theorem join_ones0 (cs : List Nat) : Txt.join "" (cs.map one) = ⟨cs.toArray⟩ := by
  cases cs with
  | nil => rfl
  | cons c r => exact join_ones _ (List.cons_ne_nil _ _)
def t__law_name (K : PySem.W.Frag) (A : Ads) (E : XK) : TS :=
    (tSeq (tAsg (tLc (iRng1 (tCons (tCall (sp__law_take K A) [] E0 (tCons (tVar 0) (tCons (tC (.int 8)) tNil))) tNil)) (gName 4) tYes (tCall (sp__law_of K A) [] E0 (tCons (tVar 0) (tCons (tC (.str "abcfghklmnprst")) tNil))) [4]) (gName 2))
    (tSeq (tAsg (tCall (sp__law_take K A) [] E0 (tCons (tVar 0) (tCons (tOp rAdd (tCB (rLen K) (tCons (tVar 2) tNil)) (tC (.int 1))) tNil))) (gName 3))
    (tRet (tOp rAddS (tOp rAddS (tM1 (rJoin K) (tC (.str "")) (tSl (rSlL K) (tVar 2) tNoPart (tPart (tVar 3)))) (tVar 1)) (tM1 (rJoin K) (tC (.str "")) (tSl (rSlL K) (tVar 2) (tPart (tVar 3)) tNoPart))))))
def n__law_name : List Str := ["_law_bag_here", "_law_mark", "_law_letters", "_law_at_here", "_law_turn"]
def sp__law_name (K : PySem.W.Frag) (A : Ads) : Sp := fun vs H Q _ => ∃ (b : Addr) (m n : Nat), vs = [.ref b, .str (one m)] ∧ Bag (n + 9) H b ∧ ∀ (z : Str) H', NameOf m z → Xb b H H' → Bag n H' b → Q (.str z) H'
theorem len__law_name {K : PySem.W.Frag} {A : Ads} {vs : List V} {H : Hp} {Q : VK} {E : XK} (h : sp__law_name K A vs H Q E) : vs.length = 2 := by
  obtain ⟨x, w, n, rfl, _⟩ := h
  rfl
theorem pure__law_name {K : PySem.W.Frag} {A : Ads} {vs : List V} {H : Hp} {Q : VK} {E : XK} (h : sp__law_name K A vs H Q E) : t__law_name K A E { nx := fun _ H' => Q .non H', rt := Q } (start n__law_name vs) H := by
  obtain ⟨b, mk, n, rfl, hB, k⟩ := h
  walk_at "v"
  refine ⟨b, 8, n + 8, rfl, hB, by decide, by decide, fun d H1 d0 d1 x1 hB1 => ?_⟩
  refine ⟨d, rfl, by omega, by omega, fun D hD => ?_⟩
  have nD : D ≠ b := by
    rintro rfl
    obtain ⟨L, e⟩ := hB1.at_
    rw [hD] at e
    cases e
  refine lc_range (lo := 0) (n := d.toNat) (fun i H' => Xb b H H' ∧ Bag (n + 8 - i) H' b ∧ (∀ q o, H q = some o → q ≠ D) ∧ ∃ cs : List Nat, cs.length = i ∧ (∀ c ∈ cs, isS c = true) ∧ H' D = some (.lst ((cs.map one).map V.str)))
    ⟨fun q o nq hq => ?_, hB1.same (Same.new hD), ?_, [], rfl, (by intro _ z; cases z), upd_same⟩ ?_ ?_
  · have := x1 q o nq hq
    rw [upd_ne (ne_of_none this hD)]
    exact this
  · rintro q o hq rfl
    have := x1 q o nD hq
    rw [hD] at this
    cases this
  · rintro i H2 hi ⟨x2, hB2, hnD, cs, hlen, hcs, hl⟩
    refine ⟨rfl, ?_⟩
    walk_at "v"
    refine ⟨b, n + 8 - (i + 1), hB2.mono (by omega), .inr ⟨_, rfl, by decide, by decide, fun c H3 hc x3 hB3 => ?_⟩⟩
    have hl3 := x3 _ _ nD hl
    refine ⟨_, hl3, ?_, fun q o nq hq => ?_, ?_, hnD, cs ++ [c], ?_, fun c' hc' => ?_, ?_⟩
    · rw [List.length_map, List.length_map]
      exact Nat.lt_of_lt_of_le (show cs.length < 9 by omega) (by decide)
    · rw [upd_ne (hnD q o hq)]
      exact x3 q o nq (x2 q o nq hq)
    · obtain ⟨L, S, C, e, r⟩ := hB3
      exact ⟨L, S, C, by rw [upd_ne (Ne.symm nD)]; exact e, r⟩
    · rw [List.length_append, hlen]; rfl
    · rcases List.mem_append.mp hc' with h | h
      · exact hcs c' h
      · have e := List.mem_singleton.mp h
        subst e
        exact decide_eq_true hc
    · rw [upd_same]
      simp [one]
  · rintro H2 ⟨x2, hB2, hnD, cs, hlen, hcs, hl⟩
    have ll : ((cs.map one).map V.str).length = cs.length := by rw [List.length_map, List.length_map]
    walk_at "v"; walk_at "v"
    refine ⟨_, _, rfl, .inl ⟨_, SqL.of hl, rfl⟩, ?_⟩
    walk_at "ii"
    refine ⟨b, _, n, rfl, hB2.mono (by omega), by rw [ll]; omega, ?_, fun at_ H3 a0 a1 x3 hB3 => ?_⟩
    · rw [ll]
      exact Nat.lt_of_le_of_lt (show ((cs.length : Int) + 1).natAbs ≤ 9 by omega) (by decide)
    have hl3 := x3 _ _ nD hl
    obtain ⟨j, rfl⟩ : ∃ j : Nat, at_ = (j : Int) := ⟨at_.toNat, by omega⟩
    have hj : j ≤ cs.length := by rw [ll] at a1; omega
    have e1 : cutV ((cs.map one).map V.str) none (some (j : Int)) = ((cs.take j).map one).map V.str := by
      rw [cutV_take (by rw [ll]; exact hj), ← List.map_take, ← List.map_take]
    have e2 : cutV ((cs.map one).map V.str) (some (j : Int)) none = ((cs.drop j).map one).map V.str := by
      rw [cutV_drop (by rw [ll]; exact hj), ← List.map_drop, ← List.map_drop]
    have b1 : (cs.take j).length ≤ 7 := by rw [List.length_take]; omega
    have b2 : (cs.drop j).length ≤ 7 := by rw [List.length_drop]; omega
    have bj : ∀ (xs : List Nat), xs.length ≤ 7 → ((xs.map one).map (·.length)).sum + (xs.map one).length * (Str.ofString "").length ≤ 16777216 := fun xs h => by
      rw [ones_sum, List.length_map]
      show xs.length + xs.length * 0 ≤ 16777216
      omega
    refine ⟨⟨_, rfl⟩, ?_⟩
    walk_at "v"; walk_at "v"; walk_at "v"
    refine ⟨D, _, rfl, SqL.of hl3, fun p hp => ?_⟩
    have sp := Same.new (o := .lst (cutV ((cs.map one).map V.str) none (some (j : Int)))) hp
    refine ⟨_, p, (cs.take j).map one, rfl, rfl, .inl (SqL.of (by rw [upd_same, e1])), bj _ b1, ?_⟩
    walk_at "v"
    refine ⟨_, _, rfl, rfl, ?_, ?_⟩
    · rw [join_ones0]
      show (cs.take j).toArray.size + 1 ≤ sizeLine
      rw [List.size_toArray]
      exact Nat.le_trans (show _ ≤ 8 by omega) (by decide)
    refine ⟨⟨_, rfl⟩, ?_⟩
    walk_at "v"; walk_at "v"; walk_at "v"
    refine ⟨D, _, rfl, SqL.of (sp _ _ hl3), fun p2 hp2 => ?_⟩
    have sp2 := Same.new (o := .lst (cutV ((cs.map one).map V.str) (some (j : Int)) none)) hp2
    refine ⟨_, p2, (cs.drop j).map one, rfl, rfl, .inl (SqL.of (by rw [upd_same, e2])), bj _ b2, ?_⟩
    have e3 : (Txt.join (Str.ofString "") ((cs.take j).map one) ++ one mk ++ Txt.join (Str.ofString "") ((cs.drop j).map one)).cps.toList = cs.take j ++ mk :: cs.drop j := by
      rw [join_ones0, join_ones0, app_list, app_list]
      show (cs.take j).toArray.toList ++ [mk] ++ (cs.drop j).toArray.toList = _
      simp
    refine ⟨_, _, rfl, rfl, ?_, ?_⟩
    · rw [join_ones0, join_ones0, app_len]
      show (cs.take j).toArray.size + 1 + (cs.drop j).toArray.size ≤ sizeLine
      rw [List.size_toArray, List.size_toArray]
      exact Nat.le_trans (show _ ≤ 15 by omega) (by decide)
    refine k _ _ ⟨_, _, e3, fun c h => hcs c (List.mem_of_mem_take h), fun c h => hcs c (List.mem_of_mem_drop h), by rw [List.length_take, List.length_drop]; omega⟩ ?_ ((hB3.same sp).same sp2)
    exact fun q o nq hq => sp2 _ _ (sp _ _ (x3 q o nq (x2 q o nq hq)))
def t__law_counts (K : PySem.W.Frag) (A : Ads) (E : XK) : TS :=
    (tSeq (tAsg (tCall (sp__law_take K A) [] E0 (tCons (tVar 0) (tCons (tC (.int 6)) tNil))) (gName 1))
    (tSeq (tAsg (tCall (sp__law_take K A) [] E0 (tCons (tVar 0) (tCons (tOp rSub (tC (.int 6)) (tVar 1)) tNil))) (gName 2))
    (tRet (tIf (tTest (tOp rGt (tOp rAdd (tVar 1) (tVar 2)) (tC (.int 0)))) (tTup (tCons (tVar 1) (tCons (tVar 2) tNil))) (tTup (tCons (tC (.int 1)) (tCons (tC (.int 0)) tNil)))))))
def n__law_counts : List Str := ["_law_bag_here", "_law_numbers", "_law_words"]
def sp__law_counts (K : PySem.W.Frag) (A : Ads) : Sp := fun vs H Q _ => ∃ (b : Addr) (n : Nat), vs = [.ref b] ∧ Bag (n + 2) H b ∧ ∀ (t : Addr) (w1 w2 : Nat) H', 1 ≤ w1 + w2 → w1 + w2 ≤ 5 → H' t = some (.tup [.int w1, .int w2]) → Xb b H H' → Bag n H' b → Q (.ref t) H'
theorem len__law_counts {K : PySem.W.Frag} {A : Ads} {vs : List V} {H : Hp} {Q : VK} {E : XK} (h : sp__law_counts K A vs H Q E) : vs.length = 1 := by
  obtain ⟨x, w, rfl, _⟩ := h
  rfl
theorem pure__law_counts {K : PySem.W.Frag} {A : Ads} {vs : List V} {H : Hp} {Q : VK} {E : XK} (h : sp__law_counts K A vs H Q E) : t__law_counts K A E { nx := fun _ H' => Q .non H', rt := Q } (start n__law_counts vs) H := by
  obtain ⟨b, n, rfl, hB, k⟩ := h
  walk_at "v"
  refine ⟨b, 6, n + 1, rfl, hB, by decide, by decide, fun d H1 d0 d1 x1 hB1 => ?_⟩
  walk_at "v"; walk_at "v"
  walk_at "ii"
  refine ⟨b, 6 - d, n, rfl, hB1, by omega, Nat.lt_of_le_of_lt (show (6 - d).natAbs ≤ 6 by omega) (by decide), fun e H2 e0 e1 x2 hB2 => ?_⟩
  obtain ⟨w1, rfl⟩ : ∃ j : Nat, d = (j : Int) := ⟨d.toNat, by omega⟩
  obtain ⟨w2, rfl⟩ : ∃ j : Nat, e = (j : Int) := ⟨e.toNat, by omega⟩
  walk_at "v"; walk_at "v"
  walk_at "ii"
  walk_at "ii"
  refine ⟨_, rfl, ?_⟩
  have x := x1.trans x2
  refine iteD (fun h => ?_) (fun h => ?_)
  · walk_at "v"; walk_at "v"
    refine ⟨by show 2 ≤ sizeLine; decide, fun t ht => ?_⟩
    have s := Same.new (o := .tup [.int (w1 : Int), .int (w2 : Int)]) ht
    exact k t w1 w2 _ (by omega) (by omega) upd_same (x.trans (Xb.of s)) (hB2.same s)
  · refine ⟨by show 2 ≤ sizeLine; decide, fun t ht => ?_⟩
    have s := Same.new (o := .tup [.int 1, .int 0]) ht
    exact k t 1 0 _ (by decide) (by decide) upd_same (x.trans (Xb.of s)) (hB2.same s)
/-! ### drawn fields -/
def FieldsAt (H : Hp) (l : Addr) (fs : List (Addr × Str × Str)) : Prop := H l = some (.lst (fs.map fun f => V.ref f.1)) ∧ ∀ (i : Nat) f, fs[i]? = some f → H f.1 = some (.tup [.str f.2.1, .str f.2.2]) ∧ (f.2.2 = "number" ∨ f.2.2 = "word") ∧ ∃ mk, marks[i]? = some mk ∧ NameOf mk f.2.1
def kindsOf (w1 w2 : Nat) : List Str := List.replicate w1 ("number" : Str) ++ List.replicate w2 ("word" : Str)
def t__law_fields (K : PySem.W.Frag) (A : Ads) (E : XK) : TS :=
    (tSeq (tPar 3 4 (tCons (tOp rCat (tOp rRep (tLst (tCons (tC (.str "number")) tNil)) (tOp (rIx K) (tVar 1) (tC (.int 0)))) (tOp rRep (tLst (tCons (tC (.str "word")) tNil)) (tOp (rIx K) (tVar 1) (tC (.int 1))))) (tCons (tLst tNil) tNil)))
    (tSeq (tFor (iRng1 (tCons (tOp rAdd (tOp (rIx K) (tVar 1) (tC (.int 0))) (tOp (rIx K) (tVar 1) (tC (.int 1)))) tNil)) (gName 2) (tDrop (tBM K "list" rAppend (tVar 4) (tCons (tTup (tCons (tCall (sp__law_name K A) [] E0 (tCons (tVar 0) (tCons (tOp (rIx K) (tC (.str "jqvxz")) (tVar 2)) tNil))) (tCons (tBM K "list" rPopAt (tVar 3) (tCons (tCall (sp__law_take K A) [] E0 (tCons (tVar 0) (tCons (tCB (rLen K) (tCons (tVar 3) tNil)) tNil))) tNil)) tNil))) tNil))))
    (tRet (tVar 4))))
def n__law_fields : List Str := ["_law_bag_here", "_law_counts_here", "_law_at_here", "_law_left", "_law_found"]
def sp__law_fields (K : PySem.W.Frag) (A : Ads) : Sp := fun vs H Q _ => ∃ (b t : Addr) (w1 w2 n : Nat), vs = [.ref b, .ref t] ∧ H t = some (.tup [.int w1, .int w2]) ∧ w1 + w2 ≤ 5 ∧ Bag (n + 50) H b ∧
  ∀ (l : Addr) H' fs, H l = none → Xb b H H' → Bag n H' b → FieldsAt H' l fs → fs.length = w1 + w2 → (fs.map fun f => f.2.2).Perm (kindsOf w1 w2) → Q (.ref l) H'
theorem len__law_fields {K : PySem.W.Frag} {A : Ads} {vs : List V} {H : Hp} {Q : VK} {E : XK} (h : sp__law_fields K A vs H Q E) : vs.length = 2 := by
  obtain ⟨x, w, _, _, _, rfl, _⟩ := h
  rfl
theorem map_erase {α β : Type} (f : α → β) : ∀ (xs : List α) (k : Nat), (xs.map f).eraseIdx k = (xs.eraseIdx k).map f
  | [], _ => rfl
  | _ :: _, 0 => rfl
  | x :: r, k + 1 => by
    show f x :: (r.map f).eraseIdx k = f x :: (r.eraseIdx k).map f
    rw [map_erase f r k]
theorem cons_erase {α : Type} : ∀ (xs : List α) (k : Nat) (h : k < xs.length), (xs[k] :: xs.eraseIdx k).Perm xs
  | x :: r, 0, _ => List.Perm.refl _
  | x :: r, k + 1, h => by
    have ih := cons_erase r k (by rw [List.length_cons] at h; omega)
    exact List.Perm.trans (List.Perm.swap x _ _) (List.Perm.cons x ih)
theorem rep_flat (k : Nat) (x : Str) : (List.replicate ((k : Int)).toNat [V.str x]).flatten = (List.replicate k x).map V.str := by
  rw [Int.toNat_natCast, List.map_replicate]
  induction k with
  | zero => rfl
  | succ k ih => rw [List.replicate_succ, List.flatten_cons, ih, List.replicate_succ]; rfl
theorem pure__law_fields {K : PySem.W.Frag} {A : Ads} {vs : List V} {H : Hp} {Q : VK} {E : XK} (h : sp__law_fields K A vs H Q E) : t__law_fields K A E { nx := fun _ H' => Q .non H', rt := Q } (start n__law_fields vs) H := by
  obtain ⟨b, t, w1, w2, n, rfl, ht, h5, hB, k⟩ := h
  refine ⟨by show 1 ≤ sizeLine; decide, fun l1 hl1 => ?_⟩
  have s1 := Same.new (o := .lst [.str "number"]) hl1
  walk_at "v"
  refine Or.inr (Or.inl ⟨_, _, _, _, rfl, rfl, SqT.of (s1 _ _ ht), rfl, ?_⟩)
  refine ⟨l1, _, _, rfl, rfl, upd_same, by omega, by omega, by show 1 * w1 ≤ sizeLine; exact Nat.le_trans (show 1 * w1 ≤ 5 by omega) (by decide), fun p1 hp1 => ?_⟩
  have g1 := (upd_same (H := upd H l1 (.lst [.str "number"])) (a := p1) (o := .lst (List.replicate ((w1 : Int)).toNat [V.str "number"]).flatten))
  have s2 := Same.trans s1 (Same.new (o := .lst (List.replicate ((w1 : Int)).toNat [V.str "number"]).flatten) hp1)
  rw [rep_flat] at g1 s2
  rw [rep_flat]
  generalize upd (upd H l1 (.lst [.str "number"])) p1 (.lst ((List.replicate w1 (Str.ofString "number")).map V.str)) = H2 at g1 s2 ⊢
  refine ⟨by show 1 ≤ sizeLine; decide, fun l2 hl2 => ?_⟩
  have s3 := Same.new (o := .lst [.str "word"]) hl2
  walk_at "v"
  refine Or.inr (Or.inl ⟨_, _, _, _, rfl, rfl, SqT.of (s3 _ _ (s2 _ _ ht)), rfl, ?_⟩)
  refine ⟨l2, _, _, rfl, rfl, upd_same, by omega, by omega, by show 1 * w2 ≤ sizeLine; exact Nat.le_trans (show 1 * w2 ≤ 5 by omega) (by decide), fun p2 hp2 => ?_⟩
  have g2 := (upd_same (H := upd H2 l2 (.lst [.str "word"])) (a := p2) (o := .lst (List.replicate ((w2 : Int)).toNat [V.str "word"]).flatten))
  have s4 := Same.trans s3 (Same.new (o := .lst (List.replicate ((w2 : Int)).toNat [V.str "word"]).flatten) hp2)
  rw [rep_flat] at g2 s4
  rw [rep_flat]
  generalize upd (upd H2 l2 (.lst [.str "word"])) p2 (.lst ((List.replicate w2 (Str.ofString "word")).map V.str)) = H4 at g2 s4 ⊢
  refine ⟨p1, p2, _, _, rfl, rfl, s4 _ _ g1, g2, ?_, fun lf hlf => ?_⟩
  · rw [List.length_map, List.length_map, List.length_replicate, List.length_replicate]
    exact Nat.le_trans h5 (by decide)
  have ek : (List.replicate w1 (Str.ofString "number")).map V.str ++ (List.replicate w2 (Str.ofString "word")).map V.str = (kindsOf w1 w2).map V.str := by
    unfold kindsOf
    rw [List.map_append]
  rw [ek]
  have s5 := Same.trans (Same.trans s2 s4) (Same.new (o := .lst ((kindsOf w1 w2).map V.str)) hlf)
  have gf : (upd H4 lf (.lst ((kindsOf w1 w2).map V.str))) lf = some (.lst ((kindsOf w1 w2).map V.str)) := upd_same
  have nf : ∀ q o, H q = some o → q ≠ lf := fun q o hq => ne_of_none (Same.trans s2 s4 q o hq) hlf
  generalize upd H4 lf (.lst ((kindsOf w1 w2).map V.str)) = H5 at gf s5 ⊢
  refine ⟨by show 0 ≤ sizeLine; decide, fun fd hfd => ?_⟩
  have s6 := Same.new (o := .lst []) hfd
  have s06 := Same.trans s5 s6
  have nfd : ∀ q o, H q = some o → q ≠ fd := fun q o hq => ne_of_none (s5 q o hq) hfd
  have nlf : lf ≠ fd := ne_of_none gf hfd
  have gd : (upd H5 fd (.lst [])) fd = some (.lst []) := upd_same
  have gf6 := s6 _ _ gf
  generalize upd H5 fd (.lst []) = H6 at gd gf6 s06 ⊢
  refine ⟨_, _, rfl, ?_⟩
  have ht6 := s06 _ _ ht
  walk_at "v"
  refine Or.inr (Or.inl ⟨_, _, _, _, rfl, rfl, SqT.of ht6, rfl, ?_⟩)
  walk_at "v"
  refine Or.inr (Or.inl ⟨_, _, _, _, rfl, rfl, SqT.of ht6, rfl, ?_⟩)
  walk_at "ii"
  refine ⟨(w1 : Int) + w2, rfl, by omega, by omega, ?_⟩
  obtain ⟨L0, hb0⟩ := hB.at_
  have nb1 : b ≠ lf := nf b _ hb0
  have nb2 : b ≠ fd := nfd b _ hb0
  have kl : (kindsOf w1 w2).length = w1 + w2 := by unfold kindsOf; rw [List.length_append, List.length_replicate, List.length_replicate]
  refine for_range (lo := 0) (n := ((w1 : Int) + w2).toNat) (fun i σ H' => Xb b H H' ∧ Bag (n + 50 - 10 * i) H' b ∧ (∃ v2, σ = [some (.ref b), some (.ref t), v2, some (.ref lf), some (.ref fd)]) ∧
    ∃ (fs : List (Addr × Str × Str)) (left : List Str), fs.length = i ∧ left.length + i = w1 + w2 ∧ H' lf = some (.lst (left.map V.str)) ∧ FieldsAt H' fd fs ∧ ((fs.map fun f => f.2.2) ++ left).Perm (kindsOf w1 w2))
    ⟨Xb.of s06, hB.same s06, ⟨_, rfl⟩, [], kindsOf w1 w2, rfl, by rw [kl]; rfl, gf6, ⟨gd, fun i f e => nomatch e⟩, List.Perm.refl _⟩ ?_ ?_
  · rintro i σ H7 hi ⟨x7, hB7, ⟨v2, rfl⟩, fs, left, hfl, hll, hlf7, ⟨hfd7, hfs⟩, hp⟩
    walk_at "v"
    refine ⟨.inl ⟨rfl, _, SqL.of hfd7⟩, ?_⟩
    walk_at "v"; walk_at "v"
    have hi5 : i < 5 := by omega
    obtain ⟨mk, emk⟩ : ∃ mk, marks[i]? = some mk := ⟨marks[i]'(by show i < 7; omega), List.getElem?_eq_getElem _⟩
    have ez : (Str.ofString "jqvxz").cps.toList = marks.take 5 := by decide +kernel
    obtain ⟨c, e1, e2⟩ := atI_of (xs := (Str.ofString "jqvxz").cps.toList) (d := 0 + (i : Int)) (by omega) (by show 0 + (i : Int) < 5; omega)
    have ec : c = mk := by
      have e3 : (0 + (i : Int)).toNat = i := by omega
      rw [e3, ez, List.getElem?_take_of_lt hi5, emk] at e2
      exact (Option.some.inj e2).symm
    subst ec
    refine Or.inr (Or.inr ⟨_, _, c, rfl, rfl, by decide, e1, ?_⟩)
    refine ⟨b, c, n + 50 - 10 * i - 9, rfl, hB7.mono (by omega), fun z H8 hz x8 hB8 => ?_⟩
    have hfd8 := x8 _ _ (Ne.symm nb2) hfd7
    have hlf8 := x8 _ _ (Ne.symm nb1) hlf7
    walk_at "v"
    refine ⟨.inl ⟨rfl, _, SqL.of hlf8⟩, ?_⟩
    walk_at "v"; walk_at "v"
    refine ⟨_, _, rfl, .inl ⟨_, SqL.of hlf8, rfl⟩, ?_⟩
    have ll : (left.map V.str).length = left.length := List.length_map ..
    refine ⟨b, _, n + 50 - 10 * i - 10, rfl, hB8.mono (by omega), by rw [ll]; omega, ?_, fun d H9 d0 d1 x9 hB9 => ?_⟩
    · rw [ll]
      exact Nat.lt_of_le_of_lt (show ((left.length : Int)).natAbs ≤ 5 by omega) (by decide)
    rw [ll] at d1
    have hfd9 := x9 _ _ (Ne.symm nb2) hfd8
    have hlf9 := x9 _ _ (Ne.symm nb1) hlf8
    have hdl : d.toNat < left.length := by omega
    have eix : ixN (left.map V.str).length d = some d.toNat := by
      unfold ixN
      rw [if_pos d0, if_pos (by rw [ll]; exact d1)]
    refine ⟨lf, _, d, d.toNat, .str (left[d.toNat]), rfl, rfl, hlf9, by omega, by omega, (ixN_seq eix).1, by rw [List.getElem?_map, List.getElem?_eq_getElem hdl]; rfl, ?_⟩
    -- the list left, the pair, the list found
    have er : (left.map V.str).eraseIdx d.toNat = (left.eraseIdx d.toNat).map V.str := map_erase _ _ _
    rw [er]
    have x10 : Xb lf H9 (upd H9 lf (.lst ((left.eraseIdx d.toNat).map V.str))) := Xb.upd Xb.refl
    have gl10 : (upd H9 lf (.lst ((left.eraseIdx d.toNat).map V.str))) lf = some (.lst ((left.eraseIdx d.toNat).map V.str)) := upd_same
    generalize upd H9 lf (.lst ((left.eraseIdx d.toNat).map V.str)) = H10 at x10 gl10 ⊢
    refine ⟨by show 2 ≤ sizeLine; decide, fun t2 ht2 => ?_⟩
    have s11 := Same.new (o := .tup [.str z, .str (left[d.toNat])]) ht2
    have g11 : (upd H10 t2 (.tup [.str z, .str (left[d.toNat])])) t2 = some (.tup [.str z, .str (left[d.toNat])]) := upd_same
    generalize upd H10 t2 (.tup [.str z, .str (left[d.toNat])]) = H11 at s11 g11 ⊢
    have hfd11 := s11 _ _ (x10 _ _ (Ne.symm nlf) hfd9)
    refine ⟨fd, _, _, rfl, rfl, hfd11, ?_, ?_⟩
    · rw [List.length_map]
      exact Nat.lt_of_le_of_lt (show fs.length ≤ 5 by omega) (by decide)
    have x711 : ∀ q o, q ≠ b → q ≠ lf → H7 q = some o → H11 q = some o := fun q o nq nq2 hq => s11 _ _ (x10 _ _ nq2 (x9 _ _ nq (x8 _ _ nq hq)))
    have nt2 : t2 ≠ fd := ne_of g11 hfd11 (by intro z; cases z)
    refine ⟨fun q o nq hq => ?_, ?_, ⟨_, rfl⟩, fs ++ [(t2, z, left[d.toNat])], left.eraseIdx d.toNat, ?_, ?_, ?_, ⟨?_, fun j f e => ?_⟩, ?_⟩
    · rw [upd_ne (nfd q o hq)]
      exact x711 q o nq (nf q o hq) (x7 q o nq hq)
    · obtain ⟨L, S, C, e, r⟩ := hB9.mono (m := n + 50 - 10 * (i + 1)) (by omega)
      exact ⟨L, S, C, by rw [upd_ne nb2]; exact s11 _ _ (x10 _ _ nb1 e), r⟩
    · rw [List.length_append, hfl]; rfl
    · rw [List.length_eraseIdx_of_lt hdl]; omega
    · rw [upd_ne nlf]
      exact s11 _ _ gl10
    · rw [upd_same, List.map_append]
      rfl
    · rcases Nat.lt_or_ge j fs.length with hj | hj
      · rw [List.getElem?_append_left hj] at e
        obtain ⟨h1, h2, h3⟩ := hfs j f e
        refine ⟨?_, h2, h3⟩
        rw [upd_ne (ne_of h1 hfd7 (by intro z; cases z))]
        exact x711 _ _ (by
          obtain ⟨L, S, C, e, _⟩ := hB7
          exact ne_of h1 e (by intro z; cases z)) (ne_of h1 hlf7 (by intro z; cases z)) h1
      · rw [List.getElem?_append_right hj] at e
        have hj0 : j - fs.length = 0 := by
          rcases Nat.eq_zero_or_pos (j - fs.length) with z | z
          · exact z
          · rw [List.getElem?_eq_none (by show 1 ≤ _; omega)] at e
            cases e
        rw [hj0] at e
        cases e
        refine ⟨by rw [upd_ne nt2]; exact g11, ?_, c, by rw [show j = i by omega]; exact emk, hz⟩
        have hm : left[d.toNat] ∈ kindsOf w1 w2 := hp.mem_iff.mp (List.mem_append_right _ (List.getElem_mem hdl))
        unfold kindsOf at hm
        rcases List.mem_append.mp hm with h | h
        · exact .inl (List.eq_of_mem_replicate h)
        · exact .inr (List.eq_of_mem_replicate h)
    · rw [List.map_append, List.append_assoc]
      refine List.Perm.trans (List.Perm.append_left _ ?_) hp
      exact cons_erase left d.toNat hdl
  · rintro σ H7 ⟨x7, hB7, ⟨v2, rfl⟩, fs, left, hfl, hll, hlf7, hF, hp⟩
    have e0 : left = [] := List.length_eq_zero_iff.mp (by omega)
    subst e0
    rw [List.append_nil] at hp
    walk_at "v"
    exact k fd H7 fs (s5.free hfd) x7 (hB7.mono (by omega)) hF (by omega) hp
end Md

set_option Elab.async false
set_option linter.all false
set_option maxRecDepth 100000
/-! the head's hook with the interpreter's statics (a class's constants are read there) -/
namespace Md
open PySem PySem.Spec PyProof.Rows PySem.Calls L2
structure SaysM (fa : List He.Fa) (fn : List He.DefD) (ex : PySem.W.Frag → Bool) (K : PySem.W.Frag) : Prop where
  d : He.SaysD fa fn K
  more : ex K = true
def frM (g : Addr → Option Obj) (n : Nat) : PySem.W.Frag := He.frT g (He.asD g n ++ [cStatics])
def obsM (n : Nat) (fa : List He.Fa) (fn : List He.DefD) (ex : PySem.W.Frag → Bool) (g : Addr → Option Obj) : He.AlD × Bool := (He.obsD fa fn (frM g n), ex (frM g n))
def hookM (n : Nat) (fa : List He.Fa) (fn : List He.DefD) (ex : PySem.W.Frag → Bool) : PySem.W.Hook where
  α := He.AlD × Bool
  obs := fun s => obsM n fa fn ex s.heap.get?
  val := fun _ => (He.valD fn, true)
  says := fun _ h => ∃ K : PySem.W.Frag, K.In h ∧ SaysM fa fn ex K
  of := fun _ _ e => ⟨_, He.frT_in, ⟨congrArg (fun z : He.AlD × Bool => z.1) e, congrArg (fun z : He.AlD × Bool => z.2) e⟩⟩
  keeps := fun _ _ _ ⟨K, hK, c⟩ k => ⟨K, PySem.W.Frag.In.keeps hK k, c⟩
theorem obsM_eq {n : Nat} {fa : List He.Fa} {fn : List He.DefD} {ex : PySem.W.Frag → Bool} {g : Addr → Option Obj} {s : Shared} (h : ∀ a, g a = s.heap.get? a) : obsM n fa fn ex g = (hookM n fa fn ex).obs s := by
  have e : g = s.heap.get? := funext h
  rw [e] <;> rfl
end Md

set_option Elab.async false
set_option linter.all false
set_option maxRecDepth 100000
set_option maxHeartbeats 4000000
set_option exponentiation.threshold 20000
namespace Md
open PySem PySem.Spec PyProof.Rows PySem.Calls L2
local macro_rules | `(tactic| walk_at "v") => `(tactic| refine ⟨_, rfl, ?_⟩)
local macro_rules | `(tactic| walk_at "ii") => `(tactic| refine ⟨_, _, rfl, rfl, ?_⟩)
theorem NoLay.mono {K : PySem.W.Frag} {H H' : Hp} {x : V} (h : NoLay K H x) (s : Same H H') : NoLay K H' x := by
  rcases h with ⟨T, ty, h⟩ | ⟨l, xs, e, hl, tl, h⟩
  · exact .inl ⟨T, tyX_same s ty, h⟩
  · exact .inr ⟨l, xs, e, Same.sqL s hl, tyX_same s tl, h⟩
/-- what Layout(x) does: it is made (none), or refused at r -/
def LaySays (K : PySem.W.Frag) (H : Hp) (x r : V) : Prop := (NoLay K H x ∧ r = .int (-1)) ∨ ∃ (l : Addr) (xs : List V) (rs : List (Option (Str × Str))) (ns ks : List Str), x = .ref l ∧ SqL K H l xs ∧ TyX K H (.ref l) (.type "list") ∧
  xs.length = rs.length ∧ 1 ≤ xs.length ∧ xs.length ≤ 5 ∧ (∀ (i : Nat) x r, xs[i]? = some x → rs[i]? = some r → FieldB K H x r) ∧ ns.length ≤ rs.length ∧ ks.length = ns.length ∧
  (∀ (i : Nat) n k, ns[i]? = some n → ks[i]? = some k → rs[i]? = some (some (n, k)) ∧ n ∉ ns.take i) ∧
  ((ns.length = rs.length ∧ r = .non) ∨ (ns.length < rs.length ∧ (∃ r, rs[ns.length]? = some r ∧ ∀ n k, r = some (n, k) → n ∈ ns) ∧ r = .int (ns.length : Nat)))
/-- the first m entries are the fields zs, of different names; behind them the end, no field, or a name that was there -/
theorem says_at {K : PySem.W.Frag} {H : Hp} {l : Addr} {xs : List V} {rs : List (Option (Str × Str))} {zs : List (Str × Str)} {m : Nat} (hl : H l = some (.lst xs)) (hxr : xs.length = rs.length) (h1 : 1 ≤ xs.length) (h5 : xs.length ≤ 5)
    (hF : ∀ (i : Nat) x r, xs[i]? = some x → rs[i]? = some r → FieldB K H x r) (hm : m ≤ rs.length) (hz : m ≤ zs.length) (hg : ∀ (i : Nat) z, i < m → zs[i]? = some z → rs[i]? = some (some z))
    (hd : ∀ (i j : Nat) z w, j < i → zs[i]? = some z → zs[j]? = some w → z.1 ≠ w.1) (hb : m < rs.length → ∃ r, rs[m]? = some r ∧ ∀ n k, r = some (n, k) → n ∈ (zs.take m).map (·.1)) :
    LaySays K H (.ref l) (if m = rs.length then .non else .int (m : Nat)) := by
  have lm : ((zs.take m).map (·.1)).length = m := by rw [List.length_map, List.length_take]; omega
  refine .inr ⟨l, xs, rs, (zs.take m).map (·.1), (zs.take m).map (·.2), rfl, SqL.of hl, .base (.lst hl), hxr, h1, h5, hF, by omega, by rw [List.length_map, List.length_map], fun i n k e1 e2 => ?_, ?_⟩
  · have hi : i < m := by
      have := (List.getElem?_eq_some_iff.mp e1).1
      omega
    have hi2 : i < zs.length := by omega
    have ez : zs[i]? = some zs[i] := List.getElem?_eq_getElem hi2
    rw [List.getElem?_map, List.getElem?_take_of_lt hi, ez] at e1 e2
    have en : zs[i].1 = n := Option.some.inj e1
    have ek : zs[i].2 = k := Option.some.inj e2
    refine ⟨by rw [hg i _ hi ez, ← en, ← ek], fun hn => ?_⟩
    obtain ⟨j, hj, e⟩ := List.getElem_of_mem hn
    rw [List.length_take, lm] at hj
    have hji : j < i := by omega
    have ej : zs[j]? = some zs[j] := List.getElem?_eq_getElem (by omega)
    have e' : some n = some zs[j].1 := by
      rw [← e, ← List.getElem?_eq_getElem, List.getElem?_take_of_lt hji, List.getElem?_map, List.getElem?_take_of_lt (by omega), ej]
      rfl
    exact hd i j _ _ hji ez ej (by rw [en]; exact Option.some.inj e')
  · rw [lm]
    by_cases c : m = rs.length
    · rw [if_pos c]; exact .inl ⟨c, rfl⟩
    · rw [if_neg c]; exact .inr ⟨by omega, hb (by omega), rfl⟩
/-! ### drawn fields, handed to Layout -/
def rListOf (K : PySem.W.Frag) : List V → Hp → VK → Prop := fun xs H Q => ∃ p ys, xs = [.ref p] ∧ (SqL K H p ys ∨ SqT K H p ys) ∧ ∀ l, H l = none → Q (.ref l) (upd H l (.lst ys))
def rDictP (K : PySem.W.Frag) : List V → Hp → VK → Prop := fun xs H Q => ∃ (a : Addr) (ps : List Addr) (kvs : List (Key × V)), xs = [.ref a] ∧ SqL K H a (ps.map V.ref) ∧ Paired (fun p kv => SqT K H p [kV kv.1, kv.2]) ps kvs ∧
    ∀ p, H p = none → Q (.ref p) (upd H p (.dK (mergeK [] kvs)))
/-- the entries of a drawn list of fields, wherever the list itself stands -/
def FsAt (H : Hp) (fs : List (Addr × Str × Str)) : Prop := ∀ (i : Nat) f, fs[i]? = some f → H f.1 = some (.tup [.str f.2.1, .str f.2.2]) ∧ (f.2.2 = "number" ∨ f.2.2 = "word") ∧ ∃ mk, marks[i]? = some mk ∧ NameOf mk f.2.1
theorem FsAt.same {H H' : Hp} {fs : List (Addr × Str × Str)} (h : FsAt H fs) (s : Same H H') : FsAt H' fs := fun i f e => by
  obtain ⟨h1, h2⟩ := h i f e
  exact ⟨s _ _ h1, h2⟩
theorem FsAt.xb {H H' : Hp} {fs : List (Addr × Str × Str)} {b : Addr} {xs : List V} (h : FsAt H fs) (hb : H b = some (.lst xs)) (x : Xb b H H') : FsAt H' fs := fun i f e => by
  obtain ⟨h1, h2⟩ := h i f e
  exact ⟨x _ _ (ne_of h1 hb (by intro z; cases z)) h1, h2⟩
theorem mark_get {i : Nat} {m : Nat} (h : marks[i]? = some m) : m ∈ marks := List.mem_of_getElem? h
theorem marks_ne : ∀ i < 7, ∀ j < i, marks[i]? ≠ marks[j]? := by decide +kernel
theorem FsAt.field {K : PySem.W.Frag} {H : Hp} {fs : List (Addr × Str × Str)} (h : FsAt H fs) {i : Nat} {f : Addr × Str × Str} (e : fs[i]? = some f) : FieldB K H (.ref f.1) (some f.2) := by
  obtain ⟨h1, h2, mk, h3, h4⟩ := h i f e
  have hk : kindOf (.str f.2.2) = some f.2.2 := by
    show (if f.2.2 = "number" ∨ f.2.2 = "word" then some f.2.2 else none : Option Str) = _
    rw [if_pos h2]
  exact .inr (.inr ⟨f.1, _, _, some f.2.1, rfl, h1, .inl rfl, h4.nameW (mark_get h3), by rw [hk]; rfl⟩)
theorem FsAt.ne {H : Hp} {fs : List (Addr × Str × Str)} (h : FsAt H fs) {i j : Nat} {f g : Addr × Str × Str} (hji : j < i) (e : fs[i]? = some f) (e' : fs[j]? = some g) : f.2.1 ≠ g.2.1 := by
  obtain ⟨_, _, mk, h3, h4⟩ := h i f e
  obtain ⟨_, _, mk', h3', h4'⟩ := h j g e'
  have hi : i < 7 := (List.getElem?_eq_some_iff.mp h3).1
  refine h4.ne h4' (fun z => marks_ne i hi j hji (by rw [h3, h3', z])) (marks_ok mk (mark_get h3)).2
/-- all of them right: the layout is made -/
theorem says_ok {K : PySem.W.Frag} {H : Hp} {l : Addr} {fs : List (Addr × Str × Str)} (h : FsAt H fs) (hl : H l = some (.lst (fs.map fun f => V.ref f.1))) (h1 : 1 ≤ fs.length) (h5 : fs.length ≤ 5) : LaySays K H (.ref l) .non := by
  have z := says_at (K := K) (m := fs.length) (rs := fs.map fun f => some f.2) (zs := fs.map fun f => f.2) hl (by rw [List.length_map, List.length_map]) (by rw [List.length_map]; exact h1) (by rw [List.length_map]; exact h5)
    (fun i x r e1 e2 => by
      rw [List.getElem?_map] at e1 e2
      cases e : fs[i]? with
      | none => rw [e] at e1; cases e1
      | some f =>
        rw [e] at e1 e2
        cases e1; cases e2
        exact h.field e)
    (by rw [List.length_map]; exact Nat.le_refl _) (by rw [List.length_map]; exact Nat.le_refl _)
    (fun i z hi e => by
      rw [List.getElem?_map] at e ⊢
      cases e' : fs[i]? with
      | none => rw [e'] at e; cases e
      | some f =>
        rw [e'] at e
        cases e
        rfl)
    (fun i j z w hji e1 e2 => by
      rw [List.getElem?_map] at e1 e2
      cases e' : fs[i]? with
      | none => rw [e'] at e1; cases e1
      | some f =>
        cases e'' : fs[j]? with
        | none => rw [e''] at e2; cases e2
        | some g =>
          rw [e'] at e1; rw [e''] at e2
          cases e1; cases e2
          exact h.ne hji e' e'')
    (fun hlt => absurd hlt (by rw [List.length_map]; omega))
  rw [List.length_map, if_pos rfl] at z
  exact z
def tb__law_at (K : PySem.W.Frag) (A : Ads) (W : WX) : TS := (tDrop (tMakeS A.cLayout (sp_Layout___init__ K A) (WE W) (tCons (tVar 0) tNil)))
def ts__law_at (K : PySem.W.Frag) (A : Ads) (a : Addr) (cls : Value) (d : Option Addr) : TS := (tRet (tIf (tAnd (tB (tCB (rIsX K a cls d) (tCons (tVar 1) (tCons (tC (.ref A.cMendroundsError)) tNil)))) (tNot (tB (tCB (rIsi K) (tCons (tXf a cls d A.cBadLayout "at" (tVar 1)) (tCons (tC (.ty "bool")) tNil)))))) (tXf a cls d A.cBadLayout "at" (tVar 1)) (tC (.str "odd"))))
def t__law_at (K : PySem.W.Frag) (A : Ads) (E : XK) : TS :=
    (tSeq (fun D σ H => tb__law_at K A (wAs K (.ref A.cBadLayout) 1 (ts__law_at K A) (fun _ _ _ _ => False) D) D σ H)
    (tRet (tC .non)))
def n__law_at : List Str := ["_law_thing", "e"]
def sp__law_at (K : PySem.W.Frag) (A : Ads) : Sp := fun vs H Q _ => ∃ x r : V, vs = [x] ∧ LaySays K H x r ∧ ∀ H', Same H H' → Q r H'
theorem len__law_at {K : PySem.W.Frag} {A : Ads} {vs : List V} {H : Hp} {Q : VK} {E : XK} (h : sp__law_at K A vs H Q E) : vs.length = 1 := by
  obtain ⟨x, w, rfl, _⟩ := h
  rfl
theorem pure__law_at {K : PySem.W.Frag} {A : Ads} (k1 : PySem.W.kitOne K (.ref A.cBadLayout) (.ref A.cMendroundsError) = some true) (xc : ExcC K A.cBadLayout) (xm : PySem.W.exmOne K (.ref A.cBadLayout) (.ref A.cBadLayout) = some true) {vs : List V} {H : Hp} {Q : VK} {E : XK} (h : sp__law_at K A vs H Q E) :
    t__law_at K A E { nx := fun _ H' => Q .non H', rt := Q } (start n__law_at vs) H := by
  obtain ⟨x, r, rfl, hs, k⟩ := h
  walk_at "v"
  intro a dx ha hdx hne
  have sd := Same.new (o := .own a) hdx
  have ha' : upd H dx (.own a) a = none := by rw [upd_ne (Ne.symm hne)]; exact ha
  have se := Same.new (o := .ins A.cLayout dx []) ha'
  have S := Same.trans sd se
  have ga : (upd (upd H dx (.own a)) a (.ins A.cLayout dx [])) a = some (.ins A.cLayout dx []) := upd_same
  have haH : ∀ q o, H q = some o → q ≠ a := fun q o e => ne_of_none e ha
  generalize upd (upd H dx (.own a)) a (.ins A.cLayout dx []) = H4 at S ga ⊢
  -- the refusal's suite
  have suite : ∀ (i : Int) (d : Addr) (H' : Hp), Same H H' → H' d = some (.xd [("at", .int i)]) → r = .int i →
      wAs K (.ref A.cBadLayout) 1 (ts__law_at K A) (fun _ _ _ _ => False) { nx := tRet (tC .non) { nx := fun _ H' => Q .non H', rt := Q }, rt := Q } (.ref A.cBadLayout) (some d) [some x, none] H' := by
    intro i d H' s hd er
    subst er
    refine ⟨true, xm, fun _ e he => ?_, fun q => Bool.noConfusion q⟩
    walk_at "v"
    refine ⟨_, d, _, _, _, true, rfl, rfl, xc, hd, rfl, .own _, k1, ?_⟩
    refine ⟨_, rfl, ?_⟩
    show (if true = true then _ else _)
    refine iteT ?_
    walk_at "v"
    refine ⟨rfl, rfl, d, _, _, rfl, hd, rfl, ?_⟩
    refine ⟨_, _, _, _, _, rfl, .ty _, ty_int, kit_ty (by decide +kernel : kitB "int" "bool" = some false), ?_⟩
    refine ⟨_, rfl, ?_⟩
    show (if (!false) = true then _ else _)
    refine iteT ?_
    walk_at "v"
    refine ⟨rfl, rfl, d, _, _, rfl, hd, rfl, ?_⟩
    exact k H' s
  rcases hs with ⟨hn, er⟩ | ⟨l, xs, rs, ns, ks, rfl, hl, tl, hxr, h1, h5, hF, hnr, hkn, hG, hend⟩
  · exact .inl ⟨a, dx, x, rfl, ga, hn.mono S, fun d H' s hd => suite _ d H' (Same.trans S s) hd er⟩
  · refine .inr ⟨a, dx, l, xs, rs, ns, ks, rfl, ga, Same.sqL S hl, tyX_same S tl, hxr, h1, h5, fun i x r e1 e2 => (hF i x r e1 e2).mono S, hnr, hkn, hG, fun em H' x' lay => ?_, fun hlt => ?_⟩
    · rcases hend with ⟨_, er⟩ | ⟨h, _⟩
      · subst er
        refine ⟨rfl, ?_⟩
        exact k H' fun q o hq => x' q o (haH q o hq) (S q o hq)
      · omega
    · rcases hend with ⟨h, _⟩ | ⟨_, hbad, er⟩
      · omega
      · exact ⟨hbad, fun d H' x' hd => suite _ d H' (fun q o hq => x' q o (haH q o hq) (S q o hq)) hd er⟩
/-! ### _law_spoilt -/
def emp : Hp := fun _ => none
/-- x is no field, and its parts are new since H0 -/
def FreshB (K : PySem.W.Frag) (H0 H : Hp) (x : V) : Prop := ∃ Hn : Hp, FieldB K Hn x none ∧ ∀ q o, Hn q = some o → H q = some o ∧ H0 q = none
theorem FreshB.mono {K : PySem.W.Frag} {H0 H H' : Hp} {x : V} (h : FreshB K H0 H x) (s : Same H H') : FreshB K H0 H' x := by
  obtain ⟨Hn, hf, hn⟩ := h
  exact ⟨Hn, hf, fun q o e => ⟨s _ _ (hn q o e).1, (hn q o e).2⟩⟩
theorem FreshB.xb {K : PySem.W.Frag} {H0 H H' : Hp} {x : V} {b : Addr} {u : HO} (h : FreshB K H0 H x) (hb : H0 b = some u) (s : Xb b H H') : FreshB K H0 H' x := by
  obtain ⟨Hn, hf, hn⟩ := h
  refine ⟨Hn, hf, fun q o e => ⟨s _ _ (fun z => ?_) (hn q o e).1, (hn q o e).2⟩⟩
  have := (hn q o e).2
  rw [z, hb] at this
  cases this
theorem FreshB.zero {K : PySem.W.Frag} {H0 H : Hp} {x : V} (h : FieldB K emp x none) : FreshB K H0 H x := ⟨emp, h, fun _ _ e => nomatch e⟩
theorem FreshB.one {K : PySem.W.Frag} {H0 H : Hp} {x : V} {t : Addr} {o : HO} (S : Same H0 H) (ht : H t = none) (h : FieldB K (upd emp t o) x none) : FreshB K H0 (upd H t o) x := by
  refine ⟨upd emp t o, h, fun q u e => ?_⟩
  by_cases c : q = t
  · subst c
    rw [upd_same] at e ⊢
    exact ⟨e, S.free ht⟩
  · rw [upd_ne c] at e
    exact nomatch e
theorem FreshB.two {K : PySem.W.Frag} {H0 H H1 : Hp} {x : V} {t p : Addr} {o o1 : HO} (S1 : Same H0 H1) (hp : H1 p = none) (gp : H p = some o1) (S : Same H0 H) (ht : H t = none) (h : FieldB K (upd (upd emp p o1) t o) x none) : FreshB K H0 (upd H t o) x := by
  refine ⟨upd (upd emp p o1) t o, h, fun q u e => ?_⟩
  by_cases c : q = t
  · subst c
    rw [upd_same] at e ⊢
    exact ⟨e, S.free ht⟩
  · rw [upd_ne c] at e ⊢
    by_cases c2 : q = p
    · subst c2
      rw [upd_same] at e
      cases e
      exact ⟨gp, S1.free hp⟩
    · rw [upd_ne c2] at e
      exact nomatch e
def AllBad (K : PySem.W.Frag) (H0 H : Hp) (xs : List V) : Prop := ∀ x ∈ xs, FreshB K H0 H x
theorem AllBad.mono {K : PySem.W.Frag} {H0 H H' : Hp} {xs : List V} (h : AllBad K H0 H xs) (s : Same H H') : AllBad K H0 H' xs := fun x hx => (h x hx).mono s
theorem AllBad.add {K : PySem.W.Frag} {H0 H H' : Hp} {xs : List V} {x : V} (h : AllBad K H0 H xs) (s : Same H H') (hx : FreshB K H0 H' x) : AllBad K H0 H' (xs ++ [x]) := fun y hy => by
  rcases List.mem_append.mp hy with e | e
  · exact (h y e).mono s
  · rw [List.mem_singleton.mp e]; exact hx
theorem fb_kind {K : PySem.W.Frag} {H : Hp} {a : Addr} {u v : V} {nm : Option Str} (h : H a = some (.tup [u, v])) (hv : KindV H v) (hn : NameW K H u nm) (hk : kindOf v = none) : FieldB K H (.ref a) none :=
  .inr (.inr ⟨a, u, v, nm, rfl, h, hv, hn, by rw [hk]; cases nm <;> rfl⟩)
theorem fb_name {K : PySem.W.Frag} {H : Hp} {a : Addr} {u : V} {k : Str} (h : H a = some (.tup [u, .str k])) (hw : WordB K H u false) : FieldB K H (.ref a) none :=
  .inr (.inr ⟨a, u, _, none, rfl, h, .inl rfl, .inl ⟨hw, rfl⟩, rfl⟩)
theorem res_word : ∀ z ∈ kRES, isWord z = true := by decide +kernel
theorem fb_res {K : PySem.W.Frag} {H : Hp} {a : Addr} {r k : Str} (h : H a = some (.tup [.str r, .str k])) (hr : r ∈ kRES) : FieldB K H (.ref a) none :=
  .inr (.inr ⟨a, _, _, none, rfl, h, .inl rfl, .inr ⟨r, rfl, by have := (word_all (res_word r hr)).2.1; omega, res_word r hr, by rw [if_pos hr]⟩, rfl⟩)
theorem kind_bad : kindOf (.str "words") = none ∧ kindOf (.str "Number") = none ∧ kindOf (.str "") = none := by decide +kernel
def t__law_spoilt (K : PySem.W.Frag) (A : Ads) (E : XK) : TS :=
    (tSeq (tAsg (tVar 1) (gTup K 2 (gCons (gName 3) (gCons (gName 4) gNil))))
    (tSeq (tAsg (tLst (tCons (tLst (tCons (tVar 3) (tCons (tVar 4) tNil))) (tCons (tTup (tCons (tVar 3) tNil)) (tCons (tTup (tCons (tVar 3) (tCons (tVar 4) (tCons (tVar 4) tNil)))) (tCons (tVar 3) (tCons (tC .non) (tCons (tTup (tCons (tOp rAddS (tVar 4) (tC (.str "x"))) (tCons (tC .non) tNil))) (tCons (tTup (tCons (tVar 3) (tCons (tC (.str "words")) tNil))) (tCons (tTup (tCons (tVar 3) (tCons (tC (.str "Number")) tNil))) tNil))))))))) (gName 2))
    (tSeq (tAsg (tOp rCat (tVar 2) (tLst (tCons (tTup (tCons (tVar 3) (tCons (tC (.bl true)) tNil))) (tCons (tTup (tCons (tVar 3) (tCons (tLst (tCons (tVar 4) tNil)) tNil))) (tCons (tTup (tCons (tVar 3) (tCons (tC (.str "")) tNil))) (tCons (tTup (tCons (tM0 rUpperS (tVar 3)) (tCons (tVar 4) tNil))) (tCons (tTup (tCons (tC (.str "")) (tCons (tVar 4) tNil))) (tCons (tTup (tCons (tC .non) (tCons (tVar 4) tNil))) (tCons (tTup (tCons (tC (.bl true)) (tCons (tVar 4) tNil))) tNil))))))))) (gName 2))
    (tSeq (tAsg (tOp rCat (tVar 2) (tLst (tCons (tTup (tCons (tC (.int 3)) (tCons (tVar 4) tNil))) (tCons (tTup (tCons (tOp rAddS (tVar 3) (tC (.str " "))) (tCons (tVar 4) tNil))) (tCons (tTup (tCons (tC (.str "abcdefghi")) (tCons (tVar 4) tNil))) (tCons (tTup (tCons (tC (.str "given")) (tCons (tVar 4) tNil))) (tCons (tTup (tCons (tC (.str "or")) (tCons (tVar 4) tNil))) (tCons (tTup (tCons (tC (.str "barrier")) (tCons (tVar 4) tNil))) tNil)))))))) (gName 2))
    (tRet (tCall (sp__law_of K A) [] E0 (tCons (tVar 0) (tCons (tOp rCat (tVar 2) (tLst (tCons (tTup (tCons (tLst (tCons (tVar 3) tNil)) (tCons (tVar 4) tNil))) (tCons (tTup (tCons (tOp rAddS (tVar 3) (tC (.str "1"))) (tCons (tVar 4) tNil))) (tCons (tTup (tCons (tC (.str "blames")) (tCons (tVar 4) tNil))) (tCons (tTup (tCons (tC (.str "number")) (tCons (tVar 4) tNil))) (tCons (tTup (tCons (tC (.str "word")) (tCons (tVar 4) tNil))) tNil))))))) tNil))))))))
def n__law_spoilt : List Str := ["_law_bag_here", "_law_field", "_law_ways", "_law_name_here", "_law_kind"]
def sp__law_spoilt (K : PySem.W.Frag) (A : Ads) : Sp := fun vs H Q _ => ∃ (b t : Addr) (z : Str) (mk n : Nat), vs = [.ref b, .ref t] ∧ H t = some (.tup [.str z, .str "word"]) ∧ NameOf mk z ∧ mk ∈ marks ∧ Bag (n + 1) H b ∧
  ∀ x H', FreshB K H H' x → Xb b H H' → Bag n H' b → Q x H'
theorem len__law_spoilt {K : PySem.W.Frag} {A : Ads} {vs : List V} {H : Hp} {Q : VK} {E : XK} (h : sp__law_spoilt K A vs H Q E) : vs.length = 2 := by
  obtain ⟨x, w, _, _, _, rfl, _⟩ := h
  rfl
theorem pure__law_spoilt {K : PySem.W.Frag} {A : Ads} {vs : List V} {H : Hp} {Q : VK} {E : XK} (h : sp__law_spoilt K A vs H Q E) : t__law_spoilt K A E { nx := fun _ H' => Q .non H', rt := Q } (start n__law_spoilt vs) H := by
  obtain ⟨b, t, z, mk, n, rfl, ht, hz, hmk, hB, k⟩ := h
  have hw := hz.word (marks_ok mk hmk).1
  have z8 := hz.len
  have za : z.length + 1 ≤ sizeLine := Nat.le_trans (show _ ≤ 9 by omega) (by decide)
  have up : (Txt.upper z).length ≤ 1000000 := by have := PyProof.Rows.len_upper z; omega
  have AB : AllBad K H H [] := fun x hx => nomatch hx
  have S := Same.refl H
  walk_at "v"
  refine ⟨t, _, rfl, SqT.of ht, rfl, _, _, rfl, _, _, rfl, rfl, ?_⟩
  walk_at "v"
  walk_at "v"
  refine ⟨by show 2 ≤ sizeLine; decide, fun t1 ht1 => ?_⟩
  have s1 := Same.new (o := .lst [.str z, .str "word"]) ht1
  have AB := AB.add s1 (x := .ref t1) (.one S ht1 (.inl ⟨_, .base (.lst upd_same), by decide, rfl⟩))
  have S := Same.trans S s1
  generalize upd H t1 (.lst [.str z, .str "word"]) = H1 at AB S ⊢
  walk_at "v"
  refine ⟨by show 1 ≤ sizeLine; decide, fun t2 ht2 => ?_⟩
  have s2 := Same.new (o := .tup [.str z]) ht2
  have AB := AB.add s2 (x := .ref t2) (.one S ht2 (.inr (.inl ⟨_, _, rfl, upd_same, by show 1 ≠ 2; decide, rfl⟩)))
  have S := Same.trans S s2
  generalize upd H1 t2 (.tup [.str z]) = H2 at AB S ⊢
  walk_at "v"
  walk_at "v"
  walk_at "v"
  refine ⟨by show 3 ≤ sizeLine; decide, fun t3 ht3 => ?_⟩
  have s3 := Same.new (o := .tup [.str z, .str "word", .str "word"]) ht3
  have AB := AB.add s3 (x := .ref t3) (.one S ht3 (.inr (.inl ⟨_, _, rfl, upd_same, by show 3 ≠ 2; decide, rfl⟩)))
  have S := Same.trans S s3
  generalize upd H2 t3 (.tup [.str z, .str "word", .str "word"]) = H3 at AB S ⊢
  walk_at "v"
  have AB := AB.add (Same.refl _) (x := .str z) (.zero (.inl ⟨_, .base (.str z), by decide, rfl⟩))
  have AB := AB.add (Same.refl _) (x := .non) (.zero (.inl ⟨_, .base .non, by decide, rfl⟩))
  walk_at "v"
  refine ⟨_, _, rfl, rfl, by show 5 ≤ sizeLine; decide, ?_⟩
  refine ⟨by show 2 ≤ sizeLine; decide, fun t4 ht4 => ?_⟩
  have s4 := Same.new (o := .tup [.str ("word" ++ "x"), .non]) ht4
  have AB := AB.add s4 (x := .ref t4) (.one S ht4 (fb_kind (nm := some ("word" ++ "x")) upd_same (.inl rfl) (.inr ⟨_, rfl, by decide, by decide +kernel, by decide +kernel⟩) rfl))
  have S := Same.trans S s4
  generalize upd H3 t4 (.tup [.str ("word" ++ "x"), .non]) = H4 at AB S ⊢
  walk_at "v"
  refine ⟨by show 2 ≤ sizeLine; decide, fun t5 ht5 => ?_⟩
  have s5 := Same.new (o := .tup [.str z, .str "words"]) ht5
  have AB := AB.add s5 (x := .ref t5) (.one S ht5 (fb_kind upd_same (.inl rfl) (hz.nameW hmk) kind_bad.1))
  have S := Same.trans S s5
  generalize upd H4 t5 (.tup [.str z, .str "words"]) = H5 at AB S ⊢
  walk_at "v"
  refine ⟨by show 2 ≤ sizeLine; decide, fun t6 ht6 => ?_⟩
  have s6 := Same.new (o := .tup [.str z, .str "Number"]) ht6
  have AB := AB.add s6 (x := .ref t6) (.one S ht6 (fb_kind upd_same (.inl rfl) (hz.nameW hmk) kind_bad.2.1))
  have S := Same.trans S s6
  generalize upd H5 t6 (.tup [.str z, .str "Number"]) = H6 at AB S ⊢
  refine ⟨by show 8 ≤ sizeLine; decide, fun l7 hl7 => ?_⟩
  have s7 := Same.new (o := .lst [.ref t1, .ref t2, .ref t3, .str z, .non, .ref t4, .ref t5, .ref t6]) hl7
  have AB := AB.mono s7
  have g2 : (upd H6 l7 (.lst [.ref t1, .ref t2, .ref t3, .str z, .non, .ref t4, .ref t5, .ref t6])) l7 = some (.lst [.ref t1, .ref t2, .ref t3, .str z, .non, .ref t4, .ref t5, .ref t6]) := upd_same
  have S := Same.trans S s7
  generalize upd H6 l7 (.lst [.ref t1, .ref t2, .ref t3, .str z, .non, .ref t4, .ref t5, .ref t6]) = H7 at AB S g2 ⊢
  have gl := g2
  clear g2
  walk_at "v"
  walk_at "v"
  refine ⟨by show 2 ≤ sizeLine; decide, fun t8 ht8 => ?_⟩
  have s8 := Same.new (o := .tup [.str z, .bl true]) ht8
  have AB := AB.add s8 (x := .ref t8) (.one S ht8 (fb_kind upd_same (.inl rfl) (hz.nameW hmk) rfl))
  have S := Same.trans S s8
  have gl := s8 _ _ gl
  generalize upd H7 t8 (.tup [.str z, .bl true]) = H8 at AB S gl ⊢
  walk_at "v"
  walk_at "v"
  refine ⟨by show 1 ≤ sizeLine; decide, fun q9 hq9 => ?_⟩
  have s9 := Same.new (o := .lst [.str "word"]) hq9
  have S1 := S
  have hq := hq9
  have gq : (upd H8 q9 (.lst [.str "word"])) q9 = some (.lst [.str "word"]) := upd_same
  have AB := AB.mono s9
  have S := Same.trans S s9
  have gl := s9 _ _ gl
  generalize upd H8 q9 (.lst [.str "word"]) = H9 at AB S gl gq ⊢
  refine ⟨by show 2 ≤ sizeLine; decide, fun t10 ht10 => ?_⟩
  have s10 := Same.new (o := .tup [.str z, .ref q9]) ht10
  have AB := AB.add s10 (x := .ref t10) (.two S1 hq gq S ht10 (fb_kind upd_same (.inr ⟨_, _, rfl, by rw [upd_ne (ne_of_none gq ht10), upd_same], by decide +kernel⟩) (hz.nameW hmk) rfl))
  have S := Same.trans S s10
  have gl := s10 _ _ gl
  generalize upd H9 t10 (.tup [.str z, .ref q9]) = H10 at AB S gl ⊢
  clear gq hq S1
  walk_at "v"
  refine ⟨by show 2 ≤ sizeLine; decide, fun t11 ht11 => ?_⟩
  have s11 := Same.new (o := .tup [.str z, .str ""]) ht11
  have AB := AB.add s11 (x := .ref t11) (.one S ht11 (fb_kind upd_same (.inl rfl) (hz.nameW hmk) kind_bad.2.2))
  have S := Same.trans S s11
  have gl := s11 _ _ gl
  generalize upd H10 t11 (.tup [.str z, .str ""]) = H11 at AB S gl ⊢
  walk_at "v"
  refine ⟨⟨_, rfl⟩, _, rfl, rfl, by omega, ?_⟩
  walk_at "v"
  refine ⟨by show 2 ≤ sizeLine; decide, fun t12 ht12 => ?_⟩
  have s12 := Same.new (o := .tup [.str (Txt.upper z), .str "word"]) ht12
  have AB := AB.add s12 (x := .ref t12) (.one S ht12 (fb_name upd_same (wordB_bad up (bad_upper hw))))
  have S := Same.trans S s12
  have gl := s12 _ _ gl
  generalize upd H11 t12 (.tup [.str (Txt.upper z), .str "word"]) = H12 at AB S gl ⊢
  walk_at "v"
  refine ⟨by show 2 ≤ sizeLine; decide, fun t13 ht13 => ?_⟩
  have s13 := Same.new (o := .tup [.str "", .str "word"]) ht13
  have AB := AB.add s13 (x := .ref t13) (.one S ht13 (fb_name upd_same (wordB_bad (by decide) (by decide +kernel))))
  have S := Same.trans S s13
  have gl := s13 _ _ gl
  generalize upd H12 t13 (.tup [.str "", .str "word"]) = H13 at AB S gl ⊢
  walk_at "v"
  refine ⟨by show 2 ≤ sizeLine; decide, fun t14 ht14 => ?_⟩
  have s14 := Same.new (o := .tup [.non, .str "word"]) ht14
  have AB := AB.add s14 (x := .ref t14) (.one S ht14 (fb_name upd_same (.inl ⟨_, .base .non, by decide, rfl⟩)))
  have S := Same.trans S s14
  have gl := s14 _ _ gl
  generalize upd H13 t14 (.tup [.non, .str "word"]) = H14 at AB S gl ⊢
  walk_at "v"
  refine ⟨by show 2 ≤ sizeLine; decide, fun t15 ht15 => ?_⟩
  have s15 := Same.new (o := .tup [.bl true, .str "word"]) ht15
  have AB := AB.add s15 (x := .ref t15) (.one S ht15 (fb_name upd_same (.inl ⟨_, .base (.bl true), by decide, rfl⟩)))
  have S := Same.trans S s15
  have gl := s15 _ _ gl
  generalize upd H14 t15 (.tup [.bl true, .str "word"]) = H15 at AB S gl ⊢
  refine ⟨by show 7 ≤ sizeLine; decide, fun l16 hl16 => ?_⟩
  have s16 := Same.new (o := .lst [.ref t8, .ref t10, .ref t11, .ref t12, .ref t13, .ref t14, .ref t15]) hl16
  have AB := AB.mono s16
  have g2 : (upd H15 l16 (.lst [.ref t8, .ref t10, .ref t11, .ref t12, .ref t13, .ref t14, .ref t15])) l16 = some (.lst [.ref t8, .ref t10, .ref t11, .ref t12, .ref t13, .ref t14, .ref t15]) := upd_same
  have S := Same.trans S s16
  have gl := s16 _ _ gl
  generalize upd H15 l16 (.lst [.ref t8, .ref t10, .ref t11, .ref t12, .ref t13, .ref t14, .ref t15]) = H16 at AB S gl g2 ⊢
  refine ⟨l7, l16, _, _, rfl, rfl, gl, g2, by show 15 ≤ sizeLine; decide, fun c17 hc17 => ?_⟩
  have s17 := Same.new (o := .lst ([.ref t1, .ref t2, .ref t3, .str z, .non, .ref t4, .ref t5, .ref t6] ++ [.ref t8, .ref t10, .ref t11, .ref t12, .ref t13, .ref t14, .ref t15])) hc17
  have AB := AB.mono s17
  have S := Same.trans S s17
  have gl : (upd H16 c17 (.lst ([.ref t1, .ref t2, .ref t3, .str z, .non, .ref t4, .ref t5, .ref t6] ++ [.ref t8, .ref t10, .ref t11, .ref t12, .ref t13, .ref t14, .ref t15]))) c17 = some (.lst [.ref t1, .ref t2, .ref t3, .str z, .non, .ref t4, .ref t5, .ref t6, .ref t8, .ref t10, .ref t11, .ref t12, .ref t13, .ref t14, .ref t15]) := upd_same
  generalize upd H16 c17 (.lst ([.ref t1, .ref t2, .ref t3, .str z, .non, .ref t4, .ref t5, .ref t6] ++ [.ref t8, .ref t10, .ref t11, .ref t12, .ref t13, .ref t14, .ref t15])) = H17 at AB S gl ⊢
  clear g2
  walk_at "v"
  walk_at "v"
  refine ⟨by show 2 ≤ sizeLine; decide, fun t18 ht18 => ?_⟩
  have s18 := Same.new (o := .tup [.int 3, .str "word"]) ht18
  have AB := AB.add s18 (x := .ref t18) (.one S ht18 (fb_name upd_same (.inl ⟨_, ty_int, by decide, rfl⟩)))
  have S := Same.trans S s18
  have gl := s18 _ _ gl
  generalize upd H17 t18 (.tup [.int 3, .str "word"]) = H18 at AB S gl ⊢
  walk_at "v"
  refine ⟨_, _, rfl, rfl, za, ?_⟩
  walk_at "v"
  refine ⟨by show 2 ≤ sizeLine; decide, fun t19 ht19 => ?_⟩
  have s19 := Same.new (o := .tup [.str (z ++ " "), .str "word"]) ht19
  have AB := AB.add s19 (x := .ref t19) (.one S ht19 (fb_name upd_same (wordB_bad (by rw [app_len]; show z.length + 1 ≤ 1000000; omega) (bad_app _ (by decide +kernel)))))
  have S := Same.trans S s19
  have gl := s19 _ _ gl
  generalize upd H18 t19 (.tup [.str (z ++ " "), .str "word"]) = H19 at AB S gl ⊢
  walk_at "v"
  refine ⟨by show 2 ≤ sizeLine; decide, fun t20 ht20 => ?_⟩
  have s20 := Same.new (o := .tup [.str "abcdefghi", .str "word"]) ht20
  have AB := AB.add s20 (x := .ref t20) (.one S ht20 (fb_name upd_same (wordB_bad (by decide) (by decide +kernel))))
  have S := Same.trans S s20
  have gl := s20 _ _ gl
  generalize upd H19 t20 (.tup [.str "abcdefghi", .str "word"]) = H20 at AB S gl ⊢
  walk_at "v"
  refine ⟨by show 2 ≤ sizeLine; decide, fun t21 ht21 => ?_⟩
  have s21 := Same.new (o := .tup [.str "given", .str "word"]) ht21
  have AB := AB.add s21 (x := .ref t21) (.one S ht21 (fb_res upd_same (by decide +kernel)))
  have S := Same.trans S s21
  have gl := s21 _ _ gl
  generalize upd H20 t21 (.tup [.str "given", .str "word"]) = H21 at AB S gl ⊢
  walk_at "v"
  refine ⟨by show 2 ≤ sizeLine; decide, fun t22 ht22 => ?_⟩
  have s22 := Same.new (o := .tup [.str "or", .str "word"]) ht22
  have AB := AB.add s22 (x := .ref t22) (.one S ht22 (fb_res upd_same (by decide +kernel)))
  have S := Same.trans S s22
  have gl := s22 _ _ gl
  generalize upd H21 t22 (.tup [.str "or", .str "word"]) = H22 at AB S gl ⊢
  walk_at "v"
  refine ⟨by show 2 ≤ sizeLine; decide, fun t23 ht23 => ?_⟩
  have s23 := Same.new (o := .tup [.str "barrier", .str "word"]) ht23
  have AB := AB.add s23 (x := .ref t23) (.one S ht23 (fb_res upd_same (by decide +kernel)))
  have S := Same.trans S s23
  have gl := s23 _ _ gl
  generalize upd H22 t23 (.tup [.str "barrier", .str "word"]) = H23 at AB S gl ⊢
  refine ⟨by show 6 ≤ sizeLine; decide, fun l24 hl24 => ?_⟩
  have s24 := Same.new (o := .lst [.ref t18, .ref t19, .ref t20, .ref t21, .ref t22, .ref t23]) hl24
  have AB := AB.mono s24
  have g2 : (upd H23 l24 (.lst [.ref t18, .ref t19, .ref t20, .ref t21, .ref t22, .ref t23])) l24 = some (.lst [.ref t18, .ref t19, .ref t20, .ref t21, .ref t22, .ref t23]) := upd_same
  have S := Same.trans S s24
  have gl := s24 _ _ gl
  generalize upd H23 l24 (.lst [.ref t18, .ref t19, .ref t20, .ref t21, .ref t22, .ref t23]) = H24 at AB S gl g2 ⊢
  refine ⟨c17, l24, _, _, rfl, rfl, gl, g2, by show 21 ≤ sizeLine; decide, fun c25 hc25 => ?_⟩
  have s25 := Same.new (o := .lst ([.ref t1, .ref t2, .ref t3, .str z, .non, .ref t4, .ref t5, .ref t6, .ref t8, .ref t10, .ref t11, .ref t12, .ref t13, .ref t14, .ref t15] ++ [.ref t18, .ref t19, .ref t20, .ref t21, .ref t22, .ref t23])) hc25
  have AB := AB.mono s25
  have S := Same.trans S s25
  have gl : (upd H24 c25 (.lst ([.ref t1, .ref t2, .ref t3, .str z, .non, .ref t4, .ref t5, .ref t6, .ref t8, .ref t10, .ref t11, .ref t12, .ref t13, .ref t14, .ref t15] ++ [.ref t18, .ref t19, .ref t20, .ref t21, .ref t22, .ref t23]))) c25 = some (.lst [.ref t1, .ref t2, .ref t3, .str z, .non, .ref t4, .ref t5, .ref t6, .ref t8, .ref t10, .ref t11, .ref t12, .ref t13, .ref t14, .ref t15, .ref t18, .ref t19, .ref t20, .ref t21, .ref t22, .ref t23]) := upd_same
  generalize upd H24 c25 (.lst ([.ref t1, .ref t2, .ref t3, .str z, .non, .ref t4, .ref t5, .ref t6, .ref t8, .ref t10, .ref t11, .ref t12, .ref t13, .ref t14, .ref t15] ++ [.ref t18, .ref t19, .ref t20, .ref t21, .ref t22, .ref t23])) = H25 at AB S gl ⊢
  clear g2
  walk_at "v"
  walk_at "v"
  walk_at "v"
  refine ⟨by show 1 ≤ sizeLine; decide, fun q26 hq26 => ?_⟩
  have s26 := Same.new (o := .lst [.str z]) hq26
  have S1 := S
  have hq := hq26
  have gq : (upd H25 q26 (.lst [.str z])) q26 = some (.lst [.str z]) := upd_same
  have AB := AB.mono s26
  have S := Same.trans S s26
  have gl := s26 _ _ gl
  generalize upd H25 q26 (.lst [.str z]) = H26 at AB S gl gq ⊢
  walk_at "v"
  refine ⟨by show 2 ≤ sizeLine; decide, fun t27 ht27 => ?_⟩
  have s27 := Same.new (o := .tup [.ref q26, .str "word"]) ht27
  have AB := AB.add s27 (x := .ref t27) (.two S1 hq gq S ht27 (fb_name upd_same (.inl ⟨_, .base (.lst (show upd (upd emp q26 (.lst [.str z])) t27 (.tup [.ref q26, .str "word"]) q26 = some (.lst [.str z]) by rw [upd_ne (ne_of_none gq ht27), upd_same])), by decide, rfl⟩)))
  have S := Same.trans S s27
  have gl := s27 _ _ gl
  generalize upd H26 t27 (.tup [.ref q26, .str "word"]) = H27 at AB S gl ⊢
  clear gq hq S1
  walk_at "v"
  refine ⟨_, _, rfl, rfl, za, ?_⟩
  walk_at "v"
  refine ⟨by show 2 ≤ sizeLine; decide, fun t28 ht28 => ?_⟩
  have s28 := Same.new (o := .tup [.str (z ++ "1"), .str "word"]) ht28
  have AB := AB.add s28 (x := .ref t28) (.one S ht28 (fb_name upd_same (wordB_bad (by rw [app_len]; show z.length + 1 ≤ 1000000; omega) (bad_app _ (by decide +kernel)))))
  have S := Same.trans S s28
  have gl := s28 _ _ gl
  generalize upd H27 t28 (.tup [.str (z ++ "1"), .str "word"]) = H28 at AB S gl ⊢
  walk_at "v"
  refine ⟨by show 2 ≤ sizeLine; decide, fun t29 ht29 => ?_⟩
  have s29 := Same.new (o := .tup [.str "blames", .str "word"]) ht29
  have AB := AB.add s29 (x := .ref t29) (.one S ht29 (fb_res upd_same (by decide +kernel)))
  have S := Same.trans S s29
  have gl := s29 _ _ gl
  generalize upd H28 t29 (.tup [.str "blames", .str "word"]) = H29 at AB S gl ⊢
  walk_at "v"
  refine ⟨by show 2 ≤ sizeLine; decide, fun t30 ht30 => ?_⟩
  have s30 := Same.new (o := .tup [.str "number", .str "word"]) ht30
  have AB := AB.add s30 (x := .ref t30) (.one S ht30 (fb_res upd_same (by decide +kernel)))
  have S := Same.trans S s30
  have gl := s30 _ _ gl
  generalize upd H29 t30 (.tup [.str "number", .str "word"]) = H30 at AB S gl ⊢
  walk_at "v"
  refine ⟨by show 2 ≤ sizeLine; decide, fun t31 ht31 => ?_⟩
  have s31 := Same.new (o := .tup [.str "word", .str "word"]) ht31
  have AB := AB.add s31 (x := .ref t31) (.one S ht31 (fb_res upd_same (by decide +kernel)))
  have S := Same.trans S s31
  have gl := s31 _ _ gl
  generalize upd H30 t31 (.tup [.str "word", .str "word"]) = H31 at AB S gl ⊢
  refine ⟨by show 5 ≤ sizeLine; decide, fun l32 hl32 => ?_⟩
  have s32 := Same.new (o := .lst [.ref t27, .ref t28, .ref t29, .ref t30, .ref t31]) hl32
  have AB := AB.mono s32
  have g2 : (upd H31 l32 (.lst [.ref t27, .ref t28, .ref t29, .ref t30, .ref t31])) l32 = some (.lst [.ref t27, .ref t28, .ref t29, .ref t30, .ref t31]) := upd_same
  have S := Same.trans S s32
  have gl := s32 _ _ gl
  generalize upd H31 l32 (.lst [.ref t27, .ref t28, .ref t29, .ref t30, .ref t31]) = H32 at AB S gl g2 ⊢
  have S0 := S
  refine ⟨c25, l32, _, _, rfl, rfl, gl, g2, by show 26 ≤ sizeLine; decide, fun c33 hc33 => ?_⟩
  have s33 := Same.new (o := .lst ([.ref t1, .ref t2, .ref t3, .str z, .non, .ref t4, .ref t5, .ref t6, .ref t8, .ref t10, .ref t11, .ref t12, .ref t13, .ref t14, .ref t15, .ref t18, .ref t19, .ref t20, .ref t21, .ref t22, .ref t23] ++ [.ref t27, .ref t28, .ref t29, .ref t30, .ref t31])) hc33
  have AB := AB.mono s33
  have S := Same.trans S s33
  have gl : (upd H32 c33 (.lst ([.ref t1, .ref t2, .ref t3, .str z, .non, .ref t4, .ref t5, .ref t6, .ref t8, .ref t10, .ref t11, .ref t12, .ref t13, .ref t14, .ref t15, .ref t18, .ref t19, .ref t20, .ref t21, .ref t22, .ref t23] ++ [.ref t27, .ref t28, .ref t29, .ref t30, .ref t31]))) c33 = some (.lst [.ref t1, .ref t2, .ref t3, .str z, .non, .ref t4, .ref t5, .ref t6, .ref t8, .ref t10, .ref t11, .ref t12, .ref t13, .ref t14, .ref t15, .ref t18, .ref t19, .ref t20, .ref t21, .ref t22, .ref t23, .ref t27, .ref t28, .ref t29, .ref t30, .ref t31]) := upd_same
  have nb : c33 ≠ b := by
    rintro rfl
    obtain ⟨L, e⟩ := hB.at_
    have e2 := S0 _ _ e
    rw [hc33] at e2
    cases e2
  generalize upd H32 c33 (.lst ([.ref t1, .ref t2, .ref t3, .str z, .non, .ref t4, .ref t5, .ref t6, .ref t8, .ref t10, .ref t11, .ref t12, .ref t13, .ref t14, .ref t15, .ref t18, .ref t19, .ref t20, .ref t21, .ref t22, .ref t23] ++ [.ref t27, .ref t28, .ref t29, .ref t30, .ref t31])) = H33 at AB S gl ⊢
  clear g2
  refine ⟨b, n, hB.same S, .inl ⟨c33, _, rfl, gl, nb, by show 0 < 26; decide, by show 26 ≤ 1000000; decide, fun j x H' hj x' hB' => ?_⟩⟩
  simp only [List.nil_append, List.cons_append] at AB
  have hx := AB x (List.mem_of_getElem? hj)
  refine k x H' (hx.xb hB.at_.choose_spec x') (fun q o nq hq => x' _ _ nq (S _ _ hq)) hB'
end Md

set_option Elab.async false
set_option linter.all false
set_option maxRecDepth 100000
set_option maxHeartbeats 4000000
set_option exponentiation.threshold 20000
namespace Md
open PySem PySem.Spec PyProof.Rows PySem.Calls L2
local macro_rules | `(tactic| walk_at "v") => `(tactic| refine ⟨_, rfl, ?_⟩)
local macro_rules | `(tactic| walk_at "ii") => `(tactic| refine ⟨_, _, rfl, rfl, ?_⟩)
theorem new_ne {n : Nat} {H : Hp} {b l : Addr} (hB : Bag n H b) (h : H l = none) : l ≠ b := by
  rintro rfl
  obtain ⟨L, e⟩ := hB.at_
  rw [h] at e
  cases e
/-- the script's list, away from the lists bs that change -/
def ScrN (K : PySem.W.Frag) (H : Hp) (a : Addr) (xs : List V) (bs : List Addr) : Prop := SqL K H a xs ∧ (a ∈ bs → ∀ H', SqL K H' a xs)
theorem ScrN.step {K : PySem.W.Frag} {H H' : Hp} {a : Addr} {xs : List V} {bs : List Addr} (h : ScrN K H a xs bs) (x : ∀ q o, q ∉ bs → H q = some o → H' q = some o) : ScrN K H' a xs bs := by
  refine ⟨?_, h.2⟩
  by_cases c : a ∈ bs
  · exact h.2 c H'
  · rcases h.1 with (e | ⟨o, e⟩) | e
    · exact .inl (.inl (x _ _ c e))
    · exact .inl (.inr ⟨o, x _ _ c e⟩)
    · exact .inr e
theorem ScrN.xb {K : PySem.W.Frag} {H H' : Hp} {a b : Addr} {xs : List V} {bs : List Addr} (h : ScrN K H a xs bs) (x : Xb b H H') (hb : b ∈ bs := by simp) : ScrN K H' a xs bs := h.step fun q o hq e => x q o (fun z => hq (by rw [z]; exact hb)) e
theorem ScrN.same {K : PySem.W.Frag} {H H' : Hp} {a : Addr} {xs : List V} {bs : List Addr} (h : ScrN K H a xs bs) (s : Same H H') : ScrN K H' a xs bs := h.step fun q o _ e => s q o e
theorem ScrN.new {K : PySem.W.Frag} {H : Hp} {a b : Addr} {xs : List V} {bs : List Addr} (h : ScrN K H a xs bs) (hb : H b = none) : ScrN K H a xs (b :: bs) := by
  refine ⟨h.1, fun hm H' => ?_⟩
  rcases List.mem_cons.mp hm with e | e
  · subst e
    rcases h.1 with (e | ⟨o, e⟩) | e
    · rw [hb] at e; cases e
    · rw [hb] at e; cases e
    · exact .inr e
  · exact h.2 e H'
/-- an entry whose parts stand away from the lists bs -/
def EntB (K : PySem.W.Frag) (H : Hp) (bs : List Addr) (x : V) (r : Option (Str × Str)) : Prop := ∃ Hn : Hp, FieldB K Hn x r ∧ ∀ q o, Hn q = some o → H q = some o ∧ q ∉ bs
theorem EntB.field {K : PySem.W.Frag} {H : Hp} {bs : List Addr} {x : V} {r : Option (Str × Str)} (h : EntB K H bs x r) : FieldB K H x r := by
  obtain ⟨Hn, hf, hn⟩ := h
  exact hf.mono fun q o e => (hn q o e).1
theorem EntB.step {K : PySem.W.Frag} {H H' : Hp} {bs : List Addr} {x : V} {r : Option (Str × Str)} (h : EntB K H bs x r) (s : ∀ q o, q ∉ bs → H q = some o → H' q = some o) : EntB K H' bs x r := by
  obtain ⟨Hn, hf, hn⟩ := h
  exact ⟨Hn, hf, fun q o e => ⟨s _ _ (hn q o e).2 (hn q o e).1, (hn q o e).2⟩⟩
theorem FsAt.ent {K : PySem.W.Frag} {H : Hp} {fs : List (Addr × Str × Str)} (h : FsAt H fs) {bs : List Addr} (hb : ∀ b ∈ bs, ∃ L, H b = some (.lst L)) {i : Nat} {f : Addr × Str × Str} (e : fs[i]? = some f) : EntB K H bs (.ref f.1) (some f.2) := by
  obtain ⟨h1, h2, mk, h3, h4⟩ := h i f e
  have hk : kindOf (.str f.2.2) = some f.2.2 := by
    show (if f.2.2 = "number" ∨ f.2.2 = "word" then some f.2.2 else none : Option Str) = _
    rw [if_pos h2]
  refine ⟨upd emp f.1 (.tup [.str f.2.1, .str f.2.2]), .inr (.inr ⟨f.1, _, _, some f.2.1, rfl, upd_same, .inl rfl, h4.nameW (mark_get h3), by rw [hk]; rfl⟩), fun q o e => ?_⟩
  by_cases c : q = f.1
  · subst c
    rw [upd_same] at e
    cases e
    refine ⟨h1, fun hm => ?_⟩
    obtain ⟨L, eL⟩ := hb _ hm
    rw [h1] at eL
    cases eL
  · rw [upd_ne c] at e
    exact nomatch e
theorem FreshB.ent {K : PySem.W.Frag} {H0 H : Hp} {x : V} {bs : List Addr} (h : FreshB K H0 H x) (hb : ∀ b ∈ bs, ∃ L, H0 b = some (.lst L)) : EntB K H bs x none := by
  obtain ⟨Hn, hf, hn⟩ := h
  refine ⟨Hn, hf, fun q o e => ⟨(hn q o e).1, fun hm => ?_⟩⟩
  obtain ⟨L, eL⟩ := hb _ hm
  rw [(hn q o e).2] at eL
  cases eL
theorem least : ∀ (ms : List Nat), ms ≠ [] → ∃ m ∈ ms, ∀ y ∈ ms, m ≤ y
  | [], h => absurd rfl h
  | [x], _ => ⟨x, List.mem_cons_self, fun y hy => by rw [List.mem_singleton.mp hy]; exact Nat.le_refl _⟩
  | x :: y :: r, _ => by
    obtain ⟨m, hm, hl⟩ := least (y :: r) (List.cons_ne_nil _ _)
    rcases Nat.lt_or_ge x m with h | h
    · exact ⟨x, List.mem_cons_self, fun z hz => by
        rcases List.mem_cons.mp hz with e | e
        · omega
        · have := hl z e; omega⟩
    · exact ⟨m, List.mem_cons_of_mem _ hm, fun z hz => by
        rcases List.mem_cons.mp hz with e | e
        · omega
        · exact hl z e⟩
/-- some places spoilt: refused at the least of them -/
theorem says_spoilt {K : PySem.W.Frag} {H : Hp} {l : Addr} {xs : List V} {fs : List (Addr × Str × Str)} {ms : List Nat} {m : Nat} (hl : H l = some (.lst xs)) (hx : xs.length = fs.length) (h1 : 1 ≤ fs.length) (h5 : fs.length ≤ 5)
    (hF : ∀ (j : Nat) x f, xs[j]? = some x → fs[j]? = some f → FieldB K H x (if j ∈ ms then none else some f.2)) (hd : ∀ (i j : Nat) f g, j < i → fs[i]? = some f → fs[j]? = some g → f.2.1 ≠ g.2.1) (hm : m ∈ ms) (hle : ∀ y ∈ ms, m ≤ y) (hmf : m < fs.length) :
    LaySays K H (.ref l) (.int (m : Nat)) := by
  have z := says_at (K := K) (m := m) (rs := fs.mapIdx fun j f => if j ∈ ms then none else some f.2) (zs := fs.map fun f => f.2) hl (by rw [List.length_mapIdx]; exact hx) (by rw [hx]; exact h1) (by rw [hx]; exact h5)
    (fun i x r e1 e2 => by
      rw [List.getElem?_mapIdx] at e2
      cases e : fs[i]? with
      | none => rw [e] at e2; cases e2
      | some f =>
        rw [e] at e2
        cases e2
        exact hF i x f e1 e)
    (by rw [List.length_mapIdx]; omega) (by rw [List.length_map]; omega)
    (fun i z hi e => by
      rw [List.getElem?_map] at e
      rw [List.getElem?_mapIdx]
      cases e' : fs[i]? with
      | none => rw [e'] at e; cases e
      | some f =>
        rw [e'] at e
        cases e
        show some (if i ∈ ms then none else some f.2) = _
        rw [if_neg (fun h => by have := hle i h; omega)])
    (fun i j z w hji e1 e2 => by
      rw [List.getElem?_map] at e1 e2
      cases e' : fs[i]? with
      | none => rw [e'] at e1; cases e1
      | some f =>
        cases e'' : fs[j]? with
        | none => rw [e''] at e2; cases e2
        | some g =>
          rw [e'] at e1; rw [e''] at e2
          cases e1; cases e2
          exact hd i j f g hji e' e'')
    (fun _ => ⟨none, by
      rw [List.getElem?_mapIdx, List.getElem?_eq_getElem hmf]
      show some (if m ∈ ms then none else some _) = _
      rw [if_pos hm], fun _ _ z => nomatch z⟩)
  rw [List.length_mapIdx, if_neg (by omega)] at z
  exact z
theorem addI {i j : Int} {H : Hp} {Q : VK} (h : ∀ u, u = i + j → Q (.int u) H) : rAdd (.int i) (.int j) H Q := ⟨_, _, rfl, rfl, h _ rfl⟩
theorem says_dup {K : PySem.W.Frag} {H : Hp} {l t3 : Addr} {fs : List (Addr × Str × Str)} {kk q : Nat} {g : Addr × Str × Str} {kd : Str} (hfs : FsAt H fs) (hl : H l = some (.lst ((fs.map fun f => V.ref f.1).set kk (.ref t3)))) (ht3 : H t3 = some (.tup [.str g.2.1, .str kd]))
    (hkd : kd = "number" ∨ kd = "word") (hg : fs[q]? = some g) (hq : q < kk) (hk : kk < fs.length) (h5 : fs.length ≤ 5) : LaySays K H (.ref l) (.int (kk : Nat)) := by
  have hf3 : FieldB K H (.ref t3) (some (g.2.1, kd)) := by
    obtain ⟨_, _, mk, h3, h4⟩ := hfs q g hg
    have hk : kindOf (.str kd) = some kd := by
      show (if kd = "number" ∨ kd = "word" then some kd else none : Option Str) = _
      rw [if_pos hkd]
    exact .inr (.inr ⟨t3, _, _, some g.2.1, rfl, ht3, .inl rfl, h4.nameW (mark_get h3), by rw [hk]; rfl⟩)
  have z := says_at (K := K) (m := kk) (rs := (fs.map fun f => some f.2).set kk (some (g.2.1, kd))) (zs := fs.map fun f => f.2) hl (by simp) (by simp; omega) (by simp; omega)
    (fun i x r e1 e2 => by
      by_cases c : i = kk
      · subst c
        rw [List.getElem?_set_self (by simp; omega)] at e1 e2
        cases e1; cases e2
        exact hf3
      · rw [List.getElem?_set_ne (Ne.symm c), List.getElem?_map] at e1 e2
        cases e : fs[i]? with
        | none => rw [e] at e1; cases e1
        | some f =>
          rw [e] at e1 e2
          cases e1; cases e2
          exact hfs.field e)
    (by simp; omega) (by simp; omega)
    (fun i z hi e => by
      rw [List.getElem?_map] at e
      rw [List.getElem?_set_ne (by omega), List.getElem?_map]
      cases e' : fs[i]? with
      | none => rw [e'] at e; cases e
      | some f =>
        rw [e'] at e
        cases e
        rfl)
    (fun i j z w hji e1 e2 => by
      rw [List.getElem?_map] at e1 e2
      cases e' : fs[i]? with
      | none => rw [e'] at e1; cases e1
      | some f =>
        cases e'' : fs[j]? with
        | none => rw [e''] at e2; cases e2
        | some g =>
          rw [e'] at e1; rw [e''] at e2
          cases e1; cases e2
          exact hfs.ne hji e' e'')
    (fun _ => ⟨some (g.2.1, kd), List.getElem?_set_self (by simp; omega), fun n k e => by
      cases e
      rw [List.map_take, List.map_map]
      refine List.mem_of_getElem? (i := q) ?_
      rw [List.getElem?_take_of_lt hq, List.getElem?_map, hg]
      rfl⟩)
  rw [if_neg (by simp; omega)] at z
  exact z
theorem says_one {K : PySem.W.Frag} {H : Hp} {l : Addr} {fs : List (Addr × Str × Str)} {q : Nat} {g : Addr × Str × Str} (hfs : FsAt H fs) (hg : fs[q]? = some g) (hl : H l = some (.lst [.ref g.1])) : LaySays K H (.ref l) .non := by
  have z := says_at (K := K) (m := 1) (rs := [some g.2]) (zs := [g.2]) hl rfl (by show 1 ≤ 1; decide) (by show 1 ≤ 5; decide)
    (fun i x r e1 e2 => by
      match i with
      | 0 => cases e1; cases e2; exact hfs.field hg
      | i + 1 => cases e1)
    (by show 1 ≤ 1; decide) (by show 1 ≤ 1; decide)
    (fun i z hi e => by
      match i with
      | 0 => cases e; rfl
      | i + 1 => omega)
    (fun i j z w hji e1 e2 => by
      match i with
      | 0 => omega
      | i + 1 => cases e1)
    (fun h => absurd h (by show ¬ 1 < 1; decide))
  rw [if_pos (show 1 = [some g.2].length from rfl)] at z
  exact z
theorem paired_fs {K : PySem.W.Frag} {H : Hp} : ∀ (fs : List (Addr × Str × Str)), (∀ f ∈ fs, H f.1 = some (.tup [.str f.2.1, .str f.2.2])) → Paired (fun p (kv : Key × V) => SqT K H p [kV kv.1, kv.2]) (fs.map (·.1)) (fs.map fun f => ((.inr f.2.1 : Key), V.str f.2.2))
  | [], _ => .nil
  | f :: r, h => .cons (SqT.of (h f List.mem_cons_self)) (paired_fs r fun g hg => h g (List.mem_cons_of_mem _ hg))
def t_law (K : PySem.W.Frag) (A : Ads) (E : XK) : TS :=
    (tSeq (tFor (iRng1 (tCons (tCB rMax2 (tCons (tC (.int 1)) (tCons (tCB rMin2 (tCons (tC (.int 6)) (tCons (tCB (rLen K) (tCons (tVar 0) tNil)) tNil))) tNil))) tNil)) (gName 1) (tSeq (tAsg (tCall (sp__law_bag K A) [] E0 (tCons (tVar 0) (tCons (tVar 1) tNil))) (gName 2))
    (tSeq (tAsg (tCall (sp__law_fields K A) [] E0 (tCons (tVar 2) (tCons (tCall (sp__law_counts K A) [] E0 (tCons (tVar 2) tNil)) tNil))) (gName 3))
    (tSeq (tIfS (tTest (tOp rNotN (tCall (sp__law_at K A) [] E0 (tCons (tCB (rListOf K) (tCons (tVar 3) tNil)) tNil)) (tC .non))) (tRet (tC (.bl false))) tNext)
    (tSeq (tAsg (tLst tNil) (gName 4))
    (tSeq (tFor (iRng1 (tCons (tOp rAdd (tC (.int 1)) (tCall (sp__law_take K A) [] E0 (tCons (tVar 2) (tCons (tC (.int 2)) tNil)))) tNil)) (gName 5) (tSeq (tAsg (tCall (sp__law_take K A) [] E0 (tCons (tVar 2) (tCons (tCB (rLen K) (tCons (tVar 3) tNil)) tNil))) (gName 6))
    (tSeq (tDrop (tBM K "list" rAppend (tVar 4) (tCons (tVar 6) tNil)))
    (tAsg (tCall (sp__law_spoilt K A) [] E0 (tCons (tVar 2) (tCons (tTup (tCons (tCall (sp__law_name K A) [] E0 (tCons (tVar 2) (tCons (tC (.str "y")) tNil))) (tCons (tC (.str "word")) tNil))) tNil))) (gSub (tVar 3) (tVar 6) rSetL)))))
    (tSeq (tIfS (tTest (tOp rNe (tCall (sp__law_at K A) [] E0 (tCons (tCB (rListOf K) (tCons (tVar 3) tNil)) tNil)) (tCB (rMin K) (tCons (tVar 4) tNil)))) (tRet (tC (.bl false))) tNext)
    (tSeq (tAsg (tCall (sp__law_fields K A) [] E0 (tCons (tVar 2) (tCons (tTup (tCons (tCall (sp__law_take K A) [] E0 (tCons (tVar 2) (tCons (tC (.int 3)) tNil))) (tCons (tC (.int 2)) tNil))) tNil))) (gName 3))
    (tSeq (tAsg (tOp rAdd (tC (.int 1)) (tCall (sp__law_take K A) [] E0 (tCons (tVar 2) (tCons (tOp rSub (tCB (rLen K) (tCons (tVar 3) tNil)) (tC (.int 1))) tNil)))) (gName 6))
    (tSeq (tAsg (tTup (tCons (tOp (rIx K) (tOp (rIx K) (tVar 3) (tCall (sp__law_take K A) [] E0 (tCons (tVar 2) (tCons (tVar 6) tNil)))) (tC (.int 0))) (tCons (tCall (sp__law_of K A) [] E0 (tCons (tVar 2) (tCons (tLst (tCons (tC (.str "number")) (tCons (tC (.str "word")) tNil))) tNil))) tNil))) (gSub (tVar 3) (tVar 6) rSetL))
    (tSeq (tIfS (tTest (tOp rNe (tCall (sp__law_at K A) [] E0 (tCons (tCB (rListOf K) (tCons (tVar 3) tNil)) tNil)) (tVar 6))) (tRet (tC (.bl false))) tNext)
    (tSeq (tAsg (tCall (sp__law_fields K A) [] E0 (tCons (tVar 2) (tCons (tTup (tCons (tC (.int 2)) (tCons (tC (.int 3)) tNil))) tNil))) (gName 7))
    (tSeq (tAsg (tOp rCat (tVar 7) (tLst (tCons (tTup (tCons (tCall (sp__law_name K A) [] E0 (tCons (tVar 2) (tCons (tC (.str "u")) tNil))) (tCons (tC (.str "word")) tNil))) tNil))) (gName 8))
    (tSeq (tFor (iList K (tLst (tCons (tLst tNil) (tCons (tVar 8) (tCons (tOp rCat (tVar 8) (tVar 8)) (tCons (tCB (rTupF K) (tCons (tVar 7) tNil)) (tCons (tCB (rDictP K) (tCons (tVar 7) tNil)) (tCons (tC .non) (tCons (tC (.int 0)) (tCons (tC (.bl true)) (tCons (tC (.str "number a")) (tCons (tOp (rIx K) (tVar 8) (tC (.int 0))) tNil)))))))))))) (gName 9) (tIfS (tTest (tOp rNe (tCall (sp__law_at K A) [] E0 (tCons (tVar 9) tNil)) (tUn rNeg (tC (.int 1))))) (tRet (tC (.bl false))) tNext))
    (tIfS (tOr (tTest (tOp rNotN (tCall (sp__law_at K A) [] E0 (tCons (tVar 7) tNil)) (tC .non))) (tTest (tOp rNotN (tCall (sp__law_at K A) [] E0 (tCons (tLst (tCons (tOp (rIx K) (tVar 7) (tC (.int 4))) tNil)) tNil)) (tC .non)))) (tRet (tC (.bl false))) tNext)))))))))))))))
    (tRet (tC (.bl true))))
def n_law : List Str := ["_law_script", "_law_at_here", "_law_bag_here", "_law_fields_here", "_law_wrong", "_law_turn", "_law_k", "_law_right", "_law_six", "_law_thing"]
def sp_law (K : PySem.W.Frag) : Sp := fun vs H Q _ => ∃ (a : Addr) (ns : List Int), vs = [.ref a] ∧ SqL K H a (ns.map V.int) ∧ ns.length ≤ 63 ∧ ∀ H', Q (.bl true) H'
theorem len_law {K : PySem.W.Frag} {vs : List V} {H : Hp} {Q : VK} {E : XK} (h : sp_law K vs H Q E) : vs.length = 1 := by
  obtain ⟨x, p, rfl, _⟩ := h
  rfl
theorem pure_law {K : PySem.W.Frag} {A : Ads} {vs : List V} {H : Hp} {Q : VK} {E : XK} (h : sp_law K vs H Q E) : t_law K A E { nx := fun _ H' => Q .non H', rt := Q } (start n_law vs) H := by
  obtain ⟨a, ns, rfl, hS2, hn, k⟩ := h
  walk_at "v"
  refine ⟨_, _, rfl, Or.inl ⟨_, hS2, rfl⟩, ?_⟩
  refine ⟨_, _, rfl, ?_⟩
  refine ⟨_, _, rfl, ?_⟩
  have hl : (ns.map V.int).length = ns.length := List.length_map ..
  obtain ⟨m, em, hm⟩ : ∃ m : Int, m = (if (if ((ns.map V.int).length : Int) < 6 then ((ns.map V.int).length : Int) else 6) > 1 then (if ((ns.map V.int).length : Int) < 6 then ((ns.map V.int).length : Int) else 6) else 1) ∧ m ≤ 6 := ⟨_, rfl, by split <;> split <;> omega⟩
  rw [← em]
  refine ⟨m, rfl, by omega, by omega, ?_⟩
  refine for_range (lo := 0) (n := m.toNat) (fun i σ H' => SqL K H' a (ns.map V.int) ∧ ∃ v1 v2 v3 v4 v5 v6 v7 v8 v9, σ = [some (.ref a), v1, v2, v3, v4, v5, v6, v7, v8, v9]) ⟨hS2, _, _, _, _, _, _, _, _, _, rfl⟩ ?_ ?_
  rotate_left
  · rintro σ H' ⟨_, _, _, _, _, _, _, _, _, _, _, rfl⟩
    exact k H'
  rintro i σ H3 hi ⟨hS3, v1, v2, v3, v4, v5, v6, v7, v8, v9, rfl⟩
  walk_at "v"; walk_at "v"
  refine ⟨a, ns, 0 + i, rfl, hS3, hn, by omega, by omega, fun b H4 hb0 s4 hB => ?_⟩
  have sc : ScrN K H4 a (ns.map V.int) [b] := ((show ScrN K H3 a (ns.map V.int) [] from ⟨hS3, fun h => nomatch h⟩).new hb0).same s4
  have hB4 : Bag (998 + 2) H4 b := hB.mono (by decide)
  clear hB hS3 s4 hb0
  -- the fields
  walk_at "v"; walk_at "v"
  refine ⟨b, 998, rfl, hB4, fun t w1 w2 H5 g1 g5 ht x5 hB5 => ?_⟩
  refine ⟨b, t, w1, w2, 948, rfl, ht, g5, hB5, fun l H6 fs hl0 x6 hB6 hF hlen _ => ?_⟩
  have sc6 := ((sc.xb x5).new hl0).xb x6
  have nl : l ≠ b := new_ne hB5 hl0
  obtain ⟨hfl, hfs⟩ := hF
  have hfs : FsAt H6 fs := hfs
  clear hB4 hB5 x5 x6 sc hl0 ht
  have f1 : 1 ≤ fs.length := by omega
  have f5 : fs.length ≤ 5 := by omega
  walk_at "v"
  refine ⟨l, _, rfl, .inl (SqL.of hfl), fun l2 hl2 => ?_⟩
  have s7 := Same.new (o := .lst (fs.map fun f => V.ref f.1)) hl2
  refine ⟨.ref l2, .non, rfl, says_ok (hfs.same s7) upd_same f1 f5, fun H8 s8 => ?_⟩
  refine ⟨rfl, ?_⟩
  refine ⟨_, rfl, ?_⟩
  refine iteN (fun _ => ?_) (fun h => absurd rfl h)
  have S := Same.trans s7 s8
  have sc8 := sc6.same S
  have hB8 := hB6.same S
  have hfl8 := S _ _ hfl
  have hfs8 := hfs.same S
  clear S s7 s8 sc6 hB6 hfl hfs hl2
  -- one or two places spoilt
  refine ⟨by show 0 ≤ sizeLine; decide, fun wl hwl => ?_⟩
  have s9 := Same.new (o := .lst []) hwl
  have nw : wl ≠ b := new_ne hB8 hwl
  have nwl : l ≠ wl := ne_of_none hfl8 hwl
  have gw : (upd H8 wl (.lst [])) wl = some (.lst []) := upd_same
  have sc9 := (sc8.new hwl).same s9
  have hB9 := hB8.same s9
  have hfl9 := s9 _ _ hfl8
  have hfs9 := hfs8.same s9
  generalize upd H8 wl (.lst []) = H9 at gw sc9 hB9 hfl9 hfs9 ⊢
  clear s9 sc8 hB8 hfl8 hfs8 hwl H8
  walk_at "v"
  refine ⟨b, 2, 947, rfl, hB9, by decide, by decide, fun d H10 d0 d1 x10 hB10 => ?_⟩
  walk_at "ii"
  refine ⟨1 + d, rfl, by omega, by omega, ?_⟩
  have hd : ∀ (i j : Nat) f g, j < i → fs[i]? = some f → fs[j]? = some g → f.2.1 ≠ g.2.1 := fun i j f g hji e1 e2 => hfs9.ne hji e1 e2
  refine for_range (lo := 0) (n := (1 + d).toNat) (fun i σ H' => ∃ (xs : List V) (ms : List Nat) (w1 w5 w6 w7 w8 w9 : Option V), σ = [some (.ref a), w1, some (.ref b), some (.ref l), some (.ref wl), w5, w6, w7, w8, w9] ∧ ScrN K H' a (ns.map V.int) [wl, l, b] ∧ Bag (947 - 20 * i) H' b ∧
    H' l = some (.lst xs) ∧ H' wl = some (.lst ((ms.map fun (m : Nat) => (m : Int)).map V.int)) ∧ ms.length = i ∧ xs.length = fs.length ∧ (∀ (j : Nat) x f, xs[j]? = some x → fs[j]? = some f → EntB K H' [wl, l, b] x (if j ∈ ms then none else some f.2)) ∧ ∀ m ∈ ms, m < fs.length)
    ⟨_, [], _, _, _, _, _, _, rfl, sc9.xb x10, hB10.mono (by decide), x10 _ _ nl hfl9, x10 _ _ nw gw, rfl, List.length_map _, fun j x f e1 e2 => ?_, (by intro m hm; cases hm)⟩ ?_ ?_
  · rw [List.getElem?_map, e2] at e1
    cases e1
    rw [if_neg (by intro z; cases z)]
    refine (hfs9.xb hB9.at_.choose_spec x10).ent (fun q hq => ?_) e2
    rcases List.mem_cons.mp hq with rfl | hq
    · exact ⟨_, x10 _ _ nw gw⟩
    rcases List.mem_cons.mp hq with rfl | hq
    · exact ⟨_, x10 _ _ nl hfl9⟩
    rcases List.mem_cons.mp hq with rfl | hq
    · exact hB10.at_
    · cases hq
  · rintro i σ H11 hi2 ⟨xs, ms, w1', w5, w6, w7, w8, w9, rfl, sc11, hB11, hl11, hw11, hms, hxs, hF, hmf⟩
    have hi3 : i < 2 := by omega
    walk_at "v"; walk_at "v"
    refine ⟨_, _, rfl, .inl ⟨_, SqL.of hl11, rfl⟩, ?_⟩
    refine ⟨b, _, 947 - 20 * i - 1, rfl, hB11.mono (by omega), by omega, ?_, fun q H12 q0 q1 x12 hB12 => ?_⟩
    · rw [hxs]
      exact Nat.lt_of_le_of_lt (show ((fs.length : Int)).natAbs ≤ 5 by omega) (by decide)
    rw [hxs] at q1
    obtain ⟨j, rfl⟩ : ∃ j : Nat, q = (j : Int) := ⟨q.toNat, by omega⟩
    have hl12 := x12 _ _ nl hl11
    have hw12 := x12 _ _ nw hw11
    walk_at "v"
    refine ⟨.inl ⟨rfl, _, SqL.of hw12⟩, ?_⟩
    walk_at "v"
    refine ⟨wl, _, _, rfl, rfl, hw12, ?_, ?_⟩
    · rw [List.length_map, List.length_map, hms]
      exact Nat.lt_of_lt_of_le hi3 (by decide)
    have x13 : Xb wl H12 (upd H12 wl (.lst ((ms.map fun (m : Nat) => (m : Int)).map V.int ++ [.int (j : Int)]))) := Xb.upd Xb.refl
    have gw13 : (upd H12 wl (.lst ((ms.map fun (m : Nat) => (m : Int)).map V.int ++ [.int (j : Int)]))) wl = some (.lst ((ms.map fun (m : Nat) => (m : Int)).map V.int ++ [.int (j : Int)])) := upd_same
    generalize upd H12 wl (.lst ((ms.map fun (m : Nat) => (m : Int)).map V.int ++ [.int (j : Int)])) = H13 at x13 gw13 ⊢
    have hB13 : Bag (947 - 20 * i - 1) H13 b := by
      obtain ⟨L, S, C, e, r⟩ := hB12
      exact ⟨L, S, C, x13 _ _ (Ne.symm nw) e, r⟩
    have hl13 := x13 _ _ nwl hl12
    walk_at "v"; walk_at "v"
    refine ⟨b, 121, 947 - 20 * i - 10, by rw [show (Str.ofString "y") = one 121 from by decide +kernel]; rfl, hB13.mono (by omega), fun z H14 hz x14 hB14 => ?_⟩
    have sc14 := ((sc11.xb x12).xb x13).xb x14
    have hl14 := x14 _ _ nl hl13
    have gw14 := x14 _ _ nw gw13
    refine ⟨by show 2 ≤ sizeLine; decide, fun t2 ht2 => ?_⟩
    have s15 := Same.new (o := .tup [.str z, .str "word"]) ht2
    refine ⟨b, t2, z, 121, 947 - 20 * i - 11, rfl, upd_same, hz, by decide +kernel, (hB14.same s15).mono (by omega), fun x H16 hx x16 hB16 => ?_⟩
    have hl16 := x16 _ _ nl (s15 _ _ hl14)
    have gw16 := x16 _ _ nw (s15 _ _ gw14)
    have sc16 := (sc14.same s15).xb x16
    walk_at "v"; walk_at "v"
    have hjx : j < xs.length := by omega
    refine ⟨l, xs, (j : Int), j, rfl, rfl, hl16, by unfold ixN; rw [if_pos (by omega), if_pos (by omega), Int.toNat_natCast], ?_⟩
    have lists : ∀ q ∈ [wl, l, b], ∃ L, (upd H14 t2 (.tup [.str z, .str "word"])) q = some (.lst L) := fun q hq => by
      rcases List.mem_cons.mp hq with rfl | hq
      · exact ⟨_, s15 _ _ gw14⟩
      rcases List.mem_cons.mp hq with rfl | hq
      · exact ⟨_, s15 _ _ hl14⟩
      rcases List.mem_cons.mp hq with rfl | hq
      · exact (hB14.same s15).at_
      · cases hq
    have nin : ∀ {q : Addr}, q ∉ [wl, l, b] → q ≠ wl ∧ q ≠ l ∧ q ≠ b := fun {q} h => ⟨fun e => h (by rw [e]; simp), fun e => h (by rw [e]; simp), fun e => h (by rw [e]; simp)⟩
    have xx : ∀ q o, q ∉ [wl, l, b] → H11 q = some o → H16 q = some o := fun q o n1 e => x16 _ _ (nin n1).2.2 (s15 _ _ (x14 _ _ (nin n1).2.2 (x13 _ _ (nin n1).1 (x12 _ _ (nin n1).2.2 e))))
    have ex := hx.ent lists
    have x17 : ∀ q o, q ∉ [wl, l, b] → H16 q = some o → (upd H16 l (.lst (xs.set j x))) q = some o := fun q o n1 e => by rw [upd_ne (nin n1).2.1]; exact e
    refine ⟨xs.set j x, ms ++ [j], _, _, _, _, _, _, rfl, sc16.step x17, ?_, upd_same, ?_, ?_, ?_, fun j' y f e1 e2 => ?_, fun m' hm' => ?_⟩
    · obtain ⟨L, S, C, e, r⟩ := hB16.mono (m := 947 - 20 * (i + 1)) (by omega)
      exact ⟨L, S, C, by rw [upd_ne (Ne.symm nl)]; exact e, r⟩
    · rw [upd_ne (Ne.symm nwl), gw16]
      simp
    · rw [List.length_append, hms]; rfl
    · rw [List.length_set]; exact hxs
    · by_cases c : j' = j
      · subst c
        rw [List.getElem?_set_self (by omega)] at e1
        cases e1
        rw [if_pos (List.mem_append_right _ (List.mem_singleton.mpr rfl))]
        exact ex.step x17
      · rw [List.getElem?_set_ne (Ne.symm c)] at e1
        have e3 := ((hF j' y f e1 e2).step xx).step x17
        have e4 : (j' ∈ ms ++ [j]) = (j' ∈ ms) := by simp [c]
        rw [show (if j' ∈ ms ++ [j] then (none : Option (Str × Str)) else some f.2) = (if j' ∈ ms then none else some f.2) from by simp [c]]
        exact e3
    · rcases List.mem_append.mp hm' with h | h
      · exact hmf m' h
      · rw [List.mem_singleton.mp h]; omega
  rintro σ H11 ⟨xs, ms, w1', w5, w6, w7, w8, w9, rfl, sc11, hB11, hl11, hw11, hms, hxs, hF, hmf⟩
  obtain ⟨m0, hm0, hle⟩ := least ms (fun e => by rw [e] at hms; simp at hms; omega)
  walk_at "v"
  refine ⟨l, xs, rfl, .inl (SqL.of hl11), fun l2 hl2 => ?_⟩
  have s12 := Same.new (o := .lst xs) hl2
  refine ⟨.ref l2, .int (m0 : Nat), rfl, says_spoilt upd_same hxs f1 f5 (fun j x f e1 e2 => (hF j x f e1 e2).field.mono s12) hd hm0 hle (hmf m0 hm0), fun H13 s13 => ?_⟩
  walk_at "v"
  refine ⟨wl, ms.map fun (m : Nat) => (m : Int), rfl, SqL.of (s13 _ _ (s12 _ _ hw11)), by rw [List.length_map]; omega, fun m' h1 h2 => ?_⟩
  have em' : m' = (m0 : Int) := by
    obtain ⟨y, hy, e⟩ := List.mem_map.mp h1
    have a1 := hle y hy
    have a2 := h2 _ (List.mem_map.mpr ⟨m0, hm0, rfl⟩)
    omega
  subst em'
  refine ⟨rfl, ?_⟩
  refine ⟨_, rfl, ?_⟩
  refine iteN (fun _ => ?_) (fun h => absurd rfl h)
  have sc13 := (sc11.same s12).same s13
  have hB13 : Bag 900 H13 b := ((hB11.same s12).same s13).mono (by omega)
  clear hF hd hle hm0 hmf hms hxs hl11 hw11 s12 s13 sc11 hB11 h1 h2 hl2 hfs9 hfl9 gw hB9 sc9 x10 hB10
  -- a name twice
  walk_at "v"; walk_at "v"
  refine ⟨b, 3, 899, rfl, hB13, by decide, by decide, fun d' H14 d0' d1' x14 hB14 => ?_⟩
  obtain ⟨w, rfl⟩ : ∃ w : Nat, d' = (w : Int) := ⟨d'.toNat, by omega⟩
  refine ⟨by show 2 ≤ sizeLine; decide, fun t4 ht4 => ?_⟩
  have s15 := Same.new (o := .tup [.int (w : Int), .int 2]) ht4
  refine ⟨b, t4, w, 2, 849, rfl, upd_same, by omega, hB14.same s15, fun l3 H16 fs2 hl3 x16 hB16 hF2 hlen2 _ => ?_⟩
  have nl3 : l3 ≠ b := new_ne (hB14.same s15) hl3
  have sc16 := (((sc13.xb x14).same s15).new hl3).xb x16
  obtain ⟨hfl2, hfs2⟩ := hF2
  have hfs2 : FsAt H16 fs2 := hfs2
  have ll2 : (fs2.map fun f => V.ref f.1).length = fs2.length := List.length_map ..
  walk_at "v"; walk_at "v"
  refine ⟨_, _, rfl, .inl ⟨_, SqL.of hfl2, rfl⟩, ?_⟩
  walk_at "ii"
  refine ⟨b, _, 848, rfl, hB16, by rw [ll2]; omega, ?_, fun d2 H17 e0 e1 x17 hB17 => ?_⟩
  · rw [ll2]
    exact Nat.lt_of_le_of_lt (show ((fs2.length : Int) - 1).natAbs ≤ 5 by omega) (by decide)
  rw [ll2] at e1
  refine addI fun kI ek => ?_
  obtain ⟨kk, rfl⟩ : ∃ kk : Nat, kI = (kk : Int) := ⟨kI.toNat, by omega⟩
  have hk1 : 1 ≤ kk := by omega
  have hk2 : kk < fs2.length := by omega
  have hfl17 := x17 _ _ nl3 hfl2
  have hfs17 := hfs2.xb hB16.at_.choose_spec x17
  walk_at "v"; walk_at "v"; walk_at "v"
  refine ⟨b, (kk : Int), 847, rfl, hB17, by omega, Nat.lt_of_le_of_lt (show ((kk : Int)).natAbs ≤ 5 by omega) (by decide), fun q H18 q0 q1 x18 hB18 => ?_⟩
  obtain ⟨qq, rfl⟩ : ∃ qq : Nat, q = (qq : Int) := ⟨q.toNat, by omega⟩
  have hq : qq < kk := by omega
  obtain ⟨g, eg⟩ : ∃ g, fs2[qq]? = some g := ⟨fs2[qq], List.getElem?_eq_getElem (by omega)⟩
  have hfl18 := x18 _ _ nl3 hfl17
  have hfs18 := hfs17.xb hB17.at_.choose_spec x18
  have eat : atI (fs2.map fun f => V.ref f.1) (qq : Int) = some (.ref g.1) := by
    obtain ⟨x, e1, e2⟩ := atI_of (xs := fs2.map fun f => V.ref f.1) (d := (qq : Int)) (by omega) (by rw [ll2]; omega)
    rw [e1]
    rw [Int.toNat_natCast, List.getElem?_map, eg] at e2
    exact e2.symm
  refine Or.inl ⟨_, _, _, _, rfl, rfl, SqL.of hfl18, eat, ?_⟩
  refine Or.inr (Or.inl ⟨_, _, _, _, rfl, rfl, SqT.of (hfs18 qq g eg).1, rfl, ?_⟩)
  walk_at "v"
  refine ⟨by show 2 ≤ sizeLine; decide, fun l4 hl4 => ?_⟩
  have s19 := Same.new (o := .lst [.str "number", .str "word"]) hl4
  refine ⟨b, 846, hB18.same s19, Or.inl ⟨l4, _, rfl, upd_same, new_ne hB18 hl4, by show 0 < 2; decide, by show 2 ≤ 1000000; decide, fun jj y H20 hy x20 hB20 => ?_⟩⟩
  obtain ⟨kd, rfl, hkd⟩ : ∃ kd : Str, y = .str kd ∧ (kd = "number" ∨ kd = "word") := by
    rcases List.mem_cons.mp (List.mem_of_getElem? hy) with rfl | h
    · exact ⟨_, rfl, .inl rfl⟩
    rcases List.mem_cons.mp h with rfl | h
    · exact ⟨_, rfl, .inr rfl⟩
    · cases h
  refine ⟨by show 2 ≤ sizeLine; decide, fun t5 ht5 => ?_⟩
  have s21 := Same.new (o := .tup [.str g.2.1, .str kd]) ht5
  have hfl21 := s21 _ _ (x20 _ _ nl3 (s19 _ _ hfl18))
  have hfs21 := ((hfs18.same s19).xb (hB18.same s19).at_.choose_spec x20).same s21
  have gt5 : (upd H20 t5 (.tup [.str g.2.1, .str kd])) t5 = some (.tup [.str g.2.1, .str kd]) := upd_same
  have sc21 := ((((sc16.xb x17).xb x18).same s19).xb x20).same s21
  have hB21 := hB20.same s21
  generalize upd H20 t5 (.tup [.str g.2.1, .str kd]) = H21 at hfl21 hfs21 gt5 sc21 hB21 ⊢
  walk_at "v"; walk_at "v"
  refine ⟨l3, _, (kk : Int), kk, rfl, rfl, hfl21, by unfold ixN; rw [if_pos (by omega), if_pos (by rw [ll2]; omega), Int.toNat_natCast], ?_⟩
  have x22 : Xb l3 H21 (upd H21 l3 (.lst ((fs2.map fun f => V.ref f.1).set kk (.ref t5)))) := Xb.upd Xb.refl
  have gl22 : (upd H21 l3 (.lst ((fs2.map fun f => V.ref f.1).set kk (.ref t5)))) l3 = some (.lst ((fs2.map fun f => V.ref f.1).set kk (.ref t5))) := upd_same
  have hfs22 := hfs21.xb hfl21 x22
  have gt22 := x22 _ _ (ne_of gt5 hfl21 (by intro z; cases z)) gt5
  have sc22 := sc21.xb x22
  have hB22 : Bag 846 (upd H21 l3 (.lst ((fs2.map fun f => V.ref f.1).set kk (.ref t5)))) b := by
    obtain ⟨L, S, C, e, r⟩ := hB21
    exact ⟨L, S, C, x22 _ _ (Ne.symm nl3) e, r⟩
  generalize upd H21 l3 (.lst ((fs2.map fun f => V.ref f.1).set kk (.ref t5))) = H22 at x22 gl22 hfs22 gt22 sc22 hB22 ⊢
  walk_at "v"
  refine ⟨l3, _, rfl, .inl (SqL.of gl22), fun l5 hl5 => ?_⟩
  have s23 := Same.new (o := .lst ((fs2.map fun f => V.ref f.1).set kk (.ref t5))) hl5
  refine ⟨.ref l5, .int (kk : Nat), rfl, says_dup (hfs22.same s23) upd_same (s23 _ _ gt22) hkd eg hq hk2 (by omega), fun H24 s24 => ?_⟩
  walk_at "v"
  refine ⟨rfl, ?_⟩
  refine ⟨_, rfl, ?_⟩
  refine iteN (fun _ => ?_) (fun h => absurd rfl h)
  have sc24 := (sc22.same s23).same s24
  have hB24 := (hB22.same s23).same s24
  clear sc22 sc21 sc16 sc13 s23 s24 hB22 hB21 gt22 gl22 hfs22 x22 hl5 gt5 hfl21 hfs21
  -- what is no list of one to five
  walk_at "v"
  refine ⟨by show 2 ≤ sizeLine; decide, fun t6 ht6 => ?_⟩
  have s25 := Same.new (o := .tup [.int 2, .int 3]) ht6
  refine ⟨b, t6, 2, 3, 796, rfl, upd_same, by decide, hB24.same s25, fun l6 H26 fr hl6 x26 hB26 hFr hlr _ => ?_⟩
  have nl6 : l6 ≠ b := new_ne (hB24.same s25) hl6
  have sc26 := (sc24.same s25).xb x26
  obtain ⟨hr6, hfr⟩ := hFr
  have hfr : FsAt H26 fr := hfr
  have lr : (fr.map fun f => V.ref f.1).length = 5 := by rw [List.length_map]; exact hlr
  walk_at "v"; walk_at "v"
  refine ⟨b, 117, 787, by rw [show (Str.ofString "u") = one 117 from by decide +kernel]; rfl, hB26, fun z H27 hz x27 hB27 => ?_⟩
  have hr7 := x27 _ _ nl6 hr6
  have hfr7 := hfr.xb hB26.at_.choose_spec x27
  have sc27 := sc26.xb x27
  refine ⟨by show 2 ≤ sizeLine; decide, fun t7 ht7 => ?_⟩
  have s28 := Same.new (o := .tup [.str z, .str "word"]) ht7
  refine ⟨by show 1 ≤ sizeLine; decide, fun l7 hl7 => ?_⟩
  have s29 := Same.new (o := .lst [.ref t7]) hl7
  have S := Same.trans s28 s29
  refine ⟨l6, l7, _, _, rfl, rfl, S _ _ hr7, upd_same, by rw [lr]; show 6 ≤ sizeLine; decide, fun l8 hl8 => ?_⟩
  have s30 := Same.new (o := .lst ((fr.map fun f => V.ref f.1) ++ [.ref t7])) hl8
  have S := Same.trans S s30
  have gl8 : (upd (upd (upd H27 t7 (.tup [.str z, .str "word"])) l7 (.lst [.ref t7])) l8 (.lst ((fr.map fun f => V.ref f.1) ++ [.ref t7]))) l8 = some (.lst ((fr.map fun f => V.ref f.1) ++ [.ref t7])) := upd_same
  generalize upd (upd (upd H27 t7 (.tup [.str z, .str "word"])) l7 (.lst [.ref t7])) l8 (.lst ((fr.map fun f => V.ref f.1) ++ [.ref t7])) = H30 at S gl8 ⊢
  have hr30 := S _ _ hr7
  have hfr30 := hfr7.same S
  have sc30 := sc27.same S
  have l8n : ((fr.map fun f => V.ref f.1) ++ [V.ref t7]).length = 6 := by rw [List.length_append, lr]; rfl
  obtain ⟨f0, ef0⟩ : ∃ f, fr[0]? = some f := ⟨fr[0], List.getElem?_eq_getElem (by omega)⟩
  obtain ⟨f4, ef4⟩ : ∃ f, fr[4]? = some f := ⟨fr[4], List.getElem?_eq_getElem (by omega)⟩
  refine ⟨by show 0 ≤ sizeLine; decide, fun q1 hq1 => ?_⟩
  have s1 := Same.new (o := .lst []) hq1
  have g1 : (upd H30 q1 (.lst [])) q1 = some (.lst []) := upd_same
  generalize upd H30 q1 (.lst []) = H31 at s1 g1 ⊢
  walk_at "v"; walk_at "v"; walk_at "v"
  refine ⟨l8, l8, _, _, rfl, rfl, s1 _ _ gl8, s1 _ _ gl8, by rw [l8n]; decide, fun q2 hq2 => ?_⟩
  have s2 := Same.new (o := .lst (((fr.map fun f => V.ref f.1) ++ [V.ref t7]) ++ ((fr.map fun f => V.ref f.1) ++ [V.ref t7]))) hq2
  have g2 : (upd H31 q2 (.lst (((fr.map fun f => V.ref f.1) ++ [V.ref t7]) ++ ((fr.map fun f => V.ref f.1) ++ [V.ref t7])))) q2 = some (.lst (((fr.map fun f => V.ref f.1) ++ [V.ref t7]) ++ ((fr.map fun f => V.ref f.1) ++ [V.ref t7]))) := upd_same
  generalize upd H31 q2 (.lst (((fr.map fun f => V.ref f.1) ++ [V.ref t7]) ++ ((fr.map fun f => V.ref f.1) ++ [V.ref t7]))) = H32 at s2 g2 ⊢
  walk_at "v"
  refine ⟨l6, _, rfl, SqL.of (s2 _ _ (s1 _ _ hr30)), fun q3 o3 hq3 hc3 hd3 => ?_⟩
  have s3 := Same.new (o := .frz o3 (.tup (fr.map fun f => V.ref f.1))) hq3
  have g3 : (upd H32 q3 (.frz o3 (.tup (fr.map fun f => V.ref f.1)))) q3 = some (.frz o3 (.tup (fr.map fun f => V.ref f.1))) := upd_same
  generalize upd H32 q3 (.frz o3 (.tup (fr.map fun f => V.ref f.1))) = H33 at s3 g3 ⊢
  have S33 := Same.trans (Same.trans s1 s2) s3
  walk_at "v"
  refine ⟨l6, fr.map (·.1), fr.map fun f => ((.inr f.2.1 : Key), V.str f.2.2), rfl, SqL.of (by rw [List.map_map]; exact S33 _ _ hr30), paired_fs fr (fun f hf => by
    obtain ⟨i, hi, e⟩ := List.getElem_of_mem hf
    exact (hfr30.same S33 i f (by rw [List.getElem?_eq_getElem hi, e])).1), fun q4 hq4 => ?_⟩
  have s4 := Same.new (o := .dK (mergeK [] (fr.map fun f => ((.inr f.2.1 : Key), V.str f.2.2)))) hq4
  have g4 : (upd H33 q4 (.dK (mergeK [] (fr.map fun f => ((.inr f.2.1 : Key), V.str f.2.2))))) q4 = some (.dK (mergeK [] (fr.map fun f => ((.inr f.2.1 : Key), V.str f.2.2)))) := upd_same
  generalize upd H33 q4 (.dK (mergeK [] (fr.map fun f => ((.inr f.2.1 : Key), V.str f.2.2)))) = H34 at s4 g4 ⊢
  have S34 := Same.trans S33 s4
  have eat : atI ((fr.map fun f => V.ref f.1) ++ [V.ref t7]) 0 = some (.ref f0.1) := by
    obtain ⟨x, e1, e2⟩ := atI_of (xs := (fr.map fun f => V.ref f.1) ++ [V.ref t7]) (d := 0) (by omega) (by rw [l8n]; decide)
    rw [e1]
    rw [show (0 : Int).toNat = 0 from rfl, List.getElem?_append_left (by rw [lr]; decide), List.getElem?_map, ef0] at e2
    exact e2.symm
  walk_at "v"
  refine Or.inl ⟨_, _, _, _, rfl, rfl, SqL.of (S34 _ _ gl8), eat, ?_⟩
  refine ⟨by show 10 ≤ sizeLine; decide, fun q5 hq5 => ?_⟩
  have s5 := Same.new (o := .lst [.ref q1, .ref l8, .ref q2, .ref q3, .ref q4, .non, .int 0, .bl true, .str "number a", .ref f0.1]) hq5
  have g5 : (upd H34 q5 (.lst [.ref q1, .ref l8, .ref q2, .ref q3, .ref q4, .non, .int 0, .bl true, .str "number a", .ref f0.1])) q5 = some (.lst [.ref q1, .ref l8, .ref q2, .ref q3, .ref q4, .non, .int 0, .bl true, .str "number a", .ref f0.1]) := upd_same
  generalize upd H34 q5 (.lst [.ref q1, .ref l8, .ref q2, .ref q3, .ref q4, .non, .int 0, .bl true, .str "number a", .ref f0.1]) = H35 at s5 g5 ⊢
  have S35 := Same.trans S34 s5
  have h1 := s5 _ _ (s4 _ _ (s3 _ _ (s2 _ _ g1)))
  have h2 := s5 _ _ (s4 _ _ (s3 _ _ g2))
  have h3 := s5 _ _ (s4 _ _ g3)
  have h4 := s5 _ _ g4
  have h8 := S35 _ _ gl8
  have hbad : ∀ x ∈ [V.ref q1, .ref l8, .ref q2, .ref q3, .ref q4, .non, .int 0, .bl true, .str "number a", .ref f0.1], NoLay K H35 x := by
    intro x hx
    rcases List.mem_cons.mp hx with rfl | hx
    · exact .inr ⟨q1, _, rfl, SqL.of h1, .base (.lst h1), .inl rfl⟩
    rcases List.mem_cons.mp hx with rfl | hx
    · exact .inr ⟨l8, _, rfl, SqL.of h8, .base (.lst h8), .inr (by rw [l8n]; decide)⟩
    rcases List.mem_cons.mp hx with rfl | hx
    · exact .inr ⟨q2, _, rfl, SqL.of h2, .base (.lst h2), .inr (by rw [List.length_append, l8n]; decide)⟩
    rcases List.mem_cons.mp hx with rfl | hx
    · exact .inl ⟨_, .fTuple h3, by decide⟩
    rcases List.mem_cons.mp hx with rfl | hx
    · exact .inl ⟨_, .base (.dK h4), by decide⟩
    rcases List.mem_cons.mp hx with rfl | hx
    · exact .inl ⟨_, .base .non, by decide⟩
    rcases List.mem_cons.mp hx with rfl | hx
    · exact .inl ⟨_, ty_int, by decide⟩
    rcases List.mem_cons.mp hx with rfl | hx
    · exact .inl ⟨_, .base (.bl _), by decide⟩
    rcases List.mem_cons.mp hx with rfl | hx
    · exact .inl ⟨_, .base (.str _), by decide⟩
    rcases List.mem_cons.mp hx with rfl | hx
    · exact .inl ⟨_, ty_tup (hfr30.same S35 0 f0 ef0).1, by decide⟩
    cases hx
  have hr35 := S35 _ _ hr30
  have hfr35 := hfr30.same S35
  have sc35 := sc30.same S35
  refine ⟨q5, rfl, ⟨_, SqL.of g5⟩, ?_⟩
  refine for_list (K := K) (a := q5) (xs := [V.ref q1, .ref l8, .ref q2, .ref q3, .ref q4, .non, .int 0, .bl true, .str "number a", .ref f0.1]) (fun i σ H' => Same H35 H' ∧ ∃ w1 w2 w3 w4 w5 w6 w8 w9 : Option V, σ = [some (.ref a), w1, w2, w3, w4, w5, w6, some (.ref l6), w8, w9])
    ⟨Same.refl H35, _, _, _, _, _, _, _, _, rfl⟩ (fun i σ H' _ z => SqL.of (z.1 _ _ g5)) ?_ ?_
  · rintro j x σ H36 hj ⟨s36, w1, w2, w3, w4, w5, w6, w8, w9, rfl⟩
    walk_at "v"
    refine ⟨x, .int (-1), rfl, .inl ⟨(hbad x (List.mem_of_getElem? hj)).mono s36, rfl⟩, fun H37 s37 => ?_⟩
    refine ⟨_, rfl, ?_⟩
    refine ⟨rfl, ?_⟩
    refine ⟨_, rfl, ?_⟩
    refine iteN (fun _ => ?_) (fun h => absurd rfl h)
    exact ⟨Same.trans s36 s37, _, _, _, _, _, _, _, _, rfl⟩
  · rintro σ H36 ⟨s36, w1, w2, w3, w4, w5, w6, w8, w9, rfl⟩
    walk_at "v"
    refine ⟨.ref l6, .non, rfl, says_ok (hfr35.same s36) (s36 _ _ hr35) (by omega) (by omega), fun H37 s37 => ?_⟩
    refine ⟨rfl, ?_⟩
    refine ⟨_, rfl, ?_⟩
    refine iteN (fun _ => ?_) (fun h => absurd rfl h)
    have S37 := Same.trans s36 s37
    have eat4 : atI (fr.map fun f => V.ref f.1) 4 = some (.ref f4.1) := by
      obtain ⟨x, e1, e2⟩ := atI_of (xs := fr.map fun f => V.ref f.1) (d := 4) (by omega) (by rw [lr]; decide)
      rw [e1]
      rw [show (4 : Int).toNat = 4 from rfl, List.getElem?_map, ef4] at e2
      exact e2.symm
    walk_at "v"
    refine Or.inl ⟨_, _, _, _, rfl, rfl, SqL.of (S37 _ _ hr35), eat4, ?_⟩
    refine ⟨by show 1 ≤ sizeLine; decide, fun q6 hq6 => ?_⟩
    have s38 := Same.new (o := .lst [.ref f4.1]) hq6
    refine ⟨.ref q6, .non, rfl, says_one ((hfr35.same S37).same s38) ef4 upd_same, fun H39 s39 => ?_⟩
    refine ⟨rfl, ?_⟩
    refine ⟨_, rfl, ?_⟩
    refine iteN (fun _ => ?_) (fun h => absurd rfl h)
    exact ⟨(sc35.same (Same.trans S37 (Same.trans s38 s39))).1, _, _, _, _, _, _, _, _, _, rfl⟩
end Md

set_option Elab.async false
set_option linter.all false
set_option maxRecDepth 100000
set_option maxHeartbeats 8000000
namespace Md
open PySem PySem.Spec PyProof.Rows PySem.Calls L2
/-! ### the text of the row, def by def -/
def top (i : Nat) : Stmt := PySem.Challenge.pw_mendrounds_k06_layouts_refused.main.body.getD i (.Pass ⟨0, 0, 0, 0⟩)
abbrev s_BadLayout___init__ : Stmt := inClass (top 3) 0
theorem sc_BadLayout___init__ : FnScope ["self", "at"] ["self", "at"] (defScope s_BadLayout___init__) := ⟨rfl, rfl, rfl, by decide +kernel, rfl, by decide +kernel, by decide +kernel⟩
abbrev s_is_word : Stmt := top 8
theorem sc_is_word : FnScope n_is_word ["thing"] (defScope s_is_word) := ⟨rfl, rfl, rfl, by decide +kernel, rfl, by decide +kernel, by decide +kernel⟩
abbrev s_is_name : Stmt := top 13
theorem sc_is_name : FnScope n_is_name ["thing"] (defScope s_is_name) := ⟨rfl, rfl, rfl, by decide +kernel, rfl, by decide +kernel, by decide +kernel⟩
abbrev s__is_field : Stmt := top 14
theorem sc__is_field : FnScope n__is_field ["thing"] (defScope s__is_field) := ⟨rfl, rfl, rfl, by decide +kernel, rfl, by decide +kernel, by decide +kernel⟩
abbrev s_Layout___init__ : Stmt := inClass (top 15) 1
theorem sc_Layout___init__ : FnScope n_Layout___init__ ["self", "fields"] (defScope s_Layout___init__) := ⟨rfl, rfl, rfl, by decide +kernel, rfl, by decide +kernel, by decide +kernel⟩
abbrev s__law_bag : Stmt := top 17
theorem sc__law_bag : FnScope ["_law_script", "_law_at_here", "_law_cell", "_law_large"] ["_law_script", "_law_at_here"] (defScope s__law_bag) := ⟨rfl, rfl, rfl, by decide +kernel, rfl, by decide +kernel, by decide +kernel⟩
abbrev s__law_take : Stmt := top 18
theorem sc__law_take : FnScope n__law_take ["_law_bag_here", "_law_many"] (defScope s__law_take) := ⟨rfl, rfl, rfl, by decide +kernel, rfl, by decide +kernel, by decide +kernel⟩
abbrev s__law_of : Stmt := top 19
theorem sc__law_of : FnScope n__law_of ["_law_bag_here", "_law_some"] (defScope s__law_of) := ⟨rfl, rfl, rfl, by decide +kernel, rfl, by decide +kernel, by decide +kernel⟩
abbrev s__law_name : Stmt := top 20
theorem sc__law_name : FnScope n__law_name ["_law_bag_here", "_law_mark"] (defScope s__law_name) := ⟨rfl, rfl, rfl, by decide +kernel, rfl, by decide +kernel, by decide +kernel⟩
abbrev s__law_fields : Stmt := top 21
theorem sc__law_fields : FnScope n__law_fields ["_law_bag_here", "_law_counts_here"] (defScope s__law_fields) := ⟨rfl, rfl, rfl, by decide +kernel, rfl, by decide +kernel, by decide +kernel⟩
abbrev s__law_counts : Stmt := top 22
theorem sc__law_counts : FnScope n__law_counts ["_law_bag_here"] (defScope s__law_counts) := ⟨rfl, rfl, rfl, by decide +kernel, rfl, by decide +kernel, by decide +kernel⟩
abbrev s__law_at : Stmt := top 23
theorem sc__law_at : FnScope n__law_at ["_law_thing"] (defScope s__law_at) := ⟨rfl, rfl, rfl, by decide +kernel, rfl, by decide +kernel, by decide +kernel⟩
abbrev s__law_spoilt : Stmt := top 24
theorem sc__law_spoilt : FnScope n__law_spoilt ["_law_bag_here", "_law_field"] (defScope s__law_spoilt) := ⟨rfl, rfl, rfl, by decide +kernel, rfl, by decide +kernel, by decide +kernel⟩
abbrev s_law : Stmt := top 25
theorem sc_law : FnScope n_law ["_law_script"] (defScope s_law) := ⟨rfl, rfl, rfl, by decide +kernel, rfl, by decide +kernel, by decide +kernel⟩
section
variable {P : Program} {w : World} {K : PySem.W.Frag} {mg : Str → Option Value} {base : Heap} {A : Ads} {f : Addr} {fd : FuncData}
theorem ok_BadLayout___init__ (F : FunD K "__init__" "BadLayout.__init__" (defArgs s_BadLayout___init__) (defBody s_BadLayout___init__) (defScope s_BadLayout___init__) [] [] f fd) (T : OexC K A.cBadLayout) (hn : PySem.W.findIn K (.ref A.cBadLayout) "at" = some none) : FnOk P w K mg base (L2N.CX P w) 1 f fd ["self", "at"] (sp_BadLayout___init__ K A) := by
  refine F.ok (CX := (L2N.CX P w)) sc_BadLayout___init__ (fun vs H Q E h => len_xi h) (fun cdv A' outer s H vs Q E hr h => ⟨t_xi K "at", ?_, pure_xi T hn h⟩)
  exact (pss_one (ps_ost (pv 0) (pv 1)))
theorem ok_is_word (F : FunD K "is_word" "is_word" (defArgs s_is_word) (defBody s_is_word) (defScope s_is_word) [] [] f fd) (fr_all : mg "all" = none) (fr_isinstance : mg "isinstance" = none) (fr_len : mg "len" = none) (fr_str : mg "str" = none) (gm_LETTERS : ∃ t, mg "LETTERS" = some (.str "abcdefghijklmnopqrstuvwxyz" t)) (gm_LONGEST_WORD : ∃ t, mg "LONGEST_WORD" = some (.int 8 t)) : FnOk P w K mg base (L2N.CX P w) 1 f fd ["thing"] (sp_is_word K A) := by
  refine F.ok (CX := (L2N.CX P w)) sc_is_word (fun vs H Q E h => len_is_word h) (fun cdv A' outer s H vs Q E hr h => ⟨t_is_word K A E, ?_, pure_is_word h⟩)
  exact (pss_cons (ps_if (PW.pt (pw_or (pt_not (pt_val (pe_callB call_isi rfl fr_isinstance boot_isinstance (pa_cons (pv 0) (pa_cons (pe_bltn rfl fr_str boot_str rfl) pa_nil))))) (pw_or1 (pt_not (pt_chain op_le op_le pe_int (pe_callB call_len rfl fr_len boot_len (pa_cons (pv 0) pa_nil)) (pe_gc rfl (gInt gm_LONGEST_WORD))))))) (pss_one (ps_ret pe_bl)) pss_nil)
    (pss_one (ps_ret (pe_callB (cr_all rfl) rfl fr_all boot_all (pa_cons (pe_lc (own := [("letter", 1)]) (g := (gName 1)) (tt := tYes) rfl sc_is_word.nd (pi_str (pv 0)) (blkOk_by (own := [("letter", 1)]) (N := ["thing", "letter"]) (sc := defScope s_is_word) (by decide +kernel)) (fun _ _ _ _ _ => (pg_name (i := 1) sc_is_word.nd rfl (by first | exact Or.inl rfl | exact Or.inr rfl))) (fun _ _ _ _ _ => pts_nil) (fun _ _ _ _ _ => (pe_cmpR op_inS (pv 1) (pe_gc rfl (gStr gm_LETTERS)) (by with_unfolding_all rfl)))) pa_nil)))))
theorem ok_is_name (F : FunD K "is_name" "is_name" (defArgs s_is_name) (defBody s_is_name) (defScope s_is_name) [] [] f fd) (gm_RESERVED : mg "RESERVED" = some (.ref A.gRESERVED)) (tb_RESERVED : ∀ H, SqT K H A.gRESERVED kRESERVED) (c_is_word : Cl P w K mg base 1 "is_word" (sp_is_word K A) []) : FnOk P w K mg base (L2N.CX P w) 2 f fd ["thing"] (sp_is_name K A) := by
  refine F.ok (CX := (L2N.CX P w)) sc_is_name (fun vs H Q E h => len_is_name h) (fun cdv A' outer s H vs Q E hr h => ⟨t_is_name K A E, ?_, pure_is_name tb_RESERVED h⟩)
  exact (pss_one (ps_ret (pe_and (pe_cl c_is_word hr (by decide) rfl passN (pa_cons (pv 0) pa_nil)) (pe_one (pe_cmpR op_notIn_seq (pv 0) (pe_glob rfl gm_RESERVED rfl) (by with_unfolding_all rfl))))))
theorem ok__is_field (F : FunD K "_is_field" "_is_field" (defArgs s__is_field) (defBody s__is_field) (defScope s__is_field) [] [] f fd) (fr_isinstance : mg "isinstance" = none) (fr_len : mg "len" = none) (fr_tuple : mg "tuple" = none) (gm_NUMBER : ∃ t, mg "NUMBER" = some (.str "number" t)) (gm_WORD : ∃ t, mg "WORD" = some (.str "word" t)) (c_is_name : Cl P w K mg base 2 "is_name" (sp_is_name K A) []) : FnOk P w K mg base (L2N.CX P w) 3 f fd ["thing"] (sp__is_field K A) := by
  refine F.ok (CX := (L2N.CX P w)) sc__is_field (fun vs H Q E h => len__is_field h) (fun cdv A' outer s H vs Q E hr h => ⟨t__is_field K A E, ?_, pure__is_field h⟩)
  exact (pss_one (ps_ret (pe_and (pe_callB call_isi rfl fr_isinstance boot_isinstance (pa_cons (pv 0) (pa_cons (pe_bltn rfl fr_tuple boot_tuple rfl) pa_nil))) (pe_and (pe_cmpR op_eq (pe_callB call_len rfl fr_len boot_len (pa_cons (pv 0) pa_nil)) pe_int (nomark _)) (pe_and (pe_cl c_is_name hr (by decide) rfl passN (pa_cons (pe_ix ix_seq (pv 0) pe_int (fun _ _ => rfl)) pa_nil)) (pe_one (pe_cmpR (op_inT2 (hu65 hr)) (pe_ix ix_seq (pv 0) pe_int (fun _ _ => rfl)) (pe_tup (pa_cons (pe_gc rfl (gStr gm_NUMBER)) (pa_cons (pe_gc rfl (gStr gm_WORD)) pa_nil))) (by with_unfolding_all rfl))))))))
theorem ok_Layout___init__ (F : FunD K "__init__" "Layout.__init__" (defArgs s_Layout___init__) (defBody s_Layout___init__) (defScope s_Layout___init__) [] [] f fd) (cc_Layout_MOST : CCon K A.cLayout "MOST" (.int 5)) (fr_enumerate : mg "enumerate" = none) (fr_isinstance : mg "isinstance" = none) (fr_len : mg "len" = none) (fr_list : mg "list" = none) (fr_tuple : mg "tuple" = none) (gm_Layout : mg "Layout" = some (.ref A.cLayout)) (cl_Layout : Cls K A.cLayout) (na_Layout__kinds : NoAttr K A.cLayout "_kinds") (na_Layout_names : NoAttr K A.cLayout "names") (k_BadLayout : Kx P w K mg base 1 "BadLayout" A.cBadLayout (sp_BadLayout___init__ K A)) (c__is_field : Cl P w K mg base 3 "_is_field" (sp__is_field K A) []) : FnOk P w K mg base (L2N.CX P w) 4 f fd ["self", "fields"] (sp_Layout___init__ K A) := by
  refine F.ok (CX := (L2N.CX P w)) sc_Layout___init__ (fun vs H Q E h => len_Layout___init__ h) (fun cdv A' outer s H vs Q E hr h => ⟨t_Layout___init__ K A E, ?_, pure_Layout___init__ cl_Layout na_Layout__kinds na_Layout_names h⟩)
  exact (pss_cons (ps_if (PW.pt (pw_or (pt_not (pt_val (pe_callB call_isi rfl fr_isinstance boot_isinstance (pa_cons (pv 1) (pa_cons (pe_bltn rfl fr_list boot_list rfl) pa_nil))))) (pw_or1 (pt_not (pt_chain op_le op_le pe_int (pe_callB call_len rfl fr_len boot_len (pa_cons (pv 1) pa_nil)) (pe_ccon cc_Layout_MOST (pe_glob rfl gm_Layout rfl))))))) (pss_one (L2N.ps_raise rfl (L2N.takes_of rfl rfl rfl rfl) (pmk_cl k_BadLayout hr (by decide) rfl (pa_cons (pe_un un_neg pe_int) pa_nil)))) pss_nil)
    (pss_cons (ps_set (i := 2) sc_Layout___init__.nd rfl (by first | exact Or.inl rfl | exact Or.inr rfl) (pe_lst pa_nil))
    (pss_cons (ps_for (passes_of rfl) rfl (pi_enum (by rfl) fr_enumerate (pa_cons (pv 1) pa_nil)) (pg_tup rfl (pgs_cons (pg_name (i := 3) sc_Layout___init__.nd rfl (by first | exact Or.inl rfl | exact Or.inr rfl)) (pgs_cons (pg_name (i := 4) sc_Layout___init__.nd rfl (by first | exact Or.inl rfl | exact Or.inr rfl)) pgs_nil))) (pss_cons (ps_if (PW.pt (pw_or (pt_not (pt_val (pe_cl c__is_field hr (by decide) rfl passN (pa_cons (pv 4) pa_nil)))) (pw_or1 (pt_cmpR op_in_seq (pe_ix ix_seq (pv 4) pe_int (fun _ _ => rfl)) (pv 2) (by with_unfolding_all rfl))))) (pss_one (L2N.ps_raise rfl (L2N.takes_of rfl rfl rfl rfl) (pmk_cl k_BadLayout hr (by decide) rfl (pa_cons (pv 3) pa_nil)))) pss_nil)
    (pss_one (ps_expr (pe_bm PySem.F.plainAttrs_list PySem.F.slot_list_append PySem.F.type_list_append mt_append (pv 2) (pa_cons (pe_ix ix_seq (pv 4) pe_int (fun _ _ => rfl)) pa_nil))))))
    (pss_cons (ps_fld (pv 0) (pe_callTy call_tupF rfl fr_tuple boot_tuple (pa_cons (pv 2) pa_nil)) rfl)
    (pss_one (ps_fld (pv 0) (pe_callTy call_tupF rfl fr_tuple boot_tuple (pa_cons (pe_lc (own := [("field", 4)]) (g := (gName 4)) (tt := tYes) rfl sc_Layout___init__.nd (pi_list (pv 1)) (blkOk_by (own := [("field", 4)]) (N := ["self", "fields", "names", "at", "field"]) (sc := defScope s_Layout___init__) (by decide +kernel)) (fun _ _ _ _ _ => (pg_name (i := 4) sc_Layout___init__.nd rfl (by first | exact Or.inl rfl | exact Or.inr rfl))) (fun _ _ _ _ _ => pts_nil) (fun _ _ _ _ _ => (pe_ix ix_seq (pv 4) pe_int (fun _ _ => rfl)))) pa_nil)) rfl))))))
theorem ok__law_bag (F : FunD K "_law_bag" "_law_bag" (defArgs s__law_bag) (defBody s__law_bag) (defScope s__law_bag) [] [] f fd) (fr_abs : mg "abs" = none) (fr_int : mg "int" = none) (fr_len : mg "len" = none) : FnOk P w K mg base (L2N.CX P w) 1 f fd ["_law_script", "_law_at_here"] (sp__law_bag K A) := by
  refine F.ok (CX := (L2N.CX P w)) sc__law_bag (fun vs H Q E h => len__law_bag h) (fun cdv A' outer s H vs Q E hr h => ⟨t__law_bag K A E, ?_, pure__law_bag h⟩)
  exact (pss_cons (ps_set (i := 2) sc__law_bag.nd rfl (by first | exact Or.inl rfl | exact Or.inr rfl) (pe_ifExp (pt_cmpR op_lt (pv 1) (pe_callB call_len rfl fr_len boot_len (pa_cons (pv 0) pa_nil)) (nomark _)) (pe_ix ix_seq (pv 0) (pv 1) (fun _ _ => rfl)) pe_int))
    (pss_cons (ps_set (i := 3) sc__law_bag.nd rfl (by first | exact Or.inl rfl | exact Or.inr rfl) (pe_ifExp (pt_cmpR op_ge (pe_callB call_abs rfl fr_abs boot_abs (pa_cons (pv 2) pa_nil)) (pe_op op_pow pe_int pe_int) (nomark _)) (pe_callB call_abs rfl fr_abs boot_abs (pa_cons (pv 2) pa_nil)) pe_int))
    (pss_one (ps_ret (pe_lst (pa_cons (pv 3) (pa_cons (pe_op op_add (pe_op op_add (pe_op op_mulW (pe_op op_mod (pe_callTy call_int1 rfl fr_int boot_int (pa_cons (pv 2) pa_nil)) pe_int) pe_int) (pe_op op_mulW pe_int (pv 1))) pe_int) (pa_cons pe_int pa_nil))))))))
theorem ok__law_take (F : FunD K "_law_take" "_law_take" (defArgs s__law_take) (defBody s__law_take) (defScope s__law_take) [] [] f fd) (fr_int : mg "int" = none) : FnOk P w K mg base (L2N.CX P w) 1 f fd ["_law_bag_here", "_law_many"] (sp__law_take K A) := by
  refine F.ok (CX := (L2N.CX P w)) sc__law_take (fun vs H Q E h => len__law_take h) (fun cdv A' outer s H vs Q E hr h => ⟨t__law_take K A E, ?_, pure__law_take h⟩)
  exact (pss_cons (ps_if (pt_cmpR op_gt (pe_ix ix_seq (pv 0) pe_int (fun _ _ => rfl)) pe_int (nomark _)) (pss_cons (ps_set (i := 3) sc__law_take.nd rfl (by first | exact Or.inl rfl | exact Or.inr rfl) (pe_op op_mod (pe_callTy call_int1 rfl fr_int boot_int (pa_cons (pe_ix ix_seq (pv 0) pe_int (fun _ _ => rfl)) pa_nil)) (pv 1)))
    (pss_cons (ps_asg (pe_op op_fdivW (pe_ix ix_seq (pv 0) pe_int (fun _ _ => rfl)) (pv 1)) (pg_sub (pv 0) pe_int set_list))
    (pss_one (ps_ret (pv 3))))) pss_nil)
    (pss_cons (ps_asg (pe_op op_add (pe_ix ix_seq (pv 0) pe_int (fun _ _ => rfl)) pe_int) (pg_sub (pv 0) pe_int set_list))
    (pss_cons (ps_set (i := 2) sc__law_take.nd rfl (by first | exact Or.inl rfl | exact Or.inr rfl) (pe_op op_mod (pe_callTy call_int1 rfl fr_int boot_int (pa_cons (pe_op op_pow (pe_op op_add (pe_ix ix_seq (pv 0) pe_int (fun _ _ => rfl)) (pe_op op_mulW pe_int (pe_ix ix_seq (pv 0) pe_int (fun _ _ => rfl)))) pe_int) pa_nil)) pe_int))
    (pss_cons (ps_set (i := 2) sc__law_take.nd rfl (by first | exact Or.inl rfl | exact Or.inr rfl) (pe_op op_mod (pe_callTy call_int1 rfl fr_int boot_int (pa_cons (pe_op op_pow (pe_op op_add (pv 2) (pe_op op_mulW pe_int (pe_ix ix_seq (pv 0) pe_int (fun _ _ => rfl)))) pe_int) pa_nil)) pe_int))
    (pss_one (ps_ret (pe_op op_mod (pe_callTy call_int1 rfl fr_int boot_int (pa_cons (pe_op op_fdivW (pv 2) pe_int) pa_nil)) (pv 1))))))))
theorem ok__law_of (F : FunD K "_law_of" "_law_of" (defArgs s__law_of) (defBody s__law_of) (defScope s__law_of) [] [] f fd) (fr_len : mg "len" = none) (c__law_take : Cl P w K mg base 1 "_law_take" (sp__law_take K A) []) : FnOk P w K mg base (L2N.CX P w) 2 f fd ["_law_bag_here", "_law_some"] (sp__law_of K A) := by
  refine F.ok (CX := (L2N.CX P w)) sc__law_of (fun vs H Q E h => len__law_of h) (fun cdv A' outer s H vs Q E hr h => ⟨t__law_of K A E, ?_, pure__law_of h⟩)
  exact (pss_one (ps_ret (pe_ix ix_seq (pv 1) (pe_cl c__law_take hr (by decide) rfl passN (pa_cons (pv 0) (pa_cons (pe_callB call_len rfl fr_len boot_len (pa_cons (pv 1) pa_nil)) pa_nil))) (fun _ _ => rfl))))
theorem ok__law_name (F : FunD K "_law_name" "_law_name" (defArgs s__law_name) (defBody s__law_name) (defScope s__law_name) [] [] f fd) (fr_len : mg "len" = none) (fr_range : mg "range" = none) (c__law_take : Cl P w K mg base 1 "_law_take" (sp__law_take K A) []) (c__law_of : Cl P w K mg base 2 "_law_of" (sp__law_of K A) []) : FnOk P w K mg base (L2N.CX P w) 3 f fd ["_law_bag_here", "_law_mark"] (sp__law_name K A) := by
  refine F.ok (CX := (L2N.CX P w)) sc__law_name (fun vs H Q E h => len__law_name h) (fun cdv A' outer s H vs Q E hr h => ⟨t__law_name K A E, ?_, pure__law_name h⟩)
  exact (pss_cons (ps_setLc (i := 2) (own := [("_law_turn", 4)]) (g := (gName 4)) (tt := tYes) rfl sc__law_name.nd rfl rfl (sw_true rfl rfl rfl (by decide +kernel)) (pi_range1 rfl fr_range (pa_cons (pe_cl c__law_take hr (by decide) rfl passN (pa_cons (pv 0) (pa_cons pe_int pa_nil))) pa_nil)) (blkOk_by (own := [("_law_turn", 4)]) (N := ["_law_bag_here", "_law_mark", "_law_letters", "_law_at_here", "_law_turn"]) (sc := defScope s__law_name) (by decide +kernel)) (fun _ _ _ _ _ => (pg_name (i := 4) sc__law_name.nd rfl (by first | exact Or.inl rfl | exact Or.inr rfl))) (fun _ _ _ _ _ => pts_nil) (fun _ _ _ _ _ => (pe_cl c__law_of hr (by decide) rfl passN (pa_cons (pv 0) (pa_cons pe_str pa_nil)))))
    (pss_cons (ps_set (i := 3) sc__law_name.nd rfl (by first | exact Or.inl rfl | exact Or.inr rfl) (pe_cl c__law_take hr (by decide) rfl passN (pa_cons (pv 0) (pa_cons (pe_op op_add (pe_callB call_len rfl fr_len boot_len (pa_cons (pv 2) pa_nil)) pe_int) pa_nil))))
    (pss_one (ps_ret (pe_op op_add_str (pe_op op_add_str (pe_join pe_str (pe_slice sl_list (pv 2) po_none (po_some (pv 3)))) (pv 1)) (pe_join pe_str (pe_slice sl_list (pv 2) (po_some (pv 3)) po_none)))))))
theorem ok__law_fields (F : FunD K "_law_fields" "_law_fields" (defArgs s__law_fields) (defBody s__law_fields) (defScope s__law_fields) [] [] f fd) (fr_len : mg "len" = none) (fr_range : mg "range" = none) (c__law_take : Cl P w K mg base 1 "_law_take" (sp__law_take K A) []) (c__law_name : Cl P w K mg base 3 "_law_name" (sp__law_name K A) []) : FnOk P w K mg base (L2N.CX P w) 4 f fd ["_law_bag_here", "_law_counts_here"] (sp__law_fields K A) := by
  refine F.ok (CX := (L2N.CX P w)) sc__law_fields (fun vs H Q E h => len__law_fields h) (fun cdv A' outer s H vs Q E hr h => ⟨t__law_fields K A E, ?_, pure__law_fields h⟩)
  exact (pss_cons (ps_par (i := 3) (j := 4) rfl sc__law_fields.nd rfl rfl (by decide) rfl rfl (pa_cons (pe_op op_cat (pe_op op_rep (pe_lst (pa_cons pe_str pa_nil)) (pe_ix ix_seq (pv 1) pe_int (fun _ _ => rfl))) (pe_op op_rep (pe_lst (pa_cons pe_str pa_nil)) (pe_ix ix_seq (pv 1) pe_int (fun _ _ => rfl)))) (pa_cons (pe_lst pa_nil) pa_nil)) rfl)
    (pss_cons (ps_for (passes_of rfl) rfl (pi_range1 rfl fr_range (pa_cons (pe_op op_add (pe_ix ix_seq (pv 1) pe_int (fun _ _ => rfl)) (pe_ix ix_seq (pv 1) pe_int (fun _ _ => rfl))) pa_nil)) (pg_name (i := 2) sc__law_fields.nd rfl (by first | exact Or.inl rfl | exact Or.inr rfl)) (pss_one (ps_expr (pe_bm PySem.F.plainAttrs_list PySem.F.slot_list_append PySem.F.type_list_append mt_append (pv 4) (pa_cons (pe_tup (pa_cons (pe_cl c__law_name hr (by decide) rfl passN (pa_cons (pv 0) (pa_cons (pe_ix ix_seq pe_str (pv 2) (fun _ _ => rfl)) pa_nil))) (pa_cons (pe_bm PySem.F.plainAttrs_list PySem.F.slot_list_pop PySem.F.type_list_pop mt_popAt (pv 3) (pa_cons (pe_cl c__law_take hr (by decide) rfl passN (pa_cons (pv 0) (pa_cons (pe_callB call_len rfl fr_len boot_len (pa_cons (pv 3) pa_nil)) pa_nil))) pa_nil)) pa_nil))) pa_nil)))))
    (pss_one (ps_ret (pv 4)))))
theorem ok__law_counts (F : FunD K "_law_counts" "_law_counts" (defArgs s__law_counts) (defBody s__law_counts) (defScope s__law_counts) [] [] f fd) (c__law_take : Cl P w K mg base 1 "_law_take" (sp__law_take K A) []) : FnOk P w K mg base (L2N.CX P w) 2 f fd ["_law_bag_here"] (sp__law_counts K A) := by
  refine F.ok (CX := (L2N.CX P w)) sc__law_counts (fun vs H Q E h => len__law_counts h) (fun cdv A' outer s H vs Q E hr h => ⟨t__law_counts K A E, ?_, pure__law_counts h⟩)
  exact (pss_cons (ps_set (i := 1) sc__law_counts.nd rfl (by first | exact Or.inl rfl | exact Or.inr rfl) (pe_cl c__law_take hr (by decide) rfl passN (pa_cons (pv 0) (pa_cons pe_int pa_nil))))
    (pss_cons (ps_set (i := 2) sc__law_counts.nd rfl (by first | exact Or.inl rfl | exact Or.inr rfl) (pe_cl c__law_take hr (by decide) rfl passN (pa_cons (pv 0) (pa_cons (pe_op op_sub pe_int (pv 1)) pa_nil))))
    (pss_one (ps_ret (pe_ifExp (pt_cmpR op_gt (pe_op op_add (pv 1) (pv 2)) pe_int (nomark _)) (pe_tup (pa_cons (pv 1) (pa_cons (pv 2) pa_nil))) (pe_tup (pa_cons pe_int (pa_cons pe_int pa_nil))))))))
theorem ok__law_at (F : FunD K "_law_at" "_law_at" (defArgs s__law_at) (defBody s__law_at) (defScope s__law_at) [] [] f fd) (fr_bool : mg "bool" = none) (fr_isinstance : mg "isinstance" = none) (gm_BadLayout : mg "BadLayout" = some (.ref A.cBadLayout)) (gm_MendroundsError : mg "MendroundsError" = some (.ref A.cMendroundsError)) (xf_BadLayout : XfC K A.cBadLayout) (xn_BadLayout_at : PySem.W.findIn K (.ref A.cBadLayout) "at" = some none) (ki_BadLayout_MendroundsError : PySem.W.kitOne K (.ref A.cBadLayout) (.ref A.cMendroundsError) = some true) (xc_BadLayout : ExcC K A.cBadLayout) (xm_BadLayout : PySem.W.exmOne K (.ref A.cBadLayout) (.ref A.cBadLayout) = some true) (k_Layout : Km P w K mg base 4 "Layout" A.cLayout (sp_Layout___init__ K A)) : FnOk P w K mg base (L2N.CX P w) 6 f fd ["_law_thing"] (sp__law_at K A) := by
  refine F.ok (CX := (L2N.CX P w)) sc__law_at (fun vs H Q E h => len__law_at h) (fun cdv A' outer s H vs Q E hr h => ⟨t__law_at K A E, ?_, pure__law_at ki_BadLayout_MendroundsError xc_BadLayout xm_BadLayout h⟩)
  exact (pss_cons (L2N.ps_try_as (i := 1) (tb := tb__law_at K A) (ts := ts__law_at K A) (Wout := fun _ _ _ _ => False) rfl rfl sc__law_at.nd rfl rfl ⟨rfl, by decide, Or.inl gm_BadLayout⟩ takesN (fun W pn xe tk _ => by exact (pss_one (ps_expr (pe_mkS k_Layout hr (by decide) rfl (fun σ => L2N.passAt tk σ) (pa_cons (pv 0) pa_nil))))) (fun a oe cls d pn hz hf => by exact (pss_one (ps_ret (pe_ifExp (PW.pt (pw_and (pt_val (pe_callB (call_isX hz.zc hf) rfl fr_isinstance boot_isinstance (pa_cons (pv 1) (pa_cons (pe_glob rfl gm_MendroundsError rfl) pa_nil)))) (pw_and1 (pt_not (pt_val (pe_callB call_isi rfl fr_isinstance boot_isinstance (pa_cons (pe_xf xf_BadLayout xn_BadLayout_at hz.zc hf (pv 1)) (pa_cons (pe_bltn rfl fr_bool boot_bool rfl) pa_nil)))))))) (pe_xf xf_BadLayout xn_BadLayout_at hz.zc hf (pv 1)) pe_str)))))
    (pss_one (ps_ret pe_non)))
theorem ok__law_spoilt (F : FunD K "_law_spoilt" "_law_spoilt" (defArgs s__law_spoilt) (defBody s__law_spoilt) (defScope s__law_spoilt) [] [] f fd) (c__law_of : Cl P w K mg base 2 "_law_of" (sp__law_of K A) []) : FnOk P w K mg base (L2N.CX P w) 3 f fd ["_law_bag_here", "_law_field"] (sp__law_spoilt K A) := by
  refine F.ok (CX := (L2N.CX P w)) sc__law_spoilt (fun vs H Q E h => len__law_spoilt h) (fun cdv A' outer s H vs Q E hr h => ⟨t__law_spoilt K A E, ?_, pure__law_spoilt h⟩)
  exact (pss_cons (ps_asg (pv 1) (pg_tup rfl (pgs_cons (pg_name (i := 3) sc__law_spoilt.nd rfl (by first | exact Or.inl rfl | exact Or.inr rfl)) (pgs_cons (pg_name (i := 4) sc__law_spoilt.nd rfl (by first | exact Or.inl rfl | exact Or.inr rfl)) pgs_nil))))
    (pss_cons (ps_set (i := 2) sc__law_spoilt.nd rfl (by first | exact Or.inl rfl | exact Or.inr rfl) (pe_lst (pa_cons (pe_lst (pa_cons (pv 3) (pa_cons (pv 4) pa_nil))) (pa_cons (pe_tup (pa_cons (pv 3) pa_nil)) (pa_cons (pe_tup (pa_cons (pv 3) (pa_cons (pv 4) (pa_cons (pv 4) pa_nil)))) (pa_cons (pv 3) (pa_cons pe_non (pa_cons (pe_tup (pa_cons (pe_op op_add_str (pv 4) pe_str) (pa_cons pe_non pa_nil))) (pa_cons (pe_tup (pa_cons (pv 3) (pa_cons pe_str pa_nil))) (pa_cons (pe_tup (pa_cons (pv 3) (pa_cons pe_str pa_nil))) pa_nil))))))))))
    (pss_cons (ps_set (i := 2) sc__law_spoilt.nd rfl (by first | exact Or.inl rfl | exact Or.inr rfl) (pe_op op_cat (pv 2) (pe_lst (pa_cons (pe_tup (pa_cons (pv 3) (pa_cons pe_bl pa_nil))) (pa_cons (pe_tup (pa_cons (pv 3) (pa_cons (pe_lst (pa_cons (pv 4) pa_nil)) pa_nil))) (pa_cons (pe_tup (pa_cons (pv 3) (pa_cons pe_str pa_nil))) (pa_cons (pe_tup (pa_cons (pe_upper (pv 3)) (pa_cons (pv 4) pa_nil))) (pa_cons (pe_tup (pa_cons pe_str (pa_cons (pv 4) pa_nil))) (pa_cons (pe_tup (pa_cons pe_non (pa_cons (pv 4) pa_nil))) (pa_cons (pe_tup (pa_cons pe_bl (pa_cons (pv 4) pa_nil))) pa_nil))))))))))
    (pss_cons (ps_set (i := 2) sc__law_spoilt.nd rfl (by first | exact Or.inl rfl | exact Or.inr rfl) (pe_op op_cat (pv 2) (pe_lst (pa_cons (pe_tup (pa_cons pe_int (pa_cons (pv 4) pa_nil))) (pa_cons (pe_tup (pa_cons (pe_op op_add_str (pv 3) pe_str) (pa_cons (pv 4) pa_nil))) (pa_cons (pe_tup (pa_cons pe_str (pa_cons (pv 4) pa_nil))) (pa_cons (pe_tup (pa_cons pe_str (pa_cons (pv 4) pa_nil))) (pa_cons (pe_tup (pa_cons pe_str (pa_cons (pv 4) pa_nil))) (pa_cons (pe_tup (pa_cons pe_str (pa_cons (pv 4) pa_nil))) pa_nil)))))))))
    (pss_one (ps_ret (pe_cl c__law_of hr (by decide) rfl passN (pa_cons (pv 0) (pa_cons (pe_op op_cat (pv 2) (pe_lst (pa_cons (pe_tup (pa_cons (pe_lst (pa_cons (pv 3) pa_nil)) (pa_cons (pv 4) pa_nil))) (pa_cons (pe_tup (pa_cons (pe_op op_add_str (pv 3) pe_str) (pa_cons (pv 4) pa_nil))) (pa_cons (pe_tup (pa_cons pe_str (pa_cons (pv 4) pa_nil))) (pa_cons (pe_tup (pa_cons pe_str (pa_cons (pv 4) pa_nil))) (pa_cons (pe_tup (pa_cons pe_str (pa_cons (pv 4) pa_nil))) pa_nil))))))) pa_nil)))))))))
theorem ok_law (F : FunD K "law" "law" (defArgs s_law) (defBody s_law) (defScope s_law) [] [] f fd) (fr_dict : mg "dict" = none) (fr_len : mg "len" = none) (fr_list : mg "list" = none) (fr_max : mg "max" = none) (fr_min : mg "min" = none) (fr_range : mg "range" = none) (fr_tuple : mg "tuple" = none) (c__law_bag : Cl P w K mg base 1 "_law_bag" (sp__law_bag K A) []) (c__law_fields : Cl P w K mg base 4 "_law_fields" (sp__law_fields K A) []) (c__law_counts : Cl P w K mg base 2 "_law_counts" (sp__law_counts K A) []) (c__law_at : Cl P w K mg base 6 "_law_at" (sp__law_at K A) []) (c__law_take : Cl P w K mg base 1 "_law_take" (sp__law_take K A) []) (c__law_spoilt : Cl P w K mg base 3 "_law_spoilt" (sp__law_spoilt K A) []) (c__law_name : Cl P w K mg base 3 "_law_name" (sp__law_name K A) []) (c__law_of : Cl P w K mg base 2 "_law_of" (sp__law_of K A) []) : FnOk P w K mg base CX0 7 f fd ["_law_script"] (sp_law K) := by
  refine F.ok (CX := CX0) sc_law (fun vs H Q E h => len_law h) (fun cdv A' outer s H vs Q E hr h => ⟨t_law K A E, ?_, pure_law h⟩)
  exact (pss_cons (ps_for (passes_of rfl) rfl (pi_range1 rfl fr_range (pa_cons (pe_callB (call_max2 rfl) rfl fr_max boot_max (pa_cons pe_int (pa_cons (pe_callB (call_min2 rfl) rfl fr_min boot_min (pa_cons pe_int (pa_cons (pe_callB call_len rfl fr_len boot_len (pa_cons (pv 0) pa_nil)) pa_nil))) pa_nil))) pa_nil)) (pg_name (i := 1) sc_law.nd rfl (by first | exact Or.inl rfl | exact Or.inr rfl)) (pss_cons (ps_set (i := 2) sc_law.nd rfl (by first | exact Or.inl rfl | exact Or.inr rfl) (pe_cl c__law_bag hr (by decide) rfl passN (pa_cons (pv 0) (pa_cons (pv 1) pa_nil))))
    (pss_cons (ps_set (i := 3) sc_law.nd rfl (by first | exact Or.inl rfl | exact Or.inr rfl) (pe_cl c__law_fields hr (by decide) rfl passN (pa_cons (pv 2) (pa_cons (pe_cl c__law_counts hr (by decide) rfl passN (pa_cons (pv 2) pa_nil)) pa_nil))))
    (pss_cons (ps_if (pt_cmpR op_notN1 (pe_cl c__law_at hr (by decide) rfl passN (pa_cons (pe_callTy call_list_of rfl fr_list boot_list (pa_cons (pv 3) pa_nil)) pa_nil)) pe_non (nomark _)) (pss_one (ps_ret pe_bl)) pss_nil)
    (pss_cons (ps_set (i := 4) sc_law.nd rfl (by first | exact Or.inl rfl | exact Or.inr rfl) (pe_lst pa_nil))
    (pss_cons (ps_for (passes_of rfl) rfl (pi_range1 rfl fr_range (pa_cons (pe_op op_add pe_int (pe_cl c__law_take hr (by decide) rfl passN (pa_cons (pv 2) (pa_cons pe_int pa_nil)))) pa_nil)) (pg_name (i := 5) sc_law.nd rfl (by first | exact Or.inl rfl | exact Or.inr rfl)) (pss_cons (ps_set (i := 6) sc_law.nd rfl (by first | exact Or.inl rfl | exact Or.inr rfl) (pe_cl c__law_take hr (by decide) rfl passN (pa_cons (pv 2) (pa_cons (pe_callB call_len rfl fr_len boot_len (pa_cons (pv 3) pa_nil)) pa_nil))))
    (pss_cons (ps_expr (pe_bm PySem.F.plainAttrs_list PySem.F.slot_list_append PySem.F.type_list_append mt_append (pv 4) (pa_cons (pv 6) pa_nil)))
    (pss_one (ps_asg (pe_cl c__law_spoilt hr (by decide) rfl passN (pa_cons (pv 2) (pa_cons (pe_tup (pa_cons (pe_cl c__law_name hr (by decide) rfl passN (pa_cons (pv 2) (pa_cons pe_str pa_nil))) (pa_cons pe_str pa_nil))) pa_nil))) (pg_sub (pv 3) (pv 6) set_list))))))
    (pss_cons (ps_if (pt_cmpR op_ne (pe_cl c__law_at hr (by decide) rfl passN (pa_cons (pe_callTy call_list_of rfl fr_list boot_list (pa_cons (pv 3) pa_nil)) pa_nil)) (pe_callB (cr_min rfl) rfl fr_min boot_min (pa_cons (pv 4) pa_nil)) (nomark _)) (pss_one (ps_ret pe_bl)) pss_nil)
    (pss_cons (ps_set (i := 3) sc_law.nd rfl (by first | exact Or.inl rfl | exact Or.inr rfl) (pe_cl c__law_fields hr (by decide) rfl passN (pa_cons (pv 2) (pa_cons (pe_tup (pa_cons (pe_cl c__law_take hr (by decide) rfl passN (pa_cons (pv 2) (pa_cons pe_int pa_nil))) (pa_cons pe_int pa_nil))) pa_nil))))
    (pss_cons (ps_set (i := 6) sc_law.nd rfl (by first | exact Or.inl rfl | exact Or.inr rfl) (pe_op op_add pe_int (pe_cl c__law_take hr (by decide) rfl passN (pa_cons (pv 2) (pa_cons (pe_op op_sub (pe_callB call_len rfl fr_len boot_len (pa_cons (pv 3) pa_nil)) pe_int) pa_nil)))))
    (pss_cons (ps_asg (pe_tup (pa_cons (pe_ix ix_seq (pe_ix ix_seq (pv 3) (pe_cl c__law_take hr (by decide) rfl passN (pa_cons (pv 2) (pa_cons (pv 6) pa_nil))) (fun _ _ => rfl)) pe_int (fun _ _ => rfl)) (pa_cons (pe_cl c__law_of hr (by decide) rfl passN (pa_cons (pv 2) (pa_cons (pe_lst (pa_cons pe_str (pa_cons pe_str pa_nil))) pa_nil))) pa_nil))) (pg_sub (pv 3) (pv 6) set_list))
    (pss_cons (ps_if (pt_cmpR op_ne (pe_cl c__law_at hr (by decide) rfl passN (pa_cons (pe_callTy call_list_of rfl fr_list boot_list (pa_cons (pv 3) pa_nil)) pa_nil)) (pv 6) (nomark _)) (pss_one (ps_ret pe_bl)) pss_nil)
    (pss_cons (ps_set (i := 7) sc_law.nd rfl (by first | exact Or.inl rfl | exact Or.inr rfl) (pe_cl c__law_fields hr (by decide) rfl passN (pa_cons (pv 2) (pa_cons (pe_tup (pa_cons pe_int (pa_cons pe_int pa_nil))) pa_nil))))
    (pss_cons (ps_set (i := 8) sc_law.nd rfl (by first | exact Or.inl rfl | exact Or.inr rfl) (pe_op op_cat (pv 7) (pe_lst (pa_cons (pe_tup (pa_cons (pe_cl c__law_name hr (by decide) rfl passN (pa_cons (pv 2) (pa_cons pe_str pa_nil))) (pa_cons pe_str pa_nil))) pa_nil))))
    (pss_cons (ps_for (passes_of rfl) rfl (pi_list (pe_lst (pa_cons (pe_lst pa_nil) (pa_cons (pv 8) (pa_cons (pe_op op_cat (pv 8) (pv 8)) (pa_cons (pe_callTy call_tupF rfl fr_tuple boot_tuple (pa_cons (pv 7) pa_nil)) (pa_cons (pe_callTy (call_dictP rfl) rfl fr_dict boot_dict (pa_cons (pv 7) pa_nil)) (pa_cons pe_non (pa_cons pe_int (pa_cons pe_bl (pa_cons pe_str (pa_cons (pe_ix ix_seq (pv 8) pe_int (fun _ _ => rfl)) pa_nil)))))))))))) (pg_name (i := 9) sc_law.nd rfl (by first | exact Or.inl rfl | exact Or.inr rfl)) (pss_one (ps_if (pt_cmpR op_ne (pe_cl c__law_at hr (by decide) rfl passN (pa_cons (pv 9) pa_nil)) (pe_un un_neg pe_int) (nomark _)) (pss_one (ps_ret pe_bl)) pss_nil)))
    (pss_one (ps_if (PW.pt (pw_or (pt_cmpR op_notN1 (pe_cl c__law_at hr (by decide) rfl passN (pa_cons (pv 7) pa_nil)) pe_non (nomark _)) (pw_or1 (pt_cmpR op_notN1 (pe_cl c__law_at hr (by decide) rfl passN (pa_cons (pe_lst (pa_cons (pe_ix ix_seq (pv 7) pe_int (fun _ _ => rfl)) pa_nil)) pa_nil)) pe_non (nomark _))))) (pss_one (ps_ret pe_bl)) pss_nil))))))))))))))))
    (pss_one (ps_ret pe_bl)))
end
/-! ### the head: facts by names, the run -/
namespace Hd
def d_BadLayout___init__ : He.DefD := ⟨("BadLayout", some "__init__"), "__init__", "BadLayout.__init__", defArgs s_BadLayout___init__, defBody s_BadLayout___init__, defScope s_BadLayout___init__, [], []⟩
def d_is_word : He.DefD := ⟨("is_word", none), "is_word", "is_word", defArgs s_is_word, defBody s_is_word, defScope s_is_word, [], []⟩
def d_is_name : He.DefD := ⟨("is_name", none), "is_name", "is_name", defArgs s_is_name, defBody s_is_name, defScope s_is_name, [], []⟩
def d__is_field : He.DefD := ⟨("_is_field", none), "_is_field", "_is_field", defArgs s__is_field, defBody s__is_field, defScope s__is_field, [], []⟩
def d_Layout___init__ : He.DefD := ⟨("Layout", some "__init__"), "__init__", "Layout.__init__", defArgs s_Layout___init__, defBody s_Layout___init__, defScope s_Layout___init__, [], []⟩
def d__law_bag : He.DefD := ⟨("_law_bag", none), "_law_bag", "_law_bag", defArgs s__law_bag, defBody s__law_bag, defScope s__law_bag, [], []⟩
def d__law_take : He.DefD := ⟨("_law_take", none), "_law_take", "_law_take", defArgs s__law_take, defBody s__law_take, defScope s__law_take, [], []⟩
def d__law_of : He.DefD := ⟨("_law_of", none), "_law_of", "_law_of", defArgs s__law_of, defBody s__law_of, defScope s__law_of, [], []⟩
def d__law_name : He.DefD := ⟨("_law_name", none), "_law_name", "_law_name", defArgs s__law_name, defBody s__law_name, defScope s__law_name, [], []⟩
def d__law_fields : He.DefD := ⟨("_law_fields", none), "_law_fields", "_law_fields", defArgs s__law_fields, defBody s__law_fields, defScope s__law_fields, [], []⟩
def d__law_counts : He.DefD := ⟨("_law_counts", none), "_law_counts", "_law_counts", defArgs s__law_counts, defBody s__law_counts, defScope s__law_counts, [], []⟩
def d__law_at : He.DefD := ⟨("_law_at", none), "_law_at", "_law_at", defArgs s__law_at, defBody s__law_at, defScope s__law_at, [], []⟩
def d__law_spoilt : He.DefD := ⟨("_law_spoilt", none), "_law_spoilt", "_law_spoilt", defArgs s__law_spoilt, defBody s__law_spoilt, defScope s__law_spoilt, [], []⟩
def d_law : He.DefD := ⟨("law", none), "law", "law", defArgs s_law, defBody s_law, defScope s_law, [], []⟩
def fn : List He.DefD := [d_BadLayout___init__, d_is_word, d_is_name, d__is_field, d_Layout___init__, d__law_bag, d__law_take, d__law_of, d__law_name, d__law_fields, d__law_counts, d__law_at, d__law_spoilt, d_law]
def fa : List He.Fa := [.glo "is_word", .glo "is_name", .glo "_is_field", .glo "_law_bag", .glo "_law_take", .glo "_law_of", .glo "_law_name", .glo "_law_fields", .glo "_law_counts", .glo "_law_at", .glo "_law_spoilt", .glo "law", .glo "MendroundsError", .glo "BadLayout", .glo "BadField", .glo "Layout", .free "abs", .free "all", .free "bool", .free "dict", .free "enumerate", .free "int", .free "isinstance", .free "len", .free "list", .free "max", .free "min", .free "range", .free "str", .free "tuple", .str "LETTERS" "abcdefghijklmnopqrstuvwxyz", .int "LONGEST_WORD" 8, .str "NUMBER" "number", .glo "RESERVED", .str "WORD" "word", .cls "Layout", .mkr "Layout", .noat "Layout" "_kinds", .noat "Layout" "names"]
def exs : List (PySem.W.Frag → Bool) := [(fun K => He.tupB K "RESERVED" [.str "and", .str "or", .str "not", .str "in", .str "given", .str "true", .str "false", .str "blank", .str "number", .str "word", .str "needs", .str "instead", .str "after", .str "blames", .str "check", .str "guard", .str "barrier", .str "repair", .str "default", .str "exit", .str "self"]), (fun K => oexB K (He.ga K "MendroundsError")), (fun K => oexB K (He.ga K "BadLayout")), (fun K => inoB K (He.ga K "BadLayout")), (fun K => noB K (He.ga K "BadLayout") "at"), (fun K => decide (PySem.W.kitOne K (.ref (He.ga K "BadLayout")) (.ref (He.ga K "MendroundsError")) = some true)), (fun K => xcB K (He.ga K "BadLayout")), (fun K => xfB K (He.ga K "BadLayout")), (fun K => decide (PySem.W.exmOne K (.ref (He.ga K "BadLayout")) (.ref (He.ga K "BadLayout")) = some true)), (fun K => oexB K (He.ga K "BadField")), (fun K => inoB K (He.ga K "BadField")), (fun K => noB K (He.ga K "BadField") "name"), (fun K => cconB K (He.ga K "Layout") "MOST" (.int 5))]
def ex (K : PySem.W.Frag) : Bool := exs.all fun b => b K
def ads (K : PySem.W.Frag) : Ads := { cMendroundsError := He.ga K "MendroundsError", cBadLayout := He.ga K "BadLayout", cBadField := He.ga K "BadField", cLayout := He.ga K "Layout", gRESERVED := He.ga K "RESERVED" }
abbrev R : PySem.W.OpenRow := PySem.W.OpenLaw.row PySem.Challenge.rw_mendrounds_k06_layouts_refused
abbrev hk : PySem.W.Hook := hookM 7 fa fn ex
def ob (s : PySem.W.SharedT) : He.AlD × Bool := obsM 7 fa fn ex (HandSHeadRun.getT s)
theorem ob_eq (s : PySem.W.SharedT) : ob s = hk.obs s.abs := obsM_eq (HandSHeadRun.getT_eq s)
def names0 : List PySem.Str := ["_wall", "MendroundsError", "BadLayout", "BadField", "LETTERS", "LONGEST_WORD", "is_word", "NUMBER", "WORD", "RESERVED", "is_name", "_is_field", "Layout", "_law_bag", "_law_take", "_law_of", "_law_name", "_law_fields", "_law_counts", "_law_at", "_law_spoilt"]
def names : List PySem.Str := names0
theorem run (w : World) : HandSHeadRun.RunEq R (PySem.W.view R.prog [25]) hk ob 20000 names w := by
  intro os
  kernel_rfl
theorem facts {P : Program} {w : World} {K : PySem.W.Frag} {h : Heap} {mg : Str → Option Value} {f : Addr} (X : K.In h) (G : h.Ns mainGlobals mg) (hfa : mg ("law" : Str) = some (.ref f)) (c : He.SaysD fa fn K) (cx : ex K = true) :
    ∃ fd : FuncData, (∀ (s : Shared) (v : Value), BindsTo s fd ⟨[v], []⟩ [("_law_script", v)]) ∧ ∀ base : Heap, K.In base → base.Ns mainGlobals mg → FnOk P w K mg base CX0 7 f fd ["_law_script"] (sp_law K) := by
  have ce : ∀ (i : Nat) (b : PySem.W.Frag → Bool), exs[i]? = some b → b K = true := fun i b e => List.all_eq_true.mp cx b (List.mem_of_getElem? e)
  have e_tab_RESERVED : (He.tupB K "RESERVED" [.str "and", .str "or", .str "not", .str "in", .str "given", .str "true", .str "false", .str "blank", .str "number", .str "word", .str "needs", .str "instead", .str "after", .str "blames", .str "check", .str "guard", .str "barrier", .str "repair", .str "default", .str "exit", .str "self"]) = true := ce 0 _ rfl
  have e_oex_MendroundsError : (oexB K (He.ga K "MendroundsError")) = true := ce 1 _ rfl
  have e_oex_BadLayout : (oexB K (He.ga K "BadLayout")) = true := ce 2 _ rfl
  have e_ino_BadLayout : (inoB K (He.ga K "BadLayout")) = true := ce 3 _ rfl
  have e_no_BadLayout_at : (noB K (He.ga K "BadLayout") "at") = true := ce 4 _ rfl
  have e_ki_BadLayout_MendroundsError : (decide (PySem.W.kitOne K (.ref (He.ga K "BadLayout")) (.ref (He.ga K "MendroundsError")) = some true)) = true := ce 5 _ rfl
  have e_xc_BadLayout : (xcB K (He.ga K "BadLayout")) = true := ce 6 _ rfl
  have e_xf_BadLayout : (xfB K (He.ga K "BadLayout")) = true := ce 7 _ rfl
  have e_xm_BadLayout : (decide (PySem.W.exmOne K (.ref (He.ga K "BadLayout")) (.ref (He.ga K "BadLayout")) = some true)) = true := ce 8 _ rfl
  have e_oex_BadField : (oexB K (He.ga K "BadField")) = true := ce 9 _ rfl
  have e_ino_BadField : (inoB K (He.ga K "BadField")) = true := ce 10 _ rfl
  have e_no_BadField_name : (noB K (He.ga K "BadField") "name") = true := ce 11 _ rfl
  have e_cc_Layout_MOST : (cconB K (He.ga K "Layout") "MOST" (.int 5)) = true := ce 12 _ rfl
  obtain ⟨fd_BadLayout___init__, F_BadLayout___init__⟩ := c.def_ 0 (d := d_BadLayout___init__) rfl
  obtain ⟨fd_is_word, F_is_word⟩ := c.def_ 1 (d := d_is_word) rfl
  obtain ⟨fd_is_name, F_is_name⟩ := c.def_ 2 (d := d_is_name) rfl
  obtain ⟨fd__is_field, F__is_field⟩ := c.def_ 3 (d := d__is_field) rfl
  obtain ⟨fd_Layout___init__, F_Layout___init__⟩ := c.def_ 4 (d := d_Layout___init__) rfl
  obtain ⟨fd__law_bag, F__law_bag⟩ := c.def_ 5 (d := d__law_bag) rfl
  obtain ⟨fd__law_take, F__law_take⟩ := c.def_ 6 (d := d__law_take) rfl
  obtain ⟨fd__law_of, F__law_of⟩ := c.def_ 7 (d := d__law_of) rfl
  obtain ⟨fd__law_name, F__law_name⟩ := c.def_ 8 (d := d__law_name) rfl
  obtain ⟨fd__law_fields, F__law_fields⟩ := c.def_ 9 (d := d__law_fields) rfl
  obtain ⟨fd__law_counts, F__law_counts⟩ := c.def_ 10 (d := d__law_counts) rfl
  obtain ⟨fd__law_at, F__law_at⟩ := c.def_ 11 (d := d__law_at) rfl
  obtain ⟨fd__law_spoilt, F__law_spoilt⟩ := c.def_ 12 (d := d__law_spoilt) rfl
  obtain ⟨fd_law, F_law⟩ := c.def_ 13 (d := d_law) rfl
  have e := hfa.symm.trans (He.glo_ok X G (c.fact 11 (f := .glo "law") rfl))
  cases e
  have cc_Layout_MOST := cconB_ok e_cc_Layout_MOST
  have cl_Layout : Cls K (ads K).cLayout := He.cls_ok (c.fact 35 (f := .cls "Layout") rfl)
  have fr_abs := He.free_ok X G (c.fact 16 (f := .free "abs") rfl)
  have fr_all := He.free_ok X G (c.fact 17 (f := .free "all") rfl)
  have fr_bool := He.free_ok X G (c.fact 18 (f := .free "bool") rfl)
  have fr_dict := He.free_ok X G (c.fact 19 (f := .free "dict") rfl)
  have fr_enumerate := He.free_ok X G (c.fact 20 (f := .free "enumerate") rfl)
  have fr_int := He.free_ok X G (c.fact 21 (f := .free "int") rfl)
  have fr_isinstance := He.free_ok X G (c.fact 22 (f := .free "isinstance") rfl)
  have fr_len := He.free_ok X G (c.fact 23 (f := .free "len") rfl)
  have fr_list := He.free_ok X G (c.fact 24 (f := .free "list") rfl)
  have fr_max := He.free_ok X G (c.fact 25 (f := .free "max") rfl)
  have fr_min := He.free_ok X G (c.fact 26 (f := .free "min") rfl)
  have fr_range := He.free_ok X G (c.fact 27 (f := .free "range") rfl)
  have fr_str := He.free_ok X G (c.fact 28 (f := .free "str") rfl)
  have fr_tuple := He.free_ok X G (c.fact 29 (f := .free "tuple") rfl)
  have gm_BadLayout : mg "BadLayout" = some (.ref (ads K).cBadLayout) := He.glo_ok X G (c.fact 13 (f := .glo "BadLayout") rfl)
  have gm_LETTERS := He.str_ok X G (c.fact 30 (f := .str "LETTERS" "abcdefghijklmnopqrstuvwxyz") rfl)
  have gm_LONGEST_WORD := He.int_ok X G (c.fact 31 (f := .int "LONGEST_WORD" 8) rfl)
  have gm_Layout : mg "Layout" = some (.ref (ads K).cLayout) := He.glo_ok X G (c.fact 15 (f := .glo "Layout") rfl)
  have gm_MendroundsError : mg "MendroundsError" = some (.ref (ads K).cMendroundsError) := He.glo_ok X G (c.fact 12 (f := .glo "MendroundsError") rfl)
  have gm_NUMBER := He.str_ok X G (c.fact 32 (f := .str "NUMBER" "number") rfl)
  have gm_RESERVED : mg "RESERVED" = some (.ref (ads K).gRESERVED) := He.glo_ok X G (c.fact 33 (f := .glo "RESERVED") rfl)
  have gm_WORD := He.str_ok X G (c.fact 34 (f := .str "WORD" "word") rfl)
  have ki_BadLayout_MendroundsError := of_decide_eq_true e_ki_BadLayout_MendroundsError
  have na_Layout__kinds : NoAttr K (ads K).cLayout "_kinds" := He.noat_ok (c.fact 37 (f := .noat "Layout" "_kinds") rfl)
  have na_Layout_names : NoAttr K (ads K).cLayout "names" := He.noat_ok (c.fact 38 (f := .noat "Layout" "names") rfl)
  have tb_RESERVED : ∀ H, SqT K H (ads K).gRESERVED _ := fun H => He.tupB_ok e_tab_RESERVED H
  have xc_BadLayout := xcB_ok e_xc_BadLayout
  have xf_BadLayout := xfB_ok e_xf_BadLayout
  have xm_BadLayout := of_decide_eq_true e_xm_BadLayout
  have xn_BadLayout_at := noB_ok e_no_BadLayout_at
  have bL := FunD.bindsA (ps := ["_law_script"]) F_law fun _ _ _ _ _ _ us hl => match us, hl with | [_], _ => rfl
  refine ⟨fd_law, fun s v => bL s [v] rfl, fun base _ _ => ?_⟩
  have G_BadLayout___init__ := ok_BadLayout___init__ (P := P) (w := w) (mg := mg) (base := base) (A := ads K) F_BadLayout___init__ (oexB_ok e_oex_BadLayout) (noB_ok e_no_BadLayout_at)
  have b_BadLayout___init__ : Binds K fd_BadLayout___init__ ["self", "at"] [] := F_BadLayout___init__.bindsN fun _ _ _ _ _ _ us hl => match us, hl with | [_, _], _ => rfl
  have k_BadLayout : Kx P w K mg base 1 "BadLayout" (ads K).cBadLayout (sp_BadLayout___init__ K (ads K)) := ⟨oexB_ok e_oex_BadLayout, _, _, _, (inoB_ok e_ino_BadLayout).1, (inoB_ok e_ino_BadLayout).2, G_BadLayout___init__, b_BadLayout___init__, He.glo_ok X G (c.fact 13 (f := .glo "BadLayout") rfl)⟩
  have G_is_word := ok_is_word (P := P) (w := w) (mg := mg) (base := base) (A := ads K) F_is_word fr_all fr_isinstance fr_len fr_str gm_LETTERS gm_LONGEST_WORD
  have b_is_word : Binds K fd_is_word ["thing"] [] := F_is_word.bindsN fun _ _ _ _ _ _ us hl => match us, hl with | [_], _ => rfl
  have c_is_word := cl_of G_is_word (He.glo_ok X G (c.fact 0 (f := .glo "is_word") rfl)) F_is_word.kp b_is_word
  have G__law_bag := ok__law_bag (P := P) (w := w) (mg := mg) (base := base) (A := ads K) F__law_bag fr_abs fr_int fr_len
  have b__law_bag : Binds K fd__law_bag ["_law_script", "_law_at_here"] [] := F__law_bag.bindsN fun _ _ _ _ _ _ us hl => match us, hl with | [_, _], _ => rfl
  have c__law_bag := cl_of G__law_bag (He.glo_ok X G (c.fact 3 (f := .glo "_law_bag") rfl)) F__law_bag.kp b__law_bag
  have G__law_take := ok__law_take (P := P) (w := w) (mg := mg) (base := base) (A := ads K) F__law_take fr_int
  have b__law_take : Binds K fd__law_take ["_law_bag_here", "_law_many"] [] := F__law_take.bindsN fun _ _ _ _ _ _ us hl => match us, hl with | [_, _], _ => rfl
  have c__law_take := cl_of G__law_take (He.glo_ok X G (c.fact 4 (f := .glo "_law_take") rfl)) F__law_take.kp b__law_take
  have G_is_name := ok_is_name (P := P) (w := w) (mg := mg) (base := base) (A := ads K) F_is_name gm_RESERVED tb_RESERVED c_is_word
  have b_is_name : Binds K fd_is_name ["thing"] [] := F_is_name.bindsN fun _ _ _ _ _ _ us hl => match us, hl with | [_], _ => rfl
  have c_is_name := cl_of G_is_name (He.glo_ok X G (c.fact 1 (f := .glo "is_name") rfl)) F_is_name.kp b_is_name
  have G__law_of := ok__law_of (P := P) (w := w) (mg := mg) (base := base) (A := ads K) F__law_of fr_len c__law_take
  have b__law_of : Binds K fd__law_of ["_law_bag_here", "_law_some"] [] := F__law_of.bindsN fun _ _ _ _ _ _ us hl => match us, hl with | [_, _], _ => rfl
  have c__law_of := cl_of G__law_of (He.glo_ok X G (c.fact 5 (f := .glo "_law_of") rfl)) F__law_of.kp b__law_of
  have G__law_counts := ok__law_counts (P := P) (w := w) (mg := mg) (base := base) (A := ads K) F__law_counts c__law_take
  have b__law_counts : Binds K fd__law_counts ["_law_bag_here"] [] := F__law_counts.bindsN fun _ _ _ _ _ _ us hl => match us, hl with | [_], _ => rfl
  have c__law_counts := cl_of G__law_counts (He.glo_ok X G (c.fact 8 (f := .glo "_law_counts") rfl)) F__law_counts.kp b__law_counts
  have G__is_field := ok__is_field (P := P) (w := w) (mg := mg) (base := base) (A := ads K) F__is_field fr_isinstance fr_len fr_tuple gm_NUMBER gm_WORD c_is_name
  have b__is_field : Binds K fd__is_field ["thing"] [] := F__is_field.bindsN fun _ _ _ _ _ _ us hl => match us, hl with | [_], _ => rfl
  have c__is_field := cl_of G__is_field (He.glo_ok X G (c.fact 2 (f := .glo "_is_field") rfl)) F__is_field.kp b__is_field
  have G__law_name := ok__law_name (P := P) (w := w) (mg := mg) (base := base) (A := ads K) F__law_name fr_len fr_range c__law_take c__law_of
  have b__law_name : Binds K fd__law_name ["_law_bag_here", "_law_mark"] [] := F__law_name.bindsN fun _ _ _ _ _ _ us hl => match us, hl with | [_, _], _ => rfl
  have c__law_name := cl_of G__law_name (He.glo_ok X G (c.fact 6 (f := .glo "_law_name") rfl)) F__law_name.kp b__law_name
  have G__law_spoilt := ok__law_spoilt (P := P) (w := w) (mg := mg) (base := base) (A := ads K) F__law_spoilt c__law_of
  have b__law_spoilt : Binds K fd__law_spoilt ["_law_bag_here", "_law_field"] [] := F__law_spoilt.bindsN fun _ _ _ _ _ _ us hl => match us, hl with | [_, _], _ => rfl
  have c__law_spoilt := cl_of G__law_spoilt (He.glo_ok X G (c.fact 10 (f := .glo "_law_spoilt") rfl)) F__law_spoilt.kp b__law_spoilt
  have G_Layout___init__ := ok_Layout___init__ (P := P) (w := w) (mg := mg) (base := base) (A := ads K) F_Layout___init__ cc_Layout_MOST fr_enumerate fr_isinstance fr_len fr_list fr_tuple gm_Layout cl_Layout na_Layout__kinds na_Layout_names k_BadLayout c__is_field
  have b_Layout___init__ : Binds K fd_Layout___init__ ["self", "fields"] [] := F_Layout___init__.bindsN fun _ _ _ _ _ _ us hl => match us, hl with | [_, _], _ => rfl
  have k_Layout : Km P w K mg base 4 "Layout" (ads K).cLayout (sp_Layout___init__ K (ads K)) := ⟨_, _, _, He.mkr_ok (c.fact 36 (f := .mkr "Layout") rfl), G_Layout___init__, b_Layout___init__, He.glo_ok X G (c.fact 15 (f := .glo "Layout") rfl)⟩
  have G__law_fields := ok__law_fields (P := P) (w := w) (mg := mg) (base := base) (A := ads K) F__law_fields fr_len fr_range c__law_take c__law_name
  have b__law_fields : Binds K fd__law_fields ["_law_bag_here", "_law_counts_here"] [] := F__law_fields.bindsN fun _ _ _ _ _ _ us hl => match us, hl with | [_, _], _ => rfl
  have c__law_fields := cl_of G__law_fields (He.glo_ok X G (c.fact 7 (f := .glo "_law_fields") rfl)) F__law_fields.kp b__law_fields
  have G__law_at := ok__law_at (P := P) (w := w) (mg := mg) (base := base) (A := ads K) F__law_at fr_bool fr_isinstance gm_BadLayout gm_MendroundsError xf_BadLayout xn_BadLayout_at ki_BadLayout_MendroundsError xc_BadLayout xm_BadLayout k_Layout
  have b__law_at : Binds K fd__law_at ["_law_thing"] [] := F__law_at.bindsN fun _ _ _ _ _ _ us hl => match us, hl with | [_], _ => rfl
  have c__law_at := cl_of G__law_at (He.glo_ok X G (c.fact 9 (f := .glo "_law_at") rfl)) F__law_at.kp b__law_at
  exact ok_law (A := ads K) F_law fr_dict fr_len fr_list fr_max fr_min fr_range fr_tuple c__law_bag c__law_fields c__law_counts c__law_at c__law_take c__law_spoilt c__law_name c__law_of
end Hd
end Md
open PySem PySem.W PySem.Calls PyProof.Rows
set_option maxRecDepth 100000 in
set_option maxHeartbeats 0 in
theorem PySem.Challenge.cw_mendrounds_k06_layouts_refused_holds : PySem.Challenge.rw_mendrounds_k06_layouts_refused.Holds := by
  w_on; o_law
  refine HandSHeadRun.head_any (r := OpenLaw.row PySem.Challenge.rw_mendrounds_k06_layouts_refused) (q := view (OpenLaw.row PySem.Challenge.rw_mendrounds_k06_layouts_refused).prog [25]) (H := Md.Hd.hk) (ob := Md.Hd.ob) (M := 20000) (loose := Md.Hd.names) (d := HandSHeadRun.topDef (OpenLaw.row PySem.Challenge.rw_mendrounds_k06_layouts_refused).prog 25) (kwd := []) Md.Hd.ob_eq
    (by kernel_rfl) (fun s => by kernel_rfl) Md.Hd.run (by kernel_rfl) (by kernel_rfl) (by kernel_rfl) (by rfl) (by first | assumption | decide +kernel) (by decide +kernel) ⟨rfl, rfl, rfl, rfl, rfl, by decide +kernel⟩ ?hw ?hc
  case hw => w_witness2
  case hc =>
    refine L2.walk_ofE (l := PySem.Challenge.rw_mendrounds_k06_layouts_refused) (n := 63) (k := 7) (x := "_law_script") (CX := L2.CX0) rfl (by decide) (by kernel_rfl) ⟨rfl, by decide, by decide⟩ ?F (fun _ _ _ _ z => z)
    intro w mg fa h Y G hmg0
    obtain ⟨K, KX, c⟩ := Y
    have hmg : mg ("law" : PySem.Str) = some (.ref fa) := by
      have e : (HandSHeadRun.topDef (OpenLaw.row PySem.Challenge.rw_mendrounds_k06_layouts_refused).prog 25).name = ("law" : PySem.Str) := by kernel_rfl
      rw [← e]
      exact hmg0
    obtain ⟨fd, hb, hF⟩ := Md.Hd.facts (P := (PySem.Challenge.rw_mendrounds_k06_layouts_refused).prog) (w := w) KX G hmg c.d c.more
    exact ⟨K, fd, Md.sp_law K, KX, hb, fun H a ns hl _ hS => ⟨a, ns, rfl, hS, hl, fun _ => rfl⟩, hF⟩
