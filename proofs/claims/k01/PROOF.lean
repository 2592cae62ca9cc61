import PyProof.Rows.All
import Wide.All
import OpenK.AllK
import Wide.FinOn
import KE.KStateDown
import Lean
import HandS.Base
import HandS.Call
import HandS.List
import HandS.Comp
import HandS.Ends
import HandS.Dict
import HandS.Iter
import HandS.Text
import HandS.More
import HandS.Words
import HandS.WordsList
import HandS.WordsDict
import HandS.Exc
import HandS.ExcOwn
import HandS.TryOnly
import HandS.WordsExc
import HandS.ExcCtx
import HandS.HotCalls
import KE.KExcIs
import HandS.Defaults
import HandS.Codes
import HandS.CallSlots
import HandS.Steps
import HandS.Style
import HandS.Wide
import HandS.WideMore
import HandS.WideBits
import HandS.IsInst
import HandS.ExcInit
import HandS.ExcField
import HandS.ExcIs
import HandS.Gcd
import HandS.FStr
import HandS.RaiseMore
import HandS.Head0
import HandS.Head1
import HandS.Head2
import HandS.Head3
import HandS.HeadEnd
import HandS.HeadHook1
import HandS.HeadHook2
import HandS.HeadHook3
import HandS.HeadHook4
import PySem.Challenge.RW_mendrounds_k01_numbers_made
set_option Elab.async false
set_option linter.all false
set_option maxRecDepth 100000
set_option maxHeartbeats 4000000
namespace Md
open PySem PySem.Spec PyProof.Rows PySem.Calls L2

/-! ### where the classes and tables of the program stand -/
structure Ads where
  cMendroundsError : Addr := 0
  cBadNumber : Addr := 0
  cBadLayout : Addr := 0
  cBadField : Addr := 0
  cBadValue : Addr := 0
  cBadFilling : Addr := 0
  cBadCondition : Addr := 0
  cBadCheck : Addr := 0
  cBadForm : Addr := 0
  cBadPattern : Addr := 0
  cNoFilling : Addr := 0
  cUnlike : Addr := 0
  cTooMany : Addr := 0
  cBadTelling : Addr := 0
  cBadChange : Addr := 0
  cBadBatch : Addr := 0
  cNoCheck : Addr := 0
  cNotTold : Addr := 0
  cRefused : Addr := 0
  cLocked : Addr := 0
  cUnmet : Addr := 0
  cClosed : Addr := 0
  cStarted : Addr := 0
  cLayout : Addr := 0
  cSpace : Addr := 0
  gRESERVED : Addr := 0

/-! ### readings by short names -/
abbrev rAdd : R2 := rI0 fun i j => .int (i + j)
abbrev rSub : R2 := rI0 fun i j => .int (i - j)
abbrev rMulW : R2 := rI CMulW fun i j => .int (i * j)
abbrev rMul : R2 := rI CMul fun i j => .int (i * j)
abbrev rFdvW : R2 := rI CDivW fun i j => .int (i / j)
abbrev rMod : R2 := rI (fun _ j => 0 < j) fun i j => .int (i % j)
abbrev rPow : R2 := rI CPow fun i j => .int (i ^ j.toNat)
abbrev rLt : R2 := rI0 fun i j => .bl (decide (i < j))
abbrev rLe : R2 := rI0 fun i j => .bl (decide (i ≤ j))
abbrev rGt : R2 := rI0 fun i j => .bl (decide (j < i))
abbrev rGe : R2 := rI0 fun i j => .bl (decide (j ≤ i))
abbrev rNeg : V → Hp → VK → Prop := rU fun i => .int (-i)
abbrev rAbs : List V → Hp → VK → Prop := fun xs H Q => ∃ i, xs = [.int i] ∧ Q (.int (if i < 0 then -i else i)) H
abbrev rMax2 : List V → Hp → VK → Prop := fun xs H Q => ∃ i j, xs = [.int i, .int j] ∧ Q (.int (if j > i then j else i)) H
abbrev rMin2 : List V → Hp → VK → Prop := fun xs H Q => ∃ i j, xs = [.int i, .int j] ∧ Q (.int (if j < i then j else i)) H
abbrev rInt1 : List V → Hp → VK → Prop := fun xs H Q => (∃ i, xs = [.int i] ∧ Q (.int i) H) ∨ ∃ k, xs = [.bl k] ∧ Q (.int (if k then 1 else 0)) H
abbrev rStrI : List V → Hp → VK → Prop := fun xs H Q => ∃ i : Int, xs = [.int i] ∧ i.natAbs.log2 < 1920 ∧ Q (.str (toString i)) H
abbrev rAddS : R2 := fun x y H Q => ∃ i j, x = .str i ∧ y = .str j ∧ i.length + j.length ≤ sizeLine ∧ Q (.str (i ++ j)) H
abbrev tRaise (E : XK) (t : L2.St → Hp → XK → Prop) : TS := fun _ σ H => t σ H fun cls d H' => E cls d H'
abbrev tTru (K : PySem.W.Frag) (ta : TE) : TT := fun σ H Q => ta σ H fun x H' => ∃ k, TruV K x H' k ∧ Q k H'
/-- // by any divisor but 0 -/
def CDivG (_ j : Int) : Prop := j ≠ 0 ∧ j.natAbs.log2 < 9000
abbrev rFdvG : R2 := rI CDivG fun i j => .int (i.fdiv j)
theorem op_fdivG {X : Cx} : OpR X (binaryOp .FloorDiv) rFdvG := opI fun i j _ _ _ _ _ hc q => floordiv_int hc.1 q (.inl (PyProof.noPylong_of_log2 hc.2))
theorem gStr {mg : Str → Option Value} {x z : Str} (h : ∃ t, mg x = some (.str z t)) : ∃ u, mg x = some u ∧ RelV (.str z) u := by
  obtain ⟨t, e⟩ := h
  exact ⟨_, e, t, rfl⟩
theorem gInt {mg : Str → Option Value} {x : Str} {i : Int} (h : ∃ t, mg x = some (.int i t)) : ∃ u, mg x = some u ∧ RelV (.int i) u := by
  obtain ⟨t, e⟩ := h
  exact ⟨_, e, t, rfl⟩

theorem passN {X : Cx} : Passes (L2N.CX X.prog X.w) X E0 := fun _ _ _ _ _ _ _ h => by
  obtain ⟨_, _, _, _, _, _, _, _, _, _, _, _, z⟩ := h
  exact z.elim
/-- around a body nothing is let out -/
theorem takesN {X : Cx} : L2N.Takes X (fun _ _ _ _ => False) := fun _ _ x => by
  obtain ⟨_, _, _, _, _, _, _, _, _, _, _, _, _, _, _, _, z⟩ := x
  exact z.elim
theorem mk_endN {X : Cx} {pins : List (Addr × Obj)} {σ : L2.St} {H1 H2 : Hp} {Q : XK} {hp hp2 h2 : Heap} {g1 g2 : Array GenState} {d1 d2 : Drawn} {t1 t2 : Nat} {os1 os2 : OsState} {a C d : Addr} {fs : List (Str × V)} (T : Raises X (.ref C)) (I1 : Inv X pins σ H1 ⟨hp, g1, d1, t1, os1⟩)
    (ha : hp.objs.size ≤ a) (k : ∀ b o, hp.get? b = some o → hp2.get? b = some o) (un : Un (frs X.stack) [] (upd H1 a (exo a C none)) H2 hp2 h2) (hok : HOk X.prog X.w H2 h2) (ho : os2 = os1) (hb : AllBare g2)
    (ea : H2 a = some (exo a C (some d))) (ed : H2 d = some (exd d fs)) (hd1 : H1 d = none) (q : Q (.ref C) (some d) (upd (del H2 a) d (.xd fs))) : L2N.MkP X pins σ Q (.ref a) ⟨h2, g2, d2, t2, os2⟩ := by
  obtain ⟨t0, G, J, kG, ge, hoe, na⟩ := mk_end0 (d2 := d2) (t2 := t2) I1 ha k un hok ho hb ea ed hd1
  exact ⟨a, _, _, ⟨G, g2, d2, t2, os2⟩, _, .ref C, some d, rfl, J, kG, ge, hoe, ⟨rfl, rfl, fun vs e => by cases e; rfl⟩, rfl, rfl, na, rfl, hb, T, q⟩
theorem pmk_oexN {X : Cx} {e : Expr} {es : List Expr} {ta : TA} {p pos : Pos} {CX : CXT} {x : Str} {C fI : Addr} {k : Nat} {fd : FuncData} {ps : List Str} {sp : Sp} {ds : List Value} {dvs : List V} (T : OexC X.K C) (iC : PySem.W.findIn X.K (.ref C) "__init__" = some (some (.ref fI))) (tI : PySem.W.typeIn X.K (.ref fI) = some (.type "function"))
    (F1 : FnOk X.prog X.w X.K X.mg X.base CX k fI fd ps sp) (hr : Room (k + 1) X.A) (hb : Binds X.K fd ps ds) (hd : Vals dvs ds) (hx : Passes CX X (fun _ _ _ => False)) (hg : Gl X x) (hm : X.mg x = some (.ref C)) (ha : PA X (e :: es) ta)
    (hdb : (x == ("__debug__" : Str)) = false := by decide) (he : starEach (e :: es) X.env = (false, eval e X.env) :: starEach es X.env := by rfl) (hpl : (backTo pos (starEach es X.env)).any (·.1) = false := by rfl) :
    L2N.PMk X (.Call (.Name x p) (e :: es) [] pos) (tMkO C sp dvs ta) := by
  intro pins s σ H Q I h
  obtain ⟨nm, q, N, bs, bm, sn, sub, ab, col, dd, k0, k1, k2, k3, k5, hC, hbm⟩ := T.cls
  refine wpAny_Call_Name_kw (ld_glob I hg hm ?_ hdb)
  refine PySem.W.callWith_K (h₀ := X.base) I.ok.mod.kin T.kC (thn (ha.run pos pins s σ H _ I h) fun us s1 ⟨vs, H1, I1, r1, hz, q1⟩ => ⟨I1.kIn, ?_⟩) he hpl
  show wpAny _ _ (call (.ref C) us) _ _ _
  obtain ⟨hp, g, dr, tk, os⟩ := s1
  have hsz : hp.objs.size ≤ hp.objs.size + 1 := Nat.le_succ _
  have hn : H1 (hp.objs.size + 1) = none := I1.hok.fresh hsz
  have hq := q1 (hp.objs.size + 1) hn
  have kk : ∀ b o, hp.get? b = some o → ((hp.push (PySem.W.kdv_tup us)).push (PySem.HandSPX.excO C hp.objs.size)).get? b = some o := fun b o e => Heap.get?_push_of_some _ (Heap.get?_push_of_some _ e)
  have hget : ((hp.push (PySem.W.kdv_tup us)).push (PySem.HandSPX.excO C hp.objs.size)).get? (hp.objs.size + 1) = some (PySem.HandSPX.excO C hp.objs.size) := by heap_get
  have I2 : Inv X pins σ (upd H1 (hp.objs.size + 1) (exo (hp.objs.size + 1) C none)) ⟨(hp.push (PySem.W.kdv_tup us)).push (PySem.HandSPX.excO C hp.objs.size), g, dr, tk, os⟩ :=
    I1.laid (t' := tk) (a := hp.objs.size + 1) (o := exo (hp.objs.size + 1) C none) (h' := (hp.push (PySem.W.kdv_tup us)).push (PySem.HandSPX.excO C hp.objs.size)) kk hsz (exo_ok hget)
  have r2 : Vals (V.ref (hp.objs.size + 1) :: (vs ++ dvs)) (Value.ref (hp.objs.size + 1) :: (us ++ ds)) := .cons rfl (r1.append hd)
  have hl : (Value.ref (hp.objs.size + 1) :: us ++ ds).length = ps.length := by
    have e := r2.length
    rw [F1.len _ _ _ _ hq] at e
    exact e.symm
  have hus : us.length ≤ sizeLine := by
    rw [← Paired.length r1, sizeLine_eq]
    omega
  refine wpAny_call (PySem.HandSPX.call_own F.excBase_ValueError (fun Y => PySem.HandSPX.refsVE_contains Y bm hbm) (I1.kIn _ _ hC) (PySem.W.looks_findIn I1.kIn iC) (fun self => PySem.W.bind_fn I1.kIn self tI) hus
    (codeAny_mono (F1.run _ X.stack _ _ ⟨Value.ref (hp.objs.size + 1) :: us, []⟩ (Value.ref (hp.objs.size + 1) :: (us ++ ds)) _ _ (fun _ _ _ => False) (hr.make C us []) (I2.env0.make C us []) (hb _ (Value.ref (hp.objs.size + 1) :: us) I2.kIn hl) r2 hq) fun r s' hq' => ?_))
  cases r with
  | error er => exact (hx pins σ _ _ er s' I2 hq')
  | ok fl =>
    cases fl with
    | ret u =>
      obtain ⟨v, H2, os2, bare2, un2, hok2, rv, ev, d, fs, ea, ed, hd1, q2⟩ := hq'
      subst ev
      obtain ⟨h2, g2, d2, t2, os'⟩ := s'
      exact ⟨rv, mk_endN (raises_own T.exC T.tyC) I1 hsz kk un2 hok2 os2 bare2 ea ed hd1 q2⟩
    | next => exact False.elim hq'
    | brk => exact False.elim hq'
    | cont => exact False.elim hq'

/-! ### isinstance of the error that a suite holds, whatever its dict -/
theorem kitx_excD {K : PySem.W.Frag} {x D : Addr} {ox : Obj} {od : Option Obj} (hga : PySem.W.findIn K (.ref D) "__getattribute__" = some (some (.builtin "BaseException.__getattribute__"))) (hgt : PySem.W.findIn K (.ref D) "__getattr__" = some none) (hsub : PySem.W.subIn K (.ref D) (.type "BaseException") = some true) (hdct : PySem.W.hasDictIn K D = true) (ha : PySem.W.findIn K (.ref D) "__class__" = some (some (.builtin "object.__class__")))
    (hn : PySem.W.specialIn K (.builtin "object.__class__") "__get__" = some (some (.builtin "getset_descriptor.__get__"))) (htk : PySem.W.takesIn K (.builtin "object.__class__") = some true) (hm : PySem.W.mroIn K D (.type "object") = some true) :
    PySem.W.KitX K (.ref x) (.ref D) (fun h => PySem.W.InstAt h x ox D od) where
  ty := fun _ _ _ I => I.type
  it := fun _ _ X _ => by
    obtain ⟨cdD, hcD, _⟩ := PySem.W.any_some hdct
    unfold PySem.W.clsIn at hcD
    split at hcD
    · rename_i c' d' cd' sl' ho
      intro A' Q' E' s' k q
      unfold isType loadHead
      exact wpAny_bind (wpAny_loadPart (k _ _ (X _ _ ho)) (wpAny_pure q))
    · cases hcD
  ne := fun h tp dd its n sl X htp => by
    obtain ⟨cdD, hcD, _⟩ := PySem.W.any_some hdct
    refine Bool.eq_false_iff.mpr fun q => ?_
    have e : D = tp := Value.ref.inj (beq_iff_eq.mp q)
    subst e
    unfold PySem.W.clsIn at hcD
    split at hcD
    · rename_i c' d' cd' sl' ho
      have z := (X _ _ ho).symm.trans htp
      cases z
    · cases hcD
  ca := fun X I k => PySem.W.kx_classE X I hga hgt hsub (PySem.W.findObj_dataE (by obtain ⟨cd, hc, _⟩ := PySem.W.any_some hdct; rw [hc]; rfl) ha hn htk) hm k
/-- isinstance(e, c), e the error that the suite holds -/
def rIsX (K : PySem.W.Frag) (a : Addr) (cls : Value) (d : Option Addr) : List V → Hp → VK → Prop := fun xs H Q => ∃ (D dd : Addr) (fs : List (Str × V)) (c : V) (cv : Value) (b : Bool), cls = .ref D ∧ d = some dd ∧ ExcC K D ∧ H dd = some (.xd fs) ∧ xs = [.ref a, c] ∧ ClsV c cv ∧ PySem.W.kitOne K (.ref D) cv = some b ∧ Q (.bl b) H
theorem call_isX {X : Cx} {a : Addr} {oe : Obj} {pn : List (Addr × Obj)} {cls : Value} {d : Option Addr} (hz : Zc cls d oe) (hf : ∃ vs, oe.data = .fields vs) : CallR (X.suite a ((a, oe) :: pn)) (.builtin "isinstance") (rIsX X.K a cls d) := by
  intro pins s σ H xs us Q I r h
  obtain ⟨D, dd, fs, c, cv, b, rfl, rfl, C, hdd, rfl, hcv, e, q⟩ := h
  cases r with
  | cons rx rr =>
    cases rr with
    | cons rt rr =>
      cases rr
      cases rx
      have ec := hcv.eq rt
      subst ec
      obtain ⟨hget, _⟩ := I.pin (a, oe) (List.mem_append.mpr (.inl List.mem_cons_self))
      obtain ⟨vs, hv⟩ := hf
      have hx : ObjOk X.prog X.w H s.heap dd (.xd fs) := I.hok dd _ hdd
      obtain ⟨mA, hns, hr⟩ := hx
      obtain ⟨od, ho, hl⟩ := lookIn_ns hns
      have J : PySem.W.InstAt s.heap a oe D (some od) := by
        obtain ⟨oc, od', oda, osl⟩ := oe
        obtain ⟨h1, h2⟩ := hz
        dsimp only at h1 h2 hv
        subst h1 h2 hv
        exact ⟨hget, rfl, rfl, ho⟩
      exact PySem.W.kia_one (kitx_excD C.hg C.hk C.hs C.hd C.ha C.hn C.ht C.hm) I.kIn J e (fun z => nomatch z) fun tk => ⟨.bl b, H, I.kept (t' := tk) fun _ _ z => z, rfl, q⟩
/-- what ExcC asks, as one Bool -/
def xcB (K : PySem.W.Frag) (D : Addr) : Bool := xfB K D && (decide (PySem.W.findIn K (.ref D) "__class__" = some (some (.builtin "object.__class__"))) && (decide (PySem.W.specialIn K (.builtin "object.__class__") "__get__" = some (some (.builtin "getset_descriptor.__get__"))) &&
  (decide (PySem.W.takesIn K (.builtin "object.__class__") = some true) && decide (PySem.W.mroIn K D (.type "object") = some true))))
theorem xcB_ok {K : PySem.W.Frag} {D : Addr} (h : xcB K D = true) : ExcC K D := by
  obtain ⟨h1, h⟩ := Bool.and_eq_true_iff.mp h
  obtain ⟨h2, h⟩ := Bool.and_eq_true_iff.mp h
  obtain ⟨h3, h⟩ := Bool.and_eq_true_iff.mp h
  obtain ⟨h4, h5⟩ := Bool.and_eq_true_iff.mp h
  have x := xfB_ok h1
  exact ⟨x.ga, x.gg, x.exC, x.hdC, of_decide_eq_true h2, of_decide_eq_true h3, of_decide_eq_true h4, of_decide_eq_true h5⟩
/-- what a law asks of an error class: which classes its errors are of, the clause that catches them -/
structure XcA (K : PySem.W.Frag) (D : Addr) : Prop where
  xc : ExcC K D
  me : PySem.W.exmOne K (.ref D) (.ref D) = some true

/-! ### a def as its callers see it -/
/-- the same where an error is handled -/
structure ClH (P : Program) (w : World) (K : PySem.W.Frag) (mg : Str → Option Value) (base : Heap) (k : Nat) (x : Str) (sp : Sp) : Prop where
  ex : ∃ (f : Addr) (fd : FuncData) (ps : List Str), L2H.FnH P w K mg base (L2N.CX P w) k f fd ps sp ∧ mg x = some (.ref f) ∧ PySem.W.keepIn K (.ref f) = true ∧ Binds K fd ps []
/-- as FunD.ok, where an error is handled -/
theorem funD_okH {P : Program} {w : World} {K : PySem.W.Frag} {mg : Str → Option Value} {base : Heap} {x qual : Str} {params : Arguments} {body : List Stmt} {scope : Scope} {dvs : List V} {kws : List (Str × V)} {f : Addr} {fd : FuncData} {CX : CXT} {N ps : List Str} {k : Nat} {sp : Sp} (F : FunD K x qual params body scope dvs kws f fd) (S : FnScope N ps scope) (len : ∀ vs H Q E, sp vs H Q E → vs.length = ps.length)
    (hbody : ∀ (cdv : Value) (A : Around) (outer : List Env) (s : Shared) (H : Hp) (vs : List V) (Q : VK) (E : XK) (p : Addr × Obj), L2H.Hot1 A p → L2H.RoomH k (A.deeper (envOfC qual scope s.heap.objs.size f cdv)) → sp vs H Q E →
      ∃ t, PSs (L2H.cxH CX P w K mg base N qual scope f cdv A outer s H E p) body t ∧ t { nx := fun _ H' => Q .non H', rt := Q } (L2.start N vs) H) : L2H.FnH P w K mg base CX (k + 1) f fd ps sp := by
  obtain ⟨oc, od, dV, kV, doc, pm, an, cdv, ct, osl, rfl, lk, hcd, _, _⟩ := F.ex
  exact L2H.fn_ofH lk hcd S len fun A outer s H vs Q E p hp hr hsp => hbody cdv A outer s H vs Q E p hp hr hsp
structure Cl (P : Program) (w : World) (K : PySem.W.Frag) (mg : Str → Option Value) (base : Heap) (k : Nat) (x : Str) (sp : Sp) (dvs : List V) : Prop where
  ex : ∃ (f : Addr) (fd : FuncData) (ps : List Str) (ds : List Value), FnOk P w K mg base (L2N.CX P w) k f fd ps sp ∧ mg x = some (.ref f) ∧ PySem.W.keepIn K (.ref f) = true ∧ Binds K fd ps ds ∧ Vals dvs ds
/-- a class over ValueError with an __init__ of its own, as it is raised -/
structure Kx (P : Program) (w : World) (K : PySem.W.Frag) (mg : Str → Option Value) (base : Heap) (k : Nat) (x : Str) (C : Addr) (sp : Sp) : Prop where
  T : OexC K C
  ex : ∃ (fI : Addr) (fd : FuncData) (ps : List Str), PySem.W.findIn K (.ref C) "__init__" = some (some (.ref fI)) ∧ PySem.W.typeIn K (.ref fI) = some (.type "function") ∧ FnOk P w K mg base (L2N.CX P w) k fI fd ps sp ∧ Binds K fd ps [] ∧ mg x = some (.ref C)
/-- a plain class, as it is made; a method of it -/
structure Km (P : Program) (w : World) (K : PySem.W.Frag) (mg : Str → Option Value) (base : Heap) (k : Nat) (x : Str) (C : Addr) (sp : Sp) : Prop where
  ex : ∃ (fI : Addr) (fd : FuncData) (ps : List Str), Mk K C fI ∧ FnOk P w K mg base (L2N.CX P w) k fI fd ps sp ∧ Binds K fd ps [] ∧ mg x = some (.ref C)
structure Mt (P : Program) (w : World) (K : PySem.W.Frag) (mg : Str → Option Value) (base : Heap) (k : Nat) (C : Addr) (m : Str) (sp : Sp) : Prop where
  ex : ∃ (f : Addr) (fd : FuncData) (ps : List Str), Cls K C ∧ Meth K C m f ∧ FnOk P w K mg base (L2N.CX P w) k f fd ps sp ∧ Binds K fd ps []
section
variable {X : Cx} {k j : Nat} {C : Addr} {sp : Sp} {dvs : List V} {E : XK} {W : WX} {x m : Str} {p pos apos : Pos} {e o : Expr} {es : List Expr} {ta : TE} {t : TA}
theorem pe_cl (c : Cl X.prog X.w X.K X.mg X.base k x sp dvs) (hr : Room j X.A) (hk : k ≤ j) (hg : Gl X x) (hx : Passes (L2N.CX X.prog X.w) X E) (ha : PA X (e :: es) t)
    (hdb : (x == ("__debug__" : Str)) = false := by decide) (he : starEach (e :: es) X.env = (false, eval e X.env) :: starEach es X.env := by rfl) (hpl : (backTo pos (starEach es X.env)).any (·.1) = false := by rfl) :
    PE X (.Call (.Name x p) (e :: es) [] pos) (tCall sp dvs E t) := by
  obtain ⟨f, fd, ps, ds, F, hm, kp, b, d⟩ := c.ex
  exact pe_call F (hr.mono hk) hg hm kp b d hx ha hdb he hpl
theorem pe_clS (c : Cl X.prog X.w X.K X.mg X.base k x sp dvs) (hr : Room j X.A) (hk : k ≤ j) (hg : Gl X x) (hx : ∀ σ, PassesAt (L2N.CX X.prog X.w) X σ (WE W σ)) (ha : PA X (e :: es) t)
    (hdb : (x == ("__debug__" : Str)) = false := by decide) (he : starEach (e :: es) X.env = (false, eval e X.env) :: starEach es X.env := by rfl) (hpl : (backTo pos (starEach es X.env)).any (·.1) = false := by rfl) :
    PE X (.Call (.Name x p) (e :: es) [] pos) (tCallSD sp dvs (WE W) t) := by
  obtain ⟨f, fd, ps, ds, F, hm, kp, b, d⟩ := c.ex
  exact pe_callSD F (hr.mono hk) hg hm kp b d hx ha hdb he hpl
theorem hot_of {X : Cx} {a : Addr} {oe : Obj} {pn : List (Addr × Obj)} {cls : Value} {d : Option Addr} (hz : L2N.Zn cls d oe) (hf : ∃ vs, oe.data = .fields vs) : L2H.HotC (X.suite a ((a, oe) :: pn)) := by
  obtain ⟨vs, hv⟩ := hf
  exact ⟨(a, oe), ⟨rfl, vs, hv, hz.2.2 vs hv⟩, List.mem_cons_self⟩
theorem roomH_suite {X : Cx} {a : Addr} {pn : List (Addr × Obj)} (hr : Room j X.A) : L2H.RoomH j (X.suite a pn).A := ⟨hr.dp, hr.un⟩
theorem passH {X : Cx} (σ : L2.St) : PassesAt (L2N.CX X.prog X.w) X σ E0 := fun _ _ _ _ _ _ h => by
  obtain ⟨_, _, _, _, _, _, _, _, _, _, _, _, z⟩ := h
  exact z.elim
theorem pe_clH (c : ClH X.prog X.w X.K X.mg X.base k x sp) (hr : L2H.RoomH j X.A) (hc : L2H.HotC X) (hk : k ≤ j) (hg : Gl X x) (ha : PA X (e :: es) t)
    (hdb : (x == ("__debug__" : Str)) = false := by decide) (he : starEach (e :: es) X.env = (false, eval e X.env) :: starEach es X.env := by rfl) (hpl : (backTo pos (starEach es X.env)).any (·.1) = false := by rfl) :
    PE X (.Call (.Name x p) (e :: es) [] pos) (tCallS sp (fun _ => E0) t) := by
  obtain ⟨f, fd, ps, F, hm, kp, b⟩ := c.ex
  exact L2H.pe_callH F (hr.mono hk) hc hg hm kp b (fun σ => passH σ) ha hdb he hpl
theorem pmk_cl (c : Kx X.prog X.w X.K X.mg X.base k x C sp) (hr : Room j X.A) (hk : k + 1 ≤ j) (hg : Gl X x) (ha : PA X (e :: es) t)
    (hdb : (x == ("__debug__" : Str)) = false := by decide) (he : starEach (e :: es) X.env = (false, eval e X.env) :: starEach es X.env := by rfl) (hpl : (backTo pos (starEach es X.env)).any (·.1) = false := by rfl) :
    L2N.PMk X (.Call (.Name x p) (e :: es) [] pos) (tMkO C sp [] t) := by
  obtain ⟨fI, fd, ps, h1, h2, F, b, hm⟩ := c.ex
  exact pmk_oexN c.T h1 h2 F (hr.mono hk) b .nil passN hg hm ha hdb he hpl
theorem pe_mk2 (c : Km X.prog X.w X.K X.mg X.base k x C sp) (hr : Room j X.A) (hk : k + 1 ≤ j) (hg : Gl X x) (hx : Passes (L2N.CX X.prog X.w) X E) (ha : PA X (e :: es) t)
    (hdb : (x == ("__debug__" : Str)) = false := by decide) (he : starEach (e :: es) X.env = (false, eval e X.env) :: starEach es X.env := by rfl) (hpl : (backTo pos (starEach es X.env)).any (·.1) = false := by rfl) :
    PE X (.Call (.Name x p) (e :: es) [] pos) (tMake C sp [] E t) := by
  obtain ⟨fI, fd, ps, M, F, b, hm⟩ := c.ex
  exact pe_make M F (hr.mono hk) hg hm b .nil hx ha hdb he hpl
end
/-! ### calls with keywords -/
structure ClK (P : Program) (w : World) (K : PySem.W.Frag) (mg : Str → Option Value) (base : Heap) (k : Nat) (x : Str) (sp : Sp) (n : Nat) (ks : List Str) (gV : List V → List V → List V) : Prop where
  ex : ∃ (f : Addr) (fd : FuncData) (ps : List Str) (g : List Value → List Value → List Value), FnOk P w K mg base (L2N.CX P w) k f fd ps sp ∧ mg x = some (.ref f) ∧ PySem.W.keepIn K (.ref f) = true ∧ KBn K fd ps n ks g gV
section
variable {X : Cx} {k j n m : Nat} {sp : Sp} {ks : List Str} {gV : List V → List V → List V} {E : XK} {x : Str} {p pos : Pos} {e : Expr} {es : List Expr} {kws : List Keyword} {t tk : TA}
theorem pe_clK (c : ClK X.prog X.w X.K X.mg X.base k x sp n ks gV) (hr : Room j X.A) (hk : k ≤ j) (hg : Gl X x) (hx : Passes (L2N.CX X.prog X.w) X E) (ha : PA X (e :: es) t) (hkw : PK X kws tk)
    (hall : (backToKw pos (keywordEach kws X.env)).all (·.1.isSome) = true := by rfl) (hks : (backToKw pos (keywordEach kws X.env)).filterMap (·.1) = ks := by rfl)
    (hdb : (x == ("__debug__" : Str)) = false := by decide) (he : starEach (e :: es) X.env = (false, eval e X.env) :: starEach es X.env := by rfl)
    (hpl : ((backTo pos (starEach (e :: es) X.env)).any (·.1) || (backToKw pos (keywordEach kws X.env)).any (·.1.isNone)) = false := by rfl)
    (hlen : ks.length = m := by rfl) : PE X (.Call (.Name x p) (e :: es) kws pos) (tCallN n m sp gV E t tk) := by
  subst hlen
  obtain ⟨f, fd, ps, g, F, hm, kp, b⟩ := c.ex
  exact pe_callN F (hr.mono hk) hg hm kp b hx ha hkw hall hks hdb he hpl
theorem pe_clK0 (c : ClK X.prog X.w X.K X.mg X.base k x sp 0 ks gV) (hr : Room j X.A) (hk : k ≤ j) (hg : Gl X x) (hx : Passes (L2N.CX X.prog X.w) X E) (hkw : PK X kws tk)
    (hall : (backToKw pos (keywordEach kws X.env)).all (·.1.isSome) = true := by rfl) (hks : (backToKw pos (keywordEach kws X.env)).filterMap (·.1) = ks := by rfl)
    (hdb : (x == ("__debug__" : Str)) = false := by decide)
    (hpl : ((backTo pos (starEach [] X.env)).any (·.1) || (backToKw pos (keywordEach kws X.env)).any (·.1.isNone)) = false := by rfl)
    (hlen : ks.length = m := by rfl) : PE X (.Call (.Name x p) [] kws pos) (tCallN 0 m sp gV E tNil tk) := by
  subst hlen
  obtain ⟨f, fd, ps, g, F, hm, kp, b⟩ := c.ex
  refine ⟨fun pins s σ H Q I h => ?_⟩
  refine wpAny_Call_Name_kw (ld_glob I hg hm ?_ hdb)
  refine PySem.W.callWith_KW0 (h₀ := X.base) I.ok.mod.kin kp hall (thn (hkw.run pos pins s σ H _ I h) fun ws s2 ⟨zs, H2, I2, rz, l1, l2, q2⟩ => ⟨I2.kIn, ?_⟩) hpl
  rw [hks]
  exact run_fnN (us := []) F (hr.mono hk) b hx I2 .nil rz l1 l2 q2
end
def srcOf {α : Type} (us its ws : List α) : Nat → List α
  | 0 => us
  | 1 => its
  | _ + 2 => ws
/-- the parameters' values: from the positional ones (0), the defaults (1), the keywords' (2) -/
def pick {α : Type} (idx : List (Nat × Nat)) (us its ws : List α) : List α := idx.filterMap fun p => (srcOf us its ws p.1)[p.2]?
theorem src_rel {vs ds zs : List V} {us its ws : List Value} (r1 : Vals vs us) (r2 : Vals ds its) (r3 : Vals zs ws) : ∀ s, Vals (srcOf vs ds zs s) (srcOf us its ws s)
  | 0 => r1
  | 1 => r2
  | _ + 2 => r3
theorem pick_rel {vs ds zs : List V} {us its ws : List Value} (r1 : Vals vs us) (r2 : Vals ds its) (r3 : Vals zs ws) : ∀ idx : List (Nat × Nat), Vals (pick idx vs ds zs) (pick idx us its ws)
  | [] => .nil
  | (s, i) :: r => by
    have ih := pick_rel r1 r2 r3 r
    have rr := src_rel r1 r2 r3 s
    unfold pick at ih ⊢
    rw [List.filterMap_cons, List.filterMap_cons]
    cases e : (srcOf vs ds zs s)[i]? with
    | some v =>
      obtain ⟨u, h1, h2⟩ := Vals.get rr e
      rw [h1]
      exact .cons h2 ih
    | none =>
      rw [Vals.none_of rr e]
      exact ih
/-- n positional values and keywords ks for a def with defaults dvs -/
theorem funD_kb1 {K : PySem.W.Frag} {x qual : Str} {params : Arguments} {body : List Stmt} {scope : Scope} {dvs : List V} {f : Addr} {fd : FuncData} {ps : List Str} (F : FunD K x qual params body scope dvs [] f fd) (n : Nat) (ks : List Str) (g : {α : Type} → List α → List α → List α → List α) (hd : dvs ≠ [])
    (hrel : ∀ {vs ds zs : List V} {us its ws : List Value}, Vals vs us → Vals ds its → Vals zs ws → Vals (g vs ds zs) (g us its ws))
    (h : ∀ (T : Addr) (kV doc pm : Value) (an : Option Addr) (cdv ct : Value) (us its ws : List Value), us.length = n → its.length = dvs.length → ws.length = ks.length →
      ∃ k, bindArgs (PySem.W.fnOf x qual params body scope (.ref T) kV doc pm an cdv ct) ⟨us, ks.zip ws⟩ = seqItems? (.ref T) >>= k ∧ k (some its.toArray) = pure (ps.zip (g us its ws))) :
    ∃ its : List Value, KBn K fd ps n ks (fun us ws => g us its ws) (fun vs zs => g vs dvs zs) := by
  obtain ⟨oc, od, dV, kV, doc, pm, an, cdv, ct, osl, rfl, lk, hcd, hD, hK⟩ := F.ex
  rcases hD with ⟨e, _⟩ | ⟨_, T, o, its, m, rfl, lT, oT, rT⟩
  · exact absurd e hd
  · refine ⟨its, ⟨fun s us ws X l1 l2 => ?_, fun r1 r2 => hrel r1 rT r2⟩⟩
    obtain ⟨k, e1, e2⟩ := h T kV doc pm an cdv ct us its ws l1 rT.length.symm l2
    refine BindsTo.of_looks fun M => ?_
    rw [e1]
    exact looks_items X lT oT (.of_pure e2)
/-- the same of a def without defaults -/
theorem funD_kb0 {K : PySem.W.Frag} {x qual : Str} {params : Arguments} {body : List Stmt} {scope : Scope} {f : Addr} {fd : FuncData} {ps : List Str} (F : FunD K x qual params body scope [] [] f fd) (n : Nat) (ks : List Str) (g : {α : Type} → List α → List α → List α)
    (hrel : ∀ {vs zs : List V} {us ws : List Value}, Vals vs us → Vals zs ws → Vals (g vs zs) (g us ws))
    (h : ∀ (kV doc pm : Value) (an : Option Addr) (cdv ct : Value) (us ws : List Value), us.length = n → ws.length = ks.length → bindArgs (PySem.W.fnOf x qual params body scope .none kV doc pm an cdv ct) ⟨us, ks.zip ws⟩ = pure (ps.zip (g us ws))) :
    KBn K fd ps n ks (fun us ws => g us ws) (fun vs zs => g vs zs) := by
  obtain ⟨oc, od, dV, kV, doc, pm, an, cdv, ct, osl, rfl, lk, hcd, hD, hK⟩ := F.ex
  rcases hD with ⟨_, rfl⟩ | ⟨e, _⟩
  · exact ⟨fun s us ws X l1 l2 => .of_eq (h kV doc pm an cdv ct us ws l1 l2), fun r1 r2 => hrel r1 r2⟩
  · exact absurd rfl e
/-! ### the end of a def's row -/
theorem cl_of {P : Program} {w : World} {K : PySem.W.Frag} {mg : Str → Option Value} {base : Heap} {k : Nat} {x : Str} {f : Addr} {fd : FuncData} {ps : List Str} {sp : Sp}
    (G : FnOk P w K mg base (L2N.CX P w) k f fd ps sp) (g : mg x = some (.ref f)) (kp : PySem.W.keepIn K (.ref f) = true) (b : Binds K fd ps []) : Cl P w K mg base k x sp [] := ⟨_, _, _, _, G, g, kp, b, .nil⟩
/-- what the written part says of such a class, as one Bool -/
def clsB (K : PySem.W.Frag) (C : Addr) : Bool := match K.lookup C with
  | some ⟨.type "type", _, .cls cd, sl⟩ => (match cd.mro, sl.toList with
    | .ref C' :: bm, [_, _, _, _, some (.builtin n), _] => C' == C && (n == "ValueError.__new__" && (!cd.hasDel && (cd.hasDict && PySem.HandSPX.refsVE bm)))
    | _, _ => false)
  | _ => false
theorem clsB_ok {K : PySem.W.Frag} {C : Addr} (h : clsB K C = true) : ∃ nm q N bs bm sn sub ab col dd k0 k1 k2 k3 k5, K.lookup C = some (excClassObj nm q C N bs bm true sn sub ab col dd k0 k1 k2 k3 k5 "ValueError.__new__") ∧ PySem.HandSPX.refsVE bm = true := by
  unfold clsB at h
  split at h
  · rename_i dd cd sl e
    split at h
    · rename_i C' bm a b c d n f e1 e2
      obtain ⟨nm, bs, mro, ns, qn, hd, sn, sb, ab, col, del⟩ := cd
      obtain ⟨h1, h⟩ := Bool.and_eq_true_iff.mp h
      obtain ⟨h2, h⟩ := Bool.and_eq_true_iff.mp h
      obtain ⟨h3, h⟩ := Bool.and_eq_true_iff.mp h
      obtain ⟨h4, h5⟩ := Bool.and_eq_true_iff.mp h
      have e3 : C' = C := eq_of_beq h1
      have e4 : n = "ValueError.__new__" := eq_of_beq h2
      have e5 : del = false := by
        cases del with
        | false => rfl
        | true => cases h3
      have e6 : hd = true := h4
      have e7 : mro = .ref C' :: bm := e1
      have e8 : sl = #[a, b, c, d, some (.builtin n), f] := by
        have := congrArg List.toArray e2
        simpa using this
      subst e3 e4 e5 e6 e7 e8
      exact ⟨nm, qn, ns, bs, bm, sn, sb, ab, col, dd, a, b, c, d, f, e, h5⟩
    · cases h
  · cases h
def oexB (K : PySem.W.Frag) (C : Addr) : Bool := clsB K C && (decide (PySem.W.findIn K (.ref C) "__setattr__" = some (some (.builtin "object.__setattr__"))) && (decide (PySem.W.subIn K (.ref C) (.type "BaseException") = some true) &&
  (decide (PySem.W.typeIn K (.ref C) = some (.type "type")) && PySem.W.keepIn K (.ref C))))
theorem oexB_ok {K : PySem.W.Frag} {C : Addr} (h : oexB K C = true) : OexC K C := by
  obtain ⟨h1, h⟩ := Bool.and_eq_true_iff.mp h
  obtain ⟨h2, h⟩ := Bool.and_eq_true_iff.mp h
  obtain ⟨h3, h⟩ := Bool.and_eq_true_iff.mp h
  obtain ⟨h4, h5⟩ := Bool.and_eq_true_iff.mp h
  exact ⟨clsB_ok h1, of_decide_eq_true h2, of_decide_eq_true h3, of_decide_eq_true h4, h5⟩
/-- __init__ of such a class is the def at ma -/
def inoB (K : PySem.W.Frag) (C : Addr) : Bool := decide (PySem.W.findIn K (.ref C) "__init__" = some (some (.ref (He.ma K C "__init__")))) && decide (PySem.W.typeIn K (.ref (He.ma K C "__init__")) = some (.type "function"))
theorem inoB_ok {K : PySem.W.Frag} {C : Addr} (h : inoB K C = true) : PySem.W.findIn K (.ref C) "__init__" = some (some (.ref (He.ma K C "__init__"))) ∧ PySem.W.typeIn K (.ref (He.ma K C "__init__")) = some (.type "function") := by
  obtain ⟨h1, h2⟩ := Bool.and_eq_true_iff.mp h
  exact ⟨of_decide_eq_true h1, of_decide_eq_true h2⟩
def noB (K : PySem.W.Frag) (C : Addr) (f : Str) : Bool := decide (PySem.W.findIn K (.ref C) f = some none)
theorem noB_ok {K : PySem.W.Frag} {C : Addr} {f : Str} (h : noB K C f = true) : PySem.W.findIn K (.ref C) f = some none := of_decide_eq_true h
end Md

set_option Elab.async false
set_option linter.all false
set_option maxRecDepth 100000
set_option maxHeartbeats 4000000
namespace Md
open PySem PySem.Spec PyProof.Rows PySem.Calls L2

/-! ### ways of a test -/
theorem iteD {p A B : Prop} [Decidable p] (h1 : p → A) (h2 : ¬ p → B) : if decide p = true then A else B := by
  by_cases h : p
  · rw [if_pos (decide_eq_true h)]; exact h1 h
  · rw [if_neg (by simp [h])]; exact h2 h
theorem iteN {p A B : Prop} [Decidable p] (h1 : p → B) (h2 : ¬ p → A) : if (!decide p) = true then A else B := by
  by_cases h : p
  · rw [if_neg (by simp [h])]; exact h1 h
  · rw [if_pos (by simp [h])]; exact h2 h
theorem iteB {b : Bool} {A B : Prop} (h1 : b = true → A) (h2 : b = false → B) : if b = true then A else B := by
  cases b with
  | true => rw [if_pos rfl]; exact h1 rfl
  | false => rw [if_neg (by decide)]; exact h2 rfl
theorem iteBN {b : Bool} {A B : Prop} (h1 : b = true → B) (h2 : b = false → A) : if (!b) = true then A else B := by
  cases b with
  | true => rw [if_neg (by decide)]; exact h1 rfl
  | false => rw [if_pos (by decide)]; exact h2 rfl
/-! ### heaps: all but the list at b stands -/
def Xb (b : Addr) (H H' : Hp) : Prop := ∀ a o, a ≠ b → H a = some o → H' a = some o
theorem Xb.refl {b : Addr} {H : Hp} : Xb b H H := fun _ _ _ h => h
theorem Xb.trans {b : Addr} {H H1 H2 : Hp} (x : Xb b H H1) (y : Xb b H1 H2) : Xb b H H2 := fun a o n h => y a o n (x a o n h)
theorem Xb.upd {b : Addr} {H H' : Hp} {o : HO} (x : Xb b H H') : Xb b H (upd H' b o) := fun a u n h => by
  rw [upd_ne n]
  exact x a u n h
theorem Xb.of {b : Addr} {H H' : Hp} (x : Same H H') : Xb b H H' := fun a o _ h => x a o h
theorem Same.new {H : Hp} {p : Addr} {o : HO} (h : H p = none) : Same H (L2.upd H p o) := fun a u e => by
  rw [upd_ne (ne_of_none e h)]
  exact e
theorem Xb.tup {b a : Addr} {H H' : Hp} {L xs : List V} (x : Xb b H H') (hb : H b = some (.lst L)) (h : H a = some (.tup xs)) : H' a = some (.tup xs) :=
  x a _ (ne_of h hb (by intro z; cases z)) h
/-- the draws' list: the digits, the seed, the count; n draws are left -/
def Bag (n : Nat) (H : Hp) (b : Addr) : Prop := ∃ L S C : Int, H b = some (.lst [.int L, .int S, .int C]) ∧ 0 ≤ L ∧ 0 ≤ S ∧ S < 16140901064496457664 ∧ 0 ≤ C ∧ C + n ≤ 549755813888
theorem Bag.mono {n m : Nat} {H : Hp} {b : Addr} (h : Bag n H b) (l : m ≤ n) : Bag m H b := by
  obtain ⟨L, S, C, e, h1, h2, h3, h4, h5⟩ := h
  exact ⟨L, S, C, e, h1, h2, h3, h4, by omega⟩
theorem Bag.same {n : Nat} {H H' : Hp} {b : Addr} (h : Bag n H b) (s : Same H H') : Bag n H' b := by
  obtain ⟨L, S, C, e, h⟩ := h
  exact ⟨L, S, C, s _ _ e, h⟩
theorem Bag.at_ {n : Nat} {H : Hp} {b : Addr} (h : Bag n H b) : ∃ L, H b = some (.lst L) := by
  obtain ⟨L, S, C, e, _⟩ := h
  exact ⟨_, e⟩
theorem Xb.tupB {n : Nat} {b a : Addr} {H H' : Hp} {xs : List V} (x : Xb b H H') (hb : Bag n H b) (h : H a = some (.tup xs)) : H' a = some (.tup xs) := by
  obtain ⟨L, e⟩ := hb.at_
  exact x.tup e h
theorem pow_lt {x : Int} {k : Nat} (h : x.natAbs < 2 ^ k) (hk : 0 < k) : x.natAbs.log2 < k := PySem.Flt.log2_lt_of hk h

theorem CMulW.small {i j : Int} (hi : i.natAbs < 2 ^ 64) (h0 : 0 ≤ j) (h1 : j < 2 ^ 64) : CMulW i j := wide_mul (a := 64) (b := 64) hi (by omega) (by decide) (by decide) (by decide)
/-! ### _law_take -/
def t__law_take (K : PySem.W.Frag) (A : Ads) (E : XK) : TS :=
    (tSeq (tIfS (tTest (tOp rGt (tOp (rIx K) (tVar 0) (tC (.int 0))) (tC (.int 0)))) (tSeq (tAsg (tOp rMod (tCB rInt1 (tCons (tOp (rIx K) (tVar 0) (tC (.int 0))) tNil)) (tVar 1)) (gName 3))
    (tSeq (tAsg (tOp rFdvW (tOp (rIx K) (tVar 0) (tC (.int 0))) (tVar 1)) (gSub (tVar 0) (tC (.int 0)) rSetL))
    (tRet (tVar 3)))) tNext)
    (tSeq (tAsg (tOp rAdd (tOp (rIx K) (tVar 0) (tC (.int 2))) (tC (.int 1))) (gSub (tVar 0) (tC (.int 2)) rSetL))
    (tSeq (tAsg (tOp rMod (tCB rInt1 (tCons (tOp rPow (tOp rAdd (tOp (rIx K) (tVar 0) (tC (.int 1))) (tOp rMulW (tC (.int 1000003)) (tOp (rIx K) (tVar 0) (tC (.int 2))))) (tC (.int 3))) tNil)) (tC (.int 2305843009213693921))) (gName 2))
    (tSeq (tAsg (tOp rMod (tCB rInt1 (tCons (tOp rPow (tOp rAdd (tVar 2) (tOp rMulW (tC (.int 15485863)) (tOp (rIx K) (tVar 0) (tC (.int 2))))) (tC (.int 2))) tNil)) (tC (.int 2305843009213693951))) (gName 2))
    (tRet (tOp rMod (tCB rInt1 (tCons (tOp rFdvW (tVar 2) (tC (.int 8192))) tNil)) (tVar 1)))))))
def n__law_take : List Str := ["_law_bag_here", "_law_many", "_law_mixed", "_law_digit"]
def sp__law_take (K : PySem.W.Frag) (A : Ads) : Sp := fun vs H Q _ => ∃ (b : Addr) (many : Int) (n : Nat), vs = [.ref b, .int many] ∧ Bag (n + 1) H b ∧ 0 < many ∧ many.natAbs < 2 ^ 9000 ∧
  ∀ d H', 0 ≤ d → d < many → Xb b H H' → Bag n H' b → Q (.int d) H'
theorem len__law_take {K : PySem.W.Frag} {A : Ads} {vs : List V} {H : Hp} {Q : VK} {E : XK} (h : sp__law_take K A vs H Q E) : vs.length = 2 := by
  obtain ⟨b, many, n, rfl, _⟩ := h
  rfl
local macro_rules | `(tactic| walk_at "v") => `(tactic| refine ⟨_, rfl, ?_⟩)
local macro_rules | `(tactic| walk_at "ii") => `(tactic| refine ⟨_, _, rfl, rfl, ?_⟩)
local macro_rules | `(tactic| walk_at "ixL") => `(tactic| refine Or.inl ⟨_, _, _, _, rfl, rfl, SqL.of (by assumption), rfl, ?_⟩)
set_option maxHeartbeats 400000 in
theorem pure__law_take {K : PySem.W.Frag} {A : Ads} {vs : List V} {H : Hp} {Q : VK} {E : XK} (h : sp__law_take K A vs H Q E) :
    t__law_take K A E { nx := fun _ H' => Q .non H', rt := Q } (start n__law_take vs) H := by
  obtain ⟨b, many, n, rfl, ⟨L, S, C, hb, hL, hS, hS2, hC, hCn⟩, hm, hm2, q⟩ := h
  have em : many.natAbs.log2 < 9000 := pow_lt hm2 (by decide)
  walk_at "v"; walk_at "ixL"; walk_at "ii"; walk_at "v"
  refine iteD (fun h0 => ?_) (fun h0 => ?_)
  · walk_at "v"; walk_at "ixL"; refine Or.inl ⟨_, rfl, ?_⟩; walk_at "v"; refine ⟨_, _, rfl, rfl, hm, ?_⟩
    walk_at "v"; walk_at "ixL"; walk_at "v"; refine ⟨_, _, rfl, rfl, ⟨hm, em⟩, ?_⟩
    walk_at "v"; refine ⟨_, _, _, _, rfl, rfl, hb, rfl, ?_⟩
    walk_at "v"
    refine q _ _ (Int.emod_nonneg _ (by omega)) (Int.emod_lt_of_pos _ hm) (Xb.upd Xb.refl) ⟨_, S, C, upd_same, Int.ediv_nonneg hL (by omega), hS, hS2, hC, by omega⟩
  · walk_at "v"; walk_at "ixL"; walk_at "ii"; walk_at "v"; refine ⟨_, _, _, _, rfl, rfl, hb, rfl, ?_⟩
    generalize e2 : upd H b _ = H2
    have hb2 : H2 b = some (.lst [V.int L, V.int S, V.int (C + 1)]) := by rw [← e2]; exact upd_same
    have x2 : Xb b H H2 := by rw [← e2]; exact Xb.upd Xb.refl
    walk_at "v"; walk_at "ixL"; walk_at "v"; walk_at "ixL"; refine ⟨_, _, rfl, rfl, CMulW.small (by decide) (by omega) (by omega), ?_⟩
    walk_at "ii"; refine ⟨_, _, rfl, rfl, ⟨by decide, by decide, by omega⟩, ?_⟩; refine Or.inl ⟨_, rfl, ?_⟩; refine ⟨_, _, rfl, rfl, (by decide : (0 : Int) < 2305843009213693921), ?_⟩
    have b1 := Int.emod_nonneg ((S + 1000003 * (C + 1)) ^ (3 : Int).toNat) (by decide : (2305843009213693921 : Int) ≠ 0)
    have b2 := Int.emod_lt_of_pos ((S + 1000003 * (C + 1)) ^ (3 : Int).toNat) (by decide : (0 : Int) < 2305843009213693921)
    generalize (S + 1000003 * (C + 1)) ^ (3 : Int).toNat % 2305843009213693921 = M at b1 b2 ⊢
    walk_at "v"; walk_at "v"; walk_at "ixL"; refine ⟨_, _, rfl, rfl, CMulW.small (by decide) (by omega) (by omega), ?_⟩
    walk_at "ii"; refine ⟨_, _, rfl, rfl, ⟨by decide, by decide, by omega⟩, ?_⟩; refine Or.inl ⟨_, rfl, ?_⟩; refine ⟨_, _, rfl, rfl, (by decide : (0 : Int) < 2305843009213693951), ?_⟩
    walk_at "v"; refine ⟨_, _, rfl, rfl, ⟨(by decide : (0 : Int) < 8192), by decide +kernel⟩, ?_⟩; refine Or.inl ⟨_, rfl, ?_⟩; walk_at "v"; refine ⟨_, _, rfl, rfl, hm, ?_⟩
    exact q _ _ (Int.emod_nonneg _ (by omega)) (Int.emod_lt_of_pos _ hm) x2 ⟨L, S, C + 1, hb2, hL, hS, hS2, by omega, by omega⟩
end Md

set_option Elab.async false
set_option linter.all false
set_option maxRecDepth 100000
set_option maxHeartbeats 4000000
namespace Md
/-! ### fractions in lowest terms (plain Lean) -/
/-- the greatest common divisor -/
def gI (p q : Int) : Int := ((Nat.gcd p.natAbs q.natAbs : Nat) : Int)
def lowN (p q : Int) : Int := p / gI p q
def lowD (p q : Int) : Int := q / gI p q
def Cop (p q : Int) : Prop := Nat.gcd p.natAbs q.natAbs = 1
theorem gI_pos {p q : Int} (h : q ≠ 0) : 0 < gI p q := by
  unfold gI
  have : 0 < Nat.gcd p.natAbs q.natAbs := Nat.gcd_pos_of_pos_right _ (by omega)
  omega
theorem gI_dvd_l (p q : Int) : gI p q ∣ p := Int.ofNat_dvd_left.mpr (Nat.gcd_dvd_left ..)
theorem gI_dvd_r (p q : Int) : gI p q ∣ q := Int.ofNat_dvd_left.mpr (Nat.gcd_dvd_right ..)
theorem low_l (p q : Int) : gI p q * lowN p q = p := Int.mul_ediv_cancel' (gI_dvd_l p q)
theorem low_r (p q : Int) : gI p q * lowD p q = q := Int.mul_ediv_cancel' (gI_dvd_r p q)
theorem lowD_pos {p q : Int} (h : 0 < q) : 0 < lowD p q := by
  have h1 := gI_pos (p := p) (q := q) (by omega)
  have h2 := low_r p q
  rcases Int.lt_or_le 0 (lowD p q) with h3 | h3
  · exact h3
  · have := Int.mul_nonpos_of_nonneg_of_nonpos (Int.le_of_lt h1) h3
    omega
theorem low_cop {p q : Int} (h : q ≠ 0) : Cop (lowN p q) (lowD p q) := by
  have h1 := gI_pos (p := p) (q := q) h
  have e1 : (gI p q).natAbs * (lowN p q).natAbs = p.natAbs := by rw [← Int.natAbs_mul, low_l]
  have e2 : (gI p q).natAbs * (lowD p q).natAbs = q.natAbs := by rw [← Int.natAbs_mul, low_r]
  have e3 : (gI p q).natAbs = Nat.gcd p.natAbs q.natAbs := by unfold gI; omega
  have e4 : Nat.gcd ((gI p q).natAbs * (lowN p q).natAbs) ((gI p q).natAbs * (lowD p q).natAbs) = (gI p q).natAbs * Nat.gcd (lowN p q).natAbs (lowD p q).natAbs := Nat.gcd_mul_left ..
  rw [e1, e2, ← e3] at e4
  have h5 : 0 < (gI p q).natAbs := by omega
  have e6 : (gI p q).natAbs * 1 = (gI p q).natAbs * Nat.gcd (lowN p q).natAbs (lowD p q).natAbs := by rw [Nat.mul_one]; exact e4
  exact (Nat.eq_of_mul_eq_mul_left h5 e6).symm
theorem low_cross {p q : Int} : lowN p q * q = p * lowD p q := by
  have h1 := low_l p q
  have h2 := low_r p q
  calc lowN p q * q = lowN p q * (gI p q * lowD p q) := by rw [h2]
    _ = (gI p q * lowN p q) * lowD p q := by rw [← Int.mul_assoc, Int.mul_comm (lowN p q)]
    _ = p * lowD p q := by rw [h1]
/-- two fractions in lowest terms of one value are one -/
theorem cop_uniq {p q p' q' : Int} (h : Cop p q) (h' : Cop p' q') (hq : 0 < q) (hq' : 0 < q') (e : p * q' = p' * q) : p = p' ∧ q = q' := by
  have e2 : p.natAbs * q'.natAbs = p'.natAbs * q.natAbs := by rw [← Int.natAbs_mul, ← Int.natAbs_mul, e]
  have d1 : q.natAbs ∣ q'.natAbs := by
    have : q.natAbs ∣ p.natAbs * q'.natAbs := by rw [e2]; exact Nat.dvd_mul_left ..
    exact (Nat.Coprime.symm h : Nat.Coprime q.natAbs p.natAbs).dvd_of_dvd_mul_left this
  have d2 : q'.natAbs ∣ q.natAbs := by
    have : q'.natAbs ∣ p'.natAbs * q.natAbs := by rw [← e2]; exact Nat.dvd_mul_left ..
    exact (Nat.Coprime.symm h' : Nat.Coprime q'.natAbs p'.natAbs).dvd_of_dvd_mul_left this
  have e3 : q.natAbs = q'.natAbs := Nat.dvd_antisymm d1 d2
  have e4 : q = q' := by omega
  subst e4
  exact ⟨Int.eq_of_mul_eq_mul_right (by omega) e, rfl⟩
theorem low_of_cop {p q : Int} (h : Cop p q) (hq : 0 < q) : lowN p q = p ∧ lowD p q = q := by
  have e : gI p q = 1 := by unfold gI; rw [h]; rfl
  unfold lowN lowD
  rw [e, Int.ediv_one, Int.ediv_one]
  exact ⟨rfl, rfl⟩
theorem low_mul {p q c : Int} (hq : 0 < q) (hc : 0 < c) : lowN (p * c) (q * c) = lowN p q ∧ lowD (p * c) (q * c) = lowD p q := by
  have hqc : 0 < q * c := Int.mul_pos hq hc
  refine cop_uniq (low_cop (by omega)) (low_cop (by omega)) (lowD_pos hqc) (lowD_pos hq) ?_
  have h1 : lowN (p * c) (q * c) * (q * c) = (p * c) * lowD (p * c) (q * c) := low_cross
  have h2 : lowN p q * q = p * lowD p q := low_cross
  -- cancel q * c
  refine Int.eq_of_mul_eq_mul_right (a := q * c) (by omega) ?_
  calc lowN (p * c) (q * c) * lowD p q * (q * c) = (lowN (p * c) (q * c) * (q * c)) * lowD p q := by rw [Int.mul_assoc, Int.mul_comm (lowD p q), ← Int.mul_assoc]
    _ = (p * c * lowD (p * c) (q * c)) * lowD p q := by rw [h1]
    _ = (p * lowD p q) * (c * lowD (p * c) (q * c)) := by
      rw [Int.mul_assoc p, Int.mul_assoc p, Int.mul_assoc p, Int.mul_comm (lowD p q)]
    _ = (lowN p q * q) * (c * lowD (p * c) (q * c)) := by rw [h2]
    _ = lowN p q * lowD (p * c) (q * c) * (q * c) := by
      rw [Int.mul_assoc, Int.mul_assoc, ← Int.mul_assoc q c, Int.mul_comm (q * c)]
theorem low_one (p : Int) : lowN p 1 = p ∧ lowD p 1 = 1 := low_of_cop (by unfold Cop; simp) (by decide)
theorem low_neg (p q : Int) : lowN (-p) q = -lowN p q ∧ lowD (-p) q = lowD p q := by
  have e : gI (-p) q = gI p q := by unfold gI; rw [Int.natAbs_neg]
  unfold lowN lowD
  rw [e]
  exact ⟨Int.neg_ediv_of_dvd (gI_dvd_l p q), rfl⟩
theorem lowN_le (p q : Int) (h : q ≠ 0) : (lowN p q).natAbs ≤ p.natAbs := by
  have e1 : (gI p q).natAbs * (lowN p q).natAbs = p.natAbs := by rw [← Int.natAbs_mul, low_l]
  have h1 := gI_pos (p := p) (q := q) h
  rw [← e1]
  exact Nat.le_mul_of_pos_left _ (by omega)
theorem lowD_le (p q : Int) (h : q ≠ 0) : (lowD p q).natAbs ≤ q.natAbs := by
  have e1 : (gI p q).natAbs * (lowD p q).natAbs = q.natAbs := by rw [← Int.natAbs_mul, low_r]
  have h1 := gI_pos (p := p) (q := q) h
  rw [← e1]
  exact Nat.le_mul_of_pos_left _ (by omega)
/-- the fraction top/bottom, bottom of either sign -/
def frN (p q : Int) : Int := if q < 0 then lowN (-p) (-q) else lowN p q
def frD (p q : Int) : Int := if q < 0 then lowD (-p) (-q) else lowD p q
theorem gI_neg (p q : Int) : gI (-p) (-q) = gI p q := by unfold gI; rw [Int.natAbs_neg, Int.natAbs_neg]
theorem frD_pos {p q : Int} (h : q ≠ 0) : 0 < frD p q := by
  unfold frD
  split
  · exact lowD_pos (by omega)
  · exact lowD_pos (by omega)
theorem fr_cop {p q : Int} (h : q ≠ 0) : Cop (frN p q) (frD p q) := by
  unfold frN frD
  split
  · exact low_cop (by omega)
  · exact low_cop h
/-! ### sizes -/
theorem nat_mul_lt {a b m n : Nat} (h1 : a < 2 ^ m) (h2 : b < 2 ^ n) : a * b < 2 ^ (m + n) := by
  rw [Nat.pow_add]
  exact Nat.mul_lt_mul'' h1 h2
theorem int_mul_lt {a b : Int} {m n : Nat} (h1 : a.natAbs < 2 ^ m) (h2 : b.natAbs < 2 ^ n) : (a * b).natAbs < 2 ^ (m + n) := by
  rw [Int.natAbs_mul]
  exact nat_mul_lt h1 h2
theorem pow_mono {m n : Nat} {a : Nat} (h : a < 2 ^ m) (l : m ≤ n) : a < 2 ^ n := Nat.lt_of_lt_of_le h (Nat.pow_le_pow_right (by decide) l)
end Md

set_option Elab.async false
set_option linter.all false
set_option maxRecDepth 100000
set_option maxHeartbeats 4000000
namespace Md
open PySem PySem.Spec PyProof.Rows PySem.Calls L2
local macro_rules | `(tactic| walk_at "v") => `(tactic| refine ⟨_, rfl, ?_⟩)
local macro_rules | `(tactic| walk_at "ii") => `(tactic| refine ⟨_, _, rfl, rfl, ?_⟩)
local macro_rules | `(tactic| walk_at "ixL") => `(tactic| refine Or.inl ⟨_, _, _, _, rfl, rfl, SqL.of (by assumption), rfl, ?_⟩)
local macro_rules | `(tactic| walk_at "ixT") => `(tactic| refine Or.inr (Or.inl ⟨_, _, _, _, rfl, rfl, SqT.of (by assumption), rfl, ?_⟩))

/-! ### types of values -/
def isIntV : V → Bool
  | .int _ => true
  | _ => false
def isBoolV : V → Bool
  | .bl _ => true
  | _ => false
theorem isi_of {K : PySem.W.Frag} {H : Hp} {x : V} {T C : String} {b : Bool} {Q : VK} (ty : TyX K H x (.type T)) (h : kitB T C = some b) (q : Q (.bl b) H) : rIsi K [x, .ty C] H Q := ⟨x, .ty C, _, _, b, rfl, .ty C, ty, kit_ty h, q⟩
theorem kit_int {K : PySem.W.Frag} {H : Hp} {x : V} {T : String} (ty : TyX K H x (.type T)) : kitB T "int" = some (isIntV x || isBoolV x) ∧ kitB T "bool" = some (isBoolV x) := by
  cases ty with
  | base b => cases b <;> (constructor <;> (simp only [isIntV, isBoolV, Bool.or_false, Bool.or_true, Bool.false_or, Bool.true_or]; decide +kernel))
  | _ => constructor <;> (simp only [isIntV, isBoolV, Bool.or_false, Bool.or_true, Bool.false_or, Bool.true_or]; decide +kernel)
theorem ty_int {K : PySem.W.Frag} {H : Hp} {i : Int} : TyX K H (.int i) (.type "int") := .base (.int i)
theorem ty_tup {K : PySem.W.Frag} {H : Hp} {a : Addr} {xs : List V} (h : H a = some (.tup xs)) : TyX K H (.ref a) (.type "tuple") := .base (.tup h)

/-! ### an error class of one field -/
def spXi (C : Addr) (f : Str) : Sp := fun vs H Q _ => ∃ (a : Addr) (x : V), vs = [.ref a, x] ∧ H a = some (exo a C none) ∧ ∀ d, H d = none → d ≠ a → Q .non (upd (upd H d (exd d [(f, x)])) a (exo a C (some d)))
theorem len_xi {C : Addr} {f : Str} {vs : List V} {H : Hp} {Q : VK} {E : XK} (h : spXi C f vs H Q E) : vs.length = 2 := by
  obtain ⟨a, x, rfl, _⟩ := h
  rfl
def t_xi (K : PySem.W.Frag) (f : Str) : TS := tOst K f (tVar 0) (tVar 1)
theorem pure_xi {K : PySem.W.Frag} {C : Addr} {f n : Str} (T : OexC K C) (hn : PySem.W.findIn K (.ref C) f = some none) {vs : List V} {H : Hp} {Q : VK} {E : XK} (h : spXi C f vs H Q E) :
    t_xi K f { nx := fun _ H' => Q .non H', rt := Q } (start ["self", n] vs) H := by
  obtain ⟨a, x, rfl, ha, q⟩ := h
  walk_at "v"; walk_at "v"
  exact ⟨a, C, rfl, T, hn, .inl ⟨ha, fun dx h1 h2 => q dx h1 h2⟩⟩
/-- such an error is made -/
theorem mk_xi {C : Addr} {f : Str} {x : V} {H : Hp} {Q : XK} (q : ∀ d H', Same H H' → H' d = some (.xd [(f, x)]) → Q (.ref C) (some d) H') :
    [x].length ≤ 1000 ∧ ∀ a, H a = none → spXi C f (.ref a :: ([x] ++ [])) (upd H a (exo a C none)) (fun v H2 => v = .non ∧ ∃ (d : Addr) (fs : List (Str × V)), H2 a = some (exo a C (some d)) ∧ H2 d = some (exd d fs) ∧ H d = none ∧ Q (.ref C) (some d) (upd (del H2 a) d (.xd fs))) (fun _ _ _ => False) := by
  refine ⟨by show 1 ≤ 1000; decide, fun a ha => ⟨a, x, rfl, upd_same, fun d hd hda => ⟨rfl, d, [(f, x)], upd_same, ?_, ?_, ?_⟩⟩⟩
  · rw [upd_ne hda, upd_same]
  · rw [upd_ne hda] at hd; exact hd
  · rw [upd_ne hda] at hd
    refine q d _ (fun b o e => ?_) upd_same
    have nb : b ≠ d := ne_of_none e hd
    have na : b ≠ a := ne_of_none e ha
    rw [upd_ne nb, del_ne na, upd_ne na, upd_ne nb, upd_ne na]
    exact e

/-! ### numbers in the heap -/
def NumAt (H : Hp) (x : V) (p q : Int) : Prop := (x = .int p ∧ q = 1) ∨ ∃ a, x = .ref a ∧ H a = some (.tup [.int p, .int q]) ∧ 2 ≤ q ∧ Cop p q
def PairAt (H : Hp) (x : V) (p q : Int) : Prop := ∃ a, x = .ref a ∧ H a = some (.tup [.int p, .int q])
theorem NumAt.same {H H' : Hp} {x : V} {p q : Int} (h : NumAt H x p q) (s : Same H H') : NumAt H' x p q := by
  rcases h with h | ⟨a, e, ha, h⟩
  · exact .inl h
  · exact .inr ⟨a, e, s _ _ ha, h⟩
theorem NumAt.xb {H H' : Hp} {x : V} {p q : Int} {b : Addr} {n : Nat} (h : NumAt H x p q) (hb : Bag n H b) (s : Xb b H H') : NumAt H' x p q := by
  rcases h with h | ⟨a, e, ha, h⟩
  · exact .inl h
  · exact .inr ⟨a, e, s.tupB hb ha, h⟩
theorem NumAt.pos {H : Hp} {x : V} {p q : Int} (h : NumAt H x p q) : 0 < q := by
  rcases h with ⟨_, h⟩ | ⟨a, e, ha, h, _⟩ <;> omega
theorem NumAt.cop {H : Hp} {x : V} {p q : Int} (h : NumAt H x p q) : Cop p q := by
  rcases h with ⟨_, h⟩ | ⟨a, e, ha, h, c⟩
  · subst h; unfold Cop; simp
  · exact c
theorem NumAt.ty {K : PySem.W.Frag} {H : Hp} {x : V} {p q : Int} (h : NumAt H x p q) : ∃ T, TyX K H x (.type T) := by
  rcases h with ⟨rfl, h⟩ | ⟨a, rfl, ha, h, _⟩
  · exact ⟨_, ty_int⟩
  · exact ⟨_, ty_tup ha⟩
theorem PairAt.same {H H' : Hp} {x : V} {p q : Int} (h : PairAt H x p q) (s : Same H H') : PairAt H' x p q := by
  obtain ⟨a, e, ha⟩ := h
  exact ⟨a, e, s _ _ ha⟩
theorem PairAt.xb {H H' : Hp} {x : V} {p q : Int} {b : Addr} {n : Nat} (h : PairAt H x p q) (hb : Bag n H b) (s : Xb b H H') : PairAt H' x p q := by
  obtain ⟨a, e, ha⟩ := h
  exact ⟨a, e, s.tupB hb ha⟩
theorem NumAt.int (H : Hp) (p : Int) : NumAt H (.int p) p 1 := .inl ⟨rfl, rfl⟩
/-- a fraction in lowest terms, laid as a number -/
theorem NumAt.eqv {H : Hp} {x : V} {p q p' q' : Int} (h : NumAt H x p q) (e1 : p = p') (e2 : q = q') : NumAt H x p' q' := by subst e1 e2; exact h

/-! ### is_whole, _law_is_int -/
def t_is_whole (K : PySem.W.Frag) (A : Ads) (E : XK) : TS :=
    (tRet (tAndV (tCB (rIsi K) (tCons (tVar 0) (tCons (tC (.ty "int")) tNil))) (tNotV (tCB (rIsi K) (tCons (tVar 0) (tCons (tC (.ty "bool")) tNil))))))
def n_is_whole : List Str := ["thing"]
def sp_is_whole (K : PySem.W.Frag) (A : Ads) : Sp := fun vs H Q _ => ∃ (x : V) (T : String), vs = [x] ∧ TyX K H x (.type T) ∧ Q (.bl (isIntV x)) H
theorem len_is_whole {K : PySem.W.Frag} {A : Ads} {vs : List V} {H : Hp} {Q : VK} {E : XK} (h : sp_is_whole K A vs H Q E) : vs.length = 1 := by
  obtain ⟨x, T, rfl, _⟩ := h
  rfl
theorem pure_is_whole {K : PySem.W.Frag} {A : Ads} {vs : List V} {H : Hp} {Q : VK} {E : XK} (h : sp_is_whole K A vs H Q E) : t_is_whole K A E { nx := fun _ H' => Q .non H', rt := Q } (start n_is_whole vs) H := by
  obtain ⟨x, T, rfl, ty, q⟩ := h
  obtain ⟨e1, e2⟩ := kit_int ty
  walk_at "v"
  refine ⟨_, _, _, _, _, rfl, .ty _, ty, kit_ty e1, ?_⟩
  refine ⟨_, rfl, ?_⟩
  refine iteB (fun h1 => ?_) (fun h1 => ?_)
  · walk_at "v"
    refine ⟨_, _, _, _, _, rfl, .ty _, ty, kit_ty e2, ?_⟩
    refine ⟨_, rfl, ?_⟩
    cases x <;> first | exact q | (simp [isIntV, isBoolV] at h1)
  · cases x <;> first | exact q | (simp [isIntV, isBoolV] at h1)
def t__law_is_int (K : PySem.W.Frag) (A : Ads) (E : XK) : TS :=
    (tRet (tAndV (tCB (rIsi K) (tCons (tVar 0) (tCons (tC (.ty "int")) tNil))) (tNotV (tCB (rIsi K) (tCons (tVar 0) (tCons (tC (.ty "bool")) tNil))))))
def n__law_is_int : List Str := ["_law_thing"]
def sp__law_is_int (K : PySem.W.Frag) (A : Ads) : Sp := sp_is_whole K A
theorem len__law_is_int {K : PySem.W.Frag} {A : Ads} {vs : List V} {H : Hp} {Q : VK} {E : XK} (h : sp__law_is_int K A vs H Q E) : vs.length = 1 := len_is_whole h
theorem pure__law_is_int {K : PySem.W.Frag} {A : Ads} {vs : List V} {H : Hp} {Q : VK} {E : XK} (h : sp__law_is_int K A vs H Q E) : t__law_is_int K A E { nx := fun _ H' => Q .non H', rt := Q } (start n__law_is_int vs) H := pure_is_whole h

/-! ### number -/
def sp_BadNumber___init__ (K : PySem.W.Frag) (A : Ads) : Sp := spXi A.cBadNumber "thing"
def t_number (K : PySem.W.Frag) (A : Ads) (E : XK) : TS :=
    (tSeq (tIfS (tTest (tOp rEq (tVar 1) (tC (.int 0)))) (tRaise E (tMkO A.cBadNumber (sp_BadNumber___init__ K A) [] (tCons (tVar 1) tNil))) tNext)
    (tSeq (tAsg (tCB rGcd (tCons (tVar 0) (tCons (tVar 1) tNil))) (gName 2))
    (tSeq (tIfS (tTest (tOp rLt (tVar 1) (tC (.int 0)))) (tAsg (tUn rNeg (tVar 2)) (gName 2)) tNext)
    (tSeq (tIfS (tTest (tOp rEq (tVar 1) (tVar 2))) (tRet (tOp rFdvG (tVar 0) (tVar 2))) tNext)
    (tRet (tTup (tCons (tOp rFdvG (tVar 0) (tVar 2)) (tCons (tOp rFdvG (tVar 1) (tVar 2)) tNil))))))))
def n_number : List Str := ["top", "bottom", "shared"]
def sp_number (K : PySem.W.Frag) (A : Ads) : Sp := fun vs H Q E => ∃ p q : Int, vs = [.int p, .int q] ∧ q.natAbs < 2 ^ 9000 ∧ (q ≠ 0 → ∀ x H', Same H H' → NumAt H' x (frN p q) (frD p q) → Q x H') ∧
  (q = 0 → ∀ d H', Same H H' → H' d = some (.xd [("thing", .int 0)]) → E (.ref A.cBadNumber) (some d) H')
theorem len_number {K : PySem.W.Frag} {A : Ads} {vs : List V} {H : Hp} {Q : VK} {E : XK} (h : sp_number K A vs H Q E) : vs.length = 2 := by
  obtain ⟨p, q, rfl, _⟩ := h
  rfl
theorem fdiv_exact {p s k : Int} (hs : s ≠ 0) (e : p = s * k) : p.fdiv s = k := by rw [e]; exact Int.mul_fdiv_cancel_left k hs
theorem gI_size {p q : Int} (h : q ≠ 0) : (gI p q).natAbs ≤ q.natAbs := by
  have e1 : (gI p q).natAbs * (lowD p q).natAbs = q.natAbs := by rw [← Int.natAbs_mul, low_r]
  have : 0 < (lowD p q).natAbs := by
    rcases Nat.eq_zero_or_pos (lowD p q).natAbs with z | z
    · rw [z] at e1; omega
    · exact z
  rw [← e1]
  exact Nat.le_mul_of_pos_right _ this
theorem pure_number {K : PySem.W.Frag} {A : Ads} {vs : List V} {H : Hp} {Q : VK} {E : XK} (h : sp_number K A vs H Q E) : t_number K A E { nx := fun _ H' => Q .non H', rt := Q } (start n_number vs) H := by
  obtain ⟨p, q, rfl, hz, kQ, kE⟩ := h
  walk_at "v"; refine ⟨rfl, ?_⟩; walk_at "v"
  refine iteD (fun h0 => ?_) (fun h0 => ?_)
  · have e0 : q = 0 := V.int.inj h0
    subst e0
    walk_at "v"
    exact mk_xi fun d H' s e => kE rfl d H' s e
  have hq : q ≠ 0 := fun z => h0 (by rw [z])
  have hg := gI_pos (p := p) (q := q) hq
  have hs := gI_size (p := p) hq
  walk_at "v"; walk_at "v"; refine ⟨_, _, rfl, ?_⟩
  have main : ∀ s : Int, (s = gI p q ∧ 0 < q ∨ s = -gI p q ∧ q < 0) → (tSeq (tIfS (tTest (tOp rEq (tVar 1) (tVar 2))) (tRet (tOp rFdvG (tVar 0) (tVar 2))) tNext) (tRet (tTup (tCons (tOp rFdvG (tVar 0) (tVar 2)) (tCons (tOp rFdvG (tVar 1) (tVar 2)) tNil)))))
      { nx := fun _ H' => Q .non H', rt := Q } [some (.int p), some (.int q), some (.int s)] H := by
    intro s hs2
    have s0 : s ≠ 0 := by omega
    have sz : s.natAbs.log2 < 9000 := pow_lt (Nat.lt_of_le_of_lt (by omega) hz) (by decide)
    obtain ⟨eN, eD⟩ : p.fdiv s = frN p q ∧ q.fdiv s = frD p q := by
      unfold frN frD
      rcases hs2 with ⟨e, h1⟩ | ⟨e, h1⟩
      · rw [if_neg (by omega), if_neg (by omega), e]
        exact ⟨fdiv_exact (by omega) (low_l p q).symm, fdiv_exact (by omega) (low_r p q).symm⟩
      · rw [if_pos h1, if_pos h1]
        have l1 := low_l (-p) (-q)
        have l2 := low_r (-p) (-q)
        rw [gI_neg] at l1 l2
        refine ⟨fdiv_exact s0 ?_, fdiv_exact s0 ?_⟩
        · rw [e, Int.neg_mul, l1, Int.neg_neg]
        · rw [e, Int.neg_mul, l2, Int.neg_neg]
    have hD := frD_pos (p := p) hq
    have hC := fr_cop (p := p) hq
    walk_at "v"; walk_at "v"; refine ⟨rfl, ?_⟩; walk_at "v"
    refine iteD (fun h1 => ?_) (fun h1 => ?_)
    · have e1 : q = s := V.int.inj h1
      walk_at "v"; walk_at "v"; refine ⟨_, _, rfl, rfl, ⟨s0, sz⟩, ?_⟩
      refine kQ hq _ _ (Same.refl H) (.inl ⟨congrArg V.int eN, ?_⟩)
      rw [← eD, ← e1]
      exact fdiv_exact hq (by omega)
    · walk_at "v"; walk_at "v"; refine ⟨_, _, rfl, rfl, ⟨s0, sz⟩, ?_⟩
      walk_at "v"; walk_at "v"; refine ⟨_, _, rfl, rfl, ⟨s0, sz⟩, ?_⟩
      refine ⟨by show 2 ≤ sizeLine; decide, fun a ha => ?_⟩
      refine kQ hq _ _ (Same.new ha) (.inr ⟨a, rfl, ?_, ?_, hC⟩)
      · exact upd_same.trans (by show some (HO.tup [V.int (p.fdiv s), V.int (q.fdiv s)]) = _; rw [eN, eD])
      · rcases Int.lt_or_le (frD p q) 2 with z | z
        · exfalso
          have z1 : frD p q = 1 := by omega
          apply h1
          have : q = s * frD p q := by
            rcases hs2 with ⟨e, h2⟩ | ⟨e, h2⟩
            · unfold frD; rw [if_neg (by omega), e, low_r]
            · unfold frD
              have l2 := low_r (-p) (-q)
              rw [gI_neg] at l2
              rw [if_pos h2, e, Int.neg_mul, l2, Int.neg_neg]
          rw [z1, Int.mul_one] at this
          rw [this]
        · exact z
  walk_at "v"; walk_at "ii"; walk_at "v"
  refine iteD (fun h1 => ?_) (fun h1 => ?_)
  · walk_at "v"; walk_at "v"
    exact main _ (.inr ⟨rfl, h1⟩)
  · exact main _ (.inl ⟨rfl, by omega⟩)
end Md

set_option Elab.async false
set_option linter.all false
set_option maxRecDepth 100000
set_option maxHeartbeats 4000000
namespace Md
open PySem PySem.Spec PyProof.Rows PySem.Calls L2
local macro_rules | `(tactic| walk_at "v") => `(tactic| refine ⟨_, rfl, ?_⟩)
local macro_rules | `(tactic| walk_at "ii") => `(tactic| refine ⟨_, _, rfl, rfl, ?_⟩)
local macro_rules | `(tactic| walk_at "ixL") => `(tactic| refine Or.inl ⟨_, _, _, _, rfl, rfl, SqL.of (by assumption), rfl, ?_⟩)
local macro_rules | `(tactic| walk_at "ixT") => `(tactic| refine Or.inr (Or.inl ⟨_, _, _, _, rfl, rfl, SqT.of (by assumption), rfl, ?_⟩))

/-! ### _over -/
def t__over (K : PySem.W.Frag) (A : Ads) (E : XK) : TS :=
    (tSeq (tIfS (tB (tCall (sp_is_whole K A) [] E0 (tCons (tVar 0) tNil))) (tRet (tTup (tCons (tVar 0) (tCons (tC (.int 1)) tNil)))) tNext)
    (tRet (tVar 0)))
def n__over : List Str := ["value"]
def sp__over (K : PySem.W.Frag) (A : Ads) : Sp := fun vs H Q _ => ∃ (x : V) (p q : Int), vs = [x] ∧ NumAt H x p q ∧ ∀ y H', Same H H' → PairAt H' y p q → Q y H'
theorem len__over {K : PySem.W.Frag} {A : Ads} {vs : List V} {H : Hp} {Q : VK} {E : XK} (h : sp__over K A vs H Q E) : vs.length = 1 := by
  obtain ⟨x, p, q, rfl, _⟩ := h
  rfl
theorem pure__over {K : PySem.W.Frag} {A : Ads} {vs : List V} {H : Hp} {Q : VK} {E : XK} (h : sp__over K A vs H Q E) : t__over K A E { nx := fun _ H' => Q .non H', rt := Q } (start n__over vs) H := by
  obtain ⟨x, p, q, rfl, hn, k⟩ := h
  rcases hn with ⟨rfl, rfl⟩ | ⟨a, rfl, ha, h2, hc⟩
  · walk_at "v"
    refine ⟨_, _, rfl, ty_int, ⟨_, rfl, ?_⟩⟩
    show (if true = true then _ else _)
    refine iteT ?_
    walk_at "v"
    refine ⟨by show 2 ≤ sizeLine; decide, fun t ht => ?_⟩
    exact k _ _ (Same.new ht) ⟨t, rfl, upd_same⟩
  · walk_at "v"
    refine ⟨_, _, rfl, ty_tup ha, ⟨_, rfl, ?_⟩⟩
    refine iteF ?_
    walk_at "v"
    exact k _ _ (Same.refl H) ⟨a, rfl, ha⟩
/-! ### compare -/
def cmpI (a b : Int) : Int := if a < b then -1 else if b < a then 1 else 0
def t_compare (K : PySem.W.Frag) (A : Ads) (E : XK) : TS :=
    (tSeq (tAsg (tCall (sp__over K A) [] E0 (tCons (tVar 0) tNil)) (gTup K 2 (gCons (gName 4) (gCons (gName 5) gNil))))
    (tSeq (tAsg (tCall (sp__over K A) [] E0 (tCons (tVar 1) tNil)) (gTup K 2 (gCons (gName 6) (gCons (gName 7) gNil))))
    (tSeq (tAsg (tOp rMulW (tVar 4) (tVar 7)) (gName 2))
    (tSeq (tAsg (tOp rMulW (tVar 6) (tVar 5)) (gName 3))
    (tSeq (tIfS (tTest (tOp rLt (tVar 2) (tVar 3))) (tRet (tUn rNeg (tC (.int 1)))) tNext)
    (tRet (tIf (tTest (tOp rGt (tVar 2) (tVar 3))) (tC (.int 1)) (tC (.int 0)))))))))
def n_compare : List Str := ["one", "other", "left", "right", "top", "bottom", "other_top", "other_bottom"]
def sp_compare (K : PySem.W.Frag) (A : Ads) : Sp := fun vs H Q _ => ∃ (x y : V) (p q p' q' : Int), vs = [x, y] ∧ NumAt H x p q ∧ NumAt H y p' q' ∧ (p.natAbs < 2 ^ 9000 ∧ q.natAbs < 2 ^ 9000 ∧ p'.natAbs < 2 ^ 9000 ∧ q'.natAbs < 2 ^ 9000) ∧
  ∀ H', Same H H' → Q (.int (cmpI (p * q') (p' * q))) H'
theorem len_compare {K : PySem.W.Frag} {A : Ads} {vs : List V} {H : Hp} {Q : VK} {E : XK} (h : sp_compare K A vs H Q E) : vs.length = 2 := by
  obtain ⟨x, y, p, q, p', q', rfl, _⟩ := h
  rfl
theorem mulW {i j : Int} (h1 : i.natAbs < 2 ^ 9001) (h2 : j.natAbs < 2 ^ 9001) : CMulW i j := wide_mul h1 h2 (by decide) (by decide) (by decide)
theorem mulW0 {i j : Int} (h1 : i.natAbs < 2 ^ 9000) (h2 : j.natAbs < 2 ^ 9000) : CMulW i j := mulW (pow_mono h1 (by decide)) (pow_mono h2 (by decide))
theorem pure_compare {K : PySem.W.Frag} {A : Ads} {vs : List V} {H : Hp} {Q : VK} {E : XK} (h : sp_compare K A vs H Q E) : t_compare K A E { nx := fun _ H' => Q .non H', rt := Q } (start n_compare vs) H := by
  obtain ⟨x, y, p, q, p', q', rfl, h1, h2, ⟨z1, z2, z3, z4⟩, k⟩ := h
  walk_at "v"
  refine ⟨_, _, _, rfl, h1, fun u H1 s1 hu => ?_⟩
  obtain ⟨a, rfl, ha⟩ := hu
  refine ⟨a, _, rfl, SqT.of ha, rfl, _, _, rfl, _, _, rfl, rfl, ?_⟩
  walk_at "v"
  refine ⟨_, _, _, rfl, h2.same s1, fun u2 H2 s2 hu2 => ?_⟩
  obtain ⟨a2, rfl, ha2⟩ := hu2
  refine ⟨a2, _, rfl, SqT.of ha2, rfl, _, _, rfl, _, _, rfl, rfl, ?_⟩
  have s3 := Same.trans s1 s2
  walk_at "v"; walk_at "v"; refine ⟨_, _, rfl, rfl, mulW0 z1 z4, ?_⟩
  walk_at "v"; walk_at "v"; refine ⟨_, _, rfl, rfl, mulW0 z3 z2, ?_⟩
  have kk := k H2 s3
  unfold cmpI at kk
  walk_at "v"; walk_at "v"; walk_at "ii"; walk_at "v"
  refine iteD (fun h0 => ?_) (fun h0 => ?_)
  · refine ⟨_, rfl, ?_⟩
    rw [if_pos h0] at kk
    exact kk
  · rw [if_neg h0] at kk
    walk_at "v"; walk_at "v"; walk_at "ii"; walk_at "v"
    refine iteD (fun h3 => ?_) (fun h3 => ?_)
    · rw [if_pos h3] at kk
      exact kk
    · rw [if_neg h3] at kk
      exact kk
/-! ### _negative -/
def t__negative (K : PySem.W.Frag) (A : Ads) (E : XK) : TS :=
    (tRet (tTup (tCons (tUn rNeg (tOp (rIx K) (tVar 0) (tC (.int 0)))) (tCons (tOp (rIx K) (tVar 0) (tC (.int 1))) tNil))))
def n__negative : List Str := ["over"]
def sp__negative (K : PySem.W.Frag) (A : Ads) : Sp := fun vs H Q _ => ∃ (x : V) (p q : Int), vs = [x] ∧ PairAt H x p q ∧ ∀ y H', Same H H' → PairAt H' y (-p) q → Q y H'
theorem len__negative {K : PySem.W.Frag} {A : Ads} {vs : List V} {H : Hp} {Q : VK} {E : XK} (h : sp__negative K A vs H Q E) : vs.length = 1 := by
  obtain ⟨x, p, q, rfl, _⟩ := h
  rfl
theorem pure__negative {K : PySem.W.Frag} {A : Ads} {vs : List V} {H : Hp} {Q : VK} {E : XK} (h : sp__negative K A vs H Q E) : t__negative K A E { nx := fun _ H' => Q .non H', rt := Q } (start n__negative vs) H := by
  obtain ⟨x, p, q, rfl, ⟨a, rfl, ha⟩, k⟩ := h
  walk_at "v"; walk_at "ixT"; walk_at "v"; walk_at "v"; walk_at "ixT"
  refine ⟨by show 2 ≤ sizeLine; decide, fun t ht => ?_⟩
  exact k _ _ (Same.new ht) ⟨t, rfl, upd_same⟩

/-! ### _law_bag -/
def t__law_bag (K : PySem.W.Frag) (A : Ads) (E : XK) : TS :=
    (tSeq (tAsg (tIf (tTest (tOp rLt (tVar 1) (tCB (rLen K) (tCons (tVar 0) tNil)))) (tOp (rIx K) (tVar 0) (tVar 1)) (tC (.int 0))) (gName 2))
    (tSeq (tAsg (tIf (tTest (tOp rGe (tCB rAbs (tCons (tVar 2) tNil)) (tOp rPow (tC (.int 10)) (tC (.int 18))))) (tCB rAbs (tCons (tVar 2) tNil)) (tC (.int 0))) (gName 3))
    (tRet (tLst (tCons (tVar 3) (tCons (tOp rAdd (tOp rAdd (tOp rMulW (tOp rMod (tCB rInt1 (tCons (tVar 2) tNil)) (tC (.int 2305843009213693951))) (tC (.int 7))) (tOp rMulW (tC (.int 9176)) (tVar 1))) (tC (.int 7001))) (tCons (tC (.int 0)) tNil)))))))
def n__law_bag : List Str := ["_law_script", "_law_at", "_law_cell", "_law_large"]
def sp__law_bag (K : PySem.W.Frag) (A : Ads) : Sp := fun vs H Q _ => ∃ (s : Addr) (ns : List Int) (at_ : Int), vs = [.ref s, .int at_] ∧ SqL K H s (ns.map V.int) ∧ ns.length ≤ 63 ∧ 0 ≤ at_ ∧ at_ ≤ 62 ∧ ∀ b H', H b = none → Same H H' → Bag 549755813888 H' b → Q (.ref b) H'
theorem len__law_bag {K : PySem.W.Frag} {A : Ads} {vs : List V} {H : Hp} {Q : VK} {E : XK} (h : sp__law_bag K A vs H Q E) : vs.length = 2 := by
  obtain ⟨x, p, q, rfl, _⟩ := h
  rfl
theorem atI_map {ns : List Int} {i : Int} (h0 : 0 ≤ i) (h1 : i < ns.length) : ∃ c, atI (ns.map V.int) i = some (.int c) := by
  have h2 : i.toNat < ns.length := by omega
  refine ⟨ns[i.toNat], ?_⟩
  unfold atI ixN
  rw [if_pos h0, List.length_map, if_pos h1]
  show (ns.map V.int)[i.toNat]? = _
  rw [List.getElem?_map, List.getElem?_eq_getElem h2]
  rfl
theorem pure__law_bag {K : PySem.W.Frag} {A : Ads} {vs : List V} {H : Hp} {Q : VK} {E : XK} (h : sp__law_bag K A vs H Q E) : t__law_bag K A E { nx := fun _ H' => Q .non H', rt := Q } (start n__law_bag vs) H := by
  obtain ⟨s, ns, i, rfl, hs, hn, h0, h1, k⟩ := h
  have main : ∀ c : Int, (tSeq (tAsg (tIf (tTest (tOp rGe (tCB rAbs (tCons (tVar 2) tNil)) (tOp rPow (tC (.int 10)) (tC (.int 18))))) (tCB rAbs (tCons (tVar 2) tNil)) (tC (.int 0))) (gName 3))
    (tRet (tLst (tCons (tVar 3) (tCons (tOp rAdd (tOp rAdd (tOp rMulW (tOp rMod (tCB rInt1 (tCons (tVar 2) tNil)) (tC (.int 2305843009213693951))) (tC (.int 7))) (tOp rMulW (tC (.int 9176)) (tVar 1))) (tC (.int 7001))) (tCons (tC (.int 0)) tNil))))))
     { nx := fun _ H' => Q .non H', rt := Q } [some (.ref s), some (.int i), some (.int c), none] H := by
    intro c
    have fin : ∀ L : Int, 0 ≤ L → (tRet (tLst (tCons (tVar 3) (tCons (tOp rAdd (tOp rAdd (tOp rMulW (tOp rMod (tCB rInt1 (tCons (tVar 2) tNil)) (tC (.int 2305843009213693951))) (tC (.int 7))) (tOp rMulW (tC (.int 9176)) (tVar 1))) (tC (.int 7001))) (tCons (tC (.int 0)) tNil)))))
     { nx := fun _ H' => Q .non H', rt := Q } [some (.ref s), some (.int i), some (.int c), some (.int L)] H := by
      intro L hL
      have b1 := Int.emod_nonneg c (by decide : (2305843009213693951 : Int) ≠ 0)
      have b2 := Int.emod_lt_of_pos c (by decide : (0 : Int) < 2305843009213693951)
      walk_at "v"; walk_at "v"; refine Or.inl ⟨_, rfl, ?_⟩; refine ⟨_, _, rfl, rfl, (by decide : (0 : Int) < 2305843009213693951), ?_⟩
      refine ⟨_, _, rfl, rfl, CMulW.small (by omega) (by decide) (by decide), ?_⟩
      walk_at "v"; refine ⟨_, _, rfl, rfl, CMulW.small (by decide) (by omega) (by omega), ?_⟩
      walk_at "ii"; walk_at "ii"
      refine ⟨by show 3 ≤ sizeLine; decide, fun t ht => ?_⟩
      refine k t _ ht (Same.new ht) ⟨L, _, 0, upd_same, hL, by omega, by omega, by omega, by omega⟩
    walk_at "v"; walk_at "v"; refine ⟨_, _, rfl, rfl, ⟨by decide, by decide, by decide⟩, ?_⟩; walk_at "ii"; walk_at "v"
    refine iteD (fun h2 => ?_) (fun h2 => ?_)
    · walk_at "v"; walk_at "v"
      refine fin _ ?_
      split <;> omega
    · exact fin 0 (by omega)
  walk_at "v"; walk_at "v"; refine ⟨_, _, rfl, Or.inl ⟨_, hs, rfl⟩, ?_⟩; walk_at "ii"; walk_at "v"
  refine iteD (fun h2 => ?_) (fun h2 => ?_)
  · rw [List.length_map] at h2
    obtain ⟨c, hc⟩ := atI_map h0 h2
    walk_at "v"; walk_at "v"
    refine Or.inl ⟨_, _, _, _, rfl, rfl, hs, hc, ?_⟩
    exact main c
  · exact main 0

/-! ### _law_value -/
def t__law_value (K : PySem.W.Frag) (A : Ads) (E : XK) : TS :=
    (tSeq (tPar 2 3 (tCons (tCB rAbs (tCons (tVar 0) tNil)) (tCons (tVar 1) tNil)))
    (tSeq (tWhile (tTest (tOp rGt (tVar 2) (tC (.int 0)))) (tPar 2 3 (tCons (tOp rMod (tCB rInt1 (tCons (tVar 3) tNil)) (tVar 2)) (tCons (tVar 2) tNil))))
    (tRet (tIf (tTest (tOp rEq (tVar 1) (tVar 3))) (tOp rFdvW (tVar 0) (tVar 3)) (tTup (tCons (tOp rFdvW (tVar 0) (tVar 3)) (tCons (tOp rFdvW (tVar 1) (tVar 3)) tNil)))))))
def n__law_value : List Str := ["_law_p", "_law_q", "_law_low", "_law_high"]
def sp__law_value (K : PySem.W.Frag) (A : Ads) : Sp := fun vs H Q _ => ∃ p q : Int, vs = [.int p, .int q] ∧ 0 < q ∧ q.natAbs < 2 ^ 9000 ∧ ∀ x H', Same H H' → NumAt H' x (lowN p q) (lowD p q) → Q x H'
theorem len__law_value {K : PySem.W.Frag} {A : Ads} {vs : List V} {H : Hp} {Q : VK} {E : XK} (h : sp__law_value K A vs H Q E) : vs.length = 2 := by
  obtain ⟨p, q, rfl, _⟩ := h
  rfl
theorem gI_step {l h : Int} (hl : 0 < l) (hh : 0 ≤ h) : gI (h % l) l = gI l h := by
  unfold gI
  obtain ⟨m, rfl⟩ := Int.eq_ofNat_of_zero_le (Int.le_of_lt hl)
  obtain ⟨n, rfl⟩ := Int.eq_ofNat_of_zero_le hh
  have e : ((n : Int) % (m : Int)).natAbs = n % m := by rw [← Int.natCast_emod]; rfl
  rw [e]
  show ((Nat.gcd (n % m) m : Nat) : Int) = ((Nat.gcd m n : Nat) : Int)
  rw [Nat.gcd_rec m n]
theorem pure__law_value {K : PySem.W.Frag} {A : Ads} {vs : List V} {H : Hp} {Q : VK} {E : XK} (h : sp__law_value K A vs H Q E) : t__law_value K A E { nx := fun _ H' => Q .non H', rt := Q } (start n__law_value vs) H := by
  obtain ⟨p, q, rfl, hq, hz, k⟩ := h
  walk_at "v"; walk_at "v"; walk_at "v"
  refine ⟨_, _, rfl, ?_⟩
  refine ⟨fun m σ H' => H' = H ∧ ∃ l h : Int, σ = [some (.int p), some (.int q), some (.int l), some (.int h)] ∧ 0 ≤ l ∧ 0 < h ∧ gI l h = gI p q ∧ m = l.toNat, ⟨_, rfl, _, _, rfl, ?_, hq, ?_, rfl⟩, ?_⟩
  · split <;> omega
  · show gI (if p < 0 then -p else p) q = gI p q
    unfold gI
    split
    · rw [Int.natAbs_neg]
    · rfl
  · rintro m σ H' ⟨rfl, l, h, rfl, h0, h1, hg, rfl⟩
    walk_at "v"; walk_at "ii"; walk_at "v"
    refine iteD (fun h2 => ?_) (fun h2 => ?_)
    · refine ⟨_, fun σ' H' z => z, ?_⟩
      · walk_at "v"; refine Or.inl ⟨_, rfl, ?_⟩; walk_at "v"; refine ⟨_, _, rfl, rfl, h2, ?_⟩; walk_at "v"
        refine ⟨_, _, rfl, ?_⟩
        have b1 := Int.emod_nonneg h (by omega : l ≠ 0)
        have b2 := Int.emod_lt_of_pos h h2
        exact ⟨(h % l).toNat, by omega, rfl, h % l, l, rfl, b1, h2, by rw [gI_step h2 (by omega), hg], rfl⟩
    · have e0 : l = 0 := by omega
      subst e0
      have eh : h = gI p q := by
        rw [← hg]
        unfold gI
        show h = ((Nat.gcd 0 h.natAbs : Nat) : Int)
        rw [Nat.gcd_zero_left]
        omega
      have hs := gI_size (p := p) (q := q) (by omega)
      have hd : CDivW p h := ⟨h1, pow_lt (Nat.lt_of_le_of_lt (by omega) hz) (by decide)⟩
      have hD := lowD_pos (p := p) hq
      walk_at "v"; walk_at "v"; refine ⟨rfl, ?_⟩; walk_at "v"
      refine iteD (fun h3 => ?_) (fun h3 => ?_)
      · have e3 : q = h := V.int.inj h3
        walk_at "v"; walk_at "v"; refine ⟨_, _, rfl, rfl, hd, ?_⟩
        refine k _ _ (Same.refl _) (.inl ⟨by unfold lowN; rw [← eh], ?_⟩)
        unfold lowD
        rw [← eh, e3, Int.ediv_self (by omega)]
      · walk_at "v"; walk_at "v"; refine ⟨_, _, rfl, rfl, hd, ?_⟩
        walk_at "v"; walk_at "v"; refine ⟨_, _, rfl, rfl, hd, ?_⟩
        refine ⟨by show 2 ≤ sizeLine; decide, fun a ha => ?_⟩
        refine k _ _ (Same.new ha) (.inr ⟨a, rfl, ?_, ?_, low_cop (by omega)⟩)
        · refine upd_same.trans ?_
          show some (HO.tup [V.int (p / h), V.int (q / h)]) = _
          rw [eh]; rfl
        · rcases Int.lt_or_le (lowD p q) 2 with z | z
          · exfalso
            apply h3
            have e1 : lowD p q = 1 := by omega
            have e2 := low_r p q
            rw [e1, Int.mul_one] at e2
            rw [eh, e2]
          · exact z
end Md

set_option Elab.async false
set_option linter.all false
set_option maxRecDepth 100000
set_option maxHeartbeats 4000000
set_option exponentiation.threshold 20000
namespace Md
open PySem PySem.Spec PyProof.Rows PySem.Calls L2
local macro_rules | `(tactic| walk_at "v") => `(tactic| refine ⟨_, rfl, ?_⟩)
local macro_rules | `(tactic| walk_at "ii") => `(tactic| refine ⟨_, _, rfl, rfl, ?_⟩)
local macro_rules | `(tactic| walk_at "ixL") => `(tactic| refine Or.inl ⟨_, _, _, _, rfl, rfl, SqL.of (by assumption), rfl, ?_⟩)
local macro_rules | `(tactic| walk_at "ixT") => `(tactic| refine Or.inr (Or.inl ⟨_, _, _, _, rfl, rfl, SqT.of (by assumption), rfl, ?_⟩))

/-! ### _law_number -/
def t__law_number (K : PySem.W.Frag) (A : Ads) (E : XK) : TS :=
    (tSeq (tIfS (tTest (tOp rGt (tCall (sp__law_take K A) [] E0 (tCons (tVar 0) (tCons (tC (.int 3)) tNil))) (tC (.int 0)))) (tRet (tCall (sp__law_value K A) [] E0 (tCons (tOp rSub (tCall (sp__law_take K A) [] E0 (tCons (tVar 0) (tCons (tC (.int 11)) tNil))) (tC (.int 5))) (tCons (tOp rAdd (tC (.int 1)) (tCall (sp__law_take K A) [] E0 (tCons (tVar 0) (tCons (tC (.int 3)) tNil)))) tNil)))) tNext)
    (tRet (tCall (sp__law_value K A) [] E0 (tCons (tOp rSub (tCall (sp__law_take K A) [] E0 (tCons (tVar 0) (tCons (tOp rAdd (tOp rMulW (tC (.int 2)) (tOp rPow (tC (.int 10)) (tC (.int 20)))) (tC (.int 1))) tNil))) (tOp rPow (tC (.int 10)) (tC (.int 20)))) (tCons (tOp rAdd (tC (.int 1)) (tCall (sp__law_take K A) [] E0 (tCons (tVar 0) (tCons (tOp rPow (tC (.int 10)) (tC (.int 9))) tNil)))) tNil)))))
def n__law_number : List Str := ["_law_bag_here"]
def sp__law_number (K : PySem.W.Frag) (A : Ads) : Sp := fun vs H Q _ => ∃ (b : Addr) (n : Nat), vs = [.ref b] ∧ Bag (n + 3) H b ∧ ∀ x p q H', Xb b H H' → Bag n H' b → NumAt H' x p q → p.natAbs ≤ 10 ^ 20 → q.natAbs ≤ 10 ^ 9 → Q x H'
theorem len__law_number {K : PySem.W.Frag} {A : Ads} {vs : List V} {H : Hp} {Q : VK} {E : XK} (h : sp__law_number K A vs H Q E) : vs.length = 1 := by
  obtain ⟨p, q, rfl, _⟩ := h
  rfl
theorem pure__law_number {K : PySem.W.Frag} {A : Ads} {vs : List V} {H : Hp} {Q : VK} {E : XK} (h : sp__law_number K A vs H Q E) : t__law_number K A E { nx := fun _ H' => Q .non H', rt := Q } (start n__law_number vs) H := by
  obtain ⟨b, n, rfl, hb, k⟩ := h
  walk_at "v"
  refine ⟨b, 3, n + 2, rfl, hb, by decide, by decide, fun d H1 d0 d1 x1 hb1 => ?_⟩
  walk_at "ii"; walk_at "v"
  refine iteD (fun h0 => ?_) (fun h0 => ?_)
  · walk_at "v"
    refine ⟨b, 11, n + 1, rfl, hb1, by decide, by decide, fun d2 H2 d3 d4 x2 hb2 => ?_⟩
    walk_at "ii"; walk_at "v"
    refine ⟨b, 3, n, rfl, hb2, by decide, by decide, fun d5 H3 d6 d7 x3 hb3 => ?_⟩
    walk_at "ii"
    refine ⟨d2 - 5, 1 + d5, rfl, by omega, by omega, fun x H4 s4 hn => ?_⟩
    have l1 := lowN_le (d2 - 5) (1 + d5) (by omega)
    have l2 := lowD_le (d2 - 5) (1 + d5) (by omega)
    exact k x _ _ H4 ((x1.trans x2).trans (x3.trans (Xb.of s4))) (hb3.same s4) hn (by omega) (by omega)
  · walk_at "v"; refine ⟨_, _, rfl, rfl, ⟨by decide, by decide, by decide⟩, ?_⟩
    refine ⟨_, _, rfl, rfl, wide_mul (a := 8) (b := 128) (by decide) (by decide) (by decide) (by decide) (by decide), ?_⟩
    walk_at "ii"
    refine ⟨b, _, n + 1, rfl, hb1, by decide, by decide, fun d2 H2 d3 d4 x2 hb2 => ?_⟩
    refine ⟨_, _, rfl, rfl, ⟨by decide, by decide, by decide⟩, ?_⟩
    walk_at "ii"; walk_at "v"
    refine ⟨_, _, rfl, rfl, ⟨by decide, by decide, by decide⟩, ?_⟩
    refine ⟨b, _, n, rfl, hb2, by decide, by decide, fun d5 H3 d6 d7 x3 hb3 => ?_⟩
    walk_at "ii"
    have e1 : (10 : Int) ^ (20 : Int).toNat = 100000000000000000000 := by decide
    have e2 : (10 : Int) ^ (9 : Int).toNat = 1000000000 := by decide
    rw [e1] at d4
    rw [e2] at d7
    refine ⟨d2 - 10 ^ (20 : Int).toNat, 1 + d5, rfl, by omega, by omega, fun x H4 s4 hn => ?_⟩
    rw [e1] at hn
    have l1 := lowN_le (d2 - 100000000000000000000) (1 + d5) (by omega)
    have l2 := lowD_le (d2 - 100000000000000000000) (1 + d5) (by omega)
    refine k x _ _ H4 ((x1.trans x2).trans (x3.trans (Xb.of s4))) (hb3.same s4) hn ?_ ?_
    · have : (10 : Nat) ^ 20 = 100000000000000000000 := by decide
      omega
    · have : (10 : Nat) ^ 9 = 1000000000 := by decide
      omega
/-! ### _law_pair, _law_order -/
def t__law_pair (K : PySem.W.Frag) (A : Ads) (E : XK) : TS :=
    (tRet (tIf (tB (tCB (rIsi K) (tCons (tVar 0) (tCons (tC (.ty "tuple")) tNil)))) (tVar 0) (tTup (tCons (tVar 0) (tCons (tC (.int 1)) tNil)))))
def n__law_pair : List Str := ["_law_value_here"]
def sp__law_pair (K : PySem.W.Frag) (A : Ads) : Sp := sp__over K A
theorem len__law_pair {K : PySem.W.Frag} {A : Ads} {vs : List V} {H : Hp} {Q : VK} {E : XK} (h : sp__law_pair K A vs H Q E) : vs.length = 1 := len__over h
theorem pure__law_pair {K : PySem.W.Frag} {A : Ads} {vs : List V} {H : Hp} {Q : VK} {E : XK} (h : sp__law_pair K A vs H Q E) : t__law_pair K A E { nx := fun _ H' => Q .non H', rt := Q } (start n__law_pair vs) H := by
  obtain ⟨x, p, q, rfl, hn, k⟩ := h
  rcases hn with ⟨rfl, rfl⟩ | ⟨a, rfl, ha, h2, hc⟩
  · walk_at "v"
    refine ⟨_, _, _, _, _, rfl, .ty _, ty_int, kit_ty (by decide +kernel : kitB "int" "tuple" = some false), ?_⟩
    walk_at "v"
    refine iteF ?_
    walk_at "v"
    refine ⟨by show 2 ≤ sizeLine; decide, fun t ht => ?_⟩
    exact k _ _ (Same.new ht) ⟨t, rfl, upd_same⟩
  · walk_at "v"
    refine ⟨_, _, _, _, _, rfl, .ty _, ty_tup ha, kit_ty (by decide +kernel : kitB "tuple" "tuple" = some true), ?_⟩
    walk_at "v"
    refine iteT ?_
    walk_at "v"
    exact k _ _ (Same.refl H) ⟨a, rfl, ha⟩
def t__law_order (K : PySem.W.Frag) (A : Ads) (E : XK) : TS :=
    (tSeq (tPar 2 3 (tCons (tCall (sp__law_pair K A) [] E0 (tCons (tVar 0) tNil)) (tCons (tCall (sp__law_pair K A) [] E0 (tCons (tVar 1) tNil)) tNil)))
    (tRet (tOp rSub (tOp rMulW (tOp (rIx K) (tVar 2) (tC (.int 0))) (tOp (rIx K) (tVar 3) (tC (.int 1)))) (tOp rMulW (tOp (rIx K) (tVar 3) (tC (.int 0))) (tOp (rIx K) (tVar 2) (tC (.int 1)))))))
def n__law_order : List Str := ["_law_one", "_law_other", "_law_left", "_law_right"]
def sp__law_order (K : PySem.W.Frag) (A : Ads) : Sp := fun vs H Q _ => ∃ (x y : V) (p q p' q' : Int), vs = [x, y] ∧ NumAt H x p q ∧ NumAt H y p' q' ∧ (p.natAbs < 2 ^ 9000 ∧ q.natAbs < 2 ^ 9000 ∧ p'.natAbs < 2 ^ 9000 ∧ q'.natAbs < 2 ^ 9000) ∧
  ∀ H', Same H H' → Q (.int (p * q' - p' * q)) H'
theorem len__law_order {K : PySem.W.Frag} {A : Ads} {vs : List V} {H : Hp} {Q : VK} {E : XK} (h : sp__law_order K A vs H Q E) : vs.length = 2 := by
  obtain ⟨x, y, p, q, p', q', rfl, _⟩ := h
  rfl
theorem pure__law_order {K : PySem.W.Frag} {A : Ads} {vs : List V} {H : Hp} {Q : VK} {E : XK} (h : sp__law_order K A vs H Q E) : t__law_order K A E { nx := fun _ H' => Q .non H', rt := Q } (start n__law_order vs) H := by
  obtain ⟨x, y, p, q, p', q', rfl, h1, h2, ⟨z1, z2, z3, z4⟩, k⟩ := h
  walk_at "v"
  refine ⟨_, _, _, rfl, h1, fun u H1 s1 hu => ?_⟩
  obtain ⟨a, rfl, ha⟩ := hu
  walk_at "v"
  refine ⟨_, _, _, rfl, h2.same s1, fun u2 H2 s2 hu2 => ?_⟩
  obtain ⟨a2, rfl, ha2⟩ := hu2
  have ha1 := s2 _ _ ha
  refine ⟨_, _, rfl, ?_⟩
  walk_at "v"; walk_at "ixT"; walk_at "v"; walk_at "ixT"; refine ⟨_, _, rfl, rfl, mulW0 z1 z4, ?_⟩
  walk_at "v"; walk_at "ixT"; walk_at "v"; walk_at "ixT"; refine ⟨_, _, rfl, rfl, mulW0 z3 z2, ?_⟩
  walk_at "ii"
  exact k H2 (Same.trans s1 s2)
/-! ### _law_same, _law_is_lowest -/
theorem dp_pair {K : PySem.W.Frag} {H : Hp} {a : Addr} {p q : Int} (h : H a = some (.tup [.int p, .int q])) : Dp K H (.ref a) (.tuple [.int p, .int q]) := .tup (SqT.of h) (.cons (.int p) (.cons (.int q) .nil))
theorem shaped_int (p : Int) : SeqAt.shaped (.int p) = true := rfl
theorem shaped_pair (p q : Int) : SeqAt.shaped (.tuple [.int p, .int q]) = true := by
  unfold SeqAt.shaped
  simp [PyData.canLay0, PyData.canLayAll0, PyData.depth, PyData.depthAll]
theorem NumAt.eqD {K : PySem.W.Frag} {H : Hp} {x y : V} {p q : Int} {Q : VK} (h1 : NumAt H x p q) (h2 : NumAt H y p q) (k : Q (.bl true) H) : rEqD K x y H Q := by
  rcases h1 with ⟨rfl, rfl⟩ | ⟨a, rfl, ha, h3, _⟩
  · rcases h2 with ⟨rfl, _⟩ | ⟨b, rfl, hb, h4, _⟩
    · refine ⟨_, _, .int p, .int p, shaped_int p, shaped_int p, ?_⟩
      have e : PyData.eqv (.int p) (.int p) = true := by simp [PyData.eqv]
      rw [e]; exact k
    · omega
  · rcases h2 with ⟨rfl, h4⟩ | ⟨b, rfl, hb, h4, _⟩
    · omega
    · refine ⟨_, _, dp_pair ha, dp_pair hb, shaped_pair p q, shaped_pair p q, ?_⟩
      have e : PyData.eqv (.tuple [.int p, .int q]) (.tuple [.int p, .int q]) = true := by simp [PyData.eqv, PyData.eqvAll]
      rw [e]; exact k
def t__law_same (K : PySem.W.Frag) (A : Ads) (E : XK) : TS :=
    (tSeq (tIfS (tNot (tB (tCB (rIsi K) (tCons (tVar 1) (tCons (tC (.ty "tuple")) tNil))))) (tRet (tAndV (tCall (sp__law_is_int K A) [] E0 (tCons (tVar 0) tNil)) (tOp (rEqD K) (tVar 0) (tVar 1)))) tNext)
    (tSeq (tIfS (tOr (tNot (tB (tCB (rIsi K) (tCons (tVar 0) (tCons (tC (.ty "tuple")) tNil))))) (tTest (tOp rNe (tCB (rLen K) (tCons (tVar 0) tNil)) (tC (.int 2))))) (tRet (tC (.bl false))) tNext)
    (tRet (tAndV (tCall (sp__law_is_int K A) [] E0 (tCons (tOp (rIx K) (tVar 0) (tC (.int 0))) tNil)) (tAndV (tCall (sp__law_is_int K A) [] E0 (tCons (tOp (rIx K) (tVar 0) (tC (.int 1))) tNil)) (tOp (rEqD K) (tVar 0) (tVar 1)))))))
def n__law_same : List Str := ["_law_actual", "_law_due"]
def sp__law_same (K : PySem.W.Frag) (A : Ads) : Sp := fun vs H Q _ => ∃ (x y : V) (p q : Int), vs = [x, y] ∧ NumAt H x p q ∧ NumAt H y p q ∧ ∀ H', Same H H' → Q (.bl true) H'
theorem len__law_same {K : PySem.W.Frag} {A : Ads} {vs : List V} {H : Hp} {Q : VK} {E : XK} (h : sp__law_same K A vs H Q E) : vs.length = 2 := by
  obtain ⟨x, y, p, q, rfl, _⟩ := h
  rfl
theorem pure__law_same {K : PySem.W.Frag} {A : Ads} {vs : List V} {H : Hp} {Q : VK} {E : XK} (h : sp__law_same K A vs H Q E) : t__law_same K A E { nx := fun _ H' => Q .non H', rt := Q } (start n__law_same vs) H := by
  obtain ⟨x, y, p, q, rfl, h1, h2, k⟩ := h
  have kk := k H (Same.refl H)
  have ee := fun {Q : VK} => NumAt.eqD (K := K) (Q := Q) h1 h2
  rcases h1 with ⟨rfl, rfl⟩ | ⟨a, rfl, ha, h3, _⟩
  · rcases h2 with ⟨rfl, _⟩ | ⟨b, rfl, hb, h4, _⟩
    · walk_at "v"
      refine ⟨_, _, _, _, _, rfl, .ty _, ty_int, kit_ty (by decide +kernel : kitB "int" "tuple" = some false), ?_⟩
      walk_at "v"
      show (if (!false) = true then _ else _)
      refine iteT ?_
      walk_at "v"
      refine ⟨_, _, rfl, ty_int, ⟨_, rfl, ?_⟩⟩
      refine iteT ?_
      walk_at "v"; walk_at "v"
      exact ee kk
    · omega
  · rcases h2 with ⟨rfl, h4⟩ | ⟨b, rfl, hb, h4, _⟩
    · omega
    · walk_at "v"
      refine ⟨_, _, _, _, _, rfl, .ty _, ty_tup hb, kit_ty (by decide +kernel : kitB "tuple" "tuple" = some true), ?_⟩
      walk_at "v"
      show (if (!true) = true then _ else _)
      refine iteF ?_
      walk_at "v"
      refine ⟨_, _, _, _, _, rfl, .ty _, ty_tup ha, kit_ty (by decide +kernel : kitB "tuple" "tuple" = some true), ?_⟩
      walk_at "v"
      show (if (!true) = true then _ else _)
      refine iteF ?_
      walk_at "v"
      refine ⟨_, _, rfl, .inr ⟨_, SqT.of ha, rfl⟩, ?_⟩
      refine ⟨rfl, ?_⟩
      walk_at "v"
      show (if (!decide (V.int 2 = V.int 2)) = true then _ else _)
      refine iteF ?_
      walk_at "v"; walk_at "ixT"
      refine ⟨_, _, rfl, ty_int, ⟨_, rfl, ?_⟩⟩
      refine iteT ?_
      walk_at "v"; walk_at "ixT"
      refine ⟨_, _, rfl, ty_int, ⟨_, rfl, ?_⟩⟩
      refine iteT ?_
      walk_at "v"; walk_at "v"
      exact ee kk
def t__law_is_lowest (K : PySem.W.Frag) (A : Ads) (E : XK) : TS :=
    (tSeq (tIfS (tB (tCall (sp__law_is_int K A) [] E0 (tCons (tVar 0) tNil))) (tRet (tC (.bl true))) tNext)
    (tSeq (tIfS (tOr (tNot (tB (tCB (rIsi K) (tCons (tVar 0) (tCons (tC (.ty "tuple")) tNil))))) (tOr (tTest (tOp rNe (tCB (rLen K) (tCons (tVar 0) tNil)) (tC (.int 2)))) (tOr (tNot (tB (tCall (sp__law_is_int K A) [] E0 (tCons (tOp (rIx K) (tVar 0) (tC (.int 0))) tNil)))) (tNot (tB (tCall (sp__law_is_int K A) [] E0 (tCons (tOp (rIx K) (tVar 0) (tC (.int 1))) tNil))))))) (tRet (tC (.bl false))) tNext)
    (tRet (tAndV (tOp rGt (tOp (rIx K) (tVar 0) (tC (.int 1))) (tC (.int 1))) (tOp (rEqD K) (tCall (sp__law_value K A) [] E0 (tCons (tOp (rIx K) (tVar 0) (tC (.int 0))) (tCons (tOp (rIx K) (tVar 0) (tC (.int 1))) tNil))) (tVar 0))))))
def n__law_is_lowest : List Str := ["_law_value_here"]
def sp__law_is_lowest (K : PySem.W.Frag) (A : Ads) : Sp := fun vs H Q _ => ∃ (x : V) (p q : Int), vs = [x] ∧ NumAt H x p q ∧ q.natAbs < 2 ^ 9000 ∧ ∀ H', Same H H' → Q (.bl true) H'
theorem len__law_is_lowest {K : PySem.W.Frag} {A : Ads} {vs : List V} {H : Hp} {Q : VK} {E : XK} (h : sp__law_is_lowest K A vs H Q E) : vs.length = 1 := by
  obtain ⟨x, p, q, rfl, _⟩ := h
  rfl
theorem pure__law_is_lowest {K : PySem.W.Frag} {A : Ads} {vs : List V} {H : Hp} {Q : VK} {E : XK} (h : sp__law_is_lowest K A vs H Q E) : t__law_is_lowest K A E { nx := fun _ H' => Q .non H', rt := Q } (start n__law_is_lowest vs) H := by
  obtain ⟨x, p, q, rfl, h1, hz, k⟩ := h
  have h0 := h1
  rcases h1 with ⟨rfl, rfl⟩ | ⟨a, rfl, ha, h3, hc⟩
  · walk_at "v"
    refine ⟨_, _, rfl, ty_int, ⟨_, rfl, ?_⟩⟩
    refine iteT ?_
    exact k H (Same.refl H)
  · walk_at "v"
    refine ⟨_, _, rfl, ty_tup ha, ⟨_, rfl, ?_⟩⟩
    refine iteF ?_
    walk_at "v"
    refine ⟨_, _, _, _, _, rfl, .ty _, ty_tup ha, kit_ty (by decide +kernel : kitB "tuple" "tuple" = some true), ?_⟩
    walk_at "v"
    show (if (!true) = true then _ else _)
    refine iteF ?_
    walk_at "v"
    refine ⟨_, _, rfl, .inr ⟨_, SqT.of ha, rfl⟩, ?_⟩
    refine ⟨rfl, ?_⟩
    walk_at "v"
    show (if (!decide (V.int 2 = V.int 2)) = true then _ else _)
    refine iteF ?_
    walk_at "v"; walk_at "ixT"
    refine ⟨_, _, rfl, ty_int, ⟨_, rfl, ?_⟩⟩
    show (if (!true) = true then _ else _)
    refine iteF ?_
    walk_at "v"; walk_at "ixT"
    refine ⟨_, _, rfl, ty_int, ⟨_, rfl, ?_⟩⟩
    show (if (!true) = true then _ else _)
    refine iteF ?_
    walk_at "v"; walk_at "ixT"; walk_at "ii"; walk_at "v"
    refine iteD (fun h5 => ?_) (fun h5 => absurd (by omega) h5)
    walk_at "v"; walk_at "ixT"; walk_at "v"; walk_at "ixT"
    obtain ⟨e1, e2⟩ := low_of_cop hc (by omega)
    refine ⟨p, q, rfl, by omega, hz, fun y H1 s1 hy => ?_⟩
    walk_at "v"
    rw [e1, e2] at hy
    exact NumAt.eqD hy (h0.same s1) (k H1 s1)
end Md

set_option Elab.async false
set_option linter.all false
set_option maxRecDepth 100000
set_option maxHeartbeats 4000000
set_option exponentiation.threshold 20000
namespace Md
open PySem PySem.Spec PyProof.Rows PySem.Calls L2
local macro_rules | `(tactic| walk_at "v") => `(tactic| refine ⟨_, rfl, ?_⟩)
local macro_rules | `(tactic| walk_at "fls") => `(tactic| (refine ⟨_, rfl, ?_⟩; show (if (!true) = true then _ else _); refine iteF ?_))
local macro_rules | `(tactic| walk_at "isnt") => `(tactic| (refine ⟨_, _, rfl, rfl, _, rfl, ?_⟩; refine iteN (fun _ => ?_) fun h => absurd rfl h))
local macro_rules | `(tactic| walk_at "ii") => `(tactic| refine ⟨_, _, rfl, rfl, ?_⟩)
local macro_rules | `(tactic| walk_at "ixL") => `(tactic| refine Or.inl ⟨_, _, _, _, rfl, rfl, SqL.of (by assumption), rfl, ?_⟩)
local macro_rules | `(tactic| walk_at "ixT") => `(tactic| refine Or.inr (Or.inl ⟨_, _, _, _, rfl, rfl, SqT.of (by assumption), rfl, ?_⟩))
/-! ### is_number -/
def pairB : V → V → Bool
  | .int p, .int q => decide (2 ≤ q) && decide (Nat.gcd p.natAbs q.natAbs = 1)
  | _, _ => false
def NumB (K : PySem.W.Frag) (H : Hp) (x : V) (r : Bool) : Prop := (∃ T, TyX K H x (.type T) ∧ T ≠ "tuple" ∧ r = isIntV x) ∨ (∃ a xs, x = .ref a ∧ H a = some (.tup xs) ∧ xs.length ≠ 2 ∧ r = false) ∨
  (∃ a u v T1 T2, x = .ref a ∧ H a = some (.tup [u, v]) ∧ TyX K H u (.type T1) ∧ TyX K H v (.type T2) ∧ r = pairB u v)
theorem kit_tup {K : PySem.W.Frag} {H : Hp} {x : V} {T : String} (ty : TyX K H x (.type T)) (hn : T ≠ "tuple") : kitB T "tuple" = some false := by
  cases ty with
  | base b => cases b <;> first | (exact absurd rfl hn) | decide +kernel
  | _ => first | (exact absurd rfl hn) | decide +kernel
theorem NumB.same {K : PySem.W.Frag} {H H' : Hp} {x : V} {r : Bool} (h : NumB K H x r) (s : Same H H') (ht : ∀ y T, TyX K H y (.type T) → TyX K H' y (.type T)) : NumB K H' x r := by
  rcases h with ⟨T, h1, h2⟩ | ⟨a, xs, e, ha, h⟩ | ⟨a, u, v, T1, T2, e, ha, h1, h2, h3⟩
  · exact .inl ⟨T, ht _ _ h1, h2⟩
  · exact .inr (.inl ⟨a, xs, e, s _ _ ha, h⟩)
  · exact .inr (.inr ⟨a, u, v, T1, T2, e, s _ _ ha, ht _ _ h1, ht _ _ h2, h3⟩)
theorem tyX_same {K : PySem.W.Frag} {H H' : Hp} {x : V} {T : String} (s : Same H H') (h : TyX K H x (.type T)) : TyX K H' x (.type T) := by
  cases h with
  | base b =>
    refine .base ?_
    cases b with
    | non => exact .non
    | bl b => exact .bl b
    | int b => exact .int b
    | str b => exact .str b
    | flt b => exact .flt b
    | lst e => exact .lst (s _ _ e)
    | frz e => exact .frz (s _ _ e)
    | tup e => exact .tup (s _ _ e)
    | dK e => exact .dK (s _ _ e)
    | dT e => exact .dT (s _ _ e)
  | byt b => exact .byt b
  | set e => exact .set (s _ _ e)
  | kList e c => exact .kList e c
  | kTuple e c => exact .kTuple e c
  | kDict e c => exact .kDict e c
  | fTuple e => exact .fTuple (s _ _ e)
  | fDict e => exact .fDict (s _ _ e)
theorem NumB.mono {K : PySem.W.Frag} {H H' : Hp} {x : V} {r : Bool} (h : NumB K H x r) (s : Same H H') : NumB K H' x r := h.same s fun _ _ t => tyX_same s t
def t_is_number (K : PySem.W.Frag) (A : Ads) (E : XK) : TS :=
    (tSeq (tIfS (tB (tCall (sp_is_whole K A) [] E0 (tCons (tVar 0) tNil))) (tRet (tC (.bl true))) tNext)
    (tSeq (tIfS (tOr (tNot (tB (tCB (rIsi K) (tCons (tVar 0) (tCons (tC (.ty "tuple")) tNil))))) (tTest (tOp rNe (tCB (rLen K) (tCons (tVar 0) tNil)) (tC (.int 2))))) (tRet (tC (.bl false))) tNext)
    (tSeq (tAsg (tVar 0) (gTup K 2 (gCons (gName 1) (gCons (gName 2) gNil))))
    (tRet (tAndV (tCall (sp_is_whole K A) [] E0 (tCons (tVar 1) tNil)) (tAndV (tCall (sp_is_whole K A) [] E0 (tCons (tVar 2) tNil)) (tAndV (tOp rGe (tVar 2) (tC (.int 2))) (tOp rEq (tCB rGcd (tCons (tVar 1) (tCons (tVar 2) tNil))) (tC (.int 1))))))))))
def n_is_number : List Str := ["thing", "top", "bottom"]
def sp_is_number (K : PySem.W.Frag) (A : Ads) : Sp := fun vs H Q _ => ∃ (x : V) (r : Bool), vs = [x] ∧ NumB K H x r ∧ Q (.bl r) H
theorem len_is_number {K : PySem.W.Frag} {A : Ads} {vs : List V} {H : Hp} {Q : VK} {E : XK} (h : sp_is_number K A vs H Q E) : vs.length = 1 := by
  obtain ⟨x, T, rfl, _⟩ := h
  rfl
theorem pure_is_number {K : PySem.W.Frag} {A : Ads} {vs : List V} {H : Hp} {Q : VK} {E : XK} (h : sp_is_number K A vs H Q E) : t_is_number K A E { nx := fun _ H' => Q .non H', rt := Q } (start n_is_number vs) H := by
  obtain ⟨x, r, rfl, hn, k⟩ := h
  rcases hn with ⟨T, ty, hT, rfl⟩ | ⟨a, xs, rfl, ha, hl, rfl⟩ | ⟨a, u, v, T1, T2, rfl, ha, t1, t2, rfl⟩
  · walk_at "v"
    refine ⟨_, _, rfl, ty, ⟨_, rfl, ?_⟩⟩
    refine iteB (fun h1 => ?_) (fun h1 => ?_)
    · rw [h1] at k
      exact k
    · walk_at "v"
      refine ⟨_, _, _, _, _, rfl, .ty _, ty, kit_ty (kit_tup ty hT), ?_⟩
      walk_at "v"
      show (if (!false) = true then _ else _)
      refine iteT ?_
      refine iteT ?_
      rw [h1] at k
      exact k
  · walk_at "v"
    refine ⟨_, _, rfl, ty_tup ha, ⟨_, rfl, ?_⟩⟩
    refine iteF ?_
    walk_at "v"
    refine ⟨_, _, _, _, _, rfl, .ty _, ty_tup ha, kit_ty (by decide +kernel : kitB "tuple" "tuple" = some true), ?_⟩
    walk_at "v"
    show (if (!true) = true then _ else _)
    refine iteF ?_
    walk_at "v"
    refine ⟨_, _, rfl, .inr ⟨_, SqT.of ha, rfl⟩, ?_⟩
    refine ⟨rfl, ?_⟩
    walk_at "v"
    refine iteN (fun h1 => ?_) (fun h1 => k)
    exact absurd (by have := V.int.inj h1; omega) hl
  · walk_at "v"
    refine ⟨_, _, rfl, ty_tup ha, ⟨_, rfl, ?_⟩⟩
    refine iteF ?_
    walk_at "v"
    refine ⟨_, _, _, _, _, rfl, .ty _, ty_tup ha, kit_ty (by decide +kernel : kitB "tuple" "tuple" = some true), ?_⟩
    walk_at "v"
    show (if (!true) = true then _ else _)
    refine iteF ?_
    walk_at "v"
    refine ⟨_, _, rfl, .inr ⟨_, SqT.of ha, rfl⟩, ?_⟩
    refine ⟨rfl, ?_⟩
    walk_at "v"
    refine iteN (fun _ => ?_) (fun h1 => absurd rfl h1)
    walk_at "v"
    refine ⟨a, _, rfl, SqT.of ha, rfl, _, _, rfl, _, _, rfl, rfl, ?_⟩
    walk_at "v"
    refine ⟨_, _, rfl, t1, ⟨_, rfl, ?_⟩⟩
    cases u with
    | int p =>
      refine iteT ?_
      walk_at "v"
      refine ⟨_, _, rfl, t2, ⟨_, rfl, ?_⟩⟩
      cases v with
      | int q =>
        refine iteT ?_
        walk_at "v"; walk_at "ii"; walk_at "v"
        refine iteD (fun h2 => ?_) (fun h2 => ?_)
        · walk_at "v"; walk_at "v"; refine ⟨_, _, rfl, ?_⟩; refine ⟨rfl, ?_⟩
          have e : decide (V.int ((Nat.gcd p.natAbs q.natAbs : Nat) : Int) = V.int 1) = pairB (.int p) (.int q) := by
            show _ = (decide (2 ≤ q) && decide (Nat.gcd p.natAbs q.natAbs = 1))
            rw [decide_eq_true h2, Bool.true_and]
            congr 1
            apply propext
            constructor
            · intro h; have := V.int.inj h; omega
            · intro h; rw [h]; rfl
          show Q (.bl (decide (V.int ((Nat.gcd p.natAbs q.natAbs : Nat) : Int) = V.int 1))) H
          rw [e]
          exact k
        · have e : pairB (.int p) (.int q) = false := by
            show (decide (2 ≤ q) && decide (Nat.gcd p.natAbs q.natAbs = 1)) = false
            rw [decide_eq_false (by omega)]
            rfl
          rw [e] at k
          exact k
      | _ => exact iteF k
    | _ => exact iteF k
/-! ### _law_of -/
def t__law_of (K : PySem.W.Frag) (A : Ads) (E : XK) : TS :=
    (tRet (tOp (rIx K) (tVar 1) (tCall (sp__law_take K A) [] E0 (tCons (tVar 0) (tCons (tCB (rLen K) (tCons (tVar 1) tNil)) tNil)))))
def n__law_of : List Str := ["_law_bag_here", "_law_some"]
def sp__law_of (K : PySem.W.Frag) (A : Ads) : Sp := fun vs H Q _ => ∃ (b : Addr) (n : Nat), Bag (n + 1) H b ∧
  ((∃ (l : Addr) (xs : List V), vs = [.ref b, .ref l] ∧ H l = some (.lst xs) ∧ l ≠ b ∧ 0 < xs.length ∧ xs.length ≤ 1000000 ∧ ∀ (i : Nat) x H', xs[i]? = some x → Xb b H H' → Bag n H' b → Q x H') ∨
   (∃ z : Str, vs = [.ref b, .str z] ∧ 0 < z.length ∧ z.length ≤ 1000000 ∧ ∀ c H', c ∈ z.cps.toList → Xb b H H' → Bag n H' b → Q (.str ⟨#[c]⟩) H'))
theorem len__law_of {K : PySem.W.Frag} {A : Ads} {vs : List V} {H : Hp} {Q : VK} {E : XK} (h : sp__law_of K A vs H Q E) : vs.length = 2 := by
  obtain ⟨b, n, _, h⟩ := h
  rcases h with ⟨l, xs, rfl, _⟩ | ⟨z, rfl, _⟩ <;> rfl
theorem atI_of {α : Type} {xs : List α} {d : Int} (h0 : 0 ≤ d) (h1 : d < xs.length) : ∃ x, atI xs d = some x ∧ xs[d.toNat]? = some x := by
  have h2 : d.toNat < xs.length := by omega
  refine ⟨xs[d.toNat], ?_, List.getElem?_eq_getElem h2⟩
  unfold atI ixN
  rw [if_pos h0, if_pos h1]
  exact List.getElem?_eq_getElem h2
theorem size_1e6 {n : Nat} (h : n ≤ 1000000) : n ≤ sizeLine := Nat.le_trans h (by decide)
theorem len_bits {n : Nat} (h : n ≤ 1000000) : ((n : Int)).natAbs < 2 ^ 9000 := Nat.lt_of_le_of_lt (show ((n : Int)).natAbs ≤ 1000000 by omega) (Nat.lt_of_lt_of_le (by decide : 1000000 < 2 ^ 20) (Nat.pow_le_pow_right (by decide) (by decide)))
theorem pure__law_of {K : PySem.W.Frag} {A : Ads} {vs : List V} {H : Hp} {Q : VK} {E : XK} (h : sp__law_of K A vs H Q E) : t__law_of K A E { nx := fun _ H' => Q .non H', rt := Q } (start n__law_of vs) H := by
  obtain ⟨b, n, hB, h⟩ := h
  rcases h with ⟨l, xs, rfl, hl, hn, h0, h1, k⟩ | ⟨z, rfl, h0, h1, k⟩
  · walk_at "v"; walk_at "v"; walk_at "v"
    refine ⟨_, _, rfl, .inl ⟨_, SqL.of hl, rfl⟩, ?_⟩
    refine ⟨b, _, n, rfl, hB, by omega, len_bits h1, fun d H1 d0 d1 x1 hB1 => ?_⟩
    obtain ⟨x, e1, e2⟩ := atI_of d0 d1
    refine Or.inl ⟨l, xs, d, x, rfl, rfl, SqL.of (x1 _ _ hn hl), e1, k _ x H1 e2 x1 hB1⟩
  · walk_at "v"; walk_at "v"; walk_at "v"
    refine ⟨.str z, _, rfl, ⟨size_1e6 h1, rfl⟩, ?_⟩
    refine ⟨b, _, n, rfl, hB, by omega, len_bits h1, fun d H1 d0 d1 x1 hB1 => ?_⟩
    have ez : z.length = z.cps.toList.length := by simp [Str.length]
    obtain ⟨x, e1, e2⟩ := atI_of (xs := z.cps.toList) d0 (by rw [← ez]; exact d1)
    refine Or.inr (Or.inr ⟨z, d, x, rfl, rfl, size_1e6 h1, e1, k x H1 (List.mem_of_getElem? e2) x1 hB1⟩)
/-! ### _law_zero -/
def tb__law_zero (K : PySem.W.Frag) (A : Ads) (W : WX) : TS := (tDrop (tCallSD (sp_number K A) [] (WE W) (tCons (tVar 0) (tCons (tC (.int 0)) tNil))))
def ts__law_zero (K : PySem.W.Frag) (A : Ads) (a : Addr) (cls : Value) (d : Option Addr) : TS := (tRet (tAndV (tCallS (sp__law_is_int K A) (fun _ => E0) (tCons (tXf a cls d A.cBadNumber "thing" (tVar 1)) tNil)) (tAndV (tOp rEq (tXf a cls d A.cBadNumber "thing" (tVar 1)) (tC (.int 0))) (tAndV (tCB (rIsX K a cls d) (tCons (tVar 1) (tCons (tC (.ref A.cMendroundsError)) tNil))) (tCB (rIsX K a cls d) (tCons (tVar 1) (tCons (tC (.ty "ValueError")) tNil)))))))
def t__law_zero (K : PySem.W.Frag) (A : Ads) (E : XK) : TS :=
    (tSeq (fun D σ H => tb__law_zero K A (wAs K (.ref A.cBadNumber) 1 (ts__law_zero K A) (fun _ _ _ _ => False) D) D σ H)
    (tRet (tC (.bl false))))
def n__law_zero : List Str := ["_law_upper", "e"]
def sp__law_zero (K : PySem.W.Frag) (A : Ads) : Sp := fun vs H Q _ => ∃ p : Int, vs = [.int p] ∧ ∀ H', Same H H' → Q (.bl true) H'
theorem len__law_zero {K : PySem.W.Frag} {A : Ads} {vs : List V} {H : Hp} {Q : VK} {E : XK} (h : sp__law_zero K A vs H Q E) : vs.length = 1 := by
  obtain ⟨p, rfl, _⟩ := h
  rfl
theorem pure__law_zero {K : PySem.W.Frag} {A : Ads} (k1 : PySem.W.kitOne K (.ref A.cBadNumber) (.ref A.cMendroundsError) = some true) (k2 : PySem.W.kitOne K (.ref A.cBadNumber) (.type "ValueError") = some true) (xc : ExcC K A.cBadNumber)
    (xm : PySem.W.exmOne K (.ref A.cBadNumber) (.ref A.cBadNumber) = some true) {vs : List V} {H : Hp} {Q : VK} {E : XK} (h : sp__law_zero K A vs H Q E) : t__law_zero K A E { nx := fun _ H' => Q .non H', rt := Q } (start n__law_zero vs) H := by
  obtain ⟨p, rfl, k⟩ := h
  walk_at "v"
  refine ⟨p, 0, rfl, by decide, fun h => absurd rfl h, fun _ d H1 s1 e1 => ?_⟩
  refine ⟨true, xm, fun _ a ha => ?_, fun q => Bool.noConfusion q⟩
  walk_at "v"
  refine ⟨rfl, rfl, d, _, _, rfl, e1, rfl, ?_⟩
  refine ⟨_, _, rfl, ty_int, ⟨_, rfl, ?_⟩⟩
  refine iteT ?_
  walk_at "v"
  refine ⟨rfl, rfl, d, _, _, rfl, e1, rfl, ?_⟩
  refine ⟨rfl, ?_⟩
  refine ⟨_, rfl, ?_⟩
  refine iteD (fun _ => ?_) (fun h => absurd rfl h)
  walk_at "v"
  refine ⟨_, d, _, _, _, true, rfl, rfl, xc, e1, rfl, .own _, k1, ?_⟩
  refine ⟨_, rfl, ?_⟩
  refine iteT ?_
  walk_at "v"
  refine ⟨_, d, _, _, _, true, rfl, rfl, xc, e1, rfl, .ty _, k2, ?_⟩
  exact k H1 s1
/-! ### _law_bad -/
def t__law_bad (K : PySem.W.Frag) (A : Ads) (E : XK) : TS :=
    (tSeq (tAsg (tLst (tCons (tTup (tCons (tOp rMulW (tVar 0) (tC (.int 2))) (tCons (tOp rMulW (tVar 1) (tC (.int 2))) tNil))) (tCons (tTup (tCons (tVar 0) (tCons (tC (.int 1)) tNil))) (tCons (tTup (tCons (tVar 0) (tCons (tUn rNeg (tVar 1)) tNil))) (tCons (tTup (tCons (tC (.bl true)) (tCons (tC (.int 2)) tNil))) (tCons (tTup (tCons (tVar 0) (tCons (tC (.bl true)) tNil))) (tCons (tC (.bl true)) (tCons (tC (.bl false)) (tCons (tC .non) (tCons (tCB rStrI (tCons (tVar 0) tNil)) (tCons (tLst (tCons (tVar 0) (tCons (tVar 1) tNil))) (tCons (tTup (tCons (tVar 0) (tCons (tVar 1) (tCons (tC (.int 1)) tNil)))) tNil)))))))))))) (gName 2))
    (tRet (tOp rCat (tVar 2) (tLst (tCons (tTup (tCons (tVar 0) tNil)) (tCons (tTup tNil) (tCons (tTup (tCons (tCB rStrI (tCons (tVar 0) tNil)) (tCons (tVar 1) tNil))) (tCons (tTup (tCons (tC (.int 0)) (tCons (tVar 1) tNil))) (tCons (tTup (tCons (tVar 0) (tCons (tC .non) tNil))) (tCons tDNewK tNil))))))))))
def n__law_bad : List Str := ["_law_p", "_law_q", "_law_found"]
def sp__law_bad (K : PySem.W.Frag) (A : Ads) : Sp := fun vs H Q _ => ∃ p q : Int, vs = [.int p, .int q] ∧ 2 ≤ q ∧ p.natAbs < 2 ^ 150 ∧ q.natAbs < 2 ^ 150 ∧ ∀ l H' xs, Same H H' → H l = none → H' l = some (.lst xs) → xs.length ≤ 17 → (∀ x ∈ xs, NumB K H' x false) → Q (.ref l) H'
theorem len__law_bad {K : PySem.W.Frag} {A : Ads} {vs : List V} {H : Hp} {Q : VK} {E : XK} (h : sp__law_bad K A vs H Q E) : vs.length = 2 := by
  obtain ⟨p, q, rfl, _⟩ := h
  rfl
theorem numB_non {K : PySem.W.Frag} {H : Hp} : NumB K H .non false := .inl ⟨_, .base .non, by decide, rfl⟩
theorem numB_bl {K : PySem.W.Frag} {H : Hp} {b : Bool} : NumB K H (.bl b) false := .inl ⟨_, .base (.bl b), by decide, rfl⟩
theorem numB_str {K : PySem.W.Frag} {H : Hp} {z : Str} : NumB K H (.str z) false := .inl ⟨_, .base (.str z), by decide, rfl⟩
theorem numB_lst {K : PySem.W.Frag} {H : Hp} {a : Addr} {xs : List V} (h : H a = some (.lst xs)) : NumB K H (.ref a) false := .inl ⟨_, .base (.lst h), by decide, rfl⟩
theorem numB_dK {K : PySem.W.Frag} {H : Hp} {a : Addr} {xs : List (Key × V)} (h : H a = some (.dK xs)) : NumB K H (.ref a) false := .inl ⟨_, .base (.dK h), by decide, rfl⟩
theorem numB_two {K : PySem.W.Frag} {H : Hp} {a : Addr} {u v : V} {T1 T2 : String} {r : Bool} (h : H a = some (.tup [u, v])) (t1 : TyX K H u (.type T1)) (t2 : TyX K H v (.type T2)) (e : pairB u v = r) : NumB K H (.ref a) r := .inr (.inr ⟨a, u, v, T1, T2, rfl, h, t1, t2, e.symm⟩)
theorem numB_len {K : PySem.W.Frag} {H : Hp} {a : Addr} {xs : List V} (h : H a = some (.tup xs)) (hl : xs.length ≠ 2) : NumB K H (.ref a) false := .inr (.inl ⟨a, xs, rfl, h, hl, rfl⟩)
theorem pair_big {p q : Int} (h : 2 ≤ q) : pairB (.int (p * 2)) (.int (q * 2)) = false := by
  show (decide (2 ≤ q * 2) && decide (Nat.gcd (p * 2).natAbs (q * 2).natAbs = 1)) = false
  have e : Nat.gcd (p * 2).natAbs (q * 2).natAbs = Nat.gcd p.natAbs q.natAbs * 2 := by
    rw [Int.natAbs_mul, Int.natAbs_mul]
    exact Nat.gcd_mul_right ..
  have hg : ¬ Nat.gcd (p * 2).natAbs (q * 2).natAbs = 1 := by rw [e]; omega
  rw [decide_eq_false hg, Bool.and_false]
theorem pair_small {p q : Int} (h : q < 2) : pairB (.int p) (.int q) = false := by
  show (decide (2 ≤ q) && decide (Nat.gcd p.natAbs q.natAbs = 1)) = false
  have hg : ¬ 2 ≤ q := by omega
  rw [decide_eq_false hg, Bool.false_and]
theorem pair_zero {q : Int} (h : 2 ≤ q) : pairB (.int 0) (.int q) = false := by
  show (decide (2 ≤ q) && decide (Nat.gcd (0 : Int).natAbs q.natAbs = 1)) = false
  have hg : ¬ Nat.gcd (0 : Int).natAbs q.natAbs = 1 := by
    rw [show (0 : Int).natAbs = 0 from rfl, Nat.gcd_zero_left]
    omega
  rw [decide_eq_false hg, Bool.and_false]
theorem pure__law_bad {K : PySem.W.Frag} {A : Ads} {vs : List V} {H : Hp} {Q : VK} {E : XK} (h : sp__law_bad K A vs H Q E) : t__law_bad K A E { nx := fun _ H' => Q .non H', rt := Q } (start n__law_bad vs) H := by
  obtain ⟨p, q, rfl, hq, zp, zq, k⟩ := h
  have mp : CMulW p 2 := wide_mul (a := 150) (b := 8) zp (by decide) (by decide) (by decide) (by decide)
  have mq : CMulW q 2 := wide_mul (a := 150) (b := 8) zq (by decide) (by decide) (by decide) (by decide)
  have sp_ : p.natAbs.log2 < 1920 := pow_lt (pow_mono zp (by decide)) (by decide)
  have iT : ∀ {H : Hp} {i : Int}, TyX K H (.int i) (.type "int") := ty_int
  walk_at "v"; refine ⟨_, _, rfl, rfl, mp, ?_⟩; walk_at "v"; refine ⟨_, _, rfl, rfl, mq, ?_⟩
  refine ⟨by show 2 ≤ sizeLine; decide, fun t1 ht1 => ?_⟩
  have s1 := Same.new (o := .tup [.int (p * 2), .int (q * 2)]) ht1
  have gt1 : (upd H t1 (.tup [.int (p * 2), .int (q * 2)])) t1 = some (.tup [.int (p * 2), .int (q * 2)]) := upd_same
  have ft1 : NumB K (upd H t1 (.tup [.int (p * 2), .int (q * 2)])) (.ref t1) false := numB_two gt1 iT iT (pair_big hq)
  generalize upd H t1 (.tup [.int (p * 2), .int (q * 2)]) = H1 at s1 gt1 ft1 ⊢
  have S := s1
  walk_at "v"
  refine ⟨by show 2 ≤ sizeLine; decide, fun t2 ht2 => ?_⟩
  have s2 := Same.new (o := .tup [.int p, .int 1]) ht2
  have gt2 : (upd H1 t2 (.tup [.int p, .int 1])) t2 = some (.tup [.int p, .int 1]) := upd_same
  have ft2 : NumB K (upd H1 t2 (.tup [.int p, .int 1])) (.ref t2) false := numB_two gt2 iT iT (pair_small (by decide))
  generalize upd H1 t2 (.tup [.int p, .int 1]) = H2 at s2 gt2 ft2 ⊢
  have ft1 := NumB.mono ft1 s2
  have S := Same.trans S s2
  walk_at "v"; walk_at "v"; refine ⟨_, rfl, ?_⟩
  refine ⟨by show 2 ≤ sizeLine; decide, fun t3 ht3 => ?_⟩
  have s3 := Same.new (o := .tup [.int p, .int (-q)]) ht3
  have gt3 : (upd H2 t3 (.tup [.int p, .int (-q)])) t3 = some (.tup [.int p, .int (-q)]) := upd_same
  have ft3 : NumB K (upd H2 t3 (.tup [.int p, .int (-q)])) (.ref t3) false := numB_two gt3 iT iT (pair_small (by omega))
  generalize upd H2 t3 (.tup [.int p, .int (-q)]) = H3 at s3 gt3 ft3 ⊢
  have ft1 := NumB.mono ft1 s3
  have ft2 := NumB.mono ft2 s3
  have S := Same.trans S s3
  refine ⟨by show 2 ≤ sizeLine; decide, fun t4 ht4 => ?_⟩
  have s4 := Same.new (o := .tup [.bl true, .int 2]) ht4
  have gt4 : (upd H3 t4 (.tup [.bl true, .int 2])) t4 = some (.tup [.bl true, .int 2]) := upd_same
  have ft4 : NumB K (upd H3 t4 (.tup [.bl true, .int 2])) (.ref t4) false := numB_two gt4 (.base (.bl true)) iT rfl
  generalize upd H3 t4 (.tup [.bl true, .int 2]) = H4 at s4 gt4 ft4 ⊢
  have ft1 := NumB.mono ft1 s4
  have ft2 := NumB.mono ft2 s4
  have ft3 := NumB.mono ft3 s4
  have S := Same.trans S s4
  walk_at "v"
  refine ⟨by show 2 ≤ sizeLine; decide, fun t5 ht5 => ?_⟩
  have s5 := Same.new (o := .tup [.int p, .bl true]) ht5
  have gt5 : (upd H4 t5 (.tup [.int p, .bl true])) t5 = some (.tup [.int p, .bl true]) := upd_same
  have ft5 : NumB K (upd H4 t5 (.tup [.int p, .bl true])) (.ref t5) false := numB_two gt5 iT (.base (.bl true)) rfl
  generalize upd H4 t5 (.tup [.int p, .bl true]) = H5 at s5 gt5 ft5 ⊢
  have ft1 := NumB.mono ft1 s5
  have ft2 := NumB.mono ft2 s5
  have ft3 := NumB.mono ft3 s5
  have ft4 := NumB.mono ft4 s5
  have S := Same.trans S s5
  walk_at "v"; refine ⟨_, rfl, sp_, ?_⟩
  walk_at "v"; walk_at "v"
  refine ⟨by show 2 ≤ sizeLine; decide, fun t6 ht6 => ?_⟩
  have s6 := Same.new (o := .lst [.int p, .int q]) ht6
  have gt6 : (upd H5 t6 (.lst [.int p, .int q])) t6 = some (.lst [.int p, .int q]) := upd_same
  have ft6 : NumB K (upd H5 t6 (.lst [.int p, .int q])) (.ref t6) false := numB_lst gt6
  generalize upd H5 t6 (.lst [.int p, .int q]) = H6 at s6 gt6 ft6 ⊢
  have ft1 := NumB.mono ft1 s6
  have ft2 := NumB.mono ft2 s6
  have ft3 := NumB.mono ft3 s6
  have ft4 := NumB.mono ft4 s6
  have ft5 := NumB.mono ft5 s6
  have S := Same.trans S s6
  walk_at "v"; walk_at "v"
  refine ⟨by show 3 ≤ sizeLine; decide, fun t7 ht7 => ?_⟩
  have s7 := Same.new (o := .tup [.int p, .int q, .int 1]) ht7
  have gt7 : (upd H6 t7 (.tup [.int p, .int q, .int 1])) t7 = some (.tup [.int p, .int q, .int 1]) := upd_same
  have ft7 : NumB K (upd H6 t7 (.tup [.int p, .int q, .int 1])) (.ref t7) false := numB_len gt7 (by show 3 ≠ 2; decide)
  generalize upd H6 t7 (.tup [.int p, .int q, .int 1]) = H7 at s7 gt7 ft7 ⊢
  have ft1 := NumB.mono ft1 s7
  have ft2 := NumB.mono ft2 s7
  have ft3 := NumB.mono ft3 s7
  have ft4 := NumB.mono ft4 s7
  have ft5 := NumB.mono ft5 s7
  have ft6 := NumB.mono ft6 s7
  have S := Same.trans S s7
  refine ⟨by show 11 ≤ sizeLine; decide, fun l1 hl1 => ?_⟩
  have s8 := Same.new (o := .lst [.ref t1, .ref t2, .ref t3, .ref t4, .ref t5, .bl true, .bl false, .non, .str (toString p), .ref t6, .ref t7]) hl1
  have gl1 : (upd H7 l1 (.lst [.ref t1, .ref t2, .ref t3, .ref t4, .ref t5, .bl true, .bl false, .non, .str (toString p), .ref t6, .ref t7])) l1 = some (.lst [.ref t1, .ref t2, .ref t3, .ref t4, .ref t5, .bl true, .bl false, .non, .str (toString p), .ref t6, .ref t7]) := upd_same
  generalize upd H7 l1 (.lst [.ref t1, .ref t2, .ref t3, .ref t4, .ref t5, .bl true, .bl false, .non, .str (toString p), .ref t6, .ref t7]) = H8 at s8 gl1 ⊢
  have ft1 := NumB.mono ft1 s8
  have ft2 := NumB.mono ft2 s8
  have ft3 := NumB.mono ft3 s8
  have ft4 := NumB.mono ft4 s8
  have ft5 := NumB.mono ft5 s8
  have ft6 := NumB.mono ft6 s8
  have ft7 := NumB.mono ft7 s8
  have S := Same.trans S s8
  walk_at "v"
  walk_at "v"
  refine ⟨by show 1 ≤ sizeLine; decide, fun t8 ht8 => ?_⟩
  have s9 := Same.new (o := .tup [.int p]) ht8
  have gt8 : (upd H8 t8 (.tup [.int p])) t8 = some (.tup [.int p]) := upd_same
  have ft8 : NumB K (upd H8 t8 (.tup [.int p])) (.ref t8) false := numB_len gt8 (by show 1 ≠ 2; decide)
  generalize upd H8 t8 (.tup [.int p]) = H9 at s9 gt8 ft8 ⊢
  have ft1 := NumB.mono ft1 s9
  have ft2 := NumB.mono ft2 s9
  have ft3 := NumB.mono ft3 s9
  have ft4 := NumB.mono ft4 s9
  have ft5 := NumB.mono ft5 s9
  have ft6 := NumB.mono ft6 s9
  have ft7 := NumB.mono ft7 s9
  have gl1 := s9 _ _ gl1
  have S := Same.trans S s9
  refine ⟨by show 0 ≤ sizeLine; decide, fun t9 ht9 => ?_⟩
  have s10 := Same.new (o := .tup []) ht9
  have gt9 : (upd H9 t9 (.tup [])) t9 = some (.tup []) := upd_same
  have ft9 : NumB K (upd H9 t9 (.tup [])) (.ref t9) false := numB_len gt9 (by show 0 ≠ 2; decide)
  generalize upd H9 t9 (.tup []) = H10 at s10 gt9 ft9 ⊢
  have ft1 := NumB.mono ft1 s10
  have ft2 := NumB.mono ft2 s10
  have ft3 := NumB.mono ft3 s10
  have ft4 := NumB.mono ft4 s10
  have ft5 := NumB.mono ft5 s10
  have ft6 := NumB.mono ft6 s10
  have ft7 := NumB.mono ft7 s10
  have gl1 := s10 _ _ gl1
  have ft8 := NumB.mono ft8 s10
  have S := Same.trans S s10
  walk_at "v"; refine ⟨_, rfl, sp_, ?_⟩
  walk_at "v"
  refine ⟨by show 2 ≤ sizeLine; decide, fun t10 ht10 => ?_⟩
  have s11 := Same.new (o := .tup [.str (toString p), .int q]) ht10
  have gt10 : (upd H10 t10 (.tup [.str (toString p), .int q])) t10 = some (.tup [.str (toString p), .int q]) := upd_same
  have ft10 : NumB K (upd H10 t10 (.tup [.str (toString p), .int q])) (.ref t10) false := numB_two gt10 (.base (.str _)) iT rfl
  generalize upd H10 t10 (.tup [.str (toString p), .int q]) = H11 at s11 gt10 ft10 ⊢
  have ft1 := NumB.mono ft1 s11
  have ft2 := NumB.mono ft2 s11
  have ft3 := NumB.mono ft3 s11
  have ft4 := NumB.mono ft4 s11
  have ft5 := NumB.mono ft5 s11
  have ft6 := NumB.mono ft6 s11
  have ft7 := NumB.mono ft7 s11
  have gl1 := s11 _ _ gl1
  have ft8 := NumB.mono ft8 s11
  have ft9 := NumB.mono ft9 s11
  have S := Same.trans S s11
  walk_at "v"
  refine ⟨by show 2 ≤ sizeLine; decide, fun t11 ht11 => ?_⟩
  have s12 := Same.new (o := .tup [.int 0, .int q]) ht11
  have gt11 : (upd H11 t11 (.tup [.int 0, .int q])) t11 = some (.tup [.int 0, .int q]) := upd_same
  have ft11 : NumB K (upd H11 t11 (.tup [.int 0, .int q])) (.ref t11) false := numB_two gt11 iT iT (pair_zero hq)
  generalize upd H11 t11 (.tup [.int 0, .int q]) = H12 at s12 gt11 ft11 ⊢
  have ft1 := NumB.mono ft1 s12
  have ft2 := NumB.mono ft2 s12
  have ft3 := NumB.mono ft3 s12
  have ft4 := NumB.mono ft4 s12
  have ft5 := NumB.mono ft5 s12
  have ft6 := NumB.mono ft6 s12
  have ft7 := NumB.mono ft7 s12
  have gl1 := s12 _ _ gl1
  have ft8 := NumB.mono ft8 s12
  have ft9 := NumB.mono ft9 s12
  have ft10 := NumB.mono ft10 s12
  have S := Same.trans S s12
  walk_at "v"
  refine ⟨by show 2 ≤ sizeLine; decide, fun t12 ht12 => ?_⟩
  have s13 := Same.new (o := .tup [.int p, .non]) ht12
  have gt12 : (upd H12 t12 (.tup [.int p, .non])) t12 = some (.tup [.int p, .non]) := upd_same
  have ft12 : NumB K (upd H12 t12 (.tup [.int p, .non])) (.ref t12) false := numB_two gt12 iT (.base .non) rfl
  generalize upd H12 t12 (.tup [.int p, .non]) = H13 at s13 gt12 ft12 ⊢
  have ft1 := NumB.mono ft1 s13
  have ft2 := NumB.mono ft2 s13
  have ft3 := NumB.mono ft3 s13
  have ft4 := NumB.mono ft4 s13
  have ft5 := NumB.mono ft5 s13
  have ft6 := NumB.mono ft6 s13
  have ft7 := NumB.mono ft7 s13
  have gl1 := s13 _ _ gl1
  have ft8 := NumB.mono ft8 s13
  have ft9 := NumB.mono ft9 s13
  have ft10 := NumB.mono ft10 s13
  have ft11 := NumB.mono ft11 s13
  have S := Same.trans S s13
  refine fun t13 ht13 => ?_
  have s14 := Same.new (o := .dK []) ht13
  have gt13 : (upd H13 t13 (.dK [])) t13 = some (.dK []) := upd_same
  have ft13 : NumB K (upd H13 t13 (.dK [])) (.ref t13) false := numB_dK gt13
  generalize upd H13 t13 (.dK []) = H14 at s14 gt13 ft13 ⊢
  have ft1 := NumB.mono ft1 s14
  have ft2 := NumB.mono ft2 s14
  have ft3 := NumB.mono ft3 s14
  have ft4 := NumB.mono ft4 s14
  have ft5 := NumB.mono ft5 s14
  have ft6 := NumB.mono ft6 s14
  have ft7 := NumB.mono ft7 s14
  have gl1 := s14 _ _ gl1
  have ft8 := NumB.mono ft8 s14
  have ft9 := NumB.mono ft9 s14
  have ft10 := NumB.mono ft10 s14
  have ft11 := NumB.mono ft11 s14
  have ft12 := NumB.mono ft12 s14
  have S := Same.trans S s14
  refine ⟨by show 6 ≤ sizeLine; decide, fun l2 hl2 => ?_⟩
  have s15 := Same.new (o := .lst [.ref t8, .ref t9, .ref t10, .ref t11, .ref t12, .ref t13]) hl2
  have gl2 : (upd H14 l2 (.lst [.ref t8, .ref t9, .ref t10, .ref t11, .ref t12, .ref t13])) l2 = some (.lst [.ref t8, .ref t9, .ref t10, .ref t11, .ref t12, .ref t13]) := upd_same
  generalize upd H14 l2 (.lst [.ref t8, .ref t9, .ref t10, .ref t11, .ref t12, .ref t13]) = H15 at s15 gl2 ⊢
  have ft1 := NumB.mono ft1 s15
  have ft2 := NumB.mono ft2 s15
  have ft3 := NumB.mono ft3 s15
  have ft4 := NumB.mono ft4 s15
  have ft5 := NumB.mono ft5 s15
  have ft6 := NumB.mono ft6 s15
  have ft7 := NumB.mono ft7 s15
  have gl1 := s15 _ _ gl1
  have ft8 := NumB.mono ft8 s15
  have ft9 := NumB.mono ft9 s15
  have ft10 := NumB.mono ft10 s15
  have ft11 := NumB.mono ft11 s15
  have ft12 := NumB.mono ft12 s15
  have ft13 := NumB.mono ft13 s15
  have S := Same.trans S s15
  refine ⟨l1, l2, _, _, rfl, rfl, gl1, gl2, by show 17 ≤ sizeLine; decide, fun l hl => ?_⟩
  have sl := Same.new (o := .lst ([.ref t1, .ref t2, .ref t3, .ref t4, .ref t5, .bl true, .bl false, .non, .str (toString p), .ref t6, .ref t7] ++ [.ref t8, .ref t9, .ref t10, .ref t11, .ref t12, .ref t13])) hl
  have hl0 : H l = none := S.free hl
  have S := Same.trans S sl
  refine k l _ _ S hl0 upd_same (by show 17 ≤ 17; decide) ?_
  have ft1 := NumB.mono ft1 sl
  have ft2 := NumB.mono ft2 sl
  have ft3 := NumB.mono ft3 sl
  have ft4 := NumB.mono ft4 sl
  have ft5 := NumB.mono ft5 sl
  have ft6 := NumB.mono ft6 sl
  have ft7 := NumB.mono ft7 sl
  have ft8 := NumB.mono ft8 sl
  have ft9 := NumB.mono ft9 sl
  have ft10 := NumB.mono ft10 sl
  have ft11 := NumB.mono ft11 sl
  have ft12 := NumB.mono ft12 sl
  have ft13 := NumB.mono ft13 sl
  intro x hx
  rcases List.mem_cons.mp hx with rfl | hx
  · exact ft1
  rcases List.mem_cons.mp hx with rfl | hx
  · exact ft2
  rcases List.mem_cons.mp hx with rfl | hx
  · exact ft3
  rcases List.mem_cons.mp hx with rfl | hx
  · exact ft4
  rcases List.mem_cons.mp hx with rfl | hx
  · exact ft5
  rcases List.mem_cons.mp hx with rfl | hx
  · exact numB_bl
  rcases List.mem_cons.mp hx with rfl | hx
  · exact numB_bl
  rcases List.mem_cons.mp hx with rfl | hx
  · exact numB_non
  rcases List.mem_cons.mp hx with rfl | hx
  · exact numB_str
  rcases List.mem_cons.mp hx with rfl | hx
  · exact ft6
  rcases List.mem_cons.mp hx with rfl | hx
  · exact ft7
  rcases List.mem_cons.mp hx with rfl | hx
  · exact ft8
  rcases List.mem_cons.mp hx with rfl | hx
  · exact ft9
  rcases List.mem_cons.mp hx with rfl | hx
  · exact ft10
  rcases List.mem_cons.mp hx with rfl | hx
  · exact ft11
  rcases List.mem_cons.mp hx with rfl | hx
  · exact ft12
  rcases List.mem_cons.mp hx with rfl | hx
  · exact ft13
  cases hx
/-! ### the law -/
def t_law (K : PySem.W.Frag) (A : Ads) (E : XK) : TS :=
    (tSeq (tFor (iRng1 (tCons (tCB rMax2 (tCons (tC (.int 1)) (tCons (tCB rMin2 (tCons (tC (.int 6)) (tCons (tCB (rLen K) (tCons (tVar 0) tNil)) tNil))) tNil))) tNil)) (gName 1) (tSeq (tAsg (tCall (sp__law_bag K A) [] E0 (tCons (tVar 0) (tCons (tVar 1) tNil))) (gName 2))
    (tSeq (tAsg (tCall (sp__law_of K A) [] E0 (tCons (tVar 2) (tCons (tLst (tCons (tC (.int 9)) (tCons (tOp rPow (tC (.int 10)) (tC (.int 20))) (tCons (tOp rPow (tC (.int 10)) (tC (.int 40))) tNil)))) tNil))) (gName 3))
    (tSeq (tPar 5 6 (tCons (tOp rSub (tCall (sp__law_take K A) [] E0 (tCons (tVar 2) (tCons (tOp rAdd (tOp rMulW (tC (.int 2)) (tVar 3)) (tC (.int 1))) tNil))) (tVar 3)) (tCons (tOp rAdd (tC (.int 1)) (tCall (sp__law_take K A) [] E0 (tCons (tVar 2) (tCons (tCall (sp__law_of K A) [] E0 (tCons (tVar 2) (tCons (tLst (tCons (tC (.int 4)) (tCons (tOp rPow (tC (.int 10)) (tC (.int 12))) tNil))) tNil))) tNil)))) tNil)))
    (tSeq (tPar 7 8 (tCons (tCall (sp__law_value K A) [] E0 (tCons (tVar 5) (tCons (tVar 6) tNil))) (tCons (tOp rAdd (tC (.int 1)) (tCall (sp__law_take K A) [] E0 (tCons (tVar 2) (tCons (tC (.int 1000)) tNil)))) tNil)))
    (tSeq (tIfS (tOr (tNot (tB (tCall (sp__law_same K A) [] E0 (tCons (tCall (sp_number K A) [] E0 (tCons (tOp rMulW (tVar 5) (tVar 8)) (tCons (tOp rMulW (tVar 6) (tVar 8)) tNil))) (tCons (tVar 7) tNil))))) (tNot (tB (tCall (sp__law_same K A) [] E0 (tCons (tCall (sp_number K A) [] E0 (tCons (tVar 5) (tCons (tVar 6) tNil))) (tCons (tVar 7) tNil)))))) (tRet (tC (.bl false))) tNext)
    (tSeq (tIfS (tOr (tNot (tB (tCall (sp__law_same K A) [] E0 (tCons (tCall (sp_number K A) [] E0 (tCons (tOp rMulW (tUn rNeg (tVar 5)) (tVar 8)) (tCons (tOp rMulW (tUn rNeg (tVar 6)) (tVar 8)) tNil))) (tCons (tVar 7) tNil))))) (tNot (tB (tCall (sp__law_same K A) [] E0 (tCons (tCall (sp_number K A) [.int 1] E0 (tCons (tVar 5) tNil)) (tCons (tVar 5) tNil)))))) (tRet (tC (.bl false))) tNext)
    (tSeq (tIfS (tOr (tNot (tB (tCall (sp__law_same K A) [] E0 (tCons (tCallN 0 2 (sp_number K A) (fun vs zs => pick [(2, 1), (2, 0)] vs [.int 1] zs) E0 tNil (tCons (tUn rNeg (tVar 6)) (tCons (tVar 5) tNil))) (tCons (tCall (sp__law_value K A) [] E0 (tCons (tUn rNeg (tVar 5)) (tCons (tVar 6) tNil))) tNil))))) (tTest (tOp rNotB (tCall (sp_is_number K A) [] E0 (tCons (tVar 7) tNil)) (tC (.bl true))))) (tRet (tC (.bl false))) tNext)
    (tSeq (tAsg (tCall (sp__law_pair K A) [] E0 (tCons (tCall (sp__law_value K A) [] E0 (tCons (tOp rAdd (tOp rMulW (tC (.int 2)) (tVar 5)) (tC (.int 1))) (tCons (tOp rMulW (tC (.int 2)) (tVar 6)) tNil))) tNil)) (gTup K 2 (gCons (gName 9) (gCons (gName 10) gNil))))
    (tSeq (tIfS (tOr (tTest (tOp rNotB (tCall (sp_is_number K A) [] E0 (tCons (tTup (tCons (tVar 9) (tCons (tVar 10) tNil))) tNil)) (tC (.bl true)))) (tOr (tTest (tOp rNotB (tCall (sp_is_number K A) [] E0 (tCons (tVar 5) tNil)) (tC (.bl true)))) (tNot (tB (tCall (sp__law_zero K A) [] E0 (tCons (tVar 5) tNil)))))) (tRet (tC (.bl false))) tNext)
    (tFor (iList K (tCall (sp__law_bad K A) [] E0 (tCons (tVar 9) (tCons (tVar 10) tNil)))) (gName 4) (tIfS (tTest (tOp rNotB (tCall (sp_is_number K A) [] E0 (tCons (tVar 4) tNil)) (tC (.bl false)))) (tRet (tC (.bl false))) tNext))))))))))))
    (tRet (tC (.bl true))))
def n_law : List Str := ["_law_script", "_law_at", "_law_bag_here", "_law_most", "_law_thing", "_law_upper", "_law_lower", "_law_due", "_law_common", "_law_p", "_law_q"]
theorem SqL.xbN {K : PySem.W.Frag} {H H1 H2 : Hp} {a b : Addr} {xs : List V} (h : SqL K H a xs) (hb : H b = none) (s : Same H H1) (x : Xb b H1 H2) : SqL K H2 a xs := by
  rcases h with (h | ⟨o, h⟩) | h
  · exact .inl (.inl (x _ _ (ne_of_none h hb) (s _ _ h)))
  · exact .inl (.inr ⟨o, x _ _ (ne_of_none h hb) (s _ _ h)⟩)
  · exact .inr h
/-- the script, away from the draws' list -/
def ScrAt (K : PySem.W.Frag) (H : Hp) (a b : Addr) (xs : List V) : Prop := ∃ H0 H1, SqL K H0 a xs ∧ H0 b = none ∧ Same H0 H1 ∧ Xb b H1 H
theorem ScrAt.seq {K : PySem.W.Frag} {H : Hp} {a b : Addr} {xs : List V} (h : ScrAt K H a b xs) : SqL K H a xs := by
  obtain ⟨H0, H1, h1, h2, h3, h4⟩ := h
  exact SqL.xbN h1 h2 h3 h4
theorem ScrAt.xb {K : PySem.W.Frag} {H H' : Hp} {a b : Addr} {xs : List V} (h : ScrAt K H a b xs) (x : Xb b H H') : ScrAt K H' a b xs := by
  obtain ⟨H0, H1, h1, h2, h3, h4⟩ := h
  exact ⟨H0, H1, h1, h2, h3, h4.trans x⟩
theorem NumAt.numB {K : PySem.W.Frag} {H : Hp} {x : V} {p q : Int} (h : NumAt H x p q) : NumB K H x true := by
  rcases h with ⟨rfl, _⟩ | ⟨a, rfl, ha, h2, c⟩
  · exact .inl ⟨_, ty_int, by decide, rfl⟩
  · refine numB_two ha ty_int ty_int ?_
    show (decide (2 ≤ q) && decide (Nat.gcd p.natAbs q.natAbs = 1)) = true
    rw [decide_eq_true h2, decide_eq_true (show Nat.gcd p.natAbs q.natAbs = 1 from c)]
    rfl
theorem subI {i j : Int} {H : Hp} {Q : VK} (h : ∀ u, u = i - j → Q (.int u) H) : rSub (.int i) (.int j) H Q := ⟨_, _, rfl, rfl, h _ rfl⟩
theorem addI {i j : Int} {H : Hp} {Q : VK} (h : ∀ u, u = i + j → Q (.int u) H) : rAdd (.int i) (.int j) H Q := ⟨_, _, rfl, rfl, h _ rfl⟩
theorem mulI {i j : Int} {H : Hp} {Q : VK} (c : CMulW i j) (h : ∀ u, u = i * j → Q (.int u) H) : rMulW (.int i) (.int j) H Q := ⟨_, _, rfl, rfl, c, h _ rfl⟩
theorem negI {i : Int} {H : Hp} {Q : VK} (h : ∀ u, u = -i → Q (.int u) H) : rNeg (.int i) H Q := ⟨_, rfl, h _ rfl⟩
theorem fr_pos {p q : Int} (h : 0 < q) : frN p q = lowN p q ∧ frD p q = lowD p q := by
  unfold frN frD
  rw [if_neg (by omega), if_neg (by omega)]
  exact ⟨rfl, rfl⟩
theorem fr_neg {p q : Int} (h : 0 < q) : frN p (-q) = lowN (-p) q ∧ frD p (-q) = lowD (-p) q := by
  unfold frN frD
  rw [if_pos (by omega), if_pos (by omega), Int.neg_neg]
  exact ⟨rfl, rfl⟩
theorem low_odd {u l : Int} (h : 0 < l) : 2 ≤ lowD (2 * u + 1) (2 * l) := by
  have h1 := lowD_pos (p := 2 * u + 1) (q := 2 * l) (by omega)
  have h2 := low_cross (p := 2 * u + 1) (q := 2 * l)
  rcases Int.lt_or_le (lowD (2 * u + 1) (2 * l)) 2 with h3 | h3
  · have e : lowD (2 * u + 1) (2 * l) = 1 := by omega
    rw [e, Int.mul_left_comm] at h2
    omega
  · exact h3
def sp_law (K : PySem.W.Frag) : Sp := fun vs H Q _ => ∃ (a : Addr) (ns : List Int), vs = [.ref a] ∧ SqL K H a (ns.map V.int) ∧ ns.length ≤ 63 ∧ ∀ H', Q (.bl true) H'
theorem len_law {K : PySem.W.Frag} {vs : List V} {H : Hp} {Q : VK} {E : XK} (h : sp_law K vs H Q E) : vs.length = 1 := by
  obtain ⟨x, p, rfl, _⟩ := h
  rfl
theorem pure_law {K : PySem.W.Frag} {A : Ads} {vs : List V} {H : Hp} {Q : VK} {E : XK} (h : sp_law K vs H Q E) : t_law K A E { nx := fun _ H' => Q .non H', rt := Q } (start n_law vs) H := by
  obtain ⟨a, ns, rfl, hS2, hn, k⟩ := h
  walk_at "v"
  refine ⟨_, _, rfl, Or.inl ⟨_, hS2, rfl⟩, ?_⟩
  refine ⟨_, _, rfl, ?_⟩
  refine ⟨_, _, rfl, ?_⟩
  have hl : (ns.map V.int).length = ns.length := List.length_map ..
  obtain ⟨m, em, hm⟩ : ∃ m : Int, m = (if (if ((ns.map V.int).length : Int) < 6 then ((ns.map V.int).length : Int) else 6) > 1 then (if ((ns.map V.int).length : Int) < 6 then ((ns.map V.int).length : Int) else 6) else 1) ∧ m ≤ 6 := ⟨_, rfl, by split <;> split <;> omega⟩
  rw [← em]
  refine ⟨m, rfl, by omega, by omega, ?_⟩
  refine for_range (lo := 0) (n := m.toNat) (fun i σ H' => SqL K H' a (ns.map V.int) ∧ ∃ v1 v2 v3 v4 v5 v6 v7 v8 v9 v10, σ = [some (.ref a), v1, v2, v3, v4, v5, v6, v7, v8, v9, v10]) ⟨hS2, _, _, _, _, _, _, _, _, _, _, rfl⟩ ?_ ?_
  rotate_left
  · rintro σ H' ⟨_, _, _, _, _, _, _, _, _, _, _, _, rfl⟩
    exact k H'
  rintro i σ H3 hi ⟨hS3, v1, v2, v3, v4, v5, v6, v7, v8, v9, v10, rfl⟩
  -- the draws
  walk_at "v"; walk_at "v"
  refine ⟨a, ns, 0 + i, rfl, hS3, hn, by omega, by omega, fun b H4 hb0 s4 hB => ?_⟩
  have sc : ScrAt K H4 a b (ns.map V.int) := ⟨H3, H4, hS3, hb0, s4, Xb.refl⟩
  have hB4 : Bag (4 + 1) H4 b := hB.mono (by decide)
  clear hB hS3 s4 hb0
  have e20 : (10 : Int) ^ (20 : Int).toNat = 100000000000000000000 := by decide
  have e40 : (10 : Int) ^ (40 : Int).toNat = 10000000000000000000000000000000000000000 := by decide
  have e12 : (10 : Int) ^ (12 : Int).toNat = 1000000000000 := by decide
  walk_at "v"
  refine ⟨_, _, rfl, rfl, ⟨by decide, by decide, by decide⟩, ?_⟩
  refine ⟨_, _, rfl, rfl, ⟨by decide, by decide, by decide⟩, ?_⟩
  refine ⟨by show 3 ≤ sizeLine; decide, fun l1 hl1 => ?_⟩
  have n1 : l1 ≠ b := by
    rintro rfl
    obtain ⟨D, eD⟩ := hB4.at_
    rw [hl1] at eD
    cases eD
  have s5 := Same.new (o := .lst [.int 9, .int (10 ^ (20 : Int).toNat), .int (10 ^ (40 : Int).toNat)]) hl1
  refine ⟨b, 4, hB4.same s5, Or.inl ⟨l1, _, rfl, upd_same, n1, by show 0 < 3; decide, by show 3 ≤ 1000000; decide, fun j x H6 hj x6 hB6 => ?_⟩⟩
  have sc6 := (sc.xb (Xb.of s5)).xb x6
  obtain ⟨most, rfl, m0, m1⟩ : ∃ most : Int, x = .int most ∧ 0 < most ∧ most ≤ 10 ^ 40 := by
    have hx := List.mem_of_getElem? hj
    rcases List.mem_cons.mp hx with rfl | hx
    · exact ⟨_, rfl, by decide, by decide⟩
    rcases List.mem_cons.mp hx with rfl | hx
    · exact ⟨_, rfl, by decide, by decide⟩
    rcases List.mem_cons.mp hx with rfl | hx
    · exact ⟨_, rfl, by decide, by decide⟩
    cases hx
  clear hj sc s5 n1 hl1 x6 hB4 H3 H4 e20 e40
  have m2 : most.natAbs < 2 ^ 140 := Nat.lt_of_le_of_lt (show most.natAbs ≤ 10 ^ 40 by omega) (by decide)
  -- upper
  walk_at "v"; walk_at "v"
  refine ⟨_, _, rfl, rfl, wide_mul (a := 2) (b := 140) (by decide) m2 (by decide) (by decide) (by decide), ?_⟩
  walk_at "ii"
  refine ⟨b, 2 * most + 1, 3, rfl, hB6, by omega, ?_, fun d H7 d0 d1 x7 hB7 => ?_⟩
  · exact Nat.lt_of_le_of_lt (show (2 * most + 1).natAbs ≤ 2 ^ 142 by omega) (by decide)
  have sc7 := sc6.xb x7
  walk_at "v"
  refine subI fun u eu => ?_
  have u0 : u.natAbs ≤ 10 ^ 40 := by omega
  -- lower
  walk_at "v"; walk_at "v"
  refine ⟨_, _, rfl, rfl, ⟨by decide, by decide, by decide⟩, ?_⟩
  refine ⟨by show 2 ≤ sizeLine; decide, fun l2 hl2 => ?_⟩
  have n2 : l2 ≠ b := by
    rintro rfl
    obtain ⟨D, eD⟩ := hB7.at_
    rw [hl2] at eD
    cases eD
  have s8 := Same.new (o := .lst [.int 4, .int (10 ^ (12 : Int).toNat)]) hl2
  refine ⟨b, 2, hB7.same s8, Or.inl ⟨l2, _, rfl, upd_same, n2, by show 0 < 2; decide, by show 2 ≤ 1000000; decide, fun j x H8 hj x8 hB8 => ?_⟩⟩
  have sc8 := (sc7.xb (Xb.of s8)).xb x8
  obtain ⟨low, rfl, w0, w1⟩ : ∃ low : Int, x = .int low ∧ 0 < low ∧ low ≤ 10 ^ 12 := by
    have hx := List.mem_of_getElem? hj
    rcases List.mem_cons.mp hx with rfl | hx
    · exact ⟨_, rfl, by decide, by decide⟩
    rcases List.mem_cons.mp hx with rfl | hx
    · exact ⟨_, rfl, by decide, by decide⟩
    cases hx
  refine ⟨b, low, 1, rfl, hB8, w0, Nat.lt_of_le_of_lt (show low.natAbs ≤ 10 ^ 12 by omega) (by decide), fun d2 H9 d20 d21 x9 hB9 => ?_⟩
  have sc9 := sc8.xb x9
  clear hj sc7 sc8 s8 n2 hl2 x8 x9 x7 hB8 hB7 hB6 sc6 H6 H7 H8
  refine addI fun l el => ?_
  have l0 : 0 < l := by omega
  have l1 : l ≤ 10 ^ 12 := by omega
  -- due, common
  refine ⟨_, _, rfl, ?_⟩
  have zl : l.natAbs < 2 ^ 9000 := Nat.lt_of_le_of_lt (show l.natAbs ≤ 10 ^ 12 by omega) (by decide)
  walk_at "v"; walk_at "v"
  refine ⟨u, l, rfl, l0, zl, fun due H10 s10 hd => ?_⟩
  have sc10 := sc9.xb (Xb.of s10)
  have hB10 := hB9.same s10
  walk_at "v"
  refine ⟨b, 1000, 0, rfl, hB10, by decide, by decide, fun d3 H11 d30 d31 x11 hB11 => ?_⟩
  have sc11 := sc10.xb x11
  have hd11 := hd.xb hB10 x11
  clear sc9 sc10 s10 hB9 hB10 x11 hd H9 H10
  refine addI fun c ec => ?_
  have c0 : 0 < c := by omega
  have c1 : c ≤ 1000 := by omega
  refine ⟨_, _, rfl, ?_⟩
  have zu : u.natAbs < 2 ^ 140 := Nat.lt_of_le_of_lt u0 (by decide)
  have zl40 : l.natAbs < 2 ^ 40 := Nat.lt_of_le_of_lt (show l.natAbs ≤ 10 ^ 12 by omega) (by decide)
  have zc : c.natAbs < 2 ^ 12 := Nat.lt_of_le_of_lt (show c.natAbs ≤ 1000 by omega) (by decide)
  have lc : 0 < l * c := Int.mul_pos l0 c0
  have zlc : (l * c).natAbs < 2 ^ 52 := wide_lt zl40 zc
  -- number(u * c, l * c)
  walk_at "v"; walk_at "v"
  refine mulI (wide_mul zu zc (by decide) (by decide) (by decide)) fun w1 e1 => ?_
  walk_at "v"; walk_at "v"
  refine mulI (wide_mul zl40 zc (by decide) (by decide) (by decide)) fun w2 e2 => ?_
  subst e1 e2
  refine ⟨u * c, l * c, rfl, pow_mono zlc (by decide), fun _ => ?_, fun h => absurd h (by omega)⟩
  intro y H12 s12 hy
  have hdu := hd11.same s12
  have sc12 := sc11.xb (Xb.of s12)
  walk_at "v"
  refine ⟨y, due, lowN u l, lowD u l, rfl, hy.eqv ((fr_pos lc).1.trans (low_mul l0 c0).1) ((fr_pos lc).2.trans (low_mul l0 c0).2), hdu, fun H13 s13 => ?_⟩
  walk_at "fls"
  clear hy
  have hdu := hdu.same s13
  have sc13 := sc12.xb (Xb.of s13)
  -- number(u, l)
  walk_at "v"; walk_at "v"
  refine ⟨u, l, rfl, zl, fun _ => ?_, fun h => absurd h (by omega)⟩
  intro y H14 s14 hy
  have hdu := hdu.same s14
  have sc14 := sc13.xb (Xb.of s14)
  walk_at "v"
  refine ⟨y, due, lowN u l, lowD u l, rfl, hy.eqv (fr_pos l0).1 (fr_pos l0).2, hdu, fun H15 s15 => ?_⟩
  walk_at "fls"
  clear hy
  have hdu := hdu.same s15
  have sc15 := sc14.xb (Xb.of s15)
  -- number(-u * c, -l * c)
  walk_at "v"; refine negI fun v0 e0 => ?_
  walk_at "v"
  refine mulI (wide_mul (a := 140) (b := 12) (by rw [e0, Int.natAbs_neg]; exact zu) zc (by decide) (by decide) (by decide)) fun w1 e1 => ?_
  walk_at "v"; refine negI fun v3 e3 => ?_
  walk_at "v"
  refine mulI (wide_mul (a := 40) (b := 12) (by rw [e3, Int.natAbs_neg]; exact zl40) zc (by decide) (by decide) (by decide)) fun w2 e2 => ?_
  rw [e0, Int.neg_mul] at e1
  rw [e3, Int.neg_mul] at e2
  clear e0 e3
  subst e1 e2
  refine ⟨-(u * c), -(l * c), rfl, by rw [Int.natAbs_neg]; exact pow_mono zlc (by decide), fun _ => ?_, fun h => absurd h (by omega)⟩
  intro y H16 s16 hy
  have hdu := hdu.same s16
  have sc16 := sc15.xb (Xb.of s16)
  walk_at "v"
  refine ⟨y, due, lowN u l, lowD u l, rfl, hy.eqv ((fr_neg lc).1.trans (by rw [Int.neg_neg]; exact (low_mul l0 c0).1)) ((fr_neg lc).2.trans (by rw [Int.neg_neg]; exact (low_mul l0 c0).2)), hdu, fun H17 s17 => ?_⟩
  walk_at "fls"
  clear hy
  have hdu := hdu.same s17
  have sc17 := sc16.xb (Xb.of s17)
  -- number(u)
  walk_at "v"
  refine ⟨u, 1, rfl, by decide, fun _ => ?_, fun h => absurd h (by decide)⟩
  intro y H18 s18 hy
  have hdu := hdu.same s18
  have sc18 := sc17.xb (Xb.of s18)
  walk_at "v"
  refine ⟨y, .int u, u, 1, rfl, hy.eqv ((fr_pos (by decide)).1.trans (low_one u).1) ((fr_pos (by decide)).2.trans (low_one u).2), NumAt.int _ _, fun H19 s19 => ?_⟩
  walk_at "fls"
  clear hy
  have hdu := hdu.same s19
  have sc19 := sc18.xb (Xb.of s19)
  -- number(bottom=-l, top=u)
  walk_at "v"; refine negI fun v0 e0 => ?_
  walk_at "v"
  refine ⟨rfl, rfl, ?_⟩
  subst e0
  refine ⟨u, -l, rfl, by rw [Int.natAbs_neg]; exact zl, fun _ => ?_, fun h => absurd h (by omega)⟩
  intro y H20 s20 hy
  have hdu := hdu.same s20
  have sc20 := sc19.xb (Xb.of s20)
  walk_at "v"; refine negI fun v0 e0 => ?_
  walk_at "v"
  subst e0
  refine ⟨-u, l, rfl, l0, zl, fun y2 H21 s21 hy2 => ?_⟩
  have hdu := hdu.same s21
  have sc21 := sc20.xb (Xb.of s21)
  refine ⟨y, y2, lowN (-u) l, lowD (-u) l, rfl, (hy.same s21).eqv (fr_neg l0).1 (fr_neg l0).2, hy2, fun H22 s22 => ?_⟩
  walk_at "fls"
  clear hy hy2
  have hdu := hdu.same s22
  have sc22 := sc21.xb (Xb.of s22)
  -- is_number(due)
  walk_at "v"
  refine ⟨due, true, rfl, hdu.numB, ?_⟩
  walk_at "isnt"
  -- the pair
  walk_at "v"
  refine mulI (wide_mul (a := 2) (b := 140) (by decide) zu (by decide) (by decide) (by decide)) fun w1 e1 => ?_
  walk_at "ii"
  walk_at "v"
  refine mulI (wide_mul (a := 2) (b := 40) (by decide) zl40 (by decide) (by decide) (by decide)) fun w3 e3 => ?_
  subst e1 e3
  refine ⟨2 * u + 1, 2 * l, rfl, by omega, ?_, fun x H23 s23 hx => ?_⟩
  · exact pow_mono (m := 42) (wide_lt (a := 2) (by decide) zl40) (by decide)
  have sc23 := sc22.xb (Xb.of s23)
  refine ⟨x, _, _, rfl, hx, fun y H24 s24 hy => ?_⟩
  have sc24 := sc23.xb (Xb.of s24)
  obtain ⟨t, rfl, ht⟩ := hy
  have zP : (lowN (2 * u + 1) (2 * l)).natAbs < 2 ^ 150 := Nat.lt_of_le_of_lt (lowN_le _ _ (by omega)) (Nat.lt_of_le_of_lt (show (2 * u + 1).natAbs ≤ 2 ^ 142 by omega) (by decide))
  have zD : (lowD (2 * u + 1) (2 * l)).natAbs < 2 ^ 150 := Nat.lt_of_le_of_lt (lowD_le _ _ (by omega)) (Nat.lt_of_le_of_lt (show (2 * l).natAbs ≤ 2 ^ 42 by omega) (by decide))
  have gD := low_odd (u := u) l0
  have gC := low_cop (p := 2 * u + 1) (q := 2 * l) (by omega)
  generalize lowN (2 * u + 1) (2 * l) = P at ht zP gC
  generalize lowD (2 * u + 1) (2 * l) = D at ht zD gD gC
  refine ⟨t, _, rfl, SqT.of ht, rfl, _, _, rfl, _, _, rfl, rfl, ?_⟩
  walk_at "v"; walk_at "v"
  refine ⟨by show 2 ≤ sizeLine; decide, fun t2 ht2 => ?_⟩
  have sc25 := sc24.xb (Xb.of (Same.new (o := .tup [.int P, .int D]) ht2))
  refine ⟨.ref t2, true, rfl, numB_two upd_same ty_int ty_int ?_, ?_⟩
  · show (decide (2 ≤ D) && decide (Nat.gcd P.natAbs D.natAbs = 1)) = true
    rw [decide_eq_true gD, decide_eq_true (show Nat.gcd P.natAbs D.natAbs = 1 from gC)]
    rfl
  walk_at "isnt"
  walk_at "v"
  refine ⟨.int u, true, rfl, (NumAt.int (upd H24 t2 (.tup [.int P, .int D])) u).numB, ?_⟩
  walk_at "isnt"
  walk_at "v"
  refine ⟨u, rfl, fun H26 s26 => ?_⟩
  have sc26 := sc25.xb (Xb.of s26)
  walk_at "fls"
  walk_at "v"; walk_at "v"
  refine ⟨P, D, rfl, gD, zP, zD, fun L H27 xs s27 _ hL hlen hall => ?_⟩
  have sc27 := sc26.xb (Xb.of s27)
  refine ⟨L, rfl, ⟨_, SqL.of hL⟩, ?_⟩
  refine for_list (K := K) (a := L) (xs := xs) (fun i σ H' => H' = H27 ∧ ∃ w1 w2 w3 w4 w5 w6 w7 w8 w9 w10 : Option V, σ = [some (.ref a), w1, w2, w3, w4, w5, w6, w7, w8, w9, w10]) ⟨rfl, _, _, _, _, _, _, _, _, _, _, rfl⟩ (fun i σ H' _ z => ?_) ?_ ?_
  · obtain ⟨rfl, _⟩ := z
    exact SqL.of hL
  rotate_left
  · rintro σ H' ⟨rfl, w1, w2, w3, w4, w5, w6, w7, w8, w9, w10, rfl⟩
    exact ⟨sc27.seq, _, _, _, _, _, _, _, _, _, _, rfl⟩
  rintro j w σ Hj hj ⟨rfl, w1, w2, w3, w4, w5, w6, w7, w8, w9, w10, rfl⟩
  walk_at "v"
  refine ⟨w, false, rfl, hall _ (List.mem_of_getElem? hj), ?_⟩
  walk_at "isnt"
  exact ⟨rfl, _, _, _, _, _, _, _, _, _, _, rfl⟩
end Md

set_option Elab.async false
set_option linter.all false
set_option maxRecDepth 100000
set_option maxHeartbeats 8000000
namespace Md
open PySem PySem.Spec PyProof.Rows PySem.Calls L2
/-! ### the text of the row, def by def -/
def top (i : Nat) : Stmt := PySem.Challenge.pw_mendrounds_k01_numbers_made.main.body.getD i (.Pass ⟨0, 0, 0, 0⟩)
abbrev s_BadNumber___init__ : Stmt := inClass (top 3) 0
theorem sc_BadNumber___init__ : FnScope ["self", "thing"] ["self", "thing"] (defScope s_BadNumber___init__) := ⟨rfl, rfl, rfl, by decide +kernel, rfl, by decide +kernel, by decide +kernel⟩
abbrev s_is_whole : Stmt := top 5
theorem sc_is_whole : FnScope n_is_whole ["thing"] (defScope s_is_whole) := ⟨rfl, rfl, rfl, by decide +kernel, rfl, by decide +kernel, by decide +kernel⟩
abbrev s_number : Stmt := top 6
theorem sc_number : FnScope n_number ["top", "bottom"] (defScope s_number) := ⟨rfl, rfl, rfl, by decide +kernel, rfl, by decide +kernel, by decide +kernel⟩
abbrev s_is_number : Stmt := top 7
theorem sc_is_number : FnScope n_is_number ["thing"] (defScope s_is_number) := ⟨rfl, rfl, rfl, by decide +kernel, rfl, by decide +kernel, by decide +kernel⟩
abbrev s__law_bag : Stmt := top 9
theorem sc__law_bag : FnScope n__law_bag ["_law_script", "_law_at"] (defScope s__law_bag) := ⟨rfl, rfl, rfl, by decide +kernel, rfl, by decide +kernel, by decide +kernel⟩
abbrev s__law_take : Stmt := top 10
theorem sc__law_take : FnScope n__law_take ["_law_bag_here", "_law_many"] (defScope s__law_take) := ⟨rfl, rfl, rfl, by decide +kernel, rfl, by decide +kernel, by decide +kernel⟩
abbrev s__law_of : Stmt := top 11
theorem sc__law_of : FnScope n__law_of ["_law_bag_here", "_law_some"] (defScope s__law_of) := ⟨rfl, rfl, rfl, by decide +kernel, rfl, by decide +kernel, by decide +kernel⟩
abbrev s__law_value : Stmt := top 12
theorem sc__law_value : FnScope n__law_value ["_law_p", "_law_q"] (defScope s__law_value) := ⟨rfl, rfl, rfl, by decide +kernel, rfl, by decide +kernel, by decide +kernel⟩
abbrev s__law_pair : Stmt := top 13
theorem sc__law_pair : FnScope n__law_pair ["_law_value_here"] (defScope s__law_pair) := ⟨rfl, rfl, rfl, by decide +kernel, rfl, by decide +kernel, by decide +kernel⟩
abbrev s__law_is_int : Stmt := top 14
theorem sc__law_is_int : FnScope n__law_is_int ["_law_thing"] (defScope s__law_is_int) := ⟨rfl, rfl, rfl, by decide +kernel, rfl, by decide +kernel, by decide +kernel⟩
abbrev s__law_same : Stmt := top 15
theorem sc__law_same : FnScope n__law_same ["_law_actual", "_law_due"] (defScope s__law_same) := ⟨rfl, rfl, rfl, by decide +kernel, rfl, by decide +kernel, by decide +kernel⟩
abbrev s__law_bad : Stmt := top 16
theorem sc__law_bad : FnScope n__law_bad ["_law_p", "_law_q"] (defScope s__law_bad) := ⟨rfl, rfl, rfl, by decide +kernel, rfl, by decide +kernel, by decide +kernel⟩
abbrev s__law_zero : Stmt := top 17
theorem sc__law_zero : FnScope n__law_zero ["_law_upper"] (defScope s__law_zero) := ⟨rfl, rfl, rfl, by decide +kernel, rfl, by decide +kernel, by decide +kernel⟩
abbrev s_law : Stmt := top 18
theorem sc_law : FnScope n_law ["_law_script"] (defScope s_law) := ⟨rfl, rfl, rfl, by decide +kernel, rfl, by decide +kernel, by decide +kernel⟩
section
variable {P : Program} {w : World} {K : PySem.W.Frag} {mg : Str → Option Value} {base : Heap} {A : Ads} {f : Addr} {fd : FuncData}
theorem ok_BadNumber___init__ (F : FunD K "__init__" "BadNumber.__init__" (defArgs s_BadNumber___init__) (defBody s_BadNumber___init__) (defScope s_BadNumber___init__) [] [] f fd) (T : OexC K A.cBadNumber) (hn : PySem.W.findIn K (.ref A.cBadNumber) "thing" = some none) : FnOk P w K mg base (L2N.CX P w) 1 f fd ["self", "thing"] (sp_BadNumber___init__ K A) := by
  refine F.ok (CX := (L2N.CX P w)) sc_BadNumber___init__ (fun vs H Q E h => len_xi h) (fun cdv A' outer s H vs Q E hr h => ⟨t_xi K "thing", ?_, pure_xi T hn h⟩)
  exact (pss_one (ps_ost (pv 0) (pv 1)))
theorem ok_is_whole (F : FunD K "is_whole" "is_whole" (defArgs s_is_whole) (defBody s_is_whole) (defScope s_is_whole) [] [] f fd) (fr_bool : mg "bool" = none) (fr_int : mg "int" = none) (fr_isinstance : mg "isinstance" = none) : FnOk P w K mg base (L2N.CX P w) 1 f fd ["thing"] (sp_is_whole K A) := by
  refine F.ok (CX := (L2N.CX P w)) sc_is_whole (fun vs H Q E h => len_is_whole h) (fun cdv A' outer s H vs Q E hr h => ⟨t_is_whole K A E, ?_, pure_is_whole h⟩)
  exact (pss_one (ps_ret (pe_and (pe_callB call_isi rfl fr_isinstance boot_isinstance (pa_cons (pv 0) (pa_cons (pe_bltn rfl fr_int boot_int rfl) pa_nil))) (pe_one (pe_not (pe_callB call_isi rfl fr_isinstance boot_isinstance (pa_cons (pv 0) (pa_cons (pe_bltn rfl fr_bool boot_bool rfl) pa_nil))))))))
theorem ok_number (F : FunD K "number" "number" (defArgs s_number) (defBody s_number) (defScope s_number) [.int 1] [] f fd) (gm_gcd : mg "gcd" = some (.builtin "math.gcd")) (k_BadNumber : Kx P w K mg base 1 "BadNumber" A.cBadNumber (sp_BadNumber___init__ K A)) : FnOk P w K mg base (L2N.CX P w) 3 f fd ["top", "bottom"] (sp_number K A) := by
  refine F.ok (CX := (L2N.CX P w)) sc_number (fun vs H Q E h => len_number h) (fun cdv A' outer s H vs Q E hr h => ⟨t_number K A E, ?_, pure_number h⟩)
  exact (pss_cons (ps_if (pt_cmpR op_eq (pv 1) pe_int (nomark _)) (pss_one (L2N.ps_raise rfl (L2N.takes_of rfl rfl rfl rfl) (pmk_cl k_BadNumber hr (by decide) rfl (pa_cons (pv 1) pa_nil)))) pss_nil)
    (pss_cons (ps_set (i := 2) sc_number.nd rfl (by first | exact Or.inl rfl | exact Or.inr rfl) (pe_callBfun cr_gcd rfl gm_gcd (pa_cons (pv 0) (pa_cons (pv 1) pa_nil))))
    (pss_cons (ps_if (pt_cmpR op_lt (pv 1) pe_int (nomark _)) (pss_one (ps_set (i := 2) sc_number.nd rfl (by first | exact Or.inl rfl | exact Or.inr rfl) (pe_un un_neg (pv 2)))) pss_nil)
    (pss_cons (ps_if (pt_cmpR op_eq (pv 1) (pv 2) (nomark _)) (pss_one (ps_ret (pe_op op_fdivG (pv 0) (pv 2)))) pss_nil)
    (pss_one (ps_ret (pe_tup (pa_cons (pe_op op_fdivG (pv 0) (pv 2)) (pa_cons (pe_op op_fdivG (pv 1) (pv 2)) pa_nil)))))))))
theorem ok_is_number (F : FunD K "is_number" "is_number" (defArgs s_is_number) (defBody s_is_number) (defScope s_is_number) [] [] f fd) (fr_isinstance : mg "isinstance" = none) (fr_len : mg "len" = none) (fr_tuple : mg "tuple" = none) (gm_gcd : mg "gcd" = some (.builtin "math.gcd")) (c_is_whole : Cl P w K mg base 1 "is_whole" (sp_is_whole K A) []) : FnOk P w K mg base (L2N.CX P w) 2 f fd ["thing"] (sp_is_number K A) := by
  refine F.ok (CX := (L2N.CX P w)) sc_is_number (fun vs H Q E h => len_is_number h) (fun cdv A' outer s H vs Q E hr h => ⟨t_is_number K A E, ?_, pure_is_number h⟩)
  exact (pss_cons (ps_if (pt_val (pe_cl c_is_whole hr (by decide) rfl passN (pa_cons (pv 0) pa_nil))) (pss_one (ps_ret pe_bl)) pss_nil)
    (pss_cons (ps_if (PW.pt (pw_or (pt_not (pt_val (pe_callB call_isi rfl fr_isinstance boot_isinstance (pa_cons (pv 0) (pa_cons (pe_bltn rfl fr_tuple boot_tuple rfl) pa_nil))))) (pw_or1 (pt_cmpR op_ne (pe_callB call_len rfl fr_len boot_len (pa_cons (pv 0) pa_nil)) pe_int (nomark _))))) (pss_one (ps_ret pe_bl)) pss_nil)
    (pss_cons (ps_asg (pv 0) (pg_tup rfl (pgs_cons (pg_name (i := 1) sc_is_number.nd rfl (by first | exact Or.inl rfl | exact Or.inr rfl)) (pgs_cons (pg_name (i := 2) sc_is_number.nd rfl (by first | exact Or.inl rfl | exact Or.inr rfl)) pgs_nil))))
    (pss_one (ps_ret (pe_and (pe_cl c_is_whole hr (by decide) rfl passN (pa_cons (pv 1) pa_nil)) (pe_and (pe_cl c_is_whole hr (by decide) rfl passN (pa_cons (pv 2) pa_nil)) (pe_and (pe_cmpR op_ge (pv 2) pe_int (nomark _)) (pe_one (pe_cmpR op_eq (pe_callBfun cr_gcd rfl gm_gcd (pa_cons (pv 1) (pa_cons (pv 2) pa_nil))) pe_int (nomark _)))))))))))
theorem ok__law_bag (F : FunD K "_law_bag" "_law_bag" (defArgs s__law_bag) (defBody s__law_bag) (defScope s__law_bag) [] [] f fd) (fr_abs : mg "abs" = none) (fr_int : mg "int" = none) (fr_len : mg "len" = none) : FnOk P w K mg base (L2N.CX P w) 1 f fd ["_law_script", "_law_at"] (sp__law_bag K A) := by
  refine F.ok (CX := (L2N.CX P w)) sc__law_bag (fun vs H Q E h => len__law_bag h) (fun cdv A' outer s H vs Q E hr h => ⟨t__law_bag K A E, ?_, pure__law_bag h⟩)
  exact (pss_cons (ps_set (i := 2) sc__law_bag.nd rfl (by first | exact Or.inl rfl | exact Or.inr rfl) (pe_ifExp (pt_cmpR op_lt (pv 1) (pe_callB call_len rfl fr_len boot_len (pa_cons (pv 0) pa_nil)) (nomark _)) (pe_ix ix_seq (pv 0) (pv 1) (fun _ _ => rfl)) pe_int))
    (pss_cons (ps_set (i := 3) sc__law_bag.nd rfl (by first | exact Or.inl rfl | exact Or.inr rfl) (pe_ifExp (pt_cmpR op_ge (pe_callB call_abs rfl fr_abs boot_abs (pa_cons (pv 2) pa_nil)) (pe_op op_pow pe_int pe_int) (nomark _)) (pe_callB call_abs rfl fr_abs boot_abs (pa_cons (pv 2) pa_nil)) pe_int))
    (pss_one (ps_ret (pe_lst (pa_cons (pv 3) (pa_cons (pe_op op_add (pe_op op_add (pe_op op_mulW (pe_op op_mod (pe_callTy call_int1 rfl fr_int boot_int (pa_cons (pv 2) pa_nil)) pe_int) pe_int) (pe_op op_mulW pe_int (pv 1))) pe_int) (pa_cons pe_int pa_nil))))))))
theorem ok__law_take (F : FunD K "_law_take" "_law_take" (defArgs s__law_take) (defBody s__law_take) (defScope s__law_take) [] [] f fd) (fr_int : mg "int" = none) : FnOk P w K mg base (L2N.CX P w) 1 f fd ["_law_bag_here", "_law_many"] (sp__law_take K A) := by
  refine F.ok (CX := (L2N.CX P w)) sc__law_take (fun vs H Q E h => len__law_take h) (fun cdv A' outer s H vs Q E hr h => ⟨t__law_take K A E, ?_, pure__law_take h⟩)
  exact (pss_cons (ps_if (pt_cmpR op_gt (pe_ix ix_seq (pv 0) pe_int (fun _ _ => rfl)) pe_int (nomark _)) (pss_cons (ps_set (i := 3) sc__law_take.nd rfl (by first | exact Or.inl rfl | exact Or.inr rfl) (pe_op op_mod (pe_callTy call_int1 rfl fr_int boot_int (pa_cons (pe_ix ix_seq (pv 0) pe_int (fun _ _ => rfl)) pa_nil)) (pv 1)))
    (pss_cons (ps_asg (pe_op op_fdivW (pe_ix ix_seq (pv 0) pe_int (fun _ _ => rfl)) (pv 1)) (pg_sub (pv 0) pe_int set_list))
    (pss_one (ps_ret (pv 3))))) pss_nil)
    (pss_cons (ps_asg (pe_op op_add (pe_ix ix_seq (pv 0) pe_int (fun _ _ => rfl)) pe_int) (pg_sub (pv 0) pe_int set_list))
    (pss_cons (ps_set (i := 2) sc__law_take.nd rfl (by first | exact Or.inl rfl | exact Or.inr rfl) (pe_op op_mod (pe_callTy call_int1 rfl fr_int boot_int (pa_cons (pe_op op_pow (pe_op op_add (pe_ix ix_seq (pv 0) pe_int (fun _ _ => rfl)) (pe_op op_mulW pe_int (pe_ix ix_seq (pv 0) pe_int (fun _ _ => rfl)))) pe_int) pa_nil)) pe_int))
    (pss_cons (ps_set (i := 2) sc__law_take.nd rfl (by first | exact Or.inl rfl | exact Or.inr rfl) (pe_op op_mod (pe_callTy call_int1 rfl fr_int boot_int (pa_cons (pe_op op_pow (pe_op op_add (pv 2) (pe_op op_mulW pe_int (pe_ix ix_seq (pv 0) pe_int (fun _ _ => rfl)))) pe_int) pa_nil)) pe_int))
    (pss_one (ps_ret (pe_op op_mod (pe_callTy call_int1 rfl fr_int boot_int (pa_cons (pe_op op_fdivW (pv 2) pe_int) pa_nil)) (pv 1))))))))
theorem ok__law_of (F : FunD K "_law_of" "_law_of" (defArgs s__law_of) (defBody s__law_of) (defScope s__law_of) [] [] f fd) (fr_len : mg "len" = none) (c__law_take : Cl P w K mg base 1 "_law_take" (sp__law_take K A) []) : FnOk P w K mg base (L2N.CX P w) 2 f fd ["_law_bag_here", "_law_some"] (sp__law_of K A) := by
  refine F.ok (CX := (L2N.CX P w)) sc__law_of (fun vs H Q E h => len__law_of h) (fun cdv A' outer s H vs Q E hr h => ⟨t__law_of K A E, ?_, pure__law_of h⟩)
  exact (pss_one (ps_ret (pe_ix ix_seq (pv 1) (pe_cl c__law_take hr (by decide) rfl passN (pa_cons (pv 0) (pa_cons (pe_callB call_len rfl fr_len boot_len (pa_cons (pv 1) pa_nil)) pa_nil))) (fun _ _ => rfl))))
theorem ok__law_value (F : FunD K "_law_value" "_law_value" (defArgs s__law_value) (defBody s__law_value) (defScope s__law_value) [] [] f fd) (fr_abs : mg "abs" = none) (fr_int : mg "int" = none) : FnOk P w K mg base (L2N.CX P w) 1 f fd ["_law_p", "_law_q"] (sp__law_value K A) := by
  refine F.ok (CX := (L2N.CX P w)) sc__law_value (fun vs H Q E h => len__law_value h) (fun cdv A' outer s H vs Q E hr h => ⟨t__law_value K A E, ?_, pure__law_value h⟩)
  exact (pss_cons (ps_par (i := 2) (j := 3) rfl sc__law_value.nd rfl rfl (by decide) rfl rfl (pa_cons (pe_callB call_abs rfl fr_abs boot_abs (pa_cons (pv 0) pa_nil)) (pa_cons (pv 1) pa_nil)) rfl)
    (pss_cons (ps_while (passes_of rfl) (pt_cmpR op_gt (pv 2) pe_int (nomark _)) (pss_one (ps_par (i := 2) (j := 3) rfl sc__law_value.nd rfl rfl (by decide) rfl rfl (pa_cons (pe_op op_mod (pe_callTy call_int1 rfl fr_int boot_int (pa_cons (pv 3) pa_nil)) (pv 2)) (pa_cons (pv 2) pa_nil)) rfl)))
    (pss_one (ps_ret (pe_ifExp (pt_cmpR op_eq (pv 1) (pv 3) (nomark _)) (pe_op op_fdivW (pv 0) (pv 3)) (pe_tup (pa_cons (pe_op op_fdivW (pv 0) (pv 3)) (pa_cons (pe_op op_fdivW (pv 1) (pv 3)) pa_nil))))))))
theorem ok__law_pair (F : FunD K "_law_pair" "_law_pair" (defArgs s__law_pair) (defBody s__law_pair) (defScope s__law_pair) [] [] f fd) (fr_isinstance : mg "isinstance" = none) (fr_tuple : mg "tuple" = none) : FnOk P w K mg base (L2N.CX P w) 1 f fd ["_law_value_here"] (sp__law_pair K A) := by
  refine F.ok (CX := (L2N.CX P w)) sc__law_pair (fun vs H Q E h => len__law_pair h) (fun cdv A' outer s H vs Q E hr h => ⟨t__law_pair K A E, ?_, pure__law_pair h⟩)
  exact (pss_one (ps_ret (pe_ifExp (pt_val (pe_callB call_isi rfl fr_isinstance boot_isinstance (pa_cons (pv 0) (pa_cons (pe_bltn rfl fr_tuple boot_tuple rfl) pa_nil)))) (pv 0) (pe_tup (pa_cons (pv 0) (pa_cons pe_int pa_nil))))))
theorem ok__law_is_int (F : FunD K "_law_is_int" "_law_is_int" (defArgs s__law_is_int) (defBody s__law_is_int) (defScope s__law_is_int) [] [] f fd) (fr_bool : mg "bool" = none) (fr_int : mg "int" = none) (fr_isinstance : mg "isinstance" = none) : FnOk P w K mg base (L2N.CX P w) 1 f fd ["_law_thing"] (sp__law_is_int K A) := by
  refine F.ok (CX := (L2N.CX P w)) sc__law_is_int (fun vs H Q E h => len__law_is_int h) (fun cdv A' outer s H vs Q E hr h => ⟨t__law_is_int K A E, ?_, pure__law_is_int h⟩)
  exact (pss_one (ps_ret (pe_and (pe_callB call_isi rfl fr_isinstance boot_isinstance (pa_cons (pv 0) (pa_cons (pe_bltn rfl fr_int boot_int rfl) pa_nil))) (pe_one (pe_not (pe_callB call_isi rfl fr_isinstance boot_isinstance (pa_cons (pv 0) (pa_cons (pe_bltn rfl fr_bool boot_bool rfl) pa_nil))))))))
theorem okH__law_is_int (F : FunD K "_law_is_int" "_law_is_int" (defArgs s__law_is_int) (defBody s__law_is_int) (defScope s__law_is_int) [] [] f fd) (fr_bool : mg "bool" = none) (fr_int : mg "int" = none) (fr_isinstance : mg "isinstance" = none) : L2H.FnH P w K mg base (L2N.CX P w) 1 f fd ["_law_thing"] (sp__law_is_int K A) := by
  refine funD_okH (CX := (L2N.CX P w)) F sc__law_is_int (fun vs H Q E h => len__law_is_int h) (fun cdv A' outer s H vs Q E p hp hr h => ⟨t__law_is_int K A E, ?_, pure__law_is_int h⟩)
  exact (pss_one (ps_ret (pe_and (pe_callB call_isi rfl fr_isinstance boot_isinstance (pa_cons (pv 0) (pa_cons (pe_bltn rfl fr_int boot_int rfl) pa_nil))) (pe_one (pe_not (pe_callB call_isi rfl fr_isinstance boot_isinstance (pa_cons (pv 0) (pa_cons (pe_bltn rfl fr_bool boot_bool rfl) pa_nil))))))))
theorem ok__law_same (F : FunD K "_law_same" "_law_same" (defArgs s__law_same) (defBody s__law_same) (defScope s__law_same) [] [] f fd) (fr_isinstance : mg "isinstance" = none) (fr_len : mg "len" = none) (fr_tuple : mg "tuple" = none) (c__law_is_int : Cl P w K mg base 1 "_law_is_int" (sp__law_is_int K A) []) : FnOk P w K mg base (L2N.CX P w) 2 f fd ["_law_actual", "_law_due"] (sp__law_same K A) := by
  refine F.ok (CX := (L2N.CX P w)) sc__law_same (fun vs H Q E h => len__law_same h) (fun cdv A' outer s H vs Q E hr h => ⟨t__law_same K A E, ?_, pure__law_same h⟩)
  exact (pss_cons (ps_if (pt_not (pt_val (pe_callB call_isi rfl fr_isinstance boot_isinstance (pa_cons (pv 1) (pa_cons (pe_bltn rfl fr_tuple boot_tuple rfl) pa_nil))))) (pss_one (ps_ret (pe_and (pe_cl c__law_is_int hr (by decide) rfl passN (pa_cons (pv 0) pa_nil)) (pe_one (pe_cmpR (op_eqD hr.units) (pv 0) (pv 1) (nomark _)))))) pss_nil)
    (pss_cons (ps_if (PW.pt (pw_or (pt_not (pt_val (pe_callB call_isi rfl fr_isinstance boot_isinstance (pa_cons (pv 0) (pa_cons (pe_bltn rfl fr_tuple boot_tuple rfl) pa_nil))))) (pw_or1 (pt_cmpR op_ne (pe_callB call_len rfl fr_len boot_len (pa_cons (pv 0) pa_nil)) pe_int (nomark _))))) (pss_one (ps_ret pe_bl)) pss_nil)
    (pss_one (ps_ret (pe_and (pe_cl c__law_is_int hr (by decide) rfl passN (pa_cons (pe_ix ix_seq (pv 0) pe_int (fun _ _ => rfl)) pa_nil)) (pe_and (pe_cl c__law_is_int hr (by decide) rfl passN (pa_cons (pe_ix ix_seq (pv 0) pe_int (fun _ _ => rfl)) pa_nil)) (pe_one (pe_cmpR (op_eqD hr.units) (pv 0) (pv 1) (nomark _)))))))))
theorem ok__law_bad (F : FunD K "_law_bad" "_law_bad" (defArgs s__law_bad) (defBody s__law_bad) (defScope s__law_bad) [] [] f fd) (fr_str : mg "str" = none) : FnOk P w K mg base (L2N.CX P w) 1 f fd ["_law_p", "_law_q"] (sp__law_bad K A) := by
  refine F.ok (CX := (L2N.CX P w)) sc__law_bad (fun vs H Q E h => len__law_bad h) (fun cdv A' outer s H vs Q E hr h => ⟨t__law_bad K A E, ?_, pure__law_bad h⟩)
  exact (pss_cons (ps_set (i := 2) sc__law_bad.nd rfl (by first | exact Or.inl rfl | exact Or.inr rfl) (pe_lst (pa_cons (pe_tup (pa_cons (pe_op op_mulW (pv 0) pe_int) (pa_cons (pe_op op_mulW (pv 1) pe_int) pa_nil))) (pa_cons (pe_tup (pa_cons (pv 0) (pa_cons pe_int pa_nil))) (pa_cons (pe_tup (pa_cons (pv 0) (pa_cons (pe_un un_neg (pv 1)) pa_nil))) (pa_cons (pe_tup (pa_cons pe_bl (pa_cons pe_int pa_nil))) (pa_cons (pe_tup (pa_cons (pv 0) (pa_cons pe_bl pa_nil))) (pa_cons pe_bl (pa_cons pe_bl (pa_cons pe_non (pa_cons (pe_callTy call_str_int rfl fr_str boot_str (pa_cons (pv 0) pa_nil)) (pa_cons (pe_lst (pa_cons (pv 0) (pa_cons (pv 1) pa_nil))) (pa_cons (pe_tup (pa_cons (pv 0) (pa_cons (pv 1) (pa_cons pe_int pa_nil)))) pa_nil)))))))))))))
    (pss_one (ps_ret (pe_op op_cat (pv 2) (pe_lst (pa_cons (pe_tup (pa_cons (pv 0) pa_nil)) (pa_cons (pe_tup pa_nil) (pa_cons (pe_tup (pa_cons (pe_callTy call_str_int rfl fr_str boot_str (pa_cons (pv 0) pa_nil)) (pa_cons (pv 1) pa_nil))) (pa_cons (pe_tup (pa_cons pe_int (pa_cons (pv 1) pa_nil))) (pa_cons (pe_tup (pa_cons (pv 0) (pa_cons pe_non pa_nil))) (pa_cons pe_dnewK pa_nil)))))))))))
theorem ok__law_zero (F : FunD K "_law_zero" "_law_zero" (defArgs s__law_zero) (defBody s__law_zero) (defScope s__law_zero) [] [] f fd) (fr_ValueError : mg "ValueError" = none) (fr_isinstance : mg "isinstance" = none) (gm_BadNumber : mg "BadNumber" = some (.ref A.cBadNumber)) (gm_MendroundsError : mg "MendroundsError" = some (.ref A.cMendroundsError)) (xf_BadNumber : XfC K A.cBadNumber) (xn_BadNumber_thing : PySem.W.findIn K (.ref A.cBadNumber) "thing" = some none) (ki_BadNumber_MendroundsError : PySem.W.kitOne K (.ref A.cBadNumber) (.ref A.cMendroundsError) = some true) (ki_BadNumber_ValueError : PySem.W.kitOne K (.ref A.cBadNumber) (.type "ValueError") = some true) (xc_BadNumber : ExcC K A.cBadNumber) (xm_BadNumber : PySem.W.exmOne K (.ref A.cBadNumber) (.ref A.cBadNumber) = some true) (c_number : Cl P w K mg base 3 "number" (sp_number K A) []) (cH__law_is_int : ClH P w K mg base 1 "_law_is_int" (sp__law_is_int K A)) : FnOk P w K mg base (L2N.CX P w) 4 f fd ["_law_upper"] (sp__law_zero K A) := by
  refine F.ok (CX := (L2N.CX P w)) sc__law_zero (fun vs H Q E h => len__law_zero h) (fun cdv A' outer s H vs Q E hr h => ⟨t__law_zero K A E, ?_, pure__law_zero ki_BadNumber_MendroundsError ki_BadNumber_ValueError xc_BadNumber xm_BadNumber h⟩)
  exact (pss_cons (L2N.ps_try_as (i := 1) (tb := tb__law_zero K A) (ts := ts__law_zero K A) (Wout := fun _ _ _ _ => False) rfl rfl sc__law_zero.nd rfl rfl ⟨rfl, by decide, Or.inl gm_BadNumber⟩ takesN (fun W pn xe tk _ => by exact (pss_one (ps_expr (pe_clS c_number hr (by decide) rfl (fun σ => L2N.passAt tk σ) (pa_cons (pv 0) (pa_cons pe_int pa_nil)))))) (fun a oe cls d pn hz hf => by exact (pss_one (ps_ret (pe_and (pe_clH cH__law_is_int (roomH_suite hr) (hot_of hz hf) (by decide) rfl (pa_cons (pe_xf xf_BadNumber xn_BadNumber_thing hz.zc hf (pv 1)) pa_nil)) (pe_and (pe_cmpR op_eq (pe_xf xf_BadNumber xn_BadNumber_thing hz.zc hf (pv 1)) pe_int (nomark _)) (pe_and (pe_callB (call_isX hz.zc hf) rfl fr_isinstance boot_isinstance (pa_cons (pv 1) (pa_cons (pe_glob rfl gm_MendroundsError rfl) pa_nil))) (pe_one (pe_callB (call_isX hz.zc hf) rfl fr_isinstance boot_isinstance (pa_cons (pv 1) (pa_cons (pe_bltn rfl fr_ValueError (by decide +kernel) rfl) pa_nil)))))))))))
    (pss_one (ps_ret pe_bl)))
theorem ok_law (F : FunD K "law" "law" (defArgs s_law) (defBody s_law) (defScope s_law) [] [] f fd) (fr_len : mg "len" = none) (fr_max : mg "max" = none) (fr_min : mg "min" = none) (fr_range : mg "range" = none) (c__law_bag : Cl P w K mg base 1 "_law_bag" (sp__law_bag K A) []) (c__law_of : Cl P w K mg base 2 "_law_of" (sp__law_of K A) []) (c__law_take : Cl P w K mg base 1 "_law_take" (sp__law_take K A) []) (c__law_value : Cl P w K mg base 1 "_law_value" (sp__law_value K A) []) (c__law_same : Cl P w K mg base 2 "_law_same" (sp__law_same K A) []) (c_number : Cl P w K mg base 3 "number" (sp_number K A) []) (c_number_d1 : Cl P w K mg base 3 "number" (sp_number K A) [.int 1]) (ck_number_0_bottom_top : ClK P w K mg base 3 "number" (sp_number K A) 0 ["bottom", "top"] (fun vs zs => pick [(2, 1), (2, 0)] vs [.int 1] zs)) (c_is_number : Cl P w K mg base 2 "is_number" (sp_is_number K A) []) (c__law_pair : Cl P w K mg base 1 "_law_pair" (sp__law_pair K A) []) (c__law_zero : Cl P w K mg base 4 "_law_zero" (sp__law_zero K A) []) (c__law_bad : Cl P w K mg base 1 "_law_bad" (sp__law_bad K A) []) : FnOk P w K mg base CX0 5 f fd ["_law_script"] (sp_law K) := by
  refine F.ok (CX := CX0) sc_law (fun vs H Q E h => len_law h) (fun cdv A' outer s H vs Q E hr h => ⟨t_law K A E, ?_, pure_law h⟩)
  exact (pss_cons (ps_for (passes_of rfl) rfl (pi_range1 rfl fr_range (pa_cons (pe_callB (call_max2 rfl) rfl fr_max boot_max (pa_cons pe_int (pa_cons (pe_callB (call_min2 rfl) rfl fr_min boot_min (pa_cons pe_int (pa_cons (pe_callB call_len rfl fr_len boot_len (pa_cons (pv 0) pa_nil)) pa_nil))) pa_nil))) pa_nil)) (pg_name (i := 1) sc_law.nd rfl (by first | exact Or.inl rfl | exact Or.inr rfl)) (pss_cons (ps_set (i := 2) sc_law.nd rfl (by first | exact Or.inl rfl | exact Or.inr rfl) (pe_cl c__law_bag hr (by decide) rfl passN (pa_cons (pv 0) (pa_cons (pv 1) pa_nil))))
    (pss_cons (ps_set (i := 3) sc_law.nd rfl (by first | exact Or.inl rfl | exact Or.inr rfl) (pe_cl c__law_of hr (by decide) rfl passN (pa_cons (pv 2) (pa_cons (pe_lst (pa_cons pe_int (pa_cons (pe_op op_pow pe_int pe_int) (pa_cons (pe_op op_pow pe_int pe_int) pa_nil)))) pa_nil))))
    (pss_cons (ps_par (i := 5) (j := 6) rfl sc_law.nd rfl rfl (by decide) rfl rfl (pa_cons (pe_op op_sub (pe_cl c__law_take hr (by decide) rfl passN (pa_cons (pv 2) (pa_cons (pe_op op_add (pe_op op_mulW pe_int (pv 3)) pe_int) pa_nil))) (pv 3)) (pa_cons (pe_op op_add pe_int (pe_cl c__law_take hr (by decide) rfl passN (pa_cons (pv 2) (pa_cons (pe_cl c__law_of hr (by decide) rfl passN (pa_cons (pv 2) (pa_cons (pe_lst (pa_cons pe_int (pa_cons (pe_op op_pow pe_int pe_int) pa_nil))) pa_nil))) pa_nil)))) pa_nil)) rfl)
    (pss_cons (ps_par (i := 7) (j := 8) rfl sc_law.nd rfl rfl (by decide) rfl rfl (pa_cons (pe_cl c__law_value hr (by decide) rfl passN (pa_cons (pv 5) (pa_cons (pv 6) pa_nil))) (pa_cons (pe_op op_add pe_int (pe_cl c__law_take hr (by decide) rfl passN (pa_cons (pv 2) (pa_cons pe_int pa_nil)))) pa_nil)) rfl)
    (pss_cons (ps_if (PW.pt (pw_or (pt_not (pt_val (pe_cl c__law_same hr (by decide) rfl passN (pa_cons (pe_cl c_number hr (by decide) rfl passN (pa_cons (pe_op op_mulW (pv 5) (pv 8)) (pa_cons (pe_op op_mulW (pv 6) (pv 8)) pa_nil))) (pa_cons (pv 7) pa_nil))))) (pw_or1 (pt_not (pt_val (pe_cl c__law_same hr (by decide) rfl passN (pa_cons (pe_cl c_number hr (by decide) rfl passN (pa_cons (pv 5) (pa_cons (pv 6) pa_nil))) (pa_cons (pv 7) pa_nil)))))))) (pss_one (ps_ret pe_bl)) pss_nil)
    (pss_cons (ps_if (PW.pt (pw_or (pt_not (pt_val (pe_cl c__law_same hr (by decide) rfl passN (pa_cons (pe_cl c_number hr (by decide) rfl passN (pa_cons (pe_op op_mulW (pe_un un_neg (pv 5)) (pv 8)) (pa_cons (pe_op op_mulW (pe_un un_neg (pv 6)) (pv 8)) pa_nil))) (pa_cons (pv 7) pa_nil))))) (pw_or1 (pt_not (pt_val (pe_cl c__law_same hr (by decide) rfl passN (pa_cons (pe_cl c_number_d1 hr (by decide) rfl passN (pa_cons (pv 5) pa_nil)) (pa_cons (pv 5) pa_nil)))))))) (pss_one (ps_ret pe_bl)) pss_nil)
    (pss_cons (ps_if (PW.pt (pw_or (pt_not (pt_val (pe_cl c__law_same hr (by decide) rfl passN (pa_cons (pe_clK0 ck_number_0_bottom_top hr (by decide) rfl passN (pk_cons (pe_un un_neg (pv 6)) (pk_cons (pv 5) pk_nil))) (pa_cons (pe_cl c__law_value hr (by decide) rfl passN (pa_cons (pe_un un_neg (pv 5)) (pa_cons (pv 6) pa_nil))) pa_nil))))) (pw_or1 (pt_cmpR op_notBl (pe_cl c_is_number hr (by decide) rfl passN (pa_cons (pv 7) pa_nil)) pe_bl (nomark _))))) (pss_one (ps_ret pe_bl)) pss_nil)
    (pss_cons (ps_asg (pe_cl c__law_pair hr (by decide) rfl passN (pa_cons (pe_cl c__law_value hr (by decide) rfl passN (pa_cons (pe_op op_add (pe_op op_mulW pe_int (pv 5)) pe_int) (pa_cons (pe_op op_mulW pe_int (pv 6)) pa_nil))) pa_nil)) (pg_tup rfl (pgs_cons (pg_name (i := 9) sc_law.nd rfl (by first | exact Or.inl rfl | exact Or.inr rfl)) (pgs_cons (pg_name (i := 10) sc_law.nd rfl (by first | exact Or.inl rfl | exact Or.inr rfl)) pgs_nil))))
    (pss_cons (ps_if (PW.pt (pw_or (pt_cmpR op_notBl (pe_cl c_is_number hr (by decide) rfl passN (pa_cons (pe_tup (pa_cons (pv 9) (pa_cons (pv 10) pa_nil))) pa_nil)) pe_bl (nomark _)) (pw_or (pt_cmpR op_notBl (pe_cl c_is_number hr (by decide) rfl passN (pa_cons (pv 5) pa_nil)) pe_bl (nomark _)) (pw_or1 (pt_not (pt_val (pe_cl c__law_zero hr (by decide) rfl passN (pa_cons (pv 5) pa_nil)))))))) (pss_one (ps_ret pe_bl)) pss_nil)
    (pss_one (ps_for (passes_of rfl) rfl (pi_list (pe_cl c__law_bad hr (by decide) rfl passN (pa_cons (pv 9) (pa_cons (pv 10) pa_nil)))) (pg_name (i := 4) sc_law.nd rfl (by first | exact Or.inl rfl | exact Or.inr rfl)) (pss_one (ps_if (pt_cmpR op_notBl (pe_cl c_is_number hr (by decide) rfl passN (pa_cons (pv 4) pa_nil)) pe_bl (nomark _)) (pss_one (ps_ret pe_bl)) pss_nil))))))))))))))
    (pss_one (ps_ret pe_bl)))
end
/-! ### the head: facts by names, the run -/
namespace Hd
def d_BadNumber___init__ : He.DefD := ⟨("BadNumber", some "__init__"), "__init__", "BadNumber.__init__", defArgs s_BadNumber___init__, defBody s_BadNumber___init__, defScope s_BadNumber___init__, [], []⟩
def d_is_whole : He.DefD := ⟨("is_whole", none), "is_whole", "is_whole", defArgs s_is_whole, defBody s_is_whole, defScope s_is_whole, [], []⟩
def d_number : He.DefD := ⟨("number", none), "number", "number", defArgs s_number, defBody s_number, defScope s_number, [.int 1], []⟩
def d_is_number : He.DefD := ⟨("is_number", none), "is_number", "is_number", defArgs s_is_number, defBody s_is_number, defScope s_is_number, [], []⟩
def d__law_bag : He.DefD := ⟨("_law_bag", none), "_law_bag", "_law_bag", defArgs s__law_bag, defBody s__law_bag, defScope s__law_bag, [], []⟩
def d__law_take : He.DefD := ⟨("_law_take", none), "_law_take", "_law_take", defArgs s__law_take, defBody s__law_take, defScope s__law_take, [], []⟩
def d__law_of : He.DefD := ⟨("_law_of", none), "_law_of", "_law_of", defArgs s__law_of, defBody s__law_of, defScope s__law_of, [], []⟩
def d__law_value : He.DefD := ⟨("_law_value", none), "_law_value", "_law_value", defArgs s__law_value, defBody s__law_value, defScope s__law_value, [], []⟩
def d__law_pair : He.DefD := ⟨("_law_pair", none), "_law_pair", "_law_pair", defArgs s__law_pair, defBody s__law_pair, defScope s__law_pair, [], []⟩
def d__law_is_int : He.DefD := ⟨("_law_is_int", none), "_law_is_int", "_law_is_int", defArgs s__law_is_int, defBody s__law_is_int, defScope s__law_is_int, [], []⟩
def d__law_same : He.DefD := ⟨("_law_same", none), "_law_same", "_law_same", defArgs s__law_same, defBody s__law_same, defScope s__law_same, [], []⟩
def d__law_bad : He.DefD := ⟨("_law_bad", none), "_law_bad", "_law_bad", defArgs s__law_bad, defBody s__law_bad, defScope s__law_bad, [], []⟩
def d__law_zero : He.DefD := ⟨("_law_zero", none), "_law_zero", "_law_zero", defArgs s__law_zero, defBody s__law_zero, defScope s__law_zero, [], []⟩
def d_law : He.DefD := ⟨("law", none), "law", "law", defArgs s_law, defBody s_law, defScope s_law, [], []⟩
def fn : List He.DefD := [d_BadNumber___init__, d_is_whole, d_number, d_is_number, d__law_bag, d__law_take, d__law_of, d__law_value, d__law_pair, d__law_is_int, d__law_same, d__law_bad, d__law_zero, d_law]
def fa : List He.Fa := [.glo "is_whole", .glo "number", .glo "is_number", .glo "_law_bag", .glo "_law_take", .glo "_law_of", .glo "_law_value", .glo "_law_pair", .glo "_law_is_int", .glo "_law_same", .glo "_law_bad", .glo "_law_zero", .glo "law", .glo "MendroundsError", .glo "BadNumber", .free "ValueError", .free "abs", .free "bool", .free "int", .free "isinstance", .free "len", .free "max", .free "min", .free "range", .free "str", .free "tuple"]
def exs : List (PySem.W.Frag → Bool) := [(fun K => He.eqO (PySem.W.nsIn K mainGlobals "gcd") (some (some (.builtin "math.gcd")))), (fun K => oexB K (He.ga K "MendroundsError")), (fun K => oexB K (He.ga K "BadNumber")), (fun K => inoB K (He.ga K "BadNumber")), (fun K => noB K (He.ga K "BadNumber") "thing"), (fun K => decide (PySem.W.kitOne K (.ref (He.ga K "BadNumber")) (.ref (He.ga K "MendroundsError")) = some true)), (fun K => decide (PySem.W.kitOne K (.ref (He.ga K "BadNumber")) (.type "ValueError") = some true)), (fun K => xcB K (He.ga K "BadNumber")), (fun K => xfB K (He.ga K "BadNumber")), (fun K => decide (PySem.W.exmOne K (.ref (He.ga K "BadNumber")) (.ref (He.ga K "BadNumber")) = some true))]
def ex (K : PySem.W.Frag) : Bool := exs.all fun b => b K
def ads (K : PySem.W.Frag) : Ads := { cMendroundsError := He.ga K "MendroundsError", cBadNumber := He.ga K "BadNumber" }
abbrev R : PySem.W.OpenRow := PySem.W.OpenLaw.row PySem.Challenge.rw_mendrounds_k01_numbers_made
abbrev hk : PySem.W.Hook := He.hookX 7 fa fn [] [] ex
def ob (s : PySem.W.SharedT) : He.AlX := He.obsX 7 fa fn [] [] ex (HandSHeadRun.getT s)
theorem ob_eq (s : PySem.W.SharedT) : ob s = hk.obs s.abs := He.obsX_eq (HandSHeadRun.getT_eq s)
def names0 : List PySem.Str := ["MendroundsError", "BadNumber", "is_whole", "number", "is_number", "_law_bag", "_law_take", "_law_of", "_law_value", "_law_pair", "_law_is_int", "_law_same", "_law_bad", "_law_zero"]
def names : List PySem.Str := names0
theorem run (w : World) : HandSHeadRun.RunEqI R (PySem.W.view R.prog [0, 18]) hk ob 20000 names w := by
  unfold HandSHeadRun.RunEqI
  kernel_rfl
theorem facts {P : Program} {w : World} {K : PySem.W.Frag} {h : Heap} {mg : Str → Option Value} {f : Addr} (X : K.In h) (G : h.Ns mainGlobals mg) (hfa : mg ("law" : Str) = some (.ref f)) (c : He.SaysD fa fn K) (cx : ex K = true) :
    ∃ fd : FuncData, (∀ (s : Shared) (v : Value), BindsTo s fd ⟨[v], []⟩ [("_law_script", v)]) ∧ ∀ base : Heap, K.In base → base.Ns mainGlobals mg → FnOk P w K mg base CX0 5 f fd ["_law_script"] (sp_law K) := by
  have ce : ∀ (i : Nat) (b : PySem.W.Frag → Bool), exs[i]? = some b → b K = true := fun i b e => List.all_eq_true.mp cx b (List.mem_of_getElem? e)
  have e_gm_gcd : (He.eqO (PySem.W.nsIn K mainGlobals "gcd") (some (some (.builtin "math.gcd")))) = true := ce 0 _ rfl
  have e_oex_MendroundsError : (oexB K (He.ga K "MendroundsError")) = true := ce 1 _ rfl
  have e_oex_BadNumber : (oexB K (He.ga K "BadNumber")) = true := ce 2 _ rfl
  have e_ino_BadNumber : (inoB K (He.ga K "BadNumber")) = true := ce 3 _ rfl
  have e_no_BadNumber_thing : (noB K (He.ga K "BadNumber") "thing") = true := ce 4 _ rfl
  have e_ki_BadNumber_MendroundsError : (decide (PySem.W.kitOne K (.ref (He.ga K "BadNumber")) (.ref (He.ga K "MendroundsError")) = some true)) = true := ce 5 _ rfl
  have e_ki_BadNumber_ValueError : (decide (PySem.W.kitOne K (.ref (He.ga K "BadNumber")) (.type "ValueError") = some true)) = true := ce 6 _ rfl
  have e_xc_BadNumber : (xcB K (He.ga K "BadNumber")) = true := ce 7 _ rfl
  have e_xf_BadNumber : (xfB K (He.ga K "BadNumber")) = true := ce 8 _ rfl
  have e_xm_BadNumber : (decide (PySem.W.exmOne K (.ref (He.ga K "BadNumber")) (.ref (He.ga K "BadNumber")) = some true)) = true := ce 9 _ rfl
  obtain ⟨fd_BadNumber___init__, F_BadNumber___init__⟩ := c.def_ 0 (d := d_BadNumber___init__) rfl
  obtain ⟨fd_is_whole, F_is_whole⟩ := c.def_ 1 (d := d_is_whole) rfl
  obtain ⟨fd_number, F_number⟩ := c.def_ 2 (d := d_number) rfl
  obtain ⟨fd_is_number, F_is_number⟩ := c.def_ 3 (d := d_is_number) rfl
  obtain ⟨fd__law_bag, F__law_bag⟩ := c.def_ 4 (d := d__law_bag) rfl
  obtain ⟨fd__law_take, F__law_take⟩ := c.def_ 5 (d := d__law_take) rfl
  obtain ⟨fd__law_of, F__law_of⟩ := c.def_ 6 (d := d__law_of) rfl
  obtain ⟨fd__law_value, F__law_value⟩ := c.def_ 7 (d := d__law_value) rfl
  obtain ⟨fd__law_pair, F__law_pair⟩ := c.def_ 8 (d := d__law_pair) rfl
  obtain ⟨fd__law_is_int, F__law_is_int⟩ := c.def_ 9 (d := d__law_is_int) rfl
  obtain ⟨fd__law_same, F__law_same⟩ := c.def_ 10 (d := d__law_same) rfl
  obtain ⟨fd__law_bad, F__law_bad⟩ := c.def_ 11 (d := d__law_bad) rfl
  obtain ⟨fd__law_zero, F__law_zero⟩ := c.def_ 12 (d := d__law_zero) rfl
  obtain ⟨fd_law, F_law⟩ := c.def_ 13 (d := d_law) rfl
  have e := hfa.symm.trans (He.glo_ok X G (c.fact 12 (f := .glo "law") rfl))
  cases e
  have fr_ValueError := He.free_ok X G (c.fact 15 (f := .free "ValueError") rfl)
  have fr_abs := He.free_ok X G (c.fact 16 (f := .free "abs") rfl)
  have fr_bool := He.free_ok X G (c.fact 17 (f := .free "bool") rfl)
  have fr_int := He.free_ok X G (c.fact 18 (f := .free "int") rfl)
  have fr_isinstance := He.free_ok X G (c.fact 19 (f := .free "isinstance") rfl)
  have fr_len := He.free_ok X G (c.fact 20 (f := .free "len") rfl)
  have fr_max := He.free_ok X G (c.fact 21 (f := .free "max") rfl)
  have fr_min := He.free_ok X G (c.fact 22 (f := .free "min") rfl)
  have fr_range := He.free_ok X G (c.fact 23 (f := .free "range") rfl)
  have fr_str := He.free_ok X G (c.fact 24 (f := .free "str") rfl)
  have fr_tuple := He.free_ok X G (c.fact 25 (f := .free "tuple") rfl)
  have gm_BadNumber : mg "BadNumber" = some (.ref (ads K).cBadNumber) := He.glo_ok X G (c.fact 14 (f := .glo "BadNumber") rfl)
  have gm_MendroundsError : mg "MendroundsError" = some (.ref (ads K).cMendroundsError) := He.glo_ok X G (c.fact 13 (f := .glo "MendroundsError") rfl)
  have gm_gcd := PySem.W.mg_of X G (He.eqO_ok e_gm_gcd)
  have ki_BadNumber_MendroundsError := of_decide_eq_true e_ki_BadNumber_MendroundsError
  have ki_BadNumber_ValueError := of_decide_eq_true e_ki_BadNumber_ValueError
  have xc_BadNumber := xcB_ok e_xc_BadNumber
  have xf_BadNumber := xfB_ok e_xf_BadNumber
  have xm_BadNumber := of_decide_eq_true e_xm_BadNumber
  have xn_BadNumber_thing := noB_ok e_no_BadNumber_thing
  have bL := FunD.bindsA (ps := ["_law_script"]) F_law fun _ _ _ _ _ _ us hl => match us, hl with | [_], _ => rfl
  refine ⟨fd_law, fun s v => bL s [v] rfl, fun base _ _ => ?_⟩
  have G_BadNumber___init__ := ok_BadNumber___init__ (P := P) (w := w) (mg := mg) (base := base) (A := ads K) F_BadNumber___init__ (oexB_ok e_oex_BadNumber) (noB_ok e_no_BadNumber_thing)
  have b_BadNumber___init__ : Binds K fd_BadNumber___init__ ["self", "thing"] [] := F_BadNumber___init__.bindsN fun _ _ _ _ _ _ us hl => match us, hl with | [_, _], _ => rfl
  have k_BadNumber : Kx P w K mg base 1 "BadNumber" (ads K).cBadNumber (sp_BadNumber___init__ K (ads K)) := ⟨oexB_ok e_oex_BadNumber, _, _, _, (inoB_ok e_ino_BadNumber).1, (inoB_ok e_ino_BadNumber).2, G_BadNumber___init__, b_BadNumber___init__, He.glo_ok X G (c.fact 14 (f := .glo "BadNumber") rfl)⟩
  have G_is_whole := ok_is_whole (P := P) (w := w) (mg := mg) (base := base) (A := ads K) F_is_whole fr_bool fr_int fr_isinstance
  have b_is_whole : Binds K fd_is_whole ["thing"] [] := F_is_whole.bindsN fun _ _ _ _ _ _ us hl => match us, hl with | [_], _ => rfl
  have c_is_whole := cl_of G_is_whole (He.glo_ok X G (c.fact 0 (f := .glo "is_whole") rfl)) F_is_whole.kp b_is_whole
  have G_number := ok_number (P := P) (w := w) (mg := mg) (base := base) (A := ads K) F_number gm_gcd k_BadNumber
  obtain ⟨ds_number, dv_number, b0_number⟩ := F_number.binds1 (ps := ["top", "bottom"]) 2 1 (List.cons_ne_nil _ _) rfl fun _ _ _ _ _ _ _ us its hl hi => match us, its, hl, hi with | [_, _], [_], _, _ => ⟨_, rfl, rfl⟩
  have b_number : Binds K fd_number ["top", "bottom"] [] := by cases dv_number; exact b0_number
  have c_number := cl_of G_number (He.glo_ok X G (c.fact 1 (f := .glo "number") rfl)) F_number.kp b_number
  obtain ⟨its_ck_number_0_bottom_top, kb_ck_number_0_bottom_top⟩ := funD_kb1 (ps := ["top", "bottom"]) F_number 0 ["bottom", "top"] (fun {_} => pick [(2, 1), (2, 0)]) (List.cons_ne_nil _ _) (fun r1 r2 r3 => pick_rel r1 r2 r3 _) fun _ _ _ _ _ _ _ us its ws h1 h2 h3 => match us, its, ws, h1, h2, h3 with | [], [_], [_, _], _, _, _ => ⟨_, rfl, rfl⟩
  have ck_number_0_bottom_top : ClK P w K mg base 3 "number" (sp_number K (ads K)) 0 ["bottom", "top"] (fun vs zs => pick [(2, 1), (2, 0)] vs [.int 1] zs) := ⟨_, _, _, _, G_number, He.glo_ok X G (c.fact 1 (f := .glo "number") rfl), F_number.kp, kb_ck_number_0_bottom_top⟩
  obtain ⟨ds_number_1, dv_number_1, b_number_1⟩ := F_number.binds1 (ps := ["top", "bottom"]) 1 0 (List.cons_ne_nil _ _) rfl fun _ _ _ _ _ _ _ us its hl hi => match us, its, hl, hi with | [_], [_], _, _ => ⟨_, rfl, rfl⟩
  have c_number_d1 : Cl P w K mg base 3 "number" (sp_number K (ads K)) [.int 1] := ⟨_, _, _, _, G_number, He.glo_ok X G (c.fact 1 (f := .glo "number") rfl), F_number.kp, b_number_1, dv_number_1⟩
  have G_is_number := ok_is_number (P := P) (w := w) (mg := mg) (base := base) (A := ads K) F_is_number fr_isinstance fr_len fr_tuple gm_gcd c_is_whole
  have b_is_number : Binds K fd_is_number ["thing"] [] := F_is_number.bindsN fun _ _ _ _ _ _ us hl => match us, hl with | [_], _ => rfl
  have c_is_number := cl_of G_is_number (He.glo_ok X G (c.fact 2 (f := .glo "is_number") rfl)) F_is_number.kp b_is_number
  have G__law_bag := ok__law_bag (P := P) (w := w) (mg := mg) (base := base) (A := ads K) F__law_bag fr_abs fr_int fr_len
  have b__law_bag : Binds K fd__law_bag ["_law_script", "_law_at"] [] := F__law_bag.bindsN fun _ _ _ _ _ _ us hl => match us, hl with | [_, _], _ => rfl
  have c__law_bag := cl_of G__law_bag (He.glo_ok X G (c.fact 3 (f := .glo "_law_bag") rfl)) F__law_bag.kp b__law_bag
  have G__law_take := ok__law_take (P := P) (w := w) (mg := mg) (base := base) (A := ads K) F__law_take fr_int
  have b__law_take : Binds K fd__law_take ["_law_bag_here", "_law_many"] [] := F__law_take.bindsN fun _ _ _ _ _ _ us hl => match us, hl with | [_, _], _ => rfl
  have c__law_take := cl_of G__law_take (He.glo_ok X G (c.fact 4 (f := .glo "_law_take") rfl)) F__law_take.kp b__law_take
  have G__law_of := ok__law_of (P := P) (w := w) (mg := mg) (base := base) (A := ads K) F__law_of fr_len c__law_take
  have b__law_of : Binds K fd__law_of ["_law_bag_here", "_law_some"] [] := F__law_of.bindsN fun _ _ _ _ _ _ us hl => match us, hl with | [_, _], _ => rfl
  have c__law_of := cl_of G__law_of (He.glo_ok X G (c.fact 5 (f := .glo "_law_of") rfl)) F__law_of.kp b__law_of
  have G__law_value := ok__law_value (P := P) (w := w) (mg := mg) (base := base) (A := ads K) F__law_value fr_abs fr_int
  have b__law_value : Binds K fd__law_value ["_law_p", "_law_q"] [] := F__law_value.bindsN fun _ _ _ _ _ _ us hl => match us, hl with | [_, _], _ => rfl
  have c__law_value := cl_of G__law_value (He.glo_ok X G (c.fact 6 (f := .glo "_law_value") rfl)) F__law_value.kp b__law_value
  have G__law_pair := ok__law_pair (P := P) (w := w) (mg := mg) (base := base) (A := ads K) F__law_pair fr_isinstance fr_tuple
  have b__law_pair : Binds K fd__law_pair ["_law_value_here"] [] := F__law_pair.bindsN fun _ _ _ _ _ _ us hl => match us, hl with | [_], _ => rfl
  have c__law_pair := cl_of G__law_pair (He.glo_ok X G (c.fact 7 (f := .glo "_law_pair") rfl)) F__law_pair.kp b__law_pair
  have G__law_is_int := ok__law_is_int (P := P) (w := w) (mg := mg) (base := base) (A := ads K) F__law_is_int fr_bool fr_int fr_isinstance
  have b__law_is_int : Binds K fd__law_is_int ["_law_thing"] [] := F__law_is_int.bindsN fun _ _ _ _ _ _ us hl => match us, hl with | [_], _ => rfl
  have c__law_is_int := cl_of G__law_is_int (He.glo_ok X G (c.fact 8 (f := .glo "_law_is_int") rfl)) F__law_is_int.kp b__law_is_int
  have cH__law_is_int : ClH P w K mg base 1 "_law_is_int" (sp__law_is_int K (ads K)) := ⟨_, _, _, okH__law_is_int (P := P) (w := w) (mg := mg) (base := base) (A := ads K) F__law_is_int fr_bool fr_int fr_isinstance, He.glo_ok X G (c.fact 8 (f := .glo "_law_is_int") rfl), F__law_is_int.kp, b__law_is_int⟩
  have G__law_same := ok__law_same (P := P) (w := w) (mg := mg) (base := base) (A := ads K) F__law_same fr_isinstance fr_len fr_tuple c__law_is_int
  have b__law_same : Binds K fd__law_same ["_law_actual", "_law_due"] [] := F__law_same.bindsN fun _ _ _ _ _ _ us hl => match us, hl with | [_, _], _ => rfl
  have c__law_same := cl_of G__law_same (He.glo_ok X G (c.fact 9 (f := .glo "_law_same") rfl)) F__law_same.kp b__law_same
  have G__law_bad := ok__law_bad (P := P) (w := w) (mg := mg) (base := base) (A := ads K) F__law_bad fr_str
  have b__law_bad : Binds K fd__law_bad ["_law_p", "_law_q"] [] := F__law_bad.bindsN fun _ _ _ _ _ _ us hl => match us, hl with | [_, _], _ => rfl
  have c__law_bad := cl_of G__law_bad (He.glo_ok X G (c.fact 10 (f := .glo "_law_bad") rfl)) F__law_bad.kp b__law_bad
  have G__law_zero := ok__law_zero (P := P) (w := w) (mg := mg) (base := base) (A := ads K) F__law_zero fr_ValueError fr_isinstance gm_BadNumber gm_MendroundsError xf_BadNumber xn_BadNumber_thing ki_BadNumber_MendroundsError ki_BadNumber_ValueError xc_BadNumber xm_BadNumber c_number cH__law_is_int
  have b__law_zero : Binds K fd__law_zero ["_law_upper"] [] := F__law_zero.bindsN fun _ _ _ _ _ _ us hl => match us, hl with | [_], _ => rfl
  have c__law_zero := cl_of G__law_zero (He.glo_ok X G (c.fact 11 (f := .glo "_law_zero") rfl)) F__law_zero.kp b__law_zero
  exact ok_law (A := ads K) F_law fr_len fr_max fr_min fr_range c__law_bag c__law_of c__law_take c__law_value c__law_same c_number c_number_d1 ck_number_0_bottom_top c_is_number c__law_pair c__law_zero c__law_bad
end Hd
end Md
open PySem PySem.W PySem.Calls PyProof.Rows
set_option maxRecDepth 100000 in
set_option maxHeartbeats 0 in
theorem PySem.Challenge.cw_mendrounds_k01_numbers_made_holds : PySem.Challenge.rw_mendrounds_k01_numbers_made.Holds := by
  w_on; o_law
  refine HandSHeadRun.head_imp (r := OpenLaw.row PySem.Challenge.rw_mendrounds_k01_numbers_made) (q := view (OpenLaw.row PySem.Challenge.rw_mendrounds_k01_numbers_made).prog [0, 18]) (H := Md.Hd.hk) (ob := Md.Hd.ob) (M := 20000) (loose := Md.Hd.names) (d := HandSHeadRun.topDef (OpenLaw.row PySem.Challenge.rw_mendrounds_k01_numbers_made).prog 18) (kwd := []) Md.Hd.ob_eq
    Md.Hd.run (by kernel_rfl) (by kernel_rfl) (by kernel_rfl) (by rfl) (by first | assumption | decide +kernel) (by decide +kernel) ⟨rfl, rfl, rfl, rfl, rfl, by decide +kernel⟩ ?hw ?hc
  case hw => w_witness2
  case hc =>
    refine L2.walk_ofE (l := PySem.Challenge.rw_mendrounds_k01_numbers_made) (n := 63) (k := 5) (x := "_law_script") (CX := L2.CX0) rfl (by decide) (by kernel_rfl) ⟨rfl, by decide, by decide⟩ ?F (fun _ _ _ _ z => z)
    intro w mg fa h Y G hmg0
    obtain ⟨K, KX, c⟩ := Y
    have hmg : mg ("law" : PySem.Str) = some (.ref fa) := by
      have e : (HandSHeadRun.topDef (OpenLaw.row PySem.Challenge.rw_mendrounds_k01_numbers_made).prog 18).name = ("law" : PySem.Str) := by kernel_rfl
      rw [← e]
      exact hmg0
    obtain ⟨fd, hb, hF⟩ := Md.Hd.facts (P := (PySem.Challenge.rw_mendrounds_k01_numbers_made).prog) (w := w) KX G hmg c.t.d c.more
    exact ⟨K, fd, Md.sp_law K, KX, hb, fun H a ns hl _ hS => ⟨a, ns, rfl, hS, hl, fun _ => rfl⟩, hF⟩
