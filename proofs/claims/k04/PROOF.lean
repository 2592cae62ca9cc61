import PyProof.Rows.All
import Wide.All
import OpenK.AllK
import Wide.FinOn
import KE.KStateDown
import Lean
import HandS.Base
import HandS.Call
import HandS.List
import HandS.Comp
import HandS.Ends
import HandS.Dict
import HandS.Iter
import HandS.Text
import HandS.More
import HandS.Words
import HandS.WordsList
import HandS.WordsDict
import HandS.Exc
import HandS.ExcOwn
import HandS.TryOnly
import HandS.WordsExc
import HandS.ExcCtx
import HandS.HotCalls
import KE.KExcIs
import HandS.Defaults
import HandS.Codes
import HandS.CallSlots
import HandS.Steps
import HandS.Style
import HandS.Wide
import HandS.WideMore
import HandS.WideBits
import HandS.IsInst
import HandS.ExcInit
import HandS.ExcField
import HandS.ExcIs
import HandS.Gcd
import HandS.FStr
import HandS.RaiseMore
import HandS.Head0
import HandS.Head1
import HandS.Head2
import HandS.Head3
import HandS.HeadEnd
import HandS.HeadHook1
import HandS.HeadHook2
import HandS.HeadHook3
import HandS.HeadHook4
import HandS.ClsMeth
import HandS.Strs
import PyProof.Rows.StrRev
import HandS.Evl
import HandS.Walk
import HandS.Deep
import PyProof.Rows.StrFit
import OpenK.KMeth
import PyProof.InstNe
import HandS.HeadNt
import PySem.Challenge.RW_mendrounds_k04_words_and_names
set_option Elab.async false
set_option linter.all false
set_option maxRecDepth 100000
set_option maxHeartbeats 4000000
namespace Md
open PySem PySem.Spec PyProof.Rows PySem.Calls L2

/-! ### where the classes and tables of the program stand -/
structure Ads where
  cMendroundsError : Addr := 0
  cBadNumber : Addr := 0
  cBadLayout : Addr := 0
  cBadField : Addr := 0
  cBadValue : Addr := 0
  cBadFilling : Addr := 0
  cBadCondition : Addr := 0
  cBadCheck : Addr := 0
  cBadForm : Addr := 0
  cBadPattern : Addr := 0
  cNoFilling : Addr := 0
  cUnlike : Addr := 0
  cTooMany : Addr := 0
  cBadTelling : Addr := 0
  cBadChange : Addr := 0
  cBadBatch : Addr := 0
  cNoCheck : Addr := 0
  cNotTold : Addr := 0
  cRefused : Addr := 0
  cLocked : Addr := 0
  cUnmet : Addr := 0
  cClosed : Addr := 0
  cStarted : Addr := 0
  cLayout : Addr := 0
  cSpace : Addr := 0
  gRESERVED : Addr := 0

/-! ### readings by short names -/
abbrev rAdd : R2 := rI0 fun i j => .int (i + j)
abbrev rSub : R2 := rI0 fun i j => .int (i - j)
abbrev rMulW : R2 := rI CMulW fun i j => .int (i * j)
abbrev rMul : R2 := rI CMul fun i j => .int (i * j)
abbrev rFdvW : R2 := rI CDivW fun i j => .int (i / j)
abbrev rMod : R2 := rI (fun _ j => 0 < j) fun i j => .int (i % j)
abbrev rPow : R2 := rI CPow fun i j => .int (i ^ j.toNat)
abbrev rLt : R2 := rI0 fun i j => .bl (decide (i < j))
abbrev rLe : R2 := rI0 fun i j => .bl (decide (i ≤ j))
abbrev rGt : R2 := rI0 fun i j => .bl (decide (j < i))
abbrev rGe : R2 := rI0 fun i j => .bl (decide (j ≤ i))
abbrev rNeg : V → Hp → VK → Prop := rU fun i => .int (-i)
abbrev rAbs : List V → Hp → VK → Prop := fun xs H Q => ∃ i, xs = [.int i] ∧ Q (.int (if i < 0 then -i else i)) H
abbrev rMax2 : List V → Hp → VK → Prop := fun xs H Q => ∃ i j, xs = [.int i, .int j] ∧ Q (.int (if j > i then j else i)) H
abbrev rMin2 : List V → Hp → VK → Prop := fun xs H Q => ∃ i j, xs = [.int i, .int j] ∧ Q (.int (if j < i then j else i)) H
abbrev rInt1 : List V → Hp → VK → Prop := fun xs H Q => (∃ i, xs = [.int i] ∧ Q (.int i) H) ∨ ∃ k, xs = [.bl k] ∧ Q (.int (if k then 1 else 0)) H
abbrev rStrI : List V → Hp → VK → Prop := fun xs H Q => ∃ i : Int, xs = [.int i] ∧ i.natAbs.log2 < 1920 ∧ Q (.str (toString i)) H
abbrev rAddS : R2 := fun x y H Q => ∃ i j, x = .str i ∧ y = .str j ∧ i.length + j.length ≤ sizeLine ∧ Q (.str (i ++ j)) H
abbrev tRaise (E : XK) (t : L2.St → Hp → XK → Prop) : TS := fun _ σ H => t σ H fun cls d H' => E cls d H'
abbrev tTru (K : PySem.W.Frag) (ta : TE) : TT := fun σ H Q => ta σ H fun x H' => ∃ k, TruV K x H' k ∧ Q k H'
/-- // by any divisor but 0 -/
def CDivG (_ j : Int) : Prop := j ≠ 0 ∧ j.natAbs.log2 < 9000
abbrev rFdvG : R2 := rI CDivG fun i j => .int (i.fdiv j)
theorem op_fdivG {X : Cx} : OpR X (binaryOp .FloorDiv) rFdvG := opI fun i j _ _ _ _ _ hc q => floordiv_int hc.1 q (.inl (PyProof.noPylong_of_log2 hc.2))
theorem gStr {mg : Str → Option Value} {x z : Str} (h : ∃ t, mg x = some (.str z t)) : ∃ u, mg x = some u ∧ RelV (.str z) u := by
  obtain ⟨t, e⟩ := h
  exact ⟨_, e, t, rfl⟩
theorem gInt {mg : Str → Option Value} {x : Str} {i : Int} (h : ∃ t, mg x = some (.int i t)) : ∃ u, mg x = some u ∧ RelV (.int i) u := by
  obtain ⟨t, e⟩ := h
  exact ⟨_, e, t, rfl⟩

theorem passN {X : Cx} : Passes (L2N.CX X.prog X.w) X E0 := fun _ _ _ _ _ _ _ h => by
  obtain ⟨_, _, _, _, _, _, _, _, _, _, _, _, z⟩ := h
  exact z.elim
/-- around a body nothing is let out -/
theorem takesN {X : Cx} : L2N.Takes X (fun _ _ _ _ => False) := fun _ _ x => by
  obtain ⟨_, _, _, _, _, _, _, _, _, _, _, _, _, _, _, _, z⟩ := x
  exact z.elim
theorem mk_endN {X : Cx} {pins : List (Addr × Obj)} {σ : L2.St} {H1 H2 : Hp} {Q : XK} {hp hp2 h2 : Heap} {g1 g2 : Array GenState} {d1 d2 : Drawn} {t1 t2 : Nat} {os1 os2 : OsState} {a C d : Addr} {fs : List (Str × V)} (T : Raises X (.ref C)) (I1 : Inv X pins σ H1 ⟨hp, g1, d1, t1, os1⟩)
    (ha : hp.objs.size ≤ a) (k : ∀ b o, hp.get? b = some o → hp2.get? b = some o) (un : Un (frs X.stack) [] (upd H1 a (exo a C none)) H2 hp2 h2) (hok : HOk X.prog X.w H2 h2) (ho : os2 = os1) (hb : AllBare g2)
    (ea : H2 a = some (exo a C (some d))) (ed : H2 d = some (exd d fs)) (hd1 : H1 d = none) (q : Q (.ref C) (some d) (upd (del H2 a) d (.xd fs))) : L2N.MkP X pins σ Q (.ref a) ⟨h2, g2, d2, t2, os2⟩ := by
  obtain ⟨t0, G, J, kG, ge, hoe, na⟩ := mk_end0 (d2 := d2) (t2 := t2) I1 ha k un hok ho hb ea ed hd1
  exact ⟨a, _, _, ⟨G, g2, d2, t2, os2⟩, _, .ref C, some d, rfl, J, kG, ge, hoe, ⟨rfl, rfl, fun vs e => by cases e; rfl⟩, rfl, rfl, na, rfl, hb, T, q⟩
theorem pmk_oexN {X : Cx} {e : Expr} {es : List Expr} {ta : TA} {p pos : Pos} {CX : CXT} {x : Str} {C fI : Addr} {k : Nat} {fd : FuncData} {ps : List Str} {sp : Sp} {ds : List Value} {dvs : List V} (T : OexC X.K C) (iC : PySem.W.findIn X.K (.ref C) "__init__" = some (some (.ref fI))) (tI : PySem.W.typeIn X.K (.ref fI) = some (.type "function"))
    (F1 : FnOk X.prog X.w X.K X.mg X.base CX k fI fd ps sp) (hr : Room (k + 1) X.A) (hb : Binds X.K fd ps ds) (hd : Vals dvs ds) (hx : Passes CX X (fun _ _ _ => False)) (hg : Gl X x) (hm : X.mg x = some (.ref C)) (ha : PA X (e :: es) ta)
    (hdb : (x == ("__debug__" : Str)) = false := by decide) (he : starEach (e :: es) X.env = (false, eval e X.env) :: starEach es X.env := by rfl) (hpl : (backTo pos (starEach es X.env)).any (·.1) = false := by rfl) :
    L2N.PMk X (.Call (.Name x p) (e :: es) [] pos) (tMkO C sp dvs ta) := by
  intro pins s σ H Q I h
  obtain ⟨nm, q, N, bs, bm, sn, sub, ab, col, dd, k0, k1, k2, k3, k5, hC, hbm⟩ := T.cls
  refine wpAny_Call_Name_kw (ld_glob I hg hm ?_ hdb)
  refine PySem.W.callWith_K (h₀ := X.base) I.ok.mod.kin T.kC (thn (ha.run pos pins s σ H _ I h) fun us s1 ⟨vs, H1, I1, r1, hz, q1⟩ => ⟨I1.kIn, ?_⟩) he hpl
  show wpAny _ _ (call (.ref C) us) _ _ _
  obtain ⟨hp, g, dr, tk, os⟩ := s1
  have hsz : hp.objs.size ≤ hp.objs.size + 1 := Nat.le_succ _
  have hn : H1 (hp.objs.size + 1) = none := I1.hok.fresh hsz
  have hq := q1 (hp.objs.size + 1) hn
  have kk : ∀ b o, hp.get? b = some o → ((hp.push (PySem.W.kdv_tup us)).push (PySem.HandSPX.excO C hp.objs.size)).get? b = some o := fun b o e => Heap.get?_push_of_some _ (Heap.get?_push_of_some _ e)
  have hget : ((hp.push (PySem.W.kdv_tup us)).push (PySem.HandSPX.excO C hp.objs.size)).get? (hp.objs.size + 1) = some (PySem.HandSPX.excO C hp.objs.size) := by heap_get
  have I2 : Inv X pins σ (upd H1 (hp.objs.size + 1) (exo (hp.objs.size + 1) C none)) ⟨(hp.push (PySem.W.kdv_tup us)).push (PySem.HandSPX.excO C hp.objs.size), g, dr, tk, os⟩ :=
    I1.laid (t' := tk) (a := hp.objs.size + 1) (o := exo (hp.objs.size + 1) C none) (h' := (hp.push (PySem.W.kdv_tup us)).push (PySem.HandSPX.excO C hp.objs.size)) kk hsz (exo_ok hget)
  have r2 : Vals (V.ref (hp.objs.size + 1) :: (vs ++ dvs)) (Value.ref (hp.objs.size + 1) :: (us ++ ds)) := .cons rfl (r1.append hd)
  have hl : (Value.ref (hp.objs.size + 1) :: us ++ ds).length = ps.length := by
    have e := r2.length
    rw [F1.len _ _ _ _ hq] at e
    exact e.symm
  have hus : us.length ≤ sizeLine := by
    rw [← Paired.length r1, sizeLine_eq]
    omega
  refine wpAny_call (PySem.HandSPX.call_own F.excBase_ValueError (fun Y => PySem.HandSPX.refsVE_contains Y bm hbm) (I1.kIn _ _ hC) (PySem.W.looks_findIn I1.kIn iC) (fun self => PySem.W.bind_fn I1.kIn self tI) hus
    (codeAny_mono (F1.run _ X.stack _ _ ⟨Value.ref (hp.objs.size + 1) :: us, []⟩ (Value.ref (hp.objs.size + 1) :: (us ++ ds)) _ _ (fun _ _ _ => False) (hr.make C us []) (I2.env0.make C us []) (hb _ (Value.ref (hp.objs.size + 1) :: us) I2.kIn hl) r2 hq) fun r s' hq' => ?_))
  cases r with
  | error er => exact (hx pins σ _ _ er s' I2 hq')
  | ok fl =>
    cases fl with
    | ret u =>
      obtain ⟨v, H2, os2, bare2, un2, hok2, rv, ev, d, fs, ea, ed, hd1, q2⟩ := hq'
      subst ev
      obtain ⟨h2, g2, d2, t2, os'⟩ := s'
      exact ⟨rv, mk_endN (raises_own T.exC T.tyC) I1 hsz kk un2 hok2 os2 bare2 ea ed hd1 q2⟩
    | next => exact False.elim hq'
    | brk => exact False.elim hq'
    | cont => exact False.elim hq'

/-! ### isinstance of the error that a suite holds, whatever its dict -/
theorem kitx_excD {K : PySem.W.Frag} {x D : Addr} {ox : Obj} {od : Option Obj} (hga : PySem.W.findIn K (.ref D) "__getattribute__" = some (some (.builtin "BaseException.__getattribute__"))) (hgt : PySem.W.findIn K (.ref D) "__getattr__" = some none) (hsub : PySem.W.subIn K (.ref D) (.type "BaseException") = some true) (hdct : PySem.W.hasDictIn K D = true) (ha : PySem.W.findIn K (.ref D) "__class__" = some (some (.builtin "object.__class__")))
    (hn : PySem.W.specialIn K (.builtin "object.__class__") "__get__" = some (some (.builtin "getset_descriptor.__get__"))) (htk : PySem.W.takesIn K (.builtin "object.__class__") = some true) (hm : PySem.W.mroIn K D (.type "object") = some true) :
    PySem.W.KitX K (.ref x) (.ref D) (fun h => PySem.W.InstAt h x ox D od) where
  ty := fun _ _ _ I => I.type
  it := fun _ _ X _ => by
    obtain ⟨cdD, hcD, _⟩ := PySem.W.any_some hdct
    unfold PySem.W.clsIn at hcD
    split at hcD
    · rename_i c' d' cd' sl' ho
      intro A' Q' E' s' k q
      unfold isType loadHead
      exact wpAny_bind (wpAny_loadPart (k _ _ (X _ _ ho)) (wpAny_pure q))
    · cases hcD
  ne := fun h tp dd its n sl X htp => by
    obtain ⟨cdD, hcD, _⟩ := PySem.W.any_some hdct
    refine Bool.eq_false_iff.mpr fun q => ?_
    have e : D = tp := Value.ref.inj (beq_iff_eq.mp q)
    subst e
    unfold PySem.W.clsIn at hcD
    split at hcD
    · rename_i c' d' cd' sl' ho
      have z := (X _ _ ho).symm.trans htp
      cases z
    · cases hcD
  ca := fun X I k => PySem.W.kx_classE X I hga hgt hsub (PySem.W.findObj_dataE (by obtain ⟨cd, hc, _⟩ := PySem.W.any_some hdct; rw [hc]; rfl) ha hn htk) hm k
/-- isinstance(e, c), e the error that the suite holds -/
def rIsX (K : PySem.W.Frag) (a : Addr) (cls : Value) (d : Option Addr) : List V → Hp → VK → Prop := fun xs H Q => ∃ (D dd : Addr) (fs : List (Str × V)) (c : V) (cv : Value) (b : Bool), cls = .ref D ∧ d = some dd ∧ ExcC K D ∧ H dd = some (.xd fs) ∧ xs = [.ref a, c] ∧ ClsV c cv ∧ PySem.W.kitOne K (.ref D) cv = some b ∧ Q (.bl b) H
theorem call_isX {X : Cx} {a : Addr} {oe : Obj} {pn : List (Addr × Obj)} {cls : Value} {d : Option Addr} (hz : Zc cls d oe) (hf : ∃ vs, oe.data = .fields vs) : CallR (X.suite a ((a, oe) :: pn)) (.builtin "isinstance") (rIsX X.K a cls d) := by
  intro pins s σ H xs us Q I r h
  obtain ⟨D, dd, fs, c, cv, b, rfl, rfl, C, hdd, rfl, hcv, e, q⟩ := h
  cases r with
  | cons rx rr =>
    cases rr with
    | cons rt rr =>
      cases rr
      cases rx
      have ec := hcv.eq rt
      subst ec
      obtain ⟨hget, _⟩ := I.pin (a, oe) (List.mem_append.mpr (.inl List.mem_cons_self))
      obtain ⟨vs, hv⟩ := hf
      have hx : ObjOk X.prog X.w H s.heap dd (.xd fs) := I.hok dd _ hdd
      obtain ⟨mA, hns, hr⟩ := hx
      obtain ⟨od, ho, hl⟩ := lookIn_ns hns
      have J : PySem.W.InstAt s.heap a oe D (some od) := by
        obtain ⟨oc, od', oda, osl⟩ := oe
        obtain ⟨h1, h2⟩ := hz
        dsimp only at h1 h2 hv
        subst h1 h2 hv
        exact ⟨hget, rfl, rfl, ho⟩
      exact PySem.W.kia_one (kitx_excD C.hg C.hk C.hs C.hd C.ha C.hn C.ht C.hm) I.kIn J e (fun z => nomatch z) fun tk => ⟨.bl b, H, I.kept (t' := tk) fun _ _ z => z, rfl, q⟩
/-- what ExcC asks, as one Bool -/
def xcB (K : PySem.W.Frag) (D : Addr) : Bool := xfB K D && (decide (PySem.W.findIn K (.ref D) "__class__" = some (some (.builtin "object.__class__"))) && (decide (PySem.W.specialIn K (.builtin "object.__class__") "__get__" = some (some (.builtin "getset_descriptor.__get__"))) &&
  (decide (PySem.W.takesIn K (.builtin "object.__class__") = some true) && decide (PySem.W.mroIn K D (.type "object") = some true))))
theorem xcB_ok {K : PySem.W.Frag} {D : Addr} (h : xcB K D = true) : ExcC K D := by
  obtain ⟨h1, h⟩ := Bool.and_eq_true_iff.mp h
  obtain ⟨h2, h⟩ := Bool.and_eq_true_iff.mp h
  obtain ⟨h3, h⟩ := Bool.and_eq_true_iff.mp h
  obtain ⟨h4, h5⟩ := Bool.and_eq_true_iff.mp h
  have x := xfB_ok h1
  exact ⟨x.ga, x.gg, x.exC, x.hdC, of_decide_eq_true h2, of_decide_eq_true h3, of_decide_eq_true h4, of_decide_eq_true h5⟩
/-- what a law asks of an error class: which classes its errors are of, the clause that catches them -/
structure XcA (K : PySem.W.Frag) (D : Addr) : Prop where
  xc : ExcC K D
  me : PySem.W.exmOne K (.ref D) (.ref D) = some true

/-! ### a def as its callers see it -/
/-- the same where an error is handled -/
structure ClH (P : Program) (w : World) (K : PySem.W.Frag) (mg : Str → Option Value) (base : Heap) (k : Nat) (x : Str) (sp : Sp) : Prop where
  ex : ∃ (f : Addr) (fd : FuncData) (ps : List Str), L2H.FnH P w K mg base (L2N.CX P w) k f fd ps sp ∧ mg x = some (.ref f) ∧ PySem.W.keepIn K (.ref f) = true ∧ Binds K fd ps []
/-- as FunD.ok, where an error is handled -/
theorem funD_okH {P : Program} {w : World} {K : PySem.W.Frag} {mg : Str → Option Value} {base : Heap} {x qual : Str} {params : Arguments} {body : List Stmt} {scope : Scope} {dvs : List V} {kws : List (Str × V)} {f : Addr} {fd : FuncData} {CX : CXT} {N ps : List Str} {k : Nat} {sp : Sp} (F : FunD K x qual params body scope dvs kws f fd) (S : FnScope N ps scope) (len : ∀ vs H Q E, sp vs H Q E → vs.length = ps.length)
    (hbody : ∀ (cdv : Value) (A : Around) (outer : List Env) (s : Shared) (H : Hp) (vs : List V) (Q : VK) (E : XK) (p : Addr × Obj), L2H.Hot1 A p → L2H.RoomH k (A.deeper (envOfC qual scope s.heap.objs.size f cdv)) → sp vs H Q E →
      ∃ t, PSs (L2H.cxH CX P w K mg base N qual scope f cdv A outer s H E p) body t ∧ t { nx := fun _ H' => Q .non H', rt := Q } (L2.start N vs) H) : L2H.FnH P w K mg base CX (k + 1) f fd ps sp := by
  obtain ⟨oc, od, dV, kV, doc, pm, an, cdv, ct, osl, rfl, lk, hcd, _, _⟩ := F.ex
  exact L2H.fn_ofH lk hcd S len fun A outer s H vs Q E p hp hr hsp => hbody cdv A outer s H vs Q E p hp hr hsp
structure Cl (P : Program) (w : World) (K : PySem.W.Frag) (mg : Str → Option Value) (base : Heap) (k : Nat) (x : Str) (sp : Sp) (dvs : List V) : Prop where
  ex : ∃ (f : Addr) (fd : FuncData) (ps : List Str) (ds : List Value), FnOk P w K mg base (L2N.CX P w) k f fd ps sp ∧ mg x = some (.ref f) ∧ PySem.W.keepIn K (.ref f) = true ∧ Binds K fd ps ds ∧ Vals dvs ds
/-- a class over ValueError with an __init__ of its own, as it is raised -/
structure Kx (P : Program) (w : World) (K : PySem.W.Frag) (mg : Str → Option Value) (base : Heap) (k : Nat) (x : Str) (C : Addr) (sp : Sp) : Prop where
  T : OexC K C
  ex : ∃ (fI : Addr) (fd : FuncData) (ps : List Str), PySem.W.findIn K (.ref C) "__init__" = some (some (.ref fI)) ∧ PySem.W.typeIn K (.ref fI) = some (.type "function") ∧ FnOk P w K mg base (L2N.CX P w) k fI fd ps sp ∧ Binds K fd ps [] ∧ mg x = some (.ref C)
/-- a plain class, as it is made; a method of it -/
structure Km (P : Program) (w : World) (K : PySem.W.Frag) (mg : Str → Option Value) (base : Heap) (k : Nat) (x : Str) (C : Addr) (sp : Sp) : Prop where
  ex : ∃ (fI : Addr) (fd : FuncData) (ps : List Str), Mk K C fI ∧ FnOk P w K mg base (L2N.CX P w) k fI fd ps sp ∧ Binds K fd ps [] ∧ mg x = some (.ref C)
structure Mt (P : Program) (w : World) (K : PySem.W.Frag) (mg : Str → Option Value) (base : Heap) (k : Nat) (C : Addr) (m : Str) (sp : Sp) : Prop where
  ex : ∃ (f : Addr) (fd : FuncData) (ps : List Str), Cls K C ∧ Meth K C m f ∧ FnOk P w K mg base (L2N.CX P w) k f fd ps sp ∧ Binds K fd ps []
section
variable {X : Cx} {k j : Nat} {C : Addr} {sp : Sp} {dvs : List V} {E : XK} {W : WX} {x m : Str} {p pos apos : Pos} {e o : Expr} {es : List Expr} {ta : TE} {t : TA}
theorem pe_cl (c : Cl X.prog X.w X.K X.mg X.base k x sp dvs) (hr : Room j X.A) (hk : k ≤ j) (hg : Gl X x) (hx : Passes (L2N.CX X.prog X.w) X E) (ha : PA X (e :: es) t)
    (hdb : (x == ("__debug__" : Str)) = false := by decide) (he : starEach (e :: es) X.env = (false, eval e X.env) :: starEach es X.env := by rfl) (hpl : (backTo pos (starEach es X.env)).any (·.1) = false := by rfl) :
    PE X (.Call (.Name x p) (e :: es) [] pos) (tCall sp dvs E t) := by
  obtain ⟨f, fd, ps, ds, F, hm, kp, b, d⟩ := c.ex
  exact pe_call F (hr.mono hk) hg hm kp b d hx ha hdb he hpl
theorem pe_clS (c : Cl X.prog X.w X.K X.mg X.base k x sp dvs) (hr : Room j X.A) (hk : k ≤ j) (hg : Gl X x) (hx : ∀ σ, PassesAt (L2N.CX X.prog X.w) X σ (WE W σ)) (ha : PA X (e :: es) t)
    (hdb : (x == ("__debug__" : Str)) = false := by decide) (he : starEach (e :: es) X.env = (false, eval e X.env) :: starEach es X.env := by rfl) (hpl : (backTo pos (starEach es X.env)).any (·.1) = false := by rfl) :
    PE X (.Call (.Name x p) (e :: es) [] pos) (tCallSD sp dvs (WE W) t) := by
  obtain ⟨f, fd, ps, ds, F, hm, kp, b, d⟩ := c.ex
  exact pe_callSD F (hr.mono hk) hg hm kp b d hx ha hdb he hpl
theorem hot_of {X : Cx} {a : Addr} {oe : Obj} {pn : List (Addr × Obj)} {cls : Value} {d : Option Addr} (hz : L2N.Zn cls d oe) (hf : ∃ vs, oe.data = .fields vs) : L2H.HotC (X.suite a ((a, oe) :: pn)) := by
  obtain ⟨vs, hv⟩ := hf
  exact ⟨(a, oe), ⟨rfl, vs, hv, hz.2.2 vs hv⟩, List.mem_cons_self⟩
theorem roomH_suite {X : Cx} {a : Addr} {pn : List (Addr × Obj)} (hr : Room j X.A) : L2H.RoomH j (X.suite a pn).A := ⟨hr.dp, hr.un⟩
theorem passH {X : Cx} (σ : L2.St) : PassesAt (L2N.CX X.prog X.w) X σ E0 := fun _ _ _ _ _ _ h => by
  obtain ⟨_, _, _, _, _, _, _, _, _, _, _, _, z⟩ := h
  exact z.elim
theorem pe_clH (c : ClH X.prog X.w X.K X.mg X.base k x sp) (hr : L2H.RoomH j X.A) (hc : L2H.HotC X) (hk : k ≤ j) (hg : Gl X x) (ha : PA X (e :: es) t)
    (hdb : (x == ("__debug__" : Str)) = false := by decide) (he : starEach (e :: es) X.env = (false, eval e X.env) :: starEach es X.env := by rfl) (hpl : (backTo pos (starEach es X.env)).any (·.1) = false := by rfl) :
    PE X (.Call (.Name x p) (e :: es) [] pos) (tCallS sp (fun _ => E0) t) := by
  obtain ⟨f, fd, ps, F, hm, kp, b⟩ := c.ex
  exact L2H.pe_callH F (hr.mono hk) hc hg hm kp b (fun σ => passH σ) ha hdb he hpl
theorem pmk_cl (c : Kx X.prog X.w X.K X.mg X.base k x C sp) (hr : Room j X.A) (hk : k + 1 ≤ j) (hg : Gl X x) (ha : PA X (e :: es) t)
    (hdb : (x == ("__debug__" : Str)) = false := by decide) (he : starEach (e :: es) X.env = (false, eval e X.env) :: starEach es X.env := by rfl) (hpl : (backTo pos (starEach es X.env)).any (·.1) = false := by rfl) :
    L2N.PMk X (.Call (.Name x p) (e :: es) [] pos) (tMkO C sp [] t) := by
  obtain ⟨fI, fd, ps, h1, h2, F, b, hm⟩ := c.ex
  exact pmk_oexN c.T h1 h2 F (hr.mono hk) b .nil passN hg hm ha hdb he hpl
theorem pe_mk2 (c : Km X.prog X.w X.K X.mg X.base k x C sp) (hr : Room j X.A) (hk : k + 1 ≤ j) (hg : Gl X x) (hx : Passes (L2N.CX X.prog X.w) X E) (ha : PA X (e :: es) t)
    (hdb : (x == ("__debug__" : Str)) = false := by decide) (he : starEach (e :: es) X.env = (false, eval e X.env) :: starEach es X.env := by rfl) (hpl : (backTo pos (starEach es X.env)).any (·.1) = false := by rfl) :
    PE X (.Call (.Name x p) (e :: es) [] pos) (tMake C sp [] E t) := by
  obtain ⟨fI, fd, ps, M, F, b, hm⟩ := c.ex
  exact pe_make M F (hr.mono hk) hg hm b .nil hx ha hdb he hpl
end
/-! ### calls with keywords -/
structure ClK (P : Program) (w : World) (K : PySem.W.Frag) (mg : Str → Option Value) (base : Heap) (k : Nat) (x : Str) (sp : Sp) (n : Nat) (ks : List Str) (gV : List V → List V → List V) : Prop where
  ex : ∃ (f : Addr) (fd : FuncData) (ps : List Str) (g : List Value → List Value → List Value), FnOk P w K mg base (L2N.CX P w) k f fd ps sp ∧ mg x = some (.ref f) ∧ PySem.W.keepIn K (.ref f) = true ∧ KBn K fd ps n ks g gV
section
variable {X : Cx} {k j n m : Nat} {sp : Sp} {ks : List Str} {gV : List V → List V → List V} {E : XK} {x : Str} {p pos : Pos} {e : Expr} {es : List Expr} {kws : List Keyword} {t tk : TA}
theorem pe_clK (c : ClK X.prog X.w X.K X.mg X.base k x sp n ks gV) (hr : Room j X.A) (hk : k ≤ j) (hg : Gl X x) (hx : Passes (L2N.CX X.prog X.w) X E) (ha : PA X (e :: es) t) (hkw : PK X kws tk)
    (hall : (backToKw pos (keywordEach kws X.env)).all (·.1.isSome) = true := by rfl) (hks : (backToKw pos (keywordEach kws X.env)).filterMap (·.1) = ks := by rfl)
    (hdb : (x == ("__debug__" : Str)) = false := by decide) (he : starEach (e :: es) X.env = (false, eval e X.env) :: starEach es X.env := by rfl)
    (hpl : ((backTo pos (starEach (e :: es) X.env)).any (·.1) || (backToKw pos (keywordEach kws X.env)).any (·.1.isNone)) = false := by rfl)
    (hlen : ks.length = m := by rfl) : PE X (.Call (.Name x p) (e :: es) kws pos) (tCallN n m sp gV E t tk) := by
  subst hlen
  obtain ⟨f, fd, ps, g, F, hm, kp, b⟩ := c.ex
  exact pe_callN F (hr.mono hk) hg hm kp b hx ha hkw hall hks hdb he hpl
theorem pe_clK0 (c : ClK X.prog X.w X.K X.mg X.base k x sp 0 ks gV) (hr : Room j X.A) (hk : k ≤ j) (hg : Gl X x) (hx : Passes (L2N.CX X.prog X.w) X E) (hkw : PK X kws tk)
    (hall : (backToKw pos (keywordEach kws X.env)).all (·.1.isSome) = true := by rfl) (hks : (backToKw pos (keywordEach kws X.env)).filterMap (·.1) = ks := by rfl)
    (hdb : (x == ("__debug__" : Str)) = false := by decide)
    (hpl : ((backTo pos (starEach [] X.env)).any (·.1) || (backToKw pos (keywordEach kws X.env)).any (·.1.isNone)) = false := by rfl)
    (hlen : ks.length = m := by rfl) : PE X (.Call (.Name x p) [] kws pos) (tCallN 0 m sp gV E tNil tk) := by
  subst hlen
  obtain ⟨f, fd, ps, g, F, hm, kp, b⟩ := c.ex
  refine ⟨fun pins s σ H Q I h => ?_⟩
  refine wpAny_Call_Name_kw (ld_glob I hg hm ?_ hdb)
  refine PySem.W.callWith_KW0 (h₀ := X.base) I.ok.mod.kin kp hall (thn (hkw.run pos pins s σ H _ I h) fun ws s2 ⟨zs, H2, I2, rz, l1, l2, q2⟩ => ⟨I2.kIn, ?_⟩) hpl
  rw [hks]
  exact run_fnN (us := []) F (hr.mono hk) b hx I2 .nil rz l1 l2 q2
end
def srcOf {α : Type} (us its ws : List α) : Nat → List α
  | 0 => us
  | 1 => its
  | _ + 2 => ws
/-- the parameters' values: from the positional ones (0), the defaults (1), the keywords' (2) -/
def pick {α : Type} (idx : List (Nat × Nat)) (us its ws : List α) : List α := idx.filterMap fun p => (srcOf us its ws p.1)[p.2]?
theorem src_rel {vs ds zs : List V} {us its ws : List Value} (r1 : Vals vs us) (r2 : Vals ds its) (r3 : Vals zs ws) : ∀ s, Vals (srcOf vs ds zs s) (srcOf us its ws s)
  | 0 => r1
  | 1 => r2
  | _ + 2 => r3
theorem pick_rel {vs ds zs : List V} {us its ws : List Value} (r1 : Vals vs us) (r2 : Vals ds its) (r3 : Vals zs ws) : ∀ idx : List (Nat × Nat), Vals (pick idx vs ds zs) (pick idx us its ws)
  | [] => .nil
  | (s, i) :: r => by
    have ih := pick_rel r1 r2 r3 r
    have rr := src_rel r1 r2 r3 s
    unfold pick at ih ⊢
    rw [List.filterMap_cons, List.filterMap_cons]
    cases e : (srcOf vs ds zs s)[i]? with
    | some v =>
      obtain ⟨u, h1, h2⟩ := Vals.get rr e
      rw [h1]
      exact .cons h2 ih
    | none =>
      rw [Vals.none_of rr e]
      exact ih
/-- n positional values and keywords ks for a def with defaults dvs -/
theorem funD_kb1 {K : PySem.W.Frag} {x qual : Str} {params : Arguments} {body : List Stmt} {scope : Scope} {dvs : List V} {f : Addr} {fd : FuncData} {ps : List Str} (F : FunD K x qual params body scope dvs [] f fd) (n : Nat) (ks : List Str) (g : {α : Type} → List α → List α → List α → List α) (hd : dvs ≠ [])
    (hrel : ∀ {vs ds zs : List V} {us its ws : List Value}, Vals vs us → Vals ds its → Vals zs ws → Vals (g vs ds zs) (g us its ws))
    (h : ∀ (T : Addr) (kV doc pm : Value) (an : Option Addr) (cdv ct : Value) (us its ws : List Value), us.length = n → its.length = dvs.length → ws.length = ks.length →
      ∃ k, bindArgs (PySem.W.fnOf x qual params body scope (.ref T) kV doc pm an cdv ct) ⟨us, ks.zip ws⟩ = seqItems? (.ref T) >>= k ∧ k (some its.toArray) = pure (ps.zip (g us its ws))) :
    ∃ its : List Value, KBn K fd ps n ks (fun us ws => g us its ws) (fun vs zs => g vs dvs zs) := by
  obtain ⟨oc, od, dV, kV, doc, pm, an, cdv, ct, osl, rfl, lk, hcd, hD, hK⟩ := F.ex
  rcases hD with ⟨e, _⟩ | ⟨_, T, o, its, m, rfl, lT, oT, rT⟩
  · exact absurd e hd
  · refine ⟨its, ⟨fun s us ws X l1 l2 => ?_, fun r1 r2 => hrel r1 rT r2⟩⟩
    obtain ⟨k, e1, e2⟩ := h T kV doc pm an cdv ct us its ws l1 rT.length.symm l2
    refine BindsTo.of_looks fun M => ?_
    rw [e1]
    exact looks_items X lT oT (.of_pure e2)
/-- the same of a def without defaults -/
theorem funD_kb0 {K : PySem.W.Frag} {x qual : Str} {params : Arguments} {body : List Stmt} {scope : Scope} {f : Addr} {fd : FuncData} {ps : List Str} (F : FunD K x qual params body scope [] [] f fd) (n : Nat) (ks : List Str) (g : {α : Type} → List α → List α → List α)
    (hrel : ∀ {vs zs : List V} {us ws : List Value}, Vals vs us → Vals zs ws → Vals (g vs zs) (g us ws))
    (h : ∀ (kV doc pm : Value) (an : Option Addr) (cdv ct : Value) (us ws : List Value), us.length = n → ws.length = ks.length → bindArgs (PySem.W.fnOf x qual params body scope .none kV doc pm an cdv ct) ⟨us, ks.zip ws⟩ = pure (ps.zip (g us ws))) :
    KBn K fd ps n ks (fun us ws => g us ws) (fun vs zs => g vs zs) := by
  obtain ⟨oc, od, dV, kV, doc, pm, an, cdv, ct, osl, rfl, lk, hcd, hD, hK⟩ := F.ex
  rcases hD with ⟨_, rfl⟩ | ⟨e, _⟩
  · exact ⟨fun s us ws X l1 l2 => .of_eq (h kV doc pm an cdv ct us ws l1 l2), fun r1 r2 => hrel r1 r2⟩
  · exact absurd rfl e
/-! ### the end of a def's row -/
theorem cl_of {P : Program} {w : World} {K : PySem.W.Frag} {mg : Str → Option Value} {base : Heap} {k : Nat} {x : Str} {f : Addr} {fd : FuncData} {ps : List Str} {sp : Sp}
    (G : FnOk P w K mg base (L2N.CX P w) k f fd ps sp) (g : mg x = some (.ref f)) (kp : PySem.W.keepIn K (.ref f) = true) (b : Binds K fd ps []) : Cl P w K mg base k x sp [] := ⟨_, _, _, _, G, g, kp, b, .nil⟩
/-- what the written part says of such a class, as one Bool -/
def clsB (K : PySem.W.Frag) (C : Addr) : Bool := match K.lookup C with
  | some ⟨.type "type", _, .cls cd, sl⟩ => (match cd.mro, sl.toList with
    | .ref C' :: bm, [_, _, _, _, some (.builtin n), _] => C' == C && (n == "ValueError.__new__" && (!cd.hasDel && (cd.hasDict && PySem.HandSPX.refsVE bm)))
    | _, _ => false)
  | _ => false
theorem clsB_ok {K : PySem.W.Frag} {C : Addr} (h : clsB K C = true) : ∃ nm q N bs bm sn sub ab col dd k0 k1 k2 k3 k5, K.lookup C = some (excClassObj nm q C N bs bm true sn sub ab col dd k0 k1 k2 k3 k5 "ValueError.__new__") ∧ PySem.HandSPX.refsVE bm = true := by
  unfold clsB at h
  split at h
  · rename_i dd cd sl e
    split at h
    · rename_i C' bm a b c d n f e1 e2
      obtain ⟨nm, bs, mro, ns, qn, hd, sn, sb, ab, col, del⟩ := cd
      obtain ⟨h1, h⟩ := Bool.and_eq_true_iff.mp h
      obtain ⟨h2, h⟩ := Bool.and_eq_true_iff.mp h
      obtain ⟨h3, h⟩ := Bool.and_eq_true_iff.mp h
      obtain ⟨h4, h5⟩ := Bool.and_eq_true_iff.mp h
      have e3 : C' = C := eq_of_beq h1
      have e4 : n = "ValueError.__new__" := eq_of_beq h2
      have e5 : del = false := by
        cases del with
        | false => rfl
        | true => cases h3
      have e6 : hd = true := h4
      have e7 : mro = .ref C' :: bm := e1
      have e8 : sl = #[a, b, c, d, some (.builtin n), f] := by
        have := congrArg List.toArray e2
        simpa using this
      subst e3 e4 e5 e6 e7 e8
      exact ⟨nm, qn, ns, bs, bm, sn, sb, ab, col, dd, a, b, c, d, f, e, h5⟩
    · cases h
  · cases h
def oexB (K : PySem.W.Frag) (C : Addr) : Bool := clsB K C && (decide (PySem.W.findIn K (.ref C) "__setattr__" = some (some (.builtin "object.__setattr__"))) && (decide (PySem.W.subIn K (.ref C) (.type "BaseException") = some true) &&
  (decide (PySem.W.typeIn K (.ref C) = some (.type "type")) && PySem.W.keepIn K (.ref C))))
theorem oexB_ok {K : PySem.W.Frag} {C : Addr} (h : oexB K C = true) : OexC K C := by
  obtain ⟨h1, h⟩ := Bool.and_eq_true_iff.mp h
  obtain ⟨h2, h⟩ := Bool.and_eq_true_iff.mp h
  obtain ⟨h3, h⟩ := Bool.and_eq_true_iff.mp h
  obtain ⟨h4, h5⟩ := Bool.and_eq_true_iff.mp h
  exact ⟨clsB_ok h1, of_decide_eq_true h2, of_decide_eq_true h3, of_decide_eq_true h4, h5⟩
/-- __init__ of such a class is the def at ma -/
def inoB (K : PySem.W.Frag) (C : Addr) : Bool := decide (PySem.W.findIn K (.ref C) "__init__" = some (some (.ref (He.ma K C "__init__")))) && decide (PySem.W.typeIn K (.ref (He.ma K C "__init__")) = some (.type "function"))
theorem inoB_ok {K : PySem.W.Frag} {C : Addr} (h : inoB K C = true) : PySem.W.findIn K (.ref C) "__init__" = some (some (.ref (He.ma K C "__init__"))) ∧ PySem.W.typeIn K (.ref (He.ma K C "__init__")) = some (.type "function") := by
  obtain ⟨h1, h2⟩ := Bool.and_eq_true_iff.mp h
  exact ⟨of_decide_eq_true h1, of_decide_eq_true h2⟩
def noB (K : PySem.W.Frag) (C : Addr) (f : Str) : Bool := decide (PySem.W.findIn K (.ref C) f = some none)
theorem noB_ok {K : PySem.W.Frag} {C : Addr} {f : Str} (h : noB K C f = true) : PySem.W.findIn K (.ref C) f = some none := of_decide_eq_true h
end Md

set_option Elab.async false
set_option linter.all false
set_option maxRecDepth 100000
set_option maxHeartbeats 4000000
/-! plain classes: methods called, instances made in a try, len by an own __len__, constants read off a class -/
namespace Md
open PySem PySem.Spec PyProof.Rows PySem.Calls L2
section
variable {X : Cx} {k j : Nat} {C : Addr} {sp : Sp} {E : XK} {W : WX} {x m : Str} {p pos apos : Pos} {e o : Expr} {es : List Expr} {ta : TE} {t : TA}
theorem pe_gc {v : V} (hg : Gl X x) (h : ∃ u, X.mg x = some u ∧ RelV v u) (hd : (x == ("__debug__" : Str)) = false := by decide) : PE X (.Name x pos) (tC v) := C8.pe_gc hg h hd
theorem pe_cl0 {dvs : List V} (c : Cl X.prog X.w X.K X.mg X.base k x sp dvs) (hr : Room j X.A) (hk : k ≤ j) (hg : Gl X x) (hx : Passes (L2N.CX X.prog X.w) X E) (hdb : (x == ("__debug__" : Str)) = false := by decide) :
    PE X (.Call (.Name x p) [] [] pos) (tCall sp dvs E tNil) := by
  obtain ⟨f, fd, ps, ds, F, hm, kp, b, d⟩ := c.ex
  exact pe_call0 F (hr.mono hk) hg hm kp b d hx hdb
theorem pe_mt2 {pl : Sem Bool} (c : Mt X.prog X.w X.K X.mg X.base k C m sp) (hr : Room j X.A) (hk : k ≤ j) (hx : Passes (L2N.CX X.prog X.w) X E) (he : PE X o ta) (ha : PA X (e :: es) t)
    (hst : starEach (e :: es) X.env = (false, eval e X.env) :: starEach es X.env := by rfl) (hpl : (backTo pos (starEach es X.env)).any (·.1) = false := by rfl)
    (ht : eval (.Call (.Attribute o m apos) (e :: es) [] pos) X.env = (do
      let ov ← eval o X.env
      standAt apos.atName
      let (f, first) ← holding [ov] (getMethod ov m pl)
      callWith pos f first (backTo pos (starEach (e :: es) X.env)) (backToKw pos (keywordEach [] X.env))) := by rfl) :
    PE X (.Call (.Attribute o m apos) (e :: es) [] pos) (tMeth C m sp [] E ta t) := by
  obtain ⟨f, fd, ps, c1, hm, F, b⟩ := c.ex
  exact pe_meth he c1 hm F (hr.mono hk) b .nil hx ha hst hpl ht
theorem pe_mt20 {pl : Sem Bool} (c : Mt X.prog X.w X.K X.mg X.base k C m sp) (hr : Room j X.A) (hk : k ≤ j) (hx : Passes (L2N.CX X.prog X.w) X E) (he : PE X o ta)
    (ht : eval (.Call (.Attribute o m apos) [] [] pos) X.env = (do
      let ov ← eval o X.env
      standAt apos.atName
      let (f, first) ← holding [ov] (getMethod ov m pl)
      callWith pos f first (backTo pos (starEach [] X.env)) (backToKw pos (keywordEach [] X.env))) := by rfl) :
    PE X (.Call (.Attribute o m apos) [] [] pos) (tMeth C m sp [] E ta tNil) := by
  obtain ⟨f, fd, ps, c1, hm, F, b⟩ := c.ex
  exact pe_meth0 he c1 hm F (hr.mono hk) b .nil hx ht
/-- C(..) in a try: what __init__ raises, the try takes -/
def tMakeS (C : Addr) (sp : Sp) (E : L2.St → XK) (t : TA) : TE := fun σ H Q => t σ H fun vs H1 => ∀ x dx, H1 x = none → H1 dx = none → dx ≠ x →
  sp (.ref x :: (vs ++ [])) (upd (upd H1 dx (.own x)) x (.ins C dx [])) (fun v H2 => v = .non ∧ Q (.ref x) H2) (E σ)
theorem run_makeS {pins : List (Addr × Obj)} {σ : L2.St} {H : Hp} {s : Shared} {Q : VK} {us : List Value} {vs : List V} {f : Addr} {fd : FuncData} {ps : List Str} (M : Mk X.K C f) (F : FnOk X.prog X.w X.K X.mg X.base (L2N.CX X.prog X.w) k f fd ps sp) (hr : Room (k + 1) X.A)
    (hb : Binds X.K fd ps []) (hx : PassesAt (L2N.CX X.prog X.w) X σ E) (I : Inv X pins σ H s) (r : Vals vs us)
    (h : ∀ x dx, H x = none → H dx = none → dx ≠ x → sp (.ref x :: (vs ++ [])) (upd (upd H dx (.own x)) x (.ins C dx [])) (fun v H2 => v = .non ∧ Q (.ref x) H2) E) :
    wpAny (model X.prog X.w) X.A (call (.ref C) us) (EP X pins σ Q) X.xe s := by
  have hq := h (s.heap.objs.size + 1) s.heap.objs.size (I.hok.fresh (Nat.le_succ _)) (I.hok.fresh (Nat.le_refl _)) (Nat.ne_of_lt (Nat.lt_succ_self _))
  have I2 := Inv.made (C := C) I
  have r2 : Vals (V.ref (s.heap.objs.size + 1) :: (vs ++ [])) (Value.ref (s.heap.objs.size + 1) :: (us ++ [])) := .cons rfl (r.append .nil)
  have hl : (Value.ref (s.heap.objs.size + 1) :: us ++ []).length = ps.length := by
    have e := r2.length
    rw [F.len _ _ _ _ hq] at e
    exact e.symm
  refine wpAny_call (make_map (f := f) I.kIn M.makes M.init (beq_iff_eq.mp M.fn) (codeAny_mono (F.run _ X.stack _ _ ⟨Value.ref (s.heap.objs.size + 1) :: us, []⟩ (Value.ref (s.heap.objs.size + 1) :: (us ++ [])) _ _ E (hr.make C us [])
    (I2.env0.make C us []) (by
      have z := hb _ (Value.ref (s.heap.objs.size + 1) :: us) I2.kIn hl
      rw [List.cons_append] at z
      exact z) r2 hq) fun r s' hq' => ?_))
  cases r with
  | error e => exact hx pins _ _ e s' I2 hq'
  | ok fl =>
    cases fl with
    | ret u =>
      obtain ⟨v, H', I3, rv, ev, q3⟩ := I2.after hq'
      subst ev
      exact ⟨rv, ⟨V.ref (s.heap.objs.size + 1), H', I3, rfl, q3⟩⟩
    | next => exact False.elim hq'
    | brk => exact False.elim hq'
    | cont => exact False.elim hq'
theorem pe_mkS (c : Km X.prog X.w X.K X.mg X.base k x C sp) (hr : Room j X.A) (hk : k + 1 ≤ j) (hg : Gl X x) (hx : ∀ σ, PassesAt (L2N.CX X.prog X.w) X σ (WE W σ)) (ha : PA X (e :: es) t)
    (hdb : (x == ("__debug__" : Str)) = false := by decide) (he : starEach (e :: es) X.env = (false, eval e X.env) :: starEach es X.env := by rfl) (hpl : (backTo pos (starEach es X.env)).any (·.1) = false := by rfl) :
    PE X (.Call (.Name x p) (e :: es) [] pos) (tMakeS C sp (WE W) t) := by
  obtain ⟨fI, fd, ps, M, F, b, hm⟩ := c.ex
  refine ⟨fun pins s σ H Q I h => ?_⟩
  refine wpAny_Call_Name_kw (ld_glob I hg hm ?_ hdb)
  refine PySem.W.callWith_K (h₀ := X.base) I.ok.mod.kin M.kp (thn (ha.run pos pins s σ H _ I h) fun us s1 ⟨vs, H1, I1, r, q⟩ => ⟨I1.kIn, ?_⟩) he hpl
  exact run_makeS M F (hr.mono hk) b (hx σ) I1 r q
/-- len(o) by the class's own __len__ -/
def rLenO (C : Addr) (sp : Sp) (E : XK) : List V → Hp → VK → Prop := fun xs H Q => ∃ a dx fs, xs = [.ref a] ∧ H a = some (.ins C dx fs) ∧ sp [.ref a] H (fun v H1 => ∃ n : Int, v = .int n ∧ 0 ≤ n ∧ n < 2 ^ 63 ∧ Q (.int n) H1) E
theorem call_lenO (c : Mt X.prog X.w X.K X.mg X.base k C "__len__" sp) (hr : Room j X.A) (hk : k + 1 ≤ j) (hx : Passes (L2N.CX X.prog X.w) X E) : CallR X (.builtin "len") (rLenO C sp E) := by
  intro pins s σ H xs us Q I r h
  obtain ⟨a, dx, fs, rfl, ha, q⟩ := h
  obtain ⟨u, rfl, rx⟩ := vals1 r
  obtain rfl : u = .ref a := rx
  obtain ⟨f, fd, ps, c1, hm, F, b⟩ := c.ex
  obtain ⟨mA, O, _, _, _, _⟩ := ins_get I.hok ha
  obtain ⟨od, J, _⟩ := O.look
  obtain ⟨m, Fr⟩ := I.fr
  refine PySem.W.len_K Fr I.ok.mod.kin J hm.at_ hm.fn ?_
  have hl : ([Value.ref a] ++ []).length = ps.length := by
    have e := F.len _ _ _ _ q
    rw [← e]
    rfl
  refine wpAny_call (codeAny_mono (F.run X.A.in1 X.stack s H ⟨[.ref a], []⟩ [.ref a] [.ref a] _ E (hr.mono hk).in1 I.env0.in1 (b s [.ref a] I.kIn hl) (.cons rfl .nil) q) fun r s' hq => ?_)
  cases r with
  | error e => exact hx pins σ H s e s' I hq
  | ok fl =>
    cases fl with
    | ret u =>
      obtain ⟨v, H', I3, rv, n, rfl, h0, h1, q3⟩ := I.after hq
      obtain ⟨t, rfl⟩ := (show ∃ t, u = Value.int n t from rv)
      exact ⟨⟨h0, h1⟩, ⟨.int n, H', I3.tok _, ⟨_, rfl⟩, q3⟩⟩
    | next => exact False.elim hq
    | brk => exact False.elim hq
    | cont => exact False.elim hq
/-- C.f, a constant of the class -/
structure CCon (K : PySem.W.Frag) (C : Addr) (f : Str) (v : V) : Prop where
  ex : ∃ mc u, ClX.CRead K C mc ∧ ClX.CVal K C mc f v u
theorem pe_ccon {f : Str} {v : V} (h : CCon X.K C f v) (he : PE X e (tC (.ref C))) (hb : attributeBase e f X.env (eval e X.env) = eval e X.env := by rfl) : PE X (.Attribute e f pos) (tC v) := by
  obtain ⟨mc, u, h1, h2⟩ := h.ex
  exact ⟨fun pins s σ H Q I q => (ClX.pe_cval he hb).run pins s σ H Q I ⟨C, mc, v, u, rfl, h1, h2, q⟩⟩
end
def cconB (K : PySem.W.Frag) (C : Addr) (f : Str) (v : V) : Bool := match K.lookup C with
  | some o => PySem.W.readsIn K C o.cls && (He.eqO (PySem.W.specialIn K (.ref C) "__getattribute__") (some (some (.builtin "type.__getattribute__"))) && match PySem.W.findCls K (.ref C) o.cls f with
    | some (.val u) => He.relB v u
    | _ => false)
  | none => false
theorem cconB_ok {K : PySem.W.Frag} {C : Addr} {f : Str} {v : V} (h : cconB K C f v = true) : CCon K C f v := by
  unfold cconB at h
  split at h
  · rename_i o _
    obtain ⟨h1, h⟩ := Bool.and_eq_true_iff.mp h
    obtain ⟨h2, h⟩ := Bool.and_eq_true_iff.mp h
    split at h
    · rename_i u hu
      exact ⟨_, u, ⟨h1, He.eqO_ok h2⟩, ⟨hu, He.relB_ok h⟩⟩
    · cases h
  · cases h
end Md

set_option Elab.async false
set_option linter.all false
set_option maxRecDepth 100000
set_option maxHeartbeats 4000000
/-! texts: z[::-1]; readings by name -/
namespace Md
open PySem PySem.Spec PyProof.Rows PySem.Calls L2
def revS (z : Str) : Str := ⟨z.cps.toList.reverse.toArray⟩
theorem revS_picked (z : Str) : (Builtin.Str.strSliceIndices none none (-1) z.length).filterMap (z.cps[·]?) = z.cps.toList.reverse := by
  rw [PyProof.Rows.picked_rev, PyProof.Rows.filterMap_get, List.map_map]
  · refine List.ext_getElem (by simp [Str.length]) fun i h1 h2 => ?_
    simp only [List.getElem_map, List.getElem_range, Function.comp, List.getElem_reverse, Array.getElem_toList, Array.length_toList]
    have h3 : i < z.cps.size := by simpa using h2
    have e : z.length - 1 - i = z.cps.size - 1 - i := rfl
    rw [e, Array.getD, dif_pos (by omega)]
    rfl
  · intro i hi
    obtain ⟨k, hk, rfl⟩ := List.mem_map.mp hi
    have hk' : k < z.length := List.mem_range.mp hk
    show z.length - 1 - k < z.length
    omega
def tRevS (te : TE) : TE := fun σ H Q => te σ H fun x H1 => ∃ z, x = .str z ∧ z.length ≤ sizeLine ∧ Q (.str (revS z)) H1
section
variable {X : Cx}
theorem pe_revS {e : Expr} {te : TE} {k : Nat} {p1 p2 p3 pos : Pos} (he : PE X e te) : PE X (.Subscript e (.Slice none none (some (.UnaryOp .USub (.Constant (.int 1) k p1) p2)) p3) pos) (tRevS te) := by
  refine ⟨fun pins s σ H Q I h => ?_⟩
  refine Subscript_ (thn (he.run pins s σ H _ I h) fun v s1 ⟨x, H1, I1, r1, q1⟩ => ?_)
  obtain ⟨z, ex, hz, q⟩ := q1
  subst ex
  obtain ⟨t, rfl⟩ := r1
  have hst : PO X (some (.UnaryOp .USub (.Constant (.int 1) k p1) p2)) (tPart (tUn (rU fun i => .int (-i)) (tC (.int 1)))) := po_some (pe_un un_neg pe_int)
  refine wpAny_Slice (thn (po_none.run pins s1 σ H1 (fun o H2 => o = none ∧ H2 = H1) I1 ⟨rfl, rfl⟩) fun vl s2 ⟨l, H2, I2, pl, el, e2⟩ => ?_)
  subst el e2
  refine thn (po_none.run pins s2 σ H2 (fun o H3 => o = none ∧ H3 = H2) I2 ⟨rfl, rfl⟩) fun vu s3 ⟨u, H3, I3, pu, eu, e3⟩ => ?_
  subst eu e3
  refine thn (hst.run pins s3 σ H3 (fun o H4 => o = some (-1) ∧ H4 = H3) I3 ⟨1, rfl, -1, rfl, rfl, rfl⟩) fun vs s4 ⟨o, H4, I4, ps, eo, e4⟩ => ?_
  subst eo e4
  have I5 : Inv X pins σ H4 { s4 with heap := s4.heap.push { cls := .type "slice", data := .fields #[vl, vu, vs] } } := I4.kept (t' := s4.toks) fun b ob q => Heap.get?_push_of_some _ q
  obtain ⟨l, rfl, el⟩ := IsPart.raw pl
  obtain ⟨u, rfl, eu⟩ := IsPart.raw pu
  obtain ⟨w, rfl, ew⟩ := IsPart.raw ps
  obtain rfl : l = none := by cases l <;> first | rfl | cases el
  obtain rfl : u = none := by cases u <;> first | rfl | cases eu
  obtain ⟨wt, rfl⟩ : ∃ wt, w = some (-1, wt) := by
    cases w with
    | none => cases ew
    | some p =>
      obtain ⟨i, wt⟩ := p
      cases ew
      exact ⟨wt, rfl⟩
  refine tail_any (ops := [.str z t, .ref s4.heap.objs.size]) (typeIs_str _ _ _) (PySem.F.slot_str_getitem.lookup) ?_ (by with_unfolding_all rfl)
  refine wpAny_getItem_str_slice (l := none) (u := none) (st := some (-1, wt)) (Heap.IsSliceOf.new _ _ _ _) rfl ?_
  show Made.post (if ((-1 : Int) == 1 && (Builtin.Str.strSliceIndices none none (-1) z.length).length == z.length) = true then Made.val (.str z t)
    else Made.str ⟨((Builtin.Str.strSliceIndices none none (-1) z.length).filterMap (z.cps[·]?)).toArray⟩) (EP X pins σ Q) _
  rw [if_neg (by simp), revS_picked]
  refine ⟨?_, .str _, H4, I5.tok _, ⟨_, rfl⟩, q⟩
  show z.cps.toList.reverse.toArray.size ≤ sizeLine
  rw [List.size_toArray, List.length_reverse, Array.length_toList]
  exact hz
def rTIdx (K : PySem.W.Frag) : V → List V → Hp → VK → Prop := fun x xs H Q => ∃ p, ∃ ys : List Str, ∃ z j, x = .ref p ∧ xs = [.str z] ∧ SqT K H p (ys.map V.str) ∧ ys[j]? = some z ∧ (∀ m, m < j → ys[m]? ≠ some z) ∧ Q (.int (j : Nat)) H
theorem mt_tidx : MtR X "tuple.index" (rTIdx X.K) := mt_tup_index
/-- a tuple made by tuple(x) or displayed: of no dict -/
def TupF (H : Hp) (a : Addr) (ys : List V) : Prop := ∃ o, H a = some (.frz o (.tup ys)) ∧ o.cls = .type "tuple" ∧ o.dict = none
theorem TupF.seq {K : PySem.W.Frag} {H : Hp} {a : Addr} {ys : List V} (h : TupF H a ys) : SqT K H a ys := by
  obtain ⟨o, h, _⟩ := h
  exact .inl (.inr ⟨o, h⟩)
def rTupF (K : PySem.W.Frag) : List V → Hp → VK → Prop := fun xs H Q => ∃ p ys, xs = [.ref p] ∧ SqL K H p ys ∧ ∀ l (o : Obj), H l = none → o.cls = .type "tuple" → o.dict = none → Q (.ref l) (upd H l (.frz o (.tup ys)))
theorem call_tupF : CallR X (.type "tuple") (rTupF X.K) := by
  intro pins s σ H xs us Q I r h
  obtain ⟨p, ys, rfl, hq, q⟩ := h
  obtain ⟨u, rfl, rx⟩ := vals1 r
  cases rx
  obtain ⟨its, r', pl, hz⟩ := I.list hq
  have hlen := r'.length
  refine call_tuple_list pl.isList (fun h' kp => ?_) (by simp only [List.size_toArray] <;> omega)
  have I1 : Inv X pins σ H { s with heap := h' } := I.kept (t' := s.toks) kp
  have I2 : Inv X pins σ (upd H h'.objs.size (.frz { cls := .type "tuple", data := .seq its.toArray } (.tup ys))) { s with heap := h'.push { cls := .type "tuple", data := .seq its.toArray } } :=
    I1.laid (t' := s.toks) (fun b o e => Heap.get?_push_of_some _ e) (Nat.le_refl _) (show ObjOk X.prog X.w _ _ _ (.frz _ (.tup ys)) from ⟨Heap.get?_push_size _ rfl, hz, its, r', IsTup.new _ _⟩)
  exact ⟨.ref h'.objs.size, _, I2, rfl, q _ _ (I1.hok.fresh (Nat.le_refl _)) rfl rfl⟩
def tBMF (r : V → List V → Hp → VK → Prop) (to : TE) (t : TA) : TE := fun σ H Q => to σ H fun x H1 => (∃ p ys, x = .ref p ∧ TupF H1 p ys) ∧ t σ H1 fun xs H2 => r x xs H2 Q
theorem pe_bmF {o e : Expr} {es : List Expr} {to : TE} {t : TA} {name : Str} {apos cpos : Pos} {id : String} {r : V → List V → Hp → VK → Prop} (pa : PlainAttrs "tuple") (slot : Slot "tuple" name id) (hty : typeOf (.builtin id) = pure (.type "method_descriptor")) (hm : MtR X id r) (ho : PE X o to) (ha : PA X (e :: es) t)
    (hbase : attributeBase o name X.env (eval o X.env) = eval o X.env := by rfl)
    (hfew : ((backTo cpos (starEach (e :: es) X.env)).all (fun x => !x.1) && (backToKw cpos (keywordEach [] X.env)).all (fun x => x.1.isSome)
      && decide ((e :: es).length + ([] : List Keyword).length + (if ([] : List Keyword).isEmpty then 0 else 1) < 30)) = true := by rfl)
    (hline : (apos.endLine == cpos.line) = true := by rfl) (hs : starEach (e :: es) X.env = (false, eval e X.env) :: starEach es X.env := by rfl) (hplain : (backTo cpos (starEach es X.env)).any (·.1) = false := by rfl) :
    PE X (.Call (.Attribute o name apos) (e :: es) [] cpos) (tBMF r to t) := by
  refine ⟨fun pins s σ H Q I h => ?_⟩
  refine wpAny_Call_method_late hbase hfew hline rfl (thn (ho.run pins s σ H _ I h) fun v s1 ⟨x, H1, I1, r1, ty, q1⟩ => ?_)
  have h12 : s1.TypeIs v "tuple" ∧ ∀ a, v = .ref a → ∃ ob, s1.heap.get? a = some ob ∧ ob.dict = none := by
    obtain ⟨p, ys, rfl, ob, hp, hc, hd⟩ := ty
    cases r1
    have g := (show ObjOk X.prog X.w H1 s1.heap p (.frz ob (.tup ys)) from I1.hok p _ hp).1
    refine ⟨⟨ob, g, hc⟩, fun a e2 => ?_⟩
    cases e2
    exact ⟨ob, g, hd⟩
  refine ⟨"tuple", id, pa, slot, hty, h12.1, h12.2, ?_⟩
  have hA := ha.run cpos pins s1 σ H1 _ I1 q1
  rw [hs] at hA ⊢
  refine Calls.callWith_builtin (by show (false || (backTo cpos (starEach es X.env)).any (·.1)) = false; rw [hplain] <;> rfl) (Calls.evalArgs_plain ?_)
  exact thn hA fun us s2 ⟨vs, H2, I2, r2, q2⟩ => hm pins s2 σ H2 x vs v us Q I2 r1 r2 q2
def rLenD : List V → Hp → VK → Prop := fun xs H Q => ∃ a kvs, xs = [V.ref a] ∧ H a = some (.dK kvs) ∧ Q (.int kvs.length) H
def rJoin (K : PySem.W.Frag) : V → List V → Hp → VK → Prop := fun x xs H Q => ∃ a p, ∃ ys : List Str, x = .str a ∧ xs = [.ref p] ∧ (SqL K H p (ys.map V.str) ∨ SqT K H p (ys.map V.str)) ∧ (ys.map (·.length)).sum + ys.length * a.length ≤ 16777216 ∧ Q (.str (Txt.join a ys)) H
def rSplitS : V → List V → Hp → VK → Prop := fun x xs H Q => ∃ a b, x = .str a ∧ xs = [.str b] ∧ (b.length == 0) = false ∧ a.length + 2 ≤ sizeLine ∧ rNewStrs (Txt.split a b) H Q
def rUpperS : V → List V → Hp → VK → Prop := fun x xs H Q => ∃ a, x = .str a ∧ xs = [] ∧ a.length ≤ 5592405 ∧ Q (.str (Txt.upper a)) H
end
end Md

set_option Elab.async false
set_option linter.all false
set_option maxRecDepth 100000
set_option maxHeartbeats 4000000
namespace Md
open PySem PySem.Spec PyProof.Rows PySem.Calls L2

/-! ### ways of a test -/
theorem iteD {p A B : Prop} [Decidable p] (h1 : p → A) (h2 : ¬ p → B) : if decide p = true then A else B := by
  by_cases h : p
  · rw [if_pos (decide_eq_true h)]; exact h1 h
  · rw [if_neg (by simp [h])]; exact h2 h
theorem iteN {p A B : Prop} [Decidable p] (h1 : p → B) (h2 : ¬ p → A) : if (!decide p) = true then A else B := by
  by_cases h : p
  · rw [if_neg (by simp [h])]; exact h1 h
  · rw [if_pos (by simp [h])]; exact h2 h
theorem iteB {b : Bool} {A B : Prop} (h1 : b = true → A) (h2 : b = false → B) : if b = true then A else B := by
  cases b with
  | true => rw [if_pos rfl]; exact h1 rfl
  | false => rw [if_neg (by decide)]; exact h2 rfl
theorem iteBN {b : Bool} {A B : Prop} (h1 : b = true → B) (h2 : b = false → A) : if (!b) = true then A else B := by
  cases b with
  | true => rw [if_neg (by decide)]; exact h1 rfl
  | false => rw [if_pos (by decide)]; exact h2 rfl
/-! ### heaps: all but the list at b stands -/
def Xb (b : Addr) (H H' : Hp) : Prop := ∀ a o, a ≠ b → H a = some o → H' a = some o
theorem Xb.refl {b : Addr} {H : Hp} : Xb b H H := fun _ _ _ h => h
theorem Xb.trans {b : Addr} {H H1 H2 : Hp} (x : Xb b H H1) (y : Xb b H1 H2) : Xb b H H2 := fun a o n h => y a o n (x a o n h)
theorem Xb.upd {b : Addr} {H H' : Hp} {o : HO} (x : Xb b H H') : Xb b H (upd H' b o) := fun a u n h => by
  rw [upd_ne n]
  exact x a u n h
theorem Xb.of {b : Addr} {H H' : Hp} (x : Same H H') : Xb b H H' := fun a o _ h => x a o h
theorem Same.new {H : Hp} {p : Addr} {o : HO} (h : H p = none) : Same H (L2.upd H p o) := fun a u e => by
  rw [upd_ne (ne_of_none e h)]
  exact e
theorem Xb.tup {b a : Addr} {H H' : Hp} {L xs : List V} (x : Xb b H H') (hb : H b = some (.lst L)) (h : H a = some (.tup xs)) : H' a = some (.tup xs) :=
  x a _ (ne_of h hb (by intro z; cases z)) h
/-- the draws' list: the digits, the seed, the count; n draws are left -/
def Bag (n : Nat) (H : Hp) (b : Addr) : Prop := ∃ L S C : Int, H b = some (.lst [.int L, .int S, .int C]) ∧ 0 ≤ L ∧ 0 ≤ S ∧ S < 16140901064496457664 ∧ 0 ≤ C ∧ C + n ≤ 549755813888
theorem Bag.mono {n m : Nat} {H : Hp} {b : Addr} (h : Bag n H b) (l : m ≤ n) : Bag m H b := by
  obtain ⟨L, S, C, e, h1, h2, h3, h4, h5⟩ := h
  exact ⟨L, S, C, e, h1, h2, h3, h4, by omega⟩
theorem Bag.same {n : Nat} {H H' : Hp} {b : Addr} (h : Bag n H b) (s : Same H H') : Bag n H' b := by
  obtain ⟨L, S, C, e, h⟩ := h
  exact ⟨L, S, C, s _ _ e, h⟩
theorem Bag.at_ {n : Nat} {H : Hp} {b : Addr} (h : Bag n H b) : ∃ L, H b = some (.lst L) := by
  obtain ⟨L, S, C, e, _⟩ := h
  exact ⟨_, e⟩
theorem Xb.tupB {n : Nat} {b a : Addr} {H H' : Hp} {xs : List V} (x : Xb b H H') (hb : Bag n H b) (h : H a = some (.tup xs)) : H' a = some (.tup xs) := by
  obtain ⟨L, e⟩ := hb.at_
  exact x.tup e h
theorem pow_lt {x : Int} {k : Nat} (h : x.natAbs < 2 ^ k) (hk : 0 < k) : x.natAbs.log2 < k := PySem.Flt.log2_lt_of hk h

theorem CMulW.small {i j : Int} (hi : i.natAbs < 2 ^ 64) (h0 : 0 ≤ j) (h1 : j < 2 ^ 64) : CMulW i j := wide_mul (a := 64) (b := 64) hi (by omega) (by decide) (by decide) (by decide)
/-! ### _law_take -/
def t__law_take (K : PySem.W.Frag) (A : Ads) (E : XK) : TS :=
    (tSeq (tIfS (tTest (tOp rGt (tOp (rIx K) (tVar 0) (tC (.int 0))) (tC (.int 0)))) (tSeq (tAsg (tOp rMod (tCB rInt1 (tCons (tOp (rIx K) (tVar 0) (tC (.int 0))) tNil)) (tVar 1)) (gName 3))
    (tSeq (tAsg (tOp rFdvW (tOp (rIx K) (tVar 0) (tC (.int 0))) (tVar 1)) (gSub (tVar 0) (tC (.int 0)) rSetL))
    (tRet (tVar 3)))) tNext)
    (tSeq (tAsg (tOp rAdd (tOp (rIx K) (tVar 0) (tC (.int 2))) (tC (.int 1))) (gSub (tVar 0) (tC (.int 2)) rSetL))
    (tSeq (tAsg (tOp rMod (tCB rInt1 (tCons (tOp rPow (tOp rAdd (tOp (rIx K) (tVar 0) (tC (.int 1))) (tOp rMulW (tC (.int 1000003)) (tOp (rIx K) (tVar 0) (tC (.int 2))))) (tC (.int 3))) tNil)) (tC (.int 2305843009213693921))) (gName 2))
    (tSeq (tAsg (tOp rMod (tCB rInt1 (tCons (tOp rPow (tOp rAdd (tVar 2) (tOp rMulW (tC (.int 15485863)) (tOp (rIx K) (tVar 0) (tC (.int 2))))) (tC (.int 2))) tNil)) (tC (.int 2305843009213693951))) (gName 2))
    (tRet (tOp rMod (tCB rInt1 (tCons (tOp rFdvW (tVar 2) (tC (.int 8192))) tNil)) (tVar 1)))))))
def n__law_take : List Str := ["_law_bag_here", "_law_many", "_law_mixed", "_law_digit"]
def sp__law_take (K : PySem.W.Frag) (A : Ads) : Sp := fun vs H Q _ => ∃ (b : Addr) (many : Int) (n : Nat), vs = [.ref b, .int many] ∧ Bag (n + 1) H b ∧ 0 < many ∧ many.natAbs < 2 ^ 9000 ∧
  ∀ d H', 0 ≤ d → d < many → Xb b H H' → Bag n H' b → Q (.int d) H'
theorem len__law_take {K : PySem.W.Frag} {A : Ads} {vs : List V} {H : Hp} {Q : VK} {E : XK} (h : sp__law_take K A vs H Q E) : vs.length = 2 := by
  obtain ⟨b, many, n, rfl, _⟩ := h
  rfl
local macro_rules | `(tactic| walk_at "v") => `(tactic| refine ⟨_, rfl, ?_⟩)
local macro_rules | `(tactic| walk_at "ii") => `(tactic| refine ⟨_, _, rfl, rfl, ?_⟩)
local macro_rules | `(tactic| walk_at "ixL") => `(tactic| refine Or.inl ⟨_, _, _, _, rfl, rfl, SqL.of (by assumption), rfl, ?_⟩)
set_option maxHeartbeats 400000 in
theorem pure__law_take {K : PySem.W.Frag} {A : Ads} {vs : List V} {H : Hp} {Q : VK} {E : XK} (h : sp__law_take K A vs H Q E) :
    t__law_take K A E { nx := fun _ H' => Q .non H', rt := Q } (start n__law_take vs) H := by
  obtain ⟨b, many, n, rfl, ⟨L, S, C, hb, hL, hS, hS2, hC, hCn⟩, hm, hm2, q⟩ := h
  have em : many.natAbs.log2 < 9000 := pow_lt hm2 (by decide)
  walk_at "v"; walk_at "ixL"; walk_at "ii"; walk_at "v"
  refine iteD (fun h0 => ?_) (fun h0 => ?_)
  · walk_at "v"; walk_at "ixL"; refine Or.inl ⟨_, rfl, ?_⟩; walk_at "v"; refine ⟨_, _, rfl, rfl, hm, ?_⟩
    walk_at "v"; walk_at "ixL"; walk_at "v"; refine ⟨_, _, rfl, rfl, ⟨hm, em⟩, ?_⟩
    walk_at "v"; refine ⟨_, _, _, _, rfl, rfl, hb, rfl, ?_⟩
    walk_at "v"
    refine q _ _ (Int.emod_nonneg _ (by omega)) (Int.emod_lt_of_pos _ hm) (Xb.upd Xb.refl) ⟨_, S, C, upd_same, Int.ediv_nonneg hL (by omega), hS, hS2, hC, by omega⟩
  · walk_at "v"; walk_at "ixL"; walk_at "ii"; walk_at "v"; refine ⟨_, _, _, _, rfl, rfl, hb, rfl, ?_⟩
    generalize e2 : upd H b _ = H2
    have hb2 : H2 b = some (.lst [V.int L, V.int S, V.int (C + 1)]) := by rw [← e2]; exact upd_same
    have x2 : Xb b H H2 := by rw [← e2]; exact Xb.upd Xb.refl
    walk_at "v"; walk_at "ixL"; walk_at "v"; walk_at "ixL"; refine ⟨_, _, rfl, rfl, CMulW.small (by decide) (by omega) (by omega), ?_⟩
    walk_at "ii"; refine ⟨_, _, rfl, rfl, ⟨by decide, by decide, by omega⟩, ?_⟩; refine Or.inl ⟨_, rfl, ?_⟩; refine ⟨_, _, rfl, rfl, (by decide : (0 : Int) < 2305843009213693921), ?_⟩
    have b1 := Int.emod_nonneg ((S + 1000003 * (C + 1)) ^ (3 : Int).toNat) (by decide : (2305843009213693921 : Int) ≠ 0)
    have b2 := Int.emod_lt_of_pos ((S + 1000003 * (C + 1)) ^ (3 : Int).toNat) (by decide : (0 : Int) < 2305843009213693921)
    generalize (S + 1000003 * (C + 1)) ^ (3 : Int).toNat % 2305843009213693921 = M at b1 b2 ⊢
    walk_at "v"; walk_at "v"; walk_at "ixL"; refine ⟨_, _, rfl, rfl, CMulW.small (by decide) (by omega) (by omega), ?_⟩
    walk_at "ii"; refine ⟨_, _, rfl, rfl, ⟨by decide, by decide, by omega⟩, ?_⟩; refine Or.inl ⟨_, rfl, ?_⟩; refine ⟨_, _, rfl, rfl, (by decide : (0 : Int) < 2305843009213693951), ?_⟩
    walk_at "v"; refine ⟨_, _, rfl, rfl, ⟨(by decide : (0 : Int) < 8192), by decide +kernel⟩, ?_⟩; refine Or.inl ⟨_, rfl, ?_⟩; walk_at "v"; refine ⟨_, _, rfl, rfl, hm, ?_⟩
    exact q _ _ (Int.emod_nonneg _ (by omega)) (Int.emod_lt_of_pos _ hm) x2 ⟨L, S, C + 1, hb2, hL, hS, hS2, by omega, by omega⟩
end Md

set_option Elab.async false
set_option linter.all false
set_option maxRecDepth 100000
set_option maxHeartbeats 4000000
namespace Md
/-! ### fractions in lowest terms (plain Lean) -/
/-- the greatest common divisor -/
def gI (p q : Int) : Int := ((Nat.gcd p.natAbs q.natAbs : Nat) : Int)
def lowN (p q : Int) : Int := p / gI p q
def lowD (p q : Int) : Int := q / gI p q
def Cop (p q : Int) : Prop := Nat.gcd p.natAbs q.natAbs = 1
theorem gI_pos {p q : Int} (h : q ≠ 0) : 0 < gI p q := by
  unfold gI
  have : 0 < Nat.gcd p.natAbs q.natAbs := Nat.gcd_pos_of_pos_right _ (by omega)
  omega
theorem gI_dvd_l (p q : Int) : gI p q ∣ p := Int.ofNat_dvd_left.mpr (Nat.gcd_dvd_left ..)
theorem gI_dvd_r (p q : Int) : gI p q ∣ q := Int.ofNat_dvd_left.mpr (Nat.gcd_dvd_right ..)
theorem low_l (p q : Int) : gI p q * lowN p q = p := Int.mul_ediv_cancel' (gI_dvd_l p q)
theorem low_r (p q : Int) : gI p q * lowD p q = q := Int.mul_ediv_cancel' (gI_dvd_r p q)
theorem lowD_pos {p q : Int} (h : 0 < q) : 0 < lowD p q := by
  have h1 := gI_pos (p := p) (q := q) (by omega)
  have h2 := low_r p q
  rcases Int.lt_or_le 0 (lowD p q) with h3 | h3
  · exact h3
  · have := Int.mul_nonpos_of_nonneg_of_nonpos (Int.le_of_lt h1) h3
    omega
theorem low_cop {p q : Int} (h : q ≠ 0) : Cop (lowN p q) (lowD p q) := by
  have h1 := gI_pos (p := p) (q := q) h
  have e1 : (gI p q).natAbs * (lowN p q).natAbs = p.natAbs := by rw [← Int.natAbs_mul, low_l]
  have e2 : (gI p q).natAbs * (lowD p q).natAbs = q.natAbs := by rw [← Int.natAbs_mul, low_r]
  have e3 : (gI p q).natAbs = Nat.gcd p.natAbs q.natAbs := by unfold gI; omega
  have e4 : Nat.gcd ((gI p q).natAbs * (lowN p q).natAbs) ((gI p q).natAbs * (lowD p q).natAbs) = (gI p q).natAbs * Nat.gcd (lowN p q).natAbs (lowD p q).natAbs := Nat.gcd_mul_left ..
  rw [e1, e2, ← e3] at e4
  have h5 : 0 < (gI p q).natAbs := by omega
  have e6 : (gI p q).natAbs * 1 = (gI p q).natAbs * Nat.gcd (lowN p q).natAbs (lowD p q).natAbs := by rw [Nat.mul_one]; exact e4
  exact (Nat.eq_of_mul_eq_mul_left h5 e6).symm
theorem low_cross {p q : Int} : lowN p q * q = p * lowD p q := by
  have h1 := low_l p q
  have h2 := low_r p q
  calc lowN p q * q = lowN p q * (gI p q * lowD p q) := by rw [h2]
    _ = (gI p q * lowN p q) * lowD p q := by rw [← Int.mul_assoc, Int.mul_comm (lowN p q)]
    _ = p * lowD p q := by rw [h1]
/-- two fractions in lowest terms of one value are one -/
theorem cop_uniq {p q p' q' : Int} (h : Cop p q) (h' : Cop p' q') (hq : 0 < q) (hq' : 0 < q') (e : p * q' = p' * q) : p = p' ∧ q = q' := by
  have e2 : p.natAbs * q'.natAbs = p'.natAbs * q.natAbs := by rw [← Int.natAbs_mul, ← Int.natAbs_mul, e]
  have d1 : q.natAbs ∣ q'.natAbs := by
    have : q.natAbs ∣ p.natAbs * q'.natAbs := by rw [e2]; exact Nat.dvd_mul_left ..
    exact (Nat.Coprime.symm h : Nat.Coprime q.natAbs p.natAbs).dvd_of_dvd_mul_left this
  have d2 : q'.natAbs ∣ q.natAbs := by
    have : q'.natAbs ∣ p'.natAbs * q.natAbs := by rw [← e2]; exact Nat.dvd_mul_left ..
    exact (Nat.Coprime.symm h' : Nat.Coprime q'.natAbs p'.natAbs).dvd_of_dvd_mul_left this
  have e3 : q.natAbs = q'.natAbs := Nat.dvd_antisymm d1 d2
  have e4 : q = q' := by omega
  subst e4
  exact ⟨Int.eq_of_mul_eq_mul_right (by omega) e, rfl⟩
theorem low_of_cop {p q : Int} (h : Cop p q) (hq : 0 < q) : lowN p q = p ∧ lowD p q = q := by
  have e : gI p q = 1 := by unfold gI; rw [h]; rfl
  unfold lowN lowD
  rw [e, Int.ediv_one, Int.ediv_one]
  exact ⟨rfl, rfl⟩
theorem low_mul {p q c : Int} (hq : 0 < q) (hc : 0 < c) : lowN (p * c) (q * c) = lowN p q ∧ lowD (p * c) (q * c) = lowD p q := by
  have hqc : 0 < q * c := Int.mul_pos hq hc
  refine cop_uniq (low_cop (by omega)) (low_cop (by omega)) (lowD_pos hqc) (lowD_pos hq) ?_
  have h1 : lowN (p * c) (q * c) * (q * c) = (p * c) * lowD (p * c) (q * c) := low_cross
  have h2 : lowN p q * q = p * lowD p q := low_cross
  -- cancel q * c
  refine Int.eq_of_mul_eq_mul_right (a := q * c) (by omega) ?_
  calc lowN (p * c) (q * c) * lowD p q * (q * c) = (lowN (p * c) (q * c) * (q * c)) * lowD p q := by rw [Int.mul_assoc, Int.mul_comm (lowD p q), ← Int.mul_assoc]
    _ = (p * c * lowD (p * c) (q * c)) * lowD p q := by rw [h1]
    _ = (p * lowD p q) * (c * lowD (p * c) (q * c)) := by
      rw [Int.mul_assoc p, Int.mul_assoc p, Int.mul_assoc p, Int.mul_comm (lowD p q)]
    _ = (lowN p q * q) * (c * lowD (p * c) (q * c)) := by rw [h2]
    _ = lowN p q * lowD (p * c) (q * c) * (q * c) := by
      rw [Int.mul_assoc, Int.mul_assoc, ← Int.mul_assoc q c, Int.mul_comm (q * c)]
theorem low_one (p : Int) : lowN p 1 = p ∧ lowD p 1 = 1 := low_of_cop (by unfold Cop; simp) (by decide)
theorem low_neg (p q : Int) : lowN (-p) q = -lowN p q ∧ lowD (-p) q = lowD p q := by
  have e : gI (-p) q = gI p q := by unfold gI; rw [Int.natAbs_neg]
  unfold lowN lowD
  rw [e]
  exact ⟨Int.neg_ediv_of_dvd (gI_dvd_l p q), rfl⟩
theorem lowN_le (p q : Int) (h : q ≠ 0) : (lowN p q).natAbs ≤ p.natAbs := by
  have e1 : (gI p q).natAbs * (lowN p q).natAbs = p.natAbs := by rw [← Int.natAbs_mul, low_l]
  have h1 := gI_pos (p := p) (q := q) h
  rw [← e1]
  exact Nat.le_mul_of_pos_left _ (by omega)
theorem lowD_le (p q : Int) (h : q ≠ 0) : (lowD p q).natAbs ≤ q.natAbs := by
  have e1 : (gI p q).natAbs * (lowD p q).natAbs = q.natAbs := by rw [← Int.natAbs_mul, low_r]
  have h1 := gI_pos (p := p) (q := q) h
  rw [← e1]
  exact Nat.le_mul_of_pos_left _ (by omega)
/-- the fraction top/bottom, bottom of either sign -/
def frN (p q : Int) : Int := if q < 0 then lowN (-p) (-q) else lowN p q
def frD (p q : Int) : Int := if q < 0 then lowD (-p) (-q) else lowD p q
theorem gI_neg (p q : Int) : gI (-p) (-q) = gI p q := by unfold gI; rw [Int.natAbs_neg, Int.natAbs_neg]
theorem frD_pos {p q : Int} (h : q ≠ 0) : 0 < frD p q := by
  unfold frD
  split
  · exact lowD_pos (by omega)
  · exact lowD_pos (by omega)
theorem fr_cop {p q : Int} (h : q ≠ 0) : Cop (frN p q) (frD p q) := by
  unfold frN frD
  split
  · exact low_cop (by omega)
  · exact low_cop h
/-! ### sizes -/
theorem nat_mul_lt {a b m n : Nat} (h1 : a < 2 ^ m) (h2 : b < 2 ^ n) : a * b < 2 ^ (m + n) := by
  rw [Nat.pow_add]
  exact Nat.mul_lt_mul'' h1 h2
theorem int_mul_lt {a b : Int} {m n : Nat} (h1 : a.natAbs < 2 ^ m) (h2 : b.natAbs < 2 ^ n) : (a * b).natAbs < 2 ^ (m + n) := by
  rw [Int.natAbs_mul]
  exact nat_mul_lt h1 h2
theorem pow_mono {m n : Nat} {a : Nat} (h : a < 2 ^ m) (l : m ≤ n) : a < 2 ^ n := Nat.lt_of_lt_of_le h (Nat.pow_le_pow_right (by decide) l)
end Md

set_option Elab.async false
set_option linter.all false
set_option maxRecDepth 100000
set_option maxHeartbeats 4000000
namespace Md
open PySem PySem.Spec PyProof.Rows PySem.Calls L2
local macro_rules | `(tactic| walk_at "v") => `(tactic| refine ⟨_, rfl, ?_⟩)
local macro_rules | `(tactic| walk_at "ii") => `(tactic| refine ⟨_, _, rfl, rfl, ?_⟩)
local macro_rules | `(tactic| walk_at "ixL") => `(tactic| refine Or.inl ⟨_, _, _, _, rfl, rfl, SqL.of (by assumption), rfl, ?_⟩)
local macro_rules | `(tactic| walk_at "ixT") => `(tactic| refine Or.inr (Or.inl ⟨_, _, _, _, rfl, rfl, SqT.of (by assumption), rfl, ?_⟩))

/-! ### types of values -/
def isIntV : V → Bool
  | .int _ => true
  | _ => false
def isBoolV : V → Bool
  | .bl _ => true
  | _ => false
theorem isi_of {K : PySem.W.Frag} {H : Hp} {x : V} {T C : String} {b : Bool} {Q : VK} (ty : TyX K H x (.type T)) (h : kitB T C = some b) (q : Q (.bl b) H) : rIsi K [x, .ty C] H Q := ⟨x, .ty C, _, _, b, rfl, .ty C, ty, kit_ty h, q⟩
theorem kit_int {K : PySem.W.Frag} {H : Hp} {x : V} {T : String} (ty : TyX K H x (.type T)) : kitB T "int" = some (isIntV x || isBoolV x) ∧ kitB T "bool" = some (isBoolV x) := by
  cases ty with
  | base b => cases b <;> (constructor <;> (simp only [isIntV, isBoolV, Bool.or_false, Bool.or_true, Bool.false_or, Bool.true_or]; decide +kernel))
  | _ => constructor <;> (simp only [isIntV, isBoolV, Bool.or_false, Bool.or_true, Bool.false_or, Bool.true_or]; decide +kernel)
theorem ty_int {K : PySem.W.Frag} {H : Hp} {i : Int} : TyX K H (.int i) (.type "int") := .base (.int i)
theorem ty_tup {K : PySem.W.Frag} {H : Hp} {a : Addr} {xs : List V} (h : H a = some (.tup xs)) : TyX K H (.ref a) (.type "tuple") := .base (.tup h)

/-! ### an error class of one field -/
def spXi (C : Addr) (f : Str) : Sp := fun vs H Q _ => ∃ (a : Addr) (x : V), vs = [.ref a, x] ∧ H a = some (exo a C none) ∧ ∀ d, H d = none → d ≠ a → Q .non (upd (upd H d (exd d [(f, x)])) a (exo a C (some d)))
theorem len_xi {C : Addr} {f : Str} {vs : List V} {H : Hp} {Q : VK} {E : XK} (h : spXi C f vs H Q E) : vs.length = 2 := by
  obtain ⟨a, x, rfl, _⟩ := h
  rfl
def t_xi (K : PySem.W.Frag) (f : Str) : TS := tOst K f (tVar 0) (tVar 1)
theorem pure_xi {K : PySem.W.Frag} {C : Addr} {f n : Str} (T : OexC K C) (hn : PySem.W.findIn K (.ref C) f = some none) {vs : List V} {H : Hp} {Q : VK} {E : XK} (h : spXi C f vs H Q E) :
    t_xi K f { nx := fun _ H' => Q .non H', rt := Q } (start ["self", n] vs) H := by
  obtain ⟨a, x, rfl, ha, q⟩ := h
  walk_at "v"; walk_at "v"
  exact ⟨a, C, rfl, T, hn, .inl ⟨ha, fun dx h1 h2 => q dx h1 h2⟩⟩
/-- such an error is made -/
theorem mk_xi {C : Addr} {f : Str} {x : V} {H : Hp} {Q : XK} (q : ∀ d H', Same H H' → H' d = some (.xd [(f, x)]) → Q (.ref C) (some d) H') :
    [x].length ≤ 1000 ∧ ∀ a, H a = none → spXi C f (.ref a :: ([x] ++ [])) (upd H a (exo a C none)) (fun v H2 => v = .non ∧ ∃ (d : Addr) (fs : List (Str × V)), H2 a = some (exo a C (some d)) ∧ H2 d = some (exd d fs) ∧ H d = none ∧ Q (.ref C) (some d) (upd (del H2 a) d (.xd fs))) (fun _ _ _ => False) := by
  refine ⟨by show 1 ≤ 1000; decide, fun a ha => ⟨a, x, rfl, upd_same, fun d hd hda => ⟨rfl, d, [(f, x)], upd_same, ?_, ?_, ?_⟩⟩⟩
  · rw [upd_ne hda, upd_same]
  · rw [upd_ne hda] at hd; exact hd
  · rw [upd_ne hda] at hd
    refine q d _ (fun b o e => ?_) upd_same
    have nb : b ≠ d := ne_of_none e hd
    have na : b ≠ a := ne_of_none e ha
    rw [upd_ne nb, del_ne na, upd_ne na, upd_ne nb, upd_ne na]
    exact e

/-! ### numbers in the heap -/
def NumAt (H : Hp) (x : V) (p q : Int) : Prop := (x = .int p ∧ q = 1) ∨ ∃ a, x = .ref a ∧ H a = some (.tup [.int p, .int q]) ∧ 2 ≤ q ∧ Cop p q
def PairAt (H : Hp) (x : V) (p q : Int) : Prop := ∃ a, x = .ref a ∧ H a = some (.tup [.int p, .int q])
theorem NumAt.same {H H' : Hp} {x : V} {p q : Int} (h : NumAt H x p q) (s : Same H H') : NumAt H' x p q := by
  rcases h with h | ⟨a, e, ha, h⟩
  · exact .inl h
  · exact .inr ⟨a, e, s _ _ ha, h⟩
theorem NumAt.xb {H H' : Hp} {x : V} {p q : Int} {b : Addr} {n : Nat} (h : NumAt H x p q) (hb : Bag n H b) (s : Xb b H H') : NumAt H' x p q := by
  rcases h with h | ⟨a, e, ha, h⟩
  · exact .inl h
  · exact .inr ⟨a, e, s.tupB hb ha, h⟩
theorem NumAt.pos {H : Hp} {x : V} {p q : Int} (h : NumAt H x p q) : 0 < q := by
  rcases h with ⟨_, h⟩ | ⟨a, e, ha, h, _⟩ <;> omega
theorem NumAt.cop {H : Hp} {x : V} {p q : Int} (h : NumAt H x p q) : Cop p q := by
  rcases h with ⟨_, h⟩ | ⟨a, e, ha, h, c⟩
  · subst h; unfold Cop; simp
  · exact c
theorem NumAt.ty {K : PySem.W.Frag} {H : Hp} {x : V} {p q : Int} (h : NumAt H x p q) : ∃ T, TyX K H x (.type T) := by
  rcases h with ⟨rfl, h⟩ | ⟨a, rfl, ha, h, _⟩
  · exact ⟨_, ty_int⟩
  · exact ⟨_, ty_tup ha⟩
theorem PairAt.same {H H' : Hp} {x : V} {p q : Int} (h : PairAt H x p q) (s : Same H H') : PairAt H' x p q := by
  obtain ⟨a, e, ha⟩ := h
  exact ⟨a, e, s _ _ ha⟩
theorem PairAt.xb {H H' : Hp} {x : V} {p q : Int} {b : Addr} {n : Nat} (h : PairAt H x p q) (hb : Bag n H b) (s : Xb b H H') : PairAt H' x p q := by
  obtain ⟨a, e, ha⟩ := h
  exact ⟨a, e, s.tupB hb ha⟩
theorem NumAt.int (H : Hp) (p : Int) : NumAt H (.int p) p 1 := .inl ⟨rfl, rfl⟩
/-- a fraction in lowest terms, laid as a number -/
theorem NumAt.eqv {H : Hp} {x : V} {p q p' q' : Int} (h : NumAt H x p q) (e1 : p = p') (e2 : q = q') : NumAt H x p' q' := by subst e1 e2; exact h

/-! ### is_whole, _law_is_int -/
def t_is_whole (K : PySem.W.Frag) (A : Ads) (E : XK) : TS :=
    (tRet (tAndV (tCB (rIsi K) (tCons (tVar 0) (tCons (tC (.ty "int")) tNil))) (tNotV (tCB (rIsi K) (tCons (tVar 0) (tCons (tC (.ty "bool")) tNil))))))
def n_is_whole : List Str := ["thing"]
def sp_is_whole (K : PySem.W.Frag) (A : Ads) : Sp := fun vs H Q _ => ∃ (x : V) (T : String), vs = [x] ∧ TyX K H x (.type T) ∧ Q (.bl (isIntV x)) H
theorem len_is_whole {K : PySem.W.Frag} {A : Ads} {vs : List V} {H : Hp} {Q : VK} {E : XK} (h : sp_is_whole K A vs H Q E) : vs.length = 1 := by
  obtain ⟨x, T, rfl, _⟩ := h
  rfl
theorem pure_is_whole {K : PySem.W.Frag} {A : Ads} {vs : List V} {H : Hp} {Q : VK} {E : XK} (h : sp_is_whole K A vs H Q E) : t_is_whole K A E { nx := fun _ H' => Q .non H', rt := Q } (start n_is_whole vs) H := by
  obtain ⟨x, T, rfl, ty, q⟩ := h
  obtain ⟨e1, e2⟩ := kit_int ty
  walk_at "v"
  refine ⟨_, _, _, _, _, rfl, .ty _, ty, kit_ty e1, ?_⟩
  refine ⟨_, rfl, ?_⟩
  refine iteB (fun h1 => ?_) (fun h1 => ?_)
  · walk_at "v"
    refine ⟨_, _, _, _, _, rfl, .ty _, ty, kit_ty e2, ?_⟩
    refine ⟨_, rfl, ?_⟩
    cases x <;> first | exact q | (simp [isIntV, isBoolV] at h1)
  · cases x <;> first | exact q | (simp [isIntV, isBoolV] at h1)
def t__law_is_int (K : PySem.W.Frag) (A : Ads) (E : XK) : TS :=
    (tRet (tAndV (tCB (rIsi K) (tCons (tVar 0) (tCons (tC (.ty "int")) tNil))) (tNotV (tCB (rIsi K) (tCons (tVar 0) (tCons (tC (.ty "bool")) tNil))))))
def n__law_is_int : List Str := ["_law_thing"]
def sp__law_is_int (K : PySem.W.Frag) (A : Ads) : Sp := sp_is_whole K A
theorem len__law_is_int {K : PySem.W.Frag} {A : Ads} {vs : List V} {H : Hp} {Q : VK} {E : XK} (h : sp__law_is_int K A vs H Q E) : vs.length = 1 := len_is_whole h
theorem pure__law_is_int {K : PySem.W.Frag} {A : Ads} {vs : List V} {H : Hp} {Q : VK} {E : XK} (h : sp__law_is_int K A vs H Q E) : t__law_is_int K A E { nx := fun _ H' => Q .non H', rt := Q } (start n__law_is_int vs) H := pure_is_whole h

/-! ### number -/
def sp_BadNumber___init__ (K : PySem.W.Frag) (A : Ads) : Sp := spXi A.cBadNumber "thing"
def t_number (K : PySem.W.Frag) (A : Ads) (E : XK) : TS :=
    (tSeq (tIfS (tTest (tOp rEq (tVar 1) (tC (.int 0)))) (tRaise E (tMkO A.cBadNumber (sp_BadNumber___init__ K A) [] (tCons (tVar 1) tNil))) tNext)
    (tSeq (tAsg (tCB rGcd (tCons (tVar 0) (tCons (tVar 1) tNil))) (gName 2))
    (tSeq (tIfS (tTest (tOp rLt (tVar 1) (tC (.int 0)))) (tAsg (tUn rNeg (tVar 2)) (gName 2)) tNext)
    (tSeq (tIfS (tTest (tOp rEq (tVar 1) (tVar 2))) (tRet (tOp rFdvG (tVar 0) (tVar 2))) tNext)
    (tRet (tTup (tCons (tOp rFdvG (tVar 0) (tVar 2)) (tCons (tOp rFdvG (tVar 1) (tVar 2)) tNil))))))))
def n_number : List Str := ["top", "bottom", "shared"]
def sp_number (K : PySem.W.Frag) (A : Ads) : Sp := fun vs H Q E => ∃ p q : Int, vs = [.int p, .int q] ∧ q.natAbs < 2 ^ 9000 ∧ (q ≠ 0 → ∀ x H', Same H H' → NumAt H' x (frN p q) (frD p q) → Q x H') ∧
  (q = 0 → ∀ d H', Same H H' → H' d = some (.xd [("thing", .int 0)]) → E (.ref A.cBadNumber) (some d) H')
theorem len_number {K : PySem.W.Frag} {A : Ads} {vs : List V} {H : Hp} {Q : VK} {E : XK} (h : sp_number K A vs H Q E) : vs.length = 2 := by
  obtain ⟨p, q, rfl, _⟩ := h
  rfl
theorem fdiv_exact {p s k : Int} (hs : s ≠ 0) (e : p = s * k) : p.fdiv s = k := by rw [e]; exact Int.mul_fdiv_cancel_left k hs
theorem gI_size {p q : Int} (h : q ≠ 0) : (gI p q).natAbs ≤ q.natAbs := by
  have e1 : (gI p q).natAbs * (lowD p q).natAbs = q.natAbs := by rw [← Int.natAbs_mul, low_r]
  have : 0 < (lowD p q).natAbs := by
    rcases Nat.eq_zero_or_pos (lowD p q).natAbs with z | z
    · rw [z] at e1; omega
    · exact z
  rw [← e1]
  exact Nat.le_mul_of_pos_right _ this
theorem pure_number {K : PySem.W.Frag} {A : Ads} {vs : List V} {H : Hp} {Q : VK} {E : XK} (h : sp_number K A vs H Q E) : t_number K A E { nx := fun _ H' => Q .non H', rt := Q } (start n_number vs) H := by
  obtain ⟨p, q, rfl, hz, kQ, kE⟩ := h
  walk_at "v"; refine ⟨rfl, ?_⟩; walk_at "v"
  refine iteD (fun h0 => ?_) (fun h0 => ?_)
  · have e0 : q = 0 := V.int.inj h0
    subst e0
    walk_at "v"
    exact mk_xi fun d H' s e => kE rfl d H' s e
  have hq : q ≠ 0 := fun z => h0 (by rw [z])
  have hg := gI_pos (p := p) (q := q) hq
  have hs := gI_size (p := p) hq
  walk_at "v"; walk_at "v"; refine ⟨_, _, rfl, ?_⟩
  have main : ∀ s : Int, (s = gI p q ∧ 0 < q ∨ s = -gI p q ∧ q < 0) → (tSeq (tIfS (tTest (tOp rEq (tVar 1) (tVar 2))) (tRet (tOp rFdvG (tVar 0) (tVar 2))) tNext) (tRet (tTup (tCons (tOp rFdvG (tVar 0) (tVar 2)) (tCons (tOp rFdvG (tVar 1) (tVar 2)) tNil)))))
      { nx := fun _ H' => Q .non H', rt := Q } [some (.int p), some (.int q), some (.int s)] H := by
    intro s hs2
    have s0 : s ≠ 0 := by omega
    have sz : s.natAbs.log2 < 9000 := pow_lt (Nat.lt_of_le_of_lt (by omega) hz) (by decide)
    obtain ⟨eN, eD⟩ : p.fdiv s = frN p q ∧ q.fdiv s = frD p q := by
      unfold frN frD
      rcases hs2 with ⟨e, h1⟩ | ⟨e, h1⟩
      · rw [if_neg (by omega), if_neg (by omega), e]
        exact ⟨fdiv_exact (by omega) (low_l p q).symm, fdiv_exact (by omega) (low_r p q).symm⟩
      · rw [if_pos h1, if_pos h1]
        have l1 := low_l (-p) (-q)
        have l2 := low_r (-p) (-q)
        rw [gI_neg] at l1 l2
        refine ⟨fdiv_exact s0 ?_, fdiv_exact s0 ?_⟩
        · rw [e, Int.neg_mul, l1, Int.neg_neg]
        · rw [e, Int.neg_mul, l2, Int.neg_neg]
    have hD := frD_pos (p := p) hq
    have hC := fr_cop (p := p) hq
    walk_at "v"; walk_at "v"; refine ⟨rfl, ?_⟩; walk_at "v"
    refine iteD (fun h1 => ?_) (fun h1 => ?_)
    · have e1 : q = s := V.int.inj h1
      walk_at "v"; walk_at "v"; refine ⟨_, _, rfl, rfl, ⟨s0, sz⟩, ?_⟩
      refine kQ hq _ _ (Same.refl H) (.inl ⟨congrArg V.int eN, ?_⟩)
      rw [← eD, ← e1]
      exact fdiv_exact hq (by omega)
    · walk_at "v"; walk_at "v"; refine ⟨_, _, rfl, rfl, ⟨s0, sz⟩, ?_⟩
      walk_at "v"; walk_at "v"; refine ⟨_, _, rfl, rfl, ⟨s0, sz⟩, ?_⟩
      refine ⟨by show 2 ≤ sizeLine; decide, fun a ha => ?_⟩
      refine kQ hq _ _ (Same.new ha) (.inr ⟨a, rfl, ?_, ?_, hC⟩)
      · exact upd_same.trans (by show some (HO.tup [V.int (p.fdiv s), V.int (q.fdiv s)]) = _; rw [eN, eD])
      · rcases Int.lt_or_le (frD p q) 2 with z | z
        · exfalso
          have z1 : frD p q = 1 := by omega
          apply h1
          have : q = s * frD p q := by
            rcases hs2 with ⟨e, h2⟩ | ⟨e, h2⟩
            · unfold frD; rw [if_neg (by omega), e, low_r]
            · unfold frD
              have l2 := low_r (-p) (-q)
              rw [gI_neg] at l2
              rw [if_pos h2, e, Int.neg_mul, l2, Int.neg_neg]
          rw [z1, Int.mul_one] at this
          rw [this]
        · exact z
  walk_at "v"; walk_at "ii"; walk_at "v"
  refine iteD (fun h1 => ?_) (fun h1 => ?_)
  · walk_at "v"; walk_at "v"
    exact main _ (.inr ⟨rfl, h1⟩)
  · exact main _ (.inl ⟨rfl, by omega⟩)
end Md

set_option Elab.async false
set_option linter.all false
set_option maxRecDepth 100000
set_option maxHeartbeats 4000000
namespace Md
open PySem PySem.Spec PyProof.Rows PySem.Calls L2
local macro_rules | `(tactic| walk_at "v") => `(tactic| refine ⟨_, rfl, ?_⟩)
local macro_rules | `(tactic| walk_at "ii") => `(tactic| refine ⟨_, _, rfl, rfl, ?_⟩)
local macro_rules | `(tactic| walk_at "ixL") => `(tactic| refine Or.inl ⟨_, _, _, _, rfl, rfl, SqL.of (by assumption), rfl, ?_⟩)
local macro_rules | `(tactic| walk_at "ixT") => `(tactic| refine Or.inr (Or.inl ⟨_, _, _, _, rfl, rfl, SqT.of (by assumption), rfl, ?_⟩))

/-! ### _over -/
def t__over (K : PySem.W.Frag) (A : Ads) (E : XK) : TS :=
    (tSeq (tIfS (tB (tCall (sp_is_whole K A) [] E0 (tCons (tVar 0) tNil))) (tRet (tTup (tCons (tVar 0) (tCons (tC (.int 1)) tNil)))) tNext)
    (tRet (tVar 0)))
def n__over : List Str := ["value"]
def sp__over (K : PySem.W.Frag) (A : Ads) : Sp := fun vs H Q _ => ∃ (x : V) (p q : Int), vs = [x] ∧ NumAt H x p q ∧ ∀ y H', Same H H' → PairAt H' y p q → Q y H'
theorem len__over {K : PySem.W.Frag} {A : Ads} {vs : List V} {H : Hp} {Q : VK} {E : XK} (h : sp__over K A vs H Q E) : vs.length = 1 := by
  obtain ⟨x, p, q, rfl, _⟩ := h
  rfl
theorem pure__over {K : PySem.W.Frag} {A : Ads} {vs : List V} {H : Hp} {Q : VK} {E : XK} (h : sp__over K A vs H Q E) : t__over K A E { nx := fun _ H' => Q .non H', rt := Q } (start n__over vs) H := by
  obtain ⟨x, p, q, rfl, hn, k⟩ := h
  rcases hn with ⟨rfl, rfl⟩ | ⟨a, rfl, ha, h2, hc⟩
  · walk_at "v"
    refine ⟨_, _, rfl, ty_int, ⟨_, rfl, ?_⟩⟩
    show (if true = true then _ else _)
    refine iteT ?_
    walk_at "v"
    refine ⟨by show 2 ≤ sizeLine; decide, fun t ht => ?_⟩
    exact k _ _ (Same.new ht) ⟨t, rfl, upd_same⟩
  · walk_at "v"
    refine ⟨_, _, rfl, ty_tup ha, ⟨_, rfl, ?_⟩⟩
    refine iteF ?_
    walk_at "v"
    exact k _ _ (Same.refl H) ⟨a, rfl, ha⟩
/-! ### compare -/
def cmpI (a b : Int) : Int := if a < b then -1 else if b < a then 1 else 0
def t_compare (K : PySem.W.Frag) (A : Ads) (E : XK) : TS :=
    (tSeq (tAsg (tCall (sp__over K A) [] E0 (tCons (tVar 0) tNil)) (gTup K 2 (gCons (gName 4) (gCons (gName 5) gNil))))
    (tSeq (tAsg (tCall (sp__over K A) [] E0 (tCons (tVar 1) tNil)) (gTup K 2 (gCons (gName 6) (gCons (gName 7) gNil))))
    (tSeq (tAsg (tOp rMulW (tVar 4) (tVar 7)) (gName 2))
    (tSeq (tAsg (tOp rMulW (tVar 6) (tVar 5)) (gName 3))
    (tSeq (tIfS (tTest (tOp rLt (tVar 2) (tVar 3))) (tRet (tUn rNeg (tC (.int 1)))) tNext)
    (tRet (tIf (tTest (tOp rGt (tVar 2) (tVar 3))) (tC (.int 1)) (tC (.int 0)))))))))
def n_compare : List Str := ["one", "other", "left", "right", "top", "bottom", "other_top", "other_bottom"]
def sp_compare (K : PySem.W.Frag) (A : Ads) : Sp := fun vs H Q _ => ∃ (x y : V) (p q p' q' : Int), vs = [x, y] ∧ NumAt H x p q ∧ NumAt H y p' q' ∧ (p.natAbs < 2 ^ 9000 ∧ q.natAbs < 2 ^ 9000 ∧ p'.natAbs < 2 ^ 9000 ∧ q'.natAbs < 2 ^ 9000) ∧
  ∀ H', Same H H' → Q (.int (cmpI (p * q') (p' * q))) H'
theorem len_compare {K : PySem.W.Frag} {A : Ads} {vs : List V} {H : Hp} {Q : VK} {E : XK} (h : sp_compare K A vs H Q E) : vs.length = 2 := by
  obtain ⟨x, y, p, q, p', q', rfl, _⟩ := h
  rfl
theorem mulW {i j : Int} (h1 : i.natAbs < 2 ^ 9001) (h2 : j.natAbs < 2 ^ 9001) : CMulW i j := wide_mul h1 h2 (by decide) (by decide) (by decide)
theorem mulW0 {i j : Int} (h1 : i.natAbs < 2 ^ 9000) (h2 : j.natAbs < 2 ^ 9000) : CMulW i j := mulW (pow_mono h1 (by decide)) (pow_mono h2 (by decide))
theorem pure_compare {K : PySem.W.Frag} {A : Ads} {vs : List V} {H : Hp} {Q : VK} {E : XK} (h : sp_compare K A vs H Q E) : t_compare K A E { nx := fun _ H' => Q .non H', rt := Q } (start n_compare vs) H := by
  obtain ⟨x, y, p, q, p', q', rfl, h1, h2, ⟨z1, z2, z3, z4⟩, k⟩ := h
  walk_at "v"
  refine ⟨_, _, _, rfl, h1, fun u H1 s1 hu => ?_⟩
  obtain ⟨a, rfl, ha⟩ := hu
  refine ⟨a, _, rfl, SqT.of ha, rfl, _, _, rfl, _, _, rfl, rfl, ?_⟩
  walk_at "v"
  refine ⟨_, _, _, rfl, h2.same s1, fun u2 H2 s2 hu2 => ?_⟩
  obtain ⟨a2, rfl, ha2⟩ := hu2
  refine ⟨a2, _, rfl, SqT.of ha2, rfl, _, _, rfl, _, _, rfl, rfl, ?_⟩
  have s3 := Same.trans s1 s2
  walk_at "v"; walk_at "v"; refine ⟨_, _, rfl, rfl, mulW0 z1 z4, ?_⟩
  walk_at "v"; walk_at "v"; refine ⟨_, _, rfl, rfl, mulW0 z3 z2, ?_⟩
  have kk := k H2 s3
  unfold cmpI at kk
  walk_at "v"; walk_at "v"; walk_at "ii"; walk_at "v"
  refine iteD (fun h0 => ?_) (fun h0 => ?_)
  · refine ⟨_, rfl, ?_⟩
    rw [if_pos h0] at kk
    exact kk
  · rw [if_neg h0] at kk
    walk_at "v"; walk_at "v"; walk_at "ii"; walk_at "v"
    refine iteD (fun h3 => ?_) (fun h3 => ?_)
    · rw [if_pos h3] at kk
      exact kk
    · rw [if_neg h3] at kk
      exact kk
/-! ### _negative -/
def t__negative (K : PySem.W.Frag) (A : Ads) (E : XK) : TS :=
    (tRet (tTup (tCons (tUn rNeg (tOp (rIx K) (tVar 0) (tC (.int 0)))) (tCons (tOp (rIx K) (tVar 0) (tC (.int 1))) tNil))))
def n__negative : List Str := ["over"]
def sp__negative (K : PySem.W.Frag) (A : Ads) : Sp := fun vs H Q _ => ∃ (x : V) (p q : Int), vs = [x] ∧ PairAt H x p q ∧ ∀ y H', Same H H' → PairAt H' y (-p) q → Q y H'
theorem len__negative {K : PySem.W.Frag} {A : Ads} {vs : List V} {H : Hp} {Q : VK} {E : XK} (h : sp__negative K A vs H Q E) : vs.length = 1 := by
  obtain ⟨x, p, q, rfl, _⟩ := h
  rfl
theorem pure__negative {K : PySem.W.Frag} {A : Ads} {vs : List V} {H : Hp} {Q : VK} {E : XK} (h : sp__negative K A vs H Q E) : t__negative K A E { nx := fun _ H' => Q .non H', rt := Q } (start n__negative vs) H := by
  obtain ⟨x, p, q, rfl, ⟨a, rfl, ha⟩, k⟩ := h
  walk_at "v"; walk_at "ixT"; walk_at "v"; walk_at "v"; walk_at "ixT"
  refine ⟨by show 2 ≤ sizeLine; decide, fun t ht => ?_⟩
  exact k _ _ (Same.new ht) ⟨t, rfl, upd_same⟩

/-! ### _law_bag -/
def t__law_bag (K : PySem.W.Frag) (A : Ads) (E : XK) : TS :=
    (tSeq (tAsg (tIf (tTest (tOp rLt (tVar 1) (tCB (rLen K) (tCons (tVar 0) tNil)))) (tOp (rIx K) (tVar 0) (tVar 1)) (tC (.int 0))) (gName 2))
    (tSeq (tAsg (tIf (tTest (tOp rGe (tCB rAbs (tCons (tVar 2) tNil)) (tOp rPow (tC (.int 10)) (tC (.int 18))))) (tCB rAbs (tCons (tVar 2) tNil)) (tC (.int 0))) (gName 3))
    (tRet (tLst (tCons (tVar 3) (tCons (tOp rAdd (tOp rAdd (tOp rMulW (tOp rMod (tCB rInt1 (tCons (tVar 2) tNil)) (tC (.int 2305843009213693951))) (tC (.int 7))) (tOp rMulW (tC (.int 9176)) (tVar 1))) (tC (.int 7001))) (tCons (tC (.int 0)) tNil)))))))
def n__law_bag : List Str := ["_law_script", "_law_at", "_law_cell", "_law_large"]
def sp__law_bag (K : PySem.W.Frag) (A : Ads) : Sp := fun vs H Q _ => ∃ (s : Addr) (ns : List Int) (at_ : Int), vs = [.ref s, .int at_] ∧ SqL K H s (ns.map V.int) ∧ ns.length ≤ 63 ∧ 0 ≤ at_ ∧ at_ ≤ 62 ∧ ∀ b H', H b = none → Same H H' → Bag 549755813888 H' b → Q (.ref b) H'
theorem len__law_bag {K : PySem.W.Frag} {A : Ads} {vs : List V} {H : Hp} {Q : VK} {E : XK} (h : sp__law_bag K A vs H Q E) : vs.length = 2 := by
  obtain ⟨x, p, q, rfl, _⟩ := h
  rfl
theorem atI_map {ns : List Int} {i : Int} (h0 : 0 ≤ i) (h1 : i < ns.length) : ∃ c, atI (ns.map V.int) i = some (.int c) := by
  have h2 : i.toNat < ns.length := by omega
  refine ⟨ns[i.toNat], ?_⟩
  unfold atI ixN
  rw [if_pos h0, List.length_map, if_pos h1]
  show (ns.map V.int)[i.toNat]? = _
  rw [List.getElem?_map, List.getElem?_eq_getElem h2]
  rfl
theorem pure__law_bag {K : PySem.W.Frag} {A : Ads} {vs : List V} {H : Hp} {Q : VK} {E : XK} (h : sp__law_bag K A vs H Q E) : t__law_bag K A E { nx := fun _ H' => Q .non H', rt := Q } (start n__law_bag vs) H := by
  obtain ⟨s, ns, i, rfl, hs, hn, h0, h1, k⟩ := h
  have main : ∀ c : Int, (tSeq (tAsg (tIf (tTest (tOp rGe (tCB rAbs (tCons (tVar 2) tNil)) (tOp rPow (tC (.int 10)) (tC (.int 18))))) (tCB rAbs (tCons (tVar 2) tNil)) (tC (.int 0))) (gName 3))
    (tRet (tLst (tCons (tVar 3) (tCons (tOp rAdd (tOp rAdd (tOp rMulW (tOp rMod (tCB rInt1 (tCons (tVar 2) tNil)) (tC (.int 2305843009213693951))) (tC (.int 7))) (tOp rMulW (tC (.int 9176)) (tVar 1))) (tC (.int 7001))) (tCons (tC (.int 0)) tNil))))))
     { nx := fun _ H' => Q .non H', rt := Q } [some (.ref s), some (.int i), some (.int c), none] H := by
    intro c
    have fin : ∀ L : Int, 0 ≤ L → (tRet (tLst (tCons (tVar 3) (tCons (tOp rAdd (tOp rAdd (tOp rMulW (tOp rMod (tCB rInt1 (tCons (tVar 2) tNil)) (tC (.int 2305843009213693951))) (tC (.int 7))) (tOp rMulW (tC (.int 9176)) (tVar 1))) (tC (.int 7001))) (tCons (tC (.int 0)) tNil)))))
     { nx := fun _ H' => Q .non H', rt := Q } [some (.ref s), some (.int i), some (.int c), some (.int L)] H := by
      intro L hL
      have b1 := Int.emod_nonneg c (by decide : (2305843009213693951 : Int) ≠ 0)
      have b2 := Int.emod_lt_of_pos c (by decide : (0 : Int) < 2305843009213693951)
      walk_at "v"; walk_at "v"; refine Or.inl ⟨_, rfl, ?_⟩; refine ⟨_, _, rfl, rfl, (by decide : (0 : Int) < 2305843009213693951), ?_⟩
      refine ⟨_, _, rfl, rfl, CMulW.small (by omega) (by decide) (by decide), ?_⟩
      walk_at "v"; refine ⟨_, _, rfl, rfl, CMulW.small (by decide) (by omega) (by omega), ?_⟩
      walk_at "ii"; walk_at "ii"
      refine ⟨by show 3 ≤ sizeLine; decide, fun t ht => ?_⟩
      refine k t _ ht (Same.new ht) ⟨L, _, 0, upd_same, hL, by omega, by omega, by omega, by omega⟩
    walk_at "v"; walk_at "v"; refine ⟨_, _, rfl, rfl, ⟨by decide, by decide, by decide⟩, ?_⟩; walk_at "ii"; walk_at "v"
    refine iteD (fun h2 => ?_) (fun h2 => ?_)
    · walk_at "v"; walk_at "v"
      refine fin _ ?_
      split <;> omega
    · exact fin 0 (by omega)
  walk_at "v"; walk_at "v"; refine ⟨_, _, rfl, Or.inl ⟨_, hs, rfl⟩, ?_⟩; walk_at "ii"; walk_at "v"
  refine iteD (fun h2 => ?_) (fun h2 => ?_)
  · rw [List.length_map] at h2
    obtain ⟨c, hc⟩ := atI_map h0 h2
    walk_at "v"; walk_at "v"
    refine Or.inl ⟨_, _, _, _, rfl, rfl, hs, hc, ?_⟩
    exact main c
  · exact main 0

/-! ### _law_value -/
def t__law_value (K : PySem.W.Frag) (A : Ads) (E : XK) : TS :=
    (tSeq (tPar 2 3 (tCons (tCB rAbs (tCons (tVar 0) tNil)) (tCons (tVar 1) tNil)))
    (tSeq (tWhile (tTest (tOp rGt (tVar 2) (tC (.int 0)))) (tPar 2 3 (tCons (tOp rMod (tCB rInt1 (tCons (tVar 3) tNil)) (tVar 2)) (tCons (tVar 2) tNil))))
    (tRet (tIf (tTest (tOp rEq (tVar 1) (tVar 3))) (tOp rFdvW (tVar 0) (tVar 3)) (tTup (tCons (tOp rFdvW (tVar 0) (tVar 3)) (tCons (tOp rFdvW (tVar 1) (tVar 3)) tNil)))))))
def n__law_value : List Str := ["_law_p", "_law_q", "_law_low", "_law_high"]
def sp__law_value (K : PySem.W.Frag) (A : Ads) : Sp := fun vs H Q _ => ∃ p q : Int, vs = [.int p, .int q] ∧ 0 < q ∧ q.natAbs < 2 ^ 9000 ∧ ∀ x H', Same H H' → NumAt H' x (lowN p q) (lowD p q) → Q x H'
theorem len__law_value {K : PySem.W.Frag} {A : Ads} {vs : List V} {H : Hp} {Q : VK} {E : XK} (h : sp__law_value K A vs H Q E) : vs.length = 2 := by
  obtain ⟨p, q, rfl, _⟩ := h
  rfl
theorem gI_step {l h : Int} (hl : 0 < l) (hh : 0 ≤ h) : gI (h % l) l = gI l h := by
  unfold gI
  obtain ⟨m, rfl⟩ := Int.eq_ofNat_of_zero_le (Int.le_of_lt hl)
  obtain ⟨n, rfl⟩ := Int.eq_ofNat_of_zero_le hh
  have e : ((n : Int) % (m : Int)).natAbs = n % m := by rw [← Int.natCast_emod]; rfl
  rw [e]
  show ((Nat.gcd (n % m) m : Nat) : Int) = ((Nat.gcd m n : Nat) : Int)
  rw [Nat.gcd_rec m n]
theorem pure__law_value {K : PySem.W.Frag} {A : Ads} {vs : List V} {H : Hp} {Q : VK} {E : XK} (h : sp__law_value K A vs H Q E) : t__law_value K A E { nx := fun _ H' => Q .non H', rt := Q } (start n__law_value vs) H := by
  obtain ⟨p, q, rfl, hq, hz, k⟩ := h
  walk_at "v"; walk_at "v"; walk_at "v"
  refine ⟨_, _, rfl, ?_⟩
  refine ⟨fun m σ H' => H' = H ∧ ∃ l h : Int, σ = [some (.int p), some (.int q), some (.int l), some (.int h)] ∧ 0 ≤ l ∧ 0 < h ∧ gI l h = gI p q ∧ m = l.toNat, ⟨_, rfl, _, _, rfl, ?_, hq, ?_, rfl⟩, ?_⟩
  · split <;> omega
  · show gI (if p < 0 then -p else p) q = gI p q
    unfold gI
    split
    · rw [Int.natAbs_neg]
    · rfl
  · rintro m σ H' ⟨rfl, l, h, rfl, h0, h1, hg, rfl⟩
    walk_at "v"; walk_at "ii"; walk_at "v"
    refine iteD (fun h2 => ?_) (fun h2 => ?_)
    · refine ⟨_, fun σ' H' z => z, ?_⟩
      · walk_at "v"; refine Or.inl ⟨_, rfl, ?_⟩; walk_at "v"; refine ⟨_, _, rfl, rfl, h2, ?_⟩; walk_at "v"
        refine ⟨_, _, rfl, ?_⟩
        have b1 := Int.emod_nonneg h (by omega : l ≠ 0)
        have b2 := Int.emod_lt_of_pos h h2
        exact ⟨(h % l).toNat, by omega, rfl, h % l, l, rfl, b1, h2, by rw [gI_step h2 (by omega), hg], rfl⟩
    · have e0 : l = 0 := by omega
      subst e0
      have eh : h = gI p q := by
        rw [← hg]
        unfold gI
        show h = ((Nat.gcd 0 h.natAbs : Nat) : Int)
        rw [Nat.gcd_zero_left]
        omega
      have hs := gI_size (p := p) (q := q) (by omega)
      have hd : CDivW p h := ⟨h1, pow_lt (Nat.lt_of_le_of_lt (by omega) hz) (by decide)⟩
      have hD := lowD_pos (p := p) hq
      walk_at "v"; walk_at "v"; refine ⟨rfl, ?_⟩; walk_at "v"
      refine iteD (fun h3 => ?_) (fun h3 => ?_)
      · have e3 : q = h := V.int.inj h3
        walk_at "v"; walk_at "v"; refine ⟨_, _, rfl, rfl, hd, ?_⟩
        refine k _ _ (Same.refl _) (.inl ⟨by unfold lowN; rw [← eh], ?_⟩)
        unfold lowD
        rw [← eh, e3, Int.ediv_self (by omega)]
      · walk_at "v"; walk_at "v"; refine ⟨_, _, rfl, rfl, hd, ?_⟩
        walk_at "v"; walk_at "v"; refine ⟨_, _, rfl, rfl, hd, ?_⟩
        refine ⟨by show 2 ≤ sizeLine; decide, fun a ha => ?_⟩
        refine k _ _ (Same.new ha) (.inr ⟨a, rfl, ?_, ?_, low_cop (by omega)⟩)
        · refine upd_same.trans ?_
          show some (HO.tup [V.int (p / h), V.int (q / h)]) = _
          rw [eh]; rfl
        · rcases Int.lt_or_le (lowD p q) 2 with z | z
          · exfalso
            apply h3
            have e1 : lowD p q = 1 := by omega
            have e2 := low_r p q
            rw [e1, Int.mul_one] at e2
            rw [eh, e2]
          · exact z
end Md

set_option Elab.async false
set_option linter.all false
set_option maxRecDepth 100000
set_option maxHeartbeats 4000000
set_option exponentiation.threshold 20000
namespace Md
open PySem PySem.Spec PyProof.Rows PySem.Calls L2
local macro_rules | `(tactic| walk_at "v") => `(tactic| refine ⟨_, rfl, ?_⟩)
local macro_rules | `(tactic| walk_at "ii") => `(tactic| refine ⟨_, _, rfl, rfl, ?_⟩)
local macro_rules | `(tactic| walk_at "ixL") => `(tactic| refine Or.inl ⟨_, _, _, _, rfl, rfl, SqL.of (by assumption), rfl, ?_⟩)
local macro_rules | `(tactic| walk_at "ixT") => `(tactic| refine Or.inr (Or.inl ⟨_, _, _, _, rfl, rfl, SqT.of (by assumption), rfl, ?_⟩))

/-! ### _law_number -/
def t__law_number (K : PySem.W.Frag) (A : Ads) (E : XK) : TS :=
    (tSeq (tIfS (tTest (tOp rGt (tCall (sp__law_take K A) [] E0 (tCons (tVar 0) (tCons (tC (.int 3)) tNil))) (tC (.int 0)))) (tRet (tCall (sp__law_value K A) [] E0 (tCons (tOp rSub (tCall (sp__law_take K A) [] E0 (tCons (tVar 0) (tCons (tC (.int 11)) tNil))) (tC (.int 5))) (tCons (tOp rAdd (tC (.int 1)) (tCall (sp__law_take K A) [] E0 (tCons (tVar 0) (tCons (tC (.int 3)) tNil)))) tNil)))) tNext)
    (tRet (tCall (sp__law_value K A) [] E0 (tCons (tOp rSub (tCall (sp__law_take K A) [] E0 (tCons (tVar 0) (tCons (tOp rAdd (tOp rMulW (tC (.int 2)) (tOp rPow (tC (.int 10)) (tC (.int 20)))) (tC (.int 1))) tNil))) (tOp rPow (tC (.int 10)) (tC (.int 20)))) (tCons (tOp rAdd (tC (.int 1)) (tCall (sp__law_take K A) [] E0 (tCons (tVar 0) (tCons (tOp rPow (tC (.int 10)) (tC (.int 9))) tNil)))) tNil)))))
def n__law_number : List Str := ["_law_bag_here"]
def sp__law_number (K : PySem.W.Frag) (A : Ads) : Sp := fun vs H Q _ => ∃ (b : Addr) (n : Nat), vs = [.ref b] ∧ Bag (n + 3) H b ∧ ∀ x p q H', Xb b H H' → Bag n H' b → NumAt H' x p q → p.natAbs ≤ 10 ^ 20 → q.natAbs ≤ 10 ^ 9 → Q x H'
theorem len__law_number {K : PySem.W.Frag} {A : Ads} {vs : List V} {H : Hp} {Q : VK} {E : XK} (h : sp__law_number K A vs H Q E) : vs.length = 1 := by
  obtain ⟨p, q, rfl, _⟩ := h
  rfl
theorem pure__law_number {K : PySem.W.Frag} {A : Ads} {vs : List V} {H : Hp} {Q : VK} {E : XK} (h : sp__law_number K A vs H Q E) : t__law_number K A E { nx := fun _ H' => Q .non H', rt := Q } (start n__law_number vs) H := by
  obtain ⟨b, n, rfl, hb, k⟩ := h
  walk_at "v"
  refine ⟨b, 3, n + 2, rfl, hb, by decide, by decide, fun d H1 d0 d1 x1 hb1 => ?_⟩
  walk_at "ii"; walk_at "v"
  refine iteD (fun h0 => ?_) (fun h0 => ?_)
  · walk_at "v"
    refine ⟨b, 11, n + 1, rfl, hb1, by decide, by decide, fun d2 H2 d3 d4 x2 hb2 => ?_⟩
    walk_at "ii"; walk_at "v"
    refine ⟨b, 3, n, rfl, hb2, by decide, by decide, fun d5 H3 d6 d7 x3 hb3 => ?_⟩
    walk_at "ii"
    refine ⟨d2 - 5, 1 + d5, rfl, by omega, by omega, fun x H4 s4 hn => ?_⟩
    have l1 := lowN_le (d2 - 5) (1 + d5) (by omega)
    have l2 := lowD_le (d2 - 5) (1 + d5) (by omega)
    exact k x _ _ H4 ((x1.trans x2).trans (x3.trans (Xb.of s4))) (hb3.same s4) hn (by omega) (by omega)
  · walk_at "v"; refine ⟨_, _, rfl, rfl, ⟨by decide, by decide, by decide⟩, ?_⟩
    refine ⟨_, _, rfl, rfl, wide_mul (a := 8) (b := 128) (by decide) (by decide) (by decide) (by decide) (by decide), ?_⟩
    walk_at "ii"
    refine ⟨b, _, n + 1, rfl, hb1, by decide, by decide, fun d2 H2 d3 d4 x2 hb2 => ?_⟩
    refine ⟨_, _, rfl, rfl, ⟨by decide, by decide, by decide⟩, ?_⟩
    walk_at "ii"; walk_at "v"
    refine ⟨_, _, rfl, rfl, ⟨by decide, by decide, by decide⟩, ?_⟩
    refine ⟨b, _, n, rfl, hb2, by decide, by decide, fun d5 H3 d6 d7 x3 hb3 => ?_⟩
    walk_at "ii"
    have e1 : (10 : Int) ^ (20 : Int).toNat = 100000000000000000000 := by decide
    have e2 : (10 : Int) ^ (9 : Int).toNat = 1000000000 := by decide
    rw [e1] at d4
    rw [e2] at d7
    refine ⟨d2 - 10 ^ (20 : Int).toNat, 1 + d5, rfl, by omega, by omega, fun x H4 s4 hn => ?_⟩
    rw [e1] at hn
    have l1 := lowN_le (d2 - 100000000000000000000) (1 + d5) (by omega)
    have l2 := lowD_le (d2 - 100000000000000000000) (1 + d5) (by omega)
    refine k x _ _ H4 ((x1.trans x2).trans (x3.trans (Xb.of s4))) (hb3.same s4) hn ?_ ?_
    · have : (10 : Nat) ^ 20 = 100000000000000000000 := by decide
      omega
    · have : (10 : Nat) ^ 9 = 1000000000 := by decide
      omega
/-! ### _law_pair, _law_order -/
def t__law_pair (K : PySem.W.Frag) (A : Ads) (E : XK) : TS :=
    (tRet (tIf (tB (tCB (rIsi K) (tCons (tVar 0) (tCons (tC (.ty "tuple")) tNil)))) (tVar 0) (tTup (tCons (tVar 0) (tCons (tC (.int 1)) tNil)))))
def n__law_pair : List Str := ["_law_value_here"]
def sp__law_pair (K : PySem.W.Frag) (A : Ads) : Sp := sp__over K A
theorem len__law_pair {K : PySem.W.Frag} {A : Ads} {vs : List V} {H : Hp} {Q : VK} {E : XK} (h : sp__law_pair K A vs H Q E) : vs.length = 1 := len__over h
theorem pure__law_pair {K : PySem.W.Frag} {A : Ads} {vs : List V} {H : Hp} {Q : VK} {E : XK} (h : sp__law_pair K A vs H Q E) : t__law_pair K A E { nx := fun _ H' => Q .non H', rt := Q } (start n__law_pair vs) H := by
  obtain ⟨x, p, q, rfl, hn, k⟩ := h
  rcases hn with ⟨rfl, rfl⟩ | ⟨a, rfl, ha, h2, hc⟩
  · walk_at "v"
    refine ⟨_, _, _, _, _, rfl, .ty _, ty_int, kit_ty (by decide +kernel : kitB "int" "tuple" = some false), ?_⟩
    walk_at "v"
    refine iteF ?_
    walk_at "v"
    refine ⟨by show 2 ≤ sizeLine; decide, fun t ht => ?_⟩
    exact k _ _ (Same.new ht) ⟨t, rfl, upd_same⟩
  · walk_at "v"
    refine ⟨_, _, _, _, _, rfl, .ty _, ty_tup ha, kit_ty (by decide +kernel : kitB "tuple" "tuple" = some true), ?_⟩
    walk_at "v"
    refine iteT ?_
    walk_at "v"
    exact k _ _ (Same.refl H) ⟨a, rfl, ha⟩
def t__law_order (K : PySem.W.Frag) (A : Ads) (E : XK) : TS :=
    (tSeq (tPar 2 3 (tCons (tCall (sp__law_pair K A) [] E0 (tCons (tVar 0) tNil)) (tCons (tCall (sp__law_pair K A) [] E0 (tCons (tVar 1) tNil)) tNil)))
    (tRet (tOp rSub (tOp rMulW (tOp (rIx K) (tVar 2) (tC (.int 0))) (tOp (rIx K) (tVar 3) (tC (.int 1)))) (tOp rMulW (tOp (rIx K) (tVar 3) (tC (.int 0))) (tOp (rIx K) (tVar 2) (tC (.int 1)))))))
def n__law_order : List Str := ["_law_one", "_law_other", "_law_left", "_law_right"]
def sp__law_order (K : PySem.W.Frag) (A : Ads) : Sp := fun vs H Q _ => ∃ (x y : V) (p q p' q' : Int), vs = [x, y] ∧ NumAt H x p q ∧ NumAt H y p' q' ∧ (p.natAbs < 2 ^ 9000 ∧ q.natAbs < 2 ^ 9000 ∧ p'.natAbs < 2 ^ 9000 ∧ q'.natAbs < 2 ^ 9000) ∧
  ∀ H', Same H H' → Q (.int (p * q' - p' * q)) H'
theorem len__law_order {K : PySem.W.Frag} {A : Ads} {vs : List V} {H : Hp} {Q : VK} {E : XK} (h : sp__law_order K A vs H Q E) : vs.length = 2 := by
  obtain ⟨x, y, p, q, p', q', rfl, _⟩ := h
  rfl
theorem pure__law_order {K : PySem.W.Frag} {A : Ads} {vs : List V} {H : Hp} {Q : VK} {E : XK} (h : sp__law_order K A vs H Q E) : t__law_order K A E { nx := fun _ H' => Q .non H', rt := Q } (start n__law_order vs) H := by
  obtain ⟨x, y, p, q, p', q', rfl, h1, h2, ⟨z1, z2, z3, z4⟩, k⟩ := h
  walk_at "v"
  refine ⟨_, _, _, rfl, h1, fun u H1 s1 hu => ?_⟩
  obtain ⟨a, rfl, ha⟩ := hu
  walk_at "v"
  refine ⟨_, _, _, rfl, h2.same s1, fun u2 H2 s2 hu2 => ?_⟩
  obtain ⟨a2, rfl, ha2⟩ := hu2
  have ha1 := s2 _ _ ha
  refine ⟨_, _, rfl, ?_⟩
  walk_at "v"; walk_at "ixT"; walk_at "v"; walk_at "ixT"; refine ⟨_, _, rfl, rfl, mulW0 z1 z4, ?_⟩
  walk_at "v"; walk_at "ixT"; walk_at "v"; walk_at "ixT"; refine ⟨_, _, rfl, rfl, mulW0 z3 z2, ?_⟩
  walk_at "ii"
  exact k H2 (Same.trans s1 s2)
/-! ### _law_same, _law_is_lowest -/
theorem dp_pair {K : PySem.W.Frag} {H : Hp} {a : Addr} {p q : Int} (h : H a = some (.tup [.int p, .int q])) : Dp K H (.ref a) (.tuple [.int p, .int q]) := .tup (SqT.of h) (.cons (.int p) (.cons (.int q) .nil))
theorem shaped_int (p : Int) : SeqAt.shaped (.int p) = true := rfl
theorem shaped_pair (p q : Int) : SeqAt.shaped (.tuple [.int p, .int q]) = true := by
  unfold SeqAt.shaped
  simp [PyData.canLay0, PyData.canLayAll0, PyData.depth, PyData.depthAll]
theorem NumAt.eqD {K : PySem.W.Frag} {H : Hp} {x y : V} {p q : Int} {Q : VK} (h1 : NumAt H x p q) (h2 : NumAt H y p q) (k : Q (.bl true) H) : rEqD K x y H Q := by
  rcases h1 with ⟨rfl, rfl⟩ | ⟨a, rfl, ha, h3, _⟩
  · rcases h2 with ⟨rfl, _⟩ | ⟨b, rfl, hb, h4, _⟩
    · refine ⟨_, _, .int p, .int p, shaped_int p, shaped_int p, ?_⟩
      have e : PyData.eqv (.int p) (.int p) = true := by simp [PyData.eqv]
      rw [e]; exact k
    · omega
  · rcases h2 with ⟨rfl, h4⟩ | ⟨b, rfl, hb, h4, _⟩
    · omega
    · refine ⟨_, _, dp_pair ha, dp_pair hb, shaped_pair p q, shaped_pair p q, ?_⟩
      have e : PyData.eqv (.tuple [.int p, .int q]) (.tuple [.int p, .int q]) = true := by simp [PyData.eqv, PyData.eqvAll]
      rw [e]; exact k
def t__law_same (K : PySem.W.Frag) (A : Ads) (E : XK) : TS :=
    (tSeq (tIfS (tNot (tB (tCB (rIsi K) (tCons (tVar 1) (tCons (tC (.ty "tuple")) tNil))))) (tRet (tAndV (tCall (sp__law_is_int K A) [] E0 (tCons (tVar 0) tNil)) (tOp (rEqD K) (tVar 0) (tVar 1)))) tNext)
    (tSeq (tIfS (tOr (tNot (tB (tCB (rIsi K) (tCons (tVar 0) (tCons (tC (.ty "tuple")) tNil))))) (tTest (tOp rNe (tCB (rLen K) (tCons (tVar 0) tNil)) (tC (.int 2))))) (tRet (tC (.bl false))) tNext)
    (tRet (tAndV (tCall (sp__law_is_int K A) [] E0 (tCons (tOp (rIx K) (tVar 0) (tC (.int 0))) tNil)) (tAndV (tCall (sp__law_is_int K A) [] E0 (tCons (tOp (rIx K) (tVar 0) (tC (.int 1))) tNil)) (tOp (rEqD K) (tVar 0) (tVar 1)))))))
def n__law_same : List Str := ["_law_actual", "_law_due"]
def sp__law_same (K : PySem.W.Frag) (A : Ads) : Sp := fun vs H Q _ => ∃ (x y : V) (p q : Int), vs = [x, y] ∧ NumAt H x p q ∧ NumAt H y p q ∧ ∀ H', Same H H' → Q (.bl true) H'
theorem len__law_same {K : PySem.W.Frag} {A : Ads} {vs : List V} {H : Hp} {Q : VK} {E : XK} (h : sp__law_same K A vs H Q E) : vs.length = 2 := by
  obtain ⟨x, y, p, q, rfl, _⟩ := h
  rfl
theorem pure__law_same {K : PySem.W.Frag} {A : Ads} {vs : List V} {H : Hp} {Q : VK} {E : XK} (h : sp__law_same K A vs H Q E) : t__law_same K A E { nx := fun _ H' => Q .non H', rt := Q } (start n__law_same vs) H := by
  obtain ⟨x, y, p, q, rfl, h1, h2, k⟩ := h
  have kk := k H (Same.refl H)
  have ee := fun {Q : VK} => NumAt.eqD (K := K) (Q := Q) h1 h2
  rcases h1 with ⟨rfl, rfl⟩ | ⟨a, rfl, ha, h3, _⟩
  · rcases h2 with ⟨rfl, _⟩ | ⟨b, rfl, hb, h4, _⟩
    · walk_at "v"
      refine ⟨_, _, _, _, _, rfl, .ty _, ty_int, kit_ty (by decide +kernel : kitB "int" "tuple" = some false), ?_⟩
      walk_at "v"
      show (if (!false) = true then _ else _)
      refine iteT ?_
      walk_at "v"
      refine ⟨_, _, rfl, ty_int, ⟨_, rfl, ?_⟩⟩
      refine iteT ?_
      walk_at "v"; walk_at "v"
      exact ee kk
    · omega
  · rcases h2 with ⟨rfl, h4⟩ | ⟨b, rfl, hb, h4, _⟩
    · omega
    · walk_at "v"
      refine ⟨_, _, _, _, _, rfl, .ty _, ty_tup hb, kit_ty (by decide +kernel : kitB "tuple" "tuple" = some true), ?_⟩
      walk_at "v"
      show (if (!true) = true then _ else _)
      refine iteF ?_
      walk_at "v"
      refine ⟨_, _, _, _, _, rfl, .ty _, ty_tup ha, kit_ty (by decide +kernel : kitB "tuple" "tuple" = some true), ?_⟩
      walk_at "v"
      show (if (!true) = true then _ else _)
      refine iteF ?_
      walk_at "v"
      refine ⟨_, _, rfl, .inr ⟨_, SqT.of ha, rfl⟩, ?_⟩
      refine ⟨rfl, ?_⟩
      walk_at "v"
      show (if (!decide (V.int 2 = V.int 2)) = true then _ else _)
      refine iteF ?_
      walk_at "v"; walk_at "ixT"
      refine ⟨_, _, rfl, ty_int, ⟨_, rfl, ?_⟩⟩
      refine iteT ?_
      walk_at "v"; walk_at "ixT"
      refine ⟨_, _, rfl, ty_int, ⟨_, rfl, ?_⟩⟩
      refine iteT ?_
      walk_at "v"; walk_at "v"
      exact ee kk
def t__law_is_lowest (K : PySem.W.Frag) (A : Ads) (E : XK) : TS :=
    (tSeq (tIfS (tB (tCall (sp__law_is_int K A) [] E0 (tCons (tVar 0) tNil))) (tRet (tC (.bl true))) tNext)
    (tSeq (tIfS (tOr (tNot (tB (tCB (rIsi K) (tCons (tVar 0) (tCons (tC (.ty "tuple")) tNil))))) (tOr (tTest (tOp rNe (tCB (rLen K) (tCons (tVar 0) tNil)) (tC (.int 2)))) (tOr (tNot (tB (tCall (sp__law_is_int K A) [] E0 (tCons (tOp (rIx K) (tVar 0) (tC (.int 0))) tNil)))) (tNot (tB (tCall (sp__law_is_int K A) [] E0 (tCons (tOp (rIx K) (tVar 0) (tC (.int 1))) tNil))))))) (tRet (tC (.bl false))) tNext)
    (tRet (tAndV (tOp rGt (tOp (rIx K) (tVar 0) (tC (.int 1))) (tC (.int 1))) (tOp (rEqD K) (tCall (sp__law_value K A) [] E0 (tCons (tOp (rIx K) (tVar 0) (tC (.int 0))) (tCons (tOp (rIx K) (tVar 0) (tC (.int 1))) tNil))) (tVar 0))))))
def n__law_is_lowest : List Str := ["_law_value_here"]
def sp__law_is_lowest (K : PySem.W.Frag) (A : Ads) : Sp := fun vs H Q _ => ∃ (x : V) (p q : Int), vs = [x] ∧ NumAt H x p q ∧ q.natAbs < 2 ^ 9000 ∧ ∀ H', Same H H' → Q (.bl true) H'
theorem len__law_is_lowest {K : PySem.W.Frag} {A : Ads} {vs : List V} {H : Hp} {Q : VK} {E : XK} (h : sp__law_is_lowest K A vs H Q E) : vs.length = 1 := by
  obtain ⟨x, p, q, rfl, _⟩ := h
  rfl
theorem pure__law_is_lowest {K : PySem.W.Frag} {A : Ads} {vs : List V} {H : Hp} {Q : VK} {E : XK} (h : sp__law_is_lowest K A vs H Q E) : t__law_is_lowest K A E { nx := fun _ H' => Q .non H', rt := Q } (start n__law_is_lowest vs) H := by
  obtain ⟨x, p, q, rfl, h1, hz, k⟩ := h
  have h0 := h1
  rcases h1 with ⟨rfl, rfl⟩ | ⟨a, rfl, ha, h3, hc⟩
  · walk_at "v"
    refine ⟨_, _, rfl, ty_int, ⟨_, rfl, ?_⟩⟩
    refine iteT ?_
    exact k H (Same.refl H)
  · walk_at "v"
    refine ⟨_, _, rfl, ty_tup ha, ⟨_, rfl, ?_⟩⟩
    refine iteF ?_
    walk_at "v"
    refine ⟨_, _, _, _, _, rfl, .ty _, ty_tup ha, kit_ty (by decide +kernel : kitB "tuple" "tuple" = some true), ?_⟩
    walk_at "v"
    show (if (!true) = true then _ else _)
    refine iteF ?_
    walk_at "v"
    refine ⟨_, _, rfl, .inr ⟨_, SqT.of ha, rfl⟩, ?_⟩
    refine ⟨rfl, ?_⟩
    walk_at "v"
    show (if (!decide (V.int 2 = V.int 2)) = true then _ else _)
    refine iteF ?_
    walk_at "v"; walk_at "ixT"
    refine ⟨_, _, rfl, ty_int, ⟨_, rfl, ?_⟩⟩
    show (if (!true) = true then _ else _)
    refine iteF ?_
    walk_at "v"; walk_at "ixT"
    refine ⟨_, _, rfl, ty_int, ⟨_, rfl, ?_⟩⟩
    show (if (!true) = true then _ else _)
    refine iteF ?_
    walk_at "v"; walk_at "ixT"; walk_at "ii"; walk_at "v"
    refine iteD (fun h5 => ?_) (fun h5 => absurd (by omega) h5)
    walk_at "v"; walk_at "ixT"; walk_at "v"; walk_at "ixT"
    obtain ⟨e1, e2⟩ := low_of_cop hc (by omega)
    refine ⟨p, q, rfl, by omega, hz, fun y H1 s1 hy => ?_⟩
    walk_at "v"
    rw [e1, e2] at hy
    exact NumAt.eqD hy (h0.same s1) (k H1 s1)
end Md

set_option Elab.async false
set_option linter.all false
set_option maxRecDepth 100000
set_option maxHeartbeats 4000000
set_option exponentiation.threshold 20000
namespace Md
open PySem PySem.Spec PyProof.Rows PySem.Calls L2
local macro_rules | `(tactic| walk_at "v") => `(tactic| refine ⟨_, rfl, ?_⟩)
local macro_rules | `(tactic| walk_at "fls") => `(tactic| (refine ⟨_, rfl, ?_⟩; show (if (!true) = true then _ else _); refine iteF ?_))
local macro_rules | `(tactic| walk_at "isnt") => `(tactic| (refine ⟨_, _, rfl, rfl, _, rfl, ?_⟩; refine iteN (fun _ => ?_) fun h => absurd rfl h))
local macro_rules | `(tactic| walk_at "ii") => `(tactic| refine ⟨_, _, rfl, rfl, ?_⟩)
local macro_rules | `(tactic| walk_at "ixL") => `(tactic| refine Or.inl ⟨_, _, _, _, rfl, rfl, SqL.of (by assumption), rfl, ?_⟩)
local macro_rules | `(tactic| walk_at "ixT") => `(tactic| refine Or.inr (Or.inl ⟨_, _, _, _, rfl, rfl, SqT.of (by assumption), rfl, ?_⟩))
/-! ### is_number -/
def pairB : V → V → Bool
  | .int p, .int q => decide (2 ≤ q) && decide (Nat.gcd p.natAbs q.natAbs = 1)
  | _, _ => false
def NumB (K : PySem.W.Frag) (H : Hp) (x : V) (r : Bool) : Prop := (∃ T, TyX K H x (.type T) ∧ T ≠ "tuple" ∧ r = isIntV x) ∨ (∃ a xs, x = .ref a ∧ H a = some (.tup xs) ∧ xs.length ≠ 2 ∧ r = false) ∨
  (∃ a u v T1 T2, x = .ref a ∧ H a = some (.tup [u, v]) ∧ TyX K H u (.type T1) ∧ TyX K H v (.type T2) ∧ r = pairB u v)
theorem kit_tup {K : PySem.W.Frag} {H : Hp} {x : V} {T : String} (ty : TyX K H x (.type T)) (hn : T ≠ "tuple") : kitB T "tuple" = some false := by
  cases ty with
  | base b => cases b <;> first | (exact absurd rfl hn) | decide +kernel
  | _ => first | (exact absurd rfl hn) | decide +kernel
theorem NumB.same {K : PySem.W.Frag} {H H' : Hp} {x : V} {r : Bool} (h : NumB K H x r) (s : Same H H') (ht : ∀ y T, TyX K H y (.type T) → TyX K H' y (.type T)) : NumB K H' x r := by
  rcases h with ⟨T, h1, h2⟩ | ⟨a, xs, e, ha, h⟩ | ⟨a, u, v, T1, T2, e, ha, h1, h2, h3⟩
  · exact .inl ⟨T, ht _ _ h1, h2⟩
  · exact .inr (.inl ⟨a, xs, e, s _ _ ha, h⟩)
  · exact .inr (.inr ⟨a, u, v, T1, T2, e, s _ _ ha, ht _ _ h1, ht _ _ h2, h3⟩)
theorem tyX_same {K : PySem.W.Frag} {H H' : Hp} {x : V} {T : String} (s : Same H H') (h : TyX K H x (.type T)) : TyX K H' x (.type T) := by
  cases h with
  | base b =>
    refine .base ?_
    cases b with
    | non => exact .non
    | bl b => exact .bl b
    | int b => exact .int b
    | str b => exact .str b
    | flt b => exact .flt b
    | lst e => exact .lst (s _ _ e)
    | frz e => exact .frz (s _ _ e)
    | tup e => exact .tup (s _ _ e)
    | dK e => exact .dK (s _ _ e)
    | dT e => exact .dT (s _ _ e)
  | byt b => exact .byt b
  | set e => exact .set (s _ _ e)
  | kList e c => exact .kList e c
  | kTuple e c => exact .kTuple e c
  | kDict e c => exact .kDict e c
  | fTuple e => exact .fTuple (s _ _ e)
  | fDict e => exact .fDict (s _ _ e)
theorem NumB.mono {K : PySem.W.Frag} {H H' : Hp} {x : V} {r : Bool} (h : NumB K H x r) (s : Same H H') : NumB K H' x r := h.same s fun _ _ t => tyX_same s t
def t_is_number (K : PySem.W.Frag) (A : Ads) (E : XK) : TS :=
    (tSeq (tIfS (tB (tCall (sp_is_whole K A) [] E0 (tCons (tVar 0) tNil))) (tRet (tC (.bl true))) tNext)
    (tSeq (tIfS (tOr (tNot (tB (tCB (rIsi K) (tCons (tVar 0) (tCons (tC (.ty "tuple")) tNil))))) (tTest (tOp rNe (tCB (rLen K) (tCons (tVar 0) tNil)) (tC (.int 2))))) (tRet (tC (.bl false))) tNext)
    (tSeq (tAsg (tVar 0) (gTup K 2 (gCons (gName 1) (gCons (gName 2) gNil))))
    (tRet (tAndV (tCall (sp_is_whole K A) [] E0 (tCons (tVar 1) tNil)) (tAndV (tCall (sp_is_whole K A) [] E0 (tCons (tVar 2) tNil)) (tAndV (tOp rGe (tVar 2) (tC (.int 2))) (tOp rEq (tCB rGcd (tCons (tVar 1) (tCons (tVar 2) tNil))) (tC (.int 1))))))))))
def n_is_number : List Str := ["thing", "top", "bottom"]
def sp_is_number (K : PySem.W.Frag) (A : Ads) : Sp := fun vs H Q _ => ∃ (x : V) (r : Bool), vs = [x] ∧ NumB K H x r ∧ Q (.bl r) H
theorem len_is_number {K : PySem.W.Frag} {A : Ads} {vs : List V} {H : Hp} {Q : VK} {E : XK} (h : sp_is_number K A vs H Q E) : vs.length = 1 := by
  obtain ⟨x, T, rfl, _⟩ := h
  rfl
theorem pure_is_number {K : PySem.W.Frag} {A : Ads} {vs : List V} {H : Hp} {Q : VK} {E : XK} (h : sp_is_number K A vs H Q E) : t_is_number K A E { nx := fun _ H' => Q .non H', rt := Q } (start n_is_number vs) H := by
  obtain ⟨x, r, rfl, hn, k⟩ := h
  rcases hn with ⟨T, ty, hT, rfl⟩ | ⟨a, xs, rfl, ha, hl, rfl⟩ | ⟨a, u, v, T1, T2, rfl, ha, t1, t2, rfl⟩
  · walk_at "v"
    refine ⟨_, _, rfl, ty, ⟨_, rfl, ?_⟩⟩
    refine iteB (fun h1 => ?_) (fun h1 => ?_)
    · rw [h1] at k
      exact k
    · walk_at "v"
      refine ⟨_, _, _, _, _, rfl, .ty _, ty, kit_ty (kit_tup ty hT), ?_⟩
      walk_at "v"
      show (if (!false) = true then _ else _)
      refine iteT ?_
      refine iteT ?_
      rw [h1] at k
      exact k
  · walk_at "v"
    refine ⟨_, _, rfl, ty_tup ha, ⟨_, rfl, ?_⟩⟩
    refine iteF ?_
    walk_at "v"
    refine ⟨_, _, _, _, _, rfl, .ty _, ty_tup ha, kit_ty (by decide +kernel : kitB "tuple" "tuple" = some true), ?_⟩
    walk_at "v"
    show (if (!true) = true then _ else _)
    refine iteF ?_
    walk_at "v"
    refine ⟨_, _, rfl, .inr ⟨_, SqT.of ha, rfl⟩, ?_⟩
    refine ⟨rfl, ?_⟩
    walk_at "v"
    refine iteN (fun h1 => ?_) (fun h1 => k)
    exact absurd (by have := V.int.inj h1; omega) hl
  · walk_at "v"
    refine ⟨_, _, rfl, ty_tup ha, ⟨_, rfl, ?_⟩⟩
    refine iteF ?_
    walk_at "v"
    refine ⟨_, _, _, _, _, rfl, .ty _, ty_tup ha, kit_ty (by decide +kernel : kitB "tuple" "tuple" = some true), ?_⟩
    walk_at "v"
    show (if (!true) = true then _ else _)
    refine iteF ?_
    walk_at "v"
    refine ⟨_, _, rfl, .inr ⟨_, SqT.of ha, rfl⟩, ?_⟩
    refine ⟨rfl, ?_⟩
    walk_at "v"
    refine iteN (fun _ => ?_) (fun h1 => absurd rfl h1)
    walk_at "v"
    refine ⟨a, _, rfl, SqT.of ha, rfl, _, _, rfl, _, _, rfl, rfl, ?_⟩
    walk_at "v"
    refine ⟨_, _, rfl, t1, ⟨_, rfl, ?_⟩⟩
    cases u with
    | int p =>
      refine iteT ?_
      walk_at "v"
      refine ⟨_, _, rfl, t2, ⟨_, rfl, ?_⟩⟩
      cases v with
      | int q =>
        refine iteT ?_
        walk_at "v"; walk_at "ii"; walk_at "v"
        refine iteD (fun h2 => ?_) (fun h2 => ?_)
        · walk_at "v"; walk_at "v"; refine ⟨_, _, rfl, ?_⟩; refine ⟨rfl, ?_⟩
          have e : decide (V.int ((Nat.gcd p.natAbs q.natAbs : Nat) : Int) = V.int 1) = pairB (.int p) (.int q) := by
            show _ = (decide (2 ≤ q) && decide (Nat.gcd p.natAbs q.natAbs = 1))
            rw [decide_eq_true h2, Bool.true_and]
            congr 1
            apply propext
            constructor
            · intro h; have := V.int.inj h; omega
            · intro h; rw [h]; rfl
          show Q (.bl (decide (V.int ((Nat.gcd p.natAbs q.natAbs : Nat) : Int) = V.int 1))) H
          rw [e]
          exact k
        · have e : pairB (.int p) (.int q) = false := by
            show (decide (2 ≤ q) && decide (Nat.gcd p.natAbs q.natAbs = 1)) = false
            rw [decide_eq_false (by omega)]
            rfl
          rw [e] at k
          exact k
      | _ => exact iteF k
    | _ => exact iteF k
/-! ### _law_of -/
def t__law_of (K : PySem.W.Frag) (A : Ads) (E : XK) : TS :=
    (tRet (tOp (rIx K) (tVar 1) (tCall (sp__law_take K A) [] E0 (tCons (tVar 0) (tCons (tCB (rLen K) (tCons (tVar 1) tNil)) tNil)))))
def n__law_of : List Str := ["_law_bag_here", "_law_some"]
def sp__law_of (K : PySem.W.Frag) (A : Ads) : Sp := fun vs H Q _ => ∃ (b : Addr) (n : Nat), Bag (n + 1) H b ∧
  ((∃ (l : Addr) (xs : List V), vs = [.ref b, .ref l] ∧ H l = some (.lst xs) ∧ l ≠ b ∧ 0 < xs.length ∧ xs.length ≤ 1000000 ∧ ∀ (i : Nat) x H', xs[i]? = some x → Xb b H H' → Bag n H' b → Q x H') ∨
   (∃ z : Str, vs = [.ref b, .str z] ∧ 0 < z.length ∧ z.length ≤ 1000000 ∧ ∀ c H', c ∈ z.cps.toList → Xb b H H' → Bag n H' b → Q (.str ⟨#[c]⟩) H'))
theorem len__law_of {K : PySem.W.Frag} {A : Ads} {vs : List V} {H : Hp} {Q : VK} {E : XK} (h : sp__law_of K A vs H Q E) : vs.length = 2 := by
  obtain ⟨b, n, _, h⟩ := h
  rcases h with ⟨l, xs, rfl, _⟩ | ⟨z, rfl, _⟩ <;> rfl
theorem atI_of {α : Type} {xs : List α} {d : Int} (h0 : 0 ≤ d) (h1 : d < xs.length) : ∃ x, atI xs d = some x ∧ xs[d.toNat]? = some x := by
  have h2 : d.toNat < xs.length := by omega
  refine ⟨xs[d.toNat], ?_, List.getElem?_eq_getElem h2⟩
  unfold atI ixN
  rw [if_pos h0, if_pos h1]
  exact List.getElem?_eq_getElem h2
theorem size_1e6 {n : Nat} (h : n ≤ 1000000) : n ≤ sizeLine := Nat.le_trans h (by decide)
theorem len_bits {n : Nat} (h : n ≤ 1000000) : ((n : Int)).natAbs < 2 ^ 9000 := Nat.lt_of_le_of_lt (show ((n : Int)).natAbs ≤ 1000000 by omega) (Nat.lt_of_lt_of_le (by decide : 1000000 < 2 ^ 20) (Nat.pow_le_pow_right (by decide) (by decide)))
theorem pure__law_of {K : PySem.W.Frag} {A : Ads} {vs : List V} {H : Hp} {Q : VK} {E : XK} (h : sp__law_of K A vs H Q E) : t__law_of K A E { nx := fun _ H' => Q .non H', rt := Q } (start n__law_of vs) H := by
  obtain ⟨b, n, hB, h⟩ := h
  rcases h with ⟨l, xs, rfl, hl, hn, h0, h1, k⟩ | ⟨z, rfl, h0, h1, k⟩
  · walk_at "v"; walk_at "v"; walk_at "v"
    refine ⟨_, _, rfl, .inl ⟨_, SqL.of hl, rfl⟩, ?_⟩
    refine ⟨b, _, n, rfl, hB, by omega, len_bits h1, fun d H1 d0 d1 x1 hB1 => ?_⟩
    obtain ⟨x, e1, e2⟩ := atI_of d0 d1
    refine Or.inl ⟨l, xs, d, x, rfl, rfl, SqL.of (x1 _ _ hn hl), e1, k _ x H1 e2 x1 hB1⟩
  · walk_at "v"; walk_at "v"; walk_at "v"
    refine ⟨.str z, _, rfl, ⟨size_1e6 h1, rfl⟩, ?_⟩
    refine ⟨b, _, n, rfl, hB, by omega, len_bits h1, fun d H1 d0 d1 x1 hB1 => ?_⟩
    have ez : z.length = z.cps.toList.length := by simp [Str.length]
    obtain ⟨x, e1, e2⟩ := atI_of (xs := z.cps.toList) d0 (by rw [← ez]; exact d1)
    refine Or.inr (Or.inr ⟨z, d, x, rfl, rfl, size_1e6 h1, e1, k x H1 (List.mem_of_getElem? e2) x1 hB1⟩)
theorem Same.sqL {K : PySem.W.Frag} {H H' : Hp} {a : Addr} {xs : List V} (e : Same H H') (h : SqL K H a xs) : SqL K H' a xs := Evl.ex_l e h
theorem SqL.xbN {K : PySem.W.Frag} {H H1 H2 : Hp} {a b : Addr} {xs : List V} (h : SqL K H a xs) (hb : H b = none) (s : Same H H1) (x : Xb b H1 H2) : SqL K H2 a xs := by
  rcases h with (h | ⟨o, h⟩) | h
  · exact .inl (.inl (x _ _ (ne_of_none h hb) (s _ _ h)))
  · exact .inl (.inr ⟨o, x _ _ (ne_of_none h hb) (s _ _ h)⟩)
  · exact .inr h
/-- the script, away from the draws' list -/
def ScrAt (K : PySem.W.Frag) (H : Hp) (a b : Addr) (xs : List V) : Prop := ∃ H0 H1, SqL K H0 a xs ∧ H0 b = none ∧ Same H0 H1 ∧ Xb b H1 H
theorem ScrAt.seq {K : PySem.W.Frag} {H : Hp} {a b : Addr} {xs : List V} (h : ScrAt K H a b xs) : SqL K H a xs := by
  obtain ⟨H0, H1, h1, h2, h3, h4⟩ := h
  exact SqL.xbN h1 h2 h3 h4
theorem ScrAt.xb {K : PySem.W.Frag} {H H' : Hp} {a b : Addr} {xs : List V} (h : ScrAt K H a b xs) (x : Xb b H H') : ScrAt K H' a b xs := by
  obtain ⟨H0, H1, h1, h2, h3, h4⟩ := h
  exact ⟨H0, H1, h1, h2, h3, h4.trans x⟩
end Md

set_option Elab.async false
set_option linter.all false
set_option maxRecDepth 100000
set_option maxHeartbeats 4000000
namespace Md
open PySem PySem.Spec PyProof.Rows PySem.Calls L2
local macro_rules | `(tactic| walk_at "v") => `(tactic| refine ⟨_, rfl, ?_⟩)
local macro_rules | `(tactic| walk_at "ii") => `(tactic| refine ⟨_, _, rfl, rfl, ?_⟩)
/-! ### words -/
def isL (c : Nat) : Bool := decide (c ∈ (Str.ofString "abcdefghijklmnopqrstuvwxyz").cps.toList)
def isWord (z : Str) : Bool := (decide (1 ≤ z.length) && decide (z.length ≤ 8)) && z.cps.toList.all isL
def WordB (K : PySem.W.Frag) (H : Hp) (x : V) (w : Bool) : Prop := (∃ T, TyX K H x (.type T) ∧ T ≠ "str" ∧ w = false) ∨ ∃ z : Str, x = .str z ∧ z.length ≤ 1000000 ∧ w = isWord z
theorem kit_str {K : PySem.W.Frag} {H : Hp} {x : V} {T : String} (ty : TyX K H x (.type T)) (hn : T ≠ "str") : kitB T "str" = some false := by
  cases ty with
  | base b => cases b <;> first | exact absurd rfl hn | decide +kernel
  | _ => first | exact absurd rfl hn | decide +kernel
def t_is_word (K : PySem.W.Frag) (A : Ads) (E : XK) : TS :=
    (tSeq (tIfS (tOr (tNot (tB (tCB (rIsi K) (tCons (tVar 0) (tCons (tC (.ty "str")) tNil))))) (tNot (tTest (tChain rLe rLe (tC (.int 1)) (tCB (rLen K) (tCons (tVar 0) tNil)) (tC (.int 8)))))) (tRet (tC (.bl false))) tNext)
    (tRet (tCB (rAll K) (tCons (tLc (iStr (tVar 0)) (gName 1) tYes (tOp rInS (tVar 1) (tC (.str "abcdefghijklmnopqrstuvwxyz"))) [1]) tNil))))
def n_is_word : List Str := ["thing", "letter"]
def sp_is_word (K : PySem.W.Frag) (A : Ads) : Sp := fun vs H Q _ => ∃ (x : V) (w : Bool), vs = [x] ∧ WordB K H x w ∧ ∀ H', Same H H' → Q (.bl w) H'
theorem len_is_word {K : PySem.W.Frag} {A : Ads} {vs : List V} {H : Hp} {Q : VK} {E : XK} (h : sp_is_word K A vs H Q E) : vs.length = 1 := by
  obtain ⟨x, w, rfl, _⟩ := h
  rfl
theorem pure_is_word {K : PySem.W.Frag} {A : Ads} {vs : List V} {H : Hp} {Q : VK} {E : XK} (h : sp_is_word K A vs H Q E) : t_is_word K A E { nx := fun _ H' => Q .non H', rt := Q } (start n_is_word vs) H := by
  obtain ⟨x, w, rfl, hw, k⟩ := h
  rcases hw with ⟨T, ty, hn, rfl⟩ | ⟨z, rfl, hz, rfl⟩
  · walk_at "v"
    refine ⟨_, _, _, _, _, rfl, .ty _, ty, kit_ty (kit_str ty hn), ?_⟩
    walk_at "v"
    show (if (!false) = true then _ else _)
    refine iteT ?_
    show (if true = true then _ else _)
    refine iteT ?_
    exact k H (Same.refl H)
  · have hz2 : z.length ≤ sizeLine := Nat.le_trans hz (by decide)
    walk_at "v"
    refine ⟨_, _, _, _, _, rfl, .ty _, .base (.str z), kit_ty (by decide +kernel : kitB "str" "str" = some true), ?_⟩
    walk_at "v"
    show (if (!true) = true then _ else _)
    refine iteF ?_
    walk_at "v"
    refine ⟨_, _, rfl, ⟨hz2, rfl⟩, ?_⟩
    refine ⟨_, _, rfl, rfl, ?_⟩
    refine ⟨_, rfl, ?_⟩
    refine iteD (fun h1 => ?_) (fun h1 => ?_)
    · walk_at "ii"
      refine ⟨_, rfl, ?_⟩
      refine iteN (fun h2 => ?_) (fun h2 => ?_)
      · walk_at "v"
        refine ⟨z, rfl, fun D hD => ?_⟩
        refine lc_it walk_str (fun i H' => Same H H' ∧ H' D = some (.lst ((z.cps.toList.take i).map fun c => V.bl (isL c)))) ⟨Same.new hD, upd_same⟩ (fun _ _ _ _ => True.intro) ?_ ?_
        · rintro i x H1 H1' hi ⟨s1, hl⟩ ⟨rfl, c, hc, rfl⟩
          refine ⟨rfl, ?_⟩
          walk_at "v"
          refine ⟨c, _, rfl, rfl, ?_⟩
          refine ⟨_, hl, ?_, ?_, ?_⟩
          · rw [List.length_map, List.length_take]
            have e : z.length = z.cps.size := rfl
            have e2 : z.cps.toList.length = z.cps.size := Array.length_toList
            omega
          · exact fun b o hb => by
              rw [upd_ne (ne_of_none hb hD)]
              exact s1 b o hb
          · rw [upd_same]
            have e : z.cps.toList[i]? = some c := by rw [Array.getElem?_toList]; exact hc
            rw [List.take_succ, e]
            simp [isL]
        · rintro H1 ⟨s1, hl⟩
          have e2 : z.cps.toList.take z.cps.size = z.cps.toList := List.take_of_length_le (by rw [Array.length_toList]; exact Nat.le_refl _)
          rw [e2] at hl
          refine ⟨D, z.cps.toList.map isL, rfl, SqL.of (by rw [List.map_map]; exact hl), ?_⟩
          have e3 : (z.cps.toList.map isL).all id = isWord z := by
            rw [List.all_map]
            unfold isWord
            rw [decide_eq_true (show 1 ≤ z.length by omega), decide_eq_true (show z.length ≤ 8 by omega)]
            simp
          rw [e3]
          exact k H1 s1
      · have e3 : isWord z = false := by
          unfold isWord
          rw [decide_eq_false (show ¬ z.length ≤ 8 by omega), Bool.and_false, Bool.false_and]
        rw [e3] at k
        exact k H (Same.refl H)
    · have e3 : isWord z = false := by
        unfold isWord
        rw [decide_eq_false (show ¬ 1 ≤ z.length by omega), Bool.false_and, Bool.false_and]
      rw [e3] at k
      refine ⟨_, rfl, ?_⟩
      show (if (!false) = true then _ else _)
      refine iteT ?_
      exact k H (Same.refl H)
/-! ### names -/
def kRES : List Str := ["and", "or", "not", "in", "given", "true", "false", "blank", "number", "word", "needs", "instead", "after", "blames", "check", "guard", "barrier", "repair", "default", "exit", "self"]
def kRESERVED : List V := kRES.map V.str
theorem inV_strs (z : Str) (xs : List Str) : inV (.str z) (xs.map V.str) = decide (z ∈ xs) := by
  unfold inV
  rw [List.any_map, Bool.eq_iff_iff, List.any_eq_true, decide_eq_true_eq]
  constructor
  · rintro ⟨y, hy, e⟩
    have e' : (y == z) = true := e
    rw [eq_of_beq e'] at hy
    exact hy
  · intro h
    exact ⟨z, h, (beq_self_eq_true z : (z == z) = true)⟩
theorem flat_strs (xs : List Str) : (xs.map V.str).all flatV = true := by
  rw [List.all_map, List.all_eq_true]
  intro x _
  rfl
theorem WordB.mono {K : PySem.W.Frag} {H H' : Hp} {x : V} {w : Bool} (h : WordB K H x w) (s : Same H H') : WordB K H' x w := by
  rcases h with ⟨T, ty, h⟩ | h
  · exact .inl ⟨T, tyX_same s ty, h⟩
  · exact .inr h
def NameW (K : PySem.W.Frag) (H : Hp) (u : V) (nm : Option Str) : Prop := (WordB K H u false ∧ nm = none) ∨ ∃ z : Str, u = .str z ∧ z.length ≤ 1000000 ∧ isWord z = true ∧ nm = if z ∈ kRES then none else some z
theorem NameW.mono {K : PySem.W.Frag} {H H' : Hp} {x : V} {w : Option Str} (h : NameW K H x w) (s : Same H H') : NameW K H' x w := by
  rcases h with ⟨h, e⟩ | h
  · exact .inl ⟨h.mono s, e⟩
  · exact .inr h
def t_is_name (K : PySem.W.Frag) (A : Ads) (E : XK) : TS :=
    (tRet (tAndV (tCall (sp_is_word K A) [] E0 (tCons (tVar 0) tNil)) (tOp (rIn K true) (tVar 0) (tC (.ref A.gRESERVED)))))
def n_is_name : List Str := ["thing"]
def sp_is_name (K : PySem.W.Frag) (A : Ads) : Sp := fun vs H Q _ => ∃ (x : V) (nm : Option Str), vs = [x] ∧ NameW K H x nm ∧ ∀ H', Same H H' → Q (.bl nm.isSome) H'
theorem len_is_name {K : PySem.W.Frag} {A : Ads} {vs : List V} {H : Hp} {Q : VK} {E : XK} (h : sp_is_name K A vs H Q E) : vs.length = 1 := by
  obtain ⟨x, w, rfl, _⟩ := h
  rfl
theorem pure_is_name {K : PySem.W.Frag} {A : Ads} (tb : ∀ H, SqT K H A.gRESERVED kRESERVED) {vs : List V} {H : Hp} {Q : VK} {E : XK} (h : sp_is_name K A vs H Q E) : t_is_name K A E { nx := fun _ H' => Q .non H', rt := Q } (start n_is_name vs) H := by
  obtain ⟨x, nm, rfl, hw, k⟩ := h
  walk_at "v"
  rcases hw with ⟨hw, rfl⟩ | ⟨z, rfl, hz, hw, rfl⟩
  · refine ⟨x, false, rfl, hw, fun H1 s1 => ?_⟩
    refine ⟨_, rfl, ?_⟩
    refine iteF ?_
    exact k H1 s1
  · refine ⟨.str z, true, rfl, .inr ⟨z, rfl, hz, hw.symm⟩, fun H1 s1 => ?_⟩
    refine ⟨_, rfl, ?_⟩
    refine iteT ?_
    walk_at "v"
    refine ⟨_, _, rfl, .inr (tb H1), rfl, flat_strs _, ?_⟩
    have e : (if true = true then !inV (V.str z) kRESERVED else inV (V.str z) kRESERVED) = (if z ∈ kRES then (none : Option Str) else some z).isSome := by
      rw [if_pos rfl]
      show (!inV (V.str z) (kRES.map V.str)) = _
      rw [inV_strs]
      by_cases c : z ∈ kRES
      · rw [decide_eq_true c, if_pos c]; rfl
      · rw [decide_eq_false c, if_neg c]; rfl
    rw [e]
    exact k H1 s1
/-! ### texts -/
def one (c : Nat) : Str := ⟨#[c]⟩
theorem glue_ones (a : Array Nat) : ∀ cs : List Nat, (cs.map one).foldl (fun acc p => acc ++ (#[] : Array Nat) ++ p.cps) a = a ++ cs.toArray
  | [] => by simp
  | c :: r => by
    rw [List.map_cons, List.foldl_cons, glue_ones]
    simp [one]
theorem join_ones (cs : List Nat) (h : cs ≠ []) : Txt.join "" (cs.map one) = ⟨cs.toArray⟩ := by
  cases cs with
  | nil => exact absurd rfl h
  | cons c r =>
    show (⟨(r.map one).foldl (fun acc p => acc ++ (#[] : Array Nat) ++ p.cps) (one c).cps⟩ : Str) = _
    rw [glue_ones]
    simp [one]
theorem ones_sum : ∀ cs : List Nat, ((cs.map one).map (·.length)).sum = cs.length
  | [] => rfl
  | c :: r => by
    rw [List.map_cons, List.map_cons, List.sum_cons, ones_sum r, List.length_cons]
    show 1 + r.length = _
    omega
theorem isWord_of {cs : List Nat} (h1 : 1 ≤ cs.length) (h8 : cs.length ≤ 8) (h : ∀ c ∈ cs, isL c = true) : isWord ⟨cs.toArray⟩ = true := by
  unfold isWord
  have e : (⟨cs.toArray⟩ : Str).length = cs.length := by show cs.toArray.size = _; simp
  rw [e, decide_eq_true h1, decide_eq_true h8]
  show cs.toArray.toList.all isL = true
  rw [List.toList_toArray]
  exact List.all_eq_true.mpr h
theorem word_all {z : Str} (h : isWord z = true) : 1 ≤ z.length ∧ z.length ≤ 8 ∧ ∀ c ∈ z.cps.toList, isL c = true := by
  unfold isWord at h
  obtain ⟨h1, h2⟩ := Bool.and_eq_true_iff.mp h
  obtain ⟨h3, h4⟩ := Bool.and_eq_true_iff.mp h1
  exact ⟨of_decide_eq_true h3, of_decide_eq_true h4, List.all_eq_true.mp h2⟩
theorem app_list (a b : Str) : (a ++ b).cps.toList = a.cps.toList ++ b.cps.toList := by
  show (a.cps ++ b.cps).toList = _
  exact Array.toList_append
theorem app_len (a b : Str) : (a ++ b).length = a.length + b.length := by
  show (a.cps ++ b.cps).size = _
  exact Array.size_append
theorem letters_small : ∀ c ∈ (Str.ofString "abcdefghijklmnopqrstuvwxyz").cps.toList, c < 0x110000 := by decide +kernel
theorem word_ok {z : Str} (h : isWord z = true) : PyData.strOk z = true := by
  have h3 := (word_all h).2.2
  show z.cps.all (· < 0x110000) = true
  rw [← Array.all_toList, List.all_eq_true]
  intro c hc
  exact decide_eq_true (letters_small c (of_decide_eq_true (h3 c hc)))
theorem dp_strs {K : PySem.W.Frag} {H : Hp} {a : Addr} {p q : Str} (h : SqT K H a [.str p, .str q]) : Dp K H (.ref a) (.tuple [.str p, .str q]) := .tup h (.cons (.str p) (.cons (.str q) .nil))
theorem shaped_strs {p q : Str} (hp : PyData.strOk p = true) (hq : PyData.strOk q = true) : SeqAt.shaped (.tuple [.str p, .str q]) = true := by
  unfold SeqAt.shaped
  simp [PyData.canLay0, PyData.canLayAll0, PyData.depth, PyData.depthAll, hp, hq]
theorem shaped_lst1 {p : Str} (hp : PyData.strOk p = true) : SeqAt.shaped (.list [.str p]) = true := by
  unfold SeqAt.shaped
  simp [PyData.canLay0, PyData.canLayAll0, PyData.depth, PyData.depthAll, hp]
theorem bad_app (z : Str) {w : Str} (h : w.cps.toList.all isL = false) : isWord (z ++ w) = false := by
  unfold isWord
  rw [app_list, List.all_append, h, Bool.and_false, Bool.and_false]
theorem bad_pre (z : Str) {w : Str} (h : w.cps.toList.all isL = false) : isWord (w ++ z) = false := by
  unfold isWord
  rw [app_list, List.all_append, h, Bool.false_and, Bool.and_false]
theorem bad_len {z : Str} (h : 8 < z.length) : isWord z = false := by
  unfold isWord
  rw [decide_eq_false (show ¬ z.length ≤ 8 by omega), Bool.and_false, Bool.false_and]
theorem upper_letters : ∀ c ∈ (Str.ofString "abcdefghijklmnopqrstuvwxyz").cps.toList, (Unicode.upperOf c).any (fun x => !isL x) = true := by decide +kernel
theorem bad_upper {z : Str} (h : isWord z = true) : isWord (Txt.upper z) = false := by
  obtain ⟨h1, h8, ha⟩ := word_all h
  cases hb : isWord (Txt.upper z) with
  | false => rfl
  | true =>
    obtain ⟨_, _, hu⟩ := word_all hb
    have h0 : 0 < z.cps.size := h1
    have hc := ha z.cps[0] (by simp)
    obtain ⟨x, hx, nx⟩ := List.any_eq_true.mp (upper_letters _ (of_decide_eq_true hc))
    have hm : x ∈ (Txt.upper z).cps.toList := by
      rw [Array.mem_toList_iff]
      show x ∈ (z.cps.mapIdx fun _ c => (Unicode.upperOf c).toArray).flatten
      refine Array.mem_flatten.mpr ⟨(Unicode.upperOf z.cps[0]).toArray, Array.mem_mapIdx.mpr ⟨0, h0, rfl⟩, by simpa using hx⟩
    have := hu x hm
    rw [this] at nx
    cases nx
theorem wordB_bad {K : PySem.W.Frag} {H : Hp} {z : Str} (hl : z.length ≤ 1000000) (h : isWord z = false) : WordB K H (.str z) false := .inr ⟨z, rfl, hl, h.symm⟩
theorem wordB_of {K : PySem.W.Frag} {H : Hp} {z : Str} (h : isWord z = true) : WordB K H (.str z) true := .inr ⟨z, rfl, by have := (word_all h).2.1; omega, h.symm⟩
theorem hu65 {A : Around} {k : Nat} (hr : Room k A) : A.units + 65 < cLine := by have := hr.un; omega
/-- x in a tuple, x a flat value, or any plain data -/
def rInT2 (K : PySem.W.Frag) : R2 := fun x y H Q => rIn K false x y H Q ∨ ∃ d ds, Dp K H x d ∧ Dp K H y (.tuple ds) ∧ SeqAt.shaped d = true ∧ SeqAt.shaped (.tuple ds) = true ∧ Q (.bl (ds.any fun z => PyData.eqv z d)) H
theorem op_inT2 {X : Cx} (hu : X.A.units + 65 < cLine) : OpR X (compareOp .In) (rInT2 X.K) := by
  intro pins s σ H x y v u Q I rx ry h
  rcases h with h | ⟨d, ds, hd, he, sd, se, q⟩
  · exact op_in_seq pins s σ H x y v u Q I rx ry h
  · obtain ⟨as, r1⟩ := Dp.reads I d x v hd rx
    obtain ⟨bs, r2⟩ := Dp.reads I (.tuple ds) y u he ry
    exact SeqAt.in_tuple_reads r2 r1 (SeqAt.canLay_of_shaped se) (SeqAt.canLay_of_shaped sd) (room_in_shaped sd hu) ⟨.bl _, H, I, rfl, q⟩
def rNotInT2 (K : PySem.W.Frag) : R2 := fun x y H Q => rIn K true x y H Q ∨ ∃ d ds, Dp K H x d ∧ Dp K H y (.tuple ds) ∧ SeqAt.shaped d = true ∧ SeqAt.shaped (.tuple ds) = true ∧ Q (.bl (!ds.any fun z => PyData.eqv z d)) H
theorem op_notInT2 {X : Cx} (hu : X.A.units + 65 < cLine) : OpR X (compareOp .NotIn) (rNotInT2 X.K) := by
  intro pins s σ H x y v u Q I rx ry h
  rcases h with h | ⟨d, ds, hd, he, sd, se, q⟩
  · exact op_notIn_seq pins s σ H x y v u Q I rx ry h
  · obtain ⟨as, r1⟩ := Dp.reads I d x v hd rx
    obtain ⟨bs, r2⟩ := Dp.reads I (.tuple ds) y u he ry
    exact SeqAt.notIn_tuple_reads r2 r1 (SeqAt.canLay_of_shaped se) (SeqAt.canLay_of_shaped sd) (room_in_shaped sd hu) ⟨.bl _, H, I, rfl, q⟩
/-- data among texts -/
def inD (ns : List Str) (d : PyData) : Bool := (ns.map PyData.str).any fun z => PyData.eqv z d
theorem inD_str (ns : List Str) (n : Str) : inD ns (.str n) = decide (n ∈ ns) := by
  unfold inD
  rw [List.any_map, Bool.eq_iff_iff, List.any_eq_true, decide_eq_true_eq]
  constructor
  · rintro ⟨y, hy, e⟩
    have e' : (y == n) = true := by simpa [PyData.eqv] using e
    rw [eq_of_beq e'] at hy
    exact hy
  · intro h
    exact ⟨n, h, by simp [PyData.eqv]⟩
theorem inD_true {ns : List Str} {d : PyData} (h : inD ns d = true) : ∃ n, d = .str n ∧ n ∈ ns := by
  unfold inD at h
  rw [List.any_map, List.any_eq_true] at h
  obtain ⟨y, hy, e⟩ := h
  cases d with
  | str z =>
    have e' : (y == z) = true := by simpa [PyData.eqv] using e
    rw [eq_of_beq e'] at hy
    exact ⟨z, rfl, hy⟩
  | _ => simp [PyData.eqv] at e
theorem dp_strAll {K : PySem.W.Frag} {H : Hp} : ∀ ns : List Str, DpAll K H (ns.map V.str) (ns.map PyData.str)
  | [] => .nil
  | n :: r => .cons (.str n) (dp_strAll r)
theorem dp_tupS {K : PySem.W.Frag} {H : Hp} {a : Addr} {ns : List Str} (h : SqT K H a (ns.map V.str)) : Dp K H (.ref a) (.tuple (ns.map PyData.str)) := .tup h (dp_strAll ns)
theorem dp_lstS {K : PySem.W.Frag} {H : Hp} {a : Addr} {ns : List Str} (h : SqL K H a (ns.map V.str)) : Dp K H (.ref a) (.list (ns.map PyData.str)) := .lst h (dp_strAll ns)
theorem lay_strs : ∀ ns : List Str, (∀ n ∈ ns, PyData.strOk n = true) → PyData.canLayAll0 (ns.map PyData.str) = true
  | [], _ => rfl
  | n :: r, h => by
    have h1 := h n List.mem_cons_self
    have h2 := lay_strs r fun m hm => h m (List.mem_cons_of_mem _ hm)
    simp [PyData.canLayAll0, PyData.canLay0, h1, h2]
theorem depth_strs : ∀ ns : List Str, PyData.depthAll (ns.map PyData.str) ≤ 1
  | [] => by simp [PyData.depthAll]
  | n :: r => by
    have := depth_strs r
    simp [PyData.depthAll, PyData.depth]
    try omega
theorem shaped_tupS {ns : List Str} (h : ∀ n ∈ ns, PyData.strOk n = true) : SeqAt.shaped (.tuple (ns.map PyData.str)) = true := by
  have h1 := lay_strs ns h
  have h2 := depth_strs ns
  unfold SeqAt.shaped
  simp [PyData.canLay0, PyData.depth, h1]
  try omega
theorem shaped_lstS {ns : List Str} (h : ∀ n ∈ ns, PyData.strOk n = true) : SeqAt.shaped (.list (ns.map PyData.str)) = true := by
  have h1 := lay_strs ns h
  have h2 := depth_strs ns
  unfold SeqAt.shaped
  simp [PyData.canLay0, PyData.depth, h1]
  try omega
theorem dp_str_inv {K : PySem.W.Frag} {H : Hp} {x : V} {n : Str} (h : Dp K H x (.str n)) : x = .str n := by
  cases h
  rfl
/-- a kind as it may be passed: a flat value, or a list of one word -/
def KindV (H : Hp) (v : V) : Prop := flatV v = true ∨ ∃ q w, v = .ref q ∧ H q = some (.lst [.str w]) ∧ isWord w = true
theorem KindV.mono {H H' : Hp} {v : V} (h : KindV H v) (s : Same H H') : KindV H' v := by
  rcases h with h | ⟨q, w, e, hq, hw⟩
  · exact .inl h
  · exact .inr ⟨q, w, e, s _ _ hq, hw⟩
/-! ### fields -/
def kindOf : V → Option Str
  | .str z => if z = "number" ∨ z = "word" then some z else none
  | _ => none
def FieldB (K : PySem.W.Frag) (H : Hp) (x : V) (r : Option (Str × Str)) : Prop := (∃ T, TyX K H x (.type T) ∧ T ≠ "tuple" ∧ r = none) ∨ (∃ a xs, x = .ref a ∧ H a = some (.tup xs) ∧ xs.length ≠ 2 ∧ r = none) ∨
  (∃ a u v nm, x = .ref a ∧ H a = some (.tup [u, v]) ∧ KindV H v ∧ NameW K H u nm ∧ r = nm.bind fun n => (kindOf v).map fun k => (n, k))
theorem FieldB.mono {K : PySem.W.Frag} {H H' : Hp} {x : V} {r : Option (Str × Str)} (h : FieldB K H x r) (s : Same H H') : FieldB K H' x r := by
  rcases h with ⟨T, ty, h⟩ | ⟨a, xs, e, ha, h⟩ | ⟨a, u, v, nm, e, ha, hf, hn, h⟩
  · exact .inl ⟨T, tyX_same s ty, h⟩
  · exact .inr (.inl ⟨a, xs, e, s _ _ ha, h⟩)
  · exact .inr (.inr ⟨a, u, v, nm, e, s _ _ ha, hf.mono s, hn.mono s, h⟩)
theorem in_kinds {v : V} (h : flatV v = true) : inV v [.str "number", .str "word"] = (kindOf v).isSome := by
  cases v with
  | str z =>
    show (inV (.str z) (([("number" : Str), "word"] : List Str).map V.str)) = _
    rw [inV_strs]
    show _ = (if z = "number" ∨ z = "word" then some z else none : Option Str).isSome
    by_cases c : z = "number" ∨ z = "word"
    · rw [if_pos c]; exact decide_eq_true (by simpa using c)
    · rw [if_neg c]; exact decide_eq_false (by simpa using c)
  | non => rfl
  | bl b => rfl
  | int i => rfl
  | _ => cases h
def t__is_field (K : PySem.W.Frag) (A : Ads) (E : XK) : TS :=
    (tRet (tAndV (tCB (rIsi K) (tCons (tVar 0) (tCons (tC (.ty "tuple")) tNil))) (tAndV (tOp rEq (tCB (rLen K) (tCons (tVar 0) tNil)) (tC (.int 2))) (tAndV (tCall (sp_is_name K A) [] E0 (tCons (tOp (rIx K) (tVar 0) (tC (.int 0))) tNil)) (tOp (rInT2 K) (tOp (rIx K) (tVar 0) (tC (.int 1))) (tTup (tCons (tC (.str "number")) (tCons (tC (.str "word")) tNil))))))))
def n__is_field : List Str := ["thing"]
def sp__is_field (K : PySem.W.Frag) (A : Ads) : Sp := fun vs H Q _ => ∃ (x : V) (r : Option (Str × Str)), vs = [x] ∧ FieldB K H x r ∧ ∀ H', Same H H' → Q (.bl r.isSome) H'
theorem len__is_field {K : PySem.W.Frag} {A : Ads} {vs : List V} {H : Hp} {Q : VK} {E : XK} (h : sp__is_field K A vs H Q E) : vs.length = 1 := by
  obtain ⟨x, w, rfl, _⟩ := h
  rfl
theorem pure__is_field {K : PySem.W.Frag} {A : Ads} {vs : List V} {H : Hp} {Q : VK} {E : XK} (h : sp__is_field K A vs H Q E) : t__is_field K A E { nx := fun _ H' => Q .non H', rt := Q } (start n__is_field vs) H := by
  obtain ⟨x, r, rfl, hf, k⟩ := h
  walk_at "v"
  rcases hf with ⟨T, ty, hn, rfl⟩ | ⟨a, xs, rfl, ha, hn, rfl⟩ | ⟨a, u, v, nm, rfl, ha, fv, hn, rfl⟩
  · refine ⟨_, _, _, _, _, rfl, .ty _, ty, kit_ty (kit_tup ty hn), ?_⟩
    refine ⟨_, rfl, ?_⟩
    exact iteF (k H (Same.refl H))
  · refine ⟨_, _, _, _, _, rfl, .ty _, ty_tup ha, kit_ty (by decide +kernel : kitB "tuple" "tuple" = some true), ?_⟩
    refine ⟨_, rfl, iteT ?_⟩
    walk_at "v"
    refine ⟨_, _, rfl, .inr ⟨xs, SqT.of ha, rfl⟩, ?_⟩
    refine ⟨rfl, ?_⟩
    refine ⟨_, rfl, ?_⟩
    refine iteD (fun h => ?_) (fun _ => k H (Same.refl H))
    exact absurd (by injection h with h; omega) hn
  · refine ⟨_, _, _, _, _, rfl, .ty _, ty_tup ha, kit_ty (by decide +kernel : kitB "tuple" "tuple" = some true), ?_⟩
    refine ⟨_, rfl, iteT ?_⟩
    walk_at "v"
    refine ⟨_, _, rfl, .inr ⟨_, SqT.of ha, rfl⟩, ?_⟩
    refine ⟨rfl, ?_⟩
    refine ⟨_, rfl, ?_⟩
    refine iteD (fun _ => ?_) (fun h => absurd rfl h)
    walk_at "v"
    refine Or.inr (Or.inl ⟨_, _, _, _, rfl, rfl, SqT.of ha, rfl, ?_⟩)
    refine ⟨u, nm, rfl, hn, fun H1 s1 => ?_⟩
    refine ⟨_, rfl, ?_⟩
    cases nm with
    | none =>
      refine iteF ?_
      exact k H1 s1
    | some n =>
      refine iteT ?_
      walk_at "v"
      refine Or.inr (Or.inl ⟨_, _, _, _, rfl, rfl, SqT.of (s1 _ _ ha), rfl, ?_⟩)
      refine ⟨by show 2 ≤ sizeLine; decide, fun t ht => ?_⟩
      rcases fv with fv | ⟨q, w, rfl, hq, hw⟩
      · refine .inl ⟨t, _, rfl, .inr (SqT.of upd_same), fv, rfl, ?_⟩
        show Q (.bl (inV v [.str "number", .str "word"])) _
        rw [in_kinds fv]
        have e : (kindOf v).isSome = ((some n).bind fun n => (kindOf v).map fun k => (n, k)).isSome := by cases kindOf v <;> rfl
        rw [e]
        exact k _ (Same.trans s1 (Same.new ht))
      · have st := Same.new (o := .tup [.str "number", .str "word"]) ht
        refine .inr ⟨.list [.str w], [.str "number", .str "word"], .lst (SqL.of (st _ _ (s1 _ _ hq))) (.cons (.str w) .nil), .tup (SqT.of upd_same) (.cons (.str _) (.cons (.str _) .nil)), shaped_lst1 (word_ok hw), by decide +kernel, ?_⟩
        have e : ([PyData.str "number", PyData.str "word"].any fun z => PyData.eqv z (.list [.str w])) = false := by simp [PyData.eqv]
        rw [e]
        exact k _ (Same.trans s1 st)
end Md

set_option Elab.async false
set_option linter.all false
set_option maxRecDepth 100000
set_option maxHeartbeats 4000000
/-! own operators: ==, !=, in, not in by the methods of a plain class -/
namespace Md
open PySem PySem.Spec PyProof.Rows PySem.Calls L2
/-- the type of a class's objects is found -/
structure TyC (K : PySem.W.Frag) (C : Addr) : Prop where
  ha : PySem.W.findIn K (.ref C) "__class__" = some (some (.builtin "object.__class__"))
  hn : PySem.W.specialIn K (.builtin "object.__class__") "__get__" = some (some (.builtin "getset_descriptor.__get__"))
  htk : PySem.W.takesIn K (.builtin "object.__class__") = some true
  hm : PySem.W.mroIn K C (.type "object") = some true
  kc : ((PySem.W.clsIn K C).isSome && PySem.W.typeIn K (.ref C) == some (.type "type")) = true
def tycB (K : PySem.W.Frag) (C : Addr) : Bool := decide (PySem.W.findIn K (.ref C) "__class__" = some (some (.builtin "object.__class__"))) && (decide (PySem.W.specialIn K (.builtin "object.__class__") "__get__" = some (some (.builtin "getset_descriptor.__get__"))) &&
  (decide (PySem.W.takesIn K (.builtin "object.__class__") = some true) && (decide (PySem.W.mroIn K C (.type "object") = some true) && ((PySem.W.clsIn K C).isSome && PySem.W.typeIn K (.ref C) == some (.type "type")))))
theorem tycB_ok {K : PySem.W.Frag} {C : Addr} (h : tycB K C = true) : TyC K C := by
  obtain ⟨h1, h⟩ := Bool.and_eq_true_iff.mp h
  obtain ⟨h2, h⟩ := Bool.and_eq_true_iff.mp h
  obtain ⟨h3, h⟩ := Bool.and_eq_true_iff.mp h
  obtain ⟨h4, h5⟩ := Bool.and_eq_true_iff.mp h
  exact ⟨of_decide_eq_true h1, of_decide_eq_true h2, of_decide_eq_true h3, of_decide_eq_true h4, h5⟩
def isTyV : Value → Bool
  | .type _ => true
  | _ => false
/-- a built-in type whose line holds built-in types alone -/
def offB (T : String) : Bool := match PySem.fastBuiltinMro T with
  | some l => l.all isTyV
  | none => false
theorem off_sub {K : PySem.W.Frag} {T : String} (h : offB T = true) (C : Addr) : PySem.W.subIn K (.type T) (.ref C) = some false := by
  unfold offB at h
  show (PySem.fastBuiltinMro T).map (·.contains (.ref C)) = some false
  split at h
  · rename_i l e
    rw [e]
    show some (l.contains (.ref C)) = some false
    congr 1
    cases c : l.contains (Value.ref C) with
    | false => rfl
    | true =>
      have hm := List.contains_iff_mem.mp c
      have := List.all_eq_true.mp h _ hm
      cases this
  · cases h
theorem TyC.off {K : PySem.W.Frag} {C : Addr} (t : TyC K C) {T : String} (h : offB T = true) : PySem.W.kitOne K (.type T) (.ref C) = some false := by
  unfold PySem.W.kitOne
  rw [if_neg (by simp)]
  show (if _ then PySem.W.subIn K (.type T) (.ref C) else none) = _
  rw [if_pos t.kc]
  exact off_sub h C
theorem TyC.self {K : PySem.W.Frag} {C : Addr} : PySem.W.kitOne K (.ref C) (.ref C) = some true := by
  unfold PySem.W.kitOne
  rw [if_pos (by simp)]
theorem nf_off {K : PySem.W.Frag} {C : Addr} {T : String} (h : offB T = true) : PySem.W.notFirst K C (.type T) = true := by
  unfold PySem.W.notFirst
  rw [off_sub h C]
  simp
theorem nf_self {K : PySem.W.Frag} {C : Addr} : PySem.W.notFirst K C (.ref C) = true := by
  unfold PySem.W.notFirst
  simp
theorem off_list : offB "list" = true := by decide +kernel
theorem off_tuple : offB "tuple" = true := by decide +kernel
theorem off_str : offB "str" = true := by decide +kernel
theorem off_none : offB "NoneType" = true := by decide +kernel
theorem off_dict : offB "dict" = true := by decide +kernel
theorem off_int : offB "int" = true := by decide +kernel
theorem off_bool : offB "bool" = true := by decide +kernel
theorem TyC.ty {K : PySem.W.Frag} {C a dx : Addr} {H : Hp} {fs : List (Str × V)} (t : TyC K C) (cl : Cls K C) (e : H a = some (.ins C dx fs)) : TyX K H (.ref a) (.ref C) := .base (.ins e cl t.ha t.hn t.htk t.hm)
/-- no __ne__ of its own -/
def NeC (K : PySem.W.Frag) (C : Addr) : Prop := PySem.W.findIn K (.ref C) "__ne__" = some (some (.builtin "object.__ne__"))
def necB (K : PySem.W.Frag) (C : Addr) : Bool := decide (PySem.W.findIn K (.ref C) "__ne__" = some (some (.builtin "object.__ne__"))) && decide (PySem.W.mroIn K C (.type "object") = some true)
theorem necB_ok {K : PySem.W.Frag} {C : Addr} (h : necB K C = true) : NeC K C := by
  unfold NeC
  exact of_decide_eq_true (Bool.and_eq_true_iff.mp h).1
def rEqO (K : PySem.W.Frag) (C : Addr) (sp : Sp) (E : XK) : R2 := fun x y H Q => ∃ a dx fs t, x = .ref a ∧ H a = some (.ins C dx fs) ∧ TyX K H y t ∧ PySem.W.notFirst K C t = true ∧ sp [.ref a, y] H (fun v H1 => ∃ b, v = .bl b ∧ Q (.bl b) H1) E
def rNeO (K : PySem.W.Frag) (C : Addr) (sp : Sp) (E : XK) : R2 := fun x y H Q => ∃ a dx fs t, x = .ref a ∧ H a = some (.ins C dx fs) ∧ TyX K H y t ∧ PySem.W.notFirst K C t = true ∧ sp [.ref a, y] H (fun v H1 => ∃ b, v = .bl b ∧ Q (.bl (!b)) H1) E
/-- x in o -/
def rInO (C : Addr) (sp : Sp) (E : XK) : R2 := fun x y H Q => ∃ a dx fs, y = .ref a ∧ H a = some (.ins C dx fs) ∧ sp [.ref a, x] H (fun v H1 => ∃ b, v = .bl b ∧ Q (.bl b) H1) E
def rNotInO (C : Addr) (sp : Sp) (E : XK) : R2 := fun x y H Q => ∃ a dx fs, y = .ref a ∧ H a = some (.ins C dx fs) ∧ sp [.ref a, x] H (fun v H1 => ∃ b, v = .bl b ∧ Q (.bl (!b)) H1) E
section
variable {X : Cx} {k j : Nat} {C : Addr} {sp : Sp} {E : XK}
theorem op_eqO (c : Mt X.prog X.w X.K X.mg X.base k C "__eq__" sp) (hr : Room j X.A) (hk : k ≤ j) (hx : Passes (L2N.CX X.prog X.w) X E) : OpR X (compareOp .Eq) (rEqO X.K C sp E) := by
  intro pins s σ H x y v u Q I rx ry h
  obtain ⟨a, dx, fs, t, rfl, ha, ty, hn, q⟩ := h
  obtain rfl : v = .ref a := rx
  obtain ⟨P, Z, p, _⟩ := kit_of I ry ty
  obtain ⟨f, fd, ps, c1, hm, F, b⟩ := c.ex
  obtain ⟨mA, O, _, _, _, _⟩ := ins_get I.hok ha
  obtain ⟨od, J, _⟩ := O.look
  obtain ⟨m, Fr⟩ := I.fr
  refine PySem.W.cmp_ofEq (PySem.W.cmp_K (by have := hr.un; omega) Fr I.ok.mod.kin J (Z.ty _ _ I.kIn p) hn hm.at_ hm.fn ?_)
  have hl : ([Value.ref a, u] ++ []).length = ps.length := by
    have e := F.len _ _ _ _ q
    rw [← e]
    rfl
  refine wpAny_call (codeAny_mono (F.run X.A X.stack s H ⟨[.ref a, u], []⟩ [.ref a, u] [.ref a, y] _ E (hr.mono hk) I.env0 (b s [.ref a, u] I.kIn hl) (.cons rfl (.cons ry .nil)) q) fun r s' hq => ?_)
  cases r with
  | error e => exact hx pins σ H s e s' I hq
  | ok fl =>
    cases fl with
    | ret u =>
      obtain ⟨v, H', I3, rv, b, rfl, q3⟩ := I.after hq
      obtain rfl : u = .bool b := rv
      exact ⟨.bl b, H', I3, rfl, q3⟩
    | next => exact False.elim hq
    | brk => exact False.elim hq
    | cont => exact False.elim hq
theorem ne_bind (self : Value) : bindSpecial (.builtin "object.__ne__") self = pure (.builtin "object.__ne__", [self]) :=
  (Slot.of (T := "object") (name := "__ne__") (owner := "object") (n := "__ne__") (by rw [typeLookup_type, builtinLookup_eq_fast]; kernel_rfl) (by decide +kernel) (by decide +kernel) (by decide +kernel)
    (.inl (by decide +kernel)) (by rw [isSubtype_type]; kernel_rfl)).bind self
theorem ne_plain : plainId "object.__ne__" = true := by decide +kernel
theorem ifBound_B {K : PySem.W.Frag} {M : Model} {A : Around} {E : Value → Shared → Prop} {s : Shared} {x C : Addr} {ox : Obj} {od : Option Obj} {name : Str} {id : String} {args : List Value} {Q : Option Value → Shared → Prop} (X : K.In s.heap) (I : PySem.W.InstAt s.heap x ox C od)
    (hs : PySem.W.findIn K (.ref C) name = some (some (.builtin id))) (hb : bindSpecial (.builtin id) (.ref x) = pure (.builtin id, [.ref x]))
    (h : wpAny M A (call (.builtin id) (.ref x :: args)) (fun v => Q (some v)) E s) : wpAny M A (callSpecialIfBound? (.ref x) name args) Q E s := by
  simp only [callSpecialIfBound?, bindSpecialIfBound?]
  refine wpAny_holding (wpAny_bind (wpAny_bind (wpAny_bind (I.type.here ((PySem.W.looks_findIn X hs).here ?_)))))
  refine wpAny_bind (wpAny_askSetting (wpAny_ite ?_))
  have fin : wpAny M A (call (.builtin id) ([.ref x] ++ args) >>= fun v => pure (some v)) Q E s := wpAny_bind (wpAny_mono h (fun v s' h' => wpAny_pure h') fun _ _ h' => h')
  rw [hb]
  split
  · exact wpAny_bind (wpAny_pure (wpAny_pure (by exact fin)))
  · exact wpAny_tryCatch (wpAny_bind (wpAny_pure (wpAny_pure (by exact fin))))
theorem ne_K {prog : Program} {w : World} {A : Around} {E : Value → Shared → Prop} {s : Shared} {K : PySem.W.Frag} {x C L f : Addr} {h₀ : Heap} {m : Str → Option Value} {ox : Obj} {od : Option Obj} {b tb : Value} {Q : Value → Shared → Prop}
    (hu : A.units + 1 < cLine) (Fr0 : Fr h₀ L s.heap m) (X₀ : K.In h₀) (I : PySem.W.InstAt s.heap x ox C od) (hb : PySem.W.Looks (model prog w) s.heap (typeOf b) tb) (hn : PySem.W.notFirst K C tb = true)
    (nc : NeC K C) (ho : PySem.W.mroIn K C (.type "object") = some true) (hs : PySem.W.findIn K (.ref C) "__eq__" = some (some (.ref f))) (hf : PySem.W.isFn K (.ref f) = true)
    (h : wpAny (model prog w) A.in1 (call (.ref f) [.ref x, b]) (fun v s' => ∃ r, v = .bool r ∧ Q (.bool (!r)) s') E s) : wpAny (model prog w) A (richCompare .NotEq (.ref x) b) Q E s := by
  have X := X₀.keeps Fr0.keep
  have one : wpAny (model prog w) A (tryCompare (.ref x) "__ne__" b) (fun r s' => ∃ v, r = some v ∧ Q v s') E s := by
    have hu1 : A.in1.units < cLine := hu
    unfold tryCompare
    refine wpAny_bind (ifBound_B X I nc (ne_bind _) (wpAny_call (codeAny_call_builtin ne_plain F.cmpEntry_ne
      (PySem.W.check_slot F.cmpKind_ne F.cmpSplit_ne (I.type.andThen (PySem.W.looks_subIn X ho)) (F.cmpArgs_ne _ _) ?_))))
    unfold Builtin.«object.__ne__»
    repeat (first
      | with_reducible refine wpAny_cRoomFor hu1 ?_
      | (refine wpAny_bind (m := callSpecialIfBound? (.ref x) (Str.ofString "__eq__") [b])
          (PySem.W.ifBound_K X I hs hf (wpAny_mono h (fun r s' hr => by
            obtain ⟨r, rfl, hq⟩ := hr
            repeat (first | exact wpAny_truthy_bool (wpAny_pure (wpAny_pure ⟨_, rfl, hq⟩)) | (refine wpAny_bind (m := truthy (.bool _)) (wpAny_truthy_bool ?_)) | exact wpAny_pure ⟨_, rfl, hq⟩ | exact ⟨_, rfl, hq⟩ | wp_step)) fun _ _ e => e)))
      | wp_step)
  unfold richCompare
  simp only [oneThing_ref]
  refine wpAny_holding (wpAny_bind (wpAny_cRoomFor (by omega) ?_))
  refine wpAny_bind (I.type.here (wpAny_bind (hb.here ?_)))
  split
  · rename_i q
    have e : PySem.W.subIn K tb (.ref C) = some false := by
      rcases Bool.or_eq_true_iff.mp hn with e | e
      · rw [beq_iff_eq.mp e] at q; simp at q
      · exact beq_iff_eq.mp e
    refine wpAny_bind ((PySem.W.looks_subIn X e).here ?_)
    simp only [Bool.false_eq_true, if_false]
    refine wpAny_bind (wpAny_mono one (fun r s' z => ?_) fun _ _ e => e)
    obtain ⟨v, rfl, hq⟩ := z
    exact wpAny_pure hq
  · refine wpAny_bind (wpAny_pure ?_)
    simp only [Bool.false_eq_true, if_false]
    refine wpAny_bind (wpAny_mono one (fun r s' z => ?_) fun _ _ e => e)
    obtain ⟨v, rfl, hq⟩ := z
    exact wpAny_pure hq
theorem op_neO (c : Mt X.prog X.w X.K X.mg X.base k C "__eq__" sp) (nc : NeC X.K C) (tc : TyC X.K C) (hr : Room j X.A) (hk : k + 1 ≤ j) (hx : Passes (L2N.CX X.prog X.w) X E) : OpR X (compareOp .NotEq) (rNeO X.K C sp E) := by
  intro pins s σ H x y v u Q I rx ry h
  obtain ⟨a, dx, fs, t, rfl, ha, ty, hn, q⟩ := h
  obtain rfl : v = .ref a := rx
  obtain ⟨P, Z, p, _⟩ := kit_of I ry ty
  obtain ⟨f, fd, ps, c1, hm, F, b⟩ := c.ex
  obtain ⟨mA, O, _, _, _, _⟩ := ins_get I.hok ha
  obtain ⟨od, J, _⟩ := O.look
  obtain ⟨m, Fr⟩ := I.fr
  refine PySem.W.cmp_ofNotEq (ne_K (by have := hr.un; omega) Fr I.ok.mod.kin J (Z.ty _ _ I.kIn p) hn nc tc.hm hm.at_ hm.fn ?_)
  have hl : ([Value.ref a, u] ++ []).length = ps.length := by
    have e := F.len _ _ _ _ q
    rw [← e]
    rfl
  refine wpAny_call (codeAny_mono (F.run X.A.in1 X.stack s H ⟨[.ref a, u], []⟩ [.ref a, u] [.ref a, y] _ E (hr.mono hk).in1 I.env0.in1 (b s [.ref a, u] I.kIn hl) (.cons rfl (.cons ry .nil)) q) fun r s' hq => ?_)
  cases r with
  | error e => exact hx pins σ H s e s' I hq
  | ok fl =>
    cases fl with
    | ret u =>
      obtain ⟨v, H', I3, rv, b, rfl, q3⟩ := I.after hq
      obtain rfl : u = .bool b := rv
      exact ⟨b, rfl, ⟨.bl (!b), H', I3, rfl, q3⟩⟩
    | next => exact False.elim hq
    | brk => exact False.elim hq
    | cont => exact False.elim hq
theorem op_inO (c : Mt X.prog X.w X.K X.mg X.base k C "__contains__" sp) (hr : Room j X.A) (hk : k ≤ j) (hx : Passes (L2N.CX X.prog X.w) X E) : OpR X (compareOp .In) (rInO C sp E) := by
  intro pins s σ H x y v u Q I rx ry h
  obtain ⟨a, dx, fs, rfl, ha, q⟩ := h
  obtain rfl : u = .ref a := ry
  obtain ⟨f, fd, ps, c1, hm, F, b⟩ := c.ex
  obtain ⟨mA, O, _, _, _, _⟩ := ins_get I.hok ha
  obtain ⟨od, J, _⟩ := O.look
  obtain ⟨m, Fr⟩ := I.fr
  refine PySem.W.in_K Fr I.ok.mod.kin J hm.at_ hm.fn ?_
  have hl : ([Value.ref a, v] ++ []).length = ps.length := by
    have e := F.len _ _ _ _ q
    rw [← e]
    rfl
  refine wpAny_call (codeAny_mono (F.run X.A X.stack s H ⟨[.ref a, v], []⟩ [.ref a, v] [.ref a, x] _ E (hr.mono hk) I.env0 (b s [.ref a, v] I.kIn hl) (.cons rfl (.cons rx .nil)) q) fun r s' hq => ?_)
  cases r with
  | error e => exact hx pins σ H s e s' I hq
  | ok fl =>
    cases fl with
    | ret u =>
      obtain ⟨v, H', I3, rv, b, rfl, q3⟩ := I.after hq
      obtain rfl : u = .bool b := rv
      exact wpAny_truthy_bool ⟨.bl b, H', I3, rfl, q3⟩
    | next => exact False.elim hq
    | brk => exact False.elim hq
    | cont => exact False.elim hq
theorem op_notInO (c : Mt X.prog X.w X.K X.mg X.base k C "__contains__" sp) (hr : Room j X.A) (hk : k ≤ j) (hx : Passes (L2N.CX X.prog X.w) X E) : OpR X (compareOp .NotIn) (rNotInO C sp E) := by
  intro pins s σ H x y v u Q I rx ry h
  obtain ⟨a, dx, fs, rfl, ha, q⟩ := h
  obtain rfl : u = .ref a := ry
  obtain ⟨f, fd, ps, c1, hm, F, b⟩ := c.ex
  obtain ⟨mA, O, _, _, _, _⟩ := ins_get I.hok ha
  obtain ⟨od, J, _⟩ := O.look
  obtain ⟨m, Fr⟩ := I.fr
  refine PySem.W.notIn_K Fr I.ok.mod.kin J hm.at_ hm.fn ?_
  have hl : ([Value.ref a, v] ++ []).length = ps.length := by
    have e := F.len _ _ _ _ q
    rw [← e]
    rfl
  refine wpAny_call (codeAny_mono (F.run X.A X.stack s H ⟨[.ref a, v], []⟩ [.ref a, v] [.ref a, x] _ E (hr.mono hk) I.env0 (b s [.ref a, v] I.kIn hl) (.cons rfl (.cons rx .nil)) q) fun r s' hq => ?_)
  cases r with
  | error e => exact hx pins σ H s e s' I hq
  | ok fl =>
    cases fl with
    | ret u =>
      obtain ⟨v, H', I3, rv, b, rfl, q3⟩ := I.after hq
      obtain rfl : u = .bool b := rv
      exact wpAny_truthy_bool ⟨.bl (!b), H', I3, rfl, q3⟩
    | next => exact False.elim hq
    | brk => exact False.elim hq
    | cont => exact False.elim hq
end
/-! methods called in a try -/
def tMethW (C : Addr) (m : Str) (sp : Sp) (E : L2.St → XK) (ta : TE) (t : TA) : TE := fun σ H Q => ta σ H fun x H1 => ∃ a dx fs, x = .ref a ∧ H1 a = some (.ins C dx fs) ∧ fs.lookup m = none ∧ t σ H1 fun vs H2 => sp (x :: (vs ++ [])) H2 Q (E σ)
theorem pe_mtS {X : Cx} {k j : Nat} {C : Addr} {sp : Sp} {W : WX} {m : Str} {pos apos : Pos} {e o : Expr} {es : List Expr} {ta : TE} {t : TA} {pl : Sem Bool} (c : Mt X.prog X.w X.K X.mg X.base k C m sp) (hr : Room j X.A) (hk : k ≤ j)
    (hx : ∀ σ, PassesAt (L2N.CX X.prog X.w) X σ (WE W σ)) (he : PE X o ta) (ha : PA X (e :: es) t) (hst : starEach (e :: es) X.env = (false, eval e X.env) :: starEach es X.env := by rfl) (hpl : (backTo pos (starEach es X.env)).any (·.1) = false := by rfl)
    (ht : eval (.Call (.Attribute o m apos) (e :: es) [] pos) X.env = (do
      let ov ← eval o X.env
      standAt apos.atName
      let (f, first) ← holding [ov] (getMethod ov m pl)
      callWith pos f first (backTo pos (starEach (e :: es) X.env)) (backToKw pos (keywordEach [] X.env))) := by rfl) :
    PE X (.Call (.Attribute o m apos) (e :: es) [] pos) (tMethW C m sp (WE W) ta t) := by
  obtain ⟨f, fd, ps, c1, hm, F, b⟩ := c.ex
  refine ⟨fun pins s σ H Q I h => PySem.W.methodCall_KW (pl := pl) (thn (he.run pins s σ H _ I h) ?_) ht⟩
  rintro u s1 ⟨x, H1, I1, rx, a, dx, fs, rfl, at_, l, q⟩
  obtain rfl : u = Value.ref a := rx
  refine getmeth_ok I1 at_ c1 hm l (PySem.W.callWith_K (first := [.ref a]) (h₀ := X.base) I.ok.mod.kin hm.kp (thn (ha.run pos pins s1 σ H1 _ I1 q) ?_) hst hpl)
  rintro us s2 ⟨vs, H2, I2, r, q2⟩
  exact ⟨I2.kIn, run_fnSD (us := .ref a :: us) (vs := .ref a :: vs) F (hr.mono hk) b .nil (hx σ) I2 (.cons rfl r) q2⟩
/-- list(x) -/
def rListOf (K : PySem.W.Frag) : List V → Hp → VK → Prop := fun xs H Q => ∃ p ys, xs = [.ref p] ∧ (SqL K H p ys ∨ SqT K H p ys) ∧ ∀ l, H l = none → Q (.ref l) (upd H l (.lst ys))
end Md

set_option Elab.async false
set_option linter.all false
set_option maxRecDepth 100000
set_option maxHeartbeats 4000000
namespace Md
open PySem PySem.Spec PyProof.Rows PySem.Calls L2
local macro_rules | `(tactic| walk_at "v") => `(tactic| refine ⟨_, rfl, ?_⟩)
local macro_rules | `(tactic| walk_at "ii") => `(tactic| refine ⟨_, _, rfl, rfl, ?_⟩)
/-! ### layouts in the heap -/
def LayOk (ns ks : List Str) : Prop := ∀ (i : Nat) n k, ns[i]? = some n → ks[i]? = some k → isWord n = true ∧ n ∉ kRES ∧ (k = "number" ∨ k = "word")
def LayAt (A : Ads) (H : Hp) (a : Addr) (ns ks : List Str) : Prop := ∃ dx tn tk, H a = some (.ins A.cLayout dx [("names", .ref tn), ("_kinds", .ref tk)]) ∧ TupF H tn (ns.map V.str) ∧ TupF H tk (ks.map V.str) ∧ ns.length = ks.length ∧
  ns.length ≤ 5 ∧ LayOk ns ks ∧ ∀ (i : Nat) n, ns[i]? = some n → ∀ j, j < i → ns[j]? ≠ some n
theorem TupF.same {H H' : Hp} {a : Addr} {ys : List V} (h : TupF H a ys) (s : Same H H') : TupF H' a ys := by
  obtain ⟨o, h, r⟩ := h
  exact ⟨o, s _ _ h, r⟩
theorem LayAt.same {A : Ads} {H H' : Hp} {a : Addr} {ns ks : List Str} (h : LayAt A H a ns ks) (s : Same H H') : LayAt A H' a ns ks := by
  obtain ⟨dx, tn, tk, h1, h2, h3, h⟩ := h
  exact ⟨dx, tn, tk, s _ _ h1, h2.same s, h3.same s, h⟩
theorem FieldB.some_ {K : PySem.W.Frag} {H : Hp} {x : V} {n k : Str} (h : FieldB K H x (some (n, k))) : ∃ t, x = .ref t ∧ H t = some (.tup [.str n, .str k]) := by
  rcases h with ⟨T, _, _, e⟩ | ⟨a, xs, _, _, _, e⟩ | ⟨a, u, v, nm, rfl, ha, hf, hn, e⟩
  · cases e
  · cases e
  · rcases hn with ⟨_, rfl⟩ | ⟨z, rfl, _, _, rfl⟩
    · cases e
    · by_cases c : z ∈ kRES
      · rw [if_pos c] at e; cases e
      · rw [if_neg c] at e
        cases v with
        | str w =>
          have e' : some (n, k) = (if w = "number" ∨ w = "word" then some w else none : Option Str).map fun k => (z, k) := e
          by_cases d : w = "number" ∨ w = "word"
          · rw [if_pos d] at e'
            cases e'
            exact ⟨a, rfl, ha⟩
          · rw [if_neg d] at e'; cases e'
        | _ => cases e
theorem FieldB.word {K : PySem.W.Frag} {H : Hp} {x : V} {n k : Str} (h : FieldB K H x (some (n, k))) : isWord n = true ∧ n ∉ kRES ∧ (k = "number" ∨ k = "word") := by
  rcases h with ⟨T, _, _, e⟩ | ⟨a, xs, _, _, _, e⟩ | ⟨a, u, v, nm, rfl, ha, hf, hn, e⟩
  · cases e
  · cases e
  · rcases hn with ⟨_, rfl⟩ | ⟨z, rfl, _, hw, rfl⟩
    · cases e
    · by_cases c : z ∈ kRES
      · rw [if_pos c] at e; cases e
      · rw [if_neg c] at e
        cases v with
        | str w =>
          have e' : some (n, k) = (if w = "number" ∨ w = "word" then some w else none : Option Str).map fun k => (z, k) := e
          by_cases d : w = "number" ∨ w = "word"
          · rw [if_pos d] at e'
            cases e'
            exact ⟨hw, c, d⟩
          · rw [if_neg d] at e'; cases e'
        | _ => cases e
theorem SqL.xbI {K : PySem.W.Frag} {H H2 H3 : Hp} {l a C dx : Addr} {xs : List V} {fs : List (Str × V)} (h : SqL K H l xs) (ha : H a = some (.ins C dx fs)) (s : Same H H2) (x : Xb a H2 H3) : SqL K H3 l xs := by
  rcases h with (h | ⟨o, h⟩) | h
  · exact .inl (.inl (x _ _ (ne_of h ha (by intro z; cases z)) (s _ _ h)))
  · exact .inl (.inr ⟨o, x _ _ (ne_of h ha (by intro z; cases z)) (s _ _ h)⟩)
  · exact .inr h
/-! ### Layout.__init__ -/
def t_BadLayout___init__ (K : PySem.W.Frag) (A : Ads) (E : XK) : TS :=
    (tOst K "at" (tVar 0) (tVar 1))
def n_BadLayout___init__ : List Str := ["self", "at"]
def sp_BadLayout___init__ (K : PySem.W.Frag) (A : Ads) : Sp := spXi A.cBadLayout "at"
def t_Layout___init__ (K : PySem.W.Frag) (A : Ads) (E : XK) : TS :=
    (tSeq (tIfS (tOr (tNot (tB (tCB (rIsi K) (tCons (tVar 1) (tCons (tC (.ty "list")) tNil))))) (tNot (tTest (tChain rLe rLe (tC (.int 1)) (tCB (rLen K) (tCons (tVar 1) tNil)) (tC (.int 5)))))) (tRaise E (tMkO A.cBadLayout (sp_BadLayout___init__ K A) [] (tCons (tUn rNeg (tC (.int 1))) tNil))) tNext)
    (tSeq (tAsg (tLst tNil) (gName 2))
    (tSeq (tFor (iEnum K (tCons (tVar 1) tNil)) (gTup K 2 (gCons (gName 3) (gCons (gName 4) gNil))) (tSeq (tIfS (tOr (tNot (tB (tCall (sp__is_field K A) [] E0 (tCons (tVar 4) tNil)))) (tTest (tOp (rIn K false) (tOp (rIx K) (tVar 4) (tC (.int 0))) (tVar 2)))) (tRaise E (tMkO A.cBadLayout (sp_BadLayout___init__ K A) [] (tCons (tVar 3) tNil))) tNext)
    (tDrop (tBM K "list" rAppend (tVar 2) (tCons (tOp (rIx K) (tVar 4) (tC (.int 0))) tNil)))))
    (tSeq (sFld K (tVar 0) (tCB (rTupF K) (tCons (tVar 2) tNil)) "names")
    (sFld K (tVar 0) (tCB (rTupF K) (tCons (tLc (iList K (tVar 1)) (gName 4) tYes (tOp (rIx K) (tVar 4) (tC (.int 1))) [4]) tNil)) "_kinds")))))
def n_Layout___init__ : List Str := ["self", "fields", "names", "at", "field"]
def NoLay (K : PySem.W.Frag) (H : Hp) (x : V) : Prop := (∃ T, TyX K H x (.type T) ∧ T ≠ "list") ∨ ∃ l xs, x = .ref l ∧ SqL K H l xs ∧ TyX K H x (.type "list") ∧ (xs.length = 0 ∨ 5 < xs.length)
theorem kit_list {K : PySem.W.Frag} {H : Hp} {x : V} {T : String} (ty : TyX K H x (.type T)) (hn : T ≠ "list") : kitB T "list" = some false := by
  cases ty with
  | base b => cases b <;> first | exact absurd rfl hn | decide +kernel
  | _ => first | exact absurd rfl hn | decide +kernel
def sp_Layout___init__ (K : PySem.W.Frag) (A : Ads) : Sp := fun vs H Q E => (∃ (a dx : Addr) (x : V), vs = [.ref a, x] ∧ H a = some (.ins A.cLayout dx []) ∧ NoLay K H x ∧ ∀ d H', Same H H' → H' d = some (.xd [("at", .int (-1))]) → E (.ref A.cBadLayout) (some d) H') ∨ ∃ (a dx l : Addr) (xs : List V) (rs : List (Option (Str × Str))) (ns ks : List Str), vs = [.ref a, .ref l] ∧ H a = some (.ins A.cLayout dx []) ∧ SqL K H l xs ∧ TyX K H (.ref l) (.type "list") ∧
  xs.length = rs.length ∧ 1 ≤ xs.length ∧ xs.length ≤ 5 ∧ (∀ (i : Nat) x r, xs[i]? = some x → rs[i]? = some r → FieldB K H x r) ∧ ns.length ≤ rs.length ∧ ks.length = ns.length ∧
  (∀ (i : Nat) n k, ns[i]? = some n → ks[i]? = some k → rs[i]? = some (some (n, k)) ∧ n ∉ ns.take i) ∧
  (ns.length = rs.length → ∀ H', Xb a H H' → LayAt A H' a ns ks → Q .non H') ∧
  (ns.length < rs.length → (∃ r, rs[ns.length]? = some r ∧ ∀ n k, r = some (n, k) → n ∈ ns) ∧ ∀ d H', Xb a H H' → H' d = some (.xd [("at", .int (ns.length : Nat))]) → E (.ref A.cBadLayout) (some d) H')
theorem len_Layout___init__ {K : PySem.W.Frag} {A : Ads} {vs : List V} {H : Hp} {Q : VK} {E : XK} (h : sp_Layout___init__ K A vs H Q E) : vs.length = 2 := by
  rcases h with ⟨a, dx, x, rfl, _⟩ | ⟨a, dx, l, xs, rs, ns, ks, rfl, _⟩ <;> rfl
theorem pure_Layout___init__ {K : PySem.W.Frag} {A : Ads} (cl : Cls K A.cLayout) (nk : NoAttr K A.cLayout "_kinds") (nn : NoAttr K A.cLayout "names") {vs : List V} {H : Hp} {Q : VK} {E : XK} (h : sp_Layout___init__ K A vs H Q E) :
    t_Layout___init__ K A E { nx := fun _ H' => Q .non H', rt := Q } (start n_Layout___init__ vs) H := by
  rcases h with ⟨a, dx, x, rfl, ha, hx, kb⟩ | ⟨a, dx, l, xs, rs, ns, ks, rfl, ha, hl, tl, hxr, h1, h5, hF, hnr, hkn, hG, kok, kbad⟩
  · walk_at "v"
    have fin : ∀ {D : Ends} {σ : L2.St}, tRaise E (tMkO A.cBadLayout (sp_BadLayout___init__ K A) [] (tCons (tUn rNeg (tC (.int 1))) tNil)) D σ H := fun {D σ} => by
      refine ⟨_, rfl, ?_⟩
      exact mk_xi fun d H' s h => kb d H' s h
    rcases hx with ⟨T, ty, hn⟩ | ⟨l, xs, rfl, hl, tl, hlen⟩
    · refine ⟨_, _, _, _, _, rfl, .ty _, ty, kit_ty (kit_list ty hn), ?_⟩
      refine ⟨_, rfl, ?_⟩
      show (if (!false) = true then _ else _)
      refine iteT ?_
      show (if true = true then _ else _)
      refine iteT ?_
      exact fin
    · refine ⟨_, _, _, _, _, rfl, .ty _, tl, kit_ty (by decide +kernel : kitB "list" "list" = some true), ?_⟩
      refine ⟨_, rfl, ?_⟩
      show (if (!true) = true then _ else _)
      refine iteF ?_
      walk_at "v"
      refine ⟨_, _, rfl, .inl ⟨_, hl, rfl⟩, ?_⟩
      walk_at "ii"
      refine ⟨_, rfl, ?_⟩
      refine iteD (fun h1 => ?_) (fun h1 => ?_)
      · walk_at "ii"
        refine ⟨_, rfl, ?_⟩
        refine iteN (fun h5 => absurd h5 (by omega)) (fun h5 => ?_)
        exact fin
      · refine ⟨_, rfl, ?_⟩
        show (if (!false) = true then _ else _)
        refine iteT ?_
        exact fin
  walk_at "v"
  refine ⟨_, _, _, _, _, rfl, .ty _, tl, kit_ty (by decide +kernel : kitB "list" "list" = some true), ?_⟩
  walk_at "v"
  show (if (!true) = true then _ else _)
  refine iteF ?_
  walk_at "v"
  refine ⟨_, _, rfl, .inl ⟨_, hl, rfl⟩, ?_⟩
  walk_at "ii"
  refine ⟨_, rfl, ?_⟩
  refine iteD (fun _ => ?_) (fun h => absurd (by omega) h)
  walk_at "ii"
  refine ⟨_, rfl, ?_⟩
  refine iteN (fun _ => ?_) (fun h => absurd (by omega) h)
  -- names = []
  refine ⟨by show 0 ≤ sizeLine; decide, fun nl hnl => ?_⟩
  have s0 := Same.new (o := .lst []) hnl
  walk_at "v"
  refine ⟨l, xs, rfl, Md.Same.sqL s0 hl, ?_⟩
  refine for_it (walk_enum (K := K) (a := l) (xs := xs)) (fun i σ H' => i ≤ ns.length ∧ Same H H' ∧ (∃ w3 w4, σ = [some (.ref a), some (.ref l), some (.ref nl), w3, w4]) ∧ H' nl = some (.lst ((ns.take i).map V.str)))
    ⟨Nat.zero_le _, s0, ⟨_, _, rfl⟩, upd_same⟩ (fun i σ H' _ z => Md.Same.sqL z.2.1 hl) ?_ ?_
  · rintro i x σ H1 H1' hi ⟨him, s1, ⟨w3, w4, rfl⟩, hnl1⟩ ⟨T, y0, y, rfl, hT, rfl, ey0, hy⟩
    cases ey0
    have sT := Same.new (o := .tup [.int (i : Nat), y]) hT
    have s2 := Same.trans s1 sT
    refine ⟨T, _, rfl, SqT.of upd_same, rfl, _, _, rfl, _, _, rfl, rfl, ?_⟩
    have hnl2 := sT _ _ hnl1
    generalize upd H1 T (.tup [.int (i : Nat), y]) = H2 at hnl2 s2 ⊢
    obtain ⟨r, hr⟩ : ∃ r, rs[i]? = some r := ⟨rs[i], List.getElem?_eq_getElem (by omega)⟩
    have hf := (hF i y r hy hr).mono s2
    walk_at "v"
    refine ⟨y, r, rfl, hf, fun H3 s3 => ?_⟩
    have hnl3 := s3 _ _ hnl2
    have s3' := Same.trans s2 s3
    refine ⟨_, rfl, ?_⟩
    rcases Nat.lt_or_ge i ns.length with hlt | hge
    · obtain ⟨n, en⟩ : ∃ n, ns[i]? = some n := ⟨ns[i], List.getElem?_eq_getElem hlt⟩
      obtain ⟨k, ek⟩ : ∃ k, ks[i]? = some k := ⟨ks[i], List.getElem?_eq_getElem (by omega)⟩
      obtain ⟨er, hni⟩ := hG i n k en ek
      rw [hr] at er
      cases er
      obtain ⟨t, rfl, ht⟩ := (hf.mono s3).some_
      show (if (!true) = true then _ else _)
      refine iteF ?_
      walk_at "v"
      refine Or.inr (Or.inl ⟨_, _, _, _, rfl, rfl, SqT.of ht, rfl, ?_⟩)
      walk_at "v"
      refine ⟨nl, _, rfl, .inl (SqL.of hnl3), rfl, flat_strs _, ?_⟩
      refine ⟨_, rfl, ?_⟩
      have e : inV (.str n) ((ns.take i).map V.str) = false := by rw [inV_strs]; exact decide_eq_false hni
      show (if inV (.str n) ((ns.take i).map V.str) = true then _ else _)
      rw [e]
      refine iteF ?_
      walk_at "v"
      refine ⟨.inl ⟨rfl, _, SqL.of hnl3⟩, ?_⟩
      walk_at "v"
      refine Or.inr (Or.inl ⟨_, _, _, _, rfl, rfl, SqT.of ht, rfl, ?_⟩)
      refine ⟨nl, _, _, rfl, rfl, hnl3, ?_, ?_⟩
      · rw [List.length_map, List.length_take]
        exact Nat.lt_of_le_of_lt (Nat.min_le_right _ _) (Nat.lt_of_lt_of_le (show ns.length < 6 by omega) (by decide))
      · refine ⟨hlt, fun b o hb => ?_, ⟨_, _, rfl⟩, ?_⟩
        · rw [upd_ne (ne_of_none hb hnl)]
          exact s3' b o hb
        · rw [upd_same, List.take_succ, en]
          simp
    · obtain ⟨⟨r', er', hr'⟩, kb⟩ := kbad (by omega)
      have ei : i = ns.length := by omega
      subst ei
      rw [hr] at er'
      cases er'
      cases r with
      | none =>
        show (if (!false) = true then _ else _)
        refine iteT ?_
        show (if true = true then _ else _)
        refine iteT ?_
        walk_at "v"
        exact mk_xi fun d H' s h => kb d H' (Xb.of (Same.trans s3' s)) h
      | some q =>
        obtain ⟨n, k⟩ := q
        have hin := hr' n k rfl
        obtain ⟨t, rfl, ht⟩ := (hf.mono s3).some_
        show (if (!true) = true then _ else _)
        refine iteF ?_
        walk_at "v"
        refine Or.inr (Or.inl ⟨_, _, _, _, rfl, rfl, SqT.of ht, rfl, ?_⟩)
        walk_at "v"
        refine ⟨nl, _, rfl, .inl (SqL.of hnl3), rfl, flat_strs _, ?_⟩
        refine ⟨_, rfl, ?_⟩
        have e : inV (.str n) ((ns.take ns.length).map V.str) = true := by rw [inV_strs, List.take_length]; exact decide_eq_true hin
        show (if inV (.str n) ((ns.take ns.length).map V.str) = true then _ else _)
        rw [e]
        refine iteT ?_
        walk_at "v"
        exact mk_xi fun d H' s h => kb d H' (Xb.of (Same.trans s3' s)) h
  · rintro σ H1 ⟨him, s1, ⟨w3, w4, rfl⟩, hnl1⟩
    have em : ns.length = rs.length := by omega
    have et : ns.take xs.length = ns := List.take_of_length_le (by omega)
    rw [et] at hnl1
    walk_at "v"
    refine ⟨nl, _, rfl, SqL.of hnl1, fun tn on htn hcn hdn => ?_⟩
    have sn := Same.new (o := .frz on (.tup (ns.map V.str))) htn
    have s2 := Same.trans s1 sn
    have gtn : TupF (upd H1 tn (.frz on (.tup (ns.map V.str)))) tn (ns.map V.str) := ⟨on, upd_same, hcn, hdn⟩
    generalize upd H1 tn (.frz on (.tup (ns.map V.str))) = H2 at gtn s2 ⊢
    walk_at "v"
    have ha2 := s2 _ _ ha
    refine ⟨a, A.cLayout, dx, [], rfl, ha2, cl, nn, by decide, ?_⟩
    have x3 : Xb a H2 (upd H2 a (.ins A.cLayout dx (putF "names" (.ref tn) []))) := Xb.upd Xb.refl
    have ha3 : (upd H2 a (.ins A.cLayout dx (putF "names" (.ref tn) []))) a = some (.ins A.cLayout dx [("names", .ref tn)]) := upd_same
    generalize upd H2 a (.ins A.cLayout dx (putF "names" (.ref tn) [])) = H3 at x3 ha3 ⊢
    have hl3 := SqL.xbI hl ha s2 x3
    have ntn : tn ≠ a := by
      obtain ⟨o, e, _⟩ := gtn
      exact ne_of e ha2 (by intro z; cases z)
    have gtn3 : TupF H3 tn (ns.map V.str) := by
      obtain ⟨o, e, r⟩ := gtn
      exact ⟨o, x3 _ _ ntn e, r⟩
    walk_at "v"
    refine ⟨l, rfl, ⟨xs, hl3⟩, fun D hD => ?_⟩
    refine lc_list (K := K) (a := l) (xs := xs) (fun i H' => Same H3 H' ∧ H' D = some (.lst ((ks.take i).map V.str))) ⟨Same.new hD, upd_same⟩ (fun i H' _ z => Same.sqL z.1 hl3) ?_ ?_
    · rintro i x H4 hx ⟨s4, hD4⟩
      have hi : i < ns.length := by
        have := (List.getElem?_eq_some_iff.mp hx).1
        omega
      obtain ⟨n, en⟩ : ∃ n, ns[i]? = some n := ⟨ns[i], List.getElem?_eq_getElem hi⟩
      obtain ⟨k, ek⟩ : ∃ k, ks[i]? = some k := ⟨ks[i], List.getElem?_eq_getElem (by omega)⟩
      obtain ⟨t, rfl, ht⟩ := (hF i x _ hx (hG i n k en ek).1).some_
      have ht2 := s2 _ _ ht
      have ht4 := s4 _ _ (x3 t _ (ne_of ht2 ha2 (by intro z; cases z)) ht2)
      refine ⟨rfl, ?_⟩
      walk_at "v"
      refine Or.inr (Or.inl ⟨_, _, _, _, rfl, rfl, SqT.of ht4, rfl, ?_⟩)
      refine ⟨_, hD4, ?_, fun b o hb => ?_, ?_⟩
      · rw [List.length_map, List.length_take]
        exact Nat.lt_of_le_of_lt (Nat.min_le_right _ _) (Nat.lt_of_lt_of_le (show ks.length < 6 by omega) (by decide))
      · rw [upd_ne (ne_of_none hb hD)]
        exact s4 b o hb
      · rw [upd_same, List.take_succ, ek]
        simp
    · rintro H4 ⟨s4, hD4⟩
      have ek : ks.take xs.length = ks := List.take_of_length_le (by omega)
      rw [ek] at hD4
      refine ⟨D, _, rfl, SqL.of hD4, fun tk ok_ htk hck hdk => ?_⟩
      have s5 := Same.trans s4 (Same.new (o := .frz ok_ (.tup (ks.map V.str))) htk)
      have gtk : TupF (upd H4 tk (.frz ok_ (.tup (ks.map V.str)))) tk (ks.map V.str) := ⟨ok_, upd_same, hck, hdk⟩
      generalize upd H4 tk (.frz ok_ (.tup (ks.map V.str))) = H5 at gtk s5 ⊢
      have ha5 := s5 _ _ ha3
      walk_at "v"
      refine ⟨a, A.cLayout, dx, _, rfl, ha5, cl, nk, by show 1 < 1000; decide, ?_⟩
      have ntk : tk ≠ a := by
        obtain ⟨o, e, _⟩ := gtk
        exact ne_of e ha5 (by intro z; cases z)
      refine kok em _ (fun b o nb hb => ?_) ⟨dx, tn, tk, upd_same, ?_, ?_, hkn.symm, by omega, fun i n k e1 e2 => ?_, fun i n hn j hj hjn => ?_⟩
      · rw [upd_ne nb]
        exact s5 _ _ (x3 _ _ nb (s2 _ _ hb))
      · obtain ⟨o, e, r⟩ := gtn3
        exact ⟨o, by rw [upd_ne ntn]; exact s5 _ _ e, r⟩
      · obtain ⟨o, e, r⟩ := gtk
        exact ⟨o, by rw [upd_ne ntk]; exact e, r⟩
      · have er := (hG i n k e1 e2).1
        have hi : i < rs.length := (List.getElem?_eq_some_iff.mp er).1
        have hx : xs[i]? = some xs[i] := List.getElem?_eq_getElem (by omega)
        exact (hF i _ _ hx er).word
      · have hi : i < ns.length := (List.getElem?_eq_some_iff.mp hn).1
        obtain ⟨k, ek⟩ : ∃ k, ks[i]? = some k := ⟨ks[i], List.getElem?_eq_getElem (by omega)⟩
        refine (hG i n k hn ek).2 (List.mem_of_getElem? (i := j) ?_)
        rw [List.getElem?_take_of_lt hj]
        exact hjn
/-! ### its length, a field's kind -/
def t_Layout___len__ (K : PySem.W.Frag) (A : Ads) (E : XK) : TS :=
    (tRet (tCB (rLen K) (tCons (tFld K (tVar 0) "names") tNil)))
def n_Layout___len__ : List Str := ["self"]
def sp_Layout___len__ (K : PySem.W.Frag) (A : Ads) : Sp := fun vs H Q _ => ∃ (a : Addr) (ns ks : List Str), vs = [.ref a] ∧ LayAt A H a ns ks ∧ Q (.int (ns.length : Nat)) H
theorem len_Layout___len__ {K : PySem.W.Frag} {A : Ads} {vs : List V} {H : Hp} {Q : VK} {E : XK} (h : sp_Layout___len__ K A vs H Q E) : vs.length = 1 := by
  obtain ⟨a, _, _, rfl, _⟩ := h
  rfl
theorem pure_Layout___len__ {K : PySem.W.Frag} {A : Ads} (cl : Cls K A.cLayout) (nn : NoAttr K A.cLayout "names") {vs : List V} {H : Hp} {Q : VK} {E : XK} (h : sp_Layout___len__ K A vs H Q E) :
    t_Layout___len__ K A E { nx := fun _ H' => Q .non H', rt := Q } (start n_Layout___len__ vs) H := by
  obtain ⟨a, ns, ks, rfl, ⟨dx, tn, tk, ha, gn, gk, r⟩, k⟩ := h
  walk_at "v"
  refine ⟨a, _, dx, _, _, rfl, ha, cl, nn, rfl, ?_⟩
  refine ⟨_, _, rfl, .inr ⟨_, gn.seq, rfl⟩, ?_⟩
  rw [List.length_map]
  exact k
def t_BadField___init__ (K : PySem.W.Frag) (A : Ads) (E : XK) : TS :=
    (tOst K "name" (tVar 0) (tVar 1))
def n_BadField___init__ : List Str := ["self", "name"]
def sp_BadField___init__ (K : PySem.W.Frag) (A : Ads) : Sp := spXi A.cBadField "name"
def t_Layout_kind (K : PySem.W.Frag) (A : Ads) (E : XK) : TS :=
    (tSeq (tIfS (tTest (tOp (rNotInT2 K) (tVar 1) (tFld K (tVar 0) "names"))) (tRaise E (tMkO A.cBadField (sp_BadField___init__ K A) [] (tCons (tVar 1) tNil))) tNext)
    (tRet (tOp (rIx K) (tFld K (tVar 0) "_kinds") (tBMF (rTIdx K) (tFld K (tVar 0) "names") (tCons (tVar 1) tNil)))))
def n_Layout_kind : List Str := ["self", "name"]
def sp_Layout_kind (K : PySem.W.Frag) (A : Ads) : Sp := fun vs H Q E => ∃ (a : Addr) (x : V) (d : PyData) (ns ks : List Str), vs = [.ref a, x] ∧ LayAt A H a ns ks ∧ Dp K H x d ∧ SeqAt.shaped d = true ∧
  (∀ (i : Nat) n k, x = .str n → ns[i]? = some n → ks[i]? = some k → Q (.str k) H) ∧ (inD ns d = false → ∀ dd H', Same H H' → H' dd = some (.xd [("name", x)]) → E (.ref A.cBadField) (some dd) H')
theorem len_Layout_kind {K : PySem.W.Frag} {A : Ads} {vs : List V} {H : Hp} {Q : VK} {E : XK} (h : sp_Layout_kind K A vs H Q E) : vs.length = 2 := by
  obtain ⟨a, _, _, _, _, rfl, _⟩ := h
  rfl
theorem LayOk.strs {ns ks : List Str} (h : LayOk ns ks) (e : ns.length = ks.length) : ∀ n ∈ ns, isWord n = true ∧ n ∉ kRES := fun n hn => by
  obtain ⟨i, hi, e1⟩ := List.getElem_of_mem hn
  have z := h i n (ks[i]) (by rw [List.getElem?_eq_getElem hi, e1]) (List.getElem?_eq_getElem (by omega))
  exact ⟨z.1, z.2.1⟩
theorem LayOk.shaped {ns ks : List Str} (h : LayOk ns ks) (e : ns.length = ks.length) : SeqAt.shaped (.tuple (ns.map PyData.str)) = true := shaped_tupS fun n hn => word_ok (h.strs e n hn).1
theorem LayOk.kinds {ns ks : List Str} (h : LayOk ns ks) (e : ns.length = ks.length) : ∀ k ∈ ks, k = "number" ∨ k = "word" := fun k hk => by
  obtain ⟨i, hi, e1⟩ := List.getElem_of_mem hk
  exact (h i (ns[i]) k (List.getElem?_eq_getElem (by omega)) (by rw [List.getElem?_eq_getElem hi, e1])).2.2
theorem LayOk.shapedK {ns ks : List Str} (h : LayOk ns ks) (e : ns.length = ks.length) : SeqAt.shaped (.tuple (ks.map PyData.str)) = true := shaped_tupS fun k hk => by
  rcases h.kinds e k hk with rfl | rfl <;> decide +kernel
theorem pure_Layout_kind {K : PySem.W.Frag} {A : Ads} (cl : Cls K A.cLayout) (nk : NoAttr K A.cLayout "_kinds") (nn : NoAttr K A.cLayout "names") {vs : List V} {H : Hp} {Q : VK} {E : XK} (h : sp_Layout_kind K A vs H Q E) :
    t_Layout_kind K A E { nx := fun _ H' => Q .non H', rt := Q } (start n_Layout_kind vs) H := by
  obtain ⟨a, x, d, ns, ks, rfl, ⟨dx, tn, tk, ha, gn, gk, hnk, h5, hok, hd⟩, hx, hs, k1, k2⟩ := h
  walk_at "v"; walk_at "v"
  refine ⟨a, _, dx, _, _, rfl, ha, cl, nn, rfl, ?_⟩
  refine .inr ⟨d, _, hx, dp_tupS gn.seq, hs, hok.shaped hnk, ?_⟩
  refine ⟨_, rfl, ?_⟩
  show (if (!inD ns d) = true then _ else _)
  refine iteBN (fun hin => ?_) (fun hin => ?_)
  · obtain ⟨n, rfl, hn⟩ := inD_true hin
    obtain rfl := dp_str_inv hx
    obtain ⟨i, hi, e⟩ := List.getElem_of_mem hn
    have en : ns[i]? = some n := by rw [List.getElem?_eq_getElem hi, e]
    obtain ⟨k, ek⟩ : ∃ k, ks[i]? = some k := ⟨ks[i], List.getElem?_eq_getElem (by omega)⟩
    walk_at "v"
    refine ⟨a, _, dx, _, _, rfl, ha, cl, nk, rfl, ?_⟩
    walk_at "v"
    refine ⟨a, _, dx, _, _, rfl, ha, cl, nn, rfl, ?_⟩
    refine ⟨⟨tn, _, rfl, gn⟩, ?_⟩
    walk_at "v"
    refine ⟨tn, ns, n, i, rfl, rfl, gn.seq, en, fun m hm => hd i n en m hm, ?_⟩
    refine Or.inr (Or.inl ⟨_, _, _, _, rfl, rfl, gk.seq, ?_, k1 i n k rfl en ek⟩)
    have hik : i < (ks.map V.str).length := by rw [List.length_map]; omega
    obtain ⟨x, e1, e2⟩ := atI_of (xs := ks.map V.str) (d := (i : Int)) (by omega) (by omega)
    rw [e1]
    have e3 : (i : Int).toNat = i := by omega
    rw [e3, List.getElem?_map, ek] at e2
    exact e2.symm
  · walk_at "v"
    exact mk_xi fun d H' s h => k2 hin d H' s h
/-! ### a name among the fields; equal layouts -/
def t_Layout___contains__ (K : PySem.W.Frag) (A : Ads) (E : XK) : TS :=
    (tRet (tOp (rInT2 K) (tVar 1) (tFld K (tVar 0) "names")))
def n_Layout___contains__ : List Str := ["self", "name"]
def sp_Layout___contains__ (K : PySem.W.Frag) (A : Ads) : Sp := fun vs H Q _ => ∃ (a : Addr) (x : V) (d : PyData) (ns ks : List Str), vs = [.ref a, x] ∧ LayAt A H a ns ks ∧ Dp K H x d ∧ SeqAt.shaped d = true ∧ Q (.bl (inD ns d)) H
theorem len_Layout___contains__ {K : PySem.W.Frag} {A : Ads} {vs : List V} {H : Hp} {Q : VK} {E : XK} (h : sp_Layout___contains__ K A vs H Q E) : vs.length = 2 := by
  obtain ⟨a, _, _, _, _, rfl, _⟩ := h
  rfl
theorem pure_Layout___contains__ {K : PySem.W.Frag} {A : Ads} (cl : Cls K A.cLayout) (nn : NoAttr K A.cLayout "names") {vs : List V} {H : Hp} {Q : VK} {E : XK} (h : sp_Layout___contains__ K A vs H Q E) :
    t_Layout___contains__ K A E { nx := fun _ H' => Q .non H', rt := Q } (start n_Layout___contains__ vs) H := by
  obtain ⟨a, x, d, ns, ks, rfl, ⟨dx, tn, tk, ha, gn, gk, hnk, h5, hok, hd⟩, hx, hs, k⟩ := h
  walk_at "v"; walk_at "v"
  refine ⟨a, _, dx, _, _, rfl, ha, cl, nn, rfl, ?_⟩
  exact .inr ⟨d, _, hx, dp_tupS gn.seq, hs, hok.shaped hnk, k⟩
theorem eqv_strs : ∀ (xs ys : List Str), PyData.eqvAll (xs.map PyData.str) (ys.map PyData.str) = decide (xs = ys)
  | [], [] => by simp [PyData.eqvAll]
  | x :: xs, [] => by simp [PyData.eqvAll]
  | [], y :: ys => by simp [PyData.eqvAll]
  | x :: xs, y :: ys => by
    have ih := eqv_strs xs ys
    simp only [List.map_cons, PyData.eqvAll, PyData.eqv, ih, List.cons.injEq]
    by_cases c : x = y <;> by_cases d : xs = ys <;> simp [c, d]
/-- what stands beside a layout in ==: another layout, or a thing of a built-in type -/
def LayEq (K : PySem.W.Frag) (A : Ads) (H : Hp) (ns ks : List Str) (y : V) (b : Bool) : Prop := (∃ T, TyX K H y (.type T) ∧ offB T = true ∧ b = false) ∨ ∃ a ms ls, y = .ref a ∧ LayAt A H a ms ls ∧ b = decide (ns = ms ∧ ks = ls)
theorem LayEq.ty {K : PySem.W.Frag} {A : Ads} {H : Hp} {ns ks : List Str} {y : V} {b : Bool} (cl : Cls K A.cLayout) (tc : TyC K A.cLayout) (h : LayEq K A H ns ks y b) : ∃ t, TyX K H y t ∧ PySem.W.notFirst K A.cLayout t = true := by
  rcases h with ⟨T, ty, ho, _⟩ | ⟨a, ms, ls, rfl, ⟨dx, _, _, ha, _⟩, _⟩
  · exact ⟨_, ty, nf_off ho⟩
  · exact ⟨_, tc.ty cl ha, nf_self⟩
def t_Layout___eq__ (K : PySem.W.Frag) (A : Ads) (E : XK) : TS :=
    (tRet (tAndV (tCB (rIsi K) (tCons (tVar 1) (tCons (tC (.ref A.cLayout)) tNil))) (tAndV (tOp (rEqD K) (tFld K (tVar 0) "names") (tFld K (tVar 1) "names")) (tOp (rEqD K) (tFld K (tVar 0) "_kinds") (tFld K (tVar 1) "_kinds")))))
def n_Layout___eq__ : List Str := ["self", "other"]
def sp_Layout___eq__ (K : PySem.W.Frag) (A : Ads) : Sp := fun vs H Q _ => ∃ (a : Addr) (y : V) (ns ks : List Str) (b : Bool), vs = [.ref a, y] ∧ LayAt A H a ns ks ∧ LayEq K A H ns ks y b ∧ Q (.bl b) H
theorem len_Layout___eq__ {K : PySem.W.Frag} {A : Ads} {vs : List V} {H : Hp} {Q : VK} {E : XK} (h : sp_Layout___eq__ K A vs H Q E) : vs.length = 2 := by
  obtain ⟨a, _, _, _, _, rfl, _⟩ := h
  rfl
theorem pure_Layout___eq__ {K : PySem.W.Frag} {A : Ads} (cl : Cls K A.cLayout) (nk : NoAttr K A.cLayout "_kinds") (nn : NoAttr K A.cLayout "names") (tc : TyC K A.cLayout) {vs : List V} {H : Hp} {Q : VK} {E : XK} (h : sp_Layout___eq__ K A vs H Q E) :
    t_Layout___eq__ K A E { nx := fun _ H' => Q .non H', rt := Q } (start n_Layout___eq__ vs) H := by
  obtain ⟨a, y, ns, ks, b, rfl, ⟨dx, tn, tk, ha, gn, gk, hnk, h5, hok, hd⟩, hy, k⟩ := h
  walk_at "v"
  rcases hy with ⟨T, ty, ho, rfl⟩ | ⟨a2, ms, ls, rfl, ⟨dx2, tn2, tk2, ha2, gn2, gk2, hnk2, h52, hok2, hd2⟩, rfl⟩
  · refine ⟨_, _, _, _, _, rfl, .own _, ty, tc.off ho, ?_⟩
    exact ⟨_, rfl, iteF k⟩
  · refine ⟨_, _, _, _, _, rfl, .own _, tc.ty cl ha2, TyC.self, ?_⟩
    refine ⟨_, rfl, iteT ?_⟩
    walk_at "v"
    refine ⟨a, _, dx, _, _, rfl, ha, cl, nn, rfl, ?_⟩
    walk_at "v"
    refine ⟨a2, _, dx2, _, _, rfl, ha2, cl, nn, rfl, ?_⟩
    refine ⟨_, _, dp_tupS gn.seq, dp_tupS gn2.seq, hok.shaped hnk, hok2.shaped hnk2, ?_⟩
    have e : PyData.eqv (.tuple (ns.map PyData.str)) (.tuple (ms.map PyData.str)) = decide (ns = ms) := by rw [← eqv_strs]; simp [PyData.eqv]
    rw [e]
    refine ⟨_, rfl, ?_⟩
    refine iteD (fun h1 => ?_) (fun h1 => ?_)
    · walk_at "v"
      refine ⟨a, _, dx, _, _, rfl, ha, cl, nk, rfl, ?_⟩
      walk_at "v"
      refine ⟨a2, _, dx2, _, _, rfl, ha2, cl, nk, rfl, ?_⟩
      refine ⟨_, _, dp_tupS gk.seq, dp_tupS gk2.seq, hok.shapedK hnk, hok2.shapedK hnk2, ?_⟩
      have e : PyData.eqv (.tuple (ks.map PyData.str)) (.tuple (ls.map PyData.str)) = decide (ns = ms ∧ ks = ls) := by
        have : decide (ns = ms ∧ ks = ls) = decide (ks = ls) := by simp [h1]
        rw [this, ← eqv_strs]; simp [PyData.eqv]
      rw [e]
      exact k
    · have e : decide (ns = ms ∧ ks = ls) = false := by simp [h1]
      rw [e] at k
      exact k
end Md

set_option Elab.async false
set_option linter.all false
set_option maxRecDepth 100000
set_option maxHeartbeats 4000000
namespace Md
open PySem PySem.Spec PyProof.Rows PySem.Calls L2
local macro_rules | `(tactic| walk_at "v") => `(tactic| refine ⟨_, rfl, ?_⟩)
local macro_rules | `(tactic| walk_at "ii") => `(tactic| refine ⟨_, _, rfl, rfl, ?_⟩)
/-! ### what a field may hold -/
def HoldB (K : PySem.W.Frag) (H : Hp) (kd : Str) (x : V) (b : Bool) : Prop := (x = .non ∧ b = true) ∨ (x ≠ .non ∧ ((kd = "number" ∧ NumB K H x b) ∨ (kd ≠ "number" ∧ WordB K H x b)))
theorem HoldB.mono {K : PySem.W.Frag} {H H' : Hp} {kd : Str} {x : V} {b : Bool} (h : HoldB K H kd x b) (s : Same H H') : HoldB K H' kd x b := by
  rcases h with h | ⟨h, ⟨e, h2⟩ | ⟨e, h2⟩⟩
  · exact .inl h
  · exact .inr ⟨h, .inl ⟨e, h2.mono s⟩⟩
  · exact .inr ⟨h, .inr ⟨e, h2.mono s⟩⟩
def t_is_value (K : PySem.W.Frag) (A : Ads) (E : XK) : TS :=
    (tRet (tIf (tTest (tOp rEq (tVar 0) (tC (.str "number")))) (tCall (sp_is_number K A) [] E0 (tCons (tVar 1) tNil)) (tCall (sp_is_word K A) [] E0 (tCons (tVar 1) tNil))))
def n_is_value : List Str := ["kind", "thing"]
def ValB (K : PySem.W.Frag) (H : Hp) (kd : Str) (x : V) (b : Bool) : Prop := (kd = "number" ∧ NumB K H x b) ∨ (kd ≠ "number" ∧ WordB K H x b)
theorem ValB.mono {K : PySem.W.Frag} {H H' : Hp} {kd : Str} {x : V} {b : Bool} (h : ValB K H kd x b) (s : Same H H') : ValB K H' kd x b := by
  rcases h with ⟨e, h2⟩ | ⟨e, h2⟩
  · exact .inl ⟨e, h2.mono s⟩
  · exact .inr ⟨e, h2.mono s⟩
def sp_is_value (K : PySem.W.Frag) (A : Ads) : Sp := fun vs H Q _ => ∃ (kd : Str) (x : V) (b : Bool), vs = [.str kd, x] ∧ ValB K H kd x b ∧ ∀ H', Same H H' → Q (.bl b) H'
theorem len_is_value {K : PySem.W.Frag} {A : Ads} {vs : List V} {H : Hp} {Q : VK} {E : XK} (h : sp_is_value K A vs H Q E) : vs.length = 2 := by
  obtain ⟨a, _, _, rfl, _⟩ := h
  rfl
theorem pure_is_value {K : PySem.W.Frag} {A : Ads} {vs : List V} {H : Hp} {Q : VK} {E : XK} (h : sp_is_value K A vs H Q E) : t_is_value K A E { nx := fun _ H' => Q .non H', rt := Q } (start n_is_value vs) H := by
  obtain ⟨kd, x, b, rfl, h, k⟩ := h
  walk_at "v"
  refine ⟨rfl, ?_⟩
  refine ⟨_, rfl, ?_⟩
  refine iteD (fun hk => ?_) (fun hk => ?_)
  · rcases h with ⟨_, h⟩ | ⟨h, _⟩
    · walk_at "v"
      exact ⟨x, b, rfl, h, k H (Same.refl H)⟩
    · exact absurd (by injection hk) h
  · rcases h with ⟨h, _⟩ | ⟨_, h⟩
    · exact absurd (congrArg V.str h) hk
    · walk_at "v"
      exact ⟨x, b, rfl, h, k⟩
/-! ### first_wrong -/
def Holds1 (K : PySem.W.Frag) (H : Hp) (ns ks : List Str) (kvs : List (Key × V)) (i : Nat) (b : Bool) : Prop := ∀ n k, ns[i]? = some n → ks[i]? = some k → (b = true ∧ valV kvs (.inr n) = none) ∨ ∃ v, valV kvs (.inr n) = some v ∧ HoldB K H k v b
theorem Holds1.mono {K : PySem.W.Frag} {H H' : Hp} {ns ks : List Str} {kvs : List (Key × V)} {i : Nat} {b : Bool} (h : Holds1 K H ns ks kvs i b) (s : Same H H') : Holds1 K H' ns ks kvs i b := fun n k e1 e2 => by
  rcases h n k e1 e2 with h | ⟨v, e, h⟩
  · exact .inl h
  · exact .inr ⟨v, e, h.mono s⟩
def t_first_wrong (K : PySem.W.Frag) (A : Ads) (E : XK) : TS :=
    (tSeq (tFor (iTup K (tFld K (tVar 0) "names")) (gName 2) (tSeq (tAsg (tDGet1 (tVar 1) (tVar 2)) (gName 3))
    (tIfS (tAnd (tTest (tOp rNotN (tVar 3) (tC .non))) (tNot (tB (tCall (sp_is_value K A) [] E0 (tCons (tMeth A.cLayout "kind" (sp_Layout_kind K A) [] E (tVar 0) (tCons (tVar 2) tNil)) (tCons (tVar 3) tNil)))))) (tRet (tVar 2)) tNext)))
    (tRet (tC .non)))
def n_first_wrong : List Str := ["layout", "values", "name", "value"]
def sp_first_wrong (K : PySem.W.Frag) (A : Ads) : Sp := fun vs H Q _ => ∃ (a d : Addr) (ns ks : List Str) (kvs : List (Key × V)) (m : Nat), vs = [.ref a, .ref d] ∧ LayAt A H a ns ks ∧ H d = some (.dK kvs) ∧ m ≤ ns.length ∧
  (∀ i, i < m → Holds1 K H ns ks kvs i true) ∧ (m = ns.length → ∀ H', Same H H' → Q .non H') ∧ (m < ns.length → Holds1 K H ns ks kvs m false ∧ ∀ n H', ns[m]? = some n → Same H H' → Q (.str n) H')
theorem len_first_wrong {K : PySem.W.Frag} {A : Ads} {vs : List V} {H : Hp} {Q : VK} {E : XK} (h : sp_first_wrong K A vs H Q E) : vs.length = 2 := by
  obtain ⟨a, _, _, _, _, _, rfl, _⟩ := h
  rfl
theorem pure_first_wrong {K : PySem.W.Frag} {A : Ads} (cl : Cls K A.cLayout) (nn : NoAttr K A.cLayout "names") {vs : List V} {H : Hp} {Q : VK} {E : XK} (h : sp_first_wrong K A vs H Q E) :
    t_first_wrong K A E { nx := fun _ H' => Q .non H', rt := Q } (start n_first_wrong vs) H := by
  obtain ⟨a, d, ns, ks, kvs, m, rfl, lay, hd, hm, hok, k1, k2⟩ := h
  have lay0 := lay
  obtain ⟨dx, tn, tk, ha, gn, gk, hnk, h5, hok0, hdup⟩ := lay0
  walk_at "v"
  refine ⟨a, _, dx, _, _, rfl, ha, cl, nn, rfl, ?_⟩
  refine ⟨tn, rfl, ⟨_, gn.seq⟩, ?_⟩
  refine for_tup (K := K) (a := tn) (xs := ns.map V.str) (fun i σ H' => i ≤ m ∧ Same H H' ∧ ∃ w2 w3, σ = [some (.ref a), some (.ref d), w2, w3]) ⟨Nat.zero_le _, Same.refl H, _, _, rfl⟩ (fun i σ H' _ z => (gn.same z.2.1).seq) ?_ ?_
  · rintro i x σ H1 hx ⟨him, s1, w2, w3, rfl⟩
    have hi : i < ns.length := by
      have := (List.getElem?_eq_some_iff.mp hx).1
      rwa [List.length_map] at this
    obtain ⟨n, en⟩ : ∃ n, ns[i]? = some n := ⟨ns[i], List.getElem?_eq_getElem hi⟩
    obtain ⟨k, ek⟩ : ∃ k, ks[i]? = some k := ⟨ks[i], List.getElem?_eq_getElem (by omega)⟩
    rw [List.getElem?_map, en] at hx
    cases hx
    have hd1 := s1 _ _ hd
    have lay1 := lay.same s1
    walk_at "v"
    refine ⟨d, rfl, .inl ⟨kvs, .inl hd1⟩, ?_⟩
    walk_at "v"
    refine ⟨valV kvs (.inr n), DGet.k (k := .inr n) hd1, ?_⟩
    generalize hx : (valV kvs (.inr n)).getD .non = x
    have sg : SeqAt.shaped (.str n) = true := by
      unfold SeqAt.shaped
      simp [PyData.canLay0, PyData.depth, word_ok (hok0.strs hnk n (List.mem_of_getElem? en)).1]
    -- the rest of the test, when the value is not blank
    have rest : ∀ b, ValB K H k x b → ∀ Q2 : Bool → Hp → Prop, (∀ H', Same H H' → Q2 (!b) H') →
        tNot (tB (tCall (sp_is_value K A) [] E0 (tCons (tMeth A.cLayout "kind" (sp_Layout_kind K A) [] E (tVar 0) (tCons (tVar 2) tNil)) (tCons (tVar 3) tNil)))) [some (.ref a), some (.ref d), some (.str n), some x] H1 Q2 := by
      intro b hb Q2 hQ2
      walk_at "v"
      refine ⟨a, dx, _, rfl, s1 _ _ ha, rfl, ?_⟩
      walk_at "v"
      refine ⟨a, .str n, .str n, ns, ks, rfl, lay1, .str n, sg, fun i' n' k' en' e1 e2 => ?_, fun hn => ?_⟩
      · cases en'
        have ei : i' = i := by
          rcases Nat.lt_trichotomy i' i with z | z | z
          · exact absurd e1 (hdup i n en i' z)
          · exact z
          · exact absurd en (hdup i' n e1 i z)
        subst ei
        rw [ek] at e2
        cases e2
        walk_at "v"
        refine ⟨k, x, b, rfl, hb.mono s1, fun H2 s2 => ?_⟩
        exact ⟨_, rfl, hQ2 _ (Same.trans s1 s2)⟩
      · rw [inD_str, decide_eq_false_iff_not] at hn
        exact absurd (List.mem_of_getElem? en) hn
    rcases Nat.lt_or_ge i m with hlt | hge
    · walk_at "v"
      refine ⟨rfl, ?_⟩
      refine ⟨_, rfl, ?_⟩
      refine iteN (fun hx0 => ?_) (fun hx0 => ?_)
      · refine iteF ?_
        exact ⟨hlt, s1, _, _, rfl⟩
      · rcases hok i hlt n k en ek with ⟨_, hv⟩ | ⟨v, hv, hb⟩
        · rw [hv] at hx
          exact absurd hx.symm hx0
        · rw [hv] at hx
          obtain rfl : v = x := hx
          rcases hb with ⟨z, _⟩ | ⟨_, hb⟩
          · exact absurd z hx0
          refine rest true hb _ fun H' s' => ?_
          refine iteF ?_
          exact ⟨hlt, s', _, _, rfl⟩
    · have ei : i = m := by omega
      subst ei
      obtain ⟨hw, kr⟩ := k2 hi
      rcases hw n k en ek with ⟨hb, _⟩ | ⟨v, hv, hb⟩
      · cases hb
      · rw [hv] at hx
        obtain rfl : v = x := hx
        rcases hb with ⟨_, z⟩ | ⟨hx0, hb⟩
        · cases z
        walk_at "v"
        refine ⟨rfl, ?_⟩
        refine ⟨_, rfl, ?_⟩
        refine iteN (fun z => absurd z hx0) (fun _ => ?_)
        refine rest false hb _ fun H' s' => ?_
        refine iteT ?_
        walk_at "v"
        exact kr n H' en s'
  · rintro σ H1 ⟨him, s1, w2, w3, rfl⟩
    rw [List.length_map] at him
    exact k1 (by omega) H1 s1
/-! ### is_filling -/
def HasB (K : PySem.W.Frag) (H : Hp) (ns : List Str) (x : V) (b : Bool) : Prop := (∃ T, TyX K H x (.type T) ∧ T ≠ "dict" ∧ b = false) ∨
  ∃ d kvs, x = .ref d ∧ H d = some (.dK kvs) ∧ b = (decide (kvs.length = ns.length) && ns.all fun n => (valV kvs (.inr n)).isSome)
theorem kit_dict {K : PySem.W.Frag} {H : Hp} {x : V} {T : String} (ty : TyX K H x (.type T)) (hn : T ≠ "dict") : kitB T "dict" = some false := by
  cases ty with
  | base b => cases b <;> first | exact absurd rfl hn | decide +kernel
  | _ => first | exact absurd rfl hn | decide +kernel
def t__has_all_fields (K : PySem.W.Frag) (A : Ads) (E : XK) : TS :=
    (tRet (tAndV (tCB (rIsi K) (tCons (tVar 1) (tCons (tC (.ty "dict")) tNil))) (tAndV (tOp rEq (tCB rLenD (tCons (tVar 1) tNil)) (tCB (rLenO A.cLayout (sp_Layout___len__ K A) E0) (tCons (tVar 0) tNil))) (tCB (rAll K) (tCons (tLc (iTup K (tFld K (tVar 0) "names")) (gName 2) tYes (tDIn (tVar 2) (tVar 1)) [2]) tNil)))))
def n__has_all_fields : List Str := ["layout", "thing", "name"]
def sp__has_all_fields (K : PySem.W.Frag) (A : Ads) : Sp := fun vs H Q _ => ∃ (a : Addr) (x : V) (ns ks : List Str) (b : Bool), vs = [.ref a, x] ∧ LayAt A H a ns ks ∧ HasB K H ns x b ∧ ∀ H', Same H H' → Q (.bl b) H'
theorem len__has_all_fields {K : PySem.W.Frag} {A : Ads} {vs : List V} {H : Hp} {Q : VK} {E : XK} (h : sp__has_all_fields K A vs H Q E) : vs.length = 2 := by
  obtain ⟨a, _, _, _, _, rfl, _⟩ := h
  rfl
theorem pure__has_all_fields {K : PySem.W.Frag} {A : Ads} (cl : Cls K A.cLayout) (nn : NoAttr K A.cLayout "names") {vs : List V} {H : Hp} {Q : VK} {E : XK} (h : sp__has_all_fields K A vs H Q E) :
    t__has_all_fields K A E { nx := fun _ H' => Q .non H', rt := Q } (start n__has_all_fields vs) H := by
  obtain ⟨a, x, ns, ks, b, rfl, lay, hb, k⟩ := h
  have lay0 := lay
  obtain ⟨dx, tn, tk, ha, gn, gk, hnk, h5, hok0, hdup⟩ := lay0
  walk_at "v"
  rcases hb with ⟨T, ty, hn, rfl⟩ | ⟨d, kvs, rfl, hd, rfl⟩
  · refine ⟨_, _, _, _, _, rfl, .ty _, ty, kit_ty (kit_dict ty hn), ?_⟩
    exact ⟨_, rfl, iteF (k H (Same.refl H))⟩
  · refine ⟨_, _, _, _, _, rfl, .ty _, .base (.dK hd), kit_ty (by decide +kernel : kitB "dict" "dict" = some true), ?_⟩
    refine ⟨_, rfl, iteT ?_⟩
    walk_at "v"
    refine ⟨d, kvs, rfl, hd, ?_⟩
    walk_at "v"
    refine ⟨a, dx, _, rfl, ha, a, ns, ks, rfl, lay, _, rfl, by omega, ?_, ?_⟩
    · have : (2 : Int) ^ 63 = 9223372036854775808 := by decide
      omega
    refine ⟨rfl, ?_⟩
    refine ⟨_, rfl, ?_⟩
    refine iteD (fun he => ?_) (fun he => ?_)
    · have he' : kvs.length = ns.length := by injection he with he; omega
      walk_at "v"
      refine ⟨a, _, dx, _, _, rfl, ha, cl, nn, rfl, ?_⟩
      refine ⟨tn, rfl, ⟨_, gn.seq⟩, fun D hD => ?_⟩
      refine lc_tup (K := K) (a := tn) (xs := ns.map V.str) (fun i H' => Same H H' ∧ H' D = some (.lst ((ns.take i).map fun n => V.bl (valV kvs (.inr n)).isSome))) ⟨Same.new hD, upd_same⟩ (fun i H' _ z => (gn.same z.1).seq) ?_ ?_
      · rintro i x H1 hx ⟨s1, hl⟩
        have hi : i < ns.length := by
          have := (List.getElem?_eq_some_iff.mp hx).1
          rwa [List.length_map] at this
        obtain ⟨n, en⟩ : ∃ n, ns[i]? = some n := ⟨ns[i], List.getElem?_eq_getElem hi⟩
        rw [List.getElem?_map, en] at hx
        cases hx
        refine ⟨rfl, ?_⟩
        walk_at "v"; walk_at "v"
        refine ⟨d, _, rfl, DGet.k (k := .inr n) (s1 _ _ hd), ?_⟩
        refine ⟨_, hl, ?_, fun b o hb => ?_, ?_⟩
        · rw [List.length_map, List.length_take]
          exact Nat.lt_of_le_of_lt (Nat.min_le_right _ _) (Nat.lt_of_lt_of_le (show ns.length < 6 by omega) (by decide))
        · rw [upd_ne (ne_of_none hb hD)]
          exact s1 b o hb
        · rw [upd_same, List.take_succ, en]
          simp
      · rintro H1 ⟨s1, hl⟩
        rw [List.length_map, List.take_length] at hl
        refine ⟨D, ns.map fun n => (valV kvs (.inr n)).isSome, rfl, SqL.of (by rw [List.map_map]; exact hl), ?_⟩
        have e3 : (ns.map fun n => (valV kvs (.inr n)).isSome).all id = (decide (kvs.length = ns.length) && ns.all fun n => (valV kvs (.inr n)).isSome) := by
          rw [List.all_map, decide_eq_true he', Bool.true_and]
          rfl
        rw [e3]
        exact k H1 s1
    · have e3 : (decide (kvs.length = ns.length) && ns.all fun n => (valV kvs (.inr n)).isSome) = false := by
        rw [decide_eq_false (fun z => he (by rw [z])), Bool.false_and]
      rw [e3] at k
      exact k H (Same.refl H)
def FillB (K : PySem.W.Frag) (H : Hp) (ns ks : List Str) (x : V) (b : Bool) : Prop := (HasB K H ns x false ∧ b = false) ∨ ∃ d kvs m, x = .ref d ∧ H d = some (.dK kvs) ∧ HasB K H ns x true ∧ m ≤ ns.length ∧ (∀ i, i < m → Holds1 K H ns ks kvs i true) ∧
  ((m = ns.length ∧ b = true) ∨ (m < ns.length ∧ Holds1 K H ns ks kvs m false ∧ b = false))
def t_Layout_is_filling (K : PySem.W.Frag) (A : Ads) (E : XK) : TS :=
    (tRet (tAndV (tCall (sp__has_all_fields K A) [] E0 (tCons (tVar 0) (tCons (tVar 1) tNil))) (tOp rIsN (tCall (sp_first_wrong K A) [] E (tCons (tVar 0) (tCons (tVar 1) tNil))) (tC .non))))
def n_Layout_is_filling : List Str := ["self", "thing"]
def sp_Layout_is_filling (K : PySem.W.Frag) (A : Ads) : Sp := fun vs H Q _ => ∃ (a : Addr) (x : V) (ns ks : List Str) (b : Bool), vs = [.ref a, x] ∧ LayAt A H a ns ks ∧ FillB K H ns ks x b ∧ ∀ H', Same H H' → Q (.bl b) H'
theorem len_Layout_is_filling {K : PySem.W.Frag} {A : Ads} {vs : List V} {H : Hp} {Q : VK} {E : XK} (h : sp_Layout_is_filling K A vs H Q E) : vs.length = 2 := by
  obtain ⟨a, _, _, _, _, rfl, _⟩ := h
  rfl
theorem pure_Layout_is_filling {K : PySem.W.Frag} {A : Ads} {vs : List V} {H : Hp} {Q : VK} {E : XK} (h : sp_Layout_is_filling K A vs H Q E) :
    t_Layout_is_filling K A E { nx := fun _ H' => Q .non H', rt := Q } (start n_Layout_is_filling vs) H := by
  obtain ⟨a, x, ns, ks, b, rfl, lay, hb, k⟩ := h
  walk_at "v"; walk_at "v"
  rcases hb with ⟨hb, rfl⟩ | ⟨d, kvs, m, rfl, hd, hb, hm, hok, hr⟩
  · refine ⟨a, x, ns, ks, false, rfl, lay, hb, fun H1 s1 => ?_⟩
    exact ⟨_, rfl, iteF (k H1 s1)⟩
  · refine ⟨a, .ref d, ns, ks, true, rfl, lay, hb, fun H1 s1 => ?_⟩
    refine ⟨_, rfl, iteT ?_⟩
    walk_at "v"; walk_at "v"
    refine ⟨a, d, ns, ks, kvs, m, rfl, lay.same s1, s1 _ _ hd, hm, fun i hi => (hok i hi).mono s1, fun em H2 s2 => ?_, fun hlt => ?_⟩
    · rcases hr with ⟨_, rfl⟩ | ⟨h, _⟩
      · exact ⟨rfl, k H2 (Same.trans s1 s2)⟩
      · omega
    · rcases hr with ⟨h, _⟩ | ⟨_, hw, rfl⟩
      · omega
      · exact ⟨hw.mono s1, fun n H2 en s2 => ⟨rfl, k H2 (Same.trans s1 s2)⟩⟩
end Md

set_option Elab.async false
set_option linter.all false
set_option maxRecDepth 100000
/-! the head's hook with the interpreter's statics (a class's constants are read there) -/
namespace Md
open PySem PySem.Spec PyProof.Rows PySem.Calls L2
structure SaysM (fa : List He.Fa) (fn : List He.DefD) (ex : PySem.W.Frag → Bool) (K : PySem.W.Frag) : Prop where
  d : He.SaysD fa fn K
  more : ex K = true
def frM (g : Addr → Option Obj) (n : Nat) : PySem.W.Frag := He.frT g (He.asD g n ++ [cStatics])
def obsM (n : Nat) (fa : List He.Fa) (fn : List He.DefD) (ex : PySem.W.Frag → Bool) (g : Addr → Option Obj) : He.AlD × Bool := (He.obsD fa fn (frM g n), ex (frM g n))
def hookM (n : Nat) (fa : List He.Fa) (fn : List He.DefD) (ex : PySem.W.Frag → Bool) : PySem.W.Hook where
  α := He.AlD × Bool
  obs := fun s => obsM n fa fn ex s.heap.get?
  val := fun _ => (He.valD fn, true)
  says := fun _ h => ∃ K : PySem.W.Frag, K.In h ∧ SaysM fa fn ex K
  of := fun _ _ e => ⟨_, He.frT_in, ⟨congrArg (fun z : He.AlD × Bool => z.1) e, congrArg (fun z : He.AlD × Bool => z.2) e⟩⟩
  keeps := fun _ _ _ ⟨K, hK, c⟩ k => ⟨K, PySem.W.Frag.In.keeps hK k, c⟩
theorem obsM_eq {n : Nat} {fa : List He.Fa} {fn : List He.DefD} {ex : PySem.W.Frag → Bool} {g : Addr → Option Obj} {s : Shared} (h : ∀ a, g a = s.heap.get? a) : obsM n fa fn ex g = (hookM n fa fn ex).obs s := by
  have e : g = s.heap.get? := funext h
  rw [e] <;> rfl
end Md

set_option Elab.async false
set_option linter.all false
set_option maxRecDepth 100000
set_option maxHeartbeats 4000000
set_option exponentiation.threshold 20000
namespace Md
open PySem PySem.Spec PyProof.Rows PySem.Calls L2
local macro_rules | `(tactic| walk_at "v") => `(tactic| refine ⟨_, rfl, ?_⟩)
local macro_rules | `(tactic| walk_at "ii") => `(tactic| refine ⟨_, _, rfl, rfl, ?_⟩)
local macro_rules | `(tactic| walk_at "fls") => `(tactic| (refine ⟨_, rfl, ?_⟩; show (if (!true) = true then _ else _); refine iteF ?_))
local macro_rules | `(tactic| walk_at "isnt") => `(tactic| (refine ⟨_, _, rfl, rfl, _, rfl, ?_⟩; refine iteN (fun _ => ?_) fun h => absurd rfl h))
/-! ### _law_word -/
def t__law_word (K : PySem.W.Frag) (A : Ads) (E : XK) : TS :=
    (tRet (tM1 (rJoin K) (tC (.str "")) (tLc (iRng1 (tCons (tOp rAdd (tC (.int 1)) (tCall (sp__law_take K A) [] E0 (tCons (tVar 0) (tCons (tC (.int 8)) tNil)))) tNil)) (gName 1) tYes (tCall (sp__law_of K A) [] E0 (tCons (tVar 0) (tCons (tC (.str "abcdefghijklmnopqrstuvwxyz")) tNil))) [1])))
def n__law_word : List Str := ["_law_bag_here", "_law_turn"]
def sp__law_word (K : PySem.W.Frag) (A : Ads) : Sp := fun vs H Q _ => ∃ (b : Addr) (n : Nat), vs = [.ref b] ∧ Bag (n + 9) H b ∧ ∀ (z : Str) H', isWord z = true → Xb b H H' → Bag n H' b → Q (.str z) H'
theorem len__law_word {K : PySem.W.Frag} {A : Ads} {vs : List V} {H : Hp} {Q : VK} {E : XK} (h : sp__law_word K A vs H Q E) : vs.length = 1 := by
  obtain ⟨x, w, rfl, _⟩ := h
  rfl
theorem pure__law_word {K : PySem.W.Frag} {A : Ads} {vs : List V} {H : Hp} {Q : VK} {E : XK} (h : sp__law_word K A vs H Q E) : t__law_word K A E { nx := fun _ H' => Q .non H', rt := Q } (start n__law_word vs) H := by
  obtain ⟨b, n, rfl, hB, k⟩ := h
  refine ⟨⟨_, rfl⟩, ?_⟩
  walk_at "v"
  refine ⟨b, 8, n + 8, rfl, hB, by decide, by decide, fun d H1 d0 d1 x1 hB1 => ?_⟩
  walk_at "ii"
  refine ⟨1 + d, rfl, by omega, by omega, fun D hD => ?_⟩
  have nD : D ≠ b := by
    rintro rfl
    obtain ⟨L, e⟩ := hB1.at_
    rw [hD] at e
    cases e
  refine lc_range (lo := 0) (n := (1 + d).toNat) (fun i H' => Xb b H H' ∧ Bag (n + 8 - i) H' b ∧ (∀ q o, H q = some o → q ≠ D) ∧ ∃ cs : List Nat, cs.length = i ∧ (∀ c ∈ cs, isL c = true) ∧ H' D = some (.lst ((cs.map one).map V.str)))
    ⟨fun q o nq hq => ?_, hB1.same (Same.new hD), ?_, [], rfl, (by intro _ z; cases z), upd_same⟩ ?_ ?_
  · have := x1 q o nq hq
    rw [upd_ne (ne_of_none this hD)]
    exact this
  · rintro q o hq rfl
    have := x1 q o nD hq
    rw [hD] at this
    cases this
  · rintro i H2 hi ⟨x2, hB2, hnD, cs, hlen, hcs, hl⟩
    refine ⟨rfl, ?_⟩
    walk_at "v"
    refine ⟨b, n + 8 - (i + 1), hB2.mono (by omega), .inr ⟨_, rfl, by decide, by decide, fun c H3 hc x3 hB3 => ?_⟩⟩
    have hl3 := x3 _ _ nD hl
    refine ⟨_, hl3, ?_, fun q o nq hq => ?_, ?_, hnD, cs ++ [c], ?_, fun c' hc' => ?_, ?_⟩
    · rw [List.length_map, List.length_map]
      exact Nat.lt_of_lt_of_le (show cs.length < 9 by omega) (by decide)
    · rw [upd_ne (hnD q o hq)]
      exact x3 q o nq (x2 q o nq hq)
    · obtain ⟨L, S, C, e, r⟩ := hB3
      exact ⟨L, S, C, by rw [upd_ne (Ne.symm nD)]; exact e, r⟩
    · rw [List.length_append, hlen]; rfl
    · rcases List.mem_append.mp hc' with h | h
      · exact hcs c' h
      · have e := List.mem_singleton.mp h
        subst e
        exact decide_eq_true hc
    · rw [upd_same]
      simp [one]
  · rintro H2 ⟨x2, hB2, hnD, cs, hlen, hcs, hl⟩
    have c0 : 1 ≤ cs.length := by omega
    have c8 : cs.length ≤ 8 := by omega
    refine ⟨_, D, cs.map one, rfl, rfl, .inl (SqL.of hl), ?_, ?_⟩
    · rw [ones_sum, List.length_map]
      show cs.length + cs.length * 0 ≤ 16777216
      omega
    · rw [join_ones cs (by intro z; rw [z] at c0; exact absurd c0 (by decide))]
      exact k _ _ (isWord_of c0 c8 hcs) x2 (hB2.mono (by omega))
/-! ### _law_reserved -/
theorem reserved_split : Txt.split "and or not in given true false blank number word needs instead after blames check guard barrier repair default" " " = kRES.take 19 := by decide +kernel
def t__law_reserved (K : PySem.W.Frag) (A : Ads) (E : XK) : TS :=
    (tSeq (tAsg (tC (.str "and or not in given true false blank number word needs instead after blames check guard barrier repair default")) (gName 0))
    (tRet (tOp rCat (tM1 rSplitS (tVar 0) (tC (.str " "))) (tLst (tCons (tC (.str "exit")) (tCons (tC (.str "self")) tNil))))))
def n__law_reserved : List Str := ["_law_words"]
def sp__law_reserved (K : PySem.W.Frag) (A : Ads) : Sp := fun vs H Q _ => vs = [] ∧ ∀ p H', H p = none → Same H H' → H' p = some (.lst kRESERVED) → Q (.ref p) H'
theorem len__law_reserved {K : PySem.W.Frag} {A : Ads} {vs : List V} {H : Hp} {Q : VK} {E : XK} (h : sp__law_reserved K A vs H Q E) : vs.length = 0 := by
  rw [h.1]; rfl
theorem pure__law_reserved {K : PySem.W.Frag} {A : Ads} {vs : List V} {H : Hp} {Q : VK} {E : XK} (h : sp__law_reserved K A vs H Q E) : t__law_reserved K A E { nx := fun _ H' => Q .non H', rt := Q } (start n__law_reserved vs) H := by
  obtain ⟨rfl, k⟩ := h
  walk_at "v"
  refine ⟨⟨_, rfl⟩, _, _, rfl, rfl, by decide, by decide +kernel, ?_⟩
  rw [reserved_split]
  intro p hp
  have s1 := Same.new (o := .lst ((kRES.take 19).map V.str)) hp
  refine ⟨by show 2 ≤ sizeLine; decide, fun p2 hp2 => ?_⟩
  have s2 := Same.new (o := .lst [V.str "exit", V.str "self"]) hp2
  refine ⟨p, p2, _, _, rfl, rfl, s2 _ _ upd_same, upd_same, by show 21 ≤ sizeLine; decide, fun p3 hp3 => ?_⟩
  have s3 := Same.new (o := .lst ((kRES.take 19).map V.str ++ [V.str "exit", V.str "self"])) hp3
  have S := Same.trans s1 (Same.trans s2 s3)
  refine k p3 _ ((Same.trans s1 s2).free hp3) S ?_
  exact upd_same
/-! ### _law_is_name -/
theorem word_q : isWord "q" = true := by decide +kernel
def tb__law_is_name (K : PySem.W.Frag) (A : Ads) (W : WX) : TS := (tAsg (tMakeS A.cLayout (sp_Layout___init__ K A) (WE W) (tCons (tLst (tCons (tTup (tCons (tC (.str "q")) (tCons (tC (.str "word")) tNil))) (tCons (tTup (tCons (tVar 0) (tCons (tC (.str "number")) tNil))) tNil))) tNil)) (gName 2))
def ts__law_is_name (K : PySem.W.Frag) (A : Ads) (a : Addr) (cls : Value) (d : Option Addr) : TS := (tRet (tIf (tTest (tOp rEq (tXf a cls d A.cBadLayout "at" (tVar 1)) (tC (.int 1)))) (tC (.bl false)) (tC .non)))
def t__law_is_name (K : PySem.W.Frag) (A : Ads) (E : XK) : TS :=
    (tSeq (fun D σ H => tb__law_is_name K A (wAs K (.ref A.cBadLayout) 1 (ts__law_is_name K A) (fun _ _ _ _ => False) D) D σ H)
    (tRet (tIf (tTest (tOp (rEqD K) (tFld K (tVar 2) "names") (tTup (tCons (tC (.str "q")) (tCons (tVar 0) tNil))))) (tC (.bl true)) (tC .non))))
def n__law_is_name : List Str := ["_law_thing", "e", "_law_layout"]
def sp__law_is_name (K : PySem.W.Frag) (A : Ads) : Sp := fun vs H Q _ => ∃ (x : V) (nm : Option Str), vs = [x] ∧ NameW K H x nm ∧ nm ≠ some ("q" : Str) ∧ ∀ H', Same H H' → Q (.bl nm.isSome) H'
theorem len__law_is_name {K : PySem.W.Frag} {A : Ads} {vs : List V} {H : Hp} {Q : VK} {E : XK} (h : sp__law_is_name K A vs H Q E) : vs.length = 1 := by
  obtain ⟨x, w, rfl, _⟩ := h
  rfl
theorem pure__law_is_name {K : PySem.W.Frag} {A : Ads} (cl : Cls K A.cLayout) (nn : NoAttr K A.cLayout "names") (xm : PySem.W.exmOne K (.ref A.cBadLayout) (.ref A.cBadLayout) = some true) {vs : List V} {H : Hp} {Q : VK} {E : XK} (h : sp__law_is_name K A vs H Q E) :
    t__law_is_name K A E { nx := fun _ H' => Q .non H', rt := Q } (start n__law_is_name vs) H := by
  obtain ⟨x, nm, rfl, hn, hq, k⟩ := h
  refine ⟨by show 2 ≤ sizeLine; decide, fun t1 ht1 => ?_⟩
  have s1 := Same.new (o := .tup [.str "q", .str "word"]) ht1
  walk_at "v"
  refine ⟨by show 2 ≤ sizeLine; decide, fun t2 ht2 => ?_⟩
  have s2 := Same.new (o := .tup [x, .str "number"]) ht2
  refine ⟨by show 2 ≤ sizeLine; decide, fun l hl => ?_⟩
  have s3 := Same.new (o := .lst [.ref t1, .ref t2]) hl
  have S := Same.trans s1 (Same.trans s2 s3)
  have g1 := (Same.trans s2 s3) _ _ (upd_same (H := H) (a := t1) (o := .tup [.str "q", .str "word"]))
  have g2 := s3 _ _ (upd_same (H := upd H t1 (.tup [.str "q", .str "word"])) (a := t2) (o := .tup [x, .str "number"]))
  have g3 : (upd (upd (upd H t1 (.tup [.str "q", .str "word"])) t2 (.tup [x, .str "number"])) l (.lst [.ref t1, .ref t2])) l = some (.lst [.ref t1, .ref t2]) := upd_same
  generalize upd (upd (upd H t1 (.tup [.str "q", .str "word"])) t2 (.tup [x, .str "number"])) l (.lst [.ref t1, .ref t2]) = H3 at S g1 g2 g3 ⊢
  intro a dx ha hdx hne
  have sd := Same.new (o := .own a) hdx
  have ha' : upd H3 dx (.own a) a = none := by rw [upd_ne (Ne.symm hne)]; exact ha
  have se := Same.new (o := .ins A.cLayout dx []) ha'
  have S4 := Same.trans S (Same.trans sd se)
  have S34 := Same.trans sd se
  have ga : (upd (upd H3 dx (.own a)) a (.ins A.cLayout dx [])) a = some (.ins A.cLayout dx []) := upd_same
  have haH : ∀ q o, H q = some o → q ≠ a := fun q o e => ne_of_none (S q o e) ha
  generalize upd (upd H3 dx (.own a)) a (.ins A.cLayout dx []) = H4 at S4 S34 ga ⊢
  have f1 : FieldB K H4 (.ref t1) (some ("q", "word")) := .inr (.inr ⟨t1, _, _, some "q", rfl, S34 _ _ g1, .inl rfl, .inr ⟨"q", rfl, by decide, word_q, by decide +kernel⟩, by decide +kernel⟩)
  have f2 : FieldB K H4 (.ref t2) (nm.map fun n => (n, "number")) := .inr (.inr ⟨t2, _, _, nm, rfl, S34 _ _ g2, .inl rfl, hn.mono S4, by cases nm <;> first | rfl | decide +kernel | skip⟩)
  have hF : ∀ (rs : List (Option (Str × Str))), rs = [some (("q" : Str), ("word" : Str)), nm.map fun n => (n, ("number" : Str))] → ∀ (i : Nat) (y : V) (r : Option (Str × Str)), [V.ref t1, V.ref t2][i]? = some y → rs[i]? = some r → FieldB K H4 y r := by
    rintro rs rfl i y r e1 e2
    match i with
    | 0 => cases e1; cases e2; exact f1
    | 1 => cases e1; cases e2; exact f2
    | i + 2 => cases e1
  have tl : TyX K H4 (.ref l) (.type "list") := .base (.lst (S34 _ _ g3))
  cases nm with
  | none =>
    refine .inr ⟨a, dx, l, _, [some ("q", "word"), none], ["q"], ["word"], rfl, ga, SqL.of (S34 _ _ g3), tl, rfl, by show 1 ≤ 2; decide, by show 2 ≤ 5; decide, hF _ rfl, by show 1 ≤ 2; decide, rfl, ?_, fun h => absurd h (by show ¬ 1 = 2; decide), fun _ => ⟨⟨none, rfl, fun _ _ z => nomatch z⟩, fun d H5 x5 hd => ?_⟩⟩
    · intro i n k e1 e2
      match i with
      | 0 => cases e1; cases e2; exact ⟨rfl, fun z => nomatch z⟩
      | i + 1 => cases e1
    refine ⟨true, xm, fun _ e he => ?_, fun q => Bool.noConfusion q⟩
    walk_at "v"
    refine ⟨rfl, rfl, d, _, _, rfl, hd, rfl, ?_⟩
    refine ⟨rfl, ?_⟩
    refine ⟨_, rfl, ?_⟩
    refine iteD (fun _ => ?_) (fun h => absurd rfl h)
    exact k H5 fun q o hq => x5 q o (haH q o hq) (S4 q o hq)
  | some z =>
    have hz : z ≠ "q" := fun e => hq (by rw [e])
    have hx : x = .str z ∧ isWord z = true := by
      rcases hn with ⟨_, e⟩ | ⟨z', rfl, _, hw, e⟩
      · cases e
      · by_cases c : z' ∈ kRES
        · rw [if_pos c] at e; cases e
        · rw [if_neg c] at e
          cases e
          exact ⟨rfl, hw⟩
    obtain ⟨rfl, hw⟩ := hx
    refine .inr ⟨a, dx, l, _, [some ("q", "word"), some (z, "number")], ["q", z], ["word", "number"], rfl, ga, SqL.of (S34 _ _ g3), tl, rfl, by show 1 ≤ 2; decide, by show 2 ≤ 5; decide, hF _ rfl, by show 2 ≤ 2; decide, rfl, ?_, fun _ H5 x5 lay => ?_, fun h => absurd h (by show ¬ 2 < 2; decide)⟩
    · intro i n k e1 e2
      match i with
      | 0 => cases e1; cases e2; exact ⟨rfl, fun z => nomatch z⟩
      | 1 => cases e1; cases e2; exact ⟨rfl, fun h => hz (List.mem_singleton.mp h)⟩
      | i + 2 => cases e1
    refine ⟨rfl, ?_⟩
    obtain ⟨dx', tn, tk, h1, h2, h3, _⟩ := lay
    walk_at "v"
    refine ⟨a, _, dx', _, _, rfl, h1, cl, nn, rfl, ?_⟩
    walk_at "v"
    refine ⟨by show 2 ≤ sizeLine; decide, fun t3 ht3 => ?_⟩
    have s6 := Same.new (o := .tup [.str "q", .str z]) ht3
    have h26 : SqT K (upd H5 t3 (.tup [.str "q", .str z])) tn [.str "q", .str z] := (h2.same s6).seq
    refine ⟨_, _, dp_strs h26, dp_strs (SqT.of upd_same), shaped_strs (by decide +kernel) (word_ok hw), shaped_strs (by decide +kernel) (word_ok hw), ?_⟩
    have e : PyData.eqv (.tuple [.str "q", .str z]) (.tuple [.str "q", .str z]) = true := by simp [PyData.eqv, PyData.eqvAll]
    rw [e]
    refine ⟨_, rfl, ?_⟩
    refine iteT ?_
    exact k _ fun q o hq => s6 q o (x5 q o (haH q o hq) (S4 q o hq))
/-! ### _law_wrong -/
theorem cut8_len {x : Str} (h : 8 ≤ x.length) : (cutS x none (some 8)).length = 8 := by
  show ((x.cps.toList.drop (HT.sIx x.length 0 none)).take (HT.sIx x.length x.length (some ((8 : Nat) : Int)) - HT.sIx x.length 0 none)).toArray.size = 8
  rw [HT.sIx_nat, HT.sIx_none, List.size_toArray, List.length_take, List.length_drop, Array.length_toList]
  have e : x.length = x.cps.size := rfl
  omega
theorem sz_small {n : Nat} (h : n ≤ 100) : n ≤ sizeLine := Nat.le_trans h (by decide)
theorem cutadd {z w : Str} {lo hi : Option Int} (h : z.length ≤ 8) (hw : w.length ≤ 8) : (cutS z lo hi).length + w.length ≤ sizeLine := sz_small (by have := cutS_length z lo hi; omega)
theorem addcut {z w : Str} {lo hi : Option Int} (h : z.length ≤ 8) (hw : w.length ≤ 8) : w.length + (cutS z lo hi).length ≤ sizeLine := sz_small (by have := cutS_length z lo hi; omega)
local macro_rules | `(tactic| walk_at "cut") => `(tactic| (refine ⟨_, rfl, ?_⟩; refine ⟨_, rfl, ?_⟩; refine ⟨_, rfl, ?_⟩; refine ⟨_, rfl, by assumption, ?_⟩; refine ⟨_, _, rfl, rfl, cutadd (by assumption) (by decide), ?_⟩))
theorem cut_le {z : Str} (h : z.length ≤ 8) (lo hi : Option Int) : (cutS z lo hi).length ≤ 8 := Nat.le_trans (cutS_length z lo hi) h
def t__law_wrong (K : PySem.W.Frag) (A : Ads) (E : XK) : TS :=
    (tSeq (tAsg (tOp rAddS (tSl rSlS (tOp rAddS (tVar 0) (tC (.str "abcdefgh"))) tNoPart (tPart (tC (.int 8)))) (tC (.str "z"))) (gName 1))
    (tSeq (tAsg (tLst (tCons (tM0 rUpperS (tVar 0)) (tCons (tOp rAddS (tSl rSlS (tVar 0) tNoPart (tPart (tUn rNeg (tC (.int 1))))) (tC (.str "Q"))) (tCons (tC (.str "")) (tCons (tVar 1) (tCons (tOp rAddS (tSl rSlS (tVar 0) tNoPart (tPart (tUn rNeg (tC (.int 1))))) (tC (.str " "))) (tCons (tOp rAddS (tC (.str " ")) (tSl rSlS (tVar 0) (tPart (tC (.int 1))) tNoPart)) (tCons (tOp rAddS (tSl rSlS (tVar 0) tNoPart (tPart (tUn rNeg (tC (.int 1))))) (tC (.str "7"))) (tCons (tOp rAddS (tSl rSlS (tVar 0) tNoPart (tPart (tUn rNeg (tC (.int 1))))) (tC (.str "_"))) tNil))))))))) (gName 2))
    (tRet (tOp rCat (tVar 2) (tLst (tCons (tC .non) (tCons (tC (.bl true)) (tCons (tC (.int 3)) (tCons (tLst (tCons (tVar 0) tNil)) (tCons (tTup (tCons (tVar 0) tNil)) (tCons (tDisp (((tVar 0), (tC (.int 1))) :: [])) (tCons (tOp rAddS (tSl rSlS (tVar 0) tNoPart (tPart (tUn rNeg (tC (.int 1))))) (tC (.str "-"))) (tCons (tOp rAddS (tSl rSlS (tVar 0) tNoPart (tPart (tUn rNeg (tC (.int 1))))) (tC (.str "'"))) tNil)))))))))))))
def n__law_wrong : List Str := ["_law_word_here", "_law_long", "_law_found"]
def sp__law_wrong (K : PySem.W.Frag) (A : Ads) : Sp := fun vs H Q _ => ∃ z : Str, vs = [.str z] ∧ isWord z = true ∧ ∀ l H' xs, H l = none → Same H H' → H' l = some (.lst xs) → (∀ x ∈ xs, WordB K H' x false) → Q (.ref l) H'
theorem len__law_wrong {K : PySem.W.Frag} {A : Ads} {vs : List V} {H : Hp} {Q : VK} {E : XK} (h : sp__law_wrong K A vs H Q E) : vs.length = 1 := by
  obtain ⟨z, rfl, _⟩ := h
  rfl
theorem pure__law_wrong {K : PySem.W.Frag} {A : Ads} {vs : List V} {H : Hp} {Q : VK} {E : XK} (h : sp__law_wrong K A vs H Q E) : t__law_wrong K A E { nx := fun _ H' => Q .non H', rt := Q } (start n__law_wrong vs) H := by
  obtain ⟨z, rfl, hw, k⟩ := h
  obtain ⟨h1, h8, ha⟩ := word_all hw
  have c8 := fun lo hi => cut_le h8 lo hi
  have la : (z ++ ("abcdefgh" : Str)).length = z.length + 8 := app_len _ _
  walk_at "v"
  refine ⟨_, _, rfl, rfl, sz_small (show z.length + 8 ≤ 100 by omega), ?_⟩
  refine ⟨_, rfl, ?_⟩
  refine ⟨_, rfl, sz_small (by rw [la]; omega), ?_⟩
  have lc : (cutS (z ++ ("abcdefgh" : Str)) none (some 8)).length = 8 := cut8_len (by rw [la]; omega)
  refine ⟨_, _, rfl, rfl, sz_small (by rw [lc]; decide), ?_⟩
  -- the eight texts
  walk_at "v"
  refine ⟨⟨_, rfl⟩, _, rfl, rfl, by omega, ?_⟩
  have z8 : z.length ≤ sizeLine := sz_small (by omega)
  walk_at "cut"
  walk_at "v"
  walk_at "cut"
  walk_at "v"; walk_at "v"
  refine ⟨_, rfl, z8, ?_⟩
  refine ⟨_, _, rfl, rfl, addcut (by assumption) (by decide), ?_⟩
  walk_at "cut"
  walk_at "cut"
  refine ⟨by show 8 ≤ sizeLine; decide, fun l1 hl1 => ?_⟩
  have s1 := Same.new (o := .lst [.str (Txt.upper z), .str (cutS z none (some (-1)) ++ "Q"), .str "", .str (cutS (z ++ "abcdefgh") none (some 8) ++ "z"), .str (cutS z none (some (-1)) ++ " "), .str ((" " : Str) ++ cutS z (some 1) none),
    .str (cutS z none (some (-1)) ++ "7"), .str (cutS z none (some (-1)) ++ "_")]) hl1
  walk_at "v"; walk_at "v"
  refine ⟨by show 1 ≤ sizeLine; decide, fun la hla => ?_⟩
  have s2 := Same.new (o := .lst [.str z]) hla
  walk_at "v"
  refine ⟨by show 1 ≤ sizeLine; decide, fun tb htb => ?_⟩
  have s3 := Same.new (o := .tup [.str z]) htb
  intro p hp
  walk_at "v"
  refine ⟨upd_same, [(.inr z, .int 1)], rfl, by show 1 ≤ 15; decide, ?_⟩
  rw [upd_upd]
  have s4 := Same.new (o := .dK (mergeK [] [(.inr z, .int 1)])) hp
  walk_at "cut"
  walk_at "cut"
  refine ⟨by show 8 ≤ sizeLine; decide, fun l2 hl2 => ?_⟩
  have s5 := Same.new (o := .lst [.non, .bl true, .int 3, .ref la, .ref tb, .ref p, .str (cutS z none (some (-1)) ++ "-"), .str (cutS z none (some (-1)) ++ "'")]) hl2
  have g1 := (Same.trans s2 (Same.trans s3 (Same.trans s4 s5))) _ _ upd_same
  refine ⟨l1, l2, _, _, rfl, rfl, g1, upd_same, by show 16 ≤ sizeLine; decide, fun l hl => ?_⟩
  have s6 := Same.new (o := .lst ([.str (Txt.upper z), .str (cutS z none (some (-1)) ++ "Q"), .str "", .str (cutS (z ++ "abcdefgh") none (some 8) ++ "z"), .str (cutS z none (some (-1)) ++ " "), .str ((" " : Str) ++ cutS z (some 1) none),
    .str (cutS z none (some (-1)) ++ "7"), .str (cutS z none (some (-1)) ++ "_")] ++ [.non, .bl true, .int 3, .ref la, .ref tb, .ref p, .str (cutS z none (some (-1)) ++ "-"), .str (cutS z none (some (-1)) ++ "'")])) hl
  have S := Same.trans s1 (Same.trans s2 (Same.trans s3 (Same.trans s4 s5)))
  have fa := (Same.trans s3 (Same.trans s4 (Same.trans s5 s6))) la _ upd_same
  have fb := (Same.trans s4 (Same.trans s5 s6)) tb _ upd_same
  have fp := (Same.trans s5 s6) p _ upd_same
  refine k l _ _ (S.free hl) (Same.trans S s6) upd_same fun x hx => ?_
  have ca : ∀ {w : Str} {lo hi : Option Int}, w.length ≤ 8 → (cutS z lo hi ++ w).length ≤ 1000000 := fun {w lo hi} h => by rw [app_len]; have := cut_le h8 lo hi; omega
  have ac : ∀ {w : Str} {lo hi : Option Int}, w.length ≤ 8 → (w ++ cutS z lo hi).length ≤ 1000000 := fun {w lo hi} h => by rw [app_len]; have := cut_le h8 lo hi; omega
  rcases List.mem_cons.mp hx with rfl | hx
  · exact wordB_bad (by have := PyProof.Rows.len_upper z; omega) (bad_upper hw)
  rcases List.mem_cons.mp hx with rfl | hx
  · exact wordB_bad (ca (by decide)) (bad_app _ (by decide +kernel))
  rcases List.mem_cons.mp hx with rfl | hx
  · exact wordB_bad (by decide) (by decide +kernel)
  rcases List.mem_cons.mp hx with rfl | hx
  · have e : (cutS (z ++ ("abcdefgh" : Str)) none (some 8) ++ ("z" : Str)).length = 9 := by rw [app_len, lc]; rfl
    exact wordB_bad (by rw [e]; decide) (bad_len (by rw [e]; decide))
  rcases List.mem_cons.mp hx with rfl | hx
  · exact wordB_bad (ca (by decide)) (bad_app _ (by decide +kernel))
  rcases List.mem_cons.mp hx with rfl | hx
  · exact wordB_bad (ac (by decide)) (bad_pre _ (by decide +kernel))
  rcases List.mem_cons.mp hx with rfl | hx
  · exact wordB_bad (ca (by decide)) (bad_app _ (by decide +kernel))
  rcases List.mem_cons.mp hx with rfl | hx
  · exact wordB_bad (ca (by decide)) (bad_app _ (by decide +kernel))
  rcases List.mem_cons.mp hx with rfl | hx
  · exact .inl ⟨_, .base .non, by decide, rfl⟩
  rcases List.mem_cons.mp hx with rfl | hx
  · exact .inl ⟨_, .base (.bl _), by decide, rfl⟩
  rcases List.mem_cons.mp hx with rfl | hx
  · exact .inl ⟨_, ty_int, by decide, rfl⟩
  rcases List.mem_cons.mp hx with rfl | hx
  · exact .inl ⟨_, .base (.lst fa), by decide, rfl⟩
  rcases List.mem_cons.mp hx with rfl | hx
  · exact .inl ⟨_, ty_tup fb, by decide, rfl⟩
  rcases List.mem_cons.mp hx with rfl | hx
  · exact .inl ⟨_, .base (.dK fp), by decide, rfl⟩
  rcases List.mem_cons.mp hx with rfl | hx
  · exact wordB_bad (ca (by decide)) (bad_app _ (by decide +kernel))
  rcases List.mem_cons.mp hx with rfl | hx
  · exact wordB_bad (ca (by decide)) (bad_app _ (by decide +kernel))
  cases hx
def t_law (K : PySem.W.Frag) (A : Ads) (E : XK) : TS :=
    (tSeq (tFor (iRng1 (tCons (tCB rMax2 (tCons (tC (.int 1)) (tCons (tCB rMin2 (tCons (tC (.int 6)) (tCons (tCB (rLen K) (tCons (tVar 0) tNil)) tNil))) tNil))) tNil)) (gName 1) (tSeq (tAsg (tCall (sp__law_bag K A) [] E0 (tCons (tVar 0) (tCons (tVar 1) tNil))) (gName 2))
    (tSeq (tPar 5 6 (tCons (tCall (sp__law_word K A) [] E0 (tCons (tVar 2) tNil)) (tCons (tCall (sp__law_of K A) [] E0 (tCons (tVar 2) (tCons (tCall (sp__law_reserved K A) [] E0 tNil) tNil))) tNil)))
    (tSeq (tFor (iList K (tLst (tCons (tVar 5) (tCons (tVar 6) (tCons (tOp rAddS (tVar 6) (tC (.str "q"))) (tCons (tSl rSlS (tVar 6) tNoPart (tPart (tUn rNeg (tC (.int 1))))) (tCons (tRevS (tVar 5)) tNil))))))) (gName 3) (tSeq (tIfS (tOr (tTest (tOp rNotB (tCall (sp_is_word K A) [] E0 (tCons (tVar 3) tNil)) (tC (.bl true)))) (tNot (tB (tMeth A.cLayout "is_filling" (sp_Layout_is_filling K A) [] E0 (tMake A.cLayout (sp_Layout___init__ K A) [] E0 (tCons (tLst (tCons (tTup (tCons (tC (.str "k")) (tCons (tC (.str "word")) tNil))) tNil)) tNil)) (tCons (tDisp (((tC (.str "k")), (tVar 3)) :: [])) tNil))))) (tRet (tC (.bl false))) tNext)
    (tIfS (tAnd (tTest (tOp rNe (tVar 3) (tC (.str "q")))) (tTest (tOp rNe (tCall (sp__law_is_name K A) [] E0 (tCons (tVar 3) tNil)) (tOp (rIn K true) (tVar 3) (tCall (sp__law_reserved K A) [] E0 tNil))))) (tRet (tC (.bl false))) tNext)))
    (tFor (iList K (tCall (sp__law_wrong K A) [] E0 (tCons (tVar 5) tNil))) (gName 4) (tIfS (tOr (tTest (tOp rNotB (tCall (sp_is_word K A) [] E0 (tCons (tVar 4) tNil)) (tC (.bl false)))) (tTest (tOp rNotB (tCall (sp__law_is_name K A) [] E0 (tCons (tVar 4) tNil)) (tC (.bl false))))) (tRet (tC (.bl false))) tNext))))))
    (tRet (tC (.bl true))))
def n_law : List Str := ["_law_script", "_law_at", "_law_bag_here", "_law_one", "_law_thing", "_law_word_here", "_law_kept"]
theorem res_words : ∀ z ∈ kRES, isWord z = true ∧ isWord (z ++ "q") = true ∧ isWord (cutS z none (some (-1))) = true := by decide +kernel
theorem rev_word {z : Str} (h : isWord z = true) : isWord (revS z) = true := by
  obtain ⟨h1, h8, ha⟩ := word_all h
  have e : z.cps.toList.length = z.length := Array.length_toList
  exact isWord_of (cs := z.cps.toList.reverse) (by rw [List.length_reverse]; omega) (by rw [List.length_reverse]; omega) (fun c hc => ha c (List.mem_reverse.mp hc))
def sp_law (K : PySem.W.Frag) : Sp := fun vs H Q _ => ∃ (a : Addr) (ns : List Int), vs = [.ref a] ∧ SqL K H a (ns.map V.int) ∧ ns.length ≤ 63 ∧ ∀ H', Q (.bl true) H'
theorem len_law {K : PySem.W.Frag} {vs : List V} {H : Hp} {Q : VK} {E : XK} (h : sp_law K vs H Q E) : vs.length = 1 := by
  obtain ⟨x, p, rfl, _⟩ := h
  rfl
theorem pure_law {K : PySem.W.Frag} {A : Ads} {vs : List V} {H : Hp} {Q : VK} {E : XK} (h : sp_law K vs H Q E) : t_law K A E { nx := fun _ H' => Q .non H', rt := Q } (start n_law vs) H := by
  obtain ⟨a, ns, rfl, hS2, hn, k⟩ := h
  walk_at "v"
  refine ⟨_, _, rfl, Or.inl ⟨_, hS2, rfl⟩, ?_⟩
  refine ⟨_, _, rfl, ?_⟩
  refine ⟨_, _, rfl, ?_⟩
  have hl : (ns.map V.int).length = ns.length := List.length_map ..
  obtain ⟨m, em, hm⟩ : ∃ m : Int, m = (if (if ((ns.map V.int).length : Int) < 6 then ((ns.map V.int).length : Int) else 6) > 1 then (if ((ns.map V.int).length : Int) < 6 then ((ns.map V.int).length : Int) else 6) else 1) ∧ m ≤ 6 := ⟨_, rfl, by split <;> split <;> omega⟩
  rw [← em]
  refine ⟨m, rfl, by omega, by omega, ?_⟩
  refine for_range (lo := 0) (n := m.toNat) (fun i σ H' => SqL K H' a (ns.map V.int) ∧ ∃ v1 v2 v3 v4 v5 v6, σ = [some (.ref a), v1, v2, v3, v4, v5, v6]) ⟨hS2, _, _, _, _, _, _, rfl⟩ ?_ ?_
  rotate_left
  · rintro σ H' ⟨_, _, _, _, _, _, _, _, rfl⟩
    exact k H'
  rintro i σ H3 hi ⟨hS3, v1, v2, v3, v4, v5, v6, rfl⟩
  walk_at "v"; walk_at "v"
  refine ⟨a, ns, 0 + i, rfl, hS3, hn, by omega, by omega, fun b H4 hb0 s4 hB => ?_⟩
  have sc : ScrAt K H4 a b (ns.map V.int) := ⟨H3, H4, hS3, hb0, s4, Xb.refl⟩
  have hB4 : Bag (1 + 9) H4 b := hB.mono (by decide)
  clear hB hS3 s4 hb0
  -- the word, the reserved one
  walk_at "v"
  refine ⟨b, 1, rfl, hB4, fun w H5 hw x5 hB5 => ?_⟩
  have sc5 := sc.xb x5
  walk_at "v"
  refine ⟨rfl, fun p H6 hp s6 hl6 => ?_⟩
  have np : p ≠ b := by
    rintro rfl
    obtain ⟨D, eD⟩ := hB5.at_
    rw [hp] at eD
    cases eD
  refine ⟨b, 0, hB5.same s6, Or.inl ⟨p, _, rfl, hl6, np, by decide, by decide, fun j x H7 hj x7 hB7 => ?_⟩⟩
  have sc7 := (sc5.xb (Xb.of s6)).xb x7
  obtain ⟨kept, rfl, hkept⟩ : ∃ z, x = .str z ∧ z ∈ kRES := by
    obtain ⟨z, hz, e⟩ := List.mem_map.mp (List.mem_of_getElem? hj)
    exact ⟨z, e.symm, hz⟩
  clear hj x7 hl6 np s6 hp hB5 x5 sc5 sc hB4
  obtain ⟨r1, r2, r3⟩ := res_words kept hkept
  have lw := word_all hw
  have lk := word_all r1
  refine ⟨_, _, rfl, ?_⟩
  walk_at "v"; walk_at "v"; walk_at "v"
  refine ⟨_, _, rfl, rfl, sz_small (by show kept.length + 1 ≤ 100; omega), ?_⟩
  walk_at "v"; walk_at "v"; walk_at "v"
  refine ⟨_, rfl, sz_small (by omega), ?_⟩
  walk_at "v"
  refine ⟨_, rfl, sz_small (by omega), ?_⟩
  refine ⟨by show 5 ≤ sizeLine; decide, fun l1 hl1 => ?_⟩
  have s8 := Same.new (o := .lst [.str w, .str kept, .str (kept ++ "q"), .str (cutS kept none (some (-1))), .str (revS w)]) hl1
  have g8 : (upd H7 l1 (.lst [.str w, .str kept, .str (kept ++ "q"), .str (cutS kept none (some (-1))), .str (revS w)])) l1 = some (.lst [.str w, .str kept, .str (kept ++ "q"), .str (cutS kept none (some (-1))), .str (revS w)]) := upd_same
  have sc8 := sc7.xb (Xb.of s8)
  generalize upd H7 l1 (.lst [.str w, .str kept, .str (kept ++ "q"), .str (cutS kept none (some (-1))), .str (revS w)]) = H8 at g8 sc8 ⊢
  have hall : ∀ x ∈ [V.str w, .str kept, .str (kept ++ "q"), .str (cutS kept none (some (-1))), .str (revS w)], ∃ y, x = .str y ∧ isWord y = true := by
    intro x hx
    rcases List.mem_cons.mp hx with rfl | hx
    · exact ⟨_, rfl, hw⟩
    rcases List.mem_cons.mp hx with rfl | hx
    · exact ⟨_, rfl, r1⟩
    rcases List.mem_cons.mp hx with rfl | hx
    · exact ⟨_, rfl, r2⟩
    rcases List.mem_cons.mp hx with rfl | hx
    · exact ⟨_, rfl, r3⟩
    rcases List.mem_cons.mp hx with rfl | hx
    · exact ⟨_, rfl, rev_word hw⟩
    cases hx
  refine ⟨l1, rfl, ⟨_, SqL.of g8⟩, ?_⟩
  refine for_list (K := K) (a := l1) (xs := [V.str w, .str kept, .str (kept ++ "q"), .str (cutS kept none (some (-1))), .str (revS w)]) (fun i σ H' => Same H8 H' ∧ ∃ w1 w2 w3 w4 : Option V, σ = [some (.ref a), w1, w2, w3, w4, some (.str w), some (.str kept)])
    ⟨Same.refl H8, _, _, _, _, rfl⟩ (fun i σ H' _ z => SqL.of (z.1 _ _ g8)) ?_ ?_
  · rintro j x σ H9 hj ⟨s9, w1, w2, w3, w4, rfl⟩
    obtain ⟨y, rfl, hy⟩ := hall x (List.mem_of_getElem? hj)
    walk_at "v"
    refine ⟨.str y, true, rfl, wordB_of hy, fun H10 s10 => ?_⟩
    walk_at "isnt"
    -- the layout of one word is filled
    refine ⟨by show 2 ≤ sizeLine; decide, fun t ht => ?_⟩
    have sa := Same.new (o := .tup [.str "k", .str "word"]) ht
    refine ⟨by show 1 ≤ sizeLine; decide, fun l2 hl2 => ?_⟩
    have sb := Same.new (o := .lst [.ref t]) hl2
    have gt := sb _ _ (upd_same (H := H10) (a := t) (o := .tup [.str "k", .str "word"]))
    have gl : (upd (upd H10 t (.tup [.str "k", .str "word"])) l2 (.lst [.ref t])) l2 = some (.lst [.ref t]) := upd_same
    have sab := Same.trans sa sb
    generalize upd (upd H10 t (.tup [.str "k", .str "word"])) l2 (.lst [.ref t]) = H11 at gt gl sab ⊢
    intro o dx ho hdx hne
    have sd := Same.new (o := .own o) hdx
    have ho' : upd H11 dx (.own o) o = none := by rw [upd_ne (Ne.symm hne)]; exact ho
    have sde := Same.trans sd (Same.new (o := .ins A.cLayout dx []) ho')
    have go : (upd (upd H11 dx (.own o)) o (.ins A.cLayout dx [])) o = some (.ins A.cLayout dx []) := upd_same
    generalize upd (upd H11 dx (.own o)) o (.ins A.cLayout dx []) = H12 at sde go ⊢
    have f1 : FieldB K H12 (.ref t) (some ("k", "word")) := .inr (.inr ⟨t, _, _, some "k", rfl, sde _ _ gt, .inl rfl, .inr ⟨"k", rfl, by decide, by decide +kernel, by decide +kernel⟩, by decide +kernel⟩)
    have tl : TyX K H12 (.ref l2) (.type "list") := .base (.lst (sde _ _ gl))
    refine .inr ⟨o, dx, l2, _, [some ("k", "word")], ["k"], ["word"], rfl, go, SqL.of (sde _ _ gl), tl, rfl, by show 1 ≤ 1; decide, by show 1 ≤ 5; decide, ?_, by show 1 ≤ 1; decide, rfl, ?_, fun _ H13 x13 lay => ?_, fun h => absurd h (by show ¬ 1 < 1; decide)⟩
    · intro i y r e1 e2
      match i with
      | 0 => cases e1; cases e2; exact f1
      | i + 1 => cases e1
    · intro i n k e1 e2
      match i with
      | 0 => cases e1; cases e2; exact ⟨rfl, fun z => nomatch z⟩
      | i + 1 => cases e1
    refine ⟨rfl, ?_⟩
    have lay0 := lay
    obtain ⟨dx', tn, tk, h1, _⟩ := lay0
    refine ⟨o, dx', _, rfl, h1, rfl, ?_⟩
    intro p hp
    walk_at "v"
    refine ⟨upd_same, [(.inr "k", .str y)], rfl, by show 1 ≤ 15; decide, ?_⟩
    rw [upd_upd]
    have sp := Same.new (o := .dK (mergeK [] [(.inr "k", .str y)])) hp
    have S13 : Same H8 (upd H13 p (.dK (mergeK [] [(.inr "k", .str y)]))) := fun q u hq => by
      have e10 := sab q u (s10 q u (s9 q u hq))
      exact sp q u (x13 q u (ne_of_none e10 ho) (sde q u e10))
    have gp : (upd H13 p (.dK (mergeK [] [(.inr "k", .str y)]))) p = some (.dK [(.inr "k", .str y)]) := upd_same
    have lay2 := lay.same sp
    generalize upd H13 p (.dK (mergeK [] [(.inr "k", .str y)])) = H14 at S13 gp lay2 ⊢
    have hv : valV ([(.inr "k", .str y)] : List (Key × V)) (.inr "k") = some (.str y) := valV_pos rfl
    refine ⟨o, .ref p, ["k"], ["word"], true, rfl, lay2, .inr ⟨p, _, 1, rfl, gp, .inr ⟨p, _, rfl, gp, ?_⟩, by show 1 ≤ 1; decide, fun i hi n k e1 e2 => ?_, .inl ⟨rfl, rfl⟩⟩, fun H15 s15 => ?_⟩
    · show true = (decide (1 = 1) && ((valV ([(.inr "k", .str y)] : List (Key × V)) (.inr "k")).isSome && true))
      rw [hv]
      rfl
    · obtain rfl : i = 0 := by omega
      cases e1; cases e2
      exact .inr ⟨.str y, hv, .inr ⟨(fun z => nomatch z), .inr ⟨by decide, wordB_of hy⟩⟩⟩
    walk_at "fls"
    have S15 := Same.trans S13 s15
    clear sab gt gl sde go f1 tl lay lay2 S13 gp s15
    -- the law's own question
    walk_at "v"
    refine ⟨rfl, ?_⟩
    refine ⟨_, rfl, ?_⟩
    refine iteN (fun _ => ?_) (fun hne => ?_)
    · refine iteF ?_
      exact ⟨S15, _, _, _, _, rfl⟩
    · walk_at "v"
      refine ⟨.str y, if y ∈ kRES then none else some y, rfl, .inr ⟨y, rfl, by have := (word_all hy).2.1; omega, hy, rfl⟩, ?_, fun H16 s16 => ?_⟩
      · by_cases c : y ∈ kRES
        · rw [if_pos c]; intro z; cases z
        · rw [if_neg c]; intro z; injection z with z; exact hne (congrArg V.str z)
      walk_at "v"
      refine ⟨rfl, fun p2 H17 hp2 s17 hl17 => ?_⟩
      refine ⟨p2, _, rfl, .inl (SqL.of hl17), rfl, flat_strs _, ?_⟩
      refine ⟨rfl, ?_⟩
      refine ⟨_, rfl, ?_⟩
      have e : (if y ∈ kRES then (none : Option Str) else some y).isSome = (if true = true then !inV (V.str y) kRESERVED else inV (V.str y) kRESERVED) := by
        rw [if_pos (rfl : true = true)]
        show _ = (!inV (V.str y) (kRES.map V.str))
        rw [inV_strs]
        by_cases c : y ∈ kRES
        · rw [decide_eq_true c, if_pos c]; rfl
        · rw [decide_eq_false c, if_neg c]; rfl
      refine iteN (fun _ => ?_) (fun h => absurd (congrArg V.bl e) h)
      exact ⟨Same.trans S15 (Same.trans s16 s17), _, _, _, _, rfl⟩
  · rintro σ H9 ⟨s9, w1, w2, w3, w4, rfl⟩
    walk_at "v"
    refine ⟨w, rfl, hw, fun l H10 xs hl s10 hxs hbad => ?_⟩
    have sc10 := (sc8.xb (Xb.of s9)).xb (Xb.of s10)
    refine ⟨l, rfl, ⟨_, SqL.of hxs⟩, ?_⟩
    refine for_list (K := K) (a := l) (xs := xs) (fun i σ H' => Same H10 H' ∧ ∃ w1 w2 w3 w4 w5 w6 : Option V, σ = [some (.ref a), w1, w2, w3, w4, w5, w6]) ⟨Same.refl H10, _, _, _, _, _, _, rfl⟩ (fun i σ H' _ z => SqL.of (z.1 _ _ hxs)) ?_ ?_
    · rintro j x σ H11 hj ⟨s11, w1, w2, w3, w4, w5, w6, rfl⟩
      have hb := hbad x (List.mem_of_getElem? hj)
      walk_at "v"
      refine ⟨x, false, rfl, hb.mono s11, fun H12 s12 => ?_⟩
      walk_at "isnt"
      walk_at "v"
      have s13 := Same.trans s11 s12
      refine ⟨x, none, rfl, .inl ⟨hb.mono s13, rfl⟩, (by intro z; cases z), fun H14 s14 => ?_⟩
      walk_at "isnt"
      exact ⟨Same.trans s13 s14, _, _, _, _, _, _, rfl⟩
    · rintro σ H11 ⟨s11, w1, w2, w3, w4, w5, w6, rfl⟩
      exact ⟨(sc10.xb (Xb.of s11)).seq, _, _, _, _, _, _, rfl⟩
end Md

set_option Elab.async false
set_option linter.all false
set_option maxRecDepth 100000
set_option maxHeartbeats 8000000
namespace Md
open PySem PySem.Spec PyProof.Rows PySem.Calls L2
/-! ### the text of the row, def by def -/
def top (i : Nat) : Stmt := PySem.Challenge.pw_mendrounds_k04_words_and_names.main.body.getD i (.Pass ⟨0, 0, 0, 0⟩)
abbrev s_BadLayout___init__ : Stmt := inClass (top 4) 0
theorem sc_BadLayout___init__ : FnScope ["self", "at"] ["self", "at"] (defScope s_BadLayout___init__) := ⟨rfl, rfl, rfl, by decide +kernel, rfl, by decide +kernel, by decide +kernel⟩
abbrev s_BadField___init__ : Stmt := inClass (top 5) 0
theorem sc_BadField___init__ : FnScope ["self", "name"] ["self", "name"] (defScope s_BadField___init__) := ⟨rfl, rfl, rfl, by decide +kernel, rfl, by decide +kernel, by decide +kernel⟩
abbrev s_is_whole : Stmt := top 9
theorem sc_is_whole : FnScope n_is_whole ["thing"] (defScope s_is_whole) := ⟨rfl, rfl, rfl, by decide +kernel, rfl, by decide +kernel, by decide +kernel⟩
abbrev s_is_number : Stmt := top 10
theorem sc_is_number : FnScope n_is_number ["thing"] (defScope s_is_number) := ⟨rfl, rfl, rfl, by decide +kernel, rfl, by decide +kernel, by decide +kernel⟩
abbrev s_is_word : Stmt := top 11
theorem sc_is_word : FnScope n_is_word ["thing"] (defScope s_is_word) := ⟨rfl, rfl, rfl, by decide +kernel, rfl, by decide +kernel, by decide +kernel⟩
abbrev s_is_name : Stmt := top 16
theorem sc_is_name : FnScope n_is_name ["thing"] (defScope s_is_name) := ⟨rfl, rfl, rfl, by decide +kernel, rfl, by decide +kernel, by decide +kernel⟩
abbrev s__is_field : Stmt := top 17
theorem sc__is_field : FnScope n__is_field ["thing"] (defScope s__is_field) := ⟨rfl, rfl, rfl, by decide +kernel, rfl, by decide +kernel, by decide +kernel⟩
abbrev s_is_value : Stmt := top 18
theorem sc_is_value : FnScope n_is_value ["kind", "thing"] (defScope s_is_value) := ⟨rfl, rfl, rfl, by decide +kernel, rfl, by decide +kernel, by decide +kernel⟩
abbrev s_first_wrong : Stmt := top 19
theorem sc_first_wrong : FnScope n_first_wrong ["layout", "values"] (defScope s_first_wrong) := ⟨rfl, rfl, rfl, by decide +kernel, rfl, by decide +kernel, by decide +kernel⟩
abbrev s__has_all_fields : Stmt := top 20
theorem sc__has_all_fields : FnScope n__has_all_fields ["layout", "thing"] (defScope s__has_all_fields) := ⟨rfl, rfl, rfl, by decide +kernel, rfl, by decide +kernel, by decide +kernel⟩
abbrev s_Layout___init__ : Stmt := inClass (top 21) 1
theorem sc_Layout___init__ : FnScope n_Layout___init__ ["self", "fields"] (defScope s_Layout___init__) := ⟨rfl, rfl, rfl, by decide +kernel, rfl, by decide +kernel, by decide +kernel⟩
abbrev s_Layout___len__ : Stmt := inClass (top 21) 2
theorem sc_Layout___len__ : FnScope n_Layout___len__ ["self"] (defScope s_Layout___len__) := ⟨rfl, rfl, rfl, by decide +kernel, rfl, by decide +kernel, by decide +kernel⟩
abbrev s_Layout_kind : Stmt := inClass (top 21) 5
theorem sc_Layout_kind : FnScope n_Layout_kind ["self", "name"] (defScope s_Layout_kind) := ⟨rfl, rfl, rfl, by decide +kernel, rfl, by decide +kernel, by decide +kernel⟩
abbrev s_Layout_is_filling : Stmt := inClass (top 21) 7
theorem sc_Layout_is_filling : FnScope n_Layout_is_filling ["self", "thing"] (defScope s_Layout_is_filling) := ⟨rfl, rfl, rfl, by decide +kernel, rfl, by decide +kernel, by decide +kernel⟩
abbrev s__law_bag : Stmt := top 23
theorem sc__law_bag : FnScope n__law_bag ["_law_script", "_law_at"] (defScope s__law_bag) := ⟨rfl, rfl, rfl, by decide +kernel, rfl, by decide +kernel, by decide +kernel⟩
abbrev s__law_take : Stmt := top 24
theorem sc__law_take : FnScope n__law_take ["_law_bag_here", "_law_many"] (defScope s__law_take) := ⟨rfl, rfl, rfl, by decide +kernel, rfl, by decide +kernel, by decide +kernel⟩
abbrev s__law_of : Stmt := top 25
theorem sc__law_of : FnScope n__law_of ["_law_bag_here", "_law_some"] (defScope s__law_of) := ⟨rfl, rfl, rfl, by decide +kernel, rfl, by decide +kernel, by decide +kernel⟩
abbrev s__law_word : Stmt := top 26
theorem sc__law_word : FnScope n__law_word ["_law_bag_here"] (defScope s__law_word) := ⟨rfl, rfl, rfl, by decide +kernel, rfl, by decide +kernel, by decide +kernel⟩
abbrev s__law_reserved : Stmt := top 27
theorem sc__law_reserved : FnScope n__law_reserved [] (defScope s__law_reserved) := ⟨rfl, rfl, rfl, by decide +kernel, rfl, by decide +kernel, by decide +kernel⟩
abbrev s__law_is_name : Stmt := top 28
theorem sc__law_is_name : FnScope n__law_is_name ["_law_thing"] (defScope s__law_is_name) := ⟨rfl, rfl, rfl, by decide +kernel, rfl, by decide +kernel, by decide +kernel⟩
abbrev s__law_wrong : Stmt := top 29
theorem sc__law_wrong : FnScope n__law_wrong ["_law_word_here"] (defScope s__law_wrong) := ⟨rfl, rfl, rfl, by decide +kernel, rfl, by decide +kernel, by decide +kernel⟩
abbrev s_law : Stmt := top 30
theorem sc_law : FnScope n_law ["_law_script"] (defScope s_law) := ⟨rfl, rfl, rfl, by decide +kernel, rfl, by decide +kernel, by decide +kernel⟩
section
variable {P : Program} {w : World} {K : PySem.W.Frag} {mg : Str → Option Value} {base : Heap} {A : Ads} {f : Addr} {fd : FuncData}
theorem ok_BadLayout___init__ (F : FunD K "__init__" "BadLayout.__init__" (defArgs s_BadLayout___init__) (defBody s_BadLayout___init__) (defScope s_BadLayout___init__) [] [] f fd) (T : OexC K A.cBadLayout) (hn : PySem.W.findIn K (.ref A.cBadLayout) "at" = some none) : FnOk P w K mg base (L2N.CX P w) 1 f fd ["self", "at"] (sp_BadLayout___init__ K A) := by
  refine F.ok (CX := (L2N.CX P w)) sc_BadLayout___init__ (fun vs H Q E h => len_xi h) (fun cdv A' outer s H vs Q E hr h => ⟨t_xi K "at", ?_, pure_xi T hn h⟩)
  exact (pss_one (ps_ost (pv 0) (pv 1)))
theorem ok_BadField___init__ (F : FunD K "__init__" "BadField.__init__" (defArgs s_BadField___init__) (defBody s_BadField___init__) (defScope s_BadField___init__) [] [] f fd) (T : OexC K A.cBadField) (hn : PySem.W.findIn K (.ref A.cBadField) "name" = some none) : FnOk P w K mg base (L2N.CX P w) 1 f fd ["self", "name"] (sp_BadField___init__ K A) := by
  refine F.ok (CX := (L2N.CX P w)) sc_BadField___init__ (fun vs H Q E h => len_xi h) (fun cdv A' outer s H vs Q E hr h => ⟨t_xi K "name", ?_, pure_xi T hn h⟩)
  exact (pss_one (ps_ost (pv 0) (pv 1)))
theorem ok_is_whole (F : FunD K "is_whole" "is_whole" (defArgs s_is_whole) (defBody s_is_whole) (defScope s_is_whole) [] [] f fd) (fr_bool : mg "bool" = none) (fr_int : mg "int" = none) (fr_isinstance : mg "isinstance" = none) : FnOk P w K mg base (L2N.CX P w) 1 f fd ["thing"] (sp_is_whole K A) := by
  refine F.ok (CX := (L2N.CX P w)) sc_is_whole (fun vs H Q E h => len_is_whole h) (fun cdv A' outer s H vs Q E hr h => ⟨t_is_whole K A E, ?_, pure_is_whole h⟩)
  exact (pss_one (ps_ret (pe_and (pe_callB call_isi rfl fr_isinstance boot_isinstance (pa_cons (pv 0) (pa_cons (pe_bltn rfl fr_int boot_int rfl) pa_nil))) (pe_one (pe_not (pe_callB call_isi rfl fr_isinstance boot_isinstance (pa_cons (pv 0) (pa_cons (pe_bltn rfl fr_bool boot_bool rfl) pa_nil))))))))
theorem ok_is_number (F : FunD K "is_number" "is_number" (defArgs s_is_number) (defBody s_is_number) (defScope s_is_number) [] [] f fd) (fr_isinstance : mg "isinstance" = none) (fr_len : mg "len" = none) (fr_tuple : mg "tuple" = none) (gm_gcd : mg "gcd" = some (.builtin "math.gcd")) (c_is_whole : Cl P w K mg base 1 "is_whole" (sp_is_whole K A) []) : FnOk P w K mg base (L2N.CX P w) 2 f fd ["thing"] (sp_is_number K A) := by
  refine F.ok (CX := (L2N.CX P w)) sc_is_number (fun vs H Q E h => len_is_number h) (fun cdv A' outer s H vs Q E hr h => ⟨t_is_number K A E, ?_, pure_is_number h⟩)
  exact (pss_cons (ps_if (pt_val (pe_cl c_is_whole hr (by decide) rfl passN (pa_cons (pv 0) pa_nil))) (pss_one (ps_ret pe_bl)) pss_nil)
    (pss_cons (ps_if (PW.pt (pw_or (pt_not (pt_val (pe_callB call_isi rfl fr_isinstance boot_isinstance (pa_cons (pv 0) (pa_cons (pe_bltn rfl fr_tuple boot_tuple rfl) pa_nil))))) (pw_or1 (pt_cmpR op_ne (pe_callB call_len rfl fr_len boot_len (pa_cons (pv 0) pa_nil)) pe_int (nomark _))))) (pss_one (ps_ret pe_bl)) pss_nil)
    (pss_cons (ps_asg (pv 0) (pg_tup rfl (pgs_cons (pg_name (i := 1) sc_is_number.nd rfl (by first | exact Or.inl rfl | exact Or.inr rfl)) (pgs_cons (pg_name (i := 2) sc_is_number.nd rfl (by first | exact Or.inl rfl | exact Or.inr rfl)) pgs_nil))))
    (pss_one (ps_ret (pe_and (pe_cl c_is_whole hr (by decide) rfl passN (pa_cons (pv 1) pa_nil)) (pe_and (pe_cl c_is_whole hr (by decide) rfl passN (pa_cons (pv 2) pa_nil)) (pe_and (pe_cmpR op_ge (pv 2) pe_int (nomark _)) (pe_one (pe_cmpR op_eq (pe_callBfun cr_gcd rfl gm_gcd (pa_cons (pv 1) (pa_cons (pv 2) pa_nil))) pe_int (nomark _)))))))))))
theorem ok_is_word (F : FunD K "is_word" "is_word" (defArgs s_is_word) (defBody s_is_word) (defScope s_is_word) [] [] f fd) (fr_all : mg "all" = none) (fr_isinstance : mg "isinstance" = none) (fr_len : mg "len" = none) (fr_str : mg "str" = none) (gm_LETTERS : ∃ t, mg "LETTERS" = some (.str "abcdefghijklmnopqrstuvwxyz" t)) (gm_LONGEST_WORD : ∃ t, mg "LONGEST_WORD" = some (.int 8 t)) : FnOk P w K mg base (L2N.CX P w) 1 f fd ["thing"] (sp_is_word K A) := by
  refine F.ok (CX := (L2N.CX P w)) sc_is_word (fun vs H Q E h => len_is_word h) (fun cdv A' outer s H vs Q E hr h => ⟨t_is_word K A E, ?_, pure_is_word h⟩)
  exact (pss_cons (ps_if (PW.pt (pw_or (pt_not (pt_val (pe_callB call_isi rfl fr_isinstance boot_isinstance (pa_cons (pv 0) (pa_cons (pe_bltn rfl fr_str boot_str rfl) pa_nil))))) (pw_or1 (pt_not (pt_chain op_le op_le pe_int (pe_callB call_len rfl fr_len boot_len (pa_cons (pv 0) pa_nil)) (pe_gc rfl (gInt gm_LONGEST_WORD))))))) (pss_one (ps_ret pe_bl)) pss_nil)
    (pss_one (ps_ret (pe_callB (cr_all rfl) rfl fr_all boot_all (pa_cons (pe_lc (own := [("letter", 1)]) (g := (gName 1)) (tt := tYes) rfl sc_is_word.nd (pi_str (pv 0)) (blkOk_by (own := [("letter", 1)]) (N := ["thing", "letter"]) (sc := defScope s_is_word) (by decide +kernel)) (fun _ _ _ _ _ => (pg_name (i := 1) sc_is_word.nd rfl (by first | exact Or.inl rfl | exact Or.inr rfl))) (fun _ _ _ _ _ => pts_nil) (fun _ _ _ _ _ => (pe_cmpR op_inS (pv 1) (pe_gc rfl (gStr gm_LETTERS)) (by with_unfolding_all rfl)))) pa_nil)))))
theorem ok_is_name (F : FunD K "is_name" "is_name" (defArgs s_is_name) (defBody s_is_name) (defScope s_is_name) [] [] f fd) (gm_RESERVED : mg "RESERVED" = some (.ref A.gRESERVED)) (tb_RESERVED : ∀ H, SqT K H A.gRESERVED kRESERVED) (c_is_word : Cl P w K mg base 1 "is_word" (sp_is_word K A) []) : FnOk P w K mg base (L2N.CX P w) 2 f fd ["thing"] (sp_is_name K A) := by
  refine F.ok (CX := (L2N.CX P w)) sc_is_name (fun vs H Q E h => len_is_name h) (fun cdv A' outer s H vs Q E hr h => ⟨t_is_name K A E, ?_, pure_is_name tb_RESERVED h⟩)
  exact (pss_one (ps_ret (pe_and (pe_cl c_is_word hr (by decide) rfl passN (pa_cons (pv 0) pa_nil)) (pe_one (pe_cmpR op_notIn_seq (pv 0) (pe_glob rfl gm_RESERVED rfl) (by with_unfolding_all rfl))))))
theorem ok__is_field (F : FunD K "_is_field" "_is_field" (defArgs s__is_field) (defBody s__is_field) (defScope s__is_field) [] [] f fd) (fr_isinstance : mg "isinstance" = none) (fr_len : mg "len" = none) (fr_tuple : mg "tuple" = none) (gm_NUMBER : ∃ t, mg "NUMBER" = some (.str "number" t)) (gm_WORD : ∃ t, mg "WORD" = some (.str "word" t)) (c_is_name : Cl P w K mg base 2 "is_name" (sp_is_name K A) []) : FnOk P w K mg base (L2N.CX P w) 3 f fd ["thing"] (sp__is_field K A) := by
  refine F.ok (CX := (L2N.CX P w)) sc__is_field (fun vs H Q E h => len__is_field h) (fun cdv A' outer s H vs Q E hr h => ⟨t__is_field K A E, ?_, pure__is_field h⟩)
  exact (pss_one (ps_ret (pe_and (pe_callB call_isi rfl fr_isinstance boot_isinstance (pa_cons (pv 0) (pa_cons (pe_bltn rfl fr_tuple boot_tuple rfl) pa_nil))) (pe_and (pe_cmpR op_eq (pe_callB call_len rfl fr_len boot_len (pa_cons (pv 0) pa_nil)) pe_int (nomark _)) (pe_and (pe_cl c_is_name hr (by decide) rfl passN (pa_cons (pe_ix ix_seq (pv 0) pe_int (fun _ _ => rfl)) pa_nil)) (pe_one (pe_cmpR (op_inT2 (hu65 hr)) (pe_ix ix_seq (pv 0) pe_int (fun _ _ => rfl)) (pe_tup (pa_cons (pe_gc rfl (gStr gm_NUMBER)) (pa_cons (pe_gc rfl (gStr gm_WORD)) pa_nil))) (by with_unfolding_all rfl))))))))
theorem ok_is_value (F : FunD K "is_value" "is_value" (defArgs s_is_value) (defBody s_is_value) (defScope s_is_value) [] [] f fd) (gm_NUMBER : ∃ t, mg "NUMBER" = some (.str "number" t)) (c_is_number : Cl P w K mg base 2 "is_number" (sp_is_number K A) []) (c_is_word : Cl P w K mg base 1 "is_word" (sp_is_word K A) []) : FnOk P w K mg base (L2N.CX P w) 3 f fd ["kind", "thing"] (sp_is_value K A) := by
  refine F.ok (CX := (L2N.CX P w)) sc_is_value (fun vs H Q E h => len_is_value h) (fun cdv A' outer s H vs Q E hr h => ⟨t_is_value K A E, ?_, pure_is_value h⟩)
  exact (pss_one (ps_ret (pe_ifExp (pt_cmpR op_eq (pv 0) (pe_gc rfl (gStr gm_NUMBER)) (nomark _)) (pe_cl c_is_number hr (by decide) rfl passN (pa_cons (pv 1) pa_nil)) (pe_cl c_is_word hr (by decide) rfl passN (pa_cons (pv 1) pa_nil)))))
theorem ok_first_wrong (F : FunD K "first_wrong" "first_wrong" (defArgs s_first_wrong) (defBody s_first_wrong) (defScope s_first_wrong) [] [] f fd) (cl_Layout : Cls K A.cLayout) (na_Layout_names : NoAttr K A.cLayout "names") (c_is_value : Cl P w K mg base 3 "is_value" (sp_is_value K A) []) (m_Layout_kind : Mt P w K mg base 3 A.cLayout "kind" (sp_Layout_kind K A)) : FnOk P w K mg base (L2N.CX P w) 4 f fd ["layout", "values"] (sp_first_wrong K A) := by
  refine F.ok (CX := (L2N.CX P w)) sc_first_wrong (fun vs H Q E h => len_first_wrong h) (fun cdv A' outer s H vs Q E hr h => ⟨t_first_wrong K A E, ?_, pure_first_wrong cl_Layout na_Layout_names h⟩)
  exact (pss_cons (ps_for (passes_of rfl) rfl (pi_tup (pe_fld (pv 0) rfl)) (pg_name (i := 2) sc_first_wrong.nd rfl (by first | exact Or.inl rfl | exact Or.inr rfl)) (pss_cons (ps_set (i := 3) sc_first_wrong.nd rfl (by first | exact Or.inl rfl | exact Or.inr rfl) (pe_dget1 (hu_of hr) (pv 1) (pv 2) ⟨rfl, rfl, rfl, rfl⟩))
    (pss_one (ps_if (PW.pt (pw_and (pt_cmpR op_notN1 (pv 3) pe_non (nomark _)) (pw_and1 (pt_not (pt_val (pe_cl c_is_value hr (by decide) rfl passN (pa_cons (pe_mt2 m_Layout_kind hr (by decide) (L2N.passes_call (L2N.takes_of rfl rfl rfl rfl) (fun _ _ _ _ h => h)) (pv 0) (pa_cons (pv 2) pa_nil)) (pa_cons (pv 3) pa_nil)))))))) (pss_one (ps_ret (pv 2))) pss_nil))))
    (pss_one (ps_ret pe_non)))
theorem ok__has_all_fields (F : FunD K "_has_all_fields" "_has_all_fields" (defArgs s__has_all_fields) (defBody s__has_all_fields) (defScope s__has_all_fields) [] [] f fd) (fr_all : mg "all" = none) (fr_dict : mg "dict" = none) (fr_isinstance : mg "isinstance" = none) (fr_len : mg "len" = none) (cl_Layout : Cls K A.cLayout) (na_Layout_names : NoAttr K A.cLayout "names") (m_Layout___len__ : Mt P w K mg base 1 A.cLayout "__len__" (sp_Layout___len__ K A)) : FnOk P w K mg base (L2N.CX P w) 3 f fd ["layout", "thing"] (sp__has_all_fields K A) := by
  refine F.ok (CX := (L2N.CX P w)) sc__has_all_fields (fun vs H Q E h => len__has_all_fields h) (fun cdv A' outer s H vs Q E hr h => ⟨t__has_all_fields K A E, ?_, pure__has_all_fields cl_Layout na_Layout_names h⟩)
  exact (pss_one (ps_ret (pe_and (pe_callB call_isi rfl fr_isinstance boot_isinstance (pa_cons (pv 1) (pa_cons (pe_bltn rfl fr_dict boot_dict rfl) pa_nil))) (pe_and (pe_cmpR op_eq (pe_callB call_lenD rfl fr_len boot_len (pa_cons (pv 1) pa_nil)) (pe_callB (call_lenO m_Layout___len__ hr (by decide) passN) rfl fr_len boot_len (pa_cons (pv 0) pa_nil)) (nomark _)) (pe_one (pe_callB (cr_all rfl) rfl fr_all boot_all (pa_cons (pe_lc (own := [("name", 2)]) (g := (gName 2)) (tt := tYes) rfl sc__has_all_fields.nd (pi_tup (pe_fld (pv 0) rfl)) (blkOk_by (own := [("name", 2)]) (N := ["layout", "thing", "name"]) (sc := defScope s__has_all_fields) (by decide +kernel)) (fun _ _ _ _ _ => (pg_name (i := 2) sc__has_all_fields.nd rfl (by first | exact Or.inl rfl | exact Or.inr rfl))) (fun _ _ _ _ _ => pts_nil) (fun _ _ _ _ _ => (pe_cmp (pc_din (hu_of hr) (pv 2) (pv 1))))) pa_nil)))))))
theorem ok_Layout___init__ (F : FunD K "__init__" "Layout.__init__" (defArgs s_Layout___init__) (defBody s_Layout___init__) (defScope s_Layout___init__) [] [] f fd) (cc_Layout_MOST : CCon K A.cLayout "MOST" (.int 5)) (fr_enumerate : mg "enumerate" = none) (fr_isinstance : mg "isinstance" = none) (fr_len : mg "len" = none) (fr_list : mg "list" = none) (fr_tuple : mg "tuple" = none) (gm_Layout : mg "Layout" = some (.ref A.cLayout)) (cl_Layout : Cls K A.cLayout) (na_Layout__kinds : NoAttr K A.cLayout "_kinds") (na_Layout_names : NoAttr K A.cLayout "names") (k_BadLayout : Kx P w K mg base 1 "BadLayout" A.cBadLayout (sp_BadLayout___init__ K A)) (c__is_field : Cl P w K mg base 3 "_is_field" (sp__is_field K A) []) : FnOk P w K mg base (L2N.CX P w) 4 f fd ["self", "fields"] (sp_Layout___init__ K A) := by
  refine F.ok (CX := (L2N.CX P w)) sc_Layout___init__ (fun vs H Q E h => len_Layout___init__ h) (fun cdv A' outer s H vs Q E hr h => ⟨t_Layout___init__ K A E, ?_, pure_Layout___init__ cl_Layout na_Layout__kinds na_Layout_names h⟩)
  exact (pss_cons (ps_if (PW.pt (pw_or (pt_not (pt_val (pe_callB call_isi rfl fr_isinstance boot_isinstance (pa_cons (pv 1) (pa_cons (pe_bltn rfl fr_list boot_list rfl) pa_nil))))) (pw_or1 (pt_not (pt_chain op_le op_le pe_int (pe_callB call_len rfl fr_len boot_len (pa_cons (pv 1) pa_nil)) (pe_ccon cc_Layout_MOST (pe_glob rfl gm_Layout rfl))))))) (pss_one (L2N.ps_raise rfl (L2N.takes_of rfl rfl rfl rfl) (pmk_cl k_BadLayout hr (by decide) rfl (pa_cons (pe_un un_neg pe_int) pa_nil)))) pss_nil)
    (pss_cons (ps_set (i := 2) sc_Layout___init__.nd rfl (by first | exact Or.inl rfl | exact Or.inr rfl) (pe_lst pa_nil))
    (pss_cons (ps_for (passes_of rfl) rfl (pi_enum (by rfl) fr_enumerate (pa_cons (pv 1) pa_nil)) (pg_tup rfl (pgs_cons (pg_name (i := 3) sc_Layout___init__.nd rfl (by first | exact Or.inl rfl | exact Or.inr rfl)) (pgs_cons (pg_name (i := 4) sc_Layout___init__.nd rfl (by first | exact Or.inl rfl | exact Or.inr rfl)) pgs_nil))) (pss_cons (ps_if (PW.pt (pw_or (pt_not (pt_val (pe_cl c__is_field hr (by decide) rfl passN (pa_cons (pv 4) pa_nil)))) (pw_or1 (pt_cmpR op_in_seq (pe_ix ix_seq (pv 4) pe_int (fun _ _ => rfl)) (pv 2) (by with_unfolding_all rfl))))) (pss_one (L2N.ps_raise rfl (L2N.takes_of rfl rfl rfl rfl) (pmk_cl k_BadLayout hr (by decide) rfl (pa_cons (pv 3) pa_nil)))) pss_nil)
    (pss_one (ps_expr (pe_bm PySem.F.plainAttrs_list PySem.F.slot_list_append PySem.F.type_list_append mt_append (pv 2) (pa_cons (pe_ix ix_seq (pv 4) pe_int (fun _ _ => rfl)) pa_nil))))))
    (pss_cons (ps_fld (pv 0) (pe_callTy call_tupF rfl fr_tuple boot_tuple (pa_cons (pv 2) pa_nil)) rfl)
    (pss_one (ps_fld (pv 0) (pe_callTy call_tupF rfl fr_tuple boot_tuple (pa_cons (pe_lc (own := [("field", 4)]) (g := (gName 4)) (tt := tYes) rfl sc_Layout___init__.nd (pi_list (pv 1)) (blkOk_by (own := [("field", 4)]) (N := ["self", "fields", "names", "at", "field"]) (sc := defScope s_Layout___init__) (by decide +kernel)) (fun _ _ _ _ _ => (pg_name (i := 4) sc_Layout___init__.nd rfl (by first | exact Or.inl rfl | exact Or.inr rfl))) (fun _ _ _ _ _ => pts_nil) (fun _ _ _ _ _ => (pe_ix ix_seq (pv 4) pe_int (fun _ _ => rfl)))) pa_nil)) rfl))))))
theorem ok_Layout___len__ (F : FunD K "__len__" "Layout.__len__" (defArgs s_Layout___len__) (defBody s_Layout___len__) (defScope s_Layout___len__) [] [] f fd) (fr_len : mg "len" = none) (cl_Layout : Cls K A.cLayout) (na_Layout_names : NoAttr K A.cLayout "names") : FnOk P w K mg base (L2N.CX P w) 1 f fd ["self"] (sp_Layout___len__ K A) := by
  refine F.ok (CX := (L2N.CX P w)) sc_Layout___len__ (fun vs H Q E h => len_Layout___len__ h) (fun cdv A' outer s H vs Q E hr h => ⟨t_Layout___len__ K A E, ?_, pure_Layout___len__ cl_Layout na_Layout_names h⟩)
  exact (pss_one (ps_ret (pe_callB call_len rfl fr_len boot_len (pa_cons (pe_fld (pv 0) rfl) pa_nil))))
theorem ok_Layout_kind (F : FunD K "kind" "Layout.kind" (defArgs s_Layout_kind) (defBody s_Layout_kind) (defScope s_Layout_kind) [] [] f fd) (cl_Layout : Cls K A.cLayout) (na_Layout__kinds : NoAttr K A.cLayout "_kinds") (na_Layout_names : NoAttr K A.cLayout "names") (k_BadField : Kx P w K mg base 1 "BadField" A.cBadField (sp_BadField___init__ K A)) : FnOk P w K mg base (L2N.CX P w) 3 f fd ["self", "name"] (sp_Layout_kind K A) := by
  refine F.ok (CX := (L2N.CX P w)) sc_Layout_kind (fun vs H Q E h => len_Layout_kind h) (fun cdv A' outer s H vs Q E hr h => ⟨t_Layout_kind K A E, ?_, pure_Layout_kind cl_Layout na_Layout__kinds na_Layout_names h⟩)
  exact (pss_cons (ps_if (pt_cmpR (op_notInT2 (hu65 hr)) (pv 1) (pe_fld (pv 0) rfl) (by with_unfolding_all rfl)) (pss_one (L2N.ps_raise rfl (L2N.takes_of rfl rfl rfl rfl) (pmk_cl k_BadField hr (by decide) rfl (pa_cons (pv 1) pa_nil)))) pss_nil)
    (pss_one (ps_ret (pe_ix ix_seq (pe_fld (pv 0) rfl) (pe_bmF PySem.F.plainAttrs_tuple PySem.F.slot_tuple_index PySem.F.type_tuple_index mt_tidx (pe_fld (pv 0) rfl) (pa_cons (pv 1) pa_nil)) (fun _ _ => rfl)))))
theorem ok_Layout_is_filling (F : FunD K "is_filling" "Layout.is_filling" (defArgs s_Layout_is_filling) (defBody s_Layout_is_filling) (defScope s_Layout_is_filling) [] [] f fd) (c__has_all_fields : Cl P w K mg base 3 "_has_all_fields" (sp__has_all_fields K A) []) (c_first_wrong : Cl P w K mg base 4 "first_wrong" (sp_first_wrong K A) []) : FnOk P w K mg base (L2N.CX P w) 5 f fd ["self", "thing"] (sp_Layout_is_filling K A) := by
  refine F.ok (CX := (L2N.CX P w)) sc_Layout_is_filling (fun vs H Q E h => len_Layout_is_filling h) (fun cdv A' outer s H vs Q E hr h => ⟨t_Layout_is_filling K A E, ?_, pure_Layout_is_filling h⟩)
  exact (pss_one (ps_ret (pe_and (pe_cl c__has_all_fields hr (by decide) rfl passN (pa_cons (pv 0) (pa_cons (pv 1) pa_nil))) (pe_one (pe_cmpR op_isN1 (pe_cl c_first_wrong hr (by decide) rfl (L2N.passes_call (L2N.takes_of rfl rfl rfl rfl) (fun _ _ _ _ h => h)) (pa_cons (pv 0) (pa_cons (pv 1) pa_nil))) pe_non (nomark _))))))
theorem ok__law_bag (F : FunD K "_law_bag" "_law_bag" (defArgs s__law_bag) (defBody s__law_bag) (defScope s__law_bag) [] [] f fd) (fr_abs : mg "abs" = none) (fr_int : mg "int" = none) (fr_len : mg "len" = none) : FnOk P w K mg base (L2N.CX P w) 1 f fd ["_law_script", "_law_at"] (sp__law_bag K A) := by
  refine F.ok (CX := (L2N.CX P w)) sc__law_bag (fun vs H Q E h => len__law_bag h) (fun cdv A' outer s H vs Q E hr h => ⟨t__law_bag K A E, ?_, pure__law_bag h⟩)
  exact (pss_cons (ps_set (i := 2) sc__law_bag.nd rfl (by first | exact Or.inl rfl | exact Or.inr rfl) (pe_ifExp (pt_cmpR op_lt (pv 1) (pe_callB call_len rfl fr_len boot_len (pa_cons (pv 0) pa_nil)) (nomark _)) (pe_ix ix_seq (pv 0) (pv 1) (fun _ _ => rfl)) pe_int))
    (pss_cons (ps_set (i := 3) sc__law_bag.nd rfl (by first | exact Or.inl rfl | exact Or.inr rfl) (pe_ifExp (pt_cmpR op_ge (pe_callB call_abs rfl fr_abs boot_abs (pa_cons (pv 2) pa_nil)) (pe_op op_pow pe_int pe_int) (nomark _)) (pe_callB call_abs rfl fr_abs boot_abs (pa_cons (pv 2) pa_nil)) pe_int))
    (pss_one (ps_ret (pe_lst (pa_cons (pv 3) (pa_cons (pe_op op_add (pe_op op_add (pe_op op_mulW (pe_op op_mod (pe_callTy call_int1 rfl fr_int boot_int (pa_cons (pv 2) pa_nil)) pe_int) pe_int) (pe_op op_mulW pe_int (pv 1))) pe_int) (pa_cons pe_int pa_nil))))))))
theorem ok__law_take (F : FunD K "_law_take" "_law_take" (defArgs s__law_take) (defBody s__law_take) (defScope s__law_take) [] [] f fd) (fr_int : mg "int" = none) : FnOk P w K mg base (L2N.CX P w) 1 f fd ["_law_bag_here", "_law_many"] (sp__law_take K A) := by
  refine F.ok (CX := (L2N.CX P w)) sc__law_take (fun vs H Q E h => len__law_take h) (fun cdv A' outer s H vs Q E hr h => ⟨t__law_take K A E, ?_, pure__law_take h⟩)
  exact (pss_cons (ps_if (pt_cmpR op_gt (pe_ix ix_seq (pv 0) pe_int (fun _ _ => rfl)) pe_int (nomark _)) (pss_cons (ps_set (i := 3) sc__law_take.nd rfl (by first | exact Or.inl rfl | exact Or.inr rfl) (pe_op op_mod (pe_callTy call_int1 rfl fr_int boot_int (pa_cons (pe_ix ix_seq (pv 0) pe_int (fun _ _ => rfl)) pa_nil)) (pv 1)))
    (pss_cons (ps_asg (pe_op op_fdivW (pe_ix ix_seq (pv 0) pe_int (fun _ _ => rfl)) (pv 1)) (pg_sub (pv 0) pe_int set_list))
    (pss_one (ps_ret (pv 3))))) pss_nil)
    (pss_cons (ps_asg (pe_op op_add (pe_ix ix_seq (pv 0) pe_int (fun _ _ => rfl)) pe_int) (pg_sub (pv 0) pe_int set_list))
    (pss_cons (ps_set (i := 2) sc__law_take.nd rfl (by first | exact Or.inl rfl | exact Or.inr rfl) (pe_op op_mod (pe_callTy call_int1 rfl fr_int boot_int (pa_cons (pe_op op_pow (pe_op op_add (pe_ix ix_seq (pv 0) pe_int (fun _ _ => rfl)) (pe_op op_mulW pe_int (pe_ix ix_seq (pv 0) pe_int (fun _ _ => rfl)))) pe_int) pa_nil)) pe_int))
    (pss_cons (ps_set (i := 2) sc__law_take.nd rfl (by first | exact Or.inl rfl | exact Or.inr rfl) (pe_op op_mod (pe_callTy call_int1 rfl fr_int boot_int (pa_cons (pe_op op_pow (pe_op op_add (pv 2) (pe_op op_mulW pe_int (pe_ix ix_seq (pv 0) pe_int (fun _ _ => rfl)))) pe_int) pa_nil)) pe_int))
    (pss_one (ps_ret (pe_op op_mod (pe_callTy call_int1 rfl fr_int boot_int (pa_cons (pe_op op_fdivW (pv 2) pe_int) pa_nil)) (pv 1))))))))
theorem ok__law_of (F : FunD K "_law_of" "_law_of" (defArgs s__law_of) (defBody s__law_of) (defScope s__law_of) [] [] f fd) (fr_len : mg "len" = none) (c__law_take : Cl P w K mg base 1 "_law_take" (sp__law_take K A) []) : FnOk P w K mg base (L2N.CX P w) 2 f fd ["_law_bag_here", "_law_some"] (sp__law_of K A) := by
  refine F.ok (CX := (L2N.CX P w)) sc__law_of (fun vs H Q E h => len__law_of h) (fun cdv A' outer s H vs Q E hr h => ⟨t__law_of K A E, ?_, pure__law_of h⟩)
  exact (pss_one (ps_ret (pe_ix ix_seq (pv 1) (pe_cl c__law_take hr (by decide) rfl passN (pa_cons (pv 0) (pa_cons (pe_callB call_len rfl fr_len boot_len (pa_cons (pv 1) pa_nil)) pa_nil))) (fun _ _ => rfl))))
theorem ok__law_word (F : FunD K "_law_word" "_law_word" (defArgs s__law_word) (defBody s__law_word) (defScope s__law_word) [] [] f fd) (fr_range : mg "range" = none) (c__law_take : Cl P w K mg base 1 "_law_take" (sp__law_take K A) []) (c__law_of : Cl P w K mg base 2 "_law_of" (sp__law_of K A) []) : FnOk P w K mg base (L2N.CX P w) 3 f fd ["_law_bag_here"] (sp__law_word K A) := by
  refine F.ok (CX := (L2N.CX P w)) sc__law_word (fun vs H Q E h => len__law_word h) (fun cdv A' outer s H vs Q E hr h => ⟨t__law_word K A E, ?_, pure__law_word h⟩)
  exact (pss_one (ps_ret (pe_join pe_str (pe_lc (own := [("_law_turn", 1)]) (g := (gName 1)) (tt := tYes) rfl sc__law_word.nd (pi_range1 rfl fr_range (pa_cons (pe_op op_add pe_int (pe_cl c__law_take hr (by decide) rfl passN (pa_cons (pv 0) (pa_cons pe_int pa_nil)))) pa_nil)) (blkOk_by (own := [("_law_turn", 1)]) (N := ["_law_bag_here", "_law_turn"]) (sc := defScope s__law_word) (by decide +kernel)) (fun _ _ _ _ _ => (pg_name (i := 1) sc__law_word.nd rfl (by first | exact Or.inl rfl | exact Or.inr rfl))) (fun _ _ _ _ _ => pts_nil) (fun _ _ _ _ _ => (pe_cl c__law_of hr (by decide) rfl passN (pa_cons (pv 0) (pa_cons pe_str pa_nil))))))))
theorem ok__law_reserved (F : FunD K "_law_reserved" "_law_reserved" (defArgs s__law_reserved) (defBody s__law_reserved) (defScope s__law_reserved) [] [] f fd) : FnOk P w K mg base (L2N.CX P w) 1 f fd [] (sp__law_reserved K A) := by
  refine F.ok (CX := (L2N.CX P w)) sc__law_reserved (fun vs H Q E h => len__law_reserved h) (fun cdv A' outer s H vs Q E hr h => ⟨t__law_reserved K A E, ?_, pure__law_reserved h⟩)
  exact (pss_cons (ps_set (i := 0) sc__law_reserved.nd rfl (by first | exact Or.inl rfl | exact Or.inr rfl) pe_str)
    (pss_one (ps_ret (pe_op op_cat (pe_split (pv 0) pe_str) (pe_lst (pa_cons pe_str (pa_cons pe_str pa_nil)))))))
theorem ok__law_is_name (F : FunD K "_law_is_name" "_law_is_name" (defArgs s__law_is_name) (defBody s__law_is_name) (defScope s__law_is_name) [] [] f fd) (gm_BadLayout : mg "BadLayout" = some (.ref A.cBadLayout)) (xf_BadLayout : XfC K A.cBadLayout) (xn_BadLayout_at : PySem.W.findIn K (.ref A.cBadLayout) "at" = some none) (cl_Layout : Cls K A.cLayout) (na_Layout_names : NoAttr K A.cLayout "names") (xm_BadLayout : PySem.W.exmOne K (.ref A.cBadLayout) (.ref A.cBadLayout) = some true) (k_Layout : Km P w K mg base 4 "Layout" A.cLayout (sp_Layout___init__ K A)) : FnOk P w K mg base (L2N.CX P w) 6 f fd ["_law_thing"] (sp__law_is_name K A) := by
  refine F.ok (CX := (L2N.CX P w)) sc__law_is_name (fun vs H Q E h => len__law_is_name h) (fun cdv A' outer s H vs Q E hr h => ⟨t__law_is_name K A E, ?_, pure__law_is_name cl_Layout na_Layout_names xm_BadLayout h⟩)
  exact (pss_cons (L2N.ps_try_as (i := 1) (tb := tb__law_is_name K A) (ts := ts__law_is_name K A) (Wout := fun _ _ _ _ => False) rfl rfl sc__law_is_name.nd rfl rfl ⟨rfl, by decide, Or.inl gm_BadLayout⟩ takesN (fun W pn xe tk _ => by exact (pss_one (ps_set (i := 2) sc__law_is_name.nd rfl (by first | exact Or.inl rfl | exact Or.inr rfl) (pe_mkS k_Layout hr (by decide) rfl (fun σ => L2N.passAt tk σ) (pa_cons (pe_lst (pa_cons (pe_tup (pa_cons pe_str (pa_cons pe_str pa_nil))) (pa_cons (pe_tup (pa_cons (pv 0) (pa_cons pe_str pa_nil))) pa_nil))) pa_nil))))) (fun a oe cls d pn hz hf => by exact (pss_one (ps_ret (pe_ifExp (pt_cmpR op_eq (pe_xf xf_BadLayout xn_BadLayout_at hz.zc hf (pv 1)) pe_int (nomark _)) pe_bl pe_non)))))
    (pss_one (ps_ret (pe_ifExp (pt_cmpR (op_eqD hr.units) (pe_fld (pv 2) rfl) (pe_tup (pa_cons pe_str (pa_cons (pv 0) pa_nil))) (nomark _)) pe_bl pe_non))))
theorem ok__law_wrong (F : FunD K "_law_wrong" "_law_wrong" (defArgs s__law_wrong) (defBody s__law_wrong) (defScope s__law_wrong) [] [] f fd) : FnOk P w K mg base (L2N.CX P w) 1 f fd ["_law_word_here"] (sp__law_wrong K A) := by
  refine F.ok (CX := (L2N.CX P w)) sc__law_wrong (fun vs H Q E h => len__law_wrong h) (fun cdv A' outer s H vs Q E hr h => ⟨t__law_wrong K A E, ?_, pure__law_wrong h⟩)
  exact (pss_cons (ps_set (i := 1) sc__law_wrong.nd rfl (by first | exact Or.inl rfl | exact Or.inr rfl) (pe_op op_add_str (pe_slice sl_str (pe_op op_add_str (pv 0) pe_str) po_none (po_some pe_int)) pe_str))
    (pss_cons (ps_set (i := 2) sc__law_wrong.nd rfl (by first | exact Or.inl rfl | exact Or.inr rfl) (pe_lst (pa_cons (pe_upper (pv 0)) (pa_cons (pe_op op_add_str (pe_slice sl_str (pv 0) po_none (po_some (pe_un un_neg pe_int))) pe_str) (pa_cons pe_str (pa_cons (pv 1) (pa_cons (pe_op op_add_str (pe_slice sl_str (pv 0) po_none (po_some (pe_un un_neg pe_int))) pe_str) (pa_cons (pe_op op_add_str pe_str (pe_slice sl_str (pv 0) (po_some pe_int) po_none)) (pa_cons (pe_op op_add_str (pe_slice sl_str (pv 0) po_none (po_some (pe_un un_neg pe_int))) pe_str) (pa_cons (pe_op op_add_str (pe_slice sl_str (pv 0) po_none (po_some (pe_un un_neg pe_int))) pe_str) pa_nil))))))))))
    (pss_one (ps_ret (pe_op op_cat (pv 2) (pe_lst (pa_cons pe_non (pa_cons pe_bl (pa_cons pe_int (pa_cons (pe_lst (pa_cons (pv 0) pa_nil)) (pa_cons (pe_tup (pa_cons (pv 0) pa_nil)) (pa_cons (pe_disp (pps_cons (pv 0) pe_int pps_nil) rfl rfl (List.cons_ne_nil _ _) (by decide)) (pa_cons (pe_op op_add_str (pe_slice sl_str (pv 0) po_none (po_some (pe_un un_neg pe_int))) pe_str) (pa_cons (pe_op op_add_str (pe_slice sl_str (pv 0) po_none (po_some (pe_un un_neg pe_int))) pe_str) pa_nil))))))))))))))
theorem ok_law (F : FunD K "law" "law" (defArgs s_law) (defBody s_law) (defScope s_law) [] [] f fd) (fr_len : mg "len" = none) (fr_max : mg "max" = none) (fr_min : mg "min" = none) (fr_range : mg "range" = none) (c__law_bag : Cl P w K mg base 1 "_law_bag" (sp__law_bag K A) []) (c__law_of : Cl P w K mg base 2 "_law_of" (sp__law_of K A) []) (c__law_reserved : Cl P w K mg base 1 "_law_reserved" (sp__law_reserved K A) []) (c__law_word : Cl P w K mg base 3 "_law_word" (sp__law_word K A) []) (c_is_word : Cl P w K mg base 1 "is_word" (sp_is_word K A) []) (k_Layout : Km P w K mg base 4 "Layout" A.cLayout (sp_Layout___init__ K A)) (m_Layout_is_filling : Mt P w K mg base 5 A.cLayout "is_filling" (sp_Layout_is_filling K A)) (c__law_is_name : Cl P w K mg base 6 "_law_is_name" (sp__law_is_name K A) []) (c__law_wrong : Cl P w K mg base 1 "_law_wrong" (sp__law_wrong K A) []) : FnOk P w K mg base CX0 7 f fd ["_law_script"] (sp_law K) := by
  refine F.ok (CX := CX0) sc_law (fun vs H Q E h => len_law h) (fun cdv A' outer s H vs Q E hr h => ⟨t_law K A E, ?_, pure_law h⟩)
  exact (pss_cons (ps_for (passes_of rfl) rfl (pi_range1 rfl fr_range (pa_cons (pe_callB (call_max2 rfl) rfl fr_max boot_max (pa_cons pe_int (pa_cons (pe_callB (call_min2 rfl) rfl fr_min boot_min (pa_cons pe_int (pa_cons (pe_callB call_len rfl fr_len boot_len (pa_cons (pv 0) pa_nil)) pa_nil))) pa_nil))) pa_nil)) (pg_name (i := 1) sc_law.nd rfl (by first | exact Or.inl rfl | exact Or.inr rfl)) (pss_cons (ps_set (i := 2) sc_law.nd rfl (by first | exact Or.inl rfl | exact Or.inr rfl) (pe_cl c__law_bag hr (by decide) rfl passN (pa_cons (pv 0) (pa_cons (pv 1) pa_nil))))
    (pss_cons (ps_par (i := 5) (j := 6) rfl sc_law.nd rfl rfl (by decide) rfl rfl (pa_cons (pe_cl c__law_word hr (by decide) rfl passN (pa_cons (pv 2) pa_nil)) (pa_cons (pe_cl c__law_of hr (by decide) rfl passN (pa_cons (pv 2) (pa_cons (pe_cl0 c__law_reserved hr (by decide) rfl passN) pa_nil))) pa_nil)) rfl)
    (pss_cons (ps_for (passes_of rfl) rfl (pi_list (pe_lst (pa_cons (pv 5) (pa_cons (pv 6) (pa_cons (pe_op op_add_str (pv 6) pe_str) (pa_cons (pe_slice sl_str (pv 6) po_none (po_some (pe_un un_neg pe_int))) (pa_cons (pe_revS (pv 5)) pa_nil))))))) (pg_name (i := 3) sc_law.nd rfl (by first | exact Or.inl rfl | exact Or.inr rfl)) (pss_cons (ps_if (PW.pt (pw_or (pt_cmpR op_notBl (pe_cl c_is_word hr (by decide) rfl passN (pa_cons (pv 3) pa_nil)) pe_bl (nomark _)) (pw_or1 (pt_not (pt_val (pe_mt2 m_Layout_is_filling hr (by decide) passN (pe_mk2 k_Layout hr (by decide) rfl passN (pa_cons (pe_lst (pa_cons (pe_tup (pa_cons pe_str (pa_cons pe_str pa_nil))) pa_nil)) pa_nil)) (pa_cons (pe_disp (pps_cons pe_str (pv 3) pps_nil) rfl rfl (List.cons_ne_nil _ _) (by decide)) pa_nil))))))) (pss_one (ps_ret pe_bl)) pss_nil)
    (pss_one (ps_if (PW.pt (pw_and (pt_cmpR op_ne (pv 3) pe_str (nomark _)) (pw_and1 (pt_cmpR op_ne (pe_cl c__law_is_name hr (by decide) rfl passN (pa_cons (pv 3) pa_nil)) (pe_cmpR op_notIn_seq (pv 3) (pe_cl0 c__law_reserved hr (by decide) rfl passN) (by with_unfolding_all rfl)) (nomark _))))) (pss_one (ps_ret pe_bl)) pss_nil))))
    (pss_one (ps_for (passes_of rfl) rfl (pi_list (pe_cl c__law_wrong hr (by decide) rfl passN (pa_cons (pv 5) pa_nil))) (pg_name (i := 4) sc_law.nd rfl (by first | exact Or.inl rfl | exact Or.inr rfl)) (pss_one (ps_if (PW.pt (pw_or (pt_cmpR op_notBl (pe_cl c_is_word hr (by decide) rfl passN (pa_cons (pv 4) pa_nil)) pe_bl (nomark _)) (pw_or1 (pt_cmpR op_notBl (pe_cl c__law_is_name hr (by decide) rfl passN (pa_cons (pv 4) pa_nil)) pe_bl (nomark _))))) (pss_one (ps_ret pe_bl)) pss_nil))))))))
    (pss_one (ps_ret pe_bl)))
end
/-! ### the head: facts by names, the run -/
namespace Hd
def d_BadLayout___init__ : He.DefD := ⟨("BadLayout", some "__init__"), "__init__", "BadLayout.__init__", defArgs s_BadLayout___init__, defBody s_BadLayout___init__, defScope s_BadLayout___init__, [], []⟩
def d_BadField___init__ : He.DefD := ⟨("BadField", some "__init__"), "__init__", "BadField.__init__", defArgs s_BadField___init__, defBody s_BadField___init__, defScope s_BadField___init__, [], []⟩
def d_is_whole : He.DefD := ⟨("is_whole", none), "is_whole", "is_whole", defArgs s_is_whole, defBody s_is_whole, defScope s_is_whole, [], []⟩
def d_is_number : He.DefD := ⟨("is_number", none), "is_number", "is_number", defArgs s_is_number, defBody s_is_number, defScope s_is_number, [], []⟩
def d_is_word : He.DefD := ⟨("is_word", none), "is_word", "is_word", defArgs s_is_word, defBody s_is_word, defScope s_is_word, [], []⟩
def d_is_name : He.DefD := ⟨("is_name", none), "is_name", "is_name", defArgs s_is_name, defBody s_is_name, defScope s_is_name, [], []⟩
def d__is_field : He.DefD := ⟨("_is_field", none), "_is_field", "_is_field", defArgs s__is_field, defBody s__is_field, defScope s__is_field, [], []⟩
def d_is_value : He.DefD := ⟨("is_value", none), "is_value", "is_value", defArgs s_is_value, defBody s_is_value, defScope s_is_value, [], []⟩
def d_first_wrong : He.DefD := ⟨("first_wrong", none), "first_wrong", "first_wrong", defArgs s_first_wrong, defBody s_first_wrong, defScope s_first_wrong, [], []⟩
def d__has_all_fields : He.DefD := ⟨("_has_all_fields", none), "_has_all_fields", "_has_all_fields", defArgs s__has_all_fields, defBody s__has_all_fields, defScope s__has_all_fields, [], []⟩
def d_Layout___init__ : He.DefD := ⟨("Layout", some "__init__"), "__init__", "Layout.__init__", defArgs s_Layout___init__, defBody s_Layout___init__, defScope s_Layout___init__, [], []⟩
def d_Layout___len__ : He.DefD := ⟨("Layout", some "__len__"), "__len__", "Layout.__len__", defArgs s_Layout___len__, defBody s_Layout___len__, defScope s_Layout___len__, [], []⟩
def d_Layout_kind : He.DefD := ⟨("Layout", some "kind"), "kind", "Layout.kind", defArgs s_Layout_kind, defBody s_Layout_kind, defScope s_Layout_kind, [], []⟩
def d_Layout_is_filling : He.DefD := ⟨("Layout", some "is_filling"), "is_filling", "Layout.is_filling", defArgs s_Layout_is_filling, defBody s_Layout_is_filling, defScope s_Layout_is_filling, [], []⟩
def d__law_bag : He.DefD := ⟨("_law_bag", none), "_law_bag", "_law_bag", defArgs s__law_bag, defBody s__law_bag, defScope s__law_bag, [], []⟩
def d__law_take : He.DefD := ⟨("_law_take", none), "_law_take", "_law_take", defArgs s__law_take, defBody s__law_take, defScope s__law_take, [], []⟩
def d__law_of : He.DefD := ⟨("_law_of", none), "_law_of", "_law_of", defArgs s__law_of, defBody s__law_of, defScope s__law_of, [], []⟩
def d__law_word : He.DefD := ⟨("_law_word", none), "_law_word", "_law_word", defArgs s__law_word, defBody s__law_word, defScope s__law_word, [], []⟩
def d__law_reserved : He.DefD := ⟨("_law_reserved", none), "_law_reserved", "_law_reserved", defArgs s__law_reserved, defBody s__law_reserved, defScope s__law_reserved, [], []⟩
def d__law_is_name : He.DefD := ⟨("_law_is_name", none), "_law_is_name", "_law_is_name", defArgs s__law_is_name, defBody s__law_is_name, defScope s__law_is_name, [], []⟩
def d__law_wrong : He.DefD := ⟨("_law_wrong", none), "_law_wrong", "_law_wrong", defArgs s__law_wrong, defBody s__law_wrong, defScope s__law_wrong, [], []⟩
def d_law : He.DefD := ⟨("law", none), "law", "law", defArgs s_law, defBody s_law, defScope s_law, [], []⟩
def fn : List He.DefD := [d_BadLayout___init__, d_BadField___init__, d_is_whole, d_is_number, d_is_word, d_is_name, d__is_field, d_is_value, d_first_wrong, d__has_all_fields, d_Layout___init__, d_Layout___len__, d_Layout_kind, d_Layout_is_filling, d__law_bag, d__law_take, d__law_of, d__law_word, d__law_reserved, d__law_is_name, d__law_wrong, d_law]
def fa : List He.Fa := [.glo "is_whole", .glo "is_number", .glo "is_word", .glo "is_name", .glo "_is_field", .glo "is_value", .glo "first_wrong", .glo "_has_all_fields", .glo "_law_bag", .glo "_law_take", .glo "_law_of", .glo "_law_word", .glo "_law_reserved", .glo "_law_is_name", .glo "_law_wrong", .glo "law", .glo "MendroundsError", .glo "BadLayout", .glo "BadField", .glo "Layout", .free "abs", .free "all", .free "bool", .free "dict", .free "enumerate", .free "int", .free "isinstance", .free "len", .free "list", .free "max", .free "min", .free "range", .free "str", .free "tuple", .str "LETTERS" "abcdefghijklmnopqrstuvwxyz", .int "LONGEST_WORD" 8, .str "NUMBER" "number", .glo "RESERVED", .str "WORD" "word", .cls "Layout", .mkr "Layout", .meth "Layout" "__len__", .meth "Layout" "kind", .meth "Layout" "is_filling", .noat "Layout" "_kinds", .noat "Layout" "names"]
def exs : List (PySem.W.Frag → Bool) := [(fun K => He.tupB K "RESERVED" [.str "and", .str "or", .str "not", .str "in", .str "given", .str "true", .str "false", .str "blank", .str "number", .str "word", .str "needs", .str "instead", .str "after", .str "blames", .str "check", .str "guard", .str "barrier", .str "repair", .str "default", .str "exit", .str "self"]), (fun K => He.eqO (PySem.W.nsIn K mainGlobals "gcd") (some (some (.builtin "math.gcd")))), (fun K => oexB K (He.ga K "MendroundsError")), (fun K => oexB K (He.ga K "BadLayout")), (fun K => inoB K (He.ga K "BadLayout")), (fun K => noB K (He.ga K "BadLayout") "at"), (fun K => xfB K (He.ga K "BadLayout")), (fun K => decide (PySem.W.exmOne K (.ref (He.ga K "BadLayout")) (.ref (He.ga K "BadLayout")) = some true)), (fun K => oexB K (He.ga K "BadField")), (fun K => inoB K (He.ga K "BadField")), (fun K => noB K (He.ga K "BadField") "name"), (fun K => cconB K (He.ga K "Layout") "MOST" (.int 5))]
def ex (K : PySem.W.Frag) : Bool := exs.all fun b => b K
def ads (K : PySem.W.Frag) : Ads := { cMendroundsError := He.ga K "MendroundsError", cBadLayout := He.ga K "BadLayout", cBadField := He.ga K "BadField", cLayout := He.ga K "Layout", gRESERVED := He.ga K "RESERVED" }
abbrev R : PySem.W.OpenRow := PySem.W.OpenLaw.row PySem.Challenge.rw_mendrounds_k04_words_and_names
abbrev hk : PySem.W.Hook := hookM 7 fa fn ex
def ob (s : PySem.W.SharedT) : He.AlD × Bool := obsM 7 fa fn ex (HandSHeadRun.getT s)
theorem ob_eq (s : PySem.W.SharedT) : ob s = hk.obs s.abs := obsM_eq (HandSHeadRun.getT_eq s)
def names0 : List PySem.Str := ["_wall", "MendroundsError", "BadLayout", "BadField", "LETTERS", "LONGEST_WORD", "is_whole", "is_number", "is_word", "NUMBER", "WORD", "RESERVED", "is_name", "_is_field", "is_value", "first_wrong", "_has_all_fields", "Layout", "_law_bag", "_law_take", "_law_of", "_law_word", "_law_reserved", "_law_is_name", "_law_wrong"]
def names : List PySem.Str := names0
theorem run (w : World) : HandSHeadRun.RunEqI R (PySem.W.view R.prog [0, 30]) hk ob 20000 names w := by
  unfold HandSHeadRun.RunEqI
  kernel_rfl
theorem facts {P : Program} {w : World} {K : PySem.W.Frag} {h : Heap} {mg : Str → Option Value} {f : Addr} (X : K.In h) (G : h.Ns mainGlobals mg) (hfa : mg ("law" : Str) = some (.ref f)) (c : He.SaysD fa fn K) (cx : ex K = true) :
    ∃ fd : FuncData, (∀ (s : Shared) (v : Value), BindsTo s fd ⟨[v], []⟩ [("_law_script", v)]) ∧ ∀ base : Heap, K.In base → base.Ns mainGlobals mg → FnOk P w K mg base CX0 7 f fd ["_law_script"] (sp_law K) := by
  have ce : ∀ (i : Nat) (b : PySem.W.Frag → Bool), exs[i]? = some b → b K = true := fun i b e => List.all_eq_true.mp cx b (List.mem_of_getElem? e)
  have e_tab_RESERVED : (He.tupB K "RESERVED" [.str "and", .str "or", .str "not", .str "in", .str "given", .str "true", .str "false", .str "blank", .str "number", .str "word", .str "needs", .str "instead", .str "after", .str "blames", .str "check", .str "guard", .str "barrier", .str "repair", .str "default", .str "exit", .str "self"]) = true := ce 0 _ rfl
  have e_gm_gcd : (He.eqO (PySem.W.nsIn K mainGlobals "gcd") (some (some (.builtin "math.gcd")))) = true := ce 1 _ rfl
  have e_oex_MendroundsError : (oexB K (He.ga K "MendroundsError")) = true := ce 2 _ rfl
  have e_oex_BadLayout : (oexB K (He.ga K "BadLayout")) = true := ce 3 _ rfl
  have e_ino_BadLayout : (inoB K (He.ga K "BadLayout")) = true := ce 4 _ rfl
  have e_no_BadLayout_at : (noB K (He.ga K "BadLayout") "at") = true := ce 5 _ rfl
  have e_xf_BadLayout : (xfB K (He.ga K "BadLayout")) = true := ce 6 _ rfl
  have e_xm_BadLayout : (decide (PySem.W.exmOne K (.ref (He.ga K "BadLayout")) (.ref (He.ga K "BadLayout")) = some true)) = true := ce 7 _ rfl
  have e_oex_BadField : (oexB K (He.ga K "BadField")) = true := ce 8 _ rfl
  have e_ino_BadField : (inoB K (He.ga K "BadField")) = true := ce 9 _ rfl
  have e_no_BadField_name : (noB K (He.ga K "BadField") "name") = true := ce 10 _ rfl
  have e_cc_Layout_MOST : (cconB K (He.ga K "Layout") "MOST" (.int 5)) = true := ce 11 _ rfl
  obtain ⟨fd_BadLayout___init__, F_BadLayout___init__⟩ := c.def_ 0 (d := d_BadLayout___init__) rfl
  obtain ⟨fd_BadField___init__, F_BadField___init__⟩ := c.def_ 1 (d := d_BadField___init__) rfl
  obtain ⟨fd_is_whole, F_is_whole⟩ := c.def_ 2 (d := d_is_whole) rfl
  obtain ⟨fd_is_number, F_is_number⟩ := c.def_ 3 (d := d_is_number) rfl
  obtain ⟨fd_is_word, F_is_word⟩ := c.def_ 4 (d := d_is_word) rfl
  obtain ⟨fd_is_name, F_is_name⟩ := c.def_ 5 (d := d_is_name) rfl
  obtain ⟨fd__is_field, F__is_field⟩ := c.def_ 6 (d := d__is_field) rfl
  obtain ⟨fd_is_value, F_is_value⟩ := c.def_ 7 (d := d_is_value) rfl
  obtain ⟨fd_first_wrong, F_first_wrong⟩ := c.def_ 8 (d := d_first_wrong) rfl
  obtain ⟨fd__has_all_fields, F__has_all_fields⟩ := c.def_ 9 (d := d__has_all_fields) rfl
  obtain ⟨fd_Layout___init__, F_Layout___init__⟩ := c.def_ 10 (d := d_Layout___init__) rfl
  obtain ⟨fd_Layout___len__, F_Layout___len__⟩ := c.def_ 11 (d := d_Layout___len__) rfl
  obtain ⟨fd_Layout_kind, F_Layout_kind⟩ := c.def_ 12 (d := d_Layout_kind) rfl
  obtain ⟨fd_Layout_is_filling, F_Layout_is_filling⟩ := c.def_ 13 (d := d_Layout_is_filling) rfl
  obtain ⟨fd__law_bag, F__law_bag⟩ := c.def_ 14 (d := d__law_bag) rfl
  obtain ⟨fd__law_take, F__law_take⟩ := c.def_ 15 (d := d__law_take) rfl
  obtain ⟨fd__law_of, F__law_of⟩ := c.def_ 16 (d := d__law_of) rfl
  obtain ⟨fd__law_word, F__law_word⟩ := c.def_ 17 (d := d__law_word) rfl
  obtain ⟨fd__law_reserved, F__law_reserved⟩ := c.def_ 18 (d := d__law_reserved) rfl
  obtain ⟨fd__law_is_name, F__law_is_name⟩ := c.def_ 19 (d := d__law_is_name) rfl
  obtain ⟨fd__law_wrong, F__law_wrong⟩ := c.def_ 20 (d := d__law_wrong) rfl
  obtain ⟨fd_law, F_law⟩ := c.def_ 21 (d := d_law) rfl
  have e := hfa.symm.trans (He.glo_ok X G (c.fact 15 (f := .glo "law") rfl))
  cases e
  have cc_Layout_MOST := cconB_ok e_cc_Layout_MOST
  have cl_Layout : Cls K (ads K).cLayout := He.cls_ok (c.fact 39 (f := .cls "Layout") rfl)
  have fr_abs := He.free_ok X G (c.fact 20 (f := .free "abs") rfl)
  have fr_all := He.free_ok X G (c.fact 21 (f := .free "all") rfl)
  have fr_bool := He.free_ok X G (c.fact 22 (f := .free "bool") rfl)
  have fr_dict := He.free_ok X G (c.fact 23 (f := .free "dict") rfl)
  have fr_enumerate := He.free_ok X G (c.fact 24 (f := .free "enumerate") rfl)
  have fr_int := He.free_ok X G (c.fact 25 (f := .free "int") rfl)
  have fr_isinstance := He.free_ok X G (c.fact 26 (f := .free "isinstance") rfl)
  have fr_len := He.free_ok X G (c.fact 27 (f := .free "len") rfl)
  have fr_list := He.free_ok X G (c.fact 28 (f := .free "list") rfl)
  have fr_max := He.free_ok X G (c.fact 29 (f := .free "max") rfl)
  have fr_min := He.free_ok X G (c.fact 30 (f := .free "min") rfl)
  have fr_range := He.free_ok X G (c.fact 31 (f := .free "range") rfl)
  have fr_str := He.free_ok X G (c.fact 32 (f := .free "str") rfl)
  have fr_tuple := He.free_ok X G (c.fact 33 (f := .free "tuple") rfl)
  have gm_BadLayout : mg "BadLayout" = some (.ref (ads K).cBadLayout) := He.glo_ok X G (c.fact 17 (f := .glo "BadLayout") rfl)
  have gm_LETTERS := He.str_ok X G (c.fact 34 (f := .str "LETTERS" "abcdefghijklmnopqrstuvwxyz") rfl)
  have gm_LONGEST_WORD := He.int_ok X G (c.fact 35 (f := .int "LONGEST_WORD" 8) rfl)
  have gm_Layout : mg "Layout" = some (.ref (ads K).cLayout) := He.glo_ok X G (c.fact 19 (f := .glo "Layout") rfl)
  have gm_NUMBER := He.str_ok X G (c.fact 36 (f := .str "NUMBER" "number") rfl)
  have gm_RESERVED : mg "RESERVED" = some (.ref (ads K).gRESERVED) := He.glo_ok X G (c.fact 37 (f := .glo "RESERVED") rfl)
  have gm_WORD := He.str_ok X G (c.fact 38 (f := .str "WORD" "word") rfl)
  have gm_gcd := PySem.W.mg_of X G (He.eqO_ok e_gm_gcd)
  have na_Layout__kinds : NoAttr K (ads K).cLayout "_kinds" := He.noat_ok (c.fact 44 (f := .noat "Layout" "_kinds") rfl)
  have na_Layout_names : NoAttr K (ads K).cLayout "names" := He.noat_ok (c.fact 45 (f := .noat "Layout" "names") rfl)
  have tb_RESERVED : ∀ H, SqT K H (ads K).gRESERVED _ := fun H => He.tupB_ok e_tab_RESERVED H
  have xf_BadLayout := xfB_ok e_xf_BadLayout
  have xm_BadLayout := of_decide_eq_true e_xm_BadLayout
  have xn_BadLayout_at := noB_ok e_no_BadLayout_at
  have bL := FunD.bindsA (ps := ["_law_script"]) F_law fun _ _ _ _ _ _ us hl => match us, hl with | [_], _ => rfl
  refine ⟨fd_law, fun s v => bL s [v] rfl, fun base _ _ => ?_⟩
  have G_BadLayout___init__ := ok_BadLayout___init__ (P := P) (w := w) (mg := mg) (base := base) (A := ads K) F_BadLayout___init__ (oexB_ok e_oex_BadLayout) (noB_ok e_no_BadLayout_at)
  have b_BadLayout___init__ : Binds K fd_BadLayout___init__ ["self", "at"] [] := F_BadLayout___init__.bindsN fun _ _ _ _ _ _ us hl => match us, hl with | [_, _], _ => rfl
  have k_BadLayout : Kx P w K mg base 1 "BadLayout" (ads K).cBadLayout (sp_BadLayout___init__ K (ads K)) := ⟨oexB_ok e_oex_BadLayout, _, _, _, (inoB_ok e_ino_BadLayout).1, (inoB_ok e_ino_BadLayout).2, G_BadLayout___init__, b_BadLayout___init__, He.glo_ok X G (c.fact 17 (f := .glo "BadLayout") rfl)⟩
  have G_BadField___init__ := ok_BadField___init__ (P := P) (w := w) (mg := mg) (base := base) (A := ads K) F_BadField___init__ (oexB_ok e_oex_BadField) (noB_ok e_no_BadField_name)
  have b_BadField___init__ : Binds K fd_BadField___init__ ["self", "name"] [] := F_BadField___init__.bindsN fun _ _ _ _ _ _ us hl => match us, hl with | [_, _], _ => rfl
  have k_BadField : Kx P w K mg base 1 "BadField" (ads K).cBadField (sp_BadField___init__ K (ads K)) := ⟨oexB_ok e_oex_BadField, _, _, _, (inoB_ok e_ino_BadField).1, (inoB_ok e_ino_BadField).2, G_BadField___init__, b_BadField___init__, He.glo_ok X G (c.fact 18 (f := .glo "BadField") rfl)⟩
  have G_is_whole := ok_is_whole (P := P) (w := w) (mg := mg) (base := base) (A := ads K) F_is_whole fr_bool fr_int fr_isinstance
  have b_is_whole : Binds K fd_is_whole ["thing"] [] := F_is_whole.bindsN fun _ _ _ _ _ _ us hl => match us, hl with | [_], _ => rfl
  have c_is_whole := cl_of G_is_whole (He.glo_ok X G (c.fact 0 (f := .glo "is_whole") rfl)) F_is_whole.kp b_is_whole
  have G_is_word := ok_is_word (P := P) (w := w) (mg := mg) (base := base) (A := ads K) F_is_word fr_all fr_isinstance fr_len fr_str gm_LETTERS gm_LONGEST_WORD
  have b_is_word : Binds K fd_is_word ["thing"] [] := F_is_word.bindsN fun _ _ _ _ _ _ us hl => match us, hl with | [_], _ => rfl
  have c_is_word := cl_of G_is_word (He.glo_ok X G (c.fact 2 (f := .glo "is_word") rfl)) F_is_word.kp b_is_word
  have G_Layout___len__ := ok_Layout___len__ (P := P) (w := w) (mg := mg) (base := base) (A := ads K) F_Layout___len__ fr_len cl_Layout na_Layout_names
  have b_Layout___len__ : Binds K fd_Layout___len__ ["self"] [] := F_Layout___len__.bindsN fun _ _ _ _ _ _ us hl => match us, hl with | [_], _ => rfl
  have m_Layout___len__ : Mt P w K mg base 1 (ads K).cLayout "__len__" (sp_Layout___len__ K (ads K)) := ⟨_, _, _, He.cls_ok (c.fact 39 (f := .cls "Layout") rfl), He.meth_ok (c.fact 41 (f := .meth "Layout" "__len__") rfl), G_Layout___len__, b_Layout___len__⟩
  have G__law_bag := ok__law_bag (P := P) (w := w) (mg := mg) (base := base) (A := ads K) F__law_bag fr_abs fr_int fr_len
  have b__law_bag : Binds K fd__law_bag ["_law_script", "_law_at"] [] := F__law_bag.bindsN fun _ _ _ _ _ _ us hl => match us, hl with | [_, _], _ => rfl
  have c__law_bag := cl_of G__law_bag (He.glo_ok X G (c.fact 8 (f := .glo "_law_bag") rfl)) F__law_bag.kp b__law_bag
  have G__law_take := ok__law_take (P := P) (w := w) (mg := mg) (base := base) (A := ads K) F__law_take fr_int
  have b__law_take : Binds K fd__law_take ["_law_bag_here", "_law_many"] [] := F__law_take.bindsN fun _ _ _ _ _ _ us hl => match us, hl with | [_, _], _ => rfl
  have c__law_take := cl_of G__law_take (He.glo_ok X G (c.fact 9 (f := .glo "_law_take") rfl)) F__law_take.kp b__law_take
  have G__law_reserved := ok__law_reserved (P := P) (w := w) (mg := mg) (base := base) (A := ads K) F__law_reserved
  have b__law_reserved : Binds K fd__law_reserved [] [] := F__law_reserved.bindsN fun _ _ _ _ _ _ us hl => match us, hl with | [], _ => rfl
  have c__law_reserved := cl_of G__law_reserved (He.glo_ok X G (c.fact 12 (f := .glo "_law_reserved") rfl)) F__law_reserved.kp b__law_reserved
  have G__law_wrong := ok__law_wrong (P := P) (w := w) (mg := mg) (base := base) (A := ads K) F__law_wrong
  have b__law_wrong : Binds K fd__law_wrong ["_law_word_here"] [] := F__law_wrong.bindsN fun _ _ _ _ _ _ us hl => match us, hl with | [_], _ => rfl
  have c__law_wrong := cl_of G__law_wrong (He.glo_ok X G (c.fact 14 (f := .glo "_law_wrong") rfl)) F__law_wrong.kp b__law_wrong
  have G_is_number := ok_is_number (P := P) (w := w) (mg := mg) (base := base) (A := ads K) F_is_number fr_isinstance fr_len fr_tuple gm_gcd c_is_whole
  have b_is_number : Binds K fd_is_number ["thing"] [] := F_is_number.bindsN fun _ _ _ _ _ _ us hl => match us, hl with | [_], _ => rfl
  have c_is_number := cl_of G_is_number (He.glo_ok X G (c.fact 1 (f := .glo "is_number") rfl)) F_is_number.kp b_is_number
  have G_is_name := ok_is_name (P := P) (w := w) (mg := mg) (base := base) (A := ads K) F_is_name gm_RESERVED tb_RESERVED c_is_word
  have b_is_name : Binds K fd_is_name ["thing"] [] := F_is_name.bindsN fun _ _ _ _ _ _ us hl => match us, hl with | [_], _ => rfl
  have c_is_name := cl_of G_is_name (He.glo_ok X G (c.fact 3 (f := .glo "is_name") rfl)) F_is_name.kp b_is_name
  have G__law_of := ok__law_of (P := P) (w := w) (mg := mg) (base := base) (A := ads K) F__law_of fr_len c__law_take
  have b__law_of : Binds K fd__law_of ["_law_bag_here", "_law_some"] [] := F__law_of.bindsN fun _ _ _ _ _ _ us hl => match us, hl with | [_, _], _ => rfl
  have c__law_of := cl_of G__law_of (He.glo_ok X G (c.fact 10 (f := .glo "_law_of") rfl)) F__law_of.kp b__law_of
  have G__is_field := ok__is_field (P := P) (w := w) (mg := mg) (base := base) (A := ads K) F__is_field fr_isinstance fr_len fr_tuple gm_NUMBER gm_WORD c_is_name
  have b__is_field : Binds K fd__is_field ["thing"] [] := F__is_field.bindsN fun _ _ _ _ _ _ us hl => match us, hl with | [_], _ => rfl
  have c__is_field := cl_of G__is_field (He.glo_ok X G (c.fact 4 (f := .glo "_is_field") rfl)) F__is_field.kp b__is_field
  have G_is_value := ok_is_value (P := P) (w := w) (mg := mg) (base := base) (A := ads K) F_is_value gm_NUMBER c_is_number c_is_word
  have b_is_value : Binds K fd_is_value ["kind", "thing"] [] := F_is_value.bindsN fun _ _ _ _ _ _ us hl => match us, hl with | [_, _], _ => rfl
  have c_is_value := cl_of G_is_value (He.glo_ok X G (c.fact 5 (f := .glo "is_value") rfl)) F_is_value.kp b_is_value
  have G__has_all_fields := ok__has_all_fields (P := P) (w := w) (mg := mg) (base := base) (A := ads K) F__has_all_fields fr_all fr_dict fr_isinstance fr_len cl_Layout na_Layout_names m_Layout___len__
  have b__has_all_fields : Binds K fd__has_all_fields ["layout", "thing"] [] := F__has_all_fields.bindsN fun _ _ _ _ _ _ us hl => match us, hl with | [_, _], _ => rfl
  have c__has_all_fields := cl_of G__has_all_fields (He.glo_ok X G (c.fact 7 (f := .glo "_has_all_fields") rfl)) F__has_all_fields.kp b__has_all_fields
  have G_Layout_kind := ok_Layout_kind (P := P) (w := w) (mg := mg) (base := base) (A := ads K) F_Layout_kind cl_Layout na_Layout__kinds na_Layout_names k_BadField
  have b_Layout_kind : Binds K fd_Layout_kind ["self", "name"] [] := F_Layout_kind.bindsN fun _ _ _ _ _ _ us hl => match us, hl with | [_, _], _ => rfl
  have m_Layout_kind : Mt P w K mg base 3 (ads K).cLayout "kind" (sp_Layout_kind K (ads K)) := ⟨_, _, _, He.cls_ok (c.fact 39 (f := .cls "Layout") rfl), He.meth_ok (c.fact 42 (f := .meth "Layout" "kind") rfl), G_Layout_kind, b_Layout_kind⟩
  have G__law_word := ok__law_word (P := P) (w := w) (mg := mg) (base := base) (A := ads K) F__law_word fr_range c__law_take c__law_of
  have b__law_word : Binds K fd__law_word ["_law_bag_here"] [] := F__law_word.bindsN fun _ _ _ _ _ _ us hl => match us, hl with | [_], _ => rfl
  have c__law_word := cl_of G__law_word (He.glo_ok X G (c.fact 11 (f := .glo "_law_word") rfl)) F__law_word.kp b__law_word
  have G_first_wrong := ok_first_wrong (P := P) (w := w) (mg := mg) (base := base) (A := ads K) F_first_wrong cl_Layout na_Layout_names c_is_value m_Layout_kind
  have b_first_wrong : Binds K fd_first_wrong ["layout", "values"] [] := F_first_wrong.bindsN fun _ _ _ _ _ _ us hl => match us, hl with | [_, _], _ => rfl
  have c_first_wrong := cl_of G_first_wrong (He.glo_ok X G (c.fact 6 (f := .glo "first_wrong") rfl)) F_first_wrong.kp b_first_wrong
  have G_Layout___init__ := ok_Layout___init__ (P := P) (w := w) (mg := mg) (base := base) (A := ads K) F_Layout___init__ cc_Layout_MOST fr_enumerate fr_isinstance fr_len fr_list fr_tuple gm_Layout cl_Layout na_Layout__kinds na_Layout_names k_BadLayout c__is_field
  have b_Layout___init__ : Binds K fd_Layout___init__ ["self", "fields"] [] := F_Layout___init__.bindsN fun _ _ _ _ _ _ us hl => match us, hl with | [_, _], _ => rfl
  have k_Layout : Km P w K mg base 4 "Layout" (ads K).cLayout (sp_Layout___init__ K (ads K)) := ⟨_, _, _, He.mkr_ok (c.fact 40 (f := .mkr "Layout") rfl), G_Layout___init__, b_Layout___init__, He.glo_ok X G (c.fact 19 (f := .glo "Layout") rfl)⟩
  have G_Layout_is_filling := ok_Layout_is_filling (P := P) (w := w) (mg := mg) (base := base) (A := ads K) F_Layout_is_filling c__has_all_fields c_first_wrong
  have b_Layout_is_filling : Binds K fd_Layout_is_filling ["self", "thing"] [] := F_Layout_is_filling.bindsN fun _ _ _ _ _ _ us hl => match us, hl with | [_, _], _ => rfl
  have m_Layout_is_filling : Mt P w K mg base 5 (ads K).cLayout "is_filling" (sp_Layout_is_filling K (ads K)) := ⟨_, _, _, He.cls_ok (c.fact 39 (f := .cls "Layout") rfl), He.meth_ok (c.fact 43 (f := .meth "Layout" "is_filling") rfl), G_Layout_is_filling, b_Layout_is_filling⟩
  have G__law_is_name := ok__law_is_name (P := P) (w := w) (mg := mg) (base := base) (A := ads K) F__law_is_name gm_BadLayout xf_BadLayout xn_BadLayout_at cl_Layout na_Layout_names xm_BadLayout k_Layout
  have b__law_is_name : Binds K fd__law_is_name ["_law_thing"] [] := F__law_is_name.bindsN fun _ _ _ _ _ _ us hl => match us, hl with | [_], _ => rfl
  have c__law_is_name := cl_of G__law_is_name (He.glo_ok X G (c.fact 13 (f := .glo "_law_is_name") rfl)) F__law_is_name.kp b__law_is_name
  exact ok_law (A := ads K) F_law fr_len fr_max fr_min fr_range c__law_bag c__law_of c__law_reserved c__law_word c_is_word k_Layout m_Layout_is_filling c__law_is_name c__law_wrong
end Hd
end Md
open PySem PySem.W PySem.Calls PyProof.Rows
set_option maxRecDepth 100000 in
set_option maxHeartbeats 0 in
theorem PySem.Challenge.cw_mendrounds_k04_words_and_names_holds : PySem.Challenge.rw_mendrounds_k04_words_and_names.Holds := by
  w_on; o_law
  refine HandSHeadRun.head_imp (r := OpenLaw.row PySem.Challenge.rw_mendrounds_k04_words_and_names) (q := view (OpenLaw.row PySem.Challenge.rw_mendrounds_k04_words_and_names).prog [0, 30]) (H := Md.Hd.hk) (ob := Md.Hd.ob) (M := 20000) (loose := Md.Hd.names) (d := HandSHeadRun.topDef (OpenLaw.row PySem.Challenge.rw_mendrounds_k04_words_and_names).prog 30) (kwd := []) Md.Hd.ob_eq
    Md.Hd.run (by kernel_rfl) (by kernel_rfl) (by kernel_rfl) (by rfl) (by first | assumption | decide +kernel) (by decide +kernel) ⟨rfl, rfl, rfl, rfl, rfl, by decide +kernel⟩ ?hw ?hc
  case hw => w_witness2
  case hc =>
    refine L2.walk_ofE (l := PySem.Challenge.rw_mendrounds_k04_words_and_names) (n := 63) (k := 7) (x := "_law_script") (CX := L2.CX0) rfl (by decide) (by kernel_rfl) ⟨rfl, by decide, by decide⟩ ?F (fun _ _ _ _ z => z)
    intro w mg fa h Y G hmg0
    obtain ⟨K, KX, c⟩ := Y
    have hmg : mg ("law" : PySem.Str) = some (.ref fa) := by
      have e : (HandSHeadRun.topDef (OpenLaw.row PySem.Challenge.rw_mendrounds_k04_words_and_names).prog 30).name = ("law" : PySem.Str) := by kernel_rfl
      rw [← e]
      exact hmg0
    obtain ⟨fd, hb, hF⟩ := Md.Hd.facts (P := (PySem.Challenge.rw_mendrounds_k04_words_and_names).prog) (w := w) KX G hmg c.d c.more
    exact ⟨K, fd, Md.sp_law K, KX, hb, fun H a ns hl _ hS => ⟨a, ns, rfl, hS, hl, fun _ => rfl⟩, hF⟩
