import PyProof.Rows.All
import Wide.All
import OpenK.AllK
import Wide.FinOn
import PyProof.EqAt
import PyProof.EqKinds
import PyProof.TupleCall
import PyProof.ReprRoads
import HandS.Base
import HandS.Call
import HandS.List
import HandS.Text
import HandS.StrMore
import HandS.Ends
import HandS.Words
import HandS.WordsList
import HandS.Exc
import HandS.ExcOwn
import HandS.ExcCtx
import HandS.ExcInit
import HandS.HotCalls
import HandS.IsInst
import HandS.ExcField
import HandS.TryOnly
import HandS.CallSlots
import HandS.Deep
import HandS.More
import HandS.Comp
import HandS.Dict
import PyProof.ReprBulk
import PySem.Challenge.RW_alnage_k01_programs_read_back
set_option Elab.async false
set_option linter.all false
set_option maxRecDepth 100000
set_option maxHeartbeats 4000000
namespace Ly
open PySem PySem.Spec PyProof.Rows L2
/-! ### operations on values -/
section
variable {X : Cx}
theorem rep_size (a : Array Nat) : ∀ (n : Nat) (b : Array Nat), ((List.replicate n a).foldl (· ++ ·) b).size = b.size + n * a.size
  | 0, b => by simp
  | n + 1, b => by
    rw [List.replicate_succ, List.foldl_cons, rep_size a n, Array.size_append, Nat.add_one_mul]
    omega
/-- s * n of a text, n written and at least 1 -/
def rMulS : R2 := fun x y H Q => ∃ (a : Str) (n : Nat), x = .str a ∧ y = .int (n : Int) ∧ 2 ≤ n ∧ a.length ≠ 0 ∧
  a.length * n ≤ 100000 ∧ Q (.str ⟨(List.replicate n a.cps).foldl (· ++ ·) #[]⟩) H
theorem op_mulS : OpR X (binaryOp .Mult) rMulS := by
  intro pins s σ H x y v u Q I rx ry h
  obtain ⟨a, n, rfl, rfl, h2, h0, hl, q⟩ := h
  obtain ⟨t, rfl⟩ := rx
  obtain ⟨t', rfl⟩ := ry
  have hn : n ≤ 100000 := by
    have : 1 * n ≤ a.length * n := Nat.mul_le_mul_right n (by omega)
    omega
  have ha : a.length ≤ 100000 := by
    have : a.length * 1 ≤ a.length * n := Nat.mul_le_mul_left _ (by omega)
    omega
  have e1 : ((n : Int) == 1 || a.length == 0) = false := by
    rw [Bool.or_eq_false_iff]
    constructor
    · simp
      omega
    · simpa using h0
  have e2 : (decide ((n : Int) < -(2 ^ 63 : Int)) || decide ((n : Int) ≥ 2 ^ 63)) = false := by
    rw [decide_eq_false (by omega), decide_eq_false (by omega)]
    rfl
  refine PySem.P.mul_str e2 (fun _ _ => ?_) (fun _ _ => ?_) ?_
  · have hq : ((2 : Int) ^ 63 - 1) / (n : Int) ≥ 100000 := by
      refine Int.le_ediv_of_mul_le (by omega) ?_
      have : (100000 : Int) * (n : Int) ≤ 100000 * 100000 := by omega
      omega
    omega
  · have : a.length * (n : Int).toNat ≤ 100000 := by
      simpa using hl
    show decide (a.length * (n : Int).toNat > sizeLine) = false
    rw [sizeLine_eq, decide_eq_false_iff_not]
    omega
  · rw [if_neg (by omega), e1]
    refine ⟨?_, .str _, H, I.tok _, ⟨_, rfl⟩, ?_⟩
    · rw [sizeLine_eq]
      have : (Str.length ⟨(List.replicate (n : Int).toNat a.cps).foldl (· ++ ·) #[]⟩) = 0 + n * a.cps.size := rep_size _ _ _
      have e3 : n * a.cps.size = a.length * n := Nat.mul_comm _ _
      omega
    · exact q

/-- repr(x) of data, where no repr runs yet -/
def rRepr (K : PySem.W.Frag) : List V → Hp → VK → Prop := fun xs H Q => ∃ (a : Addr) (d : PyData), xs = [.ref a] ∧ Dp K H (.ref a) d ∧
  d.showable = true ∧ d.hasDict = false ∧ d.depth ≤ 120 ∧ d.shown.length ≤ sizeLine ∧ Q (.str d.shown) H
theorem call_repr (hg : X.A.guards = some []) (hu : X.A.units + 128 < cLine) : CallR X (.builtin "repr") (rRepr X.K) := by
  intro pins s σ H xs us Q I rx h
  obtain ⟨a, d, rfl, hd, hs, hn, hz, hl, q⟩ := h
  obtain ⟨u, rfl, ru⟩ := vals1 rx
  cases (show u = Value.ref a from ru)
  obtain ⟨as, r⟩ := Dp.reads I d _ _ hd rfl
  refine repr_of_reads' r hs (fun e => ?_) hg (by omega) (fun _ _ e => e) (fun h' t k hk => ?_) hl
  · rw [hn] at e
    cases e
  · exact ⟨.str d.shown, H, I.kept hk, ⟨t, rfl⟩, q⟩
end
end Ly

namespace Ly
open PySem PySem.Spec PyProof.Rows L2
/-! ### an own exception class with one field -/
/-- what is promised of `def __init__(self, f): self.f = f` -/
def spXI (K : PySem.W.Frag) (C : Addr) (f : Str) : Sp := fun vs H Q _ => ∃ (a : Addr) (v : V), vs = [.ref a, v] ∧ OexC K C ∧
  PySem.W.findIn K (.ref C) f = some none ∧ H a = some (exo a C none) ∧
  ∀ d, H d = none → d ≠ a → Q .non (upd (upd H d (exd d [(f, v)])) a (exo a C (some d)))
/-- the reading of X(e), X such a class -/
def tMkX (C : Addr) (f : Str) (ta : TA) : L2.St → Hp → XK → Prop := fun σ H Q => ta σ H fun vs H1 => ∃ v, vs = [v] ∧
  ∀ d, H1 d = none → Q (.ref C) (some d) (upd H1 d (.xd [(f, v)]))
theorem del_back {H : Hp} {a d : Addr} {o u : HO} {fs : List (Str × V)} (hda : d ≠ a) (ha : H a = none) :
    upd (del (upd (upd H d o) a u) a) d (.xd fs) = upd H d (.xd fs) := by
  funext b
  by_cases h1 : b = d
  · subst h1
    rw [upd_same, upd_same]
  · rw [upd_ne h1, upd_ne h1]
    by_cases h2 : b = a
    · subst h2
      rw [del_same, ha]
    · rw [del_ne h2, upd_ne h2, upd_ne h1]
/-- what the written part tells of such a class -/
structure XCls (K : PySem.W.Frag) (mg : Str → Option Value) (x : Str) (C fI : Addr) (f : Str) : Prop where
  oe : OexC K C
  gC : mg x = some (.ref C)
  iC : PySem.W.findIn K (.ref C) "__init__" = some (some (.ref fI))
  tI : PySem.W.typeIn K (.ref fI) = some (.type "function")
  no : PySem.W.findIn K (.ref C) f = some none
  xf : PySem.W.findIn K (.ref C) "__getattribute__" = some (some (.builtin "BaseException.__getattribute__")) ∧
    PySem.W.findIn K (.ref C) "__getattr__" = some none ∧ PySem.W.hasDictIn K C = true
  me : PySem.W.exmOne K (.ref C) (.ref C) = some true
section
variable {X : Cx} {x : Str} {C fI : Addr} {f : Str} {k : Nat} {fd : FuncData} {ps : List Str} {e : Expr} {ta : TA} {p pos : Pos}
theorem pmk_x (T : XCls X.K X.mg x C fI f) (F : FnOk X.prog X.w X.K X.mg X.base CX0 k fI fd ps (spXI X.K C f)) (hr : Room (k + 1) X.A)
    (hb : Binds X.K fd ps []) (ha : PA X [e] ta) (hg : Gl X x := by rfl) (hdb : (x == ("__debug__" : Str)) = false := by decide)
    (he : starEach (e :: []) X.env = (false, eval e X.env) :: starEach [] X.env := by rfl)
    (hpl : (backTo pos (starEach [] X.env)).any (·.1) = false := by rfl) :
    L2N.PMk X (.Call (.Name x p) [e] [] pos) (tMkX C f ta) := by
  intro pins s σ H Q I h
  obtain ⟨nm, q, N, bs, bm, sn, sub, ab, col, dd, k0, k1, k2, k3, k5, hC, hbm⟩ := T.oe.cls
  refine wpAny_Call_Name_kw (ld_glob I hg T.gC ?_ hdb)
  refine PySem.W.callWith_K (h₀ := X.base) I.ok.mod.kin T.oe.kC (thn (ha.run pos pins s σ H _ I h) fun us s1 hh => ?_) he hpl
  obtain ⟨vs, H1, I1, r1, v, rfl, q1⟩ := hh
  refine ⟨I1.kIn, ?_⟩
  obtain ⟨u, rfl, ru⟩ := vals1 r1
  show wpAny _ _ (call (.ref C) [u]) _ _ _
  obtain ⟨hp, g, dr, tk, os⟩ := s1
  -- the new exception's place
  generalize hA : hp.objs.size + 1 = A'
  have hsz : hp.objs.size ≤ A' := by omega
  have fresh : H1 A' = none := I1.hok.fresh hsz
  have keep : ∀ b o, hp.get? b = some o → ((hp.push (PySem.W.kdv_tup [u])).push (PySem.HandSPX.excO C hp.objs.size)).get? b = some o :=
    fun b o e => Heap.get?_push_of_some _ (Heap.get?_push_of_some _ e)
  have hget : ((hp.push (PySem.W.kdv_tup [u])).push (PySem.HandSPX.excO C hp.objs.size)).get? A' = some (PySem.HandSPX.excO C hp.objs.size) := by
    subst hA
    heap_get
  have I2 : Inv X pins σ (upd H1 A' (exo A' C none)) ⟨(hp.push (PySem.W.kdv_tup [u])).push (PySem.HandSPX.excO C hp.objs.size), g, dr, tk, os⟩ :=
    I1.laid (t' := tk) keep hsz (exo_ok hget)
  have hsp : spXI X.K C f [.ref A', v] (upd H1 A' (exo A' C none)) (fun z H2 => z = .non ∧ ∃ d : Addr, H1 d = none ∧ d ≠ A' ∧
      H2 = upd (upd (upd H1 A' (exo A' C none)) d (exd d [(f, v)])) A' (exo A' C (some d))) (fun _ _ _ => False) := by
    refine ⟨A', v, rfl, T.oe, T.no, upd_same, fun d hd hne => ⟨rfl, d, ?_, hne, rfl⟩⟩
    rwa [upd_ne hne] at hd
  have r2 : Vals [V.ref A', v] [Value.ref A', u] := .cons rfl (.cons ru .nil)
  have hl : ([Value.ref A', u] ++ []).length = ps.length := by
    rw [← F.len _ _ _ _ hsp]
    rfl
  have b2 := hb ⟨(hp.push (PySem.W.kdv_tup [u])).push (PySem.HandSPX.excO C hp.objs.size), g, dr, tk, os⟩ [Value.ref A', u] I2.kIn hl
  rw [List.append_nil] at b2
  have hus : [u].length ≤ sizeLine := by
    rw [sizeLine_eq]
    exact (by decide : 1 ≤ 16777216)
  subst hA
  refine wpAny_call (PySem.HandSPX.call_own PySem.F.excBase_ValueError (fun Y => PySem.HandSPX.refsVE_contains Y bm hbm) (I1.kIn _ _ hC)
    (PySem.W.looks_findIn I1.kIn T.iC) (fun self => PySem.W.bind_fn I1.kIn self T.tI) hus
    (codeAny_mono (F.run _ X.stack _ _ ⟨[Value.ref _, u], []⟩ _ _ _ _ (hr.make C [u] []) (I2.env0.make C [u] []) b2 r2 hsp) fun r s' hq' => ?_))
  cases r with
  | error er => exact False.elim hq'
  | ok fl =>
    cases fl with
    | next => exact False.elim hq'
    | brk => exact False.elim hq'
    | cont => exact False.elim hq'
    | ret z =>
      obtain ⟨w', H2, os2, bare2, un2, hok2, rv, ev, d, hd1, hne, rfl⟩ := hq'
      subst ev
      obtain ⟨h2, g2, d2, t2, os'⟩ := s'
      have ea : (upd (upd (upd H1 (hp.objs.size + 1) (exo (hp.objs.size + 1) C none)) d (exd d [(f, v)])) (hp.objs.size + 1) (exo (hp.objs.size + 1) C (some d))) (hp.objs.size + 1) = some (exo (hp.objs.size + 1) C (some d)) := upd_same
      have ed : (upd (upd (upd H1 (hp.objs.size + 1) (exo (hp.objs.size + 1) C none)) d (exd d [(f, v)])) (hp.objs.size + 1) (exo (hp.objs.size + 1) C (some d))) d = some (exd d [(f, v)]) := by
        rw [upd_ne hne, upd_same]
      obtain ⟨t0, G, J, kG, ge, hoe, na⟩ := mk_end0 (d2 := d2) (t2 := t2) I1 hsz keep un2 hok2 os2 bare2 ea ed hd1
      have eH : upd (del (upd (upd (upd H1 (hp.objs.size + 1) (exo (hp.objs.size + 1) C none)) d (exd d [(f, v)])) (hp.objs.size + 1) (exo (hp.objs.size + 1) C (some d))) (hp.objs.size + 1)) d (.xd [(f, v)]) = upd H1 d (.xd [(f, v)]) := by
        funext b
        by_cases h1 : b = d
        · subst h1
          rw [upd_same, upd_same]
        · rw [upd_ne h1, upd_ne h1]
          by_cases h2 : b = hp.objs.size + 1
          · subst h2
            rw [del_same, fresh]
          · rw [del_ne h2, upd_ne h2, upd_ne h1, upd_ne h2]
      rw [eH] at J na
      refine ⟨rv, hp.objs.size + 1, _, _, ⟨G, g2, d2, t2, os'⟩, _, .ref C, some d, rfl, J, kG, ge, hoe, ⟨rfl, rfl, fun vs hv => ?_⟩, rfl, rfl, na, rfl, bare2, raises_own T.oe.exC T.oe.tyC, q1 d hd1⟩
      cases hv
      rfl
/-- raise X(e) -/
def tRaiseX (C : Addr) (f : Str) (W : WX) (ta : TA) : TS := fun _ σ H => tMkX C f ta σ H fun cls d H' => W cls d σ H'
theorem ps_raiseX {W : WX} {pos2 : Pos} (hc : X.calm = true) (tk : L2N.Takes X W) (T : XCls X.K X.mg x C fI f)
    (F : FnOk X.prog X.w X.K X.mg X.base CX0 k fI fd ps (spXI X.K C f)) (hr : Room (k + 1) X.A)
    (hb : Binds X.K fd ps []) (ha : PA X [e] ta) (hg : Gl X x := by rfl) (hdb : (x == ("__debug__" : Str)) = false := by decide)
    (he : starEach (e :: []) X.env = (false, eval e X.env) :: starEach [] X.env := by rfl)
    (hpl : (backTo pos (starEach [] X.env)).any (·.1) = false := by rfl) :
    PS X (.Raise (some (.Call (.Name x p) [e] [] pos)) none pos2) (tRaiseX C f W ta) :=
  L2N.ps_raise hc tk (pmk_x T F hr hb ha hg hdb he hpl)
end
end Ly

namespace Ly
open PySem PySem.Spec PyProof.Rows L2
section
variable {P : Program} {w : World} {K : PySem.W.Frag} {mg : Str → Option Value} {base : Heap} {x qual : Str} {st : Stmt} {f : Addr} {fd : FuncData} {N ps : List Str} {k : Nat} {sp : Sp}
/-! ### defs that may raise (the context of what they raise is None); the same where an exception is handled -/
theorem okN (F : Fun K x qual st f fd) (S : FnScope N ps (defScope st)) (len : ∀ vs H Q E, sp vs H Q E → vs.length = ps.length)
    (body : ∀ (cdv : Value) (A : Around) (outer : List Env) (s : Shared) (H : Hp) (vs : List V) (Q : VK) (E : XK),
      Room k (A.deeper (envOfC qual (defScope st) s.heap.objs.size f cdv)) → sp vs H Q E →
      ∃ t, PSs (cxOf (L2N.CX P w) P w K mg base N qual (defScope st) f cdv A outer s H E) (defBody st) t ∧
        t { nx := fun _ H' => Q .non H', rt := Q } (start N vs) H) :
    FnOk P w K mg base (L2N.CX P w) (k + 1) f fd ps sp := by
  obtain ⟨oc, od, kV, doc, pm, an, cdv, ct, osl, rfl, lk, hcd⟩ := F.ex
  exact fn_of lk hcd S len fun A outer s H vs Q E => body cdv A outer s H vs Q E
theorem okH (F : Fun K x qual st f fd) (S : FnScope N ps (defScope st)) (len : ∀ vs H Q E, sp vs H Q E → vs.length = ps.length)
    (body : ∀ (cdv : Value) (A : Around) (outer : List Env) (s : Shared) (H : Hp) (vs : List V) (Q : VK) (E : XK) (p : Addr × Obj), L2H.Hot1 A p →
      L2H.RoomH k (A.deeper (envOfC qual (defScope st) s.heap.objs.size f cdv)) → sp vs H Q E →
      ∃ t, PSs (L2H.cxH CX0 P w K mg base N qual (defScope st) f cdv A outer s H E p) (defBody st) t ∧
        t { nx := fun _ H' => Q .non H', rt := Q } (start N vs) H) :
    L2H.FnH P w K mg base CX0 (k + 1) f fd ps sp := by
  obtain ⟨oc, od, kV, doc, pm, an, cdv, ct, osl, rfl, lk, hcd⟩ := F.ex
  exact L2H.fn_ofH lk hcd S len fun A outer s H vs Q E p => body cdv A outer s H vs Q E p
/-- the law's own def: it runs once, from the ground (where no repr runs) -/
structure LawOk (P : Program) (w : World) (K : PySem.W.Frag) (mg : Str → Option Value) (base : Heap) (f : Addr) (sp : Sp) : Prop where
  run : ∀ (s : Shared) (H : Hp) (a : Addr) (Q : VK) (E : XK), Env0 P w K mg base callerA [] s H → sp [.ref a] H Q E →
    codeAny (model P w) callerA (.call (.ref f) ⟨[.ref a], []⟩) (CR (L2N.CX P w) [] P w H s Q E) s
theorem law_of (F : Fun K x qual st f fd) {y : Str} (S : FnScope N [y] (defScope st)) (hb : Binds K fd [y] []) (hr : Room (k + 1) callerA)
    (len : ∀ vs H Q E, sp vs H Q E → vs.length = [y].length)
    (body : ∀ (cdv : Value) (s : Shared) (H : Hp) (vs : List V) (Q : VK) (E : XK),
      Room k (callerA.deeper (envOfC qual (defScope st) s.heap.objs.size f cdv)) → sp vs H Q E →
      ∃ t, PSs (cxOf (L2N.CX P w) P w K mg base N qual (defScope st) f cdv callerA [] s H E) (defBody st) t ∧
        t { nx := fun _ H' => Q .non H', rt := Q } (start N vs) H) : LawOk P w K mg base f sp := by
  obtain ⟨oc, od, kV, doc, pm, an, cdv, ct, osl, rfl, lk, hcd⟩ := F.ex
  refine ⟨fun s H a Q E e0 h => ?_⟩
  have KX : K.In s.heap := e0.mod.kin.keeps fun b o e => (e0.bs b o e).1
  have lim : s.heap.NoLimit := e0.mod.nolimit.keeps fun b o e => (e0.bs b o e).1
  have bnd := hb s [.ref a] KX rfl
  have kinds : ∀ z ∈ [y].zip ([Value.ref a] ++ []), (defScope st).names.lookup z.1 = some .local ∨
      ((defScope st).names.lookup z.1 = some .cell ∧ ((cellsFrom (s.heap.objs.size + 1) (defScope st).names []).lookup z.1).isSome = true) := by
    intro z hz
    have : z = (y, Value.ref a) := by simpa using hz
    subst this
    rcases S.par y (by simp) with q | q
    · exact .inl q
    · exact .inr ⟨q, PySem.W.cellsFrom_some _ _ _ (.inl q)⟩
  refine codeAny_call_function hr.depth (KX _ _ lk) rfl S.co S.gen rfl (PySem.W.codeRec_of KX hcd) (bnd _ _ _ _ ?_)
  refine wpAny_newFunctionEnv_cells S.kind kinds fun env he s1 z => ?_
  subst he
  refine ⟨lim.keeps z.toInCall.keep, codeAny_func ?_⟩
  obtain ⟨t, ht, hq⟩ := body cdv s H [.ref a] Q E (hr.deeper _) h
  have I := inv_start (CX := L2N.CX P w) (cd := cdv) (qual := qual) (f := f) (E := E) S hr.hd e0 (vs := [.ref a]) (us := [.ref a]) rfl (.cons rfl .nil) z
  refine wpAny_mono (ht.run [] s1 _ H _ I hq) (fun fl s' hs => ?_) fun e s' hs => hs
  cases fl with
  | next =>
    obtain ⟨σ', H', J, q⟩ := hs
    exact ⟨.non, H', J.os, J.bare, J.base, J.hok, rfl, q⟩
  | ret u =>
    obtain ⟨v, σ', H', J, rv, q⟩ := hs
    exact ⟨v, H', J.os, J.bare, J.base, J.hok, rv, q⟩
  | brk =>
    obtain ⟨_, _, _, q⟩ := hs
    exact q.elim
  | cont =>
    obtain ⟨_, _, _, q⟩ := hs
    exact q.elim
end
end Ly

namespace Ly
open PySem PySem.Spec PyProof.Rows L2
/-! ### the head of a law that is run from the ground -/
section
variable {P : Program} {w : World} {K : PySem.W.Frag} {mg mb : Str → Option Value} {fa a : Addr} {sp : Sp} {t : Shared} {us : List Value} {ns : List Int}
/-- over an abstract heap that tracks nothing but the script -/
theorem ground_run {H : Hp} (KX : K.In t.heap) (gm : t.heap.Ns mainGlobals mg) (gb : t.heap.Ns builtinsNs mb) (hbb : ∀ x : Str, x ≠ "__name__" → mb x = bootBuiltins x)
    (lim : t.heap.NoLimit) (gens : t.gens = #[]) (ha : t.heap.get? a = some { cls := .type "list", data := .seq us.toArray })
    (F : ∀ base : Heap, K.In base → base.Ns mainGlobals mg → LawOk P w K mg base fa sp)
    (only : Only H) (q : sp [.ref a] H (fun v _ => v = .bl true) fun _ _ _ => False) (ok : HOk P w H t.heap) (mine : ∀ b, H b ≠ none → b = a) (apart : H a ≠ none → K.lookup a = none) :
    codeAny (model P w) callerA (.call (.ref fa) ⟨[.ref a], []⟩) (fun r s' => r = .ok (.ret (.bool true)) ∧ OldK t.heap s'.heap ∧ s'.os = t.os ∧ AllBare s'.gens) t := by
  have stays : ∀ {b : Addr} {o : Obj}, t.heap.get? b = some o → b ≠ a → (hidT t.heap H).get? b = some o := fun {b o} e hne => by
    refine hidT_get e ?_
    cases hb : H b with
    | none => rfl
    | some u => exact absurd (mine b (by simp [hb])) hne
  have spaces : ∀ {b : Addr} {m : Str → Option Value}, t.heap.Ns b m → (hidT t.heap H).Ns b m := fun {b m} hs => by
    obtain ⟨o, es, ep, e, d, rest⟩ := hs
    refine ⟨o, es, ep, stays e (fun z => ?_), d, rest⟩
    subst z
    rw [ha] at e
    cases e
    cases d
  have written : K.In (hidT t.heap H) := fun b o e => by
    by_cases hb : H b = none
    · exact hidT_get (KX b o e) hb
    · have := mine b hb
      subst this
      rw [apart hb] at e
      cases e
  have md : Mod K mg (hidT t.heap H) := by
    obtain ⟨mc, l1, l2⟩ := lim
    exact ⟨written, spaces gm, ⟨mb, spaces gb, hbb⟩, ⟨mc, spaces l1, l2⟩⟩
  have e0 : Env0 P w K mg (hidT t.heap H) callerA [] t H :=
    { frames := rfl, mod := md, bs := fun b o e => of_hidT e, bsz := Nat.le_of_eq (hidT_size _ _), funs := trivial, frf := fun b hb => (nomatch hb), hok := ok, bare := .of_eq gens }
  refine codeAny_mono ((F _ written (spaces gm)).run t H a _ _ e0 q) fun r s' hr => ?_
  match r, hr with
  | .error e, hr =>
    obtain ⟨_, _, _, _, _, _, _, _, _, _, _, _, z⟩ := hr
    exact z.elim
  | .ok .next, hr => exact False.elim hr
  | .ok .brk, hr => exact False.elim hr
  | .ok .cont, hr => exact False.elim hr
  | .ok (.ret u), hr =>
    obtain ⟨v, H', os, bare, un, ok', ru, qv⟩ := hr
    cases (show v = .bl true from qv)
    cases (show u = Value.bool true from ru)
    refine ⟨rfl, OldK.of_keep fun b o e => ?_, os, bare⟩
    rcases only b with hb | ⟨ob, xs, hb⟩
    · exact un.keep b o e hb (fun z => nomatch z) (fun z => nomatch z)
    · have e1 := (ok b _ hb).1
      have e2 := (ok' b _ (un.frzs b ob _ hb)).1
      rw [e] at e1
      cases e1
      exact e2
theorem ground_call (KX : K.In t.heap) (gm : t.heap.Ns mainGlobals mg) (gb : t.heap.Ns builtinsNs mb) (hbb : ∀ x : Str, x ≠ "__name__" → mb x = bootBuiltins x)
    (lim : t.heap.NoLimit) (gens : t.gens = #[]) (ha : t.heap.get? a = some { cls := .type "list", data := .seq us.toArray }) (hi : IntsAre us ns) (hl : ns.length ≤ sizeLine)
    (F : ∀ base : Heap, K.In base → base.Ns mainGlobals mg → LawOk P w K mg base fa sp)
    (q : ∀ H : Hp, Only H → SqL K H a (ns.map V.int) → sp [.ref a] H (fun v _ => v = .bl true) fun _ _ _ => False) :
    codeAny (model P w) callerA (.call (.ref fa) ⟨[.ref a], []⟩) (fun r s' => r = .ok (.ret (.bool true)) ∧ OldK t.heap s'.heap ∧ s'.os = t.os ∧ AllBare s'.gens) t := by
  have rv := vals_ints hi
  cases hk : K.lookup a with
  | some o =>
    have e := KX a o hk
    rw [ha] at e
    cases e
    have only : Only fun _ => none := fun _ => .inl rfl
    refine ground_run (H := fun _ => none) KX gm gb hbb lim gens ha F only (q _ only (.inr ?_)) (fun b u z => nomatch z) (fun b z => absurd rfl z) (fun z => absurd rfl z)
    exact ⟨_, us.toArray, _, hk, rfl, rfl, rfl, by rw [List.size_toArray, hi.length]; exact hl, by simpa using rv⟩
  | none =>
    generalize hH : (fun b => if b = a then some (HO.frz { cls := .type "list", data := .seq us.toArray } (.lst (ns.map V.int))) else none : Hp) = H
    have at_a : H a = some (.frz { cls := .type "list", data := .seq us.toArray } (.lst (ns.map V.int))) := by
      subst hH
      exact if_pos rfl
    have off : ∀ b, b ≠ a → H b = none := fun b hb => by
      subst hH
      exact if_neg hb
    have only : Only H := fun b => by
      by_cases hb : b = a
      · exact .inr ⟨_, _, hb ▸ at_a⟩
      · exact .inl (off b hb)
    refine ground_run KX gm gb hbb lim gens ha F only (q H only (.inl (.inr ⟨_, at_a⟩))) (fun b u z => ?_) (fun b z => ?_) (fun _ => hk)
    · by_cases hb : b = a
      · subst hb
        rw [at_a] at z
        cases z
        exact ⟨ha, by rw [List.length_map]; exact hl, us, _, rv, ha⟩
      · rw [off b hb] at z
        cases z
    · exact Decidable.byContradiction fun hb => z (off b hb)
end
theorem walkG {l : PySem.W.OpenLaw} {n : Nat} {q : Program} {loose : List Str} {XP : (Str → Option Value) → Heap → Prop} {YP : World → Heap → Prop} {d : DefRec} {K : Params → PySem.W.Frag} {sp : World → Sp}
    (hn : l.most = some n) (hn2 : n ≤ sizeLine) (hdf : d.params.defaults = []) (hY : ∀ (w : World) (h : Heap), YP w h → (K w.params).In h)
    (F : ∀ (w : World) (mg : Str → Option Value) (fa : Addr) (h : Heap), (K w.params).In h → h.Ns mainGlobals mg → mg d.name = some (.ref fa) →
      ∀ base : Heap, (K w.params).In base → base.Ns mainGlobals mg → LawOk l.prog w (K w.params) mg base fa (sp w))
    (hsp : ∀ (w : World) (H : Hp) (a : Addr) (ns : List Int), ns.length ≤ n → Only H → SqL (K w.params) H a (ns.map V.int) → sp w [.ref a] H (fun v _ => v = .bl true) fun _ _ _ => False) :
    PySem.W.WalkO q loose XP YP l.row.toRowW d [] (fun f vs => PySem.call f vs) := by
  refine Att.attach_call hn hdf fun w s₀ s₁ mg mb fa o pm cd doc a vs ns G Y ho hd hcd hmg hobj hints hlen hg => ?_
  have KX := hY w _ Y
  exact ground_call KX G.T.g G.T.b G.T.builtins G.T.nolimit hg hobj hints (Nat.le_trans hlen hn2) (F w mg fa _ KX G.T.g hmg) fun H hO hS => hsp w H a ns hlen hO hS
end Ly

namespace Ly
open PySem PySem.Spec PyProof.Rows L2
section
variable {X : Cx}
theorem op_plus : OpR X (binaryOp .Add) (fun x y H Q => (rI0 fun i j => .int (i + j)) x y H Q ∨ (∃ i j, x = .str i ∧ y = .str j ∧ i.length + j.length ≤ sizeLine ∧ Q (.str (i ++ j)) H)) := op_add.or op_add_str
theorem op_times : OpR X (binaryOp .Mult) (fun x y H Q => (rI CMul fun i j => .int (i * j)) x y H Q ∨ rMulS x y H Q) := op_mul.or op_mulS
/-- in: one sign in a text, or an item in a list or tuple -/
def rWithin (K : PySem.W.Frag) : R2 := fun x y H Q => (∃ (c : Nat) (z : Str), x = .str ⟨#[c]⟩ ∧ y = .str z ∧ Q (.bl (decide (c ∈ z.cps.toList))) H) ∨ rIn K false x y H Q
theorem op_within : OpR X (compareOp .In) (rWithin X.K) := op_in_sign.or op_in_seq
theorem cr_or {f : Value} {r r' : List V → Hp → VK → Prop} (h : CallR X f r) (h' : CallR X f r') : CallR X f (fun xs H Q => r xs H Q ∨ r' xs H Q) :=
  fun pins s σ H xs us Q I rx q => q.elim (fun q => h pins s σ H xs us Q I rx q) fun q => h' pins s σ H xs us Q I rx q
def rInt : List V → Hp → VK → Prop := fun xs H Q => ((∃ i, xs = [.int i] ∧ Q (.int i) H) ∨ ∃ k, xs = [.bl k] ∧ Q (.int (if k then 1 else 0)) H) ∨
  ∃ (a : Str) (n : Int), xs = [.str a] ∧ PySem.intText? a = some n ∧ a.length ≤ 640 ∧ Q (.int n) H
theorem call_intX : CallR X (.type "int") rInt := cr_or call_int1 call_int_str
end
theorem hu_of64 {A : Around} {k : Nat} (hr : Room k A) : A.units + 64 < cLine := hr.units
theorem hu_of128 {A : Around} {k : Nat} (hr : Room k A) : A.units + 128 < cLine := by
  have := hr.un
  omega
theorem XCls.xfc {K : PySem.W.Frag} {mg : Str → Option Value} {x : Str} {C fI : Addr} {f : Str} (T : XCls K mg x C fI f) : XfC K C := ⟨T.xf.1, T.xf.2.1, T.oe.exC, T.xf.2.2⟩
theorem exm_self {K : PySem.W.Frag} {S : Addr} (h1 : PySem.W.subIn K (.ref S) (.type "BaseException") = some true) (h2 : PySem.W.isClsIn K S = true)
    (h3 : PySem.W.typeIn K (.ref S) = some (.type "type")) (h4 : PySem.W.subIn K (.ref S) (.ref S) = some true) : PySem.W.exmOne K (.ref S) (.ref S) = some true := by
  have h2' : (PySem.W.clsIn K S).isSome = true := h2
  have e1 : (PySem.W.subIn K (.ref S) (.type "BaseException") == some true) = true := by rw [h1]; rfl
  have e3 : (PySem.W.typeIn K (.ref S) == some (.type "type")) = true := by rw [h3]; exact beq_self_eq_true _
  simp only [PySem.W.exmOne, PySem.W.kitCls, e1, if_true, h2', e3, Bool.and_self, h4]
theorem xcls_mk {K : PySem.W.Frag} {mg : Str → Option Value} {x : Str} {C fI : Addr} {f : Str} {nm q : Str} {N : Addr} {bs bm : List Value} {sn : List Str} {sub : List Value} {ab : Bool} {col : Option Bool} {dd : Option Addr} {k0 k1 k2 k3 k5 : Option Value}
    (gC : mg x = some (.ref C)) (xL : K.lookup C = some (excClassObj nm q C N bs bm true sn sub ab col dd k0 k1 k2 k3 k5 "ValueError.__new__")) (rf : PySem.HandSPX.refsVE bm = true)
    (sa : PySem.W.findIn K (.ref C) "__setattr__" = some (some (.builtin "object.__setattr__"))) (ga : PySem.W.findIn K (.ref C) "__getattribute__" = some (some (.builtin "BaseException.__getattribute__")))
    (gg : PySem.W.findIn K (.ref C) "__getattr__" = some none) (no : PySem.W.findIn K (.ref C) f = some none) (iC : PySem.W.findIn K (.ref C) "__init__" = some (some (.ref fI))) (tI : PySem.W.typeIn K (.ref fI) = some (.type "function"))
    (kC : PySem.W.keepIn K (.ref C) = true) (eC : PySem.W.subIn K (.ref C) (.type "BaseException") = some true) (tC : PySem.W.typeIn K (.ref C) = some (.type "type")) (hC : PySem.W.hasDictIn K C = true) (cC : PySem.W.isClsIn K C = true)
    (sC : PySem.W.subIn K (.ref C) (.ref C) = some true) : XCls K mg x C fI f where
  oe := ⟨⟨nm, q, N, bs, bm, sn, sub, ab, col, dd, k0, k1, k2, k3, k5, xL, rf⟩, sa, eC, tC, kC⟩
  gC := gC
  iC := iC
  tI := tI
  no := no
  xf := ⟨ga, gg, hC⟩
  me := exm_self eC cC tC sC
/-- the suite of an except clause is a place where an exception is handled -/
theorem hotc {X : Cx} {a : Addr} {oe : Obj} {cls : Value} {d : Option Addr} {pn : List (Addr × Obj)} (hz : L2N.Zn cls d oe) (hf : ∃ vs, oe.data = .fields vs) : L2H.HotC (X.suite a ((a, oe) :: pn)) := by
  obtain ⟨vs, hd⟩ := hf
  exact ⟨(a, oe), ⟨rfl, vs, hd, hz.2.2 vs hd⟩, List.mem_cons_self⟩
theorem passH {X : Cx} {σ : L2.St} {E : XK} : PassesAt CX0 X σ E := fun _ _ _ _ _ _ c => c.elim
theorem ok_xinit {P : Program} {w : World} {K : PySem.W.Frag} {mg : Str → Option Value} {base : Heap} {qual : Str} {st : Stmt} {f C : Addr} {fd : FuncData} {fl : Str} (F : Fun K "__init__" qual st f fd)
    (S : FnScope (["self", fl] : List Str) (["self", fl] : List Str) (defScope st)) (d : ∀ X : Cx, X.K = K → X.N = (["self", fl] : List Str) → X.env.scope = defScope st → PSs X (defBody st) (tOst K fl (tVar 0) (tVar 1))) :
    FnOk P w K mg base CX0 1 f fd (["self", fl] : List Str) (spXI K C fl) := by
  refine F.ok S (fun vs H Q E h => ?_) (fun cdv A outer s H vs Q E hr h => ?_)
  · obtain ⟨a, v, rfl, _⟩ := h
    rfl
  · obtain ⟨a, v, rfl, T, no, ea, q⟩ := h
    exact ⟨_, d _ rfl rfl rfl, v, rfl, .ref a, rfl, a, C, rfl, T, no, .inl ⟨ea, fun dx n ne => q dx n ne⟩⟩
/-! ### the built-ins by name -/
theorem bt_len : bootBuiltins "len" = some (.builtin "len") := by decide +kernel
theorem bt_min : bootBuiltins "min" = some (.builtin "min") := by decide +kernel
theorem bt_max : bootBuiltins "max" = some (.builtin "max") := by decide +kernel
theorem bt_abs : bootBuiltins "abs" = some (.builtin "abs") := by decide +kernel
theorem bt_repr : bootBuiltins "repr" = some (.builtin "repr") := by decide +kernel
theorem bt_isinstance : bootBuiltins "isinstance" = some (.builtin "isinstance") := by decide +kernel
theorem bt_int : bootBuiltins "int" = some (.type "int") := by decide +kernel
theorem bt_str : bootBuiltins "str" = some (.type "str") := by decide +kernel
theorem bt_list : bootBuiltins "list" = some (.type "list") := by decide +kernel
theorem bt_tuple : bootBuiltins "tuple" = some (.type "tuple") := by decide +kernel
theorem bt_bool : bootBuiltins "bool" = some (.type "bool") := by decide +kernel
theorem bt_range : bootBuiltins "range" = some (.type "range") := by decide +kernel
theorem rmark {k : Nat} {A : Around} (r : Room k A) (h : Option Value) : L2H.RoomH k (A.mark h) := ⟨r.dp, r.un⟩
theorem hu_mark {A : Around} {k : Nat} {h : Option Value} (hr : Room k A) : (A.mark h).units + 64 < cLine := hr.units
/-! ### the same with the written part by name (for suites, whose context holds more than the reading may name) -/
section
variable {X : Cx} {K : PySem.W.Frag}
theorem call_lenK (h : X.K = K) : CallR X (.builtin "len") (fun xs H Q => ∃ x n, xs = [x] ∧ LenV K x H n ∧ Q (.int (n : Nat)) H) := by
  subst h
  exact call_len
theorem ix_seqK (h : X.K = K) : IxR X (rIx K) := by
  subst h
  exact ix_seq
theorem op_withinK (h : X.K = K) : OpR X (compareOp .In) (rWithin K) := by
  subst h
  exact op_within
end
end Ly

/-! ### what the lexer computes, over lists of codes -/
namespace Lx
open PySem TL
def letters : List Nat := tl ("abcdefghijklmnopqrstuvwxyzABCDEFGHIJKLMNOPQRSTUVWXYZ" : Str)
def digits : List Nat := tl ("0123456789" : Str)
def naming : List Nat := tl ("abcdefghijklmnopqrstuvwxyzABCDEFGHIJKLMNOPQRSTUVWXYZ0123456789_" : Str)
def blanks : List Nat := tl (" \t\n" : Str)
def inS (S : List Nat) (c : Nat) : Bool := decide (c ∈ S)
def run (S : List Nat) (l : List Nat) : Nat := (l.takeWhile (inS S)).length
theorem run_nil (S : List Nat) : run S [] = 0 := rfl
theorem run_in {S r : List Nat} {c : Nat} (h : inS S c = true) : run S (c :: r) = run S r + 1 := by
  unfold run
  rw [List.takeWhile_cons_of_pos h]
  rfl
theorem run_out {S r : List Nat} {c : Nat} (h : inS S c = false) : run S (c :: r) = 0 := by
  unfold run
  rw [List.takeWhile_cons_of_neg (by simp [h])]
  rfl
theorem run_le (S l : List Nat) : run S l ≤ l.length := (List.takeWhile_sublist _).length_le
theorem take_run (S l : List Nat) : l.take (run S l) = l.takeWhile (inS S) := by
  induction l with
  | nil => rfl
  | cons c r ih =>
    cases h : inS S c with
    | true => rw [run_in h, List.take_succ_cons, ih, List.takeWhile_cons_of_pos h]
    | false => rw [run_out h, List.takeWhile_cons_of_neg (by simp [h])]; rfl
/-- how many signs are passed over; true: within a comment -/
def skip : Bool → List Nat → Nat
  | _, [] => 0
  | false, c :: r => if c = 35 then skip true r + 1 else if inS blanks c = true then skip false r + 1 else 0
  | true, c :: r => if c = 10 then skip false r + 1 else skip true r + 1
theorem skip_le : ∀ (b : Bool) (l : List Nat), skip b l ≤ l.length
  | _, [] => by simp [skip]
  | false, c :: r => by
    have h1 := skip_le true r
    have h2 := skip_le false r
    unfold skip
    split
    · simp; omega
    · split
      · simp; omega
      · simp
  | true, c :: r => by
    have h1 := skip_le true r
    have h2 := skip_le false r
    unfold skip
    split <;> simp <;> omega
/-- to the end of a comment -/
def toEnd (l : List Nat) : Nat := (l.takeWhile fun c => decide (c ≠ 10)).length
theorem toEnd_le (l : List Nat) : toEnd l ≤ l.length := (List.takeWhile_sublist _).length_le
theorem toEnd_cons {c : Nat} {r : List Nat} (h : c ≠ 10) : toEnd (c :: r) = toEnd r + 1 := by
  unfold toEnd
  rw [List.takeWhile_cons_of_pos (by simp [h])]
  rfl
theorem toEnd_10 (r : List Nat) : toEnd (10 :: r) = 0 := by
  unfold toEnd
  rw [List.takeWhile_cons_of_neg (by simp)]
  rfl
theorem skip_true : ∀ l : List Nat, skip true l = toEnd l + skip false (l.drop (toEnd l))
  | [] => rfl
  | c :: r => by
    by_cases h : c = 10
    · subst h
      rw [toEnd_10]
      simp only [skip, if_true, List.drop_zero, Nat.zero_add]
      have : inS blanks 10 = true := by decide
      rw [this]
      simp
    · rw [toEnd_cons h, List.drop_succ_cons]
      have ih := skip_true r
      simp only [skip, if_neg h]
      omega
theorem skip_hash (r : List Nat) : skip false (35 :: r) = toEnd (35 :: r) + skip false ((35 :: r).drop (toEnd (35 :: r))) := by
  have h := skip_true r
  rw [toEnd_cons (by decide), List.drop_succ_cons]
  simp only [skip, if_true]
  omega
theorem skip_blank {c : Nat} {r : List Nat} (h : inS blanks c = true) : skip false (c :: r) = skip false r + 1 := by
  have h35 : c ≠ 35 := by
    intro e
    subst e
    exact absurd h (by decide)
  simp only [skip, if_neg h35, if_pos h]
theorem skip_stop {c : Nat} {r : List Nat} (h : inS blanks c = false) (h35 : c ≠ 35) : skip false (c :: r) = 0 := by
  simp [skip, h35, h]
/-- a token, without its place -/
inductive Tkn where
  | word (w : Str)
  | name (w : Str)
  | num (t b : Nat)
  | sign (w : Str)
def resV : List L2.V := [.str "and", .str "base", .str "else", .str "false", .str "from", .str "fun", .str "if", .str "in", .str "iterate", .str "let", .str "not", .str "or", .str "show", .str "then", .str "true", .str "unit"]
def sgns : List Str := ["<=", "==", "=", "<", "+", "-", "*", "/", "^", ",", ";", ":", "(", ")", "[", "]"]
def isRes (w : Str) : Bool := L2.inV (.str w) resV
def mk (l : List Nat) : Str := ⟨l.toArray⟩
theorem tl_of (l : List Nat) : tl (mk l) = l := rfl
theorem mk_len (l : List Nat) : (mk l).length = l.length := by
  rw [len_tl, tl_of]
def nmAt (l : List Nat) : Option (Tkn × Nat) :=
  if isRes (mk (l.take (run naming l))) = true then some (.word (mk (l.take (run naming l))), run naming l)
  else if 16 < run naming l then none else some (.name (mk (l.take (run naming l))), run naming l)
def fracAt (l : List Nat) : List Nat := match l with
  | [] => []
  | c :: r => if c = 46 then r.takeWhile (inS digits) else []
theorem fracAt_cons (c : Nat) (r : List Nat) : fracAt (c :: r) = if c = 46 then r.takeWhile (inS digits) else [] := rfl
theorem fracAt_le (l : List Nat) : (fracAt l).length ≤ l.length := by
  cases l with
  | nil => exact Nat.le_refl _
  | cons c r =>
    rw [fracAt_cons]
    split
    · have := (List.takeWhile_sublist (inS digits) (l := r)).length_le
      simp
      omega
    · simp
theorem fracAt_lt {l : List Nat} (h : fracAt l ≠ []) : (fracAt l).length + 1 ≤ l.length := by
  cases l with
  | nil => exact absurd rfl h
  | cons c r =>
    rw [fracAt_cons] at h ⊢
    split at h
    · rename_i hc
      rw [if_pos hc]
      have := (List.takeWhile_sublist (inS digits) (l := r)).length_le
      simp
      omega
    · exact absurd rfl h
theorem fracAt_digs (l : List Nat) : ∀ c ∈ fracAt l, inS digits c = true := by
  cases l with
  | nil => intro c hc; cases hc
  | cons a r =>
    intro c hc
    rw [fracAt_cons] at hc
    split at hc
    · exact List.all_eq_true.mp (List.all_takeWhile (l := r)) c hc
    · cases hc
theorem all_digs {S : List Nat} (h : ∀ c ∈ S, inS digits c = true) : NumText.AllDigits S := fun c hc => by
  have h1 : c ∈ digits := of_decide_eq_true (h c hc)
  have h2 : ∀ c ∈ digits, 48 ≤ c ∧ c ≤ 57 := by decide
  exact h2 c h1
def numEnd (l : List Nat) : Nat := if fracAt (l.drop (run digits l)) = [] then run digits l else run digits l + 1 + (fracAt (l.drop (run digits l))).length
def headIn (S l : List Nat) : Bool := match l with
  | [] => false
  | c :: _ => inS S c
def nrAt (l : List Nat) : Option (Tkn × Nat) :=
  if 6 < run digits l ∨ 5 ≤ (fracAt (l.drop (run digits l))).length then none
  else if headIn naming (l.drop (numEnd l)) = true then none
  else some (.num (NumText.digitsVal (l.take (run digits l) ++ fracAt (l.drop (run digits l)))) (10 ^ (fracAt (l.drop (run digits l))).length), numEnd l)
def sgAt (l : List Nat) : Option (Tkn × Nat) := (sgns.find? fun s => (tl s).isPrefixOf l).map fun s => (.sign s, s.length)
def tokAt (l : List Nat) : Option (Tkn × Nat) := match l with
  | [] => none
  | c :: _ => if inS letters c = true then nmAt l else if inS digits c = true then nrAt l else sgAt l
theorem tokAt_cons (c : Nat) (r : List Nat) : tokAt (c :: r) = if inS letters c = true then nmAt (c :: r) else if inS digits c = true then nrAt (c :: r) else sgAt (c :: r) := rfl
/-- from a token's start to a token's start, by these tokens -/
inductive LexTo : Nat → List Nat → List (Tkn × Nat) → Nat → List Nat → Prop
  | refl {i : Nat} {l : List Nat} : LexTo i l [] i l
  | step {i j n : Nat} {l l' : List Nat} {t : Tkn} {ts : List (Tkn × Nat)} : tokAt l = some (t, n) →
      LexTo (i + n + skip false (l.drop n)) ((l.drop n).drop (skip false (l.drop n))) ts j l' → LexTo i l ((t, i) :: ts) j l'
theorem LexTo.trans {i j k : Nat} {l l' l'' : List Nat} {ts us : List (Tkn × Nat)} (h : LexTo i l ts j l') (h' : LexTo j l' us k l'') : LexTo i l (ts ++ us) k l'' := by
  induction h with
  | refl => exact h'
  | step e _ ih => exact .step e (ih h')
/-! ### progress -/
theorem letter_naming {c : Nat} (h : inS letters c = true) : inS naming c = true := by
  have h1 : c ∈ letters := of_decide_eq_true h
  have h2 : ∀ c ∈ letters, inS naming c = true := by decide
  exact h2 c h1
theorem numEnd_ge (l : List Nat) : run digits l ≤ numEnd l := by
  unfold numEnd
  split <;> omega
theorem tokAt_pos {l : List Nat} {t : Tkn} {n : Nat} (h : tokAt l = some (t, n)) : 1 ≤ n ∧ n ≤ l.length := by
  cases l with
  | nil => cases h
  | cons c r =>
    simp only [tokAt] at h
    split at h
    · rename_i hc
      have h1 : run naming (c :: r) = run naming r + 1 := run_in (letter_naming hc)
      have h2 := run_le naming (c :: r)
      unfold nmAt at h
      split at h
      · cases h
        omega
      · split at h
        · cases h
        · cases h
          omega
    · split at h
      · rename_i hc
        have h1 : run digits (c :: r) = run digits r + 1 := run_in hc
        have h2 := run_le digits (c :: r)
        have h3 := numEnd_ge (c :: r)
        unfold nrAt at h
        split at h
        · cases h
        · split at h
          · cases h
          · cases h
            refine ⟨by omega, ?_⟩
            unfold numEnd
            split
            · exact h2
            · rename_i hne
              have h4 : (fracAt ((c :: r).drop (run digits (c :: r)))).length + 1 ≤ ((c :: r).drop (run digits (c :: r))).length := by
                generalize (c :: r).drop (run digits (c :: r)) = m at hne
                cases m with
                | nil => exact absurd rfl hne
                | cons d q =>
                  by_cases hd : d = 46
                  · have := (List.takeWhile_sublist (inS digits) (l := q)).length_le
                    simp only [fracAt, if_pos hd, List.length_cons]
                    omega
                  · exact absurd (by simp only [fracAt, if_neg hd]) hne
              rw [List.length_drop] at h4
              omega
      · unfold sgAt at h
        cases e : sgns.find? fun s => (tl s).isPrefixOf (c :: r) with
        | none => rw [e] at h; cases h
        | some s =>
          rw [e] at h
          cases h
          have hm := List.mem_of_find?_eq_some e
          have hp := List.find?_some e
          have hl : ∀ s ∈ sgns, 1 ≤ s.length := by decide
          refine ⟨hl s hm, ?_⟩
          have := (List.isPrefixOf_iff_prefix.mp hp).length_le
          rw [← len_tl] at this
          exact this
/-! ### the text's own functions -/
theorem find_nl (z : Str) {i : Nat} (h : i ≤ z.length) : Txt.find3 z "\n" (i : Int) = if i + toEnd ((tl z).drop i) < z.length then ((i + toEnd ((tl z).drop i) : Nat) : Int) else -1 := by
  have hf : PySem.Txt.find3 z "\n" (i : Int) = (match Builtin.Str.occurrences z "\n" i z.length 1 with | k :: _ => (k : Int) | [] => -1) := by
    unfold PySem.Txt.find3
    have : fromIndex z.length (i : Int) = i := by
      unfold fromIndex
      rw [if_neg (by omega)]
      omega
    rw [this]
    split <;> rename_i h1 <;> split <;> rename_i h2 <;> rw [h1] at h2 <;> simp_all
  have at_ : ∀ k, StrLaws.At z "\n" z.length k ↔ (tl z)[k]? = some 10 := fun k => StrLaws.subAt_one z 10 k
  have hz : z.length = (tl z).length := len_tl z
  have inside : ∀ k, k < toEnd ((tl z).drop i) → (tl z)[i + k]? ≠ some 10 := fun k hk e => by
    have h1 : ((tl z).drop i)[k]? = some 10 := by rw [List.getElem?_drop]; exact e
    have h2 : (((tl z).drop i).takeWhile fun c => decide (c ≠ 10))[k]? = some 10 := by
      have := List.takeWhile_prefix (fun c => decide (c ≠ 10)) (l := (tl z).drop i)
      obtain ⟨t, ht⟩ := this
      rw [← ht, List.getElem?_append_left hk] at h1
      exact h1
    have h3 := List.all_takeWhile (p := fun c => decide (c ≠ 10)) (l := (tl z).drop i)
    have h4 := List.all_eq_true.mp h3 10 (List.mem_of_getElem? h2)
    simp at h4
  have stop : i + toEnd ((tl z).drop i) < z.length → (tl z)[i + toEnd ((tl z).drop i)]? = some 10 := fun hlt => by
    have key : ∀ l : List Nat, toEnd l < l.length → l[toEnd l]? = some 10 := by
      intro l
      induction l with
      | nil => intro h; simp [toEnd] at h
      | cons c r ih =>
        intro h
        by_cases hc : c = 10
        · subst hc
          rw [toEnd_10]
          rfl
        · rw [toEnd_cons hc] at h ⊢
          rw [List.getElem?_cons_succ]
          exact ih (by simpa using h)
    have := key ((tl z).drop i) (by rw [List.length_drop]; omega)
    rw [List.getElem?_drop] at this
    exact this
  rw [hf]
  rcases StrLaws.occ_head_from z "\n" i 1 (Nat.le_refl 1) with ⟨e, hn⟩ | ⟨k, r, e, h1, h2, h3⟩
  · rw [e, if_neg fun hlt => ?_]
    exact hn _ (Nat.le_add_right _ _) ((at_ _).mpr (stop hlt))
  · rw [e]
    have hk := (at_ k).mp h2
    have hkl : k < z.length := by
      rw [hz]
      exact (List.getElem?_eq_some_iff.mp hk).1
    have g1 : i + toEnd ((tl z).drop i) ≤ k := Nat.le_of_not_lt fun hlt => inside (k - i) (by omega) (by rw [Nat.add_sub_cancel' h1]; exact hk)
    have g2 : k ≤ i + toEnd ((tl z).drop i) := Nat.le_of_not_lt fun hlt => h3 _ (Nat.le_add_right _ _) hlt ((at_ _).mpr (stop (by omega)))
    have : k = i + toEnd ((tl z).drop i) := by omega
    rw [if_pos (by omega), this]
theorem starts_eq (z s : Str) {i : Nat} (h : i ≤ z.length) : Txt.startswith3 z s (i : Int) = (tl s).isPrefixOf ((tl z).drop i) := by
  have hz : z.length = (tl z).length := len_tl z
  have hs : s.length = (tl s).length := len_tl s
  have e : fromIndex z.length (i : Int) = i := by
    unfold fromIndex
    rw [if_neg (by omega)]
    omega
  unfold Txt.startswith3
  rw [e, StrLaws.subAt_eq, hs]
  rw [Bool.eq_iff_iff, Bool.and_eq_true, decide_eq_true_eq, List.isPrefixOf_iff_prefix, beq_iff_eq]
  constructor
  · rintro ⟨_, e⟩
    refine ⟨((tl z).drop i).drop (tl s).length, ?_⟩
    have h5 := List.take_append_drop (tl s).length ((tl z).drop i)
    have e' : List.take (tl s).length ((tl z).drop i) = tl s := e
    rw [e'] at h5
    exact h5
  · rintro ⟨t, e⟩
    refine ⟨?_, ?_⟩
    · have := congrArg List.length e
      rw [List.length_append, List.length_drop] at this
      omega
    · rw [← e]
      exact List.take_left
theorem cut_eq (z : Str) {i j : Nat} (h : i ≤ j) (hj : j ≤ z.length) : L2.cutS z (some (i : Int)) (some (j : Int)) = mk (((tl z).drop i).take (j - i)) := by
  unfold L2.cutS
  rw [HT.sIx_nat, HT.sIx_nat, Nat.min_eq_left hj, Nat.min_eq_left (Nat.le_trans h hj)]
  rfl
end Lx
namespace Lx
open PySem PySem.Spec PyProof.Rows L2 Ly
/-! ### data that stays as the heap goes on -/
mutual
/-- no list in it -/
def noL : PyData → Bool
  | .list _ => false
  | .tuple ds => noLs ds
  | .dict _ => false
  | _ => true
def noLs : List PyData → Bool
  | [] => true
  | d :: ds => noL d && noLs ds
end
section
variable {K : PySem.W.Frag} {H H' : Hp}
mutual
theorem dp_keep (hT : ∀ a xs, SqT K H a xs → SqT K H' a xs) : ∀ (d : PyData) (v : V), noL d = true → Dp K H v d → Dp K H' v d
  | .none, _, _, h => by cases h; exact .non
  | .bool b, _, _, h => by cases h; exact .bl b
  | .int i, _, _, h => by cases h; exact .int i
  | .str x, _, _, h => by cases h; exact .str x
  | .list ds, _, n, _ => by simp [noL] at n
  | .dict ds, _, _, h => by cases h
  | .tuple ds, _, n, h => by
    cases h with
    | tup hs ha => exact .tup (hT _ _ hs) (dps_keep hT ds _ (by simpa [noL] using n) ha)
theorem dps_keep (hT : ∀ a xs, SqT K H a xs → SqT K H' a xs) : ∀ (ds : List PyData) (vs : List V), noLs ds = true → DpAll K H vs ds → DpAll K H' vs ds
  | [], _, _, h => by cases h; exact .nil
  | d :: ds, _, n, h => by
    have n' : noL d = true ∧ noLs ds = true := by simpa [noLs] using n
    cases h with
    | cons h1 h2 => exact .cons (dp_keep hT d _ n'.1 h1) (dps_keep hT ds _ n'.2 h2)
end
theorem sqt_same (e : Same H H') (a : Addr) (xs : List V) (h : SqT K H a xs) : SqT K H' a xs := by
  rcases h with (h | ⟨o, h⟩) | h
  · exact .inl (.inl (e _ _ h))
  · exact .inl (.inr ⟨o, e _ _ h⟩)
  · exact .inr h
theorem sqt_upd {l : Addr} {ys zs : List V} (hl : H l = some (.lst ys)) (a : Addr) (xs : List V) (h : SqT K H a xs) : SqT K (upd H l (.lst zs)) a xs := by
  rcases h with (h | ⟨o, h⟩) | h
  · refine .inl (.inl ?_)
    rw [upd_ne (ne_of h hl (by intro z; cases z))]
    exact h
  · refine .inl (.inr ⟨o, ?_⟩)
    rw [upd_ne (ne_of h hl (by intro z; cases z))]
    exact h
  · exact .inr h
theorem dps_append : ∀ {vs ws : List V} {ds es : List PyData}, DpAll K H vs ds → DpAll K H ws es → DpAll K H (vs ++ ws) (ds ++ es)
  | _, _, _, _, .nil, h => h
  | _, _, _, _, .cons a r, h => .cons a (dps_append r h)
theorem dps_len : ∀ {vs : List V} {ds : List PyData}, DpAll K H vs ds → vs.length = ds.length
  | _, _, .nil => rfl
  | _, _, .cons _ r => by rw [List.length_cons, List.length_cons, dps_len r]
end

end Lx

/-! ### calls that are counted one by one (for deep recursions); all of them may raise -/
namespace Ly
open PySem PySem.Spec PyProof.Rows L2
structure RoomT (k : Nat) (A : Around) : Prop where
  hd : A.handled = none
  dp : A.depth + k + 12 < recursionLimit
  un : A.units + 3 * k + 220 < cLine
theorem RoomT.mono {j k : Nat} {A : Around} (r : RoomT k A) (h : j ≤ k) : RoomT j A := ⟨r.hd, by have := r.dp; omega, by have := r.un; omega⟩
theorem RoomT.deeper {k : Nat} {A : Around} (r : RoomT (k + 1) A) (env : Env) : RoomT k (A.deeper env) :=
  ⟨r.hd, by have := r.dp; show A.depth + 1 + k + 12 < _; omega, by have := r.un; show A.units + 3 + 3 * k + 220 < _; omega⟩
theorem RoomT.make {k : Nat} {A : Around} (r : RoomT (k + 1) A) (C : Addr) (us : List Value) (kw : List (Str × Value)) : RoomT k (A.under (.builtin "type.__call__" ⟨.ref C :: us, kw⟩)) :=
  ⟨r.hd, by have := r.dp; rw [make_depth]; omega, by have := r.un; rw [make_units]; omega⟩
theorem RoomT.room {k : Nat} {A : Around} (r : RoomT (6 * k) A) : Room k A := ⟨r.hd, by have := r.dp; omega, by have := r.un; omega⟩
theorem RoomT.depth {k : Nat} {A : Around} (r : RoomT k A) : A.depth < recursionLimit := by have := r.dp; omega
theorem RoomT.u64 {k : Nat} {A : Around} (r : RoomT k A) : A.units + 64 < cLine := by have := r.un; omega
theorem RoomT.u128 {k : Nat} {A : Around} (r : RoomT k A) : A.units + 128 < cLine := by have := r.un; omega
theorem RoomT.hu {k : Nat} {A : Around} (r : RoomT k A) : A.units + 1 < cLine := by have := r.un; omega
structure FnT (P : Program) (w : World) (K : PySem.W.Frag) (mg : Str → Option Value) (base : Heap) (k : Nat) (f : Addr) (fd : FuncData) (ps : List Str) (sp : Sp) : Prop where
  len : ∀ vs H Q E, sp vs H Q E → vs.length = ps.length
  run : ∀ (A : Around) (outer : List Env) (s : Shared) (H : Hp) (args : Args) (us : List Value) (vs : List V) (Q : VK) (E : XK), RoomT k A → Env0 P w K mg base A outer s H →
    BindsTo s fd args (ps.zip us) → Vals vs us → sp vs H Q E → codeAny (model P w) A (.call (.ref f) args) (CR (L2N.CX P w) outer P w H s Q E) s
section
variable {P : Program} {w : World} {K : PySem.W.Frag} {mg : Str → Option Value} {base : Heap} {x qual : Str} {st : Stmt} {f : Addr} {fd : FuncData} {N ps : List Str} {k j : Nat} {sp sp' : Sp}
theorem FnT.mono (F : FnT P w K mg base j f fd ps sp) (h : j ≤ k) : FnT P w K mg base k f fd ps sp :=
  ⟨F.len, fun A outer s H args us vs Q E hr => F.run A outer s H args us vs Q E (hr.mono h)⟩
theorem FnT.imp (F : FnT P w K mg base k f fd ps sp) (h : ∀ vs H Q E, sp' vs H Q E → sp vs H Q E) : FnT P w K mg base k f fd ps sp' :=
  ⟨fun vs H Q E q => F.len vs H Q E (h _ _ _ _ q), fun A outer s H args us vs Q E hr he hb hv hs => F.run A outer s H args us vs Q E hr he hb hv (h _ _ _ _ hs)⟩
theorem FnT.of (F : FnOk P w K mg base (L2N.CX P w) k f fd ps sp) : FnT P w K mg base (6 * k) f fd ps sp :=
  ⟨F.len, fun A outer s H args us vs Q E hr => F.run A outer s H args us vs Q E hr.room⟩
theorem FnT.of0 (F : FnOk P w K mg base CX0 k f fd ps sp) : FnT P w K mg base (6 * k) f fd ps sp :=
  ⟨F.len, fun A outer s H args us vs Q E hr he hb hv hs => codeAny_mono (F.run A outer s H args us vs Q E hr.room he hb hv hs) fun r s' q => by
    cases r with
    | error e => exact False.elim q
    | ok fl => cases fl <;> exact q⟩
/-- a promise that nobody asks for -/
theorem FnT.none (h : ∀ vs H Q E, ¬ sp vs H Q E) : FnT P w K mg base k f fd ps sp :=
  ⟨fun vs H Q E q => (h _ _ _ _ q).elim, fun A outer s H args us vs Q E _ _ _ _ q => (h _ _ _ _ q).elim⟩
theorem okT (F : Fun K x qual st f fd) (S : FnScope N ps (defScope st)) (len : ∀ vs H Q E, sp vs H Q E → vs.length = ps.length)
    (body : ∀ (cdv : Value) (A : Around) (outer : List Env) (s : Shared) (H : Hp) (vs : List V) (Q : VK) (E : XK),
      RoomT k (A.deeper (envOfC qual (defScope st) s.heap.objs.size f cdv)) → sp vs H Q E →
      ∃ t, PSs (cxOf (L2N.CX P w) P w K mg base N qual (defScope st) f cdv A outer s H E) (defBody st) t ∧
        t { nx := fun _ H' => Q .non H', rt := Q } (start N vs) H) : FnT P w K mg base (k + 1) f fd ps sp := by
  obtain ⟨oc, od, kV, doc, pm, an, cdv, ct, osl, rfl, lk, hcd⟩ := F.ex
  refine ⟨len, fun A outer s H args us vs Q E hr e0 bnd rv hsp => ?_⟩
  have hl := len _ _ _ _ hsp
  have KX : K.In s.heap := e0.mod.kin.keeps fun b o e => (e0.bs b o e).1
  have lim : s.heap.NoLimit := e0.mod.nolimit.keeps fun b o e => (e0.bs b o e).1
  have kinds : ∀ z ∈ ps.zip us, (defScope st).names.lookup z.1 = some .local ∨
      ((defScope st).names.lookup z.1 = some .cell ∧ ((cellsFrom (s.heap.objs.size + 1) (defScope st).names []).lookup z.1).isSome = true) := by
    rintro ⟨n, v⟩ hz
    rcases S.par n (List.of_mem_zip hz).1 with q | q
    · exact .inl q
    · exact .inr ⟨q, PySem.W.cellsFrom_some _ _ _ (.inl q)⟩
  refine codeAny_call_function hr.depth (KX _ _ lk) rfl S.co S.gen rfl (PySem.W.codeRec_of KX hcd) (bnd _ _ _ _ ?_)
  refine wpAny_newFunctionEnv_cells S.kind kinds fun env he s1 z => ?_
  subst he
  refine ⟨lim.keeps z.toInCall.keep, codeAny_func ?_⟩
  obtain ⟨t, ht, hq⟩ := body cdv A outer s H vs Q E (hr.deeper _) hsp
  have I := inv_start (CX := L2N.CX P w) (cd := cdv) (qual := qual) (f := f) (E := E) S hr.hd e0 hl rv z
  refine wpAny_mono (ht.run [] s1 _ H _ I hq) (fun fl s' hs => ?_) fun e s' hs => hs
  cases fl with
  | next =>
    obtain ⟨σ', H', J, q⟩ := hs
    exact ⟨.non, H', J.os, J.bare, J.base, J.hok, rfl, q⟩
  | ret u =>
    obtain ⟨v, σ', H', J, rv, q⟩ := hs
    exact ⟨v, H', J.os, J.bare, J.base, J.hok, rv, q⟩
  | brk =>
    obtain ⟨_, _, _, q⟩ := hs
    exact q.elim
  | cont =>
    obtain ⟨_, _, _, q⟩ := hs
    exact q.elim
end
section
variable {X : Cx} {k : Nat} {f C : Addr} {fd : FuncData} {ps : List Str} {sp : Sp} {x m : Str} {p pos apos : Pos} {e o : Expr} {es : List Expr} {ta : TE} {t : TA}
theorem run_T {pins : List (Addr × Obj)} {σ : L2.St} {H : Hp} {s : Shared} {Q : VK} {us : List Value} {vs : List V} {E : L2.St → XK} (F : FnT X.prog X.w X.K X.mg X.base k f fd ps sp) (hr : RoomT k X.A) (hb : Binds X.K fd ps [])
    (hx : PassesAt (L2N.CX X.prog X.w) X σ (E σ)) (I : Inv X pins σ H s) (r : Vals vs us) (h : sp vs H Q (E σ)) : wpAny (model X.prog X.w) X.A (call (.ref f) us) (EP X pins σ Q) X.xe s := by
  have hl : (us ++ []).length = ps.length := by
    rw [List.append_nil, ← r.length]
    exact F.len _ _ _ _ h
  have b := hb s us I.kIn hl
  rw [List.append_nil] at b
  refine wpAny_call (codeAny_mono (F.run X.A X.stack s H ⟨us, []⟩ us vs Q (E σ) hr I.env0 b r h) fun r s' hq => ?_)
  match r, hq with
  | .error e, hq => exact hx pins H s e s' I hq
  | .ok (.ret u), hq => exact I.after hq
  | .ok .next, hq => exact False.elim hq
  | .ok .brk, hq => exact False.elim hq
  | .ok .cont, hq => exact False.elim hq
theorem pe_callT {E : L2.St → XK} (F : FnT X.prog X.w X.K X.mg X.base k f fd ps sp) (hr : RoomT k X.A) (hg : Gl X x) (hm : X.mg x = some (.ref f)) (hk : PySem.W.keepIn X.K (.ref f) = true) (hb : Binds X.K fd ps [])
    (hx : ∀ σ, PassesAt (L2N.CX X.prog X.w) X σ (E σ)) (ha : PA X (e :: es) t) (hdb : (x == ("__debug__" : Str)) = false := by decide)
    (he : starEach (e :: es) X.env = (false, eval e X.env) :: starEach es X.env := by rfl) (hpl : (backTo pos (starEach es X.env)).any (·.1) = false := by rfl) :
    PE X (.Call (.Name x p) (e :: es) [] pos) (tCallS sp E t) := by
  refine ⟨fun pins s σ H Q I h => wpAny_Call_Name_kw (ld_glob I hg hm ?_ hdb)⟩
  refine PySem.W.callWith_K (h₀ := X.base) I.ok.mod.kin hk (thn (ha.run pos pins s σ H _ I h) fun us s1 h1 => ?_) he hpl
  obtain ⟨vs, H1, I1, r, q⟩ := h1
  exact ⟨I1.kIn, run_T F hr hb (hx σ) I1 r q⟩
/-- the call of a def that a local name holds -/
def tCallN (i : Nat) (f : Addr) (sp : Sp) (E : L2.St → XK) (t : TA) : TE := fun σ H Q => σ[i]? = some (some (.ref f)) ∧ t σ H fun vs H1 => sp vs H1 Q (E σ)
theorem pe_callN {E : L2.St → XK} {i : Nat} (F : FnT X.prog X.w X.K X.mg X.base k f fd ps sp) (hr : RoomT k X.A) (hk : PySem.W.keepIn X.K (.ref f) = true) (hb : Binds X.K fd ps [])
    (hx : ∀ σ, PassesAt (L2N.CX X.prog X.w) X σ (E σ)) (ha : PA X (e :: es) t) (hN : X.N[i]? = some x := by rfl) (hv : Vis X.env.scope x := by first | exact Or.inl rfl | exact Or.inr (Or.inl rfl))
    (hdb : (x == ("__debug__" : Str)) = false := by decide) (hcd : (x == ("__classdict__" : Str)) = false := by decide)
    (he : starEach (e :: es) X.env = (false, eval e X.env) :: starEach es X.env := by rfl) (hpl : (backTo pos (starEach es X.env)).any (·.1) = false := by rfl) :
    PE X (.Call (.Name x p) (e :: es) [] pos) (tCallN i f sp E t) := by
  refine ⟨fun pins s σ H Q I h => ?_⟩
  obtain ⟨hs, ht⟩ := h
  refine wpAny_Call_Name_kw (thn ((pe_var (pos := p) hN hv hdb hcd).run pins s σ H (fun v H1 => v = .ref f ∧ H1 = H) I ⟨.ref f, hs, rfl, rfl⟩) fun u s1 h1 => ?_)
  obtain ⟨v, H1, I1, r1, rfl, rfl⟩ := h1
  cases r1
  refine PySem.W.callWith_K (h₀ := X.base) I.ok.mod.kin hk (thn (ha.run pos pins s1 σ _ _ I1 ht) fun us s2 h2 => ?_) he hpl
  obtain ⟨vs, H2, I2, r, q⟩ := h2
  exact ⟨I2.kIn, run_T F hr hb (hx σ) I2 r q⟩
def tMethT (C : Addr) (m : Str) (sp : Sp) (E : L2.St → XK) (ta : TE) (t : TA) : TE := fun σ H Q => ta σ H fun x H1 => ∃ a dx fs, x = .ref a ∧ H1 a = some (.ins C dx fs) ∧ fs.lookup m = none ∧ t σ H1 fun vs H2 => sp (x :: vs) H2 Q (E σ)
theorem pe_methT {E : L2.St → XK} {pl : Sem Bool} (he : PE X o ta) (c : Cls X.K C) (hm : Meth X.K C m f) (F : FnT X.prog X.w X.K X.mg X.base k f fd ps sp) (hr : RoomT k X.A) (hb : Binds X.K fd ps [])
    (hx : ∀ σ, PassesAt (L2N.CX X.prog X.w) X σ (E σ)) (ha : PA X (e :: es) t)
    (hst : starEach (e :: es) X.env = (false, eval e X.env) :: starEach es X.env := by rfl) (hpl : (backTo pos (starEach es X.env)).any (·.1) = false := by rfl)
    (ht : eval (.Call (.Attribute o m apos) (e :: es) [] pos) X.env = (do
      let ov ← eval o X.env
      standAt apos.atName
      let (f, first) ← holding [ov] (getMethod ov m pl)
      callWith pos f first (backTo pos (starEach (e :: es) X.env)) (backToKw pos (keywordEach [] X.env))) := by rfl) :
    PE X (.Call (.Attribute o m apos) (e :: es) [] pos) (tMethT C m sp E ta t) := by
  refine ⟨fun pins s σ H Q I h => PySem.W.methodCall_KW (pl := pl) (thn (he.run pins s σ H _ I h) fun u s1 h1 => ?_) ht⟩
  obtain ⟨x, H1, I1, rx, a, dx, fs, rfl, ea, l, q⟩ := h1
  cases (show u = Value.ref a from rx)
  refine getmeth_ok I1 ea c hm l ?_
  refine PySem.W.callWith_K (first := [.ref a]) (h₀ := X.base) I.ok.mod.kin hm.kp (thn (ha.run pos pins s1 σ H1 _ I1 q) fun us s2 h2 => ?_) hst hpl
  obtain ⟨vs, H2, I2, r, q2⟩ := h2
  exact ⟨I2.kIn, run_T (us := .ref a :: us) (vs := .ref a :: vs) F hr hb (hx σ) I2 (.cons rfl r) q2⟩
theorem pe_meth0T {E : L2.St → XK} {pl : Sem Bool} (he : PE X o ta) (c : Cls X.K C) (hm : Meth X.K C m f) (F : FnT X.prog X.w X.K X.mg X.base k f fd ps sp) (hr : RoomT k X.A) (hb : Binds X.K fd ps [])
    (hx : ∀ σ, PassesAt (L2N.CX X.prog X.w) X σ (E σ))
    (ht : eval (.Call (.Attribute o m apos) [] [] pos) X.env = (do
      let ov ← eval o X.env
      standAt apos.atName
      let (f, first) ← holding [ov] (getMethod ov m pl)
      callWith pos f first (backTo pos (starEach [] X.env)) (backToKw pos (keywordEach [] X.env))) := by rfl) :
    PE X (.Call (.Attribute o m apos) [] [] pos) (tMethT C m sp E ta tNil) := by
  refine ⟨fun pins s σ H Q I h => PySem.W.methodCall_KW (pl := pl) (thn (he.run pins s σ H _ I h) fun u s1 h1 => ?_) ht⟩
  obtain ⟨x, H1, I1, rx, a, dx, fs, rfl, ea, l, q⟩ := h1
  cases (show u = Value.ref a from rx)
  refine getmeth_ok I1 ea c hm l ?_
  exact PySem.W.callWith_K0 (first := [.ref a]) I1.kIn hm.kp (run_T (us := [.ref a]) (vs := [.ref a]) F hr hb (hx σ) I1 (.cons rfl .nil) q)
/-- C(e, ..) of an own class -/
def tMakeT (C : Addr) (sp : Sp) (E : L2.St → XK) (t : TA) : TE := fun σ H Q => t σ H fun vs H1 => ∀ x dx, H1 x = none → H1 dx = none → dx ≠ x →
  sp (.ref x :: vs) (upd (upd H1 dx (.own x)) x (.ins C dx [])) (fun v H2 => v = .non ∧ Q (.ref x) H2) (E σ)
theorem pe_makeT {E : L2.St → XK} (M : Mk X.K C f) (F : FnT X.prog X.w X.K X.mg X.base k f fd ps sp) (hr : RoomT (k + 1) X.A) (hg : Gl X x) (hm : X.mg x = some (.ref C)) (hb : Binds X.K fd ps [])
    (hx : ∀ σ, PassesAt (L2N.CX X.prog X.w) X σ (E σ)) (ha : PA X (e :: es) t) (hdb : (x == ("__debug__" : Str)) = false := by decide)
    (he : starEach (e :: es) X.env = (false, eval e X.env) :: starEach es X.env := by rfl) (hpl : (backTo pos (starEach es X.env)).any (·.1) = false := by rfl) :
    PE X (.Call (.Name x p) (e :: es) [] pos) (tMakeT C sp E t) := by
  refine ⟨fun pins s σ H Q I h => wpAny_Call_Name_kw (ld_glob I hg hm ?_ hdb)⟩
  refine PySem.W.callWith_K (h₀ := X.base) I.ok.mod.kin M.kp (thn (ha.run pos pins s σ H _ I h) fun us s1 h1 => ?_) he hpl
  obtain ⟨vs, H1, I1, r, q⟩ := h1
  refine ⟨I1.kIn, ?_⟩
  have hq := q (s1.heap.objs.size + 1) s1.heap.objs.size (I1.hok.fresh (Nat.le_succ _)) (I1.hok.fresh (Nat.le_refl _)) (Nat.ne_of_lt (Nat.lt_succ_self _))
  have I2 := Inv.made (C := C) I1
  have r2 : Vals (V.ref (s1.heap.objs.size + 1) :: vs) (Value.ref (s1.heap.objs.size + 1) :: us) := .cons rfl r
  have hl : ((Value.ref (s1.heap.objs.size + 1) :: us) ++ []).length = ps.length := by
    rw [List.append_nil, ← r2.length]
    exact F.len _ _ _ _ hq
  have b := hb _ (Value.ref (s1.heap.objs.size + 1) :: us) I2.kIn hl
  rw [List.append_nil] at b
  show wpAny _ _ (call (.ref C) us) _ _ _
  refine wpAny_call (make_map (f := f) I1.kIn M.makes M.init (beq_iff_eq.mp M.fn) (codeAny_mono (F.run _ X.stack _ _ ⟨Value.ref (s1.heap.objs.size + 1) :: us, []⟩ _ _ _ _ (hr.make C us []) (I2.env0.make C us []) b r2 hq) fun r s' hq' => ?_))
  match r, hq' with
  | .error e, hq' => exact hx σ pins _ _ e s' I2 hq'
  | .ok .next, hq' => exact False.elim hq'
  | .ok .brk, hq' => exact False.elim hq'
  | .ok .cont, hq' => exact False.elim hq'
  | .ok (.ret u), hq' =>
    obtain ⟨v, H', I3, rv, rfl, q3⟩ := I2.after hq'
    exact ⟨rv, .ref _, H', I3, rfl, q3⟩
end
theorem same_new {H : Hp} {p : Addr} {o : HO} (h : H p = none) : Same H (upd H p o) := fun b x e => by
  rw [upd_ne (ne_of_none e h)]
  exact e
end Ly

/-! ### tokens as data; what is the same over the laws -/
namespace Px
open PySem PySem.Spec PyProof.Rows L2 Ly Lx TL
theorem sz {n : Nat} (h : n ≤ 100000) : n ≤ sizeLine := Nat.le_trans h (by decide)
def kindOf : Tkn → Str
  | .word _ => "word"
  | .name _ => "name"
  | .num _ _ => "number"
  | .sign _ => "sign"
def valD : Tkn → PyData
  | .word w => .str w
  | .name w => .str w
  | .num t b => .tuple [.int t, .int b]
  | .sign w => .str w
def tokD (t : Tkn × Nat) : PyData := .tuple [.str (kindOf t.1), valD t.1, .int (t.2 : Int)]
/-- an error of the parser -/
inductive Er where
  | mal (i : Nat)
  | over
abbrev Res := Except Er (PyData × Nat)
def bindR (r : Res) (g : PyData → Nat → Res) : Res := match r with
  | .ok (d, k) => g d k
  | .error e => .error e
section
variable (all : List (Tkn × Nat)) (n : Nat)
def wh (k : Nat) : Nat := match all[k]? with
  | some t => t.2
  | none => n
def valIn (t : Tkn) (vals : List Str) : Bool := match t with
  | .word w => vals.any (· == w)
  | .name w => vals.any (· == w)
  | .num _ _ => false
  | .sign w => vals.any (· == w)
def seesB (vals : List Str) (k : Nat) : Bool := match all[k]? with
  | some t => valIn t.1 vals
  | none => false
def kindB (kd : Str) (k : Nat) : Bool := match all[k]? with
  | some t => kindOf t.1 == kd
  | none => false
def tvAt (k : Nat) : PyData := match all[k]? with
  | some t => valD t.1
  | none => .none
def strAt (k : Nat) : Str := match all[k]? with
  | some (.word w, _) => w
  | some (.name w, _) => w
  | some (.sign w, _) => w
  | _ => ""
def expectS (v : Str) (k : Nat) : Res := if seesB all [v] k = true then .ok (.none, k + 1) else .error (.mal (wh all n k))
def expectKind (kd : Str) (k : Nat) : Res := if kindB all kd k = true then .ok (tvAt all k, k + 1) else .error (.mal (wh all n k))
def expectWhole (g : Nat) (k : Nat) : Res := match all[k]? with
  | some (.num t b, at_) => if b ≠ 1 ∨ g < t then .error (.mal at_) else .ok (.int (t : Int), k + 1)
  | _ => .error (.mal (wh all n k))
def negD : PyData → PyData
  | .int i => .int (-i)
  | d => d
def powerM (k : Nat) : Res := if seesB all ["-"] k = true then bindR (expectWhole all n 9 (k + 1)) fun d k => .ok (negD d, k) else expectWhole all n 9 k
def productL : Nat → List PyData → Nat → Res
  | 0, _, _ => .error .over
  | f + 1, acc, k => if seesB all ["]"] k = true then .ok (.tuple acc, k + 1) else
      bindR (expectKind all n "name" k) fun nm k1 => bindR (if seesB all ["^"] k1 = true then powerM all n (k1 + 1) else .ok (.int 1, k1)) fun p k2 =>
        productL f (acc ++ [.tuple [nm, p, .int (wh all n k : Int)]]) k2
def productM (k : Nat) : Res := bindR (expectS all n "[" k) fun _ k => productL all n (all.length + 1) [] k
def numberM (at_ k : Nat) : Res := bindR (if seesB all ["["] (k + 1) = true then productM all n (k + 1) else .ok (.tuple [], k + 1)) fun p k2 =>
  .ok (.tuple [.str "number", tvAt all k, p, .int (at_ : Int)], k2)
def opName (w : Str) : Str := if w = "<" then "lt" else if w = "<=" then "le" else if w = "==" then "eq" else if w = "+" then "add" else if w = "-" then "sub" else if w = "*" then "mul" else if w = "/" then "div" else w
def node (op : Str) (a b : PyData) (at_ : Nat) : PyData := .tuple [.str op, a, b, .int (at_ : Int)]
/-- parts with operators between them -/
def chainL (ops : List Str) (f : Nat → Nat → Res) : Nat → PyData → Nat → Res
  | 0, _, _ => .error .over
  | m + 1, e, k => if seesB all ops k = true then bindR (f m (k + 1)) fun b k2 => chainL ops f m (node (opName (strAt all k)) e b (wh all n k)) k2 else .ok (e, k)
def chainM (ops : List Str) (f : Nat → Nat → Res) (m k : Nat) : Res := bindR (f m k) fun e k => chainL all n ops f m e k
def argsL (E : Nat → Res) : Nat → List PyData → Nat → Res
  | 0, _, _ => .error .over
  | f + 1, acc, k => if seesB all [","] k = true then bindR (E (k + 1)) fun a k2 => argsL E f (acc ++ [a]) k2 else bindR (expectS all n ")" k) fun _ k => .ok (.tuple acc, k)
def argsM (E : Nat → Res) (k : Nat) : Res := if seesB all [")"] k = true then .ok (.tuple [], k + 1) else bindR (E k) fun a k2 => argsL all n E (all.length + 1) [a] k2
def iterateM (P : Nat → Res) (at_ k : Nat) : Res := bindR (expectKind all n "name" k) fun nm k => bindR (expectWhole all n 20 k) fun c k => bindR (expectS all n "from" k) fun _ k => bindR (P k) fun e k =>
  .ok (.tuple [.str "iterate", nm, c, e, .int (at_ : Int)], k)
def ifM (E : Nat → Res) (at_ k : Nat) : Res := bindR (E k) fun a k => bindR (expectS all n "then" k) fun _ k => bindR (E k) fun b k => bindR (expectS all n "else" k) fun _ k => bindR (E k) fun c k =>
  .ok (.tuple [.str "if", a, b, c, .int (at_ : Int)], k)
def letM (E : Nat → Res) (at_ k : Nat) : Res := bindR (expectKind all n "name" k) fun nm k => bindR (expectS all n "=" k) fun _ k => bindR (E k) fun a k => bindR (expectS all n "in" k) fun _ k => bindR (E k) fun b k =>
  .ok (.tuple [.str "let", nm, a, b, .int (at_ : Int)], k)
section
variable (E : Nat → Nat → Res)
def primM : Nat → Nat → Res
  | 0, _ => .error .over
  | m + 1, k => if kindB all "number" k = true then numberM all n (wh all n k) k
    else if seesB all ["true"] k = true then .ok (.tuple [.str "bool", .bool true], k + 1)
    else if seesB all ["false"] k = true then .ok (.tuple [.str "bool", .bool false], k + 1)
    else if seesB all ["("] k = true then bindR (E m (k + 1)) fun e k => bindR (expectS all n ")" k) fun _ k => .ok (e, k)
    else if seesB all ["iterate"] k = true then iterateM all n (primM m) (wh all n k) (k + 1)
    else bindR (expectKind all n "name" k) fun nm k1 => if seesB all ["("] k1 = true then bindR (argsM all n (E m) (k1 + 1)) fun a k2 => .ok (.tuple [.str "call", nm, a, .int (wh all n k : Int)], k2)
      else .ok (.tuple [.str "var", nm, .int (wh all n k : Int)], k1)
def powL : Nat → PyData → Nat → Res
  | 0, _, _ => .error .over
  | m + 1, e, k => if seesB all ["^"] k = true then (if m = 0 then .error .over else bindR (powerM all n (k + 1)) fun p k2 => powL m (.tuple [.str "power", e, p, .int (wh all n k : Int)]) k2) else .ok (e, k)
def powersM (m k : Nat) : Res := bindR (primM all n E m k) fun e k => powL all n m e k
def factorsM (m k : Nat) : Res := chainM all n ["*", "/"] (powersM all n E) m k
def termsM (m k : Nat) : Res := chainM all n ["+", "-"] (factorsM all n E) m k
def plainM : Nat → Nat → Res
  | 0, _ => .error .over
  | m + 1, k => if seesB all ["not"] k = true then bindR (plainM m (k + 1)) fun e k2 => .ok (.tuple [.str "not", e, .int (wh all n k : Int)], k2)
    else bindR (termsM all n E (m + 1) k) fun l k1 => if seesB all ["<", "<=", "=="] k1 = true then bindR (termsM all n E m (k1 + 1)) fun r k2 => .ok (node (opName (strAt all k1)) l r (wh all n k1), k2) else .ok (l, k1)
def bothM (m k : Nat) : Res := chainM all n ["and"] (plainM all n E) m k
def exprM : Nat → Nat → Res
  | 0, _ => .error .over
  | m + 1, k => if seesB all ["if"] k = true then ifM all n (E m) (wh all n k) (k + 1)
    else if seesB all ["let"] k = true then letM all n (E m) (wh all n k) (k + 1)
    else chainM all n ["or"] (bothM all n E) (m + 1) k
end
/-- an expression, with q for the calls within -/
def exprN : Nat → Nat → Nat → Res
  | 0 => fun _ _ => .error .over
  | q + 1 => exprM all n (exprN q)
def exprTop (k : Nat) : Res := exprN all n 24 24 k
def toldM (k : Nat) : Res := if seesB all [":"] k = true then productM all n (k + 1) else .ok (.none, k)
def paramM (k : Nat) : Res := bindR (expectKind all n "name" k) fun nm k => bindR (toldM all n k) fun p k => .ok (.tuple [nm, p], k)
def paramsL : Nat → List PyData → Nat → Res
  | 0, _, _ => .error .over
  | f + 1, acc, k => if seesB all [","] k = true then bindR (paramM all n (k + 1)) fun a k2 => paramsL f (acc ++ [a]) k2 else bindR (expectS all n ")" k) fun _ k => .ok (.tuple acc, k)
def paramsM (k : Nat) : Res := if seesB all [")"] k = true then .ok (.tuple [], k + 1) else bindR (paramM all n k) fun a k2 => paramsL all n (all.length + 1) [a] k2
def funM (at_ k : Nat) : Res := bindR (expectKind all n "name" k) fun nm k => bindR (expectS all n "(" k) fun _ k => bindR (paramsM all n k) fun ps k => bindR (toldM all n k) fun p k => bindR (expectS all n "=" k) fun _ k => bindR (exprTop all n k) fun e k =>
  .ok (.tuple [.str "fun", nm, ps, p, e, .int (at_ : Int)], k)
def unitM (at_ k : Nat) : Res := bindR (expectKind all n "name" k) fun nm k => bindR (expectS all n "=" k) fun _ k => bindR (expectKind all n "number" k) fun v k => bindR (productM all n k) fun p k =>
  .ok (.tuple [.str "unit", nm, v, p, .int (at_ : Int)], k)
def showM (at_ k : Nat) : Res := bindR (exprTop all n k) fun e k => bindR (if seesB all ["in"] k = true then productM all n (k + 1) else .ok (.none, k)) fun p k => .ok (.tuple [.str "show", e, p, .int (at_ : Int)], k)
def baseM (at_ k : Nat) : Res := bindR (expectKind all n "name" k) fun nm k => .ok (.tuple [.str "base", nm, .int (at_ : Int)], k)
def lineM (k : Nat) : Res :=
  bindR (if seesB all ["base"] k = true then baseM all n (wh all n k) (k + 1) else if seesB all ["unit"] k = true then unitM all n (wh all n k) (k + 1)
    else if seesB all ["fun"] k = true then funM all n (wh all n k) (k + 1) else bindR (expectS all n "show" k) fun _ k1 => showM all n (wh all n k) k1) fun l k => bindR (expectS all n ";" k) fun _ k => .ok (l, k)
def linesL : Nat → List PyData → Nat → Except Er (List PyData)
  | 0, _, _ => .error .over
  | f + 1, acc, k => if k = all.length then .ok acc else match lineM all n k with
    | .ok (l, k2) => linesL f (acc ++ [l]) k2
    | .error e => .error e
def parseM : Except Er (List PyData) := linesL all n (all.length + 1) [] 0
end
/-! ### the reader's state -/
structure RS where
  r : Addr
  dx : Addr
  l : Addr
  xs : List V
  n : Nat
  all : List (Tkn × Nat)
  ok : ∀ t ∈ all, SeqAt.shaped (valD t.1) = true
/-- the reader stands behind k tokens -/
def RS.at_ (R : RS) (K : PySem.W.Frag) (C : Addr) (H : Hp) (k : Nat) : Prop :=
  H R.r = some (.ins C R.dx [("found", .ref R.l), ("length", .int (R.n : Int)), ("taken", .int (k : Int))]) ∧ H R.l = some (.lst R.xs) ∧ DpAll K H R.xs (R.all.map tokD) ∧ k ≤ R.all.length ∧ R.all.length ≤ 100000
/-- nothing that was tracked has changed, but the reader -/
def Go (r : Addr) (H H' : Hp) : Prop := (∀ b o, b ≠ r → H b = some o → H' b = some o) ∧ (H r ≠ none → H' r ≠ none)
theorem Go.refl (r : Addr) (H : Hp) : Go r H H := ⟨fun _ _ _ e => e, fun e => e⟩
theorem Go.trans {r : Addr} {H H1 H2 : Hp} (a : Go r H H1) (b : Go r H1 H2) : Go r H H2 := ⟨fun c o hc e => b.1 c o hc (a.1 c o hc e), fun e => b.2 (a.2 e)⟩
theorem Go.free {r : Addr} {H H' : Hp} (a : Go r H H') {d : Addr} (h : H' d = none) : H d = none := by
  by_cases hd : d = r
  · subst hd
    cases e : H d with
    | none => rfl
    | some o => exact absurd h (a.2 (by rw [e]; simp))
  · cases e : H d with
    | none => rfl
    | some o =>
      rw [a.1 d o hd e] at h
      cases h
theorem go_same {r : Addr} {H H' : Hp} (s : Same H H') : Go r H H' := ⟨fun b o _ e => s b o e, fun h => by
  cases e : H r with
  | none => exact absurd e h
  | some o => rw [s r o e]; simp⟩
theorem go_new {r p : Addr} {H : Hp} {o : HO} (h : H p = none) : Go r H (upd H p o) := go_same fun b x e => by
  rw [upd_ne (ne_of_none e h)]
  exact e
theorem go_upd {r : Addr} {H : Hp} {o : HO} : Go r H (upd H r o) := ⟨fun b x hb e => by rw [upd_ne hb]; exact e, fun _ => by rw [upd_same]; simp⟩
section
variable {K : PySem.W.Frag} {H H' : Hp} {R : RS} {C : Addr} {k : Nat}
theorem sqt_go {r : Addr} (g : Go r H H') (hr : ∃ C dx fs, H r = some (.ins C dx fs)) (a : Addr) (xs : List V) (h : SqT K H a xs) : SqT K H' a xs := by
  obtain ⟨C, dx, fs, hr⟩ := hr
  rcases h with (h | ⟨o, h⟩) | h
  · exact .inl (.inl (g.1 _ _ (ne_of h hr (by intro z; cases z)) h))
  · exact .inl (.inr ⟨o, g.1 _ _ (ne_of h hr (by intro z; cases z)) h⟩)
  · exact .inr h
theorem RS.at_.ins (h : R.at_ K C H k) : ∃ C dx fs, H R.r = some (.ins C dx fs) := ⟨_, _, _, h.1⟩
theorem RS.at_.le (h : R.at_ K C H k) : k ≤ R.all.length := h.2.2.2.1
theorem noL_val (t : Tkn) : noL (valD t) = true := by cases t <;> rfl
theorem noL_tok (t : Tkn × Nat) : noL (tokD t) = true := by
  show (true && (noL (valD t.1) && (true && true))) = true
  rw [noL_val]
  rfl
theorem noL_toks : ∀ ts : List (Tkn × Nat), noLs (ts.map tokD) = true
  | [] => rfl
  | t :: ts => by
    show (noL (tokD t) && noLs (ts.map tokD)) = true
    rw [noL_tok, noL_toks ts]
    rfl
theorem RS.at_.lst_ne (h : R.at_ K C H k) : R.l ≠ R.r := ne_of h.2.1 h.1 (by intro z; cases z)
/-- the reader is where it was, as the heap goes on -/
theorem RS.at_.go (h : R.at_ K C H k) (g : Go R.r H H') {k' : Nat} (hr : H' R.r = some (.ins C R.dx [("found", .ref R.l), ("length", .int (R.n : Int)), ("taken", .int (k' : Int))])) (hk : k' ≤ R.all.length) : R.at_ K C H' k' :=
  ⟨hr, g.1 _ _ h.lst_ne h.2.1, dps_keep (sqt_go g h.ins) _ _ (noL_toks _) h.2.2.1, hk, h.2.2.2.2⟩
theorem RS.at_.same (h : R.at_ K C H k) (s : Same H H') : R.at_ K C H' k := h.go (go_same s) (s _ _ h.1) h.le
end
/-! ### what a def of the parser hands back -/
def ErrG (R : RS) (C : Addr) (f : Str) (v : V) (H : Hp) (E : XK) : Prop := ∀ d H', Go R.r H H' → H d = none → H' d = some (.xd [(f, v)]) → E (.ref C) (some d) H'
/-- the classes: the reader's, Malformed, Oversized -/
structure Cl where
  rd : Addr
  mal : Addr
  ov : Addr
def Out (K : PySem.W.Frag) (c : Cl) (R : RS) (k0 : Nat) (H : Hp) (res : Res) (Q : VK) (E : XK) : Prop := match res with
  | .ok (d, k) => k0 ≤ k → ∀ H' v, Go R.r H H' → R.at_ K c.rd H' k → Dp K H' v d → noL d = true → Q v H'
  | .error (.mal i) => ErrG R c.mal "at" (.int (i : Int)) H E
  | .error .over => ErrG R c.ov "limit" (.str "depth") H E
section
variable {K : PySem.W.Frag} {c : Cl} {R : RS} {k0 k : Nat} {H H' : Hp} {res : Res} {Q Q' : VK} {E : XK}
theorem ErrG.go {C : Addr} {f : Str} {v : V} (h : ErrG R C f v H E) (g : Go R.r H H') : ErrG R C f v H' E := fun d H2 g2 hd h2 => h d H2 (g.trans g2) (g.free hd) h2
theorem Out.go (h : Out K c R k0 H res Q E) (g : Go R.r H H') : Out K c R k0 H' res Q E := by
  match res, h with
  | .ok (d, k), h => exact fun hk H2 v g2 => h hk H2 v (g.trans g2)
  | .error (.mal i), h => exact ErrG.go h g
  | .error .over, h => exact ErrG.go h g
/-- a step of a def: the callee's result, then the rest -/
theorem Out.step {r : Res} {g : PyData → Nat → Res} (h : Out K c R k0 H (bindR r g) Q E)
    (q : ∀ d k1 H' v, r = .ok (d, k1) → k ≤ k1 → Go R.r H H' → R.at_ K c.rd H' k1 → Dp K H' v d → noL d = true → Out K c R k0 H' (g d k1) Q E → Q' v H') : Out K c R k H r Q' E := by
  match r, h, q with
  | .ok (d, k1), h, q => exact fun hk H' v g ha hd hn => q d k1 H' v rfl hk g ha hd hn (Out.go h g)
  | .error (.mal i), h, _ => exact h
  | .error .over, h, _ => exact h
theorem Out.last (h : Out K c R k0 H res Q E) (hk : k0 ≤ k) : Out K c R k H res Q E := by
  match res, h with
  | .ok (d, k2), h => exact fun hk2 H2 v => h (Nat.le_trans hk hk2) H2 v
  | .error (.mal i), h => exact h
  | .error .over, h => exact h
theorem Out.ret {d : PyData} {v : V} (h : Out K c R k0 H (.ok (d, k)) Q E) (hk : k0 ≤ k) (g : Go R.r H H') (ha : R.at_ K c.rd H' k) (hd : Dp K H' v d) (hn : noL d = true) : Q v H' := h hk H' v g ha hd hn
theorem dp_go {r : Addr} (g : Go r H H') (hr : ∃ C dx fs, H r = some (.ins C dx fs)) {d : PyData} {v : V} (hn : noL d = true) (h : Dp K H v d) : Dp K H' v d := dp_keep (sqt_go g hr) _ _ hn h
theorem dp_same (s : Same H H') {d : PyData} {v : V} (hn : noL d = true) (h : Dp K H v d) : Dp K H' v d := dp_keep (sqt_same s) _ _ hn h
end
/-! ### in, in a tuple of data -/
def rInTD (K : PySem.W.Frag) : R2 := fun x y H Q => ∃ d ds, Dp K H x d ∧ Dp K H y (.tuple ds) ∧ SeqAt.shaped d = true ∧ SeqAt.shaped (.tuple ds) = true ∧ Q (.bl (ds.any fun z => PyData.eqv z d)) H
theorem op_inTD {X : Cx} (hu : X.A.units + 128 < cLine) : OpR X (compareOp .In) (rInTD X.K) := by
  intro pins s σ H x y v u Q I rx ry h
  obtain ⟨d, ds, hd, he, sd, se, q⟩ := h
  obtain ⟨as, r1⟩ := Dp.reads I d x v hd rx
  obtain ⟨bs, r2⟩ := Dp.reads I (.tuple ds) y u he ry
  exact SeqAt.in_tuple_reads r2 r1 (SeqAt.canLay_of_shaped se) (SeqAt.canLay_of_shaped sd) (room_in_shaped sd (by omega)) ⟨.bl _, H, I, rfl, q⟩
theorem any_in (t : Tkn) : ∀ vals : List Str, ((vals.map PyData.str).any fun z => PyData.eqv z (valD t)) = valIn t vals
  | [] => by cases t <;> rfl
  | w :: vals => by
    have ih := any_in t vals
    rw [List.map_cons, List.any_cons, ih]
    cases t <;> simp [valD, valIn, PyData.eqv]
theorem dps_get {K : PySem.W.Frag} {H : Hp} : ∀ {xs : List V} {ds : List PyData} {j : Nat} {d : PyData}, DpAll K H xs ds → ds[j]? = some d → ∃ v, xs[j]? = some v ∧ Dp K H v d
  | _, _, _, _, .nil, e => by simp at e
  | v :: _, _ :: _, 0, d, .cons h _, e => by
    have e' := Option.some.inj e
    subst e'
    exact ⟨v, rfl, h⟩
  | _ :: _, _ :: _, j + 1, d, .cons _ t, e => by
    obtain ⟨v, h1, h2⟩ := dps_get (j := j) (d := d) t (by simpa using e)
    exact ⟨v, by simpa using h1, h2⟩
/-! ### written texts are plain data -/
def cpsOk (x : Str) : Bool := x.cps.toList.all fun c => decide (c < 0x110000)
theorem strOk_of {x : Str} (h : cpsOk x = true) : PyData.strOk x = true := by
  unfold PyData.strOk
  rw [← Array.all_toList]
  exact h
theorem strs_ok : ∀ ws : List Str, ws.all cpsOk = true → PyData.canLayAll0 (ws.map PyData.str) = true ∧ PyData.depthAll (ws.map PyData.str) = 0
  | [], _ => by simp [PyData.canLayAll0, PyData.depthAll]
  | w :: ws, h => by
    rw [List.all_cons, Bool.and_eq_true] at h
    obtain ⟨h1, h2⟩ := strs_ok ws h.2
    simp [PyData.canLayAll0, PyData.depthAll, PyData.canLay0, PyData.depth, h1, h2, strOk_of h.1]
theorem shs (ws : List Str) (h : ws.all cpsOk = true := by decide) : SeqAt.shaped (.tuple (ws.map PyData.str)) = true := by
  obtain ⟨h1, h2⟩ := strs_ok ws h
  unfold SeqAt.shaped
  simp [PyData.canLay0, PyData.depth, h1, h2]
theorem sh1 (x : Str) (h : [x].all cpsOk = true := by decide) : SeqAt.shaped (.tuple [.str x]) = true := shs [x] h
end Px

/-! ### the drawn tokens -/
namespace Lw
open PySem TL Lx
def res : List Str := ["and", "base", "else", "false", "from", "fun", "if", "in", "iterate", "let", "not", "or", "show", "then", "true", "unit"]
def parts : List Str := ["", "0", "5", "25", "007", "1234"]
def zers : List Str := ["", "0", "00"]
def seps : List Str := [" ", "\n", "\t", "  ", " # == fun\n", "\n\n"]
def wchars (rest : Nat) : Nat → List Nat
  | 0 => []
  | k + 1 => wchars rest k ++ [naming.getD (rest / (3 + k) % 63) 0]
def wordL (c : Nat) : List Nat := letters.getD (c % 52) 0 :: wchars (c / 52) (c / 52 % 16)
def wholeN (r : Nat) : Nat := if r / 7 % 2 = 0 then r % 10 else r % 1000000
def zw (r : Nat) : List Nat := tl (zers.getD (r / 84 % 3) "") ++ numL (wholeN r)
def numShown (r : Nat) : List Nat := (zw r).drop ((zw r).length - min 6 (zw r).length)
def prt (r : Nat) : Str := parts.getD (r / 14 % 6) ""
def numText (ds ps : List Nat) : List Nat := ds ++ (if ps = [] then [] else 46 :: ps)
def tkOf (c : Nat) : Tkn × Str :=
  if c % 5 = 0 then (.word (res.getD (c / 5 % 16) ""), res.getD (c / 5 % 16) "")
  else if c % 5 = 1 then (if isRes (mk (wordL (c / 5))) = true then .word (mk (wordL (c / 5))) else .name (mk (wordL (c / 5))), mk (wordL (c / 5)))
  else if c % 5 < 4 then (.num (NumText.digitsVal (numShown (c / 5) ++ tl (prt (c / 5)))) (10 ^ (tl (prt (c / 5))).length), mk (numText (numShown (c / 5)) (tl (prt (c / 5)))))
  else (.sign (sgns.getD (c / 5 % 16) ""), sgns.getD (c / 5 % 16) "")
def sepOf (c : Nat) : Str := seps.getD (c / 3 % 6) ""
theorem run_app {S w r : List Nat} {s : Nat} (h : ∀ c ∈ w, inS S c = true) (hs : inS S s = false) : run S (w ++ s :: r) = w.length := by
  induction w with
  | nil => exact run_out hs
  | cons c w ih =>
    rw [List.cons_append, run_in (h c List.mem_cons_self), ih fun d hd => h d (List.mem_cons_of_mem _ hd)]
    rfl
theorem blank_cases {s : Nat} (h : inS blanks s = true) : s = 32 ∨ s = 9 ∨ s = 10 := by
  have h1 : s ∈ blanks := of_decide_eq_true h
  have h2 : blanks = [32, 9, 10] := rfl
  rw [h2] at h1
  simpa using h1
theorem blank_naming {s : Nat} (h : inS blanks s = true) : inS naming s = false := by
  rcases blank_cases h with rfl | rfl | rfl <;> decide
theorem digit_naming {c : Nat} (h : inS digits c = true) : inS naming c = true := by
  have h1 : c ∈ digits := of_decide_eq_true h
  have h2 : ∀ c ∈ digits, inS naming c = true := by decide
  exact h2 c h1
theorem digit_letter {c : Nat} (h : inS digits c = true) : inS letters c = false := by
  have h1 : c ∈ digits := of_decide_eq_true h
  have h2 : ∀ c ∈ digits, inS letters c = false := by decide
  exact h2 c h1
/-- a word or name, then a sign that belongs to none -/
theorem tok_word {c s : Nat} {w r : List Nat} (hc : inS letters c = true) (hw : ∀ d ∈ w, inS naming d = true) (hs : inS naming s = false) (hl : isRes (mk (c :: w)) = true ∨ w.length < 16) :
    tokAt (c :: w ++ s :: r) = some (if isRes (mk (c :: w)) = true then .word (mk (c :: w)) else .name (mk (c :: w)), (c :: w).length) := by
  have hrun : run naming (c :: w ++ s :: r) = (c :: w).length := run_app (fun d hd => by
    rcases List.mem_cons.mp hd with rfl | hd
    · exact letter_naming hc
    · exact hw d hd) hs
  have htake : (c :: w ++ s :: r).take (c :: w).length = c :: w := List.take_left
  rw [List.cons_append, tokAt_cons, if_pos hc, ← List.cons_append]
  unfold nmAt
  rw [hrun, htake]
  by_cases hr : isRes (mk (c :: w)) = true
  · rw [if_pos hr, if_pos hr]
  · rw [if_neg hr, if_neg hr, if_neg]
    rcases hl with h | h
    · exact absurd h hr
    · rw [List.length_cons]
      omega
theorem tok_num {c s : Nat} {w ps r : List Nat} (hc : inS digits c = true) (hw : ∀ d ∈ w, inS digits d = true) (hp : ∀ d ∈ ps, inS digits d = true) (hs : inS naming s = false) (h46 : s ≠ 46)
    (hl : w.length < 6) (hl2 : ps.length < 5) : tokAt (numText (c :: w) ps ++ s :: r) = some (.num (NumText.digitsVal (c :: w ++ ps)) (10 ^ ps.length), (numText (c :: w) ps).length) := by
  have hsd : inS digits s = false := by
    cases h : inS digits s with
    | false => rfl
    | true => rw [digit_naming h] at hs; cases hs
  have hall : ∀ d ∈ c :: w, inS digits d = true := fun d hd => by
    rcases List.mem_cons.mp hd with rfl | hd
    · exact hc
    · exact hw d hd
  have htl : ∃ t, numText (c :: w) ps ++ s :: r = (c :: w) ++ t ∧ headIn digits t = false ∧ fracAt t = ps ∧ (t = (if ps = [] then s :: r else 46 :: (ps ++ s :: r))) := by
    unfold numText
    by_cases h : ps = []
    · subst h
      refine ⟨s :: r, by simp, hsd, ?_, by simp⟩
      rw [fracAt_cons, if_neg h46]
    · refine ⟨46 :: (ps ++ s :: r), by simp [h], (by decide : inS digits 46 = false), ?_, by simp [h]⟩
      rw [fracAt_cons, if_pos rfl]
      have := take_run digits (ps ++ s :: r)
      rw [run_app hp hsd, List.take_left] at this
      exact this.symm
  obtain ⟨t, e, hh, hf, ht⟩ := htl
  have hrun : run digits ((c :: w) ++ t) = (c :: w).length := by
    cases t with
    | nil => cases hps : ps <;> simp [hps] at ht
    | cons d q => exact run_app hall hh
  have htake : ((c :: w) ++ t).take (c :: w).length = c :: w := List.take_left
  have hdrop : ((c :: w) ++ t).drop (c :: w).length = t := List.drop_left
  have hne : numEnd ((c :: w) ++ t) = (numText (c :: w) ps).length := by
    unfold numEnd numText
    rw [hrun, hdrop, hf]
    by_cases h : ps = []
    · rw [if_pos h, if_pos h, List.append_nil]
    · rw [if_neg h, if_neg h, List.length_append, List.length_cons, List.length_cons]
      omega
  have hrest : ((c :: w) ++ t).drop (numText (c :: w) ps).length = s :: r := by
    rw [← e]
    exact List.drop_left
  rw [e, List.cons_append, tokAt_cons, if_neg (by rw [digit_letter hc]; exact Bool.false_ne_true), if_pos hc, ← List.cons_append]
  unfold nrAt
  rw [hrun, hdrop, hf, hne, hrest, htake, if_neg, if_neg]
  · show ¬ inS naming s = true
    rw [hs]
    exact Bool.false_ne_true
  · rw [List.length_cons]
    omega
theorem tok_sign {s : Nat} {r : List Nat} (hs : inS blanks s = true) : ∀ sg ∈ sgns, tokAt (tl sg ++ s :: r) = some (.sign sg, sg.length) := by
  rcases blank_cases hs with rfl | rfl | rfl <;> intro sg h <;> simp only [sgns, List.mem_cons, List.not_mem_nil, or_false] at h <;>
    rcases h with rfl | rfl | rfl | rfl | rfl | rfl | rfl | rfl | rfl | rfl | rfl | rfl | rfl | rfl | rfl | rfl <;> rfl
theorem getD_mem {α : Type} {l : List α} {i : Nat} {d : α} (h : i < l.length) : l.getD i d ∈ l := by
  rw [List.getD_eq_getElem?_getD, List.getElem?_eq_getElem h]
  exact List.getElem_mem h
theorem wchars_naming (r : Nat) : ∀ (k : Nat), ∀ c ∈ wchars r k, inS naming c = true
  | 0, c, h => by cases h
  | k + 1, c, h => by
    rcases List.mem_append.mp h with h | h
    · exact wchars_naming r k c h
    · have e : c = naming.getD (r / (3 + k) % 63) 0 := by simpa using h
      rw [e]
      exact decide_eq_true (getD_mem (by
        have : naming.length = 63 := rfl
        rw [this]
        exact Nat.mod_lt _ (by decide)))
theorem wchars_len (r : Nat) : ∀ k : Nat, (wchars r k).length = k
  | 0 => rfl
  | k + 1 => by
    rw [wchars, List.length_append, wchars_len r k]
    rfl
theorem letter_at (c : Nat) : inS letters (letters.getD (c % 52) 0) = true := decide_eq_true (getD_mem (by
  have : letters.length = 52 := rfl
  rw [this]
  exact Nat.mod_lt _ (by decide)))
theorem wholeN_lt (r : Nat) : wholeN r < 1000000 := by
  unfold wholeN
  split <;> omega
theorem dig_of {S : List Nat} (h : NumText.AllDigits S) : ∀ c ∈ S, inS digits c = true := fun c hc => by
  obtain ⟨h1, h2⟩ := h c hc
  have h3 : ∀ c, c < 58 → 48 ≤ c → inS digits c = true := by decide
  exact h3 c (by omega) h1
theorem zw_digs (r : Nat) : ∀ c ∈ zw r, inS digits c = true := fun c hc => by
  rcases List.mem_append.mp hc with h | h
  · have hz : zers.getD (r / 84 % 3) "" ∈ zers := getD_mem (Nat.mod_lt _ (by decide))
    have h2 : ∀ z ∈ zers, ∀ c ∈ tl z, inS digits c = true := by decide
    exact h2 _ hz c h
  · exact dig_of (numL_digits _) c h
theorem zw_pos (r : Nat) : 1 ≤ (zw r).length := by
  unfold zw
  rw [List.length_append]
  have := List.length_pos_iff.mpr (numL_ne (wholeN r))
  omega
theorem zw_len (r : Nat) : (zw r).length ≤ 8 := by
  unfold zw
  rw [List.length_append]
  have h1 := numL_len (k := 6) (by decide) (wholeN_lt r)
  have hz : zers.getD (r / 84 % 3) "" ∈ zers := getD_mem (Nat.mod_lt _ (by decide))
  have h2 : ∀ z ∈ zers, (tl z).length ≤ 2 := by decide
  have := h2 _ hz
  omega
theorem numShown_len (r : Nat) : 1 ≤ (numShown r).length ∧ (numShown r).length ≤ 6 := by
  unfold numShown
  rw [List.length_drop]
  have := zw_pos r
  omega
theorem numShown_digs (r : Nat) : ∀ c ∈ numShown r, inS digits c = true := fun c hc => zw_digs r c (List.mem_of_mem_drop hc)
theorem part_mem (r : Nat) : prt r ∈ parts := getD_mem (Nat.mod_lt _ (by decide))
theorem part_digs (r : Nat) : ∀ c ∈ tl (prt r), inS digits c = true := by
  have h : ∀ p ∈ parts, ∀ c ∈ tl p, inS digits c = true := by decide
  exact h _ (part_mem r)
theorem part_len (r : Nat) : (tl (prt r)).length < 5 := by
  have h : ∀ p ∈ parts, (tl p).length < 5 := by decide
  exact h _ (part_mem r)
/-- a drawn token is read back -/
theorem tok_drawn (c : Nat) {s : Nat} (r : List Nat) (hs : inS blanks s = true) : tokAt (tl (tkOf c).2 ++ s :: r) = some ((tkOf c).1, (tkOf c).2.length) := by
  have hn := blank_naming hs
  unfold tkOf
  split
  · have hm : res.getD (c / 5 % 16) "" ∈ res := getD_mem (Nat.mod_lt _ (by decide))
    generalize res.getD (c / 5 % 16) "" = w at hm
    have key : ∀ w ∈ res, ∃ a q, tl w = a :: q ∧ inS letters a = true ∧ (∀ d ∈ q, inS naming d = true) ∧ isRes w = true := by
      intro w hw
      simp only [res, List.mem_cons, List.not_mem_nil, or_false] at hw
      rcases hw with rfl | rfl | rfl | rfl | rfl | rfl | rfl | rfl | rfl | rfl | rfl | rfl | rfl | rfl | rfl | rfl <;> exact ⟨_, _, rfl, by decide, by decide, by decide⟩
    obtain ⟨a, q, e, h1, h2, h3⟩ := key w hm
    have ew : mk (a :: q) = w := by rw [← e]; exact mk_tl w
    have := tok_word (r := r) h1 h2 hn (.inl (by rw [ew]; exact h3))
    rw [ew, if_pos h3, ← e, ← len_tl] at this
    exact this
  · split
    · have := tok_word (c := letters.getD (c / 5 % 52) 0) (w := wchars (c / 5 / 52) (c / 5 / 52 % 16)) (r := r) (letter_at _) (wchars_naming _ _) hn (.inr (by rw [wchars_len]; exact Nat.mod_lt _ (by decide)))
      rw [← mk_len] at this
      exact this
    · split
      · have h1 := numShown_len (c / 5)
        have h2 := numShown_digs (c / 5)
        generalize numShown (c / 5) = ds at h1 h2
        cases ds with
        | nil => simp at h1
        | cons a q =>
          have := tok_num (r := r) (h2 a List.mem_cons_self) (fun d hd => h2 d (List.mem_cons_of_mem _ hd)) (part_digs (c / 5)) hn (by rintro rfl; exact absurd hs (by decide)) (by have := h1.2; simp at this; omega) (part_len (c / 5))
          rw [← mk_len] at this
          exact this
      · exact tok_sign hs _ (getD_mem (Nat.mod_lt _ (by decide)))
theorem tok_noskip {l : List Nat} {t : Tkn} {n : Nat} (h : tokAt l = some (t, n)) : skip false l = 0 := by
  cases l with
  | nil => cases h
  | cons c r =>
    have key : inS blanks c = false ∧ c ≠ 35 := by
      rw [tokAt_cons] at h
      split at h
      · rename_i hc
        have h1 : c ∈ letters := of_decide_eq_true hc
        have h2 : ∀ c ∈ letters, inS blanks c = false ∧ c ≠ 35 := by decide
        exact h2 c h1
      · split at h
        · rename_i hc
          have h1 : c ∈ digits := of_decide_eq_true hc
          have h2 : ∀ c ∈ digits, inS blanks c = false ∧ c ≠ 35 := by decide
          exact h2 c h1
        · unfold sgAt at h
          cases e : sgns.find? fun s => (tl s).isPrefixOf (c :: r) with
          | none => rw [e] at h; cases h
          | some s =>
            have hm := List.mem_of_find?_eq_some e
            have hp := List.find?_some e
            have h2 : ∀ s ∈ sgns, ∃ a q, tl s = a :: q ∧ inS blanks a = false ∧ a ≠ 35 := by
              intro s hs
              simp only [sgns, List.mem_cons, List.not_mem_nil, or_false] at hs
              rcases hs with rfl | rfl | rfl | rfl | rfl | rfl | rfl | rfl | rfl | rfl | rfl | rfl | rfl | rfl | rfl | rfl <;> exact ⟨_, _, rfl, by decide, by decide⟩
            obtain ⟨a, q, ea, h3, h4⟩ := h2 s hm
            rw [ea, List.isPrefixOf_cons₂, Bool.and_eq_true, beq_iff_eq] at hp
            rw [← hp.1]
            exact ⟨h3, h4⟩
    exact skip_stop key.1 key.2
theorem sep_skip (c : Nat) (l : List Nat) : skip false (tl (sepOf c) ++ l) = (sepOf c).length + skip false l ∧ ∃ s r, tl (sepOf c) = s :: r ∧ inS blanks s = true := by
  have hm : sepOf c ∈ seps := getD_mem (Nat.mod_lt _ (by decide))
  have key : ∀ s ∈ seps, skip false (tl s ++ l) = s.length + skip false l ∧ ∃ a r, tl s = a :: r ∧ inS blanks a = true := by
    intro s hs
    rw [Nat.add_comm]
    simp only [seps, List.mem_cons, List.not_mem_nil, or_false] at hs
    rcases hs with rfl | rfl | rfl | rfl | rfl | rfl <;> exact ⟨rfl, _, _, rfl, by decide⟩
  exact key _ hm
def piece (c : Nat) : List Nat := tl (tkOf c).2 ++ tl (sepOf c)
def txt (cs : List Nat) : List Nat := (cs.map piece).flatten
def dueFrom : Nat → List Nat → List (Tkn × Nat)
  | _, [] => []
  | off, c :: cs => ((tkOf c).1, off) :: dueFrom (off + (piece c).length) cs
theorem txt_snoc (cs : List Nat) (c : Nat) : txt (cs ++ [c]) = txt cs ++ piece c := by simp [txt]
theorem due_snoc : ∀ (cs : List Nat) (off c : Nat), dueFrom off (cs ++ [c]) = dueFrom off cs ++ [((tkOf c).1, off + (txt cs).length)]
  | [], off, c => by simp [dueFrom, txt]
  | a :: cs, off, c => by
    rw [List.cons_append, dueFrom, dueFrom, due_snoc cs]
    have : (txt (a :: cs)).length = (piece a).length + (txt cs).length := by simp [txt]
    rw [this, Nat.add_assoc]
    rfl
theorem due_len : ∀ (cs : List Nat) (off : Nat), (dueFrom off cs).length = cs.length
  | [], _ => rfl
  | c :: cs, off => by rw [dueFrom, List.length_cons, List.length_cons, due_len cs]
theorem lex_txt : ∀ (cs : List Nat) (off : Nat) (tail : List Nat), skip false tail = 0 →
    LexTo off (txt cs ++ tail) (dueFrom off cs) (off + (txt cs).length) tail ∧ skip false (txt cs ++ tail) = 0
  | [], off, tail, h => ⟨.refl, h⟩
  | c :: cs, off, tail, h => by
    obtain ⟨ih, hs⟩ := lex_txt cs (off + (piece c).length) tail h
    obtain ⟨hsk, s, r, es, hb⟩ := sep_skip c (txt cs ++ tail)
    have e0 : txt (c :: cs) ++ tail = tl (tkOf c).2 ++ (tl (sepOf c) ++ (txt cs ++ tail)) := by simp [txt, piece]
    have e1 : tokAt (txt (c :: cs) ++ tail) = some ((tkOf c).1, (tkOf c).2.length) := by
      rw [e0, es, List.cons_append]
      exact tok_drawn c _ hb
    have e2 : (txt (c :: cs) ++ tail).drop (tkOf c).2.length = tl (sepOf c) ++ (txt cs ++ tail) := by
      rw [e0, len_tl]
      exact List.drop_left
    refine ⟨.step e1 ?_, tok_noskip e1⟩
    rw [e2, hsk, hs, Nat.add_zero]
    have e3 : (tl (sepOf c) ++ (txt cs ++ tail)).drop (sepOf c).length = txt cs ++ tail := by
      rw [len_tl]
      exact List.drop_left
    rw [e3]
    have e4 : off + (tkOf c).2.length + (sepOf c).length = off + (piece c).length := by
      unfold piece
      rw [List.length_append, ← len_tl, ← len_tl]
      omega
    have e5 : off + (txt (c :: cs)).length = off + (piece c).length + (txt cs).length := by simp [txt]; omega
    rw [e4, e5]
    exact ih
theorem shown_len (c : Nat) : 1 ≤ (tkOf c).2.length ∧ (tkOf c).2.length ≤ 16 := by
  unfold tkOf
  split
  · have hm : res.getD (c / 5 % 16) "" ∈ res := getD_mem (Nat.mod_lt _ (by decide))
    have h : ∀ w ∈ res, 1 ≤ w.length ∧ w.length ≤ 16 := by decide
    exact h _ hm
  · split
    · show 1 ≤ (mk _).length ∧ (mk _).length ≤ 16
      rw [mk_len, wordL, List.length_cons, wchars_len]
      have := Nat.mod_lt (c / 5 / 52) (show 16 > 0 by decide)
      omega
    · split
      · show 1 ≤ (mk _).length ∧ (mk _).length ≤ 16
        rw [mk_len, numText, List.length_append]
        have h1 := numShown_len (c / 5)
        have h2 := part_len (c / 5)
        split
        · rw [List.length_nil]
          omega
        · rw [List.length_cons]
          omega
      · have hm : sgns.getD (c / 5 % 16) "" ∈ sgns := getD_mem (Nat.mod_lt _ (by decide))
        have h : ∀ w ∈ sgns, 1 ≤ w.length ∧ w.length ≤ 16 := by decide
        exact h _ hm
theorem piece_len (c : Nat) : (piece c).length ≤ 26 := by
  unfold piece
  rw [List.length_append, ← len_tl, ← len_tl]
  have h1 := shown_len c
  have hm : sepOf c ∈ seps := getD_mem (Nat.mod_lt _ (by decide))
  have h : ∀ w ∈ seps, w.length ≤ 10 := by decide
  have := h _ hm
  omega
theorem txt_len : ∀ cs : List Nat, (txt cs).length ≤ 26 * cs.length
  | [] => Nat.le_refl _
  | c :: cs => by
    have h1 := txt_len cs
    have h2 := piece_len c
    have : (txt (c :: cs)).length = (piece c).length + (txt cs).length := by simp [txt]
    rw [this, List.length_cons]
    omega
def bads : List Str := ["@", "1234567", "1.23456", "7a", "1.5x", "aaaaaaaaaaaaaaaaa", "!", ".", ".5", "{", "1_", "$"]
theorem bad_tok : ∀ b ∈ bads, tokAt (tl b ++ tl (" x" : Str)) = none ∧ skip false (tl b ++ tl (" x" : Str)) = 0 ∧ b.length ≤ 17 := by
  intro b hb
  simp only [bads, List.mem_cons, List.not_mem_nil, or_false] at hb
  rcases hb with rfl | rfl | rfl | rfl | rfl | rfl | rfl | rfl | rfl | rfl | rfl | rfl <;> exact ⟨by rfl, by rfl, by decide⟩
end Lw

/-! ### how the reader's chains group operands -/
namespace Px
open PySem PySem.Spec PyProof.Rows L2 Ly Lx TL
def sgTok (s : Str) : Tkn := if s = "or" ∨ s = "and" then .word s else .sign s
theorem sgTok_in (s : Str) (ws : List Str) : valIn (sgTok s) ws = ws.any (· == s) := by
  unfold sgTok
  split <;> rfl
/-- an operator with its index, and the operand behind it: its tree, its tokens -/
structure It where
  s : Str
  i : Nat
  d : PyData
  ts : List (Tkn × Nat)
def flat : List It → List (Tkn × Nat)
  | [] => []
  | t :: l => (sgTok t.s, t.i) :: t.ts ++ flat l
theorem flat_append : ∀ a b : List It, flat (a ++ b) = flat a ++ flat b
  | [], _ => rfl
  | t :: a, b => by
    show (sgTok t.s, t.i) :: t.ts ++ flat (a ++ b) = _
    rw [flat_append a b]
    simp [flat]
/-- what stands before the first of these operators, and each of them with what follows it -/
def dec (ws : List Str) : List It → List It × List (It × List It)
  | [] => ([], [])
  | t :: l => if ws.any (· == t.s) = true then ([], (t, (dec ws l).1) :: (dec ws l).2) else (t :: (dec ws l).1, (dec ws l).2)
def flatG : List (It × List It) → List It
  | [] => []
  | (t, g) :: l => t :: g ++ flatG l
theorem dec_flat (ws : List Str) : ∀ L, (dec ws L).1 ++ flatG (dec ws L).2 = L
  | [] => rfl
  | t :: l => by
    have ih := dec_flat ws l
    unfold dec
    split
    · show t :: ((dec ws l).1 ++ flatG (dec ws l).2) = _
      rw [ih]
    · show t :: ((dec ws l).1 ++ flatG (dec ws l).2) = _
      rw [ih]
theorem dec_pre (ws : List Str) : ∀ L, ∀ t ∈ (dec ws L).1, ws.any (· == t.s) = false
  | [], t, h => by simp [dec] at h
  | t :: l, u, h => by
    unfold dec at h
    split at h
    · simp at h
    · rename_i hn
      rcases List.mem_cons.mp h with e | e
      · subst e
        exact Bool.eq_false_iff.mpr hn
      · exact dec_pre ws l u e
theorem dec_grp (ws : List Str) : ∀ L, ∀ p ∈ (dec ws L).2, ws.any (· == p.1.s) = true ∧ ∀ t ∈ p.2, ws.any (· == t.s) = false
  | [], t, h => by simp [dec] at h
  | t :: l, p, h => by
    unfold dec at h
    split at h
    · rename_i hy
      rcases List.mem_cons.mp h with e | e
      · subst e
        exact ⟨hy, dec_pre ws l⟩
      · exact dec_grp ws l p e
    · exact dec_grp ws l p h
theorem mem_flatG : ∀ {G : List (It × List It)} {p : It × List It}, p ∈ G → p.1 ∈ flatG G ∧ ∀ t ∈ p.2, t ∈ flatG G
  | q :: G, p, h => by
    rcases List.mem_cons.mp h with e | e
    · subst e
      exact ⟨by simp [flatG], fun t ht => by simp [flatG, ht]⟩
    · obtain ⟨h1, h2⟩ := mem_flatG e
      exact ⟨by simp [flatG, h1], fun t ht => by simp [flatG, h2 t ht]⟩
/-- the tree that the levels give -/
def treeM : List (List Str) → PyData → List It → PyData
  | [], d, _ => d
  | ws :: lv, d, L => (dec ws L).2.foldl (fun e p => node (opName p.1.s) e (treeM lv p.1.d p.2) p.1.i) (treeM lv d (dec ws L).1)
section
variable (all : List (Tkn × Nat)) (n : Nat)
def At (k : Nat) (ts : List (Tkn × Nat)) : Prop := all.drop k = ts
variable {all n}
theorem At.get {k : Nat} {t : Tkn × Nat} {ts : List (Tkn × Nat)} (h : At all k (t :: ts)) : all[k]? = some t := by
  have h' : all.drop k = t :: ts := h
  have := congrArg List.head? h'
  rw [List.head?_drop] at this
  exact this
theorem At.app {k : Nat} {as bs : List (Tkn × Nat)} (h : At all k (as ++ bs)) : At all (k + as.length) bs := by
  have h' : all.drop k = as ++ bs := h
  show all.drop (k + as.length) = bs
  rw [← List.drop_drop, h', List.drop_left]
theorem At.next {k : Nat} {t : Tkn × Nat} {ts : List (Tkn × Nat)} (h : At all k (t :: ts)) : At all (k + 1) ts := At.app (as := [t]) h
theorem At.sees {k : Nat} {t : Tkn × Nat} {ts : List (Tkn × Nat)} (h : At all k (t :: ts)) (ws : List Str) : seesB all ws k = valIn t.1 ws := by
  unfold seesB
  rw [h.get]
theorem At.kind {k : Nat} {t : Tkn × Nat} {ts : List (Tkn × Nat)} (h : At all k (t :: ts)) (kd : Str) : kindB all kd k = (kindOf t.1 == kd) := by
  unfold kindB
  rw [h.get]
theorem At.wh {k : Nat} {t : Tkn × Nat} {ts : List (Tkn × Nat)} (h : At all k (t :: ts)) : wh all n k = t.2 := by
  unfold Px.wh
  rw [h.get]
theorem At.tv {k : Nat} {t : Tkn × Nat} {ts : List (Tkn × Nat)} (h : At all k (t :: ts)) : tvAt all k = valD t.1 := by
  unfold tvAt
  rw [h.get]
theorem At.str {k : Nat} {s : Str} {i : Nat} {ts : List (Tkn × Nat)} (h : At all k ((sgTok s, i) :: ts)) : Px.strAt all k = s := by
  unfold Px.strAt
  rw [h.get]
  unfold sgTok
  split <;> rename_i e
  · split at e <;> cases e <;> rfl
  · split at e <;> cases e <;> rfl
  · split at e <;> cases e <;> rfl
  · exfalso
    rename_i h1 h2 h3
    split at e <;> simp_all
/-- the next token is there, and none of these -/
def Hd (ws : List Str) (ts : List (Tkn × Nat)) : Prop := ∃ t r, ts = t :: r ∧ valIn t.1 ws = false
theorem valIn_append (t : Tkn) (a b : List Str) : valIn t (a ++ b) = (valIn t a || valIn t b) := by
  cases t <;> simp [valIn, List.any_append]
theorem Hd.left {a b : List Str} {ts : List (Tkn × Nat)} (h : Hd (a ++ b) ts) : Hd a ts := by
  obtain ⟨t, r, e, h⟩ := h
  rw [valIn_append, Bool.or_eq_false_iff] at h
  exact ⟨t, r, e, h.1⟩
theorem Hd.right {a b : List Str} {ts : List (Tkn × Nat)} (h : Hd (a ++ b) ts) : Hd b ts := by
  obtain ⟨t, r, e, h⟩ := h
  rw [valIn_append, Bool.or_eq_false_iff] at h
  exact ⟨t, r, e, h.2⟩
theorem Hd.sees {ws : List Str} {ts : List (Tkn × Nat)} {k : Nat} (h : Hd ws ts) (a : At all k ts) : seesB all ws k = false := by
  obtain ⟨t, r, e, h⟩ := h
  subst e
  rw [a.sees, h]
def avoid (lv : List (List Str)) : List Str := lv.flatten ++ (["^", "(", "["] : List Str)
/-- an operand -/
def Good (E : Nat → Nat → Res) (B : Nat) (d : PyData) (ts : List (Tkn × Nat)) : Prop :=
  (∃ t r, ts = t :: r ∧ valIn t.1 ["not", "if", "let"] = false) ∧
  ∀ (m k : Nat) (rest : List (Tkn × Nat)), B ≤ m → At all k (ts ++ rest) → Hd ["^", "(", "["] rest → powersM all n E m k = .ok (d, k + ts.length)
/-- a def that reads the levels lv -/
def Lev (E : Nat → Nat → Res) (B : Nat) (C : List It → Prop) (lv : List (List Str)) (f : Nat → Nat → Res) : Prop :=
  ∀ (m k : Nat) (d : PyData) (ts : List (Tkn × Nat)) (L : List It) (rest : List (Tkn × Nat)), At all k (ts ++ flat L ++ rest) → (∀ t ∈ L, (lv.flatten).any (· == t.s) = true) →
    Good (all := all) (n := n) E B d ts → (∀ t ∈ L, Good (all := all) (n := n) E B t.d t.ts) → L.length + B ≤ m → Hd (avoid lv) rest → C L → f m k = .ok (treeM lv d L, k + (ts.length + (flat L).length))
theorem lev_nil {E : Nat → Nat → Res} {B : Nat} {C : List It → Prop} : Lev (all := all) (n := n) E B C [] (powersM all n E) := by
  intro m k d ts L rest hat hL hg _ hB hd _
  cases L with
  | cons t L => exact absurd (hL t List.mem_cons_self) (by simp)
  | nil =>
    have := hg.2 m k rest (by simpa using hB) (by simpa [flat] using hat) hd
    simpa [flat, treeM] using this
theorem hd_flatG {E : Nat → Nat → Res} {ops : List Str} {lv : List (List Str)} {G : List (It × List It)} {rest : List (Tkn × Nat)} (hG : ∀ p ∈ G, ops.any (· == p.1.s) = true) (hdis : ∀ s ∈ ops, (avoid lv).any (· == s) = false)
    (hr : Hd (avoid (ops :: lv)) rest) : Hd (avoid lv) (flat (flatG G) ++ rest) := by
  cases G with
  | nil =>
    have : avoid (ops :: lv) = ops ++ avoid lv := by simp [avoid]
    rw [this] at hr
    exact hr.right
  | cons p G =>
    obtain ⟨t, g⟩ := p
    refine ⟨(sgTok t.s, t.i), _, rfl, ?_⟩
    show valIn (sgTok t.s) _ = false
    rw [sgTok_in]
    have h1 := hG _ List.mem_cons_self
    obtain ⟨s, hs, e⟩ := List.any_eq_true.mp h1
    have := eq_of_beq e
    subst this
    exact hdis _ hs
theorem chainL_lev {E : Nat → Nat → Res} {B : Nat} {C : List It → Prop} {ops : List Str} {lv : List (List Str)} {f : Nat → Nat → Res} (hf : Lev (all := all) (n := n) E B C lv f) (hdis : ∀ s ∈ ops, (avoid lv).any (· == s) = false) (hB : 1 ≤ B) :
    ∀ (G : List (It × List It)) (m k : Nat) (e : PyData) (rest : List (Tkn × Nat)), At all k (flat (flatG G) ++ rest) → (∀ p ∈ G, ops.any (· == p.1.s) = true ∧ C p.2 ∧ (∀ t ∈ p.2, (lv.flatten).any (· == t.s) = true)) →
      (∀ t ∈ flatG G, Good (all := all) (n := n) E B t.d t.ts) → (flatG G).length + B ≤ m → Hd (avoid (ops :: lv)) rest →
      chainL all n ops f m e k = .ok (G.foldl (fun e p => node (opName p.1.s) e (treeM lv p.1.d p.2) p.1.i) e, k + (flat (flatG G)).length)
  | [], m, k, e, rest, hat, _, _, hm, hr => by
    obtain ⟨m', rfl⟩ : ∃ m', m = m' + 1 := ⟨m - 1, by omega⟩
    have : avoid (ops :: lv) = ops ++ avoid lv := by simp [avoid]
    rw [this] at hr
    have hs := hr.left.sees (k := k) hat
    unfold chainL
    rw [if_neg (by rw [hs]; exact Bool.false_ne_true)]
    rfl
  | (t, g) :: G, m, k, e, rest, hat, hG, hgood, hm, hr => by
    have hlen : (flatG ((t, g) :: G)).length = 1 + g.length + (flatG G).length := by
      show (t :: g ++ flatG G).length = _
      rw [List.length_append, List.length_cons]
      omega
    rw [hlen] at hm
    obtain ⟨m', rfl⟩ : ∃ m', m = m' + 1 := ⟨m - 1, by omega⟩
    obtain ⟨h1, hc, hg⟩ := hG _ List.mem_cons_self
    have efl : flat (flatG ((t, g) :: G)) = (sgTok t.s, t.i) :: (t.ts ++ flat g) ++ flat (flatG G) := by
      show flat (t :: g ++ flatG G) = _
      rw [flat_append]
      simp [flat]
    rw [efl] at hat
    have hat' : At all k ((sgTok t.s, t.i) :: (t.ts ++ flat g ++ (flat (flatG G) ++ rest))) := by simpa using hat
    have hs : seesB all ops k = true := by
      rw [hat'.sees]
      show valIn (sgTok t.s) ops = true
      rw [sgTok_in]
      exact h1
    have hgo := hgood t (by show t ∈ t :: g ++ flatG G; simp)
    have hr2 := hd_flatG (E := E) (fun p hp => (hG p (List.mem_cons_of_mem _ hp)).1) hdis hr
    have hp := hf m' (k + 1) t.d t.ts g (flat (flatG G) ++ rest) hat'.next hg hgo (fun u hu => hgood u (by show u ∈ t :: g ++ flatG G; simp [hu])) (by omega) hr2 hc
    have hat2 : At all (k + 1 + (t.ts.length + (flat g).length)) (flat (flatG G) ++ rest) := by
      have := At.app hat'.next
      rw [List.length_append] at this
      exact this
    have ih := chainL_lev hf hdis hB G m' (k + 1 + (t.ts.length + (flat g).length)) (node (opName t.s) e (treeM lv t.d g) t.i) rest hat2 (fun p hp => hG p (List.mem_cons_of_mem _ hp))
      (fun u hu => hgood u (by show u ∈ t :: g ++ flatG G; simp [hu])) (by omega) hr
    unfold chainL
    rw [if_pos hs, hp]
    show chainL all n ops f m' (node (opName (Px.strAt all k)) e (treeM lv t.d g) (wh all n k)) _ = _
    rw [hat'.str, hat'.wh, ih, efl]
    simp only [List.foldl_cons, List.length_append, List.length_cons]
    congr 2
    omega
theorem chain_lev {E : Nat → Nat → Res} {B : Nat} {C C' : List It → Prop} {ops : List Str} {lv : List (List Str)} {f : Nat → Nat → Res} (hf : Lev (all := all) (n := n) E B C lv f) (hdis : ∀ s ∈ ops, (avoid lv).any (· == s) = false) (hB : 1 ≤ B)
    (hC : ∀ L, (∀ t ∈ L, ((ops :: lv).flatten).any (· == t.s) = true) → C' L → C (dec ops L).1 ∧ ∀ p ∈ (dec ops L).2, C p.2) : Lev (all := all) (n := n) E B C' (ops :: lv) (chainM all n ops f) := by
  intro m k d ts L rest hat hL hg hgood hm hr hCL
  obtain ⟨hC1, hC2⟩ := hC L hL hCL
  have ef := dec_flat ops L
  have deep : ∀ t ∈ L, ops.any (· == t.s) = false → (lv.flatten).any (· == t.s) = true := fun t ht h => by
    have := hL t ht
    rw [List.flatten_cons, List.any_append, h, Bool.false_or] at this
    exact this
  have mp : ∀ t ∈ (dec ops L).1, t ∈ L := fun t ht => by rw [← ef]; exact List.mem_append_left _ ht
  have mg : ∀ t ∈ flatG (dec ops L).2, t ∈ L := fun t ht => by rw [← ef]; exact List.mem_append_right _ ht
  have hlen : (dec ops L).1.length + (flatG (dec ops L).2).length = L.length := by rw [← List.length_append, ef]
  have hfl : flat L = flat (dec ops L).1 ++ flat (flatG (dec ops L).2) := by rw [← flat_append, ef]
  rw [hfl] at hat
  have hat1 : At all k (ts ++ flat (dec ops L).1 ++ (flat (flatG (dec ops L).2) ++ rest)) := by simpa using hat
  have hr2 := hd_flatG (E := E) (fun p hp => (dec_grp ops L p hp).1) hdis hr
  have h1 := hf m k d ts (dec ops L).1 _ hat1 (fun t ht => deep t (mp t ht) (dec_pre ops L t ht)) hg (fun t ht => hgood t (mp t ht)) (by omega) hr2 hC1
  have hat2 : At all (k + (ts.length + (flat (dec ops L).1).length)) (flat (flatG (dec ops L).2) ++ rest) := by
    have := At.app hat1
    rw [List.length_append] at this
    exact this
  have h2 := chainL_lev hf hdis hB (dec ops L).2 m _ (treeM lv d (dec ops L).1) rest hat2
    (fun p hp => ⟨(dec_grp ops L p hp).1, hC2 p hp, fun t ht => deep t (mg t ((mem_flatG hp).2 t ht)) ((dec_grp ops L p hp).2 t ht)⟩) (fun t ht => hgood t (mg t ht)) (by omega) hr
  unfold chainM
  rw [h1]
  show chainL all n ops f m (treeM lv d (dec ops L).1) _ = _
  rw [h2, hfl]
  simp only [treeM, List.length_append]
  congr 2
  omega
end
end Px

/-! ### the levels, the operands -/
namespace Px
open PySem PySem.Spec PyProof.Rows L2 Ly Lx TL
abbrev cmps : List Str := ["<", "<=", "=="]
def lv5 : List (List Str) := []
def lv4 : List (List Str) := ["*", "/"] :: lv5
def lv3 : List (List Str) := ["+", "-"] :: lv4
def lv2 : List (List Str) := cmps :: lv3
def lv1 : List (List Str) := ["and"] :: lv2
def lv0 : List (List Str) := ["or"] :: lv1
/-- at most one comparison between words -/
def one : Bool → List It → Bool
  | _, [] => true
  | c, t :: l => if cmps.any (· == t.s) = true then !c && one true l else if (["or", "and"] : List Str).any (· == t.s) = true then one false l else one c l
theorem one_weak : ∀ (l : List It), one true l = true → one false l = true
  | [], _ => rfl
  | t :: l, h => by
    unfold one at h ⊢
    split
    · rename_i e
      rw [if_pos e] at h
      simp at h
    · rename_i e
      rw [if_neg e] at h
      split
      · rename_i e2
        rw [if_pos e2] at h
        exact h
      · rename_i e2
        rw [if_neg e2] at h
        exact one_weak l h
theorem one_dec {ops : List Str} (ho : ∀ s ∈ ops, s = "or" ∨ s = "and") : ∀ (l : List It) (c : Bool), one c l = true → one c (dec ops l).1 = true ∧ ∀ p ∈ (dec ops l).2, one false p.2 = true
  | [], c, _ => ⟨rfl, fun p h => by simp [dec] at h⟩
  | t :: l, c, h => by
    unfold dec
    split
    · rename_i hw
      obtain ⟨s, hs, e⟩ := List.any_eq_true.mp hw
      have := eq_of_beq e
      subst this
      have hcm : cmps.any (· == t.s) = false := by
        rcases ho _ hs with e | e <;> rw [e] <;> decide
      have how : (["or", "and"] : List Str).any (· == t.s) = true := by
        rcases ho _ hs with e | e <;> rw [e] <;> decide
      unfold one at h
      rw [if_neg (by rw [hcm]; exact Bool.false_ne_true), if_pos how] at h
      obtain ⟨h1, h2⟩ := one_dec ho l false h
      refine ⟨rfl, fun p hp => ?_⟩
      rcases List.mem_cons.mp hp with e | e
      · subst e
        exact h1
      · exact h2 p e
    · unfold one at h
      split at h
      · rename_i e
        rw [Bool.and_eq_true] at h
        obtain ⟨h1, h2⟩ := one_dec ho l true h.2
        refine ⟨?_, h2⟩
        show one c (t :: (dec ops l).1) = true
        unfold one
        rw [if_pos e, h.1, h1]
        rfl
      · rename_i e
        split at h
        · rename_i e2
          obtain ⟨h1, h2⟩ := one_dec ho l false h
          refine ⟨?_, h2⟩
          show one c (t :: (dec ops l).1) = true
          unfold one
          rw [if_neg e, if_pos e2, h1]
        · rename_i e2
          obtain ⟨h1, h2⟩ := one_dec ho l c h
          refine ⟨?_, h2⟩
          show one c (t :: (dec ops l).1) = true
          unfold one
          rw [if_neg e, if_neg e2, h1]
/-- where no word stands, at most one comparison is found -/
theorem one_cmp : ∀ (l : List It) (c : Bool), one c l = true → (∀ t ∈ l, (["or", "and"] : List Str).any (· == t.s) = false) → (dec cmps l).2.length + (if c = true then 1 else 0) ≤ 1
  | [], c, _, _ => by
    cases c <;> simp [dec]
  | t :: l, c, h, hw => by
    have hw' := hw t List.mem_cons_self
    unfold one at h
    unfold dec
    split
    · rename_i e
      rw [if_pos e, Bool.and_eq_true] at h
      have := one_cmp l true h.2 fun u hu => hw u (List.mem_cons_of_mem _ hu)
      simp only [if_true] at this
      have hc : c = false := by simpa using h.1
      subst hc
      simp only [List.length_cons]
      have : (dec cmps l).2.length = 0 := by omega
      rw [this]
      decide
    · rename_i e
      rw [if_neg e, if_neg (by rw [hw']; exact Bool.false_ne_true)] at h
      exact one_cmp l c h fun u hu => hw u (List.mem_cons_of_mem _ hu)
section
variable {all : List (Tkn × Nat)} {n : Nat} {E : Nat → Nat → Res} {B : Nat}
theorem lev_factors (hB : 1 ≤ B) : Lev (all := all) (n := n) E B (fun _ => True) lv4 (factorsM all n E) :=
  chain_lev (C := fun _ => True) lev_nil (by decide) hB fun _ _ _ => ⟨trivial, fun _ _ => trivial⟩
theorem lev_terms (hB : 1 ≤ B) : Lev (all := all) (n := n) E B (fun _ => True) lv3 (termsM all n E) :=
  chain_lev (C := fun _ => True) (lev_factors hB) (by decide) hB fun _ _ _ => ⟨trivial, fun _ _ => trivial⟩
theorem lev_plain (hB : 1 ≤ B) : Lev (all := all) (n := n) E B (fun l => one false l = true) lv2 (plainM all n E) := by
  intro m k d ts L rest hat hL hg hgood hm hr hC
  obtain ⟨m', rfl⟩ : ∃ m', m = m' + 1 := ⟨m - 1, by omega⟩
  have hno : ∀ t ∈ L, (["or", "and"] : List Str).any (· == t.s) = false := fun t ht => by
    have h1 := hL t ht
    obtain ⟨s, hs, e⟩ := List.any_eq_true.mp h1
    have := eq_of_beq e
    subst this
    have : ∀ s ∈ lv2.flatten, (["or", "and"] : List Str).any (· == s) = false := by decide
    exact this _ hs
  have hc := one_cmp L false hC hno
  have hdis : ∀ s ∈ cmps, (avoid lv3).any (· == s) = false := by decide
  have ef := dec_flat cmps L
  have deep : ∀ t ∈ L, cmps.any (· == t.s) = false → (lv3.flatten).any (· == t.s) = true := fun t ht h => by
    have := hL t ht
    rw [show lv2 = cmps :: lv3 from rfl, List.flatten_cons, List.any_append, h, Bool.false_or] at this
    exact this
  have mp : ∀ t ∈ (dec cmps L).1, t ∈ L := fun t ht => by rw [← ef]; exact List.mem_append_left _ ht
  have mg : ∀ t ∈ flatG (dec cmps L).2, t ∈ L := fun t ht => by rw [← ef]; exact List.mem_append_right _ ht
  have hlen : (dec cmps L).1.length + (flatG (dec cmps L).2).length = L.length := by rw [← List.length_append, ef]
  have hfl : flat L = flat (dec cmps L).1 ++ flat (flatG (dec cmps L).2) := by rw [← flat_append, ef]
  obtain ⟨⟨t0, r0, e0, h0⟩, hgo⟩ := hg
  have hat0 : At all k (t0 :: (r0 ++ flat L ++ rest)) := by
    subst e0
    simpa using hat
  have hnot : seesB all ["not"] k = false := by
    rw [hat0.sees]
    rw [show (["not", "if", "let"] : List Str) = (["not"] : List Str) ++ (["if", "let"] : List Str) from rfl, valIn_append, Bool.or_eq_false_iff] at h0
    exact h0.1
  rw [hfl] at hat
  have hat1 : At all k (ts ++ flat (dec cmps L).1 ++ (flat (flatG (dec cmps L).2) ++ rest)) := by simpa using hat
  have hr2 := hd_flatG (E := E) (fun p hp => (dec_grp cmps L p hp).1) hdis hr
  have h1 := lev_terms hB (m' + 1) k d ts (dec cmps L).1 _ hat1 (fun t ht => deep t (mp t ht) (dec_pre cmps L t ht)) ⟨⟨t0, r0, e0, h0⟩, hgo⟩ (fun t ht => hgood t (mp t ht)) (by omega) hr2 trivial
  have hat2 : At all (k + (ts.length + (flat (dec cmps L).1).length)) (flat (flatG (dec cmps L).2) ++ rest) := by
    have := At.app hat1
    rw [List.length_append] at this
    exact this
  unfold plainM
  rw [if_neg (by rw [hnot]; exact Bool.false_ne_true), h1]
  show (if seesB all ["<", "<=", "=="] (k + (ts.length + (flat (dec cmps L).1).length)) = true then _ else _) = _
  cases hG : (dec cmps L).2 with
  | nil =>
    rw [hG] at hat2
    have hs : seesB all cmps (k + (ts.length + (flat (dec cmps L).1).length)) = false := by
      have : avoid lv2 = cmps ++ avoid lv3 := by simp [avoid, lv2]
      rw [this] at hr
      exact hr.left.sees hat2
    rw [if_neg (by rw [hs]; exact Bool.false_ne_true)]
    rw [hfl, hG]
    simp only [treeM, lv2, hG, List.foldl_nil, flatG, flat, List.append_nil]
  | cons p G =>
    obtain ⟨t, g⟩ := p
    have hnil : G = [] := by
      rw [hG] at hc
      simp only [List.length_cons] at hc
      exact List.eq_nil_of_length_eq_zero (by omega)
    subst hnil
    have hdg := dec_grp cmps L (t, g) (by rw [hG]; simp)
    have e1 : flat (flatG [(t, g)]) = (sgTok t.s, t.i) :: (t.ts ++ flat g) := by
      show flat (t :: g ++ []) = _
      rw [List.append_nil]
      rfl
    rw [hG, e1] at hat2
    have hs : seesB all cmps (k + (ts.length + (flat (dec cmps L).1).length)) = true := by
      rw [At.sees hat2]
      show valIn (sgTok t.s) _ = true
      rw [sgTok_in]
      exact hdg.1
    rw [if_pos hs]
    have mg' : ∀ u ∈ t :: g, u ∈ L := fun u hu => mg u (by rw [hG]; show u ∈ t :: g ++ []; simpa using hu)
    have hr3 : Hd (avoid lv3) rest := by
      have : avoid lv2 = cmps ++ avoid lv3 := by simp [avoid, lv2]
      rw [this] at hr
      exact hr.right
    have hl2 : (dec cmps L).1.length + (1 + g.length) = L.length := by
      rw [hG] at hlen
      simp [flatG] at hlen
      omega
    have h2 := lev_terms hB m' _ t.d t.ts g rest (show At all _ (t.ts ++ flat g ++ rest) from by simpa using (At.next hat2)) (fun u hu => deep u (mg' u (List.mem_cons_of_mem _ hu)) (hdg.2 u hu)) (hgood t (mg' t List.mem_cons_self))
      (fun u hu => hgood u (mg' u (List.mem_cons_of_mem _ hu))) (by omega) hr3 trivial
    rw [h2]
    show Except.ok _ = _
    rw [At.str (by simpa using hat2), At.wh hat2, hfl, hG, e1]
    simp only [treeM, lv2, hG, List.foldl_cons, List.foldl_nil, List.length_append, List.length_cons]
    congr 2
    omega
theorem lev_both (hB : 1 ≤ B) : Lev (all := all) (n := n) E B (fun l => one false l = true) lv1 (bothM all n E) :=
  chain_lev (lev_plain hB) (by decide) hB fun L _ h => one_dec (by decide) L false h
theorem lev_or (hB : 1 ≤ B) : Lev (all := all) (n := n) E B (fun l => one false l = true) lv0 (chainM all n ["or"] (bothM all n E)) :=
  chain_lev (lev_both hB) (by decide) hB fun L _ h => one_dec (by decide) L false h
theorem lev_expr (hB : 1 ≤ B) : Lev (all := all) (n := n) E B (fun l => one false l = true) lv0 (exprM all n E) := by
  intro m k d ts L rest hat hL hg hgood hm hr hC
  obtain ⟨m', rfl⟩ : ∃ m', m = m' + 1 := ⟨m - 1, by omega⟩
  obtain ⟨⟨t0, r0, e0, h0⟩, hgo⟩ := hg
  have hat0 : At all k (t0 :: (r0 ++ flat L ++ rest)) := by
    subst e0
    simpa using hat
  have h0' := h0
  rw [show (["not", "if", "let"] : List Str) = (["not"] : List Str) ++ ((["if"] : List Str) ++ (["let"] : List Str)) from rfl, valIn_append, valIn_append, Bool.or_eq_false_iff, Bool.or_eq_false_iff] at h0
  have h1 := lev_or hB (m' + 1) k d ts L rest hat hL ⟨⟨t0, r0, e0, h0'⟩, hgo⟩ hgood hm hr hC
  unfold exprM
  dsimp only
  rw [if_neg (by rw [hat0.sees, h0.2.1]; exact Bool.false_ne_true), if_neg (by rw [hat0.sees, h0.2.2]; exact Bool.false_ne_true), h1]
end
end Px

/-! ### the law's operands -/
namespace Px
open PySem PySem.Spec PyProof.Rows L2 Ly Lx TL
def varD (w : Str) (i : Nat) : PyData := .tuple [.str "var", .str w, .int (i : Int)]
def opPick (c : Nat) : Nat := c / 20 % 4
def opVal (c : Nat) : Nat := c / 80 % 1000
def opD (c i : Nat) : PyData :=
  if opPick c = 1 then .tuple [.str "number", .tuple [.int (opVal c : Int), .int ((1 : Nat) : Int)], .tuple [], .int (i : Int)]
  else if opPick c = 2 then .tuple [.str "call", .str "f", .tuple [varD "y" (i + 2)], .int (i : Int)]
  else if opPick c = 3 then .tuple [.str "power", .tuple [.str "power", varD "x" i, .int ((2 : Nat) : Int), .int ((i + 1 : Nat) : Int)], .int (-3), .int ((i + 3 : Nat) : Int)]
  else varD "x" i
def opT (c i : Nat) : List (Tkn × Nat) :=
  if opPick c = 1 then [(.num (opVal c) 1, i)]
  else if opPick c = 2 then [(.name "f", i), (.sign "(", i + 1), (.name "y", i + 2), (.sign ")", i + 3)]
  else if opPick c = 3 then [(.name "x", i), (.sign "^", i + 1), (.num 2 1, i + 2), (.sign "^", i + 3), (.sign "-", i + 4), (.num 3 1, i + 5)]
  else [(.name "x", i)]
section
variable {all : List (Tkn × Nat)} {n : Nat} {E : Nat → Nat → Res}
theorem powL_end {m k : Nat} {e : PyData} {rest : List (Tkn × Nat)} (hat : At all k rest) (hr : Hd ["^", "(", "["] rest) (hm : 1 ≤ m) : powL all n m e k = .ok (e, k) := by
  obtain ⟨m', rfl⟩ : ∃ m', m = m' + 1 := ⟨m - 1, by omega⟩
  have h1 : Hd ((["^"] : List Str) ++ (["(", "["] : List Str)) rest := hr
  unfold powL
  rw [if_neg (by rw [h1.left.sees hat]; exact Bool.false_ne_true)]
theorem prim_name {m k i : Nat} {w : Str} {rest : List (Tkn × Nat)} (hw : (["true", "false", "(", "iterate"] : List Str).any (· == w) = false) (hat : At all k ((.name w, i) :: rest)) :
    primM all n E (m + 1) k = if seesB all ["("] (k + 1) = true then bindR (argsM all n (E m) (k + 2)) fun a k2 => .ok (.tuple [.str "call", .str w, a, .int (i : Int)], k2) else .ok (varD w i, k + 1) := by
  have hs : ∀ v : Str, v ∈ (["true", "false", "(", "iterate"] : List Str) → seesB all [v] k = false := fun v hv => by
    rw [hat.sees]
    show ([v].any (· == w)) = false
    have := List.any_eq_false.mp hw v hv
    simpa using this
  unfold primM
  rw [if_neg (by rw [hat.kind]; exact (by decide : ¬ (("name" : Str) == "number") = true)), if_neg (by rw [hs "true" (by decide)]; exact Bool.false_ne_true), if_neg (by rw [hs "false" (by decide)]; exact Bool.false_ne_true),
    if_neg (by rw [hs "(" (by decide)]; exact Bool.false_ne_true), if_neg (by rw [hs "iterate" (by decide)]; exact Bool.false_ne_true)]
  unfold expectKind
  rw [if_pos (by rw [hat.kind]; exact (by decide : (("name" : Str) == "name") = true)), hat.tv, hat.wh]
  rfl
theorem good_var {B i : Nat} {w : Str} (hB : 1 ≤ B) (hw : (["true", "false", "(", "iterate", "not", "if", "let"] : List Str).any (· == w) = false) : Good (all := all) (n := n) E B (varD w i) [(.name w, i)] := by
  have hw' : ((["true", "false", "(", "iterate"] : List Str) ++ (["not", "if", "let"] : List Str)).any (· == w) = false := hw
  rw [List.any_append, Bool.or_eq_false_iff] at hw'
  refine ⟨⟨_, _, rfl, hw'.2⟩, fun m k rest hm hat hr => ?_⟩
  obtain ⟨m', rfl⟩ : ∃ m', m = m' + 1 := ⟨m - 1, by omega⟩
  have hat2 : At all (k + 1) rest := At.next hat
  have h1 : Hd ((["^"] : List Str) ++ ((["("] : List Str) ++ (["["] : List Str))) rest := hr
  unfold powersM
  rw [prim_name hw'.1 hat, if_neg (by rw [h1.right.left.sees hat2]; exact Bool.false_ne_true)]
  exact powL_end hat2 hr (by omega)
theorem good_num {B i v : Nat} (hB : 1 ≤ B) : Good (all := all) (n := n) E B (.tuple [.str "number", .tuple [.int (v : Int), .int ((1 : Nat) : Int)], .tuple [], .int (i : Int)]) [(.num v 1, i)] := by
  refine ⟨⟨_, _, rfl, rfl⟩, fun m k rest hm hat hr => ?_⟩
  obtain ⟨m', rfl⟩ : ∃ m', m = m' + 1 := ⟨m - 1, by omega⟩
  have hat2 : At all (k + 1) rest := At.next hat
  have h1 : Hd ((["^"] : List Str) ++ ((["("] : List Str) ++ (["["] : List Str))) rest := hr
  unfold powersM primM
  rw [if_pos (by rw [At.kind hat]; exact (by decide : (("number" : Str) == "number") = true))]
  unfold numberM
  rw [if_neg (by rw [h1.right.right.sees hat2]; exact Bool.false_ne_true), At.tv hat, At.wh hat]
  exact powL_end hat2 hr (by omega)
theorem one_expr {m k i : Nat} {w : Str} {rest : List (Tkn × Nat)} (hm : 1 ≤ m) (hw : (["true", "false", "(", "iterate", "not", "if", "let"] : List Str).any (· == w) = false) (hat : At all k ((.name w, i) :: (.sign ")", i + 1) :: rest)) :
    exprM all n E m k = .ok (varD w i, k + 1) := by
  have := lev_expr (all := all) (n := n) (E := E) (B := 1) (Nat.le_refl _) m k (varD w i) [(.name w, i)] [] ((.sign ")", i + 1) :: rest) hat (fun t ht => by simp at ht) (good_var (Nat.le_refl _) hw) (fun t ht => by simp at ht) (by simpa using hm)
    ⟨_, _, rfl, by dsimp only; decide⟩ rfl
  exact this
theorem good_call {B i : Nat} {E' : Nat → Nat → Res} (hB : 2 ≤ B) : Good (all := all) (n := n) (exprM all n E') B (.tuple [.str "call", .str "f", .tuple [varD "y" (i + 2)], .int (i : Int)]) [(.name "f", i), (.sign "(", i + 1), (.name "y", i + 2), (.sign ")", i + 3)] := by
  refine ⟨⟨_, _, rfl, by dsimp only; decide⟩, fun m k rest hm hat hr => ?_⟩
  obtain ⟨m', rfl⟩ : ∃ m', m = m' + 1 := ⟨m - 1, by omega⟩
  have hat1 : At all (k + 1) ((.sign "(", i + 1) :: (.name "y", i + 2) :: (.sign ")", i + 3) :: rest) := At.next hat
  have hat2 := hat1.next
  have hat3 := hat2.next
  have hat4 := hat3.next
  unfold powersM
  rw [prim_name (by decide) hat, if_pos (by rw [hat1.sees]; dsimp only; decide)]
  unfold argsM
  rw [if_neg (by rw [hat2.sees]; dsimp only; decide), one_expr (by omega) (by decide) hat2]
  show bindR (bindR (argsL all n (exprM all n E' m') (all.length + 1) [varD "y" (i + 2)] (k + 1 + 1 + 1)) _) _ = _
  unfold argsL
  rw [if_neg (by rw [hat3.sees]; dsimp only; decide)]
  unfold expectS
  rw [if_pos (by rw [hat3.sees]; dsimp only; decide)]
  exact powL_end hat4 hr (by omega)
theorem good_pow {B i : Nat} (hB : 4 ≤ B) : Good (all := all) (n := n) E B (.tuple [.str "power", .tuple [.str "power", varD "x" i, .int ((2 : Nat) : Int), .int ((i + 1 : Nat) : Int)], .int (-3), .int ((i + 3 : Nat) : Int)])
    [(.name "x", i), (.sign "^", i + 1), (.num 2 1, i + 2), (.sign "^", i + 3), (.sign "-", i + 4), (.num 3 1, i + 5)] := by
  refine ⟨⟨_, _, rfl, by dsimp only; decide⟩, fun m k rest hm hat hr => ?_⟩
  obtain ⟨m', rfl⟩ : ∃ m', m = m' + 1 + 1 + 1 := ⟨m - 3, by omega⟩
  have hat1 : At all (k + 1) ((.sign "^", i + 1) :: (.num 2 1, i + 2) :: (.sign "^", i + 3) :: (.sign "-", i + 4) :: (.num 3 1, i + 5) :: rest) := At.next hat
  have hat2 := hat1.next
  have hat3 := hat2.next
  have hat4 := hat3.next
  have hat5 := hat4.next
  have hat6 := hat5.next
  have hp1 : powerM all n (k + 1 + 1) = .ok (.int ((2 : Nat) : Int), k + 1 + 1 + 1) := by
    unfold powerM
    rw [if_neg (by rw [hat2.sees]; dsimp only; decide)]
    unfold expectWhole
    rw [hat2.get]
    dsimp only
    rw [if_neg (by decide)]
  have hp2 : powerM all n (k + 1 + 1 + 1 + 1) = .ok (.int (-3), k + 1 + 1 + 1 + 1 + 1 + 1) := by
    unfold powerM
    rw [if_pos (by rw [hat4.sees]; dsimp only; decide)]
    unfold expectWhole
    rw [hat5.get]
    dsimp only
    rw [if_neg (by decide)]
    rfl
  unfold powersM
  rw [prim_name (by decide) hat, if_neg (by rw [hat1.sees]; dsimp only; decide)]
  show powL all n (m' + 1 + 1 + 1) (varD "x" i) (k + 1) = _
  unfold powL
  rw [if_pos (by rw [hat1.sees]; dsimp only; decide), if_neg (by omega), hp1, hat1.wh]
  show powL all n (m' + 1 + 1) _ (k + 1 + 1 + 1) = _
  unfold powL
  rw [if_pos (by rw [hat3.sees]; dsimp only; decide), if_neg (by omega), hp2, hat3.wh]
  exact powL_end hat6 hr (by omega)
theorem good_op {c i : Nat} {E' : Nat → Nat → Res} : Good (all := all) (n := n) (exprM all n E') 4 (opD c i) (opT c i) := by
  unfold opD opT
  by_cases h1 : opPick c = 1
  · rw [if_pos h1, if_pos h1]
    exact good_num (by decide)
  rw [if_neg h1, if_neg h1]
  by_cases h2 : opPick c = 2
  · rw [if_pos h2, if_pos h2]
    exact good_call (by decide)
  rw [if_neg h2, if_neg h2]
  by_cases h3 : opPick c = 3
  · rw [if_pos h3, if_pos h3]
    exact good_pow (by decide)
  rw [if_neg h3, if_neg h3]
  exact good_var (by decide) (by decide)
end
end Px

/-! ### the law's text: its tokens, its tree -/
namespace Px
open PySem PySem.Spec PyProof.Rows L2 Ly Lx TL Lw
abbrev drawn : List Str := ["or", "and", "<", "<=", "==", "+", "-", "*", "/", "+"]
abbrev wordsS : List Str := ["or", "and"]
def sgOf (cmp : Bool) (c : Nat) : Str := if (cmp && cmps.any (· == drawn.getD (c % 10) "")) = true then "*" else drawn.getD (c % 10) ""
def nextC (cmp : Bool) (s : Str) : Bool := cmps.any (· == s) || (cmp && !(wordsS.any (· == s)))
def sepK (c : Nat) : Str := if c / 10 % 2 = 0 then " " else "\n "
def opL (c : Nat) : List Nat := if opPick c = 1 then numL (opVal c) else if opPick c = 2 then tl ("f(y)" : Str) else if opPick c = 3 then tl ("x^2^-3" : Str) else tl ("x" : Str)
def txR : Bool → List Nat → List Nat
  | _, [] => []
  | cmp, c :: cs => tl (sepK c) ++ (tl (sgOf cmp c) ++ (32 :: (opL c ++ txR (nextC cmp (sgOf cmp c)) cs)))
def its : Nat → Bool → List Nat → List It
  | _, _, [] => []
  | off, cmp, c :: cs => ⟨sgOf cmp c, off + (sepK c).length, opD c (off + (sepK c).length + (sgOf cmp c).length + 1), opT c (off + (sepK c).length + (sgOf cmp c).length + 1)⟩ ::
      its (off + (sepK c).length + (sgOf cmp c).length + 1 + (opL c).length) (nextC cmp (sgOf cmp c)) cs
theorem sgOf_mem (cmp : Bool) (c : Nat) : sgOf cmp c ∈ (["or", "and", "<", "<=", "==", "+", "-", "*", "/"] : List Str) := by
  unfold sgOf
  split
  · decide
  · have h : drawn.getD (c % 10) "" ∈ drawn := getD_mem (Nat.mod_lt _ (by decide))
    have h2 : ∀ s ∈ drawn, s ∈ (["or", "and", "<", "<=", "==", "+", "-", "*", "/"] : List Str) := by decide
    exact h2 _ h
theorem its_one : ∀ (cs : List Nat) (off : Nat) (cmp : Bool), one cmp (its off cmp cs) = true
  | [], _, _ => rfl
  | c :: cs, off, cmp => by
    unfold its one
    dsimp only
    have ih := its_one cs (off + (sepK c).length + (sgOf cmp c).length + 1 + (opL c).length) (nextC cmp (sgOf cmp c))
    by_cases h1 : cmps.any (· == sgOf cmp c) = true
    · rw [if_pos h1]
      have hn : nextC cmp (sgOf cmp c) = true := by
        unfold nextC
        rw [h1]
        rfl
      rw [hn] at ih ⊢
      rw [ih]
      cases cmp with
      | false => rfl
      | true =>
        exfalso
        unfold sgOf at h1
        split at h1
        · exact absurd h1 (by decide)
        · rename_i h2
          simp only [Bool.true_and] at h2
          exact h2 h1
    · rw [if_neg h1]
      have h1' := Bool.eq_false_iff.mpr h1
      by_cases h2 : wordsS.any (· == sgOf cmp c) = true
      · rw [if_pos h2]
        have hn : nextC cmp (sgOf cmp c) = false := by
          unfold nextC
          rw [h1', h2]
          cases cmp <;> rfl
        rw [hn] at ih ⊢
        exact ih
      · rw [if_neg h2]
        have h2' := Bool.eq_false_iff.mpr h2
        have hn : nextC cmp (sgOf cmp c) = cmp := by
          unfold nextC
          rw [h1', h2']
          cases cmp <;> rfl
        rw [hn] at ih ⊢
        exact ih
theorem its_len : ∀ (cs : List Nat) (off : Nat) (cmp : Bool), (its off cmp cs).length = cs.length
  | [], _, _ => rfl
  | c :: cs, off, cmp => by
    unfold its
    rw [List.length_cons, its_len cs, List.length_cons]
theorem its_mem : ∀ (cs : List Nat) (off : Nat) (cmp : Bool), ∀ t ∈ its off cmp cs, t.s ∈ (["or", "and", "<", "<=", "==", "+", "-", "*", "/"] : List Str) ∧ ∃ c i, t.d = opD c i ∧ t.ts = opT c i
  | [], _, _, t, h => by simp [its] at h
  | c :: cs, off, cmp, t, h => by
    unfold its at h
    rcases List.mem_cons.mp h with e | e
    · subst e
      exact ⟨sgOf_mem cmp c, _, _, rfl, rfl⟩
    · exact its_mem cs _ _ t e
/-! #### lexing -/
theorem lex_step {i j n : Nat} {l l2 l' : List Nat} {t : Tkn} {ts : List (Tkn × Nat)} (e : tokAt l = some (t, n)) (hd : l.drop n = l2) (hs : skip false l2 = 0) (h : LexTo (i + n) l2 ts j l') : LexTo i l ((t, i) :: ts) j l' := by
  subst hd
  refine .step e ?_
  rw [hs]
  exact h
theorem lex_last {i n : Nat} {l l2 : List Nat} {t : Tkn} (e : tokAt l = some (t, n)) (hd : l.drop n = l2) : LexTo i l [(t, i)] (i + n + skip false l2) (l2.drop (skip false l2)) := by
  subst hd
  exact .step e .refl
abbrev Ends (x : Nat) : Prop := x = 32 ∨ x = 10 ∨ x = 59
theorem ends_naming {x : Nat} (h : Ends x) : inS naming x = false := by
  rcases h with e | e | e <;> subst e <;> decide
theorem tok_x {s : Nat} {r : List Nat} (hs : inS naming s = false) : tokAt (120 :: s :: r) = some (.name "x", 1) := by
  have := tok_word (c := 120) (w := []) (r := r) (by decide) (by simp) hs (.inr (by decide))
  rw [if_neg (by decide)] at this
  exact this
theorem tok_f {s : Nat} {r : List Nat} (hs : inS naming s = false) : tokAt (102 :: s :: r) = some (.name "f", 1) := by
  have := tok_word (c := 102) (w := []) (r := r) (by decide) (by simp) hs (.inr (by decide))
  rw [if_neg (by decide)] at this
  exact this
theorem tok_y {s : Nat} {r : List Nat} (hs : inS naming s = false) : tokAt (121 :: s :: r) = some (.name "y", 1) := by
  have := tok_word (c := 121) (w := []) (r := r) (by decide) (by simp) hs (.inr (by decide))
  rw [if_neg (by decide)] at this
  exact this
theorem tok_whole {v s : Nat} {r : List Nat} (hv : v < 1000) (hs : inS naming s = false) (h46 : s ≠ 46) : tokAt (numL v ++ s :: r) = some (.num v 1, (numL v).length) := by
  have h1 := numL_len (k := 3) (by decide) (n := v) (by omega)
  have h2 := numL_ne v
  have h3 := dig_of (numL_digits v)
  have h4 := numL_val v
  revert h1 h2 h3 h4
  cases numL v with
  | nil => intro _ h; exact absurd rfl h
  | cons c w =>
    intro h1 _ h3 h4
    have := tok_num (c := c) (w := w) (ps := []) (r := r) (h3 c List.mem_cons_self) (fun d hd => h3 d (List.mem_cons_of_mem _ hd)) (by simp) hs h46 (by simp at h1; omega) (by decide)
    rw [List.append_nil, h4] at this
    unfold numText at this
    rw [if_pos rfl, List.append_nil] at this
    exact this
theorem opVal_lt (c : Nat) : opVal c < 1000 := Nat.mod_lt _ (by decide)
theorem lex_op (c i : Nat) {x : Nat} (r : List Nat) (hx : Ends x) : skip false (opL c ++ x :: r) = 0 ∧ LexTo i (opL c ++ x :: r) (opT c i) (i + (opL c).length + skip false (x :: r)) ((x :: r).drop (skip false (x :: r))) := by
  have hn := ends_naming hx
  have h46 : x ≠ 46 := by rcases hx with e | e | e <;> omega
  unfold opL opT
  by_cases h1 : opPick c = 1
  · rw [if_pos h1, if_pos h1]
    have e := tok_whole (r := r) (opVal_lt c) hn h46
    exact ⟨tok_noskip e, lex_last e (List.drop_left)⟩
  rw [if_neg h1, if_neg h1]
  by_cases h2 : opPick c = 2
  · rw [if_pos h2, if_pos h2]
    show skip false (102 :: 40 :: 121 :: 41 :: x :: r) = 0 ∧ LexTo i (102 :: 40 :: 121 :: 41 :: x :: r) _ (i + 4 + _) _
    have e1 := tok_f (s := 40) (r := 121 :: 41 :: x :: r) (by decide)
    have e2 : tokAt (40 :: 121 :: 41 :: x :: r) = some (.sign "(", 1) := rfl
    have e3 := tok_y (s := 41) (r := x :: r) (by decide)
    have e4 : tokAt (41 :: x :: r) = some (.sign ")", 1) := rfl
    exact ⟨tok_noskip e1, lex_step e1 rfl (tok_noskip e2) (lex_step e2 rfl (tok_noskip e3) (lex_step e3 rfl (tok_noskip e4) (lex_last e4 rfl)))⟩
  rw [if_neg h2, if_neg h2]
  by_cases h3 : opPick c = 3
  · rw [if_pos h3, if_pos h3]
    show skip false (120 :: 94 :: 50 :: 94 :: 45 :: 51 :: x :: r) = 0 ∧ LexTo i (120 :: 94 :: 50 :: 94 :: 45 :: 51 :: x :: r) _ (i + 6 + _) _
    have e1 := tok_x (s := 94) (r := 50 :: 94 :: 45 :: 51 :: x :: r) (by decide)
    have e2 : tokAt (94 :: 50 :: 94 :: 45 :: 51 :: x :: r) = some (.sign "^", 1) := rfl
    have e3 : tokAt (50 :: 94 :: 45 :: 51 :: x :: r) = some (.num 2 1, 1) := tok_whole (v := 2) (s := 94) (r := 45 :: 51 :: x :: r) (by decide) (by decide) (by decide)
    have e4 : tokAt (94 :: 45 :: 51 :: x :: r) = some (.sign "^", 1) := rfl
    have e5 : tokAt (45 :: 51 :: x :: r) = some (.sign "-", 1) := rfl
    have e6 : tokAt (51 :: x :: r) = some (.num 3 1, 1) := tok_whole (v := 3) (r := r) (by decide) hn h46
    exact ⟨tok_noskip e1, lex_step e1 rfl (tok_noskip e2) (lex_step e2 rfl (tok_noskip e3) (lex_step e3 rfl (tok_noskip e4) (lex_step e4 rfl (tok_noskip e5) (lex_step e5 rfl (tok_noskip e6) (lex_last e6 rfl)))))⟩
  rw [if_neg h3, if_neg h3]
  have e1 := tok_x (r := r) hn
  exact ⟨tok_noskip e1, lex_last e1 rfl⟩
theorem tok_sg (r : List Nat) : ∀ s ∈ (["or", "and", "<", "<=", "==", "+", "-", "*", "/"] : List Str), tokAt (tl s ++ 32 :: r) = some (sgTok s, s.length) := by
  intro s h
  simp only [List.mem_cons, List.not_mem_nil, or_false] at h
  rcases h with rfl | rfl | rfl | rfl | rfl | rfl | rfl | rfl | rfl
  · have := tok_word (c := 111) (w := [114]) (s := 32) (r := r) (by decide) (by decide) (by decide) (.inr (by decide))
    rw [if_pos (by decide)] at this
    exact this
  · have := tok_word (c := 97) (w := [110, 100]) (s := 32) (r := r) (by decide) (by decide) (by decide) (.inr (by decide))
    rw [if_pos (by decide)] at this
    exact this
  all_goals rfl
theorem sepK_skip (c : Nat) {l : List Nat} (h : skip false l = 0) : skip false (tl (sepK c) ++ l) = (sepK c).length ∧ ∃ x r, tl (sepK c) ++ l = x :: r ∧ Ends x := by
  unfold sepK
  split
  · refine ⟨?_, 32, l, rfl, .inl rfl⟩
    show skip false (32 :: l) = 1
    rw [skip_blank (by decide), h]
  · refine ⟨?_, 10, 32 :: l, rfl, .inr (.inl rfl)⟩
    show skip false (10 :: 32 :: l) = 2
    rw [skip_blank (by decide), skip_blank (by decide), h]
theorem lex_rest : ∀ (cs : List Nat) (off : Nat) (cmp : Bool), (∃ x r, txR cmp cs ++ [59] = x :: r ∧ Ends x) ∧
    LexTo (off + skip false (txR cmp cs ++ [59])) ((txR cmp cs ++ [59]).drop (skip false (txR cmp cs ++ [59]))) (flat (its off cmp cs) ++ [(.sign ";", off + (txR cmp cs).length)]) (off + (txR cmp cs).length + 1) []
  | [], off, cmp => ⟨⟨59, [], rfl, .inr (.inr rfl)⟩, by
    have h := lex_last (i := off) (l := [59]) (l2 := []) (t := .sign ";") (n := 1) rfl rfl
    exact h⟩
  | c :: cs, off, cmp => by
    obtain ⟨⟨x, r, ex, hx⟩, ih⟩ := lex_rest cs (off + (sepK c).length + (sgOf cmp c).length + 1 + (opL c).length) (nextC cmp (sgOf cmp c))
    have eT : txR cmp (c :: cs) ++ [59] = tl (sepK c) ++ (tl (sgOf cmp c) ++ (32 :: (opL c ++ (txR (nextC cmp (sgOf cmp c)) cs ++ [59])))) := by
      simp [txR]
    have eL : (txR cmp (c :: cs)).length = (sepK c).length + (sgOf cmp c).length + 1 + (opL c).length + (txR (nextC cmp (sgOf cmp c)) cs).length := by
      show (tl (sepK c) ++ (tl (sgOf cmp c) ++ (32 :: (opL c ++ txR (nextC cmp (sgOf cmp c)) cs)))).length = _
      rw [List.length_append, List.length_append, List.length_cons, List.length_append, ← len_tl, ← len_tl]
      omega
    rw [eT, eL, ex]
    have et := tok_sg (opL c ++ x :: r) (sgOf cmp c) (sgOf_mem cmp c)
    obtain ⟨hk, hh⟩ := sepK_skip c (tok_noskip et)
    refine ⟨hh, ?_⟩
    rw [hk]
    have ed : (tl (sepK c) ++ (tl (sgOf cmp c) ++ 32 :: (opL c ++ x :: r))).drop (sepK c).length = tl (sgOf cmp c) ++ 32 :: (opL c ++ x :: r) := by
      rw [len_tl, List.drop_left]
    rw [ed]
    obtain ⟨ho1, ho2⟩ := lex_op c (off + (sepK c).length + (sgOf cmp c).length + 1) r hx
    have ed2 : (tl (sgOf cmp c) ++ 32 :: (opL c ++ x :: r)).drop (sgOf cmp c).length = 32 :: (opL c ++ x :: r) := by
      rw [len_tl, List.drop_left]
    have hsk : skip false (32 :: (opL c ++ x :: r)) = 1 := by
      rw [skip_blank (by decide), ho1]
    rw [ex] at ih
    have h3 := LexTo.trans ho2 ih
    have h4 : LexTo (off + (sepK c).length) (tl (sgOf cmp c) ++ 32 :: (opL c ++ x :: r)) ((sgTok (sgOf cmp c), off + (sepK c).length) :: (opT c (off + (sepK c).length + (sgOf cmp c).length + 1) ++
        (flat (its (off + (sepK c).length + (sgOf cmp c).length + 1 + (opL c).length) (nextC cmp (sgOf cmp c)) cs) ++ [(.sign ";", off + (sepK c).length + (sgOf cmp c).length + 1 + (opL c).length + (txR (nextC cmp (sgOf cmp c)) cs).length)])))
        (off + (sepK c).length + (sgOf cmp c).length + 1 + (opL c).length + (txR (nextC cmp (sgOf cmp c)) cs).length + 1) [] := by
      refine .step et ?_
      rw [ed2, hsk]
      exact h3
    have e5 : flat (its off cmp (c :: cs)) = (sgTok (sgOf cmp c), off + (sepK c).length) :: opT c (off + (sepK c).length + (sgOf cmp c).length + 1) ++
        flat (its (off + (sepK c).length + (sgOf cmp c).length + 1 + (opL c).length) (nextC cmp (sgOf cmp c)) cs) := rfl
    rw [e5]
    have e6 : off + ((sepK c).length + (sgOf cmp c).length + 1 + (opL c).length + (txR (nextC cmp (sgOf cmp c)) cs).length) = off + (sepK c).length + (sgOf cmp c).length + 1 + (opL c).length + (txR (nextC cmp (sgOf cmp c)) cs).length := by omega
    rw [e6]
    simpa using h4
/-- the whole text, its tokens -/
def txt2 (c : Nat) (cs : List Nat) : List Nat := tl ("show " : Str) ++ (opL c ++ txR false cs)
def toks2 (c : Nat) (cs : List Nat) : List (Tkn × Nat) := (.word "show", 0) :: (opT c 5 ++ flat (its (5 + (opL c).length) false cs) ++ [(.sign ";", (txt2 c cs).length)])
theorem lex_all (c : Nat) (cs : List Nat) : skip false (txt2 c cs ++ [59]) = 0 ∧ ∃ j, LexTo 0 (txt2 c cs ++ [59]) (toks2 c cs) j [] := by
  obtain ⟨⟨x, r, ex, hx⟩, hl⟩ := lex_rest cs (5 + (opL c).length) false
  have eT : txt2 c cs ++ [59] = tl ("show" : Str) ++ 32 :: (opL c ++ x :: r) := by
    rw [← ex]
    unfold txt2
    have : tl ("show " : Str) = tl ("show" : Str) ++ [32] := rfl
    rw [this]
    simp
  rw [eT]
  have et : tokAt (tl ("show" : Str) ++ 32 :: (opL c ++ x :: r)) = some (.word "show", 4) := by
    have := tok_word (c := 115) (w := [104, 111, 119]) (s := 32) (r := opL c ++ x :: r) (by decide) (by decide) (by decide) (.inr (by decide))
    rw [if_pos (by decide)] at this
    exact this
  refine ⟨tok_noskip et, 5 + (opL c).length + (txR false cs).length + 1, ?_⟩
  obtain ⟨ho1, ho2⟩ := lex_op c 5 r hx
  rw [ex] at hl
  have h3 := LexTo.trans ho2 hl
  have ed : (tl ("show" : Str) ++ 32 :: (opL c ++ x :: r)).drop 4 = 32 :: (opL c ++ x :: r) := rfl
  have hsk : skip false (32 :: (opL c ++ x :: r)) = 1 := by
    rw [skip_blank (by decide), ho1]
  have h4 : LexTo 0 (tl ("show" : Str) ++ 32 :: (opL c ++ x :: r)) ((.word "show", 0) :: (opT c 5 ++ (flat (its (5 + (opL c).length) false cs) ++ [(.sign ";", 5 + (opL c).length + (txR false cs).length)]))) (5 + (opL c).length + (txR false cs).length + 1) [] := by
    refine .step et ?_
    rw [ed, hsk]
    exact h3
  unfold toks2
  have e6 : (txt2 c cs).length = 5 + (opL c).length + (txR false cs).length := by
    unfold txt2
    rw [List.length_append, List.length_append]
    show 5 + _ = _
    omega
  rw [e6]
  simpa using h4
/-! #### parsing -/
theorem parse_all (c : Nat) (cs : List Nat) (n : Nat) (h : cs.length ≤ 9) : parseM (toks2 c cs) n = .ok [.tuple [.str "show", treeM lv0 (opD c 5) (its (5 + (opL c).length) false cs), .none, .int ((0 : Nat) : Int)]] := by
  generalize hL : its (5 + (opL c).length) false cs = L
  have hlen : L.length ≤ 9 := by rw [← hL, its_len]; exact h
  have h1 : one false L = true := by rw [← hL]; exact its_one _ _ _
  have hm : ∀ t ∈ L, t.s ∈ (["or", "and", "<", "<=", "==", "+", "-", "*", "/"] : List Str) ∧ ∃ c i, t.d = opD c i ∧ t.ts = opT c i := by rw [← hL]; exact its_mem _ _ _
  have htk : toks2 c cs = (.word "show", 0) :: (opT c 5 ++ flat L ++ [(.sign ";", (txt2 c cs).length)]) := by
    unfold toks2
    rw [hL]
  generalize (txt2 c cs).length = e at htk
  generalize toks2 c cs = all at htk
  have hat0 : At all 0 ((.word "show", 0) :: (opT c 5 ++ flat L ++ [(.sign ";", e)])) := htk
  have hat1 := hat0.next
  have hsh : ∀ v : Str, (["show"] : List Str).any (· == v) = false → seesB all [v] 0 = false := fun v hv => by
    rw [hat0.sees]
    show ([v].any (· == ("show" : Str))) = false
    simp only [List.any_cons, List.any_nil, Bool.or_false] at hv ⊢
    rw [beq_eq_false_iff_ne] at hv ⊢
    exact fun q => hv q.symm
  have hx : exprTop all n 1 = .ok (treeM lv0 (opD c 5) L, 1 + ((opT c 5).length + (flat L).length)) := by
    refine lev_expr (all := all) (n := n) (E := exprN all n 23) (B := 4) (by decide) 24 1 (opD c 5) (opT c 5) L [(.sign ";", e)] hat1 (fun t ht => ?_) (good_op (E' := exprN all n 22)) (fun t ht => ?_) (by omega) ⟨_, _, rfl, by dsimp only; decide⟩ h1
    · have h2 : ∀ s ∈ (["or", "and", "<", "<=", "==", "+", "-", "*", "/"] : List Str), (lv0.flatten).any (· == s) = true := by decide
      exact h2 _ (hm t ht).1
    · obtain ⟨_, c', i, e1, e2⟩ := hm t ht
      rw [e1, e2]
      exact good_op (E' := exprN all n 22)
  have hat2 : At all (1 + ((opT c 5).length + (flat L).length)) [(.sign ";", e)] := by
    have := At.app hat1
    rw [List.length_append] at this
    exact this
  have hall : all.length = 1 + ((opT c 5).length + (flat L).length) + 1 := by
    rw [htk]
    simp
    omega
  have hline : lineM all n 0 = .ok (.tuple [.str "show", treeM lv0 (opD c 5) L, .none, .int ((0 : Nat) : Int)], 1 + ((opT c 5).length + (flat L).length) + 1) := by
    unfold lineM
    rw [if_neg (by rw [hsh "base" (by decide)]; exact Bool.false_ne_true), if_neg (by rw [hsh "unit" (by decide)]; exact Bool.false_ne_true), if_neg (by rw [hsh "fun" (by decide)]; exact Bool.false_ne_true)]
    unfold expectS
    rw [if_pos (by rw [hat0.sees]; dsimp only; decide)]
    show bindR (showM all n (wh all n 0) 1) _ = _
    rw [hat0.wh]
    unfold showM
    rw [hx]
    show bindR (bindR (if seesB all ["in"] (1 + ((opT c 5).length + (flat L).length)) = true then _ else _) _) _ = _
    rw [if_neg (by rw [hat2.sees]; dsimp only; decide)]
    show (bindR (if seesB all [";"] (1 + ((opT c 5).length + (flat L).length)) = true then _ else _) _) = _
    rw [if_pos (by rw [hat2.sees]; dsimp only; decide)]
    rfl
  unfold parseM
  rw [hall]
  unfold linesL
  rw [if_neg (by omega), hline]
  dsimp only
  unfold linesL
  rw [if_pos hall.symm]
  rfl
end Px

/-! ### groups of parts and signs, as lists of the heap -/
namespace Px
open PySem PySem.Spec PyProof.Rows L2 Ly Lx TL Lw
inductive A2 {α : Type} (R : V → α → Prop) : List V → List α → Prop
  | nil : A2 R [] []
  | cons {x : V} {y : α} {xs : List V} {ys : List α} : R x y → A2 R xs ys → A2 R (x :: xs) (y :: ys)
section
variable {α : Type} {R R' : V → α → Prop}
theorem A2.mono (h : ∀ x y, R x y → R' x y) : ∀ {xs : List V} {ys : List α}, A2 R xs ys → A2 R' xs ys
  | _, _, .nil => .nil
  | _, _, .cons r t => .cons (h _ _ r) (t.mono h)
theorem A2.len : ∀ {xs : List V} {ys : List α}, A2 R xs ys → xs.length = ys.length
  | _, _, .nil => rfl
  | _, _, .cons _ t => by rw [List.length_cons, List.length_cons, t.len]
theorem A2.append : ∀ {xs : List V} {ys : List α} {us : List V} {vs : List α}, A2 R xs ys → A2 R us vs → A2 R (xs ++ us) (ys ++ vs)
  | _, _, _, _, .nil, h => h
  | _, _, _, _, .cons r t, h => .cons r (t.append h)
theorem A2.get : ∀ {xs : List V} {ys : List α} {k : Nat} {y : α}, A2 R xs ys → ys[k]? = some y → ∃ x, xs[k]? = some x ∧ R x y
  | _, _, 0, y, .cons r _, e => by
    have := Option.some.inj e
    subst this
    exact ⟨_, rfl, r⟩
  | _, _, k + 1, y, .cons _ t, e => by
    obtain ⟨x, h1, h2⟩ := A2.get (k := k) (y := y) t (by simpa using e)
    exact ⟨x, by simpa using h1, h2⟩
  | _, _, _, _, .nil, e => by simp at e
theorem A2.snoc_inv : ∀ {xs : List V} {ys : List α} {y : α}, A2 R xs (ys ++ [y]) → ∃ xs0 x, xs = xs0 ++ [x] ∧ A2 R xs0 ys ∧ R x y
  | _, [], _, .cons r .nil => ⟨[], _, rfl, .nil, r⟩
  | _, _ :: ys, _, .cons r t => by
    obtain ⟨xs0, x, e, h1, h2⟩ := A2.snoc_inv t
    exact ⟨_ :: xs0, x, by rw [e]; rfl, .cons r h1, h2⟩
end
def SgL (H : Hp) (v : V) (p : Str × Nat) : Prop := ∃ a, v = .ref a ∧ H a = some (.lst [.str p.1, .int (p.2 : Int)])
abbrev sgs (L : List It) : List (Str × Nat) := L.map fun t => (t.s, t.i)
def Sq (K : PySem.W.Frag) (H : Hp) (pa sa : Addr) (d : PyData) (L : List It) : Prop := ∃ vs ss, H pa = some (.lst vs) ∧ DpAll K H vs (d :: L.map It.d) ∧ H sa = some (.lst ss) ∧ A2 (SgL H) ss (sgs L)
def Grp (K : PySem.W.Frag) (H : Hp) (v : V) (p : PyData × List It) : Prop := ∃ a pa sa, v = .ref a ∧ H a = some (.lst [.ref pa, .ref sa]) ∧ Sq K H pa sa p.1 p.2
/-- no lists in the parts -/
def Nd (d : PyData) (L : List It) : Prop := noLs (d :: L.map It.d) = true
section
variable {K : PySem.W.Frag} {H H' : Hp}
theorem SgL.same (s : Same H H') (v : V) (p : Str × Nat) (h : SgL H v p) : SgL H' v p := by
  obtain ⟨a, e, h⟩ := h
  exact ⟨a, e, s _ _ h⟩
theorem Sq.same {pa sa : Addr} {d : PyData} {L : List It} (s : Same H H') (n : Nd d L) (h : Sq K H pa sa d L) : Sq K H' pa sa d L := by
  obtain ⟨vs, ss, h1, h2, h3, h4⟩ := h
  exact ⟨vs, ss, s _ _ h1, dps_keep (sqt_same s) _ _ n h2, s _ _ h3, h4.mono (SgL.same s)⟩
theorem Grp.same (s : Same H H') {v : V} {p : PyData × List It} (n : Nd p.1 p.2) (h : Grp K H v p) : Grp K H' v p := by
  obtain ⟨a, pa, sa, e, h1, h2⟩ := h
  exact ⟨a, pa, sa, e, s _ _ h1, h2.same s n⟩
theorem grps_same (s : Same H H') : ∀ {vs : List V} {ps : List (PyData × List It)}, (∀ p ∈ ps, Nd p.1 p.2) → A2 (Grp K H) vs ps → A2 (Grp K H') vs ps
  | _, _, _, .nil => .nil
  | _, _, n, .cons r t => .cons (Grp.same s (n _ List.mem_cons_self) r) (grps_same s (fun p hp => n p (List.mem_cons_of_mem _ hp)) t)
/-- two lists of the def are not looked at -/
def hide (g f : Addr) (H : Hp) : Hp := fun b => if b = g ∨ b = f then none else H b
theorem hide_same (g f : Addr) (H : Hp) : Same (hide g f H) H := fun b o e => by
  unfold hide at e
  split at e
  · cases e
  · exact e
theorem hide_g {g f : Addr} {H : Hp} {o : HO} : hide g f (upd H g o) = hide g f H := by
  funext b
  unfold hide
  split
  · rfl
  · rename_i h
    exact upd_ne (fun e => h (.inl e))
theorem hide_f {g f : Addr} {H : Hp} {o : HO} : hide g f (upd H f o) = hide g f H := by
  funext b
  unfold hide
  split
  · rfl
  · rename_i h
    exact upd_ne (fun e => h (.inr e))
theorem hide_new {g f p : Addr} {H : Hp} {o : HO} (n : H p = none) (hg : H g ≠ none) (hf : H f ≠ none) : hide g f (upd H p o) = upd (hide g f H) p o ∧ hide g f H p = none := by
  have h1 : p ≠ g := fun e => hg (e ▸ n)
  have h2 : p ≠ f := fun e => hf (e ▸ n)
  constructor
  · funext b
    by_cases hb : b = p
    · subst hb
      rw [upd_same]
      unfold hide
      rw [if_neg (by rintro (e | e) <;> contradiction), upd_same]
    · rw [upd_ne hb]
      unfold hide
      rw [upd_ne hb]
  · unfold hide
    rw [if_neg (by rintro (e | e) <;> contradiction)]
    exact n
theorem hide_step {g f p : Addr} {H : Hp} {o : HO} (n : H p = none) : Same (hide g f H) (hide g f (upd H p o)) := fun b x e => by
  unfold hide at e ⊢
  split at e
  · cases e
  · rename_i h
    rw [if_neg h, upd_ne (ne_of_none e n)]
    exact e
theorem hide_get {g f b : Addr} {H : Hp} {o : HO} (e : H b = some o) (h1 : b ≠ g) (h2 : b ≠ f) : hide g f H b = some o := by
  unfold hide
  rw [if_neg (by rintro (h | h) <;> contradiction)]
  exact e
theorem hide_mono {g f : Addr} {H H' : Hp} (s : Same H H') : Same (hide g f H) (hide g f H') := fun b x e => by
  unfold hide at e ⊢
  split at e
  · cases e
  · rename_i h
    rw [if_neg h]
    exact s _ _ e
theorem sqt_hide {K : PySem.W.Frag} {g f : Addr} {H : Hp} {ys zs : List V} (hg : H g = some (.lst ys)) (hf : H f = some (.lst zs)) (a : Addr) (xs : List V) (h : SqT K H a xs) : SqT K (hide g f H) a xs := by
  rcases h with (h | ⟨o, h⟩) | h
  · exact .inl (.inl (hide_get h (ne_of h hg (by intro z; cases z)) (ne_of h hf (by intro z; cases z))))
  · exact .inl (.inr ⟨o, hide_get h (ne_of h hg (by intro z; cases z)) (ne_of h hf (by intro z; cases z))⟩)
  · exact .inr h
theorem noLs_map {α : Type} {f : α → PyData} : ∀ {l : List α}, (∀ x ∈ l, noL (f x) = true) → noLs (l.map f) = true
  | [], _ => rfl
  | x :: l, h => by
    show (noL (f x) && noLs (l.map f)) = true
    rw [h x List.mem_cons_self, noLs_map fun y hy => h y (List.mem_cons_of_mem _ hy)]
    rfl
theorem hide_keep {g f : Addr} {H0 H : Hp} (s : Same H0 H) (hg : H0 g = none) (hf : H0 f = none) : Same H0 (hide g f H) := fun b o e => by
  unfold hide
  rw [if_neg (by rintro (h | h) <;> subst h <;> simp_all)]
  exact s _ _ e
end
/-! #### grouping from left to right -/
def gst (ws : List Str) (d : PyData) (L : List It) : List (PyData × List It) := (d, (dec ws L).1) :: (dec ws L).2.map fun p => (p.1.d, p.2)
def fnd (ws : List Str) (L : List It) : List It := (dec ws L).2.map (·.1)
def snocG (t : It) : List (PyData × List It) → List (PyData × List It)
  | [] => []
  | [p] => [(p.1, p.2 ++ [t])]
  | p :: q :: r => p :: snocG t (q :: r)
theorem snocG_end (t : It) (p : PyData × List It) : ∀ ps : List (PyData × List It), snocG t (ps ++ [p]) = ps ++ [(p.1, p.2 ++ [t])]
  | [] => rfl
  | [q] => rfl
  | q :: r :: ps => by
    show q :: snocG t (r :: ps ++ [p]) = _
    rw [snocG_end t p (r :: ps)]
    rfl
theorem dec_yes {ws : List Str} {t : It} (h : ws.any (· == t.s) = true) (l : List It) : dec ws (t :: l) = ([], (t, (dec ws l).1) :: (dec ws l).2) := by
  show (if _ then _ else _) = _
  rw [if_pos h]
theorem dec_no {ws : List Str} {t : It} (h : ¬ ws.any (· == t.s) = true) (l : List It) : dec ws (t :: l) = (t :: (dec ws l).1, (dec ws l).2) := by
  show (if _ then _ else _) = _
  rw [if_neg h]
theorem gst_yes {ws : List Str} {t : It} (h : ws.any (· == t.s) = true) : ∀ (L : List It) (d : PyData), gst ws d (L ++ [t]) = gst ws d L ++ [(t.d, [])] ∧ fnd ws (L ++ [t]) = fnd ws L ++ [t]
  | [], d => by
    simp only [gst, fnd]
    rw [List.nil_append, dec_yes h]
    exact ⟨rfl, rfl⟩
  | u :: L, d => by
    obtain ⟨h1, h2⟩ := gst_yes h L u.d
    simp only [gst, fnd] at h1 h2 ⊢
    by_cases hu : ws.any (· == u.s) = true
    · rw [List.cons_append, dec_yes hu, dec_yes hu]
      simp only [List.map_cons]
      constructor
      · rw [h1]
        rfl
      · rw [h2]
        rfl
    · rw [List.cons_append, dec_no hu, dec_no hu]
      dsimp only
      rw [List.cons_append, List.cons.injEq] at h1
      refine ⟨?_, h2⟩
      rw [List.cons_append, h1.2, (Prod.mk.inj h1.1).2]
theorem gst_no {ws : List Str} {t : It} (h : ¬ ws.any (· == t.s) = true) : ∀ (L : List It) (d : PyData), gst ws d (L ++ [t]) = snocG t (gst ws d L) ∧ fnd ws (L ++ [t]) = fnd ws L
  | [], d => by
    simp only [gst, fnd]
    rw [List.nil_append, dec_no h]
    exact ⟨rfl, rfl⟩
  | u :: L, d => by
    by_cases hu : ws.any (· == u.s) = true
    · obtain ⟨h1, h2⟩ := gst_no h L u.d
      simp only [gst, fnd] at h1 h2 ⊢
      rw [List.cons_append, dec_yes hu, dec_yes hu]
      simp only [List.map_cons]
      constructor
      · rw [h1]
        rfl
      · rw [h2]
    · obtain ⟨h1, h2⟩ := gst_no h L d
      simp only [gst, fnd] at h1 h2 ⊢
      rw [List.cons_append, dec_no hu, dec_no hu]
      dsimp only
      refine ⟨?_, h2⟩
      revert h1
      cases hG : (dec ws L).2.map (fun p => (p.1.d, p.2)) with
      | nil =>
        intro h1
        simp only [snocG, List.cons.injEq] at h1 ⊢
        exact ⟨by rw [(Prod.mk.inj h1.1).2]; rfl, h1.2⟩
      | cons q r =>
        intro h1
        simp only [snocG, List.cons.injEq] at h1 ⊢
        exact ⟨by rw [(Prod.mk.inj h1.1).2], h1.2⟩
theorem gst_len (ws : List Str) (d : PyData) : ∀ L : List It, (gst ws d L).length ≤ L.length + 1 ∧ (fnd ws L).length ≤ L.length
  | [] => ⟨Nat.le_refl _, Nat.le_refl _⟩
  | u :: L => by
    obtain ⟨h1, h2⟩ := gst_len ws d L
    simp only [gst, fnd] at h1 h2 ⊢
    by_cases hu : ws.any (· == u.s) = true
    · rw [dec_yes hu]
      simp only [List.length_cons, List.length_map] at h1 h2 ⊢
      omega
    · rw [dec_no hu]
      simp only [List.length_cons, List.length_map] at h1 h2 ⊢
      omega
theorem gst_sub (ws : List Str) : ∀ (L : List It) (d : PyData), ∀ p ∈ gst ws d L, p.2.length ≤ L.length
  | [], d, p, hp => by
    have : p = (d, []) := by simpa [gst, dec] using hp
    subst this
    exact Nat.le_refl _
  | u :: L, d, p, hp => by
    by_cases hu : ws.any (· == u.s) = true
    · have e : gst ws d (u :: L) = (d, []) :: gst ws u.d L := by
        unfold gst
        rw [dec_yes hu]
        rfl
      rw [e] at hp
      rcases List.mem_cons.mp hp with q | q
      · subst q
        exact Nat.zero_le _
      · exact Nat.le_succ_of_le (gst_sub ws L u.d p q)
    · have e : gst ws d (u :: L) = (d, u :: (dec ws L).1) :: (dec ws L).2.map fun p => (p.1.d, p.2) := by
        unfold gst
        rw [dec_no hu]
      rw [e] at hp
      have ih := gst_sub ws L d
      rcases List.mem_cons.mp hp with q | q
      · subst q
        exact Nat.succ_le_succ (ih (d, (dec ws L).1) (by unfold gst; exact List.mem_cons_self))
      · exact Nat.le_succ_of_le (ih p (by unfold gst; exact List.mem_cons_of_mem _ q))
theorem nd_cons {d : PyData} {t : It} {L : List It} (h : Nd d (t :: L)) : noL d = true ∧ noL t.d = true ∧ Nd d L := by
  have h' : (noL d && (noL t.d && noLs (L.map It.d))) = true := h
  simp only [Bool.and_eq_true] at h'
  refine ⟨h'.1, h'.2.1, ?_⟩
  show (noL d && noLs (L.map It.d)) = true
  rw [h'.1, h'.2.2]
  rfl
theorem gst_nd (ws : List Str) : ∀ (L : List It) (d : PyData), Nd d L → ∀ p ∈ gst ws d L, Nd p.1 p.2
  | [], d, h, p, hp => by
    have : p = (d, []) := by simpa [gst, dec] using hp
    subst this
    exact h
  | u :: L, d, h, p, hp => by
    obtain ⟨hd, hu0, hL⟩ := nd_cons h
    have hu' : Nd u.d L := by
      have : (noL d && noLs (L.map It.d)) = true := hL
      rw [Bool.and_eq_true] at this
      show (noL u.d && noLs (L.map It.d)) = true
      rw [hu0, this.2]
      rfl
    by_cases hu : ws.any (· == u.s) = true
    · have e : gst ws d (u :: L) = (d, []) :: gst ws u.d L := by
        unfold gst
        rw [dec_yes hu]
        rfl
      rw [e] at hp
      rcases List.mem_cons.mp hp with q | q
      · subst q
        show (noL d && true) = true
        rw [hd]
        rfl
      · exact gst_nd ws L u.d hu' p q
    · have e : gst ws d (u :: L) = (d, u :: (dec ws L).1) :: (dec ws L).2.map fun p => (p.1.d, p.2) := by
        unfold gst
        rw [dec_no hu]
      rw [e] at hp
      have ih := gst_nd ws L d hL
      rcases List.mem_cons.mp hp with q | q
      · subst q
        have h1 := ih (d, (dec ws L).1) (by unfold gst; exact List.mem_cons_self)
        have h1' : (noL d && noLs ((dec ws L).1.map It.d)) = true := h1
        rw [Bool.and_eq_true] at h1'
        show (noL d && (noL u.d && noLs ((dec ws L).1.map It.d))) = true
        rw [hd, hu0, h1'.2]
        rfl
      · exact ih p (by unfold gst; exact List.mem_cons_of_mem _ q)
end Px

/-! ### the text of the tree is short -/
namespace Px
open PySem PySem.Spec PyProof.Rows L2 Ly Lx TL Lw
structure Sm (d : PyData) (b h : Nat) : Prop where
  sh : d.showable = true
  nd : d.hasDict = false
  lv : d.leavesShort 20 = true
  bk : d.bulk ≤ b
  dp : d.depth ≤ h
theorem sm_int {i : Int} (h : i.natAbs < 100000000) : i.natAbs.log2 < 1920 ∧ (PyData.int i).leavesShort 20 = true := by
  constructor
  · by_cases h0 : i.natAbs = 0
    · rw [h0]
      decide
    · have : i.natAbs.log2 < 40 := (Nat.log2_lt h0).mpr (by omega)
      omega
  · simp only [PyData.leavesShort, decide_eq_true_eq]
    have := PyData.shown_int_le2 (i := i) (by omega) (by omega)
    omega
theorem sm_i {i : Int} (h : i.natAbs < 100000000) : Sm (.int i) 0 0 := by
  obtain ⟨h1, h2⟩ := sm_int h
  exact ⟨by simpa [PyData.showable] using h1, rfl, h2, by simp [PyData.bulk], by simp [PyData.depth]⟩
theorem sm_s {w : Str} {B : Nat} (hl : w.length ≤ B) (hc : ∀ c ∈ tl w, c < 128) : Sm (.str w) B 0 := by
  refine ⟨rfl, rfl, ?_, hl, by simp [PyData.depth]⟩
  simp only [PyData.leavesShort, List.all_eq_true, decide_eq_true_eq]
  intro c h
  have := hc c h
  omega
structure SmA (ds : List PyData) (b h : Nat) : Prop where
  sh : PyData.showableAll ds = true
  nd : PyData.hasDictAll ds = false
  lv : PyData.leavesShortAll 20 ds = true
  bk : PyData.bulkAll ds ≤ b
  dp : PyData.depthAll ds ≤ h
theorem SmA.nil {h : Nat} : SmA [] 0 h := ⟨by simp [PyData.showableAll], by simp [PyData.hasDictAll], by simp [PyData.leavesShortAll], by simp [PyData.bulkAll], by simp [PyData.depthAll]⟩
theorem SmA.cons {d : PyData} {ds : List PyData} {b b' h h' : Nat} (x : Sm d b h) (y : SmA ds b' h') : SmA (d :: ds) (b + b' + 1) (max h h') := by
  have h1 := x.bk
  have h2 := y.bk
  have h3 := x.dp
  have h4 := y.dp
  refine ⟨by simp only [PyData.showableAll, x.sh, y.sh, Bool.and_self], by simp only [PyData.hasDictAll, x.nd, y.nd, Bool.or_self], by simp only [PyData.leavesShortAll, x.lv, y.lv, Bool.and_self], ?_, ?_⟩
  · simp only [PyData.bulkAll]
    omega
  · simp only [PyData.depthAll]
    omega
theorem SmA.tup {ds : List PyData} {b h : Nat} (x : SmA ds b h) : Sm (.tuple ds) (b + 2) (h + 1) := by
  have h1 := x.bk
  have h2 := x.dp
  refine ⟨by simpa only [PyData.showable] using x.sh, by simpa only [PyData.hasDict] using x.nd, by simpa only [PyData.leavesShort] using x.lv, ?_, ?_⟩
  · simp only [PyData.bulk]
    omega
  · simp only [PyData.depth]
    omega
theorem SmA.lst {ds : List PyData} {b h : Nat} (x : SmA ds b h) : Sm (.list ds) (b + 2) (h + 1) := by
  have h1 := x.bk
  have h2 := x.dp
  refine ⟨by simpa only [PyData.showable] using x.sh, by simpa only [PyData.hasDict] using x.nd, by simpa only [PyData.leavesShort] using x.lv, ?_, ?_⟩
  · simp only [PyData.bulk]
    omega
  · simp only [PyData.depth]
    omega
theorem Sm.mono {d : PyData} {b b' h h' : Nat} (x : Sm d b h) (hb : b ≤ b') (hh : h ≤ h') : Sm d b' h' := ⟨x.sh, x.nd, x.lv, Nat.le_trans x.bk hb, Nat.le_trans x.dp hh⟩
theorem sm_node {op : Str} {e t : PyData} {b1 b2 h1 h2 i : Nat} (ho : op.length ≤ 6) (hc : ∀ c ∈ tl op, c < 128) (he : Sm e b1 h1) (ht : Sm t b2 h2) (hi : i < 100000) : Sm (node op e t i) (b1 + b2 + 30) (max h1 h2 + 1) :=
  (SmA.tup (.cons (sm_s ho hc) (.cons he (.cons ht (.cons (sm_i (i := (i : Int)) (by omega)) (SmA.nil (h := 0))))))).mono (by omega) (by omega)
theorem sm_op {c i : Nat} (hi : i < 90000) : Sm (opD c i) 60 4 := by
  have hv : opVal c < 1000 := Nat.mod_lt _ (by decide)
  have si : ∀ k : Nat, k < 100000 → Sm (.int (k : Int)) 0 0 := fun k hk => sm_i (by omega)
  have sv : ∀ (w : Str) (k : Nat), w.length ≤ 1 → (∀ c ∈ tl w, c < 128) → k < 100000 → Sm (varD w k) 12 1 := fun w k h1 h2 hk =>
    (SmA.tup (.cons (sm_s (w := "var") (B := 3) (by decide) (by decide)) (.cons (sm_s h1 h2) (.cons (si k hk) (SmA.nil (h := 0)))))).mono (by omega) (by omega)
  unfold opD
  split
  · exact (SmA.tup (.cons (sm_s (w := "number") (B := 6) (by decide) (by decide)) (.cons (SmA.tup (.cons (si _ (by omega)) (.cons (si 1 (by omega)) (SmA.nil (h := 0))))) (.cons (SmA.tup (SmA.nil (h := 0))) (.cons (si i (by omega)) (SmA.nil (h := 0))))))).mono (by omega) (by omega)
  · split
    · exact (SmA.tup (.cons (sm_s (w := "call") (B := 4) (by decide) (by decide)) (.cons (sm_s (w := "f") (B := 1) (by decide) (by decide)) (.cons (SmA.tup (.cons (sv "y" _ (by decide) (by decide) (by omega)) (SmA.nil (h := 0)))) (.cons (si i (by omega)) (SmA.nil (h := 0))))))).mono (by omega) (by omega)
    · split
      · exact (SmA.tup (.cons (sm_s (w := "power") (B := 5) (by decide) (by decide)) (.cons (SmA.tup (.cons (sm_s (w := "power") (B := 5) (by decide) (by decide)) (.cons (sv "x" i (by decide) (by decide) (by omega)) (.cons (si 2 (by omega)) (.cons (si (i + 1) (by omega)) (SmA.nil (h := 0))))))
          ) (.cons (sm_i (i := -3) (by decide)) (.cons (si (i + 3) (by omega)) (SmA.nil (h := 0))))))).mono (by omega) (by omega)
      · exact (sv "x" i (by decide) (by decide) (by omega)).mono (by omega) (by omega)
abbrev OkIt (t : It) : Prop := Sm t.d 60 4 ∧ t.s ∈ (["or", "and", "<", "<=", "==", "+", "-", "*", "/"] : List Str) ∧ t.i < 100000
theorem op_short : ∀ s ∈ (["or", "and", "<", "<=", "==", "+", "-", "*", "/"] : List Str), (opName s).length ≤ 6 ∧ ∀ c ∈ tl (opName s), c < 128 := by decide
theorem sm_fold {lv : List (List Str)} (hl : ∀ d L, Sm d 60 4 → (∀ t ∈ L, OkIt t) → Sm (treeM lv d L) (60 + 90 * L.length) (4 + L.length)) : ∀ (G : List (It × List It)) (e : PyData) (b h : Nat), Sm e b h → 4 ≤ h → (∀ t ∈ flatG G, OkIt t) →
    Sm (G.foldl (fun e p => node (opName p.1.s) e (treeM lv p.1.d p.2) p.1.i) e) (b + 90 * (flatG G).length) (h + (flatG G).length)
  | [], e, b, h, he, _, _ => he
  | (t, g) :: G, e, b, h, he, hh, hG => by
    have e1 : flatG ((t, g) :: G) = t :: g ++ flatG G := rfl
    rw [e1] at hG ⊢
    have ht := hG t (by simp)
    have hg := hl t.d g ht.1 fun u hu => hG u (by simp [hu])
    obtain ⟨o1, o2⟩ := op_short _ ht.2.1
    have hn := sm_node (op := opName t.s) o1 o2 he hg ht.2.2
    have := sm_fold hl G _ _ (h + 1 + g.length) (hn.mono (Nat.le_refl _) (by omega)) (by omega) fun u hu => hG u (by simp [hu])
    refine this.mono ?_ ?_
    · simp only [List.length_append, List.length_cons]
      omega
    · simp only [List.length_append, List.length_cons]
      omega
theorem sm_tree : ∀ (lv : List (List Str)) (d : PyData) (L : List It), Sm d 60 4 → (∀ t ∈ L, OkIt t) → Sm (treeM lv d L) (60 + 90 * L.length) (4 + L.length)
  | [], d, L, h, _ => h.mono (by omega) (by omega)
  | ws :: lv, d, L, h, hL => by
    have ef := dec_flat ws L
    have hlen : (dec ws L).1.length + (flatG (dec ws L).2).length = L.length := by rw [← List.length_append, ef]
    have h1 := sm_tree lv d (dec ws L).1 h fun t ht => hL t (by rw [← ef]; exact List.mem_append_left _ ht)
    have h2 := sm_fold (sm_tree lv) (dec ws L).2 _ _ _ h1 (by omega) fun t ht => hL t (by rw [← ef]; exact List.mem_append_right _ ht)
    unfold treeM
    exact h2.mono (by omega) (by omega)
theorem its_ok : ∀ (cs : List Nat) (off : Nat) (cmp : Bool), off + 20 * cs.length < 80000 → ∀ t ∈ its off cmp cs, OkIt t
  | [], _, _, _, t, h => by simp [its] at h
  | c :: cs, off, cmp, hb, t, h => by
    have h1 : (sepK c).length ≤ 2 := by
      unfold sepK
      split <;> decide
    have h2 : (sgOf cmp c).length ≤ 3 := by
      have h := sgOf_mem cmp c
      have h2 : ∀ s ∈ (["or", "and", "<", "<=", "==", "+", "-", "*", "/"] : List Str), s.length ≤ 3 := by decide
      exact h2 _ h
    have h3 : (opL c).length ≤ 6 := by
      unfold opL
      split
      · have h1 := numL_len (k := 3) (by decide) (n := opVal c) (opVal_lt c)
        omega
      · split
        · decide
        · split <;> decide
    rw [List.length_cons] at hb
    unfold its at h
    rcases List.mem_cons.mp h with e | e
    · subst e
      exact ⟨sm_op (by omega), sgOf_mem cmp c, by show off + _ < _; omega⟩
    · exact its_ok cs _ _ (by omega) t e
theorem sm_all (c : Nat) (cs : List Nat) (h : cs.length ≤ 9) : Sm (.list [.tuple [.str "show", treeM lv0 (opD c 5) (its (5 + (opL c).length) false cs), .none, .int ((0 : Nat) : Int)]]) 1000 20 := by
  have h3 : (opL c).length ≤ 6 := by
    unfold opL
    split
    · have h1 := numL_len (k := 3) (by decide) (n := opVal c) (opVal_lt c)
      omega
    · split
      · decide
      · split <;> decide
  have ht := sm_tree lv0 (opD c 5) (its (5 + (opL c).length) false cs) (sm_op (by decide)) (its_ok cs _ _ (by omega))
  rw [its_len] at ht
  have hn : Sm .none 0 0 := ⟨rfl, rfl, by simp [PyData.leavesShort], by simp [PyData.bulk], by simp [PyData.depth]⟩
  exact (SmA.lst (.cons (SmA.tup (.cons (sm_s (w := "show") (B := 4) (by decide) (by decide)) (.cons ht (.cons hn (.cons (sm_i (i := ((0 : Nat) : Int)) (by decide)) (SmA.nil (h := 0))))))) (SmA.nil (h := 0)))).mono (by omega) (by omega)
end Px

/-! ### a word that fits nowhere, put into the tokens -/
namespace Px
open PySem PySem.Spec PyProof.Rows L2 Ly Lx TL
/-- the tokens agree up to p, where nothing is that a def of the parser takes; it is at i -/
structure Ins (all all' : List (Tkn × Nat)) (n' p i : Nat) : Prop where
  eq : ∀ k, k < p → all'[k]? = all[k]?
  see : ∀ ws : List Str, ws.any (· == ("base" : Str)) = false → seesB all' ws p = false
  kd : ∀ kd : Str, (("word" : Str) == kd) = false → kindB all' kd p = false
  wp : wh all' n' p = i
  ew : ∀ g : Nat, expectWhole all' n' g p = .error (.mal i)
  lt : p ≤ all.length
  le : p ≤ all'.length
section
variable {all all' : List (Tkn × Nat)} {n n' p i : Nat}
def St (p i : Nat) (r : Res) : Prop := r = .error (.mal i) ∨ ∃ d, r = .ok (d, p)
def Sim (p i : Nat) (r r' : Res) : Prop := ∀ d k', r = .ok (d, k') → (k' ≤ p → r' = .ok (d, k')) ∧ (p < k' → St p i r')
structure Pr (p i : Nat) (F F' : Nat → Res) : Prop where
  mon : ∀ k d k', F k = .ok (d, k') → k ≤ k'
  sim : ∀ k, k ≤ p → Sim p i (F k) (F' k)
  st : St p i (F' p)
theorem Ins.sees (I : Ins all all' n' p i) {k : Nat} (h : k < p) (ws : List Str) : seesB all' ws k = seesB all ws k := by
  unfold seesB
  rw [I.eq k h]
theorem Ins.seesP (I : Ins all all' n' p i) {ws : List Str} (h : ws.any (· == ("base" : Str)) = false) : seesB all' ws p = false := I.see ws h
theorem Ins.kind (I : Ins all all' n' p i) {k : Nat} (h : k < p) (kd : Str) : kindB all' kd k = kindB all kd k := by
  unfold kindB
  rw [I.eq k h]
theorem Ins.kindP (I : Ins all all' n' p i) {kd : Str} (h : (("word" : Str) == kd) = false) : kindB all' kd p = false := I.kd kd h
theorem Ins.wh (I : Ins all all' n' p i) {k : Nat} (h : k < p) : wh all' n' k = wh all n k := by
  unfold Px.wh
  rw [I.eq k h, List.getElem?_eq_getElem (show k < all.length from Nat.lt_of_lt_of_le h I.lt)]
theorem Ins.whP (I : Ins all all' n' p i) : Px.wh all' n' p = i := I.wp
theorem Ins.tv (I : Ins all all' n' p i) {k : Nat} (h : k < p) : tvAt all' k = tvAt all k := by
  unfold tvAt
  rw [I.eq k h]
theorem Ins.str (I : Ins all all' n' p i) {k : Nat} (h : k < p) : Px.strAt all' k = Px.strAt all k := by
  unfold Px.strAt
  rw [I.eq k h]
theorem sim_bind {r r' : Res} {g g' : PyData → Nat → Res} (h : Sim p i r r') (hg : ∀ d k, r = .ok (d, k) → k ≤ p → Sim p i (g d k) (g' d k)) (hm : ∀ d k d2 k2, r = .ok (d, k) → g d k = .ok (d2, k2) → k ≤ k2)
    (hs : ∀ d', St p i (g' d' p)) : Sim p i (bindR r g) (bindR r' g') := by
  intro d2 k2 e
  match r, h, hg, hm, e with
  | .error _, _, _, _, e => cases e
  | .ok (d, k), h, hg, hm, e =>
    have e' : g d k = .ok (d2, k2) := e
    obtain ⟨h1, h2⟩ := h d k rfl
    by_cases hk : k ≤ p
    · rw [h1 hk]
      exact hg d k rfl hk d2 k2 e'
    · have hk2 := hm d k d2 k2 rfl e'
      refine ⟨fun h => by omega, fun _ => ?_⟩
      rcases h2 (by omega) with e1 | ⟨d', e1⟩
      · rw [e1]
        exact .inl rfl
      · rw [e1]
        exact hs d'
theorem bind_ok {r : Res} {G : PyData → Nat → Res} {d2 : PyData} {k2 : Nat} (e : bindR r G = .ok (d2, k2)) : ∃ d k1, r = .ok (d, k1) ∧ G d k1 = .ok (d2, k2) := by
  cases hr : r with
  | error _ => rw [hr] at e; cases e
  | ok dk =>
    obtain ⟨d, k1⟩ := dk
    rw [hr] at e
    exact ⟨d, k1, rfl, e⟩
theorem St.bind {r : Res} {G : PyData → Nat → Res} (h : St p i r) (hG : ∀ d, St p i (G d p)) : St p i (bindR r G) := by
  rcases h with e | ⟨d', e⟩
  · rw [e]
    exact .inl rfl
  · rw [e]
    exact hG d'
theorem Pr.bnd {F F' : Nat → Res} {G G' : PyData → Nat → Res} (hF : Pr p i F F') (hG : ∀ d, Pr p i (G d) (G' d)) : Pr p i (fun k => bindR (F k) G) (fun k => bindR (F' k) G') := by
  refine ⟨fun k d2 k2 e => ?_, fun k hk => sim_bind (hF.sim k hk) (fun d k1 _ h1 => (hG d).sim k1 h1) (fun d k1 d2 k2 _ e => (hG d).mon _ _ _ e) (fun d' => (hG d').st), hF.st.bind fun d => (hG d).st⟩
  obtain ⟨d, k1, e1, e2⟩ := bind_ok e
  exact Nat.le_trans (hF.mon _ _ _ e1) ((hG d).mon _ _ _ e2)
theorem pr_ret (d : PyData) : Pr p i (fun k => .ok (d, k)) (fun k => .ok (d, k)) := by
  refine ⟨fun k d2 k2 e => ?_, fun k hk d2 k2 e => ?_, .inr ⟨d, rfl⟩⟩
  · cases e
    exact Nat.le_refl _
  · cases e
    exact ⟨fun _ => rfl, fun h => by omega⟩
theorem Pr.ite (I : Ins all all' n' p i) {ws : List Str} {X X' Y Y' : Nat → Res} (hw : ws.any (· == ("base" : Str)) = false) (hX : ∀ k, k < p → Sim p i (X k) (X' k)) (mX : ∀ k d k', X k = .ok (d, k') → k < k') (hY : Pr p i Y Y') :
    Pr p i (fun k => if seesB all ws k = true then X k else Y k) (fun k => if seesB all' ws k = true then X' k else Y' k) := by
  refine ⟨fun k d k' e => ?_, fun k hk => ?_, ?_⟩
  · split at e
    · exact Nat.le_of_lt (mX _ _ _ e)
    · exact hY.mon _ _ _ e
  · by_cases hp : k < p
    · rw [I.sees hp]
      split
      · exact hX k hp
      · exact hY.sim k hk
    · have : k = p := by omega
      subst this
      rw [if_neg (show ¬ seesB all' ws k = true by rw [I.seesP hw]; exact Bool.false_ne_true)]
      split
      · intro d k' e
        exact ⟨fun h => by have := mX _ _ _ e; omega, fun _ => hY.st⟩
      · exact hY.sim k hk
  · rw [if_neg (show ¬ seesB all' ws p = true by rw [I.seesP hw]; exact Bool.false_ne_true)]
    exact hY.st
/-- at one place -/
theorem sim_ite (I : Ins all all' n' p i) {ws : List Str} {k : Nat} {x x' y y' : Res} (hw : ws.any (· == ("base" : Str)) = false) (hk : k ≤ p) (hX : k < p → Sim p i x x') (mX : ∀ d k', x = .ok (d, k') → k < k') (hY : Sim p i y y') (sY : k = p → St p i y') :
    Sim p i (if seesB all ws k = true then x else y) (if seesB all' ws k = true then x' else y') := by
  by_cases hp : k < p
  · rw [I.sees hp]
    split
    · exact hX hp
    · exact hY
  · have e : k = p := by omega
    have hs : ¬ seesB all' ws k = true := by rw [e, I.seesP hw]; exact Bool.false_ne_true
    rw [if_neg hs]
    split
    · intro d k' h
      exact ⟨fun h2 => by have := mX _ _ h; omega, fun _ => sY e⟩
    · exact hY
/-- the branch begins behind the token -/
theorem Pr.itn (I : Ins all all' n' p i) {ws : List Str} {F F' Y Y' : Nat → Res} (hw : ws.any (· == ("base" : Str)) = false) (hF : Pr p i F F') (hY : Pr p i Y Y') :
    Pr p i (fun k => if seesB all ws k = true then F (k + 1) else Y k) (fun k => if seesB all' ws k = true then F' (k + 1) else Y' k) :=
  .ite I hw (fun k hk => hF.sim (k + 1) hk) (fun k d k' e => hF.mon _ _ _ e) hY
theorem pr_expS (I : Ins all all' n' p i) {v : Str} (hv : ([v] : List Str).any (· == ("base" : Str)) = false) : Pr p i (expectS all n v) (expectS all' n' v) := by
  refine ⟨fun k d k' e => ?_, fun k hk d k' e => ?_, ?_⟩
  · unfold expectS at e
    split at e
    · cases e
      exact Nat.le_succ _
    · cases e
  · unfold expectS at e
    split at e
    · rename_i hs
      cases e
      refine ⟨fun h => ?_, fun h => ?_⟩
      · unfold expectS
        rw [I.sees (by omega), if_pos hs]
      · have : k = p := by omega
        subst this
        unfold expectS
        rw [if_neg (show ¬ seesB all' [v] k = true by rw [I.seesP hv]; exact Bool.false_ne_true), I.whP]
        exact .inl rfl
    · cases e
  · unfold expectS
    rw [if_neg (show ¬ seesB all' [v] p = true by rw [I.seesP hv]; exact Bool.false_ne_true), I.whP]
    exact .inl rfl
theorem pr_expK (I : Ins all all' n' p i) {kd : Str} (hv : (("word" : Str) == kd) = false) : Pr p i (expectKind all n kd) (expectKind all' n' kd) := by
  refine ⟨fun k d k' e => ?_, fun k hk d k' e => ?_, ?_⟩
  · unfold expectKind at e
    split at e
    · cases e
      exact Nat.le_succ _
    · cases e
  · unfold expectKind at e
    split at e
    · rename_i hs
      cases e
      refine ⟨fun h => ?_, fun h => ?_⟩
      · unfold expectKind
        rw [I.kind (by omega), if_pos hs, I.tv (by omega)]
      · have : k = p := by omega
        subst this
        unfold expectKind
        rw [if_neg (show ¬ kindB all' kd k = true by rw [I.kindP hv]; exact Bool.false_ne_true), I.whP]
        exact .inl rfl
    · cases e
  · unfold expectKind
    rw [if_neg (show ¬ kindB all' kd p = true by rw [I.kindP hv]; exact Bool.false_ne_true), I.whP]
    exact .inl rfl
theorem pr_whole (I : Ins all all' n' p i) {g : Nat} : Pr p i (expectWhole all n g) (expectWhole all' n' g) := by
  have hst : expectWhole all' n' g p = .error (.mal i) := I.ew g
  have key : ∀ k d k', expectWhole all n g k = .ok (d, k') → k' = k + 1 := fun k d k' e => by
    unfold expectWhole at e
    split at e
    · split at e
      · cases e
      · cases e
        rfl
    · cases e
  refine ⟨fun k d k' e => by rw [key k d k' e]; exact Nat.le_succ _, fun k hk d k' e => ?_, .inl hst⟩
  have hk' := key k d k' e
  refine ⟨fun h => ?_, fun h => ?_⟩
  · rw [← e]
    unfold expectWhole
    rw [I.eq k (by omega), I.wh (n := n) (n' := n') (by omega)]
  · have : k = p := by omega
    subst this
    exact .inl hst
end
end Px

/-! ### .. over all defs of the parser -/
namespace Px
open PySem PySem.Spec PyProof.Rows L2 Ly Lx TL
def Sr (F : Nat → Res) : Prop := ∀ k d k', F k = .ok (d, k') → k < k'
theorem Sr.bind {F : Nat → Res} {G : PyData → Nat → Res} (h : Sr F) (hG : ∀ d k d2 k2, G d k = .ok (d2, k2) → k ≤ k2) : Sr (fun k => bindR (F k) G) := fun k d2 k2 e => by
  cases hr : F k with
  | error _ =>
    simp only [hr] at e
    cases e
  | ok dk =>
    obtain ⟨d, k1⟩ := dk
    simp only [hr] at e
    have h1 := h k d k1 hr
    have h2 := hG d k1 d2 k2 e
    omega
theorem Sr.ite {all : List (Tkn × Nat)} {ws : List Str} {X Y : Nat → Res} (hX : Sr X) (hY : Sr Y) : Sr (fun k => if seesB all ws k = true then X k else Y k) := fun k d k' e => by
  have e' : (if seesB all ws k = true then X k else Y k) = .ok (d, k') := e
  split at e'
  · exact hX k d k' e'
  · exact hY k d k' e'
theorem Sr.next {F : Nat → Res} (h : ∀ k d k', F k = .ok (d, k') → k ≤ k') : Sr (fun k => F (k + 1)) := fun k d k' e => by
  have := h _ _ _ e
  omega
theorem sr_expS {all : List (Tkn × Nat)} {n : Nat} {v : Str} : Sr (expectS all n v) := fun k d k' e => by
  unfold expectS at e
  split at e
  · cases e
    exact Nat.lt_succ_self _
  · cases e
theorem sr_expK {all : List (Tkn × Nat)} {n : Nat} {v : Str} : Sr (expectKind all n v) := fun k d k' e => by
  unfold expectKind at e
  split at e
  · cases e
    exact Nat.lt_succ_self _
  · cases e
section
variable {all all' : List (Tkn × Nat)} {n n' p i : Nat}
theorem pr_no {F F' : Nat → Res} (h : ∀ k, F k = .error .over) (st : St p i (F' p)) : Pr p i F F' := by
  refine ⟨fun k d k' e => ?_, fun k hk d k' e => ?_, st⟩ <;> rw [h] at e <;> cases e
theorem Pr.whb (I : Ins all all' n' p i) {F F' : Nat → Nat → Res} (h : ∀ w, Pr p i (F w) (F' w)) (hs : ∀ w, Sr (F w)) : Pr p i (fun k => F (wh all n k) k) (fun k => F' (wh all' n' k) k) := by
  refine ⟨fun k d k' e => (h _).mon _ _ _ e, fun k hk => ?_, (h _).st⟩
  by_cases hp : k < p
  · show Sim p i (F (wh all n k) k) (F' (wh all' n' k) k)
    rw [I.wh (n := n) (n' := n') hp]
    exact (h _).sim k hk
  · have : k = p := by omega
    subst this
    intro d k' e
    have h1 := hs _ _ _ _ e
    exact ⟨fun h => by omega, fun _ => (h _).st⟩
theorem pr_power (I : Ins all all' n' p i) : Pr p i (powerM all n) (powerM all' n') :=
  Pr.itn I (F := fun k => bindR (expectWhole all n 9 k) fun d k => .ok (negD d, k)) (F' := fun k => bindR (expectWhole all' n' 9 k) fun d k => .ok (negD d, k)) (by decide) (Pr.bnd (pr_whole I) fun d => pr_ret _) (pr_whole I)
theorem st_expS (I : Ins all all' n' p i) {v : Str} (hv : ([v] : List Str).any (· == ("base" : Str)) = false) : St p i (expectS all' n' v p) := (pr_expS (n := 0) I hv).st
theorem st_expK (I : Ins all all' n' p i) {kd : Str} (hv : (("word" : Str) == kd) = false) : St p i (expectKind all' n' kd p) ∧ expectKind all' n' kd p = .error (.mal i) := by
  refine ⟨(pr_expK (n := 0) I hv).st, ?_⟩
  unfold expectKind
  rw [if_neg (show ¬ kindB all' kd p = true by rw [I.kindP hv]; exact Bool.false_ne_true), I.whP]
def prodW (all : List (Tkn × Nat)) (n f : Nat) (acc : List PyData) (w k : Nat) : Res := bindR (expectKind all n "name" k) fun nm k1 => bindR (if seesB all ["^"] k1 = true then powerM all n (k1 + 1) else .ok (.int 1, k1)) fun q k2 =>
  productL all n f (acc ++ [.tuple [nm, q, .int (w : Int)]]) k2
theorem st_productL (I : Ins all all' n' p i) (f : Nat) (acc : List PyData) : St p i (productL all' n' (f + 1) acc p) := by
  unfold productL
  rw [if_neg (show ¬ seesB all' ["]"] p = true by rw [I.seesP (by decide)]; exact Bool.false_ne_true), (st_expK (n' := n') I (kd := "name") (by decide)).2]
  exact .inl rfl
theorem mon_part {k : Nat} {d : PyData} {k' : Nat} (h : (if seesB all ["^"] k = true then powerM all n (k + 1) else .ok (.int 1, k)) = .ok (d, k')) (I : Ins all all' n' p i) : k ≤ k' := by
  split at h
  · have := (pr_power I (n := n)).mon _ _ _ h
    omega
  · cases h
    exact Nat.le_refl _
theorem mon_productL (I : Ins all all' n' p i) : ∀ (f : Nat) (acc : List PyData) (k : Nat) (d : PyData) (k' : Nat), productL all n f acc k = .ok (d, k') → k < k'
  | 0, _, _, _, _, h => by cases h
  | f + 1, acc, k, d, k', h => by
    unfold productL at h
    split at h
    · cases h
      exact Nat.lt_succ_self _
    · obtain ⟨nm, k1, e1, h⟩ := bind_ok h
      obtain ⟨q, k2, e2, h⟩ := bind_ok h
      have h1 := sr_expK _ _ _ e1
      have h2 := mon_part e2 I
      have h3 := mon_productL I f _ _ _ _ h
      omega
theorem sim_productL (I : Ins all all' n' p i) : ∀ (f f' : Nat) (acc : List PyData) (k : Nat), k ≤ p → p + 1 ≤ f' + k → Sim p i (productL all n f acc k) (productL all' n' f' acc k)
  | 0, _, _, _, _, _ => fun d k' e => by cases e
  | f + 1, f', acc, k, hk, hf => by
    obtain ⟨g, rfl⟩ : ∃ g, f' = g + 1 := ⟨f' - 1, by omega⟩
    have hp : Pr p i (fun k1 => if seesB all ["^"] k1 = true then powerM all n (k1 + 1) else .ok (.int 1, k1)) (fun k1 => if seesB all' ["^"] k1 = true then powerM all' n' (k1 + 1) else .ok (.int 1, k1)) := Pr.itn I (by decide) (pr_power I) (pr_ret _)
    have hst : St p i (bindR (expectKind all' n' "name" p) fun nm k1 => bindR (if seesB all' ["^"] k1 = true then powerM all' n' (k1 + 1) else .ok (.int 1, k1)) fun q k2 => productL all' n' g (acc ++ [.tuple [nm, q, .int (wh all' n' p : Int)]]) k2) := by
      rw [(st_expK (n' := n') I (kd := "name") (by decide)).2]
      exact .inl rfl
    unfold productL
    by_cases hkp : k = p
    · subst hkp
      refine sim_ite I (by decide) hk (fun h => by omega) (fun d k' e => by cases e; exact Nat.lt_succ_self _) (fun d k' e => ?_) (fun _ => hst)
      obtain ⟨nm, k1, e1, e⟩ := bind_ok e
      obtain ⟨q, k2, e2, e⟩ := bind_ok e
      have h1 := sr_expK _ _ _ e1
      have h2 := mon_part e2 I
      have h3 := mon_productL I f _ _ _ _ e
      exact ⟨fun h => by omega, fun _ => hst⟩
    · have hlt : k < p := by omega
      refine sim_ite I (by decide) hk (fun _ => (pr_ret (p := p) (i := i) (.tuple acc)).sim (k + 1) hlt) (fun d k' e => by cases e; exact Nat.lt_succ_self _) ?_ (fun h => absurd h hkp)
      rw [I.wh (n := n) (n' := n') hlt]
      refine sim_bind ((pr_expK I (by decide)).sim k hk) (fun nm k1 e1 h1 => ?_) (fun nm k1 d2 k2 e1 e2 => ?_) (fun nm => ?_)
      · have m1 := sr_expK _ _ _ e1
        refine sim_bind (hp.sim k1 h1) (fun q k2 e2 h2 => sim_productL I f g _ k2 h2 (by have := hp.mon _ _ _ e2; omega)) (fun q k2 d2 k3 e2 e3 => Nat.le_of_lt (mon_productL I f _ _ _ _ e3)) (fun q => ?_)
        obtain ⟨g', rfl⟩ : ∃ g', g = g' + 1 := ⟨g - 1, by omega⟩
        exact st_productL I g' _
      · obtain ⟨q, k3, e3, e2⟩ := bind_ok e2
        have h2 := mon_part e3 I
        have h3 := mon_productL I f _ _ _ _ e2
        omega
      · refine hp.st.bind fun q => ?_
        obtain ⟨g', rfl⟩ : ∃ g', g = g' + 1 := ⟨g - 1, by omega⟩
        exact st_productL I g' _
theorem pr_productL (I : Ins all all' n' p i) (f f' : Nat) (acc : List PyData) (h : p + 1 ≤ f') : Pr p i (productL all n f acc) (productL all' n' f' acc) := by
  refine ⟨fun k d k' e => Nat.le_of_lt (mon_productL I f acc k d k' e), fun k hk => sim_productL I f f' acc k hk (by omega), ?_⟩
  obtain ⟨g, rfl⟩ : ∃ g, f' = g + 1 := ⟨f' - 1, by omega⟩
  exact st_productL I g acc
theorem pr_product (I : Ins all all' n' p i) : Pr p i (productM all n) (productM all' n') :=
  Pr.bnd (pr_expS I (by decide)) fun _ => pr_productL I (all.length + 1) (all'.length + 1) [] (by have := I.le; omega)
theorem sr_product (I : Ins all all' n' p i) : Sr (productM all n) := Sr.bind sr_expS fun _ k d k' e => (pr_productL (n := n) (n' := n') I (all.length + 1) (all'.length + 1) [] (by have := I.le; omega)).mon _ _ _ e
/-! levels: one more is left behind than before -/
theorem st_chainL (I : Ins all all' n' p i) {ops : List Str} (ho : ops.any (· == ("base" : Str)) = false) {f' : Nat → Nat → Res} (m : Nat) (e : PyData) : St p i (chainL all' n' ops f' (m + 1) e p) := by
  unfold chainL
  rw [if_neg (show ¬ seesB all' ops p = true by rw [I.seesP ho]; exact Bool.false_ne_true)]
  exact .inr ⟨e, rfl⟩
theorem pr_chainL (I : Ins all all' n' p i) {ops : List Str} (ho : ops.any (· == ("base" : Str)) = false) {f f' : Nat → Nat → Res} (hf : ∀ m, Pr p i (f m) (f' (m + 1))) : ∀ m e, Pr p i (chainL all n ops f m e) (chainL all' n' ops f' (m + 1) e)
  | 0, e => pr_no (fun _ => rfl) (st_chainL I ho 0 e)
  | m + 1, e => by
    have hH : ∀ (s : Str) (w : Nat), Pr p i (fun k => bindR (f m k) fun b k2 => chainL all n ops f m (node (opName s) e b w) k2) (fun k => bindR (f' (m + 1) k) fun b k2 => chainL all' n' ops f' (m + 1) (node (opName s) e b w) k2) := fun s w =>
      Pr.bnd (hf m) fun b => pr_chainL I ho hf m _
    refine Pr.ite I (X := fun k => bindR (f m (k + 1)) fun b k2 => chainL all n ops f m (node (opName (Px.strAt all k)) e b (wh all n k)) k2) (X' := fun k => bindR (f' (m + 1) (k + 1)) fun b k2 => chainL all' n' ops f' (m + 1) (node (opName (Px.strAt all' k)) e b (wh all' n' k)) k2)
      (Y := fun k => .ok (e, k)) (Y' := fun k => .ok (e, k)) ho (fun k hk => ?_) (fun k d k' e' => ?_) (pr_ret e)
    · show Sim p i (bindR (f m (k + 1)) _) (bindR (f' (m + 1) (k + 1)) fun b k2 => chainL all' n' ops f' (m + 1) (node (opName (Px.strAt all' k)) e b (wh all' n' k)) k2)
      rw [I.str hk, I.wh (n := n) (n' := n') hk]
      exact (hH _ _).sim (k + 1) hk
    · have := (hH (Px.strAt all k) (wh all n k)).mon (k + 1) d k' e'
      omega
theorem pr_chainM (I : Ins all all' n' p i) {ops : List Str} (ho : ops.any (· == ("base" : Str)) = false) {f f' : Nat → Nat → Res} (hf : ∀ m, Pr p i (f m) (f' (m + 1))) (m : Nat) : Pr p i (chainM all n ops f m) (chainM all' n' ops f' (m + 1)) :=
  Pr.bnd (hf m) fun e => pr_chainL I ho hf m e
theorem pr_numW (I : Ins all all' n' p i) (tv : PyData) (w : Nat) : Pr p i (fun k1 => bindR (if seesB all ["["] k1 = true then productM all n k1 else .ok (.tuple [], k1)) fun q k2 => .ok (.tuple [.str "number", tv, q, .int (w : Int)], k2))
    (fun k1 => bindR (if seesB all' ["["] k1 = true then productM all' n' k1 else .ok (.tuple [], k1)) fun q k2 => .ok (.tuple [.str "number", tv, q, .int (w : Int)], k2)) :=
  Pr.bnd (Pr.ite I (X := productM all n) (X' := productM all' n') (Y := fun k => .ok (.tuple [], k)) (Y' := fun k => .ok (.tuple [], k)) (by decide) (fun k hk => (pr_product I).sim k (by omega)) (sr_product I) (pr_ret _)) fun q => pr_ret _
theorem st_argsL (I : Ins all all' n' p i) {E' : Nat → Res} (g : Nat) (acc : List PyData) : St p i (argsL all' n' E' (g + 1) acc p) := by
  unfold argsL
  rw [if_neg (show ¬ seesB all' [","] p = true by rw [I.seesP (by decide)]; exact Bool.false_ne_true)]
  exact (st_expS I (by decide)).bind fun d => .inr ⟨_, rfl⟩
theorem mon_argsL {E E' : Nat → Res} (hE : Pr p i E E') : ∀ (f : Nat) (acc : List PyData) (k : Nat) (d : PyData) (k' : Nat), argsL all n E f acc k = .ok (d, k') → k < k'
  | 0, _, _, _, _, h => by cases h
  | f + 1, acc, k, d, k', h => by
    unfold argsL at h
    split at h
    · obtain ⟨a, k1, e1, h⟩ := bind_ok h
      have h1 := hE.mon _ _ _ e1
      have h3 := mon_argsL hE f _ _ _ _ h
      omega
    · obtain ⟨a, k1, e1, h⟩ := bind_ok h
      have h1 := sr_expS _ _ _ e1
      cases h
      exact h1
theorem sim_argsL (I : Ins all all' n' p i) {E E' : Nat → Res} (hE : Pr p i E E') : ∀ (f f' : Nat) (acc : List PyData) (k : Nat), k ≤ p → p + 1 ≤ f' + k → Sim p i (argsL all n E f acc k) (argsL all' n' E' f' acc k)
  | 0, _, _, _, _, _ => fun d k' e => by cases e
  | f + 1, f', acc, k, hk, hf => by
    obtain ⟨g, rfl⟩ : ∃ g, f' = g + 1 := ⟨f' - 1, by omega⟩
    unfold argsL
    have hEnd : Pr p i (fun k => bindR (expectS all n ")" k) fun _ k => .ok (.tuple acc, k)) (fun k => bindR (expectS all' n' ")" k) fun _ k => .ok (.tuple acc, k)) := Pr.bnd (pr_expS I (by decide)) fun _ => pr_ret _
    refine sim_ite I (by decide) hk (fun hlt => ?_) (fun d k' e => ?_) (hEnd.sim k hk) (fun h => by subst h; exact hEnd.st)
    · refine sim_bind (hE.sim (k + 1) hlt) (fun a k2 e2 h2 => sim_argsL I hE f g _ k2 h2 (by have := hE.mon _ _ _ e2; omega)) (fun a k2 d2 k3 e2 e3 => Nat.le_of_lt (mon_argsL hE f _ _ _ _ e3)) (fun a => ?_)
      obtain ⟨g', rfl⟩ : ∃ g', g = g' + 1 := ⟨g - 1, by omega⟩
      exact st_argsL I g' _
    · obtain ⟨a, k1, e1, e⟩ := bind_ok e
      have h1 := hE.mon _ _ _ e1
      have h3 := mon_argsL hE f _ _ _ _ e
      omega
theorem pr_argsL (I : Ins all all' n' p i) {E E' : Nat → Res} (hE : Pr p i E E') (f f' : Nat) (acc : List PyData) (h : p + 1 ≤ f') : Pr p i (argsL all n E f acc) (argsL all' n' E' f' acc) := by
  refine ⟨fun k d k' e => Nat.le_of_lt (mon_argsL hE f acc k d k' e), fun k hk => sim_argsL I hE f f' acc k hk (by omega), ?_⟩
  obtain ⟨g, rfl⟩ : ∃ g, f' = g + 1 := ⟨f' - 1, by omega⟩
  exact st_argsL I g acc
theorem pr_args (I : Ins all all' n' p i) {E E' : Nat → Res} (hE : Pr p i E E') : Pr p i (argsM all n E) (argsM all' n' E') :=
  Pr.itn I (F := fun k => .ok (.tuple [], k)) (F' := fun k => .ok (.tuple [], k)) (by decide) (pr_ret _) (Pr.bnd hE fun a => pr_argsL I hE (all.length + 1) (all'.length + 1) [a] (by have := I.le; omega))
theorem pr_iterate (I : Ins all all' n' p i) {P P' : Nat → Res} (hP : Pr p i P P') (w : Nat) : Pr p i (iterateM all n P w) (iterateM all' n' P' w) :=
  Pr.bnd (pr_expK I (by decide)) fun _ => Pr.bnd (pr_whole I) fun _ => Pr.bnd (pr_expS I (by decide)) fun _ => Pr.bnd hP fun _ => pr_ret _
theorem pr_if (I : Ins all all' n' p i) {E E' : Nat → Res} (hE : Pr p i E E') (w : Nat) : Pr p i (ifM all n E w) (ifM all' n' E' w) :=
  Pr.bnd hE fun _ => Pr.bnd (pr_expS I (by decide)) fun _ => Pr.bnd hE fun _ => Pr.bnd (pr_expS I (by decide)) fun _ => Pr.bnd hE fun _ => pr_ret _
theorem pr_let (I : Ins all all' n' p i) {E E' : Nat → Res} (hE : Pr p i E E') (w : Nat) : Pr p i (letM all n E w) (letM all' n' E' w) :=
  Pr.bnd (pr_expK I (by decide)) fun _ => Pr.bnd (pr_expS I (by decide)) fun _ => Pr.bnd hE fun _ => Pr.bnd (pr_expS I (by decide)) fun _ => Pr.bnd hE fun _ => pr_ret _
end
end Px

/-! ### .. the levels, the lines -/
namespace Px
open PySem PySem.Spec PyProof.Rows L2 Ly Lx TL
section
variable {all all' : List (Tkn × Nat)} {n n' p i : Nat}
/-- a branch that begins with a number -/
theorem Pr.itk (I : Ins all all' n' p i) {X X' Y Y' : Nat → Res} (hX : ∀ k, k < p → Sim p i (X k) (X' k)) (mX : ∀ k d k', X k = .ok (d, k') → k < k') (hY : Pr p i Y Y') :
    Pr p i (fun k => if kindB all "number" k = true then X k else Y k) (fun k => if kindB all' "number" k = true then X' k else Y' k) := by
  refine ⟨fun k d k' e => ?_, fun k hk => ?_, ?_⟩
  · split at e
    · exact Nat.le_of_lt (mX _ _ _ e)
    · exact hY.mon _ _ _ e
  · by_cases hp : k < p
    · rw [I.kind hp]
      split
      · exact hX k hp
      · exact hY.sim k hk
    · have : k = p := by omega
      subst this
      rw [if_neg (show ¬ kindB all' "number" k = true by rw [I.kindP (by decide)]; exact Bool.false_ne_true)]
      split
      · intro d k' e
        exact ⟨fun h => by have := mX _ _ _ e; omega, fun _ => hY.st⟩
      · exact hY.sim k hk
  · rw [if_neg (show ¬ kindB all' "number" p = true by rw [I.kindP (by decide)]; exact Bool.false_ne_true)]
    exact hY.st
/-- a primary, with the place of its first token told -/
def primW (all : List (Tkn × Nat)) (n : Nat) (E : Nat → Nat → Res) (m w k : Nat) : Res := if kindB all "number" k = true then numberM all n w k
    else if seesB all ["true"] k = true then .ok (.tuple [.str "bool", .bool true], k + 1)
    else if seesB all ["false"] k = true then .ok (.tuple [.str "bool", .bool false], k + 1)
    else if seesB all ["("] k = true then bindR (E m (k + 1)) fun e k => bindR (expectS all n ")" k) fun _ k => .ok (e, k)
    else if seesB all ["iterate"] k = true then iterateM all n (primM all n E m) w (k + 1)
    else bindR (expectKind all n "name" k) fun nm k1 => if seesB all ["("] k1 = true then bindR (argsM all n (E m) (k1 + 1)) fun a k2 => .ok (.tuple [.str "call", nm, a, .int (w : Int)], k2)
      else .ok (.tuple [.str "var", nm, .int (w : Int)], k1)
theorem st_prim (I : Ins all all' n' p i) {E : Nat → Nat → Res} (m : Nat) : primM all' n' E (m + 1) p = .error (.mal i) := by
  unfold primM
  rw [if_neg (show ¬ kindB all' "number" p = true by rw [I.kindP (by decide)]; exact Bool.false_ne_true), if_neg (show ¬ seesB all' ["true"] p = true by rw [I.seesP (by decide)]; exact Bool.false_ne_true),
    if_neg (show ¬ seesB all' ["false"] p = true by rw [I.seesP (by decide)]; exact Bool.false_ne_true), if_neg (show ¬ seesB all' ["("] p = true by rw [I.seesP (by decide)]; exact Bool.false_ne_true),
    if_neg (show ¬ seesB all' ["iterate"] p = true by rw [I.seesP (by decide)]; exact Bool.false_ne_true), (st_expK (n' := n') I (kd := "name") (by decide)).2]
  rfl
theorem pr_primW (I : Ins all all' n' p i) {E E' : Nat → Nat → Res} (m : Nat) (hE : Pr p i (E m) (E' (m + 1))) (hI : Pr p i (primM all n E m) (primM all' n' E' (m + 1))) (w : Nat) :
    Pr p i (primW all n E m w) (primW all' n' E' (m + 1) w) ∧ Sr (primW all n E m w) := by
  have hN : ∀ k, k < p → Sim p i (numberM all n w k) (numberM all' n' w k) := fun k hk => by
    have h := (pr_numW (n := n) (n' := n') I (tvAt all k) w).sim (k + 1) hk
    show Sim p i _ (bindR _ fun q k2 => .ok (.tuple [.str "number", tvAt all' k, q, .int (w : Int)], k2))
    rw [I.tv hk]
    exact h
  have hNm : Sr (fun k => numberM all n w k) := fun k d k' e => by
    have := (pr_numW (n := n) (n' := n') I (tvAt all k) w).mon (k + 1) d k' e
    omega
  have hP : Pr p i (fun k => bindR (E m k) fun e k => bindR (expectS all n ")" k) fun _ k => .ok (e, k)) (fun k => bindR (E' (m + 1) k) fun e k => bindR (expectS all' n' ")" k) fun _ k => .ok (e, k)) :=
    Pr.bnd hE fun e => Pr.bnd (pr_expS I (by decide)) fun _ => pr_ret _
  have hIt := pr_iterate (n := n) (n' := n') I hI w
  have hC : ∀ nm, Pr p i (fun k1 => if seesB all ["("] k1 = true then bindR (argsM all n (E m) (k1 + 1)) fun a k2 => .ok (.tuple [.str "call", nm, a, .int (w : Int)], k2) else .ok (.tuple [.str "var", nm, .int (w : Int)], k1))
      (fun k1 => if seesB all' ["("] k1 = true then bindR (argsM all' n' (E' (m + 1)) (k1 + 1)) fun a k2 => .ok (.tuple [.str "call", nm, a, .int (w : Int)], k2) else .ok (.tuple [.str "var", nm, .int (w : Int)], k1)) := fun nm =>
    Pr.itn I (F := fun k => bindR (argsM all n (E m) k) fun a k2 => .ok (.tuple [.str "call", nm, a, .int (w : Int)], k2)) (F' := fun k => bindR (argsM all' n' (E' (m + 1)) k) fun a k2 => .ok (.tuple [.str "call", nm, a, .int (w : Int)], k2)) (by decide) (Pr.bnd (pr_args I hE) fun a => pr_ret _) (pr_ret _)
  have hV := Pr.bnd (pr_expK (n := n) (n' := n') I (kd := "name") (by decide)) hC
  refine ⟨Pr.itk I hN hNm (Pr.itn I (F := fun k => .ok (.tuple [.str "bool", .bool true], k)) (F' := fun k => .ok (.tuple [.str "bool", .bool true], k)) (by decide) (pr_ret _)
    (Pr.itn I (F := fun k => .ok (.tuple [.str "bool", .bool false], k)) (F' := fun k => .ok (.tuple [.str "bool", .bool false], k)) (by decide) (pr_ret _) (Pr.itn I (by decide) hP (Pr.itn I (by decide) hIt hV)))), ?_⟩
  have hVs : Sr (fun k => bindR (expectKind all n "name" k) fun nm k1 => if seesB all ["("] k1 = true then bindR (argsM all n (E m) (k1 + 1)) fun a k2 => .ok (.tuple [.str "call", nm, a, .int (w : Int)], k2) else .ok (.tuple [.str "var", nm, .int (w : Int)], k1)) :=
    Sr.bind sr_expK fun nm k d k' e => (hC nm).mon _ _ _ e
  intro k d k' e
  unfold primW at e
  split at e
  · exact hNm _ _ _ e
  · exact (Sr.ite (Sr.next (F := fun k => .ok (.tuple [.str "bool", .bool true], k)) (pr_ret (p := p) (i := i) _).mon) (Sr.ite (Sr.next (F := fun k => .ok (.tuple [.str "bool", .bool false], k)) (pr_ret (p := p) (i := i) _).mon) (Sr.ite (Sr.next hP.mon) (Sr.ite (Sr.next hIt.mon) hVs)))) _ _ _ e
theorem pr_prim (I : Ins all all' n' p i) {E E' : Nat → Nat → Res} (hE : ∀ m, Pr p i (E m) (E' (m + 1))) : ∀ m, Pr p i (primM all n E m) (primM all' n' E' (m + 1))
  | 0 => pr_no (fun _ => rfl) (.inl (st_prim I 0))
  | m + 1 => Pr.whb (n := n) (n' := n') I (fun w => (pr_primW I m (hE m) (pr_prim I hE m) w).1) (fun w => (pr_primW I m (hE m) (pr_prim I hE m) w).2)
theorem st_powL (I : Ins all all' n' p i) (m : Nat) (e : PyData) : St p i (powL all' n' (m + 1) e p) := by
  unfold powL
  rw [if_neg (show ¬ seesB all' ["^"] p = true by rw [I.seesP (by decide)]; exact Bool.false_ne_true)]
  exact .inr ⟨e, rfl⟩
theorem pr_powL (I : Ins all all' n' p i) : ∀ m e, Pr p i (powL all n m e) (powL all' n' (m + 1) e)
  | 0, e => pr_no (fun _ => rfl) (st_powL I 0 e)
  | m + 1, e => by
    have hH : ∀ w : Nat, Pr p i (fun k => bindR (powerM all n k) fun q k2 => powL all n m (.tuple [.str "power", e, q, .int (w : Int)]) k2) (fun k => bindR (powerM all' n' k) fun q k2 => powL all' n' (m + 1) (.tuple [.str "power", e, q, .int (w : Int)]) k2) := fun w =>
      Pr.bnd (pr_power I) fun q => pr_powL I m _
    refine Pr.ite I (X := fun k => if m = 0 then .error .over else bindR (powerM all n (k + 1)) fun q k2 => powL all n m (.tuple [.str "power", e, q, .int (wh all n k : Int)]) k2)
      (X' := fun k => if m + 1 = 0 then .error .over else bindR (powerM all' n' (k + 1)) fun q k2 => powL all' n' (m + 1) (.tuple [.str "power", e, q, .int (wh all' n' k : Int)]) k2)
      (Y := fun k => .ok (e, k)) (Y' := fun k => .ok (e, k)) (by decide) (fun k hk => ?_) (fun k d k' e' => ?_) (pr_ret e)
    · show Sim p i (if m = 0 then _ else _) (if m + 1 = 0 then _ else bindR (powerM all' n' (k + 1)) fun q k2 => powL all' n' (m + 1) (.tuple [.str "power", e, q, .int (wh all' n' k : Int)]) k2)
      rw [if_neg (by omega : ¬ m + 1 = 0), I.wh (n := n) (n' := n') hk]
      split
      · intro d k' e'
        cases e'
      · exact (hH _).sim (k + 1) hk
    · have e2 : (if m = 0 then .error .over else bindR (powerM all n (k + 1)) fun q k2 => powL all n m (.tuple [.str "power", e, q, .int (wh all n k : Int)]) k2 : Res) = .ok (d, k') := e'
      split at e2
      · cases e2
      · have := (hH (wh all n k)).mon (k + 1) d k' e2
        omega
theorem pr_powers (I : Ins all all' n' p i) {E E' : Nat → Nat → Res} (hE : ∀ m, Pr p i (E m) (E' (m + 1))) (m : Nat) : Pr p i (powersM all n E m) (powersM all' n' E' (m + 1)) :=
  Pr.bnd (pr_prim I hE m) fun e => pr_powL I m e
theorem pr_factors (I : Ins all all' n' p i) {E E' : Nat → Nat → Res} (hE : ∀ m, Pr p i (E m) (E' (m + 1))) (m : Nat) : Pr p i (factorsM all n E m) (factorsM all' n' E' (m + 1)) :=
  pr_chainM I (by decide) (pr_powers I hE) m
theorem pr_terms (I : Ins all all' n' p i) {E E' : Nat → Nat → Res} (hE : ∀ m, Pr p i (E m) (E' (m + 1))) (m : Nat) : Pr p i (termsM all n E m) (termsM all' n' E' (m + 1)) :=
  pr_chainM I (by decide) (pr_factors I hE) m
/-- a comparison, with the place of not told -/
theorem pr_plain (I : Ins all all' n' p i) {E E' : Nat → Nat → Res} (hE : ∀ m, Pr p i (E m) (E' (m + 1))) : ∀ m, Pr p i (plainM all n E m) (plainM all' n' E' (m + 1))
  | 0 => by
    have hT := pr_terms (n := n) (n' := n') I hE 0
    refine pr_no (fun _ => rfl) ?_
    unfold plainM
    rw [if_neg (show ¬ seesB all' ["not"] p = true by rw [I.seesP (by decide)]; exact Bool.false_ne_true)]
    refine hT.st.bind fun d => ?_
    rw [if_neg (show ¬ seesB all' ["<", "<=", "=="] p = true by rw [I.seesP (by decide)]; exact Bool.false_ne_true)]
    exact .inr ⟨d, rfl⟩
  | m + 1 => by
    have hT := pr_terms (n := n) (n' := n') I hE
    have hR : ∀ l, Pr p i (fun k1 => if seesB all ["<", "<=", "=="] k1 = true then bindR (termsM all n E m (k1 + 1)) fun r k2 => .ok (node (opName (Px.strAt all k1)) l r (wh all n k1), k2) else .ok (l, k1))
        (fun k1 => if seesB all' ["<", "<=", "=="] k1 = true then bindR (termsM all' n' E' (m + 1) (k1 + 1)) fun r k2 => .ok (node (opName (Px.strAt all' k1)) l r (wh all' n' k1), k2) else .ok (l, k1)) := fun l => by
      have hH : ∀ (s : Str) (w : Nat), Pr p i (fun k => bindR (termsM all n E m k) fun r k2 => .ok (node (opName s) l r w, k2)) (fun k => bindR (termsM all' n' E' (m + 1) k) fun r k2 => .ok (node (opName s) l r w, k2)) := fun s w => Pr.bnd (hT m) fun r => pr_ret _
      refine Pr.ite I (X := fun k1 => bindR (termsM all n E m (k1 + 1)) fun r k2 => .ok (node (opName (Px.strAt all k1)) l r (wh all n k1), k2)) (X' := fun k1 => bindR (termsM all' n' E' (m + 1) (k1 + 1)) fun r k2 => .ok (node (opName (Px.strAt all' k1)) l r (wh all' n' k1), k2))
        (Y := fun k => .ok (l, k)) (Y' := fun k => .ok (l, k)) (by decide) (fun k hk => ?_) (fun k d k' e' => ?_) (pr_ret l)
      · show Sim p i _ (bindR (termsM all' n' E' (m + 1) (k + 1)) fun r k2 => .ok (node (opName (Px.strAt all' k)) l r (wh all' n' k), k2))
        rw [I.str hk, I.wh (n := n) (n' := n') hk]
        exact (hH _ _).sim (k + 1) hk
      · have := (hH (Px.strAt all k) (wh all n k)).mon (k + 1) d k' e'
        omega
    have hY := Pr.bnd (hT (m + 1)) hR
    have hW : ∀ w : Nat, Pr p i (fun k => bindR (plainM all n E m k) fun e k2 => .ok (.tuple [.str "not", e, .int (w : Int)], k2)) (fun k => bindR (plainM all' n' E' (m + 1) k) fun e k2 => .ok (.tuple [.str "not", e, .int (w : Int)], k2)) := fun w => Pr.bnd (pr_plain I hE m) fun e => pr_ret _
    refine Pr.ite I (X := fun k => bindR (plainM all n E m (k + 1)) fun e k2 => .ok (.tuple [.str "not", e, .int (wh all n k : Int)], k2)) (X' := fun k => bindR (plainM all' n' E' (m + 1) (k + 1)) fun e k2 => .ok (.tuple [.str "not", e, .int (wh all' n' k : Int)], k2)) (by decide) (fun k hk => ?_) (fun k d k' e' => ?_) hY
    · show Sim p i _ (bindR (plainM all' n' E' (m + 1) (k + 1)) fun e k2 => .ok (.tuple [.str "not", e, .int (wh all' n' k : Int)], k2))
      rw [I.wh (n := n) (n' := n') hk]
      exact (hW _).sim (k + 1) hk
    · have := (hW (wh all n k)).mon (k + 1) d k' e'
      omega
theorem pr_both (I : Ins all all' n' p i) {E E' : Nat → Nat → Res} (hE : ∀ m, Pr p i (E m) (E' (m + 1))) (m : Nat) : Pr p i (bothM all n E m) (bothM all' n' E' (m + 1)) :=
  pr_chainM I (by decide) (pr_plain I hE) m
end
end Px

/-! ### .. expressions, lines, the whole -/
namespace Px
open PySem PySem.Spec PyProof.Rows L2 Ly Lx TL
section
variable {all all' : List (Tkn × Nat)} {n n' p i : Nat}
theorem st_chainE {ops : List Str} {f' : Nat → Nat → Res} {m : Nat} (h : f' m p = .error (.mal i)) : chainM all' n' ops f' m p = .error (.mal i) := by
  unfold chainM
  rw [h]
  rfl
theorem st_expr (I : Ins all all' n' p i) (E' : Nat → Nat → Res) (m : Nat) : exprM all' n' E' (m + 1) p = .error (.mal i) := by
  have h1 : powersM all' n' E' (m + 1) p = .error (.mal i) := by
    unfold powersM
    rw [st_prim I]
    rfl
  have h2 : factorsM all' n' E' (m + 1) p = .error (.mal i) := st_chainE h1
  have h3 : termsM all' n' E' (m + 1) p = .error (.mal i) := st_chainE h2
  have h4 : plainM all' n' E' (m + 1) p = .error (.mal i) := by
    unfold plainM
    rw [if_neg (show ¬ seesB all' ["not"] p = true by rw [I.seesP (by decide)]; exact Bool.false_ne_true), h3]
    rfl
  have h5 : bothM all' n' E' (m + 1) p = .error (.mal i) := st_chainE h4
  unfold exprM
  dsimp only
  rw [if_neg (show ¬ seesB all' ["if"] p = true by rw [I.seesP (by decide)]; exact Bool.false_ne_true), if_neg (show ¬ seesB all' ["let"] p = true by rw [I.seesP (by decide)]; exact Bool.false_ne_true)]
  exact st_chainE h5
theorem pr_expr (I : Ins all all' n' p i) {E E' : Nat → Nat → Res} (hE : ∀ m, Pr p i (E m) (E' (m + 1))) : ∀ m, Pr p i (exprM all n E m) (exprM all' n' E' (m + 1))
  | 0 => pr_no (fun _ => rfl) (.inl (st_expr I E' 0))
  | m + 1 => by
    have hC := pr_chainM (n := n) (n' := n') I (ops := ["or"]) (by decide) (pr_both (n := n) (n' := n') I hE) (m + 1)
    have hI := fun w => pr_if (n := n) (n' := n') I (hE m) w
    have hL := fun w => pr_let (n := n) (n' := n') I (hE m) w
    have hY : Pr p i (fun k => if seesB all ["let"] k = true then letM all n (E m) (wh all n k) (k + 1) else chainM all n ["or"] (bothM all n E) (m + 1) k)
        (fun k => if seesB all' ["let"] k = true then letM all' n' (E' (m + 1)) (wh all' n' k) (k + 1) else chainM all' n' ["or"] (bothM all' n' E') (m + 1 + 1) k) := by
      refine Pr.ite I (X := fun k => letM all n (E m) (wh all n k) (k + 1)) (X' := fun k => letM all' n' (E' (m + 1)) (wh all' n' k) (k + 1)) (by decide) (fun k hk => ?_) (fun k d k' e' => ?_) hC
      · show Sim p i _ (letM all' n' (E' (m + 1)) (wh all' n' k) (k + 1))
        rw [I.wh (n := n) (n' := n') hk]
        exact (hL _).sim (k + 1) hk
      · have := (hL (wh all n k)).mon (k + 1) d k' e'
        omega
    refine Pr.ite I (X := fun k => ifM all n (E m) (wh all n k) (k + 1)) (X' := fun k => ifM all' n' (E' (m + 1)) (wh all' n' k) (k + 1)) (by decide) (fun k hk => ?_) (fun k d k' e' => ?_) hY
    · show Sim p i _ (ifM all' n' (E' (m + 1)) (wh all' n' k) (k + 1))
      rw [I.wh (n := n) (n' := n') hk]
      exact (hI _).sim (k + 1) hk
    · have := (hI (wh all n k)).mon (k + 1) d k' e'
      omega
theorem pr_exprN (I : Ins all all' n' p i) : ∀ q m, Pr p i (exprN all n q m) (exprN all' n' (q + 1) (m + 1))
  | 0, m => pr_no (fun _ => rfl) (.inl (st_expr I _ m))
  | q + 1, m => pr_expr I (fun m => pr_exprN I q m) m
theorem pr_told (I : Ins all all' n' p i) : Pr p i (toldM all n) (toldM all' n') := Pr.itn I (by decide) (pr_product I) (pr_ret _)
theorem pr_param (I : Ins all all' n' p i) : Pr p i (paramM all n) (paramM all' n') := Pr.bnd (pr_expK I (by decide)) fun _ => Pr.bnd (pr_told I) fun _ => pr_ret _
theorem st_paramsL (I : Ins all all' n' p i) (g : Nat) (acc : List PyData) : St p i (paramsL all' n' (g + 1) acc p) := by
  unfold paramsL
  rw [if_neg (show ¬ seesB all' [","] p = true by rw [I.seesP (by decide)]; exact Bool.false_ne_true)]
  exact (st_expS I (by decide)).bind fun d => .inr ⟨_, rfl⟩
theorem mon_paramsL (I : Ins all all' n' p i) : ∀ (f : Nat) (acc : List PyData) (k : Nat) (d : PyData) (k' : Nat), paramsL all n f acc k = .ok (d, k') → k < k'
  | 0, _, _, _, _, h => by cases h
  | f + 1, acc, k, d, k', h => by
    unfold paramsL at h
    split at h
    · obtain ⟨a, k1, e1, h⟩ := bind_ok h
      have h1 := (pr_param I (n := n)).mon _ _ _ e1
      have h3 := mon_paramsL I f _ _ _ _ h
      omega
    · obtain ⟨a, k1, e1, h⟩ := bind_ok h
      have h1 := sr_expS _ _ _ e1
      cases h
      exact h1
theorem sim_paramsL (I : Ins all all' n' p i) : ∀ (f f' : Nat) (acc : List PyData) (k : Nat), k ≤ p → p + 1 ≤ f' + k → Sim p i (paramsL all n f acc k) (paramsL all' n' f' acc k)
  | 0, _, _, _, _, _ => fun d k' e => by cases e
  | f + 1, f', acc, k, hk, hf => by
    obtain ⟨g, rfl⟩ : ∃ g, f' = g + 1 := ⟨f' - 1, by omega⟩
    have hE : Pr p i (paramM all n) (paramM all' n') := pr_param I
    unfold paramsL
    have hEnd : Pr p i (fun k => bindR (expectS all n ")" k) fun _ k => .ok (.tuple acc, k)) (fun k => bindR (expectS all' n' ")" k) fun _ k => .ok (.tuple acc, k)) := Pr.bnd (pr_expS I (by decide)) fun _ => pr_ret _
    refine sim_ite I (by decide) hk (fun hlt => ?_) (fun d k' e => ?_) (hEnd.sim k hk) (fun h => by subst h; exact hEnd.st)
    · refine sim_bind (hE.sim (k + 1) hlt) (fun a k2 e2 h2 => sim_paramsL I f g _ k2 h2 (by have := hE.mon _ _ _ e2; omega)) (fun a k2 d2 k3 e2 e3 => Nat.le_of_lt (mon_paramsL I f _ _ _ _ e3)) (fun a => ?_)
      obtain ⟨g', rfl⟩ : ∃ g', g = g' + 1 := ⟨g - 1, by omega⟩
      exact st_paramsL I g' _
    · obtain ⟨a, k1, e1, e⟩ := bind_ok e
      have h1 := hE.mon _ _ _ e1
      have h3 := mon_paramsL I f _ _ _ _ e
      omega
theorem pr_paramsL (I : Ins all all' n' p i) (f f' : Nat) (acc : List PyData) (h : p + 1 ≤ f') : Pr p i (paramsL all n f acc) (paramsL all' n' f' acc) := by
  refine ⟨fun k d k' e => Nat.le_of_lt (mon_paramsL I f acc k d k' e), fun k hk => sim_paramsL I f f' acc k hk (by omega), ?_⟩
  obtain ⟨g, rfl⟩ : ∃ g, f' = g + 1 := ⟨f' - 1, by omega⟩
  exact st_paramsL I g acc
theorem pr_params (I : Ins all all' n' p i) : Pr p i (paramsM all n) (paramsM all' n') :=
  Pr.itn I (F := fun k => .ok (.tuple [], k)) (F' := fun k => .ok (.tuple [], k)) (by decide) (pr_ret _) (Pr.bnd (pr_param I) fun a => pr_paramsL I (all.length + 1) (all'.length + 1) [a] (by have := I.le; omega))
end
/-! lines, with the expressions' def left open -/
section
variable (all : List (Tkn × Nat)) (n : Nat) (X : Nat → Res)
def funG (at_ k : Nat) : Res := bindR (expectKind all n "name" k) fun nm k => bindR (expectS all n "(" k) fun _ k => bindR (paramsM all n k) fun ps k => bindR (toldM all n k) fun p k => bindR (expectS all n "=" k) fun _ k => bindR (X k) fun e k =>
  .ok (.tuple [.str "fun", nm, ps, p, e, .int (at_ : Int)], k)
def showG (at_ k : Nat) : Res := bindR (X k) fun e k => bindR (if seesB all ["in"] k = true then productM all n (k + 1) else .ok (.none, k)) fun p k => .ok (.tuple [.str "show", e, p, .int (at_ : Int)], k)
def lineG (k : Nat) : Res :=
  bindR (if seesB all ["base"] k = true then baseM all n (wh all n k) (k + 1) else if seesB all ["unit"] k = true then unitM all n (wh all n k) (k + 1)
    else if seesB all ["fun"] k = true then funG all n X (wh all n k) (k + 1) else bindR (expectS all n "show" k) fun _ k1 => showG all n X (wh all n k) k1) fun l k => bindR (expectS all n ";" k) fun _ k => .ok (l, k)
def linesG : Nat → List PyData → Nat → Except Er (List PyData)
  | 0, _, _ => .error .over
  | f + 1, acc, k => if k = all.length then .ok acc else match lineG all n X k with
    | .ok (l, k2) => linesG f (acc ++ [l]) k2
    | .error e => .error e
end
theorem lineM_G (all : List (Tkn × Nat)) (n k : Nat) : lineM all n k = lineG all n (exprTop all n) k := rfl
theorem linesL_G (all : List (Tkn × Nat)) (n : Nat) : ∀ f acc k, linesL all n f acc k = linesG all n (exprTop all n) f acc k
  | 0, _, _ => rfl
  | f + 1, acc, k => by
    unfold linesL linesG
    rw [lineM_G]
    split
    · rfl
    · cases lineG all n (exprTop all n) k with
      | error e => rfl
      | ok r =>
        obtain ⟨d, k2⟩ := r
        exact linesL_G all n f _ _
section
variable {all all' : List (Tkn × Nat)} {n n' p i : Nat} {X X' : Nat → Res}
theorem pr_base (I : Ins all all' n' p i) (w : Nat) : Pr p i (baseM all n w) (baseM all' n' w) := Pr.bnd (pr_expK I (by decide)) fun _ => pr_ret _
theorem pr_unit (I : Ins all all' n' p i) (w : Nat) : Pr p i (unitM all n w) (unitM all' n' w) :=
  Pr.bnd (pr_expK I (by decide)) fun _ => Pr.bnd (pr_expS I (by decide)) fun _ => Pr.bnd (pr_expK I (by decide)) fun _ => Pr.bnd (pr_product I) fun _ => pr_ret _
theorem pr_fun (I : Ins all all' n' p i) (hX : Pr p i X X') (w : Nat) : Pr p i (funG all n X w) (funG all' n' X' w) :=
  Pr.bnd (pr_expK I (by decide)) fun _ => Pr.bnd (pr_expS I (by decide)) fun _ => Pr.bnd (pr_params I) fun _ => Pr.bnd (pr_told I) fun _ => Pr.bnd (pr_expS I (by decide)) fun _ => Pr.bnd hX fun _ => pr_ret _
theorem pr_show (I : Ins all all' n' p i) (hX : Pr p i X X') (w : Nat) : Pr p i (showG all n X w) (showG all' n' X' w) :=
  Pr.bnd hX fun _ => Pr.bnd (Pr.itn I (by decide) (pr_product I) (pr_ret _)) fun _ => pr_ret _
/-- a line that begins before the word: it is as before, or the word is refused in it -/
theorem line_ins (I : Ins all all' n' p i) (hX : Pr p i X X') {k : Nat} (hk : k < p) {d : PyData} {k' : Nat} (h : lineG all n X k = .ok (d, k')) :
    k < k' ∧ (k' ≤ p → lineG all' n' X' k = .ok (d, k')) ∧ (p < k' → lineG all' n' X' k = .error (.mal i)) := by
  have hE : ∀ l : PyData, Pr p i (fun k => bindR (expectS all n ";" k) fun _ k => .ok (l, k)) (fun k => bindR (expectS all' n' ";" k) fun _ k => .ok (l, k)) := fun l => Pr.bnd (pr_expS I (by decide)) fun _ => pr_ret _
  have hEs : ∀ l : PyData, Sr (fun k => bindR (expectS all n ";" k) fun _ k => .ok (l, k)) := fun l => Sr.bind sr_expS fun _ k d k' e => by cases e; exact Nat.le_refl _
  have hEe : ∀ l : PyData, bindR (expectS all' n' ";" p) (fun _ k => .ok (l, k)) = .error (.mal i) := fun l => by
    unfold expectS
    rw [if_neg (show ¬ seesB all' [";"] p = true by rw [I.seesP (by decide)]; exact Bool.false_ne_true), I.whP]
    rfl
  have hS := Pr.bnd (pr_expS (n := n) (n' := n') I (v := "show") (by decide)) (G := fun _ k1 => showG all n X (wh all n k) k1) (G' := fun _ k1 => showG all' n' X' (wh all n k) k1) fun _ => pr_show I hX (wh all n k)
  -- the line's body
  have hB : Sim p i (if seesB all ["base"] k = true then baseM all n (wh all n k) (k + 1) else if seesB all ["unit"] k = true then unitM all n (wh all n k) (k + 1)
      else if seesB all ["fun"] k = true then funG all n X (wh all n k) (k + 1) else bindR (expectS all n "show" k) fun _ k1 => showG all n X (wh all n k) k1)
      (if seesB all' ["base"] k = true then baseM all' n' (wh all' n' k) (k + 1) else if seesB all' ["unit"] k = true then unitM all' n' (wh all' n' k) (k + 1)
      else if seesB all' ["fun"] k = true then funG all' n' X' (wh all' n' k) (k + 1) else bindR (expectS all' n' "show" k) fun _ k1 => showG all' n' X' (wh all' n' k) k1) ∧
      ∀ d2 k2, (if seesB all ["base"] k = true then baseM all n (wh all n k) (k + 1) else if seesB all ["unit"] k = true then unitM all n (wh all n k) (k + 1)
      else if seesB all ["fun"] k = true then funG all n X (wh all n k) (k + 1) else bindR (expectS all n "show" k) fun _ k1 => showG all n X (wh all n k) k1) = .ok (d2, k2) → k ≤ k2 := by
    rw [I.sees hk, I.sees hk, I.sees hk, I.wh (n := n) (n' := n') hk]
    split
    · exact ⟨(pr_base I _).sim _ hk, fun d2 k2 e => by have := (pr_base (n := n) (n' := n') I _).mon _ _ _ e; omega⟩
    · split
      · exact ⟨(pr_unit I _).sim _ hk, fun d2 k2 e => by have := (pr_unit (n := n) (n' := n') I _).mon _ _ _ e; omega⟩
      · split
        · exact ⟨(pr_fun I hX _).sim _ hk, fun d2 k2 e => by have := (pr_fun (n := n) (n' := n') I hX _).mon _ _ _ e; omega⟩
        · exact ⟨hS.sim _ (Nat.le_of_lt hk), fun d2 k2 e => hS.mon _ _ _ e⟩
  unfold lineG at h ⊢
  obtain ⟨d1, k1, e1, e2⟩ := bind_ok h
  have m1 := hB.2 d1 k1 e1
  have m2 := hEs d1 k1 d k' e2
  have hk1 : k' = k1 + 1 := by
    obtain ⟨d3, k3, e3, e4⟩ := bind_ok e2
    cases e4
    unfold expectS at e3
    split at e3
    · cases e3
      rfl
    · cases e3
  obtain ⟨s1, s2⟩ := hB.1 d1 k1 e1
  refine ⟨by omega, fun h => ?_, fun h => ?_⟩
  · rw [s1 (by omega)]
    exact ((hE d1).sim k1 (by omega) d k' e2).1 h
  · by_cases hkp : k1 ≤ p
    · rw [s1 hkp]
      have : k1 = p := by omega
      subst this
      exact hEe d1
    · rcases s2 (by omega) with e | ⟨d', e⟩
      · rw [e]
        rfl
      · rw [e]
        exact hEe d'
/-- a line begins with one of four words -/
theorem line_starts {k : Nat} {d : PyData} {k' : Nat} (h : lineG all n X k = .ok (d, k')) : seesB all ["base", "unit", "fun", "show"] k = true := by
  have hs : ∀ v ∈ (["base", "unit", "fun", "show"] : List Str), seesB all [v] k = true → seesB all ["base", "unit", "fun", "show"] k = true := fun v hv h => by
    unfold seesB at h ⊢
    split at h
    · rename_i t e
      have : ∀ t : Tkn, valIn t [v] = true → valIn t ["base", "unit", "fun", "show"] = true := fun t ht => by
        have key : ∀ w : Str, (([v] : List Str).any (· == w)) = true → ((["base", "unit", "fun", "show"] : List Str).any (· == w)) = true := fun w hw => by
          obtain ⟨x, hx, e⟩ := List.any_eq_true.mp hw
          have hx' : x = v := by simpa using hx
          subst hx'
          exact List.any_eq_true.mpr ⟨x, hv, e⟩
        cases t with
        | word w => exact key w ht
        | name w => exact key w ht
        | sign w => exact key w ht
        | num a b => cases ht
      exact this _ h
    · cases h
  unfold lineG at h
  obtain ⟨d1, k1, e1, _⟩ := bind_ok h
  split at e1
  · rename_i h1
    exact hs "base" (by decide) h1
  · split at e1
    · rename_i h1
      exact hs "unit" (by decide) h1
    · split at e1
      · rename_i h1
        exact hs "fun" (by decide) h1
      · obtain ⟨d2, k2, e2, _⟩ := bind_ok e1
        unfold expectS at e2
        split at e2
        · rename_i h1
          exact hs "show" (by decide) h1
        · cases e2
/-- what stands there is refused -/
theorem lines_ins (I : Ins all all' n' p i) (hp : p < all.length) (hX : Pr p i X X') (hns : seesB all ["base", "unit", "fun", "show"] p = false) : ∀ (f f' : Nat) (acc acc' : List PyData) (k : Nat) (ls : List PyData), p + 1 ≤ f' + k → k ≤ p →
    linesG all n X f acc k = .ok ls → linesG all' n' X' f' acc' k = .error (.mal i)
  | 0, _, _, _, _, _, _, _, h => by cases h
  | f + 1, 0, _, _, _, _, h, hk, _ => absurd h (by omega)
  | f + 1, f' + 1, acc, acc', k, ls, hf, hk, h => by
    unfold linesG at h ⊢
    rw [if_neg (by omega)] at h
    cases hr : lineG all n X k with
    | error e =>
      rw [hr] at h
      cases h
    | ok dk =>
      obtain ⟨d, k2⟩ := dk
      rw [hr] at h
      have hkp : k < p := by
        rcases Nat.lt_or_ge k p with h1 | h1
        · exact h1
        · have : k = p := by omega
          subst this
          rw [line_starts hr] at hns
          cases hns
      rw [if_neg (by have := I.le; omega)]
      obtain ⟨m1, s1, s2⟩ := line_ins (n' := n') I hX hkp hr
      by_cases h2 : k2 ≤ p
      · rw [s1 h2]
        exact lines_ins I hp hX hns f f' _ _ k2 ls (by omega) h2 h
      · rw [s2 (by omega)]
end
end Px

/-! ### texts by pieces: a token, its text, the blanks behind it -/
namespace Px
open PySem PySem.Spec PyProof.Rows L2 Ly Lx TL Lw
structure Pc where
  t : Tkn
  w : List Nat
  b : List Nat
def txP : List Pc → List Nat
  | [] => []
  | c :: P => c.w ++ (c.b ++ txP P)
def tkP : Nat → List Pc → List (Tkn × Nat)
  | _, [] => []
  | i, c :: P => (c.t, i) :: tkP (i + c.w.length + c.b.length) P
theorem txP_append : ∀ P Q : List Pc, txP (P ++ Q) = txP P ++ txP Q
  | [], _ => rfl
  | c :: P, Q => by
    show c.w ++ (c.b ++ txP (P ++ Q)) = _
    rw [txP_append P Q]
    simp [txP]
theorem tkP_append : ∀ (P Q : List Pc) (i : Nat), tkP i (P ++ Q) = tkP i P ++ tkP (i + (txP P).length) Q
  | [], Q, i => rfl
  | c :: P, Q, i => by
    show (c.t, i) :: tkP _ (P ++ Q) = _
    rw [tkP_append P Q]
    have : i + c.w.length + c.b.length + (txP P).length = i + (txP (c :: P)).length := by
      simp only [txP, List.length_append]
      omega
    rw [this]
    rfl
theorem tkP_len : ∀ (P : List Pc) (i : Nat), (tkP i P).length = P.length
  | [], _ => rfl
  | c :: P, i => by
    show (tkP _ P).length + 1 = _
    rw [tkP_len P, List.length_cons]
/-- what may follow the token's text at once -/
def okS : Tkn → Nat → Bool
  | .sign x, s => !((x == "<" || x == "=") && s == 61)
  | _, s => !(inS naming s) && !(s == 46)
def Wf (t : Tkn) (w : List Nat) : Prop := ∀ s r, okS t s = true → tokAt (w ++ s :: r) = some (t, w.length)
/-- the first sign of a text -/
def hd1 : List Nat → Option Nat
  | [] => none
  | s :: _ => some s
/-- each piece may be followed by what follows it -/
def Fits (tail : List Nat) : List Pc → Prop
  | [] => skip false tail = 0
  | c :: P => Wf c.t c.w ∧ (∀ x ∈ c.b, inS blanks x = true) ∧ (∃ s r, c.b ++ (txP P ++ tail) = s :: r ∧ okS c.t s = true) ∧ Fits tail P
theorem skip_blanks : ∀ (b l : List Nat), (∀ x ∈ b, inS blanks x = true) → skip false (b ++ l) = b.length + skip false l
  | [], l, _ => by simp
  | x :: b, l, h => by
    rw [List.cons_append, skip_blank (h x List.mem_cons_self), skip_blanks b l fun y hy => h y (List.mem_cons_of_mem _ hy), List.length_cons]
    omega
theorem fits_skip {tail : List Nat} : ∀ {P : List Pc}, Fits tail P → skip false (txP P ++ tail) = 0
  | [], h => h
  | c :: P, h => by
    obtain ⟨hw, _, ⟨s, r, e, hs⟩, _⟩ := h
    show skip false ((c.w ++ (c.b ++ txP P)) ++ tail) = 0
    rw [List.append_assoc, List.append_assoc, e]
    exact tok_noskip (hw s r hs)
theorem lex_pcs {tail : List Nat} : ∀ (P : List Pc) (i : Nat), Fits tail P → LexTo i (txP P ++ tail) (tkP i P) (i + (txP P).length) tail
  | [], i, _ => .refl
  | c :: P, i, h => by
    obtain ⟨hw, hb, ⟨s, r, e, hs⟩, hP⟩ := h
    have ih := lex_pcs P (i + c.w.length + c.b.length) hP
    have e1 : txP (c :: P) ++ tail = c.w ++ (c.b ++ (txP P ++ tail)) := by simp [txP]
    have e2 : i + (txP (c :: P)).length = i + c.w.length + c.b.length + (txP P).length := by
      simp only [txP, List.length_append]
      omega
    rw [e1, e2]
    have et : tokAt (c.w ++ (c.b ++ (txP P ++ tail))) = some (c.t, c.w.length) := by
      rw [e]
      exact hw s r hs
    refine .step et ?_
    have ed : (c.w ++ (c.b ++ (txP P ++ tail))).drop c.w.length = c.b ++ (txP P ++ tail) := List.drop_left
    have es : skip false (c.b ++ (txP P ++ tail)) = c.b.length := by
      rw [skip_blanks _ _ hb, fits_skip hP]
      rfl
    rw [ed, es, List.drop_left]
    exact ih
theorem fits_append {tail : List Nat} : ∀ {P Q : List Pc}, Fits (txP Q ++ tail) P → Fits tail Q → Fits tail (P ++ Q)
  | [], Q, _, h => h
  | c :: P, Q, h, hq => by
    obtain ⟨hw, hb, ⟨s, r, e, hs⟩, hP⟩ := h
    refine ⟨hw, hb, ⟨s, r, ?_, hs⟩, fits_append hP hq⟩
    show c.b ++ (txP (P ++ Q) ++ tail) = _
    rw [txP_append, List.append_assoc]
    exact e
/-! #### the pieces themselves -/
theorem wf_word {x : Str} {c : Nat} {w : List Nat} (e : tl x = c :: w) (hc : inS letters c = true) (hw : ∀ d ∈ w, inS naming d = true) (hr : isRes (mk (c :: w)) = true) : Wf (.word x) (tl x) := fun s r h => by
  have hs : inS naming s = false := by
    have h' : (!(inS naming s) && !(s == 46)) = true := h
    rw [Bool.and_eq_true] at h'
    simpa using h'.1
  have := tok_word (r := r) hc hw hs (.inl hr)
  rw [if_pos hr] at this
  rw [e]
  rw [show x = mk (c :: w) from ext_tl e]
  exact this
theorem wf_name {x : Str} {c : Nat} {w : List Nat} (e : tl x = c :: w) (hc : inS letters c = true) (hw : ∀ d ∈ w, inS naming d = true) (hl : w.length < 16) (hr : isRes (mk (c :: w)) = false) : Wf (.name x) (tl x) := fun s r h => by
  have hs : inS naming s = false := by
    have h' : (!(inS naming s) && !(s == 46)) = true := h
    rw [Bool.and_eq_true] at h'
    simpa using h'.1
  have := tok_word (r := r) hc hw hs (.inr hl)
  rw [if_neg (by rw [hr]; exact Bool.false_ne_true)] at this
  rw [e]
  rw [show x = mk (c :: w) from ext_tl e]
  exact this
theorem wf_whole {v : Nat} (hv : v < 1000) : Wf (.num v 1) (numL v) := fun s r h => by
  have h' : (!(inS naming s) && !(s == 46)) = true := h
  rw [Bool.and_eq_true] at h'
  exact tok_whole hv (by simpa using h'.1) (by simpa using h'.2)
theorem wf_num {c : Nat} {w ps : List Nat} (hc : inS digits c = true) (hw : ∀ d ∈ w, inS digits d = true) (hp : ∀ d ∈ ps, inS digits d = true) (hl : w.length < 6) (hl2 : ps.length < 5) : Wf (.num (NumText.digitsVal (c :: w ++ ps)) (10 ^ ps.length)) (numText (c :: w) ps) := fun s r h => by
  have h' : (!(inS naming s) && !(s == 46)) = true := h
  rw [Bool.and_eq_true] at h'
  exact tok_num hc hw hp (by simpa using h'.1) (by simpa using h'.2) hl hl2
theorem wf_sign : ∀ x ∈ (["<=", "==", "+", "-", "*", "/", "^", ",", ";", ":", "(", ")", "[", "]"] : List Str), Wf (.sign x) (tl x) := by
  intro x h s r _
  simp only [List.mem_cons, List.not_mem_nil, or_false] at h
  rcases h with rfl | rfl | rfl | rfl | rfl | rfl | rfl | rfl | rfl | rfl | rfl | rfl | rfl | rfl <;> rfl
theorem wf_less : ∀ x ∈ (["<", "="] : List Str), Wf (.sign x) (tl x) := by
  intro x h s r hs
  simp only [List.mem_cons, List.not_mem_nil, or_false] at h
  have h61 : (61 == s) = false := by
    rcases h with rfl | rfl
    · have h' : (!((true || false) && s == 61)) = true := hs
      simp at h'
      exact beq_eq_false_iff_ne.mpr fun e => h' e.symm
    · have h' : (!((false || true) && s == 61)) = true := hs
      simp at h'
      exact beq_eq_false_iff_ne.mpr fun e => h' e.symm
  rcases h with rfl | rfl
  · show sgAt (60 :: s :: r) = some (.sign "<", 1)
    have n1 : ¬ (tl ("<=" : Str)).isPrefixOf (60 :: s :: r) = true := by
      show ¬ ((60 == 60) && ((61 == s) && true)) = true
      rw [h61]
      decide
    unfold sgAt
    rw [show sgns = ("<=" : Str) :: ("==" : Str) :: ("=" : Str) :: ("<" : Str) :: sgns.drop 4 from rfl, List.find?_cons_of_neg (p := fun x : Str => (tl x).isPrefixOf (60 :: s :: r)) n1, List.find?_cons_of_neg (by show ¬ (false && _) = true; simp), List.find?_cons_of_neg (by show ¬ (false && _) = true; simp), List.find?_cons_of_pos (by rfl)]
    rfl
  · show sgAt (61 :: s :: r) = some (.sign "=", 1)
    have n1 : ¬ (tl ("==" : Str)).isPrefixOf (61 :: s :: r) = true := by
      show ¬ ((61 == 61) && ((61 == s) && true)) = true
      rw [h61]
      decide
    unfold sgAt
    rw [show sgns = ("<=" : Str) :: ("==" : Str) :: ("=" : Str) :: sgns.drop 3 from rfl, List.find?_cons_of_neg (by show ¬ (false && _) = true; simp), List.find?_cons_of_neg (p := fun x : Str => (tl x).isPrefixOf (61 :: s :: r)) n1, List.find?_cons_of_pos (by rfl)]
    rfl
end Px

/-! ### expressions with all parentheses -/
namespace Px
open PySem PySem.Spec PyProof.Rows L2 Ly Lx TL Lw
abbrev Un := List (Str × Int)
inductive Ex where
  | num (w : List Nat) (t b : Nat) (u : Un)
  | bl (b : Bool)
  | var (w : Str)
  | call0 (w : Str)
  | call1 (w : Str) (a : Ex)
  | call2 (w : Str) (a b : Ex)
  | iter (w : Str) (n : Nat) (e : Ex)
  | pow (e : Ex) (n : Int)
  | no (e : Ex)
  | cond (a b c : Ex)
  | lett (w : Str) (a b : Ex)
  | bin (s : Str) (a b : Ex)
def sg (x : Str) (b : List Nat) : Pc := ⟨.sign x, tl x, b⟩
def wd (x : Str) (b : List Nat) : Pc := ⟨.word x, tl x, b⟩
def nm (x : Str) (b : List Nat) : Pc := ⟨.name x, tl x, b⟩
def nr (v : Nat) (b : List Nat) : Pc := ⟨.num v 1, numL v, b⟩
/-- a power, behind its sign -/
def pwP (n : Int) (b : List Nat) : List Pc := if n < 0 then [sg "-" [], nr n.natAbs b] else [nr n.natAbs b]
def itP (x : Str × Int) (b : List Nat) : List Pc := if x.2 = 1 then [nm x.1 b] else nm x.1 [] :: sg "^" [] :: pwP x.2 b
def isP : Un → List Pc
  | [] => []
  | [x] => itP x []
  | x :: y :: u => itP x [32] ++ isP (y :: u)
def unP (u : Un) (b : List Nat) : List Pc := sg "[" [] :: isP u ++ [sg "]" b]
def pcE : Ex → List Nat → List Pc
  | .num w t d u, b => if u = [] then [⟨.num t d, w, b⟩] else ⟨.num t d, w, [32]⟩ :: unP u b
  | .bl v, b => [wd (if v = true then "true" else "false") b]
  | .var w, b => [nm w b]
  | .call0 w, b => [nm w [], sg "(" [], sg ")" b]
  | .call1 w x, b => nm w [] :: sg "(" [] :: pcE x [] ++ [sg ")" b]
  | .call2 w x y, b => nm w [] :: sg "(" [] :: pcE x [] ++ sg "," [32] :: pcE y [] ++ [sg ")" b]
  | .iter w n e, b => wd "iterate" [32] :: nm w [32] :: nr n [32] :: wd "from" [32] :: sg "(" [] :: pcE e [] ++ [sg ")" b]
  | .pow e n, b => sg "(" [] :: pcE e [] ++ sg ")" [] :: sg "^" [] :: pwP n b
  | .no e, b => sg "(" [] :: wd "not" [32] :: sg "(" [] :: pcE e [] ++ [sg ")" [], sg ")" b]
  | .cond x y z, b => sg "(" [] :: wd "if" [32] :: pcE x [32] ++ wd "then" [32] :: pcE y [32] ++ wd "else" [32] :: pcE z [] ++ [sg ")" b]
  | .lett w x y, b => sg "(" [] :: wd "let" [32] :: nm w [32] :: sg "=" [32] :: pcE x [32] ++ wd "in" [32] :: pcE y [] ++ [sg ")" b]
  | .bin s x y, b => sg "(" [] :: sg "(" [] :: pcE x [] ++ sg ")" [32] :: ⟨sgTok s, tl s, [32]⟩ :: sg "(" [] :: pcE y [] ++ [sg ")" [], sg ")" b]
/-! the trees, by the tokens: k tokens of a list have gone -/
section
variable {all : List (Tkn × Nat)} {n : Nat}
theorem power_run {k i : Nat} {q : Int} {b : List Nat} {rest : List (Tkn × Nat)} (hq : q.natAbs ≤ 9) (hat : At all k (tkP i (pwP q b) ++ rest)) : powerM all n k = .ok (.int q, k + (pwP q b).length) := by
  unfold pwP at hat ⊢
  by_cases h : q < 0
  · rw [if_pos h] at hat ⊢
    have hat1 : At all k ((.sign "-", i) :: (.num q.natAbs 1, i + 1) :: rest) := hat
    have hat2 := hat1.next
    unfold powerM
    rw [if_pos (by rw [hat1.sees]; dsimp only; decide)]
    unfold expectWhole
    rw [hat2.get]
    dsimp only
    rw [if_neg (by omega)]
    show Except.ok (PyData.int (-(q.natAbs : Int)), k + 1 + 1) = _
    rw [show -(q.natAbs : Int) = q by omega]
    rfl
  · rw [if_neg h] at hat ⊢
    have hat1 : At all k ((.num q.natAbs 1, i) :: rest) := hat
    unfold powerM
    rw [if_neg (by rw [hat1.sees]; exact Bool.false_ne_true)]
    unfold expectWhole
    rw [hat1.get]
    dsimp only
    rw [if_neg (by omega)]
    rw [show ((q.natAbs : Nat) : Int) = q by omega]
    rfl
/-- the parts of a product, from i -/
def prL : Nat → Un → List PyData
  | _, [] => []
  | i, [x] => [.tuple [.str x.1, .int x.2, .int (i : Int)]]
  | i, x :: y :: u => .tuple [.str x.1, .int x.2, .int (i : Int)] :: prL (i + (txP (itP x [32])).length) (y :: u)
theorem item_run {k i f : Nat} {x : Str × Int} {b : List Nat} {acc : List PyData} {t : Tkn × Nat} {rest : List (Tkn × Nat)} (hx : x.2.natAbs ≤ 9) (hn : valIn (.name x.1) ["]"] = false) (ht : valIn t.1 ["^"] = false) (hat : At all k (tkP i (itP x b) ++ t :: rest)) :
    productL all n (f + 1) acc k = productL all n f (acc ++ [.tuple [.str x.1, .int x.2, .int (i : Int)]]) (k + (itP x b).length) := by
  unfold itP at hat ⊢
  by_cases h : x.2 = 1
  · rw [if_pos h] at hat ⊢
    have hat1 : At all k ((.name x.1, i) :: t :: rest) := hat
    have hat2 := hat1.next
    conv => lhs; unfold productL
    rw [if_neg (by rw [hat1.sees, hn]; exact Bool.false_ne_true)]
    unfold expectKind
    rw [if_pos (by rw [hat1.kind]; exact (by decide : (("name" : Str) == "name") = true)), hat1.tv, hat1.wh]
    show bindR (if seesB all ["^"] (k + 1) = true then _ else _) _ = _
    rw [if_neg (by rw [hat2.sees, ht]; exact Bool.false_ne_true), h]
    rfl
  · rw [if_neg h] at hat ⊢
    have hat1 : At all k ((.name x.1, i) :: (.sign "^", i + (tl x.1).length + 0) :: (tkP (i + (tl x.1).length + 0 + 1 + 0) (pwP x.2 b) ++ t :: rest)) := hat
    have hat2 := hat1.next
    have hat3 := hat2.next
    conv => lhs; unfold productL
    rw [if_neg (by rw [hat1.sees, hn]; exact Bool.false_ne_true)]
    unfold expectKind
    rw [if_pos (by rw [hat1.kind]; exact (by decide : (("name" : Str) == "name") = true)), hat1.tv, hat1.wh]
    show bindR (if seesB all ["^"] (k + 1) = true then _ else _) _ = _
    rw [if_pos (by rw [hat2.sees]; dsimp only; decide), power_run hx hat3]
    show productL all n f _ _ = productL all n f _ _
    congr 1
    simp only [List.length_cons]
    omega
def UnOk (u : Un) : Prop := ∀ x ∈ u, x.2.natAbs ≤ 9 ∧ (["]", "^"] : List Str).any (· == x.1) = false
theorem items_run : ∀ (u : Un) (k i f : Nat) (acc : List PyData) (j : Nat) (rest : List (Tkn × Nat)), UnOk u → u.length < f → At all k (tkP i (isP u) ++ (.sign "]", j) :: rest) →
    productL all n f acc k = .ok (.tuple (acc ++ prL i u), k + (isP u).length + 1)
  | [], k, i, f, acc, j, rest, hu, hf, hat => by
    obtain ⟨f', rfl⟩ : ∃ f', f = f' + 1 := ⟨f - 1, by simp at hf; omega⟩
    have hat1 : At all k ((.sign "]", j) :: rest) := hat
    unfold productL
    rw [if_pos (by rw [hat1.sees]; dsimp only; decide)]
    simp [prL, isP]
  | [x], k, i, f, acc, j, rest, hu, hf, hat => by
    obtain ⟨f', rfl⟩ : ∃ f', f = f' + 1 := ⟨f - 1, by simp at hf; omega⟩
    obtain ⟨h1, h2⟩ := hu x List.mem_cons_self
    have h2' : ((["]"] : List Str) ++ (["^"] : List Str)).any (· == x.1) = false := h2
    rw [List.any_append, Bool.or_eq_false_iff] at h2'
    have hat' : At all k (tkP i (itP x []) ++ (.sign "]", j) :: rest) := hat
    rw [item_run h1 h2'.1 (by dsimp only; decide) hat']
    have hat3 : At all (k + (itP x []).length) ((.sign "]", j) :: rest) := by
      have := At.app hat'
      rw [tkP_len] at this
      exact this
    obtain ⟨f'', rfl⟩ : ∃ f'', f' = f'' + 1 := ⟨f' - 1, by simp at hf; omega⟩
    unfold productL
    rw [if_pos (by rw [hat3.sees]; dsimp only; decide)]
    rfl
  | x :: y :: u, k, i, f, acc, j, rest, hu, hf, hat => by
    obtain ⟨f', rfl⟩ : ∃ f', f = f' + 1 := ⟨f - 1, by simp at hf; omega⟩
    obtain ⟨h1, h2⟩ := hu x List.mem_cons_self
    have h2' : ((["]"] : List Str) ++ (["^"] : List Str)).any (· == x.1) = false := h2
    rw [List.any_append, Bool.or_eq_false_iff] at h2'
    have hy := (hu y (by simp)).2
    have hy' : ((["]"] : List Str) ++ (["^"] : List Str)).any (· == y.1) = false := hy
    rw [List.any_append, Bool.or_eq_false_iff] at hy'
    have e : isP (x :: y :: u) = itP x [32] ++ isP (y :: u) := rfl
    rw [e, tkP_append, List.append_assoc] at hat
    obtain ⟨t, r, et, ht⟩ : ∃ t r, tkP (i + (txP (itP x [32])).length) (isP (y :: u)) ++ (.sign "]", j) :: rest = t :: r ∧ valIn t.1 ["^"] = false := by
      have hn : ∀ (z : Str × Int) (b : List Nat) (i : Nat), ∃ r, tkP i (itP z b) = (.name z.1, i) :: r := fun z b i => by
        unfold itP
        split
        · exact ⟨_, rfl⟩
        · exact ⟨_, rfl⟩
      cases u with
      | nil =>
        obtain ⟨r, er⟩ := hn y [] (i + (txP (itP x [32])).length)
        refine ⟨(.name y.1, i + (txP (itP x [32])).length), r ++ (.sign "]", j) :: rest, ?_, hy'.2⟩
        show tkP _ (itP y []) ++ _ = _
        rw [er]
        rfl
      | cons z u =>
        obtain ⟨r, er⟩ := hn y [32] (i + (txP (itP x [32])).length)
        refine ⟨(.name y.1, i + (txP (itP x [32])).length), r ++ (tkP (i + (txP (itP x [32])).length + (txP (itP y [32])).length) (isP (z :: u)) ++ (.sign "]", j) :: rest), ?_, hy'.2⟩
        show tkP _ (itP y [32] ++ isP (z :: u)) ++ _ = _
        rw [tkP_append, er]
        simp
    have hat0 := hat
    rw [et] at hat
    rw [item_run h1 h2'.1 ht hat]
    have hat3 : At all (k + (itP x [32]).length) (tkP (i + (txP (itP x [32])).length) (isP (y :: u)) ++ (.sign "]", j) :: rest) := by
      have := At.app hat0
      rw [tkP_len] at this
      exact this
    rw [items_run (y :: u) _ _ f' _ j rest (fun z hz => hu z (List.mem_cons_of_mem _ hz)) (by simp at hf ⊢; omega) hat3, e]
    simp only [prL, List.length_append, List.append_assoc, List.cons_append, List.nil_append]
    congr 2
    omega
theorem isP_len : ∀ u : Un, u.length ≤ (isP u).length
  | [] => Nat.le_refl _
  | [x] => by
    show 1 ≤ (itP x []).length
    unfold itP
    split <;> simp
  | x :: y :: u => by
    have ih := isP_len (y :: u)
    show _ ≤ (itP x [32] ++ isP (y :: u)).length
    rw [List.length_append]
    have : 1 ≤ (itP x [32]).length := by
      unfold itP
      split <;> simp
    simp only [List.length_cons] at ih ⊢
    omega
/-- a product is read -/
theorem unit_run {u : Un} {b : List Nat} {k i : Nat} {rest : List (Tkn × Nat)} (hu : UnOk u) (hat : At all k (tkP i (unP u b) ++ rest)) : productM all n k = .ok (.tuple (prL (i + 1) u), k + (unP u b).length) := by
  have e : tkP i (unP u b) = (.sign "[", i) :: (tkP (i + 1 + 0) (isP u) ++ [(.sign "]", i + 1 + 0 + (txP (isP u)).length)]) := by
    show (.sign "[", i) :: tkP (i + 1 + 0) (isP u ++ [sg "]" b]) = _
    rw [tkP_append]
    rfl
  rw [e] at hat
  have hat1 : At all k ((.sign "[", i) :: (tkP (i + 1 + 0) (isP u) ++ (.sign "]", i + 1 + 0 + (txP (isP u)).length) :: rest)) := by simpa using hat
  have hl : k + ((isP u).length + 2) ≤ all.length := by
    have h1 := congrArg List.length (show all.drop k = _ from hat1)
    simp only [List.length_drop, List.length_cons, List.length_append, tkP_len] at h1
    omega
  have h3 := isP_len u
  unfold productM expectS
  rw [if_pos (by rw [hat1.sees]; dsimp only; decide)]
  show productL all n (all.length + 1) [] (k + 1) = _
  rw [items_run u (k + 1) (i + 1 + 0) (all.length + 1) [] _ rest hu (by omega) hat1.next]
  simp only [unP, List.length_cons, List.length_append, List.nil_append, Nat.add_zero]
  congr 2
  simp
  omega
end
end Px

/-! ### expressions in parentheses are operands -/
namespace Px
open PySem PySem.Spec PyProof.Rows L2 Ly Lx TL Lw
section
variable {all : List (Tkn × Nat)} {n : Nat}
theorem close_run {k j : Nat} {rest : List (Tkn × Nat)} (hat : At all k ((.sign ")", j) :: rest)) : expectS all n ")" k = .ok (.none, k + 1) := by
  unfold expectS
  rw [if_pos (by rw [hat.sees]; dsimp only; decide)]
theorem hd_close {lv : List (List Str)} {j : Nat} {rest : List (Tkn × Nat)} (h : (avoid lv).any (· == (")" : Str)) = false) : Hd (avoid lv) ((.sign ")", j) :: rest) := ⟨_, _, rfl, h⟩
/-- one operand is an expression -/
theorem expr_one {E : Nat → Nat → Res} {B m k : Nat} {d : PyData} {ts rest : List (Tkn × Nat)} (hB : 1 ≤ B) (hg : Good (all := all) (n := n) E B d ts) (hat : At all k (ts ++ rest)) (hm : B ≤ m) (hr : Hd (avoid lv0) rest) : exprM all n E m k = .ok (d, k + ts.length) := by
  have := lev_expr (all := all) (n := n) (E := E) hB m k d ts [] rest (by simpa [flat] using hat) (fun t ht => by simp at ht) hg (fun t ht => by simp at ht) (by simpa using hm) hr rfl
  simpa [flat, treeM, lv0, lv1, lv2, lv3, lv4, lv5, dec] using this
theorem good_par {E : Nat → Nat → Res} {B i j : Nat} {d : PyData} {ts : List (Tkn × Nat)} (hB : 1 ≤ B) (hg : Good (all := all) (n := n) E B d ts) : Good (all := all) (n := n) (exprM all n E) (B + 1) d ((.sign "(", i) :: ts ++ [(.sign ")", j)]) := by
  refine ⟨⟨_, _, rfl, by dsimp only; decide⟩, fun m k rest hm hat hr => ?_⟩
  obtain ⟨m', rfl⟩ : ∃ m', m = m' + 1 := ⟨m - 1, by omega⟩
  have hat1 : At all k ((.sign "(", i) :: (ts ++ ((.sign ")", j) :: rest))) := by simpa using hat
  have h1 := expr_one hB hg hat1.next (show B ≤ m' by omega) (hd_close (by decide))
  have hat2 : At all (k + 1 + ts.length) ((.sign ")", j) :: rest) := At.app hat1.next
  have hp : primM all n (exprM all n E) (m' + 1) k = .ok (d, k + 1 + ts.length + 1) := by
    unfold primM
    rw [if_neg (by rw [hat1.kind]; exact (by decide : ¬ (("sign" : Str) == "number") = true)), if_neg (by rw [hat1.sees]; dsimp only; decide), if_neg (by rw [hat1.sees]; dsimp only; decide), if_pos (by rw [hat1.sees]; dsimp only; decide), h1]
    show bindR (expectS all n ")" (k + 1 + ts.length)) _ = _
    rw [close_run hat2]
    rfl
  unfold powersM
  rw [hp]
  show powL all n (m' + 1) d (k + 1 + ts.length + 1) = _
  rw [powL_end hat2.next hr (by omega)]
  simp only [List.length_cons, List.length_append, List.length_nil]
  congr 2
  omega
theorem tree_bin (s : Str) (hs : s ∈ (["or", "and", "<", "<=", "==", "+", "-", "*", "/"] : List Str)) (d e : PyData) (i : Nat) (ts : List (Tkn × Nat)) : treeM lv0 d [⟨s, i, e, ts⟩] = node (opName s) d e i := by
  simp only [List.mem_cons, List.not_mem_nil, or_false] at hs
  rcases hs with rfl | rfl | rfl | rfl | rfl | rfl | rfl | rfl | rfl <;> rfl
/-- ((a) s (b)) -/
theorem good_bin {E : Nat → Nat → Res} {B i1 i2 i3 i4 i5 i6 i7 : Nat} {d e : PyData} {ts us : List (Tkn × Nat)} {s : Str} (hs : s ∈ (["or", "and", "<", "<=", "==", "+", "-", "*", "/"] : List Str)) (hB : 1 ≤ B) (hd : Good (all := all) (n := n) E B d ts) (he : Good (all := all) (n := n) E B e us) :
    Good (all := all) (n := n) (exprM all n (exprM all n E)) (B + 3) (node (opName s) d e i4) ((.sign "(", i1) :: ((.sign "(", i2) :: ts ++ [(.sign ")", i3)] ++ ((sgTok s, i4) :: ((.sign "(", i5) :: us ++ [(.sign ")", i6)]))) ++ [(.sign ")", i7)]) := by
  have g1 := good_par (i := i2) (j := i3) hB hd
  have g2 := good_par (i := i5) (j := i6) hB he
  refine ⟨⟨_, _, rfl, by dsimp only; decide⟩, fun m k rest hm hat hr => ?_⟩
  obtain ⟨m', rfl⟩ : ∃ m', m = m' + 1 := ⟨m - 1, by omega⟩
  have hat1 : At all k ((.sign "(", i1) :: (((.sign "(", i2) :: ts ++ [(.sign ")", i3)]) ++ flat [⟨s, i4, e, (.sign "(", i5) :: us ++ [(.sign ")", i6)]⟩] ++ ((.sign ")", i7) :: rest))) := by simpa [flat] using hat
  have h1 := lev_expr (all := all) (n := n) (E := exprM all n E) (B := B + 1) (by omega) m' (k + 1) d _ [⟨s, i4, e, (.sign "(", i5) :: us ++ [(.sign ")", i6)]⟩] ((.sign ")", i7) :: rest) hat1.next
    (fun t ht => by
      have : t = ⟨s, i4, e, (.sign "(", i5) :: us ++ [(.sign ")", i6)]⟩ := by simpa using ht
      subst this
      have h2 : ∀ s ∈ (["or", "and", "<", "<=", "==", "+", "-", "*", "/"] : List Str), (lv0.flatten).any (· == s) = true := by decide
      exact h2 s hs) g1 (fun t ht => by
      have : t = ⟨s, i4, e, (.sign "(", i5) :: us ++ [(.sign ")", i6)]⟩ := by simpa using ht
      subst this
      exact g2) (by simp; omega) (hd_close (by decide)) (by
      have h2 : ∀ s ∈ (["or", "and", "<", "<=", "==", "+", "-", "*", "/"] : List Str), (if cmps.any (· == s) = true then !false && true else if (["or", "and"] : List Str).any (· == s) = true then true else true) = true := by decide
      exact h2 s hs)
  rw [tree_bin s hs] at h1
  generalize hT : ((.sign "(", i2) :: ts ++ [(.sign ")", i3)]) ++ flat [⟨s, i4, e, (.sign "(", i5) :: us ++ [(.sign ")", i6)]⟩] = T at *
  have hTl := congrArg List.length hT
  rw [List.length_append] at hTl
  rw [hTl] at h1
  have hat2 : At all (k + 1 + T.length) ((.sign ")", i7) :: rest) := At.app hat1.next
  have hp : primM all n (exprM all n (exprM all n E)) (m' + 1) k = .ok (node (opName s) d e i4, k + 1 + T.length + 1) := by
    unfold primM
    rw [if_neg (by rw [hat1.kind]; exact (by decide : ¬ (("sign" : Str) == "number") = true)), if_neg (by rw [hat1.sees]; dsimp only; decide), if_neg (by rw [hat1.sees]; dsimp only; decide), if_pos (by rw [hat1.sees]; dsimp only; decide), h1]
    show bindR (expectS all n ")" (k + 1 + T.length)) _ = _
    rw [close_run hat2]
    rfl
  unfold powersM
  rw [hp]
  show powL all n (m' + 1) _ (k + 1 + T.length + 1) = _
  rw [powL_end hat2.next hr (by omega)]
  have : T.length = 1 + ts.length + 1 + (1 + (1 + us.length + 1)) := by
    rw [← hTl]
    simp [flat]
    omega
  rw [this]
  simp only [List.length_cons, List.length_append, List.length_nil]
  congr 2
  omega
end
end Px

/-! ### the other forms -/
namespace Px
open PySem PySem.Spec PyProof.Rows L2 Ly Lx TL Lw
section
variable {all : List (Tkn × Nat)} {n : Nat}
theorem chainL_stop {ops : List Str} {f : Nat → Nat → Res} {m k : Nat} {e : PyData} {rest : List (Tkn × Nat)} (hat : At all k rest) (hr : Hd ops rest) (hm : 1 ≤ m) : chainL all n ops f m e k = .ok (e, k) := by
  obtain ⟨m', rfl⟩ : ∃ m', m = m' + 1 := ⟨m - 1, by omega⟩
  unfold chainL
  rw [if_neg (by rw [hr.sees hat]; exact Bool.false_ne_true)]
theorem word_run {v : Str} {k j : Nat} {rest : List (Tkn × Nat)} (h : (([v] : List Str).any (· == v)) = true) (hat : At all k ((.word v, j) :: rest)) : expectS all n v k = .ok (.none, k + 1) := by
  unfold expectS
  rw [if_pos (by rw [hat.sees]; exact h)]
theorem sign_run {v : Str} {k j : Nat} {rest : List (Tkn × Nat)} (h : (([v] : List Str).any (· == v)) = true) (hat : At all k ((.sign v, j) :: rest)) : expectS all n v k = .ok (.none, k + 1) := by
  unfold expectS
  rw [if_pos (by rw [hat.sees]; exact h)]
theorem name_run {w : Str} {k j : Nat} {rest : List (Tkn × Nat)} (hat : At all k ((.name w, j) :: rest)) : expectKind all n "name" k = .ok (.str w, k + 1) := by
  unfold expectKind
  rw [if_pos (by rw [hat.kind]; exact (by decide : (("name" : Str) == "name") = true)), hat.tv]
  rfl
/-- ( an expression ) where the expression is no operand -/
theorem good_in {E : Nat → Nat → Res} {B i j : Nat} {d : PyData} {ts : List (Tkn × Nat)}
    (h : ∀ (m k : Nat) (rest : List (Tkn × Nat)), B ≤ m → At all k (ts ++ rest) → Hd (avoid lv0) rest → E m k = .ok (d, k + ts.length)) : Good (all := all) (n := n) E (B + 1) d ((.sign "(", i) :: ts ++ [(.sign ")", j)]) := by
  refine ⟨⟨_, _, rfl, by dsimp only; decide⟩, fun m k rest hm hat hr => ?_⟩
  obtain ⟨m', rfl⟩ : ∃ m', m = m' + 1 := ⟨m - 1, by omega⟩
  have hat1 : At all k ((.sign "(", i) :: (ts ++ ((.sign ")", j) :: rest))) := by simpa using hat
  have h1 := h m' (k + 1) ((.sign ")", j) :: rest) (by omega) hat1.next (hd_close (by decide))
  have hat2 : At all (k + 1 + ts.length) ((.sign ")", j) :: rest) := At.app hat1.next
  have hp : primM all n E (m' + 1) k = .ok (d, k + 1 + ts.length + 1) := by
    unfold primM
    rw [if_neg (by rw [hat1.kind]; exact (by decide : ¬ (("sign" : Str) == "number") = true)), if_neg (by rw [hat1.sees]; dsimp only; decide), if_neg (by rw [hat1.sees]; dsimp only; decide), if_pos (by rw [hat1.sees]; dsimp only; decide), h1]
    show bindR (expectS all n ")" (k + 1 + ts.length)) _ = _
    rw [close_run hat2]
    rfl
  unfold powersM
  rw [hp]
  show powL all n (m' + 1) d (k + 1 + ts.length + 1) = _
  rw [powL_end hat2.next hr (by omega)]
  simp only [List.length_cons, List.length_append, List.length_nil]
  congr 2
  omega
/-- not (e), within -/
theorem not_run {E : Nat → Nat → Res} {B i1 : Nat} {d : PyData} {ts : List (Tkn × Nat)} (hB : 1 ≤ B) (hg : Good (all := all) (n := n) E B d ts) (m k : Nat) (rest : List (Tkn × Nat)) (hm : B + 1 ≤ m) (hat : At all k ((.word "not", i1) :: ts ++ rest)) (hr : Hd (avoid lv0) rest) :
    exprM all n E m k = .ok (.tuple [.str "not", d, .int (i1 : Int)], k + ((Tkn.word "not", i1) :: ts).length) := by
  obtain ⟨m', rfl⟩ : ∃ m', m = m' + 1 := ⟨m - 1, by omega⟩
  have hat1 : At all k ((.word "not", i1) :: (ts ++ rest)) := by simpa using hat
  have hav : Hd (avoid lv2) rest := by
    have e : avoid lv0 = (["or"] : List Str) ++ ((["and"] : List Str) ++ avoid lv2) := by simp [avoid, lv0, lv1]
    rw [e] at hr
    exact hr.right.right
  have hor : Hd ["or"] rest := by
    have e : avoid lv0 = (["or"] : List Str) ++ ((["and"] : List Str) ++ avoid lv2) := by simp [avoid, lv0, lv1]
    rw [e] at hr
    exact hr.left
  have hand : Hd ["and"] rest := by
    have e : avoid lv0 = (["or"] : List Str) ++ ((["and"] : List Str) ++ avoid lv2) := by simp [avoid, lv0, lv1]
    rw [e] at hr
    exact hr.right.left
  have h1 : plainM all n E m' (k + 1) = .ok (d, k + 1 + ts.length) := by
    have := lev_plain (all := all) (n := n) (E := E) hB m' (k + 1) d ts [] rest (by simpa [flat] using hat1.next) (fun t ht => by simp at ht) hg (fun t ht => by simp at ht) (by simp; omega) hav rfl
    simpa [flat, treeM, lv2, lv3, lv4, lv5, dec] using this
  have hat2 : At all (k + 1 + ts.length) rest := At.app hat1.next
  have hp : plainM all n E (m' + 1) k = .ok (.tuple [.str "not", d, .int (i1 : Int)], k + 1 + ts.length) := by
    unfold plainM
    rw [if_pos (by rw [hat1.sees]; dsimp only; decide), h1, hat1.wh]
    rfl
  have hb : bothM all n E (m' + 1) k = .ok (.tuple [.str "not", d, .int (i1 : Int)], k + 1 + ts.length) := by
    unfold bothM chainM
    rw [hp]
    exact chainL_stop hat2 hand (by omega)
  unfold exprM
  dsimp only
  rw [if_neg (by rw [hat1.sees]; dsimp only; decide), if_neg (by rw [hat1.sees]; dsimp only; decide)]
  unfold chainM
  rw [hb]
  show chainL all n ["or"] _ (m' + 1) _ (k + 1 + ts.length) = _
  rw [chainL_stop hat2 hor (by omega)]
  simp only [List.length_cons]
  congr 2
  omega
/-- if a then b else c, within -/
theorem if_run {E : Nat → Nat → Res} {B i1 i2 i3 : Nat} {a b c : PyData} {ta tb tc : List (Tkn × Nat)} (hB : 1 ≤ B) (ha : Good (all := all) (n := n) E B a ta) (hb : Good (all := all) (n := n) E B b tb) (hc : Good (all := all) (n := n) E B c tc) (m k : Nat) (rest : List (Tkn × Nat)) (hm : B + 1 ≤ m)
    (hat : At all k ((.word "if", i1) :: ta ++ (.word "then", i2) :: tb ++ (.word "else", i3) :: tc ++ rest)) (hr : Hd (avoid lv0) rest) :
    exprM all n (exprM all n E) m k = .ok (.tuple [.str "if", a, b, c, .int (i1 : Int)], k + ((Tkn.word "if", i1) :: ta ++ (Tkn.word "then", i2) :: tb ++ (Tkn.word "else", i3) :: tc).length) := by
  obtain ⟨m', rfl⟩ : ∃ m', m = m' + 1 := ⟨m - 1, by omega⟩
  have hat1 : At all k ((.word "if", i1) :: (ta ++ ((.word "then", i2) :: (tb ++ ((.word "else", i3) :: (tc ++ rest)))))) := by simpa using hat
  have h1 := expr_one hB ha hat1.next (show B ≤ m' by omega) ⟨_, _, rfl, by dsimp only; decide⟩
  have hat2 : At all (k + 1 + ta.length) ((.word "then", i2) :: (tb ++ ((.word "else", i3) :: (tc ++ rest)))) := At.app hat1.next
  have h2 := expr_one hB hb hat2.next (show B ≤ m' by omega) ⟨_, _, rfl, by dsimp only; decide⟩
  have hat3 : At all (k + 1 + ta.length + 1 + tb.length) ((.word "else", i3) :: (tc ++ rest)) := At.app hat2.next
  have h3 := expr_one hB hc hat3.next (show B ≤ m' by omega) hr
  have eU : exprM all n (exprM all n E) (m' + 1) k = if seesB all ["if"] k = true then ifM all n (exprM all n E m') (wh all n k) (k + 1) else if seesB all ["let"] k = true then letM all n (exprM all n E m') (wh all n k) (k + 1)
      else chainM all n ["or"] (bothM all n (exprM all n E)) (m' + 1) k := rfl
  rw [eU]
  rw [if_pos (by rw [hat1.sees]; dsimp only; decide), hat1.wh]
  unfold ifM
  rw [h1]
  show bindR (expectS all n "then" (k + 1 + ta.length)) _ = _
  rw [word_run (by decide) hat2]
  show bindR (exprM all n E m' (k + 1 + ta.length + 1)) _ = _
  rw [h2]
  show bindR (expectS all n "else" (k + 1 + ta.length + 1 + tb.length)) _ = _
  rw [word_run (by decide) hat3]
  show bindR (exprM all n E m' (k + 1 + ta.length + 1 + tb.length + 1)) _ = _
  rw [h3]
  show Except.ok _ = _
  simp only [List.length_cons, List.length_append]
  congr 2
  omega
/-- let x = a in b, within -/
theorem let_run {E : Nat → Nat → Res} {B i1 i2 i3 i4 : Nat} {w : Str} {a b : PyData} {ta tb : List (Tkn × Nat)} (hB : 1 ≤ B) (ha : Good (all := all) (n := n) E B a ta) (hb : Good (all := all) (n := n) E B b tb) (m k : Nat) (rest : List (Tkn × Nat)) (hm : B + 1 ≤ m)
    (hat : At all k ((.word "let", i1) :: (.name w, i2) :: (.sign "=", i3) :: ta ++ (.word "in", i4) :: tb ++ rest)) (hr : Hd (avoid lv0) rest) :
    exprM all n (exprM all n E) m k = .ok (.tuple [.str "let", .str w, a, b, .int (i1 : Int)], k + ((Tkn.word "let", i1) :: (Tkn.name w, i2) :: (Tkn.sign "=", i3) :: ta ++ (Tkn.word "in", i4) :: tb).length) := by
  obtain ⟨m', rfl⟩ : ∃ m', m = m' + 1 := ⟨m - 1, by omega⟩
  have hat1 : At all k ((.word "let", i1) :: (.name w, i2) :: (.sign "=", i3) :: (ta ++ ((.word "in", i4) :: (tb ++ rest)))) := by simpa using hat
  have hat2 := hat1.next.next.next
  have h1 := expr_one hB ha hat2 (show B ≤ m' by omega) ⟨_, _, rfl, by dsimp only; decide⟩
  have hat3 : At all (k + 1 + 1 + 1 + ta.length) ((.word "in", i4) :: (tb ++ rest)) := At.app hat2
  have h2 := expr_one hB hb hat3.next (show B ≤ m' by omega) hr
  have eU : exprM all n (exprM all n E) (m' + 1) k = if seesB all ["if"] k = true then ifM all n (exprM all n E m') (wh all n k) (k + 1) else if seesB all ["let"] k = true then letM all n (exprM all n E m') (wh all n k) (k + 1)
      else chainM all n ["or"] (bothM all n (exprM all n E)) (m' + 1) k := rfl
  rw [eU]
  rw [if_neg (by rw [hat1.sees]; dsimp only; decide), if_pos (by rw [hat1.sees]; dsimp only; decide), hat1.wh]
  unfold letM
  rw [name_run hat1.next]
  show bindR (expectS all n "=" (k + 1 + 1)) _ = _
  rw [sign_run (by decide) hat1.next.next]
  show bindR (exprM all n E m' (k + 1 + 1 + 1)) _ = _
  rw [h1]
  show bindR (expectS all n "in" (k + 1 + 1 + 1 + ta.length)) _ = _
  rw [word_run (by decide) hat3]
  show bindR (exprM all n E m' (k + 1 + 1 + 1 + ta.length + 1)) _ = _
  rw [h2]
  show Except.ok _ = _
  simp only [List.length_cons, List.length_append]
  congr 2
  omega
end
end Px

/-! ### numbers, truths, calls, iterations, powers -/
namespace Px
open PySem PySem.Spec PyProof.Rows L2 Ly Lx TL Lw
abbrev noName (w : Str) : Prop := (["true", "false", "(", "iterate", "not", "if", "let"] : List Str).any (· == w) = false
section
variable {all : List (Tkn × Nat)} {n : Nat}
theorem noName.l {w : Str} (h : noName w) : (["true", "false", "(", "iterate"] : List Str).any (· == w) = false ∧ (["not", "if", "let"] : List Str).any (· == w) = false := by
  have hw' : ((["true", "false", "(", "iterate"] : List Str) ++ (["not", "if", "let"] : List Str)).any (· == w) = false := h
  rw [List.any_append, Bool.or_eq_false_iff] at hw'
  exact hw'
theorem good_bool {E : Nat → Nat → Res} {B i : Nat} (hB : 1 ≤ B) (v : Bool) : Good (all := all) (n := n) E B (.tuple [.str "bool", .bool v]) [(.word (if v = true then "true" else "false"), i)] := by
  cases v with
  | true =>
    refine ⟨⟨_, _, rfl, by dsimp only; decide⟩, fun m k rest hm hat hr => ?_⟩
    obtain ⟨m', rfl⟩ : ∃ m', m = m' + 1 := ⟨m - 1, by omega⟩
    have hat1 : At all k ((.word "true", i) :: rest) := hat
    unfold powersM primM
    rw [if_neg (by rw [hat1.kind]; exact (by decide : ¬ (("word" : Str) == "number") = true)), if_pos (by rw [hat1.sees]; dsimp only; decide)]
    exact powL_end hat1.next hr (by omega)
  | false =>
    refine ⟨⟨_, _, rfl, by dsimp only; decide⟩, fun m k rest hm hat hr => ?_⟩
    obtain ⟨m', rfl⟩ : ∃ m', m = m' + 1 := ⟨m - 1, by omega⟩
    have hat1 : At all k ((.word "false", i) :: rest) := hat
    unfold powersM primM
    rw [if_neg (by rw [hat1.kind]; exact (by decide : ¬ (("word" : Str) == "number") = true)), if_neg (by rw [hat1.sees]; dsimp only; decide), if_pos (by rw [hat1.sees]; dsimp only; decide)]
    exact powL_end hat1.next hr (by omega)
theorem good_numU {E : Nat → Nat → Res} {B i j t d : Nat} {u : Un} {b : List Nat} (hB : 1 ≤ B) (hu : UnOk u) : Good (all := all) (n := n) E B (.tuple [.str "number", .tuple [.int (t : Int), .int (d : Int)], .tuple (prL (j + 1) u), .int (i : Int)]) ((.num t d, i) :: tkP j (unP u b)) := by
  refine ⟨⟨_, _, rfl, rfl⟩, fun m k rest hm hat hr => ?_⟩
  obtain ⟨m', rfl⟩ : ∃ m', m = m' + 1 := ⟨m - 1, by omega⟩
  have hat1 : At all k ((.num t d, i) :: (tkP j (unP u b) ++ rest)) := hat
  have hs : seesB all ["["] (k + 1) = true := by
    have h2 : At all (k + 1) ((.sign "[", j) :: (tkP (j + 1 + 0) (isP u ++ [sg "]" b]) ++ rest)) := hat1.next
    rw [h2.sees]
    dsimp only
    decide
  have hun := unit_run hu hat1.next (n := n)
  have hat2 : At all (k + 1 + (unP u b).length) rest := by
    have := At.app hat1.next
    rw [tkP_len] at this
    exact this
  unfold powersM primM
  rw [if_pos (by rw [hat1.kind]; exact (by decide : (("number" : Str) == "number") = true))]
  unfold numberM
  rw [if_pos hs, hun, hat1.tv, hat1.wh]
  show powL all n (m' + 1) _ (k + 1 + (unP u b).length) = _
  rw [powL_end hat2 hr (by omega)]
  simp only [List.length_cons, tkP_len]
  congr 2
  omega
theorem good_num0 {E : Nat → Nat → Res} {B i t d : Nat} (hB : 1 ≤ B) : Good (all := all) (n := n) E B (.tuple [.str "number", .tuple [.int (t : Int), .int (d : Int)], .tuple [], .int (i : Int)]) [(.num t d, i)] := by
  refine ⟨⟨_, _, rfl, rfl⟩, fun m k rest hm hat hr => ?_⟩
  obtain ⟨m', rfl⟩ : ∃ m', m = m' + 1 := ⟨m - 1, by omega⟩
  have hat2 : At all (k + 1) rest := At.next hat
  have h1 : Hd ((["^"] : List Str) ++ ((["("] : List Str) ++ (["["] : List Str))) rest := hr
  unfold powersM primM
  rw [if_pos (by rw [At.kind hat]; exact (by decide : (("number" : Str) == "number") = true))]
  unfold numberM
  rw [if_neg (by rw [h1.right.right.sees hat2]; exact Bool.false_ne_true), At.tv hat, At.wh hat]
  exact powL_end hat2 hr (by omega)
/-- a name and its arguments, in brackets -/
theorem good_args {E : Nat → Nat → Res} {B i j : Nat} {w : Str} {args : List PyData} {ts : List (Tkn × Nat)} (hw : noName w) (hB : 1 ≤ B)
    (h : ∀ (m k : Nat) (rest : List (Tkn × Nat)), B ≤ m → At all k (ts ++ rest) → argsM all n (E m) k = .ok (.tuple args, k + ts.length)) :
    Good (all := all) (n := n) E (B + 1) (.tuple [.str "call", .str w, .tuple args, .int (i : Int)]) ((.name w, i) :: (.sign "(", j) :: ts) := by
  refine ⟨⟨_, _, rfl, hw.l.2⟩, fun m k rest hm hat hr => ?_⟩
  obtain ⟨m', rfl⟩ : ∃ m', m = m' + 1 := ⟨m - 1, by omega⟩
  have hat1 : At all (k + 1) ((.sign "(", j) :: (ts ++ rest)) := At.next hat
  have hat2 : At all (k + 1 + 1 + ts.length) rest := At.app hat1.next
  unfold powersM
  rw [prim_name hw.l.1 hat, if_pos (by rw [hat1.sees]; dsimp only; decide), h m' (k + 1 + 1) rest (by omega) hat1.next]
  show powL all n (m' + 1) _ (k + 1 + 1 + ts.length) = _
  rw [powL_end hat2 hr (by omega)]
  simp only [List.length_cons]
  congr 2
  omega
theorem args0 {E : Nat → Res} {j k : Nat} {rest : List (Tkn × Nat)} (hat : At all k ([(.sign ")", j)] ++ rest)) : argsM all n E k = .ok (.tuple [], k + 1) := by
  have hat1 : At all k ((.sign ")", j) :: rest) := hat
  unfold argsM
  rw [if_pos (by rw [hat1.sees]; dsimp only; decide)]
theorem argsL_end {E : Nat → Res} {f j k : Nat} {acc : List PyData} {rest : List (Tkn × Nat)} (hat : At all k ((.sign ")", j) :: rest)) : argsL all n E (f + 1) acc k = .ok (.tuple acc, k + 1) := by
  unfold argsL
  rw [if_neg (by rw [hat.sees]; dsimp only; decide), close_run hat]
  rfl
theorem first_no {E : Nat → Nat → Res} {B k : Nat} {d : PyData} {ts rest : List (Tkn × Nat)} (hf : ∃ t r, ts = t :: r ∧ valIn t.1 [")"] = false) (hat : At all k (ts ++ rest)) : ¬ seesB all [")"] k = true := by
  obtain ⟨t, r, e, h⟩ := hf
  subst e
  have hat1 : At all k (t :: (r ++ rest)) := hat
  rw [hat1.sees, h]
  exact Bool.false_ne_true
theorem args1 {E : Nat → Nat → Res} {B j k m : Nat} {d : PyData} {ts rest : List (Tkn × Nat)} (hB : 1 ≤ B) (hg : Good (all := all) (n := n) E B d ts) (hf : ∃ t r, ts = t :: r ∧ valIn t.1 [")"] = false) (hm : B ≤ m) (hat : At all k ((ts ++ [(.sign ")", j)]) ++ rest)) :
    argsM all n (exprM all n E m) k = .ok (.tuple [d], k + (ts ++ [((Tkn.sign ")"), j)]).length) := by
  have hat1 : At all k (ts ++ ((.sign ")", j) :: rest)) := by simpa using hat
  have h1 := expr_one hB hg hat1 hm (hd_close (by decide))
  have hat2 : At all (k + ts.length) ((.sign ")", j) :: rest) := At.app hat1
  unfold argsM
  rw [if_neg (first_no (E := E) (B := B) (d := d) hf hat1), h1]
  show argsL all n _ (all.length + 1) [d] (k + ts.length) = _
  rw [argsL_end hat2]
  simp only [List.length_append, List.length_cons, List.length_nil]
  congr 2
theorem args2 {E : Nat → Nat → Res} {B i j k m : Nat} {d e : PyData} {ts us rest : List (Tkn × Nat)} (hB : 1 ≤ B) (hg : Good (all := all) (n := n) E B d ts) (hf : ∃ t r, ts = t :: r ∧ valIn t.1 [")"] = false) (he : Good (all := all) (n := n) E B e us) (hm : B ≤ m)
    (hat : At all k ((ts ++ (.sign ",", i) :: us ++ [(.sign ")", j)]) ++ rest)) : argsM all n (exprM all n E m) k = .ok (.tuple [d, e], k + (ts ++ ((Tkn.sign ","), i) :: us ++ [((Tkn.sign ")"), j)]).length) := by
  have hat1 : At all k (ts ++ ((.sign ",", i) :: (us ++ ((.sign ")", j) :: rest)))) := by simpa using hat
  have h1 := expr_one hB hg hat1 hm ⟨_, _, rfl, by dsimp only; decide⟩
  have hat2 : At all (k + ts.length) ((.sign ",", i) :: (us ++ ((.sign ")", j) :: rest))) := At.app hat1
  have h2 := expr_one hB he hat2.next hm (hd_close (by decide))
  have hat3 : At all (k + ts.length + 1 + us.length) ((.sign ")", j) :: rest) := At.app hat2.next
  have hl : 1 ≤ all.length := by
    have h1 := congrArg List.length (show all.drop (k + ts.length) = _ from hat2)
    simp only [List.length_drop, List.length_cons] at h1
    omega
  obtain ⟨f, hf'⟩ : ∃ f, all.length = f + 1 := ⟨all.length - 1, by omega⟩
  unfold argsM
  rw [if_neg (first_no (E := E) (B := B) (d := d) hf hat1), h1]
  show argsL all n _ (all.length + 1) [d] (k + ts.length) = _
  conv => lhs; unfold argsL
  rw [if_pos (by rw [hat2.sees]; dsimp only; decide), h2]
  show argsL all n _ all.length [d, e] (k + ts.length + 1 + us.length) = _
  rw [hf', argsL_end hat3]
  simp only [List.length_append, List.length_cons, List.length_nil]
  congr 2
  omega
/-- a power behind an operand in brackets -/
theorem good_powE {E : Nat → Nat → Res} {B i j l h : Nat} {d : PyData} {ts : List (Tkn × Nat)} {q : Int} {b : List Nat} (hB : 1 ≤ B) (hq : q.natAbs ≤ 9) (hg : Good (all := all) (n := n) E B d ts) :
    Good (all := all) (n := n) (exprM all n E) (B + 2) (.tuple [.str "power", d, .int q, .int (l : Int)]) ((.sign "(", i) :: ts ++ [(.sign ")", j)] ++ (.sign "^", l) :: tkP h (pwP q b)) := by
  refine ⟨⟨_, _, rfl, by dsimp only; decide⟩, fun m k rest hm hat hr => ?_⟩
  obtain ⟨m', rfl⟩ : ∃ m', m = m' + 1 + 1 := ⟨m - 2, by omega⟩
  have hat1 : At all k ((.sign "(", i) :: (ts ++ ((.sign ")", j) :: (.sign "^", l) :: (tkP h (pwP q b) ++ rest)))) := by simpa using hat
  have h1 := expr_one hB hg hat1.next (show B ≤ m' + 1 by omega) (hd_close (by decide))
  have hat2 : At all (k + 1 + ts.length) ((.sign ")", j) :: (.sign "^", l) :: (tkP h (pwP q b) ++ rest)) := At.app hat1.next
  have hat3 := hat2.next
  have hpw := power_run hq hat3.next (n := n)
  have hat4 : At all (k + 1 + ts.length + 1 + 1 + (pwP q b).length) rest := by
    have := At.app hat3.next
    rw [tkP_len] at this
    exact this
  have hp : primM all n (exprM all n E) (m' + 1 + 1) k = .ok (d, k + 1 + ts.length + 1) := by
    unfold primM
    rw [if_neg (by rw [hat1.kind]; exact (by decide : ¬ (("sign" : Str) == "number") = true)), if_neg (by rw [hat1.sees]; dsimp only; decide), if_neg (by rw [hat1.sees]; dsimp only; decide), if_pos (by rw [hat1.sees]; dsimp only; decide), h1]
    show bindR (expectS all n ")" (k + 1 + ts.length)) _ = _
    rw [close_run hat2]
    rfl
  unfold powersM
  rw [hp]
  show powL all n (m' + 1 + 1) d (k + 1 + ts.length + 1) = _
  conv => lhs; unfold powL
  rw [if_pos (by rw [hat3.sees]; dsimp only; decide), if_neg (by omega), hpw, hat3.wh]
  show powL all n (m' + 1) _ (k + 1 + ts.length + 1 + 1 + (pwP q b).length) = _
  rw [powL_end hat4 hr (by omega)]
  simp only [List.length_cons, List.length_append, List.length_nil, tkP_len]
  congr 2
  omega
end
end Px

/-! ### each printed expression is read back -/
namespace Px
open PySem PySem.Spec PyProof.Rows L2 Ly Lx TL Lw
section
variable {all : List (Tkn × Nat)} {n : Nat}
theorem Good.mono {E : Nat → Nat → Res} {B B' : Nat} {d : PyData} {ts : List (Tkn × Nat)} (h : Good (all := all) (n := n) E B d ts) (hB : B ≤ B') : Good (all := all) (n := n) E B' d ts := ⟨h.1, fun m k rest hm => h.2 m k rest (by omega)⟩
theorem prim_par {E : Nat → Nat → Res} {B i j m k : Nat} {d : PyData} {ts rest : List (Tkn × Nat)} (hB : 1 ≤ B) (hg : Good (all := all) (n := n) E B d ts) (hm : B ≤ m) (hat : At all k ((.sign "(", i) :: (ts ++ (.sign ")", j) :: rest))) :
    primM all n (exprM all n E) (m + 1) k = .ok (d, k + 1 + ts.length + 1) := by
  have h1 := expr_one hB hg hat.next hm (hd_close (by decide))
  have hat2 : At all (k + 1 + ts.length) ((.sign ")", j) :: rest) := At.app hat.next
  unfold primM
  rw [if_neg (by rw [hat.kind]; exact (by decide : ¬ (("sign" : Str) == "number") = true)), if_neg (by rw [hat.sees]; dsimp only; decide), if_neg (by rw [hat.sees]; dsimp only; decide), if_pos (by rw [hat.sees]; dsimp only; decide), h1]
  show bindR (expectS all n ")" (k + 1 + ts.length)) _ = _
  rw [close_run hat2]
  rfl
theorem good_iter {E : Nat → Nat → Res} {B i1 i2 i3 i4 i5 i6 v : Nat} {w : Str} {d : PyData} {ts : List (Tkn × Nat)} (hB : 1 ≤ B) (hv : v ≤ 20) (hg : Good (all := all) (n := n) E B d ts) :
    Good (all := all) (n := n) (exprM all n E) (B + 2) (.tuple [.str "iterate", .str w, .int (v : Int), d, .int (i1 : Int)]) ((.word "iterate", i1) :: (.name w, i2) :: (.num v 1, i3) :: (.word "from", i4) :: (.sign "(", i5) :: ts ++ [(.sign ")", i6)]) := by
  refine ⟨⟨_, _, rfl, by dsimp only; decide⟩, fun m k rest hm hat hr => ?_⟩
  obtain ⟨m', rfl⟩ : ∃ m', m = m' + 1 + 1 := ⟨m - 2, by omega⟩
  have hat1 : At all k ((.word "iterate", i1) :: (.name w, i2) :: (.num v 1, i3) :: (.word "from", i4) :: (.sign "(", i5) :: (ts ++ ((.sign ")", i6) :: rest))) := by simpa using hat
  have hat2 := hat1.next
  have hat3 := hat2.next
  have hat4 := hat3.next
  have hp := prim_par hB hg (show B ≤ m' by omega) hat4.next
  have hat5 : At all (k + 1 + 1 + 1 + 1 + 1 + ts.length + 1) rest := (At.app (as := ts) hat4.next.next).next
  have hw : expectWhole all n 20 (k + 1 + 1) = .ok (.int (v : Int), k + 1 + 1 + 1) := by
    unfold expectWhole
    rw [hat3.get]
    dsimp only
    rw [if_neg (by omega)]
  have h1 : primM all n (exprM all n E) (m' + 1 + 1) k = .ok (.tuple [.str "iterate", .str w, .int (v : Int), d, .int (i1 : Int)], k + 1 + 1 + 1 + 1 + 1 + ts.length + 1) := by
    conv => lhs; unfold primM
    rw [if_neg (by rw [hat1.kind]; exact (by decide : ¬ (("word" : Str) == "number") = true)), if_neg (by rw [hat1.sees]; dsimp only; decide), if_neg (by rw [hat1.sees]; dsimp only; decide), if_neg (by rw [hat1.sees]; dsimp only; decide), if_pos (by rw [hat1.sees]; dsimp only; decide), hat1.wh]
    unfold iterateM
    rw [name_run hat2]
    show bindR (expectWhole all n 20 (k + 1 + 1)) _ = _
    rw [hw]
    show bindR (expectS all n "from" (k + 1 + 1 + 1)) _ = _
    rw [word_run (by decide) hat4]
    show bindR (primM all n (exprM all n E) (m' + 1) (k + 1 + 1 + 1 + 1)) _ = _
    rw [hp]
    rfl
  unfold powersM
  rw [h1]
  show powL all n (m' + 1 + 1) _ _ = _
  rw [powL_end hat5 hr (by omega)]
  simp only [List.length_cons, List.length_append, List.length_nil]
  congr 2
  omega
end
abbrev ln (P : List Pc) : Nat := (txP P).length
/-- the tree of a printed expression, from i -/
def trE : Nat → Ex → PyData
  | i, .num w t d u => .tuple [.str "number", .tuple [.int (t : Int), .int (d : Int)], .tuple (prL (i + w.length + 1 + 1) u), .int (i : Int)]
  | _, .bl v => .tuple [.str "bool", .bool v]
  | i, .var w => varD w i
  | i, .call0 w => .tuple [.str "call", .str w, .tuple [], .int (i : Int)]
  | i, .call1 w x => .tuple [.str "call", .str w, .tuple [trE (i + ln [nm w [], sg "(" []]) x], .int (i : Int)]
  | i, .call2 w x y => .tuple [.str "call", .str w, .tuple [trE (i + ln [nm w [], sg "(" []]) x, trE (i + ln ([nm w [], sg "(" []] ++ pcE x [] ++ [sg "," [32]])) y], .int (i : Int)]
  | i, .iter w v e => .tuple [.str "iterate", .str w, .int (v : Int), trE (i + ln [wd "iterate" [32], nm w [32], nr v [32], wd "from" [32], sg "(" []]) e, .int (i : Int)]
  | i, .pow e q => .tuple [.str "power", trE (i + ln [sg "(" []]) e, .int q, .int ((i + ln ([sg "(" []] ++ pcE e [] ++ [sg ")" []]) : Nat) : Int)]
  | i, .no e => .tuple [.str "not", trE (i + ln [sg "(" [], wd "not" [32], sg "(" []]) e, .int ((i + ln [sg "(" []] : Nat) : Int)]
  | i, .cond x y z => .tuple [.str "if", trE (i + ln [sg "(" [], wd "if" [32]]) x, trE (i + ln ([sg "(" [], wd "if" [32]] ++ pcE x [32] ++ [wd "then" [32]])) y,
      trE (i + ln ([sg "(" [], wd "if" [32]] ++ pcE x [32] ++ [wd "then" [32]] ++ pcE y [32] ++ [wd "else" [32]])) z, .int ((i + ln [sg "(" []] : Nat) : Int)]
  | i, .lett w x y => .tuple [.str "let", .str w, trE (i + ln [sg "(" [], wd "let" [32], nm w [32], sg "=" [32]]) x, trE (i + ln ([sg "(" [], wd "let" [32], nm w [32], sg "=" [32]] ++ pcE x [32] ++ [wd "in" [32]])) y, .int ((i + ln [sg "(" []] : Nat) : Int)]
  | i, .bin s x y => node (opName s) (trE (i + ln [sg "(" [], sg "(" []]) x) (trE (i + ln ([sg "(" [], sg "(" []] ++ pcE x [] ++ [sg ")" [32], ⟨sgTok s, tl s, [32]⟩, sg "(" []])) y) (i + ln ([sg "(" [], sg "(" []] ++ pcE x [] ++ [sg ")" [32]]))
abbrev okName (w : Str) : Prop := noName w ∧ ([")"] : List Str).any (· == w) = false
def WfE : Ex → Prop
  | .num _ _ _ u => UnOk u
  | .bl _ => True
  | .var w => okName w
  | .call0 w => okName w
  | .call1 w x => okName w ∧ WfE x
  | .call2 w x y => okName w ∧ WfE x ∧ WfE y
  | .iter _ v e => v ≤ 20 ∧ WfE e
  | .pow e q => q.natAbs ≤ 9 ∧ WfE e
  | .no e => WfE e
  | .cond x y z => WfE x ∧ WfE y ∧ WfE z
  | .lett _ x y => WfE x ∧ WfE y
  | .bin s x y => s ∈ (["or", "and", "<", "<=", "==", "+", "-", "*", "/"] : List Str) ∧ WfE x ∧ WfE y
/-- how many parsers of expressions lie within each other; how many levels it takes -/
def dpE : Ex → Nat
  | .call1 _ x => dpE x + 1
  | .call2 _ x y => max (dpE x) (dpE y) + 1
  | .iter _ _ e => dpE e + 1
  | .pow e _ => dpE e + 1
  | .no e => dpE e + 2
  | .cond x y z => max (dpE x) (max (dpE y) (dpE z)) + 2
  | .lett _ x y => max (dpE x) (dpE y) + 2
  | .bin _ x y => max (dpE x) (dpE y) + 2
  | _ => 0
def buE : Ex → Nat
  | .call0 _ => 2
  | .call1 _ x => buE x + 1
  | .call2 _ x y => max (buE x) (buE y) + 1
  | .iter _ _ e => buE e + 2
  | .pow e _ => buE e + 2
  | .no e => buE e + 3
  | .cond x y z => max (buE x) (max (buE y) (buE z)) + 2
  | .lett _ x y => max (buE x) (buE y) + 2
  | .bin _ x y => max (buE x) (buE y) + 3
  | _ => 1
theorem buE_pos : ∀ e : Ex, 1 ≤ buE e := fun e => by cases e <;> simp [buE] <;> omega
/-- the blanks behind don't count -/
theorem tk_last (P : List Pc) (t : Tkn) (w b c : List Nat) (i : Nat) : tkP i (P ++ [⟨t, w, b⟩]) = tkP i (P ++ [⟨t, w, c⟩]) := by
  rw [tkP_append, tkP_append]
  rfl
theorem pc_last : ∀ e : Ex, ∃ P t w, ∀ b, pcE e b = P ++ [⟨t, w, b⟩]
  | .num w t d u => by
    by_cases h : u = []
    · exact ⟨[], .num t d, w, fun b => by simp [pcE, h]⟩
    · exact ⟨⟨.num t d, w, [32]⟩ :: sg "[" [] :: isP u, .sign "]", tl ("]" : Str), fun b => by simp [pcE, h, unP, sg]⟩
  | .bl v => ⟨[], _, _, fun b => rfl⟩
  | .var w => ⟨[], _, _, fun b => rfl⟩
  | .call0 w => ⟨[nm w [], sg "(" []], _, _, fun b => rfl⟩
  | .call1 w x => ⟨nm w [] :: sg "(" [] :: pcE x [], _, _, fun b => rfl⟩
  | .call2 w x y => ⟨nm w [] :: sg "(" [] :: pcE x [] ++ sg "," [32] :: pcE y [], _, _, fun b => rfl⟩
  | .iter w v e => ⟨wd "iterate" [32] :: nm w [32] :: nr v [32] :: wd "from" [32] :: sg "(" [] :: pcE e [], _, _, fun b => rfl⟩
  | .pow e q => by
    by_cases h : q < 0
    · exact ⟨sg "(" [] :: pcE e [] ++ [sg ")" [], sg "^" [], sg "-" []], .num q.natAbs 1, numL q.natAbs, fun b => by simp [pcE, pwP, h, nr]⟩
    · exact ⟨sg "(" [] :: pcE e [] ++ [sg ")" [], sg "^" []], .num q.natAbs 1, numL q.natAbs, fun b => by simp [pcE, pwP, h, nr]⟩
  | .no e => ⟨sg "(" [] :: wd "not" [32] :: sg "(" [] :: pcE e [] ++ [sg ")" []], .sign ")", tl (")" : Str), fun b => by simp [pcE, sg]⟩
  | .cond x y z => ⟨sg "(" [] :: wd "if" [32] :: pcE x [32] ++ wd "then" [32] :: pcE y [32] ++ wd "else" [32] :: pcE z [], _, _, fun b => rfl⟩
  | .lett w x y => ⟨sg "(" [] :: wd "let" [32] :: nm w [32] :: sg "=" [32] :: pcE x [32] ++ wd "in" [32] :: pcE y [], _, _, fun b => rfl⟩
  | .bin s x y => ⟨sg "(" [] :: sg "(" [] :: pcE x [] ++ sg ")" [32] :: ⟨sgTok s, tl s, [32]⟩ :: sg "(" [] :: pcE y [] ++ [sg ")" []], .sign ")", tl (")" : Str), fun b => by simp [pcE, sg]⟩
theorem tk_blank (e : Ex) (b c : List Nat) (i : Nat) : tkP i (pcE e b) = tkP i (pcE e c) := by
  obtain ⟨P, t, w, h⟩ := pc_last e
  rw [h b, h c]
  exact tk_last P t w b c i
theorem first_tok : ∀ (e : Ex) (i : Nat) (b : List Nat), WfE e → ∃ t r, tkP i (pcE e b) = t :: r ∧ valIn t.1 [")"] = false
  | .num w t d u, i, b, _ => by
    by_cases h : u = []
    · exact ⟨(.num t d, i), _, by simp [pcE, h, tkP]; rfl, rfl⟩
    · exact ⟨(.num t d, i), _, by simp [pcE, h, tkP]; rfl, rfl⟩
  | .bl v, i, b, _ => ⟨(.word (if v = true then "true" else "false"), i), [], rfl, by cases v <;> rfl⟩
  | .var w, i, b, h => ⟨_, _, rfl, h.2⟩
  | .call0 w, i, b, h => ⟨_, _, rfl, h.2⟩
  | .call1 w x, i, b, h => ⟨_, _, rfl, h.1.2⟩
  | .call2 w x y, i, b, h => ⟨_, _, rfl, h.1.2⟩
  | .iter w v e, i, b, _ => ⟨_, _, rfl, by dsimp only; decide⟩
  | .pow e q, i, b, _ => ⟨_, _, rfl, by dsimp only; decide⟩
  | .no e, i, b, _ => ⟨_, _, rfl, by dsimp only; decide⟩
  | .cond x y z, i, b, _ => ⟨_, _, rfl, by dsimp only; decide⟩
  | .lett w x y, i, b, _ => ⟨_, _, rfl, by dsimp only; decide⟩
  | .bin s x y, i, b, _ => ⟨_, _, rfl, by dsimp only; decide⟩
section
variable {all : List (Tkn × Nat)} {n : Nat}
theorem Good.cast {E : Nat → Nat → Res} {B : Nat} {d : PyData} {ts us : List (Tkn × Nat)} (h : Good (all := all) (n := n) E B d ts) (e : ts = us) : Good (all := all) (n := n) E B d us := e ▸ h
theorem good_ex : ∀ (e : Ex), WfE e → ∀ (q i : Nat) (b : List Nat), dpE e ≤ q → Good (all := all) (n := n) (exprN all n q) (buE e) (trE i e) (tkP i (pcE e b))
  | .num w t d u, h, q, i, b, _ => by
    by_cases hu : u = []
    · subst hu
      exact good_num0 (Nat.le_refl 1)
    · have e : pcE (.num w t d u) b = ⟨.num t d, w, [32]⟩ :: unP u b := by simp [pcE, hu]
      rw [e]
      exact good_numU (Nat.le_refl 1) h
  | .bl v, _, q, i, b, _ => good_bool (Nat.le_refl 1) v
  | .var w, h, q, i, b, _ => good_var (Nat.le_refl 1) h.1
  | .call0 w, h, q, i, b, _ => good_args (B := 1) (ts := [(.sign ")", _)]) h.1 (Nat.le_refl 1) fun m k rest _ hat => args0 hat
  | .call1 w x, h, q, i, b, hq => by
    obtain ⟨q', rfl⟩ : ∃ q', q = q' + 1 := ⟨q - 1, by simp only [dpE] at hq; omega⟩
    have gx := good_ex x h.2 q' (i + ln [nm w [], sg "(" []]) [] (by simp only [dpE] at hq; omega)
    show Good _ _ _ (tkP i ([nm w [], sg "(" []] ++ pcE x [] ++ [sg ")" b]))
    rw [tkP_append, tkP_append]
    exact good_args h.1.1 (buE_pos x) fun m k rest hm hat => args1 (buE_pos x) gx (first_tok x _ _ h.2) hm hat
  | .call2 w x y, h, q, i, b, hq => by
    obtain ⟨q', rfl⟩ : ∃ q', q = q' + 1 := ⟨q - 1, by simp only [dpE] at hq; omega⟩
    have gx := (good_ex x h.2.1 q' (i + ln [nm w [], sg "(" []]) [] (by simp only [dpE] at hq; omega)).mono (Nat.le_max_left _ (buE y))
    have gy := (good_ex y h.2.2 q' (i + ln ([nm w [], sg "(" []] ++ pcE x [] ++ [sg "," [32]])) [] (by simp only [dpE] at hq; omega)).mono (Nat.le_max_right (buE x) _)
    have hB : 1 ≤ max (buE x) (buE y) := Nat.le_trans (buE_pos x) (Nat.le_max_left _ _)
    have e : pcE (.call2 w x y) b = [nm w [], sg "(" []] ++ pcE x [] ++ [sg "," [32]] ++ pcE y [] ++ [sg ")" b] := by simp [pcE]
    rw [e, tkP_append, tkP_append, tkP_append, tkP_append]
    have := good_args (B := max (buE x) (buE y)) (E := exprN all n (q' + 1)) (i := i) (j := i + (tl w).length + 0) (w := w) (args := [trE (i + ln [nm w [], sg "(" []]) x, trE (i + ln ([nm w [], sg "(" []] ++ pcE x [] ++ [sg "," [32]])) y])
      (ts := tkP (i + ln [nm w [], sg "(" []]) (pcE x []) ++ (.sign ",", i + ln ([nm w [], sg "(" []] ++ pcE x [])) :: tkP (i + ln ([nm w [], sg "(" []] ++ pcE x [] ++ [sg "," [32]])) (pcE y []) ++ [(.sign ")", i + ln ([nm w [], sg "(" []] ++ pcE x [] ++ [sg "," [32]] ++ pcE y []))]) h.1.1 hB
      (fun m k rest hm hat => args2 hB gx (first_tok x _ _ h.2.1) gy hm hat)
    exact this.cast (by simp [tkP, nm, sg, ln])
  | .iter w v e, h, q, i, b, hq => by
    obtain ⟨q', rfl⟩ : ∃ q', q = q' + 1 := ⟨q - 1, by simp only [dpE] at hq; omega⟩
    have gx := good_ex e h.2 q' (i + ln [wd "iterate" [32], nm w [32], nr v [32], wd "from" [32], sg "(" []]) [] (by simp only [dpE] at hq; omega)
    show Good _ _ _ (tkP i ([wd "iterate" [32], nm w [32], nr v [32], wd "from" [32], sg "(" []] ++ pcE e [] ++ [sg ")" b]))
    rw [tkP_append, tkP_append]
    exact good_iter (buE_pos e) h.1 gx
  | .pow e p, h, q, i, b, hq => by
    obtain ⟨q', rfl⟩ : ∃ q', q = q' + 1 := ⟨q - 1, by simp only [dpE] at hq; omega⟩
    have gx := good_ex e h.2 q' (i + ln [sg "(" []]) [] (by simp only [dpE] at hq; omega)
    have e1 : pcE (.pow e p) b = [sg "(" []] ++ pcE e [] ++ [sg ")" []] ++ ([sg "^" []] ++ pwP p b) := by simp [pcE]
    rw [e1, tkP_append, tkP_append, tkP_append, tkP_append]
    exact good_powE (buE_pos e) h.1 gx
  | .no e, h, q, i, b, hq => by
    obtain ⟨q', rfl⟩ : ∃ q', q = q' + 1 + 1 := ⟨q - 2, by simp only [dpE] at hq; omega⟩
    have gx := good_ex e h q' (i + ln [sg "(" [], wd "not" [32], sg "(" []]) [] (by simp only [dpE] at hq; omega)
    have e1 : pcE (.no e) b = [sg "(" []] ++ [wd "not" [32]] ++ [sg "(" []] ++ pcE e [] ++ [sg ")" []] ++ [sg ")" b] := by simp [pcE]
    rw [e1]
    have gp := good_par (all := all) (n := n) (i := i + ln [sg "(" [], wd "not" [32]]) (j := i + ln ([sg "(" [], wd "not" [32], sg "(" []] ++ pcE e [])) (buE_pos e) gx
    have := good_in (all := all) (n := n) (B := buE e + 2) (i := i) (j := i + ln ([sg "(" [], wd "not" [32], sg "(" []] ++ pcE e [] ++ [sg ")" []])) (fun m k rest hm hat hr => not_run (i1 := i + ln [sg "(" []]) (by omega) gp m k rest (by omega) hat hr)
    rw [tkP_append, tkP_append, tkP_append, tkP_append, tkP_append]
    exact this.cast (by simp [tkP, wd, sg, ln])
  | .cond x y z, h, q, i, b, hq => by
    obtain ⟨q', rfl⟩ : ∃ q', q = q' + 1 + 1 := ⟨q - 2, by simp only [dpE] at hq; omega⟩
    have hB : 1 ≤ max (buE x) (max (buE y) (buE z)) := Nat.le_trans (buE_pos x) (Nat.le_max_left _ _)
    have gx := (good_ex x h.1 q' (i + ln [sg "(" [], wd "if" [32]]) [32] (by simp only [dpE] at hq; omega)).mono (B' := max (buE x) (max (buE y) (buE z))) (by omega)
    have gy := (good_ex y h.2.1 q' (i + ln ([sg "(" [], wd "if" [32]] ++ pcE x [32] ++ [wd "then" [32]])) [32] (by simp only [dpE] at hq; omega)).mono (B' := max (buE x) (max (buE y) (buE z))) (by omega)
    have gz := (good_ex z h.2.2 q' (i + ln ([sg "(" [], wd "if" [32]] ++ pcE x [32] ++ [wd "then" [32]] ++ pcE y [32] ++ [wd "else" [32]])) [] (by simp only [dpE] at hq; omega)).mono (B' := max (buE x) (max (buE y) (buE z))) (by omega)
    have e1 : pcE (.cond x y z) b = [sg "(" []] ++ [wd "if" [32]] ++ pcE x [32] ++ [wd "then" [32]] ++ pcE y [32] ++ [wd "else" [32]] ++ pcE z [] ++ [sg ")" b] := by simp [pcE]
    have := good_in (all := all) (n := n) (B := max (buE x) (max (buE y) (buE z)) + 1) (i := i) (j := i + ln ([sg "(" []] ++ [wd "if" [32]] ++ pcE x [32] ++ [wd "then" [32]] ++ pcE y [32] ++ [wd "else" [32]] ++ pcE z []))
      (fun m k rest hm hat hr => if_run (i1 := i + ln [sg "(" []]) (i2 := i + ln ([sg "(" [], wd "if" [32]] ++ pcE x [32])) (i3 := i + ln ([sg "(" [], wd "if" [32]] ++ pcE x [32] ++ [wd "then" [32]] ++ pcE y [32])) hB gx gy gz m k rest hm hat hr)
    rw [e1, tkP_append, tkP_append, tkP_append, tkP_append, tkP_append, tkP_append, tkP_append]
    exact this.cast (by simp [tkP, wd, sg, ln])
  | .lett w x y, h, q, i, b, hq => by
    obtain ⟨q', rfl⟩ : ∃ q', q = q' + 1 + 1 := ⟨q - 2, by simp only [dpE] at hq; omega⟩
    have hB : 1 ≤ max (buE x) (buE y) := Nat.le_trans (buE_pos x) (Nat.le_max_left _ _)
    have gx := (good_ex x h.1 q' (i + ln [sg "(" [], wd "let" [32], nm w [32], sg "=" [32]]) [32] (by simp only [dpE] at hq; omega)).mono (B' := max (buE x) (buE y)) (by omega)
    have gy := (good_ex y h.2 q' (i + ln ([sg "(" [], wd "let" [32], nm w [32], sg "=" [32]] ++ pcE x [32] ++ [wd "in" [32]])) [] (by simp only [dpE] at hq; omega)).mono (B' := max (buE x) (buE y)) (by omega)
    have e1 : pcE (.lett w x y) b = [sg "(" []] ++ [wd "let" [32], nm w [32], sg "=" [32]] ++ pcE x [32] ++ [wd "in" [32]] ++ pcE y [] ++ [sg ")" b] := by simp [pcE]
    have := good_in (all := all) (n := n) (B := max (buE x) (buE y) + 1) (i := i) (j := i + ln ([sg "(" []] ++ [wd "let" [32], nm w [32], sg "=" [32]] ++ pcE x [32] ++ [wd "in" [32]] ++ pcE y []))
      (fun m k rest hm hat hr => let_run (i1 := i + ln [sg "(" []]) (i2 := i + ln [sg "(" [], wd "let" [32]]) (i3 := i + ln [sg "(" [], wd "let" [32], nm w [32]]) (i4 := i + ln ([sg "(" [], wd "let" [32], nm w [32], sg "=" [32]] ++ pcE x [32])) (w := w) hB gx gy m k rest hm hat hr)
    rw [e1, tkP_append, tkP_append, tkP_append, tkP_append, tkP_append]
    exact this.cast (by simp [tkP, wd, sg, nm, ln, txP, txP_append]; (repeat' apply And.intro) <;> omega)
  | .bin s x y, h, q, i, b, hq => by
    obtain ⟨q', rfl⟩ : ∃ q', q = q' + 1 + 1 := ⟨q - 2, by simp only [dpE] at hq; omega⟩
    have hB : 1 ≤ max (buE x) (buE y) := Nat.le_trans (buE_pos x) (Nat.le_max_left _ _)
    have gx := (good_ex x h.2.1 q' (i + ln [sg "(" [], sg "(" []]) [] (by simp only [dpE] at hq; omega)).mono (B' := max (buE x) (buE y)) (by omega)
    have gy := (good_ex y h.2.2 q' (i + ln ([sg "(" [], sg "(" []] ++ pcE x [] ++ [sg ")" [32], ⟨sgTok s, tl s, [32]⟩, sg "(" []])) [] (by simp only [dpE] at hq; omega)).mono (B' := max (buE x) (buE y)) (by omega)
    have e1 : pcE (.bin s x y) b = [sg "(" []] ++ [sg "(" []] ++ pcE x [] ++ [sg ")" [32]] ++ [⟨sgTok s, tl s, [32]⟩] ++ [sg "(" []] ++ pcE y [] ++ [sg ")" []] ++ [sg ")" b] := by simp [pcE]
    have := good_bin (all := all) (n := n) (i1 := i) (i2 := i + ln [sg "(" []]) (i3 := i + ln ([sg "(" [], sg "(" []] ++ pcE x [])) (i4 := i + ln ([sg "(" [], sg "(" []] ++ pcE x [] ++ [sg ")" [32]])) (i5 := i + ln ([sg "(" [], sg "(" []] ++ pcE x [] ++ [sg ")" [32], ⟨sgTok s, tl s, [32]⟩]))
      (i6 := i + ln ([sg "(" [], sg "(" []] ++ pcE x [] ++ [sg ")" [32], ⟨sgTok s, tl s, [32]⟩, sg "(" []] ++ pcE y [])) (i7 := i + ln ([sg "(" [], sg "(" []] ++ pcE x [] ++ [sg ")" [32], ⟨sgTok s, tl s, [32]⟩, sg "(" []] ++ pcE y [] ++ [sg ")" []])) h.1 hB gx gy
    rw [e1, tkP_append, tkP_append, tkP_append, tkP_append, tkP_append, tkP_append, tkP_append, tkP_append]
    exact this.cast (by simp [tkP, sg, ln])
end
end Px

/-! ### the pieces of an expression fit together -/
namespace Px
open PySem PySem.Spec PyProof.Rows L2 Ly Lx TL Lw
abbrev simple : List Str := ["<=", "==", "+", "-", "*", "/", "^", ",", ";", ":", "(", ")", "[", "]"]
abbrev Bl (b : List Nat) : Prop := ∀ x ∈ b, inS blanks x = true
/-- what may stand behind a word, a name or a number -/
def Nx (l : List Nat) : Prop := ∃ s r, l = s :: r ∧ inS naming s = false ∧ s ≠ 46
theorem okS_simple {x : Str} (h : x ∈ simple) (s : Nat) : okS (.sign x) s = true := by
  have : ∀ x ∈ simple, (x == "<" || x == "=") = false := by decide
  show (!((x == "<" || x == "=") && s == 61)) = true
  rw [this x h]
  rfl
theorem fits_ne {tail : List Nat} : ∀ {P : List Pc}, Fits tail P → P ≠ [] → ∃ s r, txP P ++ tail = s :: r
  | [], _, h => absurd rfl h
  | c :: P, h, _ => by
    obtain ⟨hw, _, ⟨s, r, e, hs⟩, _⟩ := h
    have h1 := (tokAt_pos (hw s r hs)).1
    cases hcw : c.w with
    | nil => rw [hcw] at h1; simp at h1
    | cons a l => exact ⟨a, l ++ (c.b ++ txP P) ++ tail, by simp [txP, hcw]⟩
theorem Nx.ok {t : Tkn} {l : List Nat} (ht : ∀ x, t ≠ .sign x) (h : Nx l) : ∃ s r, l = s :: r ∧ okS t s = true := by
  obtain ⟨s, r, e, h1, h2⟩ := h
  refine ⟨s, r, e, ?_⟩
  cases t with
  | sign x => exact absurd rfl (ht x)
  | word x => show (!(inS naming s) && !(s == 46)) = true; rw [h1, beq_eq_false_iff_ne.mpr h2]; rfl
  | name x => show (!(inS naming s) && !(s == 46)) = true; rw [h1, beq_eq_false_iff_ne.mpr h2]; rfl
  | num a b => show (!(inS naming s) && !(s == 46)) = true; rw [h1, beq_eq_false_iff_ne.mpr h2]; rfl
section
variable {tail : List Nat} {P : List Pc}
theorem fits_sg {x : Str} {b : List Nat} (hx : x ∈ simple) (hb : Bl b) (hn : ∃ s r, b ++ (txP P ++ tail) = s :: r) (h : Fits tail P) : Fits tail (sg x b :: P) := by
  obtain ⟨s, r, e⟩ := hn
  exact ⟨wf_sign x hx, hb, ⟨s, r, e, okS_simple hx s⟩, h⟩
/-- a sign before more pieces -/
theorem fits_sg' {x : Str} {b : List Nat} (hx : x ∈ simple) (hb : Bl b) (hP : P ≠ []) (h : Fits tail P) : Fits tail (sg x b :: P) := by
  obtain ⟨s, r, e⟩ := fits_ne h hP
  cases b with
  | nil => exact fits_sg hx hb ⟨s, r, e⟩ h
  | cons a l => exact fits_sg hx hb ⟨a, l ++ (txP P ++ tail), rfl⟩ h
theorem fits_pc {t : Tkn} {w b : List Nat} (hw : Wf t w) (ht : ∀ x, t ≠ .sign x) (hb : Bl b) (hn : Nx (b ++ (txP P ++ tail))) (h : Fits tail P) : Fits tail (⟨t, w, b⟩ :: P) := ⟨hw, hb, hn.ok ht, h⟩
end
theorem bl0 : Bl [] := fun x h => by cases h
theorem bl1 : Bl [32] := fun x h => by
  have : x = 32 := by simpa using h
  subst this
  decide
theorem nx32 (l : List Nat) : Nx ([32] ++ l) := ⟨32, l, rfl, by decide, by decide⟩
theorem nxS {x : Str} {c : Nat} {w b : List Nat} {P : List Pc} {tail : List Nat} (e : tl x = c :: w) (h1 : inS naming c = false) (h2 : c ≠ 46) : Nx ([] ++ (txP (sg x b :: P) ++ tail)) := by
  refine ⟨c, w ++ (b ++ txP P) ++ tail, ?_, h1, h2⟩
  show (tl x ++ (b ++ txP P)) ++ tail = _
  rw [e]
  simp
theorem wf_w (x : Str) (h : x ∈ (["true", "false", "iterate", "from", "not", "if", "then", "else", "let", "in", "or", "and", "base", "unit", "fun", "show"] : List Str)) : Wf (.word x) (tl x) := by
  simp only [List.mem_cons, List.not_mem_nil, or_false] at h
  rcases h with rfl | rfl | rfl | rfl | rfl | rfl | rfl | rfl | rfl | rfl | rfl | rfl | rfl | rfl | rfl | rfl <;> exact wf_word rfl (by decide) (by decide) (by decide)
/-- the names and numbers are written so -/
def WtE : Ex → Prop
  | .num w t d u => Wf (.num t d) w ∧ ∀ x ∈ u, Wf (.name x.1) (tl x.1) ∧ x.2.natAbs ≤ 9
  | .bl _ => True
  | .var w => Wf (.name w) (tl w)
  | .call0 w => Wf (.name w) (tl w)
  | .call1 w x => Wf (.name w) (tl w) ∧ WtE x
  | .call2 w x y => Wf (.name w) (tl w) ∧ WtE x ∧ WtE y
  | .iter w v e => Wf (.name w) (tl w) ∧ v ≤ 20 ∧ WtE e
  | .pow e q => q.natAbs ≤ 9 ∧ WtE e
  | .no e => WtE e
  | .cond x y z => WtE x ∧ WtE y ∧ WtE z
  | .lett w x y => Wf (.name w) (tl w) ∧ WtE x ∧ WtE y
  | .bin s x y => s ∈ (["or", "and", "<", "<=", "==", "+", "-", "*", "/"] : List Str) ∧ WtE x ∧ WtE y
theorem fits_pw {q : Int} {b tail : List Nat} {P : List Pc} (hq : q.natAbs ≤ 9) (hb : Bl b) (hn : Nx (b ++ (txP P ++ tail))) (h : Fits tail P) : Fits tail (pwP q b ++ P) := by
  have h1 : Fits tail (nr q.natAbs b :: P) := fits_pc (wf_whole (by omega)) (fun x e => by cases e) hb hn h
  unfold pwP
  split
  · exact fits_sg' (by decide) bl0 (by simp) h1
  · exact h1
theorem fits_it {x : Str × Int} {b tail : List Nat} {P : List Pc} (hx : Wf (.name x.1) (tl x.1) ∧ x.2.natAbs ≤ 9) (hb : Bl b) (hn : Nx (b ++ (txP P ++ tail))) (h : Fits tail P) : Fits tail (itP x b ++ P) := by
  unfold itP
  split
  · exact fits_pc hx.1 (fun x e => by cases e) hb hn h
  · have h1 := fits_pw hx.2 hb hn h
    have hne : pwP x.2 b ++ P ≠ [] := by
      unfold pwP
      split <;> simp
    have h2 : Fits tail (sg "^" [] :: (pwP x.2 b ++ P)) := fits_sg' (by decide) bl0 hne h1
    exact fits_pc hx.1 (fun x e => by cases e) bl0 (nxS (x := "^") rfl (by decide) (by decide)) h2
theorem fits_is {tail : List Nat} {P : List Pc} : ∀ {u : Un}, (∀ x ∈ u, Wf (.name x.1) (tl x.1) ∧ x.2.natAbs ≤ 9) → Nx ([] ++ (txP P ++ tail)) → Fits tail P → Fits tail (isP u ++ P)
  | [], _, _, h => h
  | [x], hu, hn, h => fits_it (hu x List.mem_cons_self) bl0 hn h
  | x :: y :: u, hu, hn, h => by
    have ih := fits_is (u := y :: u) (fun z hz => hu z (List.mem_cons_of_mem _ hz)) hn h
    show Fits tail ((itP x [32] ++ isP (y :: u)) ++ P)
    rw [List.append_assoc]
    exact fits_it (hu x List.mem_cons_self) bl1 (nx32 _) ih
theorem fits_un {u : Un} {b tail : List Nat} {P : List Pc} (hu : ∀ x ∈ u, Wf (.name x.1) (tl x.1) ∧ x.2.natAbs ≤ 9) (hb : Bl b) (hn : ∃ s r, b ++ (txP P ++ tail) = s :: r) (h : Fits tail P) : Fits tail (unP u b ++ P) := by
  have h1 : Fits tail (sg "]" b :: P) := fits_sg (by decide) hb hn h
  have h2 := fits_is (u := u) hu (nxS (x := "]") rfl (by decide) (by decide)) h1
  have e : unP u b ++ P = sg "[" [] :: (isP u ++ (sg "]" b :: P)) := by simp [unP]
  rw [e]
  exact fits_sg' (by decide) bl0 (by simp) h2
theorem Nx.ne {l : List Nat} (h : Nx l) : ∃ s r, l = s :: r := by
  obtain ⟨s, r, e, _⟩ := h
  exact ⟨s, r, e⟩
theorem fits_ex : ∀ (e : Ex) (b tail : List Nat) (P : List Pc), WtE e → Bl b → Nx (b ++ (txP P ++ tail)) → Fits tail P → Fits tail (pcE e b ++ P)
  | .num w t d u, b, tail, P, h, hb, hn, hP => by
    by_cases hu : u = []
    · have e : pcE (.num w t d u) b = [⟨.num t d, w, b⟩] := by simp [pcE, hu]
      rw [e]
      exact fits_pc h.1 (fun x e => by cases e) hb hn hP
    · have e : pcE (.num w t d u) b = ⟨.num t d, w, [32]⟩ :: unP u b := by simp [pcE, hu]
      rw [e]
      exact fits_pc h.1 (fun x e => by cases e) bl1 (nx32 _) (fits_un h.2 hb hn.ne hP)
  | .bl v, b, tail, P, _, hb, hn, hP => fits_pc (wf_w _ (by cases v <;> decide)) (fun x e => by cases e) hb hn hP
  | .var w, b, tail, P, h, hb, hn, hP => fits_pc h (fun x e => by cases e) hb hn hP
  | .call0 w, b, tail, P, h, hb, hn, hP => fits_pc h (fun x e => by cases e) bl0 (nxS (x := "(") rfl (by decide) (by decide)) (fits_sg' (by decide) bl0 (by simp) (fits_sg (by decide) hb hn.ne hP))
  | .call1 w x, b, tail, P, h, hb, hn, hP => by
    have e : pcE (.call1 w x) b ++ P = nm w [] :: sg "(" [] :: (pcE x [] ++ (sg ")" b :: P)) := by simp [pcE]
    rw [e]
    have h1 := fits_ex x [] tail (sg ")" b :: P) h.2 bl0 (nxS (x := ")") rfl (by decide) (by decide)) (fits_sg (by decide) hb hn.ne hP)
    exact fits_pc h.1 (fun x e => by cases e) bl0 (nxS (x := "(") rfl (by decide) (by decide)) (fits_sg' (by decide) bl0 (by simp) h1)
  | .call2 w x y, b, tail, P, h, hb, hn, hP => by
    have e : pcE (.call2 w x y) b ++ P = nm w [] :: sg "(" [] :: (pcE x [] ++ (sg "," [32] :: (pcE y [] ++ (sg ")" b :: P)))) := by simp [pcE]
    rw [e]
    have h1 := fits_ex y [] tail (sg ")" b :: P) h.2.2 bl0 (nxS (x := ")") rfl (by decide) (by decide)) (fits_sg (by decide) hb hn.ne hP)
    have h2 := fits_ex x [] tail _ h.2.1 bl0 (nxS (x := ",") rfl (by decide) (by decide)) (fits_sg' (x := ",") (b := [32]) (by decide) bl1 (by simp) h1)
    exact fits_pc h.1 (fun x e => by cases e) bl0 (nxS (x := "(") rfl (by decide) (by decide)) (fits_sg' (by decide) bl0 (by simp) h2)
  | .iter w v e, b, tail, P, h, hb, hn, hP => by
    have e1 : pcE (.iter w v e) b ++ P = wd "iterate" [32] :: nm w [32] :: nr v [32] :: wd "from" [32] :: sg "(" [] :: (pcE e [] ++ (sg ")" b :: P)) := by simp [pcE]
    rw [e1]
    have h1 := fits_ex e [] tail (sg ")" b :: P) h.2.2 bl0 (nxS (x := ")") rfl (by decide) (by decide)) (fits_sg (by decide) hb hn.ne hP)
    exact fits_pc (wf_w _ (by decide)) (fun x e => by cases e) bl1 (nx32 _) (fits_pc h.1 (fun x e => by cases e) bl1 (nx32 _) (fits_pc (wf_whole (by have := h.2.1; omega)) (fun x e => by cases e) bl1 (nx32 _)
      (fits_pc (wf_w _ (by decide)) (fun x e => by cases e) bl1 (nx32 _) (fits_sg' (by decide) bl0 (by simp) h1))))
  | .pow e q, b, tail, P, h, hb, hn, hP => by
    have e1 : pcE (.pow e q) b ++ P = sg "(" [] :: (pcE e [] ++ (sg ")" [] :: sg "^" [] :: (pwP q b ++ P))) := by simp [pcE]
    rw [e1]
    have h0 := fits_pw h.1 hb hn hP
    have hne : pwP q b ++ P ≠ [] := by
      unfold pwP
      split <;> simp
    have h1 := fits_ex e [] tail _ h.2 bl0 (nxS (x := ")") rfl (by decide) (by decide)) (fits_sg' (x := ")") (b := []) (by decide) bl0 (by simp) (fits_sg' (x := "^") (b := []) (by decide) bl0 hne h0))
    exact fits_sg' (by decide) bl0 (by simp) h1
  | .no e, b, tail, P, h, hb, hn, hP => by
    have e1 : pcE (.no e) b ++ P = sg "(" [] :: wd "not" [32] :: sg "(" [] :: (pcE e [] ++ (sg ")" [] :: sg ")" b :: P)) := by simp [pcE]
    rw [e1]
    have h1 := fits_ex e [] tail _ h bl0 (nxS (x := ")") rfl (by decide) (by decide)) (fits_sg' (x := ")") (b := []) (by decide) bl0 (by simp) (fits_sg (x := ")") (by decide) hb hn.ne hP))
    exact fits_sg' (by decide) bl0 (by simp) (fits_pc (wf_w _ (by decide)) (fun x e => by cases e) bl1 (nx32 _) (fits_sg' (by decide) bl0 (by simp) h1))
  | .cond x y z, b, tail, P, h, hb, hn, hP => by
    have e1 : pcE (.cond x y z) b ++ P = sg "(" [] :: wd "if" [32] :: (pcE x [32] ++ (wd "then" [32] :: (pcE y [32] ++ (wd "else" [32] :: (pcE z [] ++ (sg ")" b :: P)))))) := by simp [pcE]
    rw [e1]
    have h1 := fits_ex z [] tail (sg ")" b :: P) h.2.2 bl0 (nxS (x := ")") rfl (by decide) (by decide)) (fits_sg (by decide) hb hn.ne hP)
    have h2 := fits_ex y [32] tail _ h.2.1 bl1 (nx32 _) (fits_pc (wf_w "else" (by decide)) (fun x e => by cases e) bl1 (nx32 _) h1)
    have h3 := fits_ex x [32] tail _ h.1 bl1 (nx32 _) (fits_pc (wf_w "then" (by decide)) (fun x e => by cases e) bl1 (nx32 _) h2)
    exact fits_sg' (by decide) bl0 (by simp) (fits_pc (wf_w _ (by decide)) (fun x e => by cases e) bl1 (nx32 _) h3)
  | .lett w x y, b, tail, P, h, hb, hn, hP => by
    have e1 : pcE (.lett w x y) b ++ P = sg "(" [] :: wd "let" [32] :: nm w [32] :: sg "=" [32] :: (pcE x [32] ++ (wd "in" [32] :: (pcE y [] ++ (sg ")" b :: P)))) := by simp [pcE]
    rw [e1]
    have h1 := fits_ex y [] tail (sg ")" b :: P) h.2.2 bl0 (nxS (x := ")") rfl (by decide) (by decide)) (fits_sg (by decide) hb hn.ne hP)
    have h2 := fits_ex x [32] tail _ h.2.1 bl1 (nx32 _) (fits_pc (wf_w "in" (by decide)) (fun x e => by cases e) bl1 (nx32 _) h1)
    exact fits_sg' (by decide) bl0 (by simp) (fits_pc (wf_w _ (by decide)) (fun x e => by cases e) bl1 (nx32 _) (fits_pc h.1 (fun x e => by cases e) bl1 (nx32 _) ⟨wf_less "=" (by decide), bl1, ⟨32, _, rfl, by decide⟩, h2⟩))
  | .bin s x y, b, tail, P, h, hb, hn, hP => by
    have e1 : pcE (.bin s x y) b ++ P = sg "(" [] :: sg "(" [] :: (pcE x [] ++ (sg ")" [32] :: ⟨sgTok s, tl s, [32]⟩ :: sg "(" [] :: (pcE y [] ++ (sg ")" [] :: sg ")" b :: P)))) := by simp [pcE]
    rw [e1]
    have h1 := fits_ex y [] tail _ h.2.2 bl0 (nxS (x := ")") rfl (by decide) (by decide)) (fits_sg' (x := ")") (b := []) (by decide) bl0 (by simp) (fits_sg (x := ")") (by decide) hb hn.ne hP))
    have h2 : Fits tail (sg "(" [] :: (pcE y [] ++ (sg ")" [] :: sg ")" b :: P))) := fits_sg' (by decide) bl0 (by simp) h1
    have hs : Wf (sgTok s) (tl s) ∧ okS (sgTok s) 32 = true := by
      have hm := h.1
      simp only [List.mem_cons, List.not_mem_nil, or_false] at hm
      rcases hm with rfl | rfl | rfl | rfl | rfl | rfl | rfl | rfl | rfl
      · exact ⟨wf_w "or" (by decide), by decide⟩
      · exact ⟨wf_w "and" (by decide), by decide⟩
      · exact ⟨wf_less "<" (by decide), by decide⟩
      all_goals exact ⟨wf_sign _ (by decide), by decide⟩
    have h3 : Fits tail (⟨sgTok s, tl s, [32]⟩ :: sg "(" [] :: (pcE y [] ++ (sg ")" [] :: sg ")" b :: P))) := ⟨hs.1, bl1, ⟨32, _, rfl, hs.2⟩, h2⟩
    have h4 := fits_ex x [] tail _ h.2.1 bl0 (nxS (x := ")") rfl (by decide) (by decide)) (fits_sg' (x := ")") (b := [32]) (by decide) bl1 (by simp) h3)
    exact fits_sg' (by decide) bl0 (by simp) (fits_sg' (by decide) bl0 (by simp) h4)
end Px

/-! ### lines -/
namespace Px
open PySem PySem.Spec PyProof.Rows L2 Ly Lx TL Lw
section
variable {all : List (Tkn × Nat)} {n : Nat}
/-- a def that reads expressions of this depth and these levels -/
def Rd1 (all : List (Tkn × Nat)) (n : Nat) (q B : Nat) (X : Nat → Res) : Prop := ∀ (e : Ex) (i k : Nat) (b : List Nat) (rest : List (Tkn × Nat)), WfE e → dpE e ≤ q → buE e ≤ B → At all k (tkP i (pcE e b) ++ rest) → Hd (avoid lv0) rest → X k = .ok (trE i e, k + (pcE e b).length)
theorem rd_expr {q m B : Nat} (hm : B ≤ m) : Rd1 all n q B (exprN all n (q + 1) m) := fun e i k b rest hw hd hb hat hr => by
  have hg := good_ex (all := all) (n := n) e hw q i b hd
  have := expr_one (buE_pos e) hg hat (show buE e ≤ m by omega) hr
  rw [tkP_len] at this
  exact this
def opP (pre : List Pc) : Option Un → List Nat → List Pc
  | none, _ => []
  | some u, b => pre ++ unP u b
/-- show e; and show e in [..]; -/
def shP (e : Ex) (o : Option Un) (b : List Nat) : List Pc := wd "show" [32] :: pcE e (if o = none then [] else [32]) ++ opP [wd "in" [32]] o [] ++ [sg ";" b]
def shD (i : Nat) (e : Ex) (o : Option Un) : PyData := .tuple [.str "show", trE (i + ln [wd "show" [32]]) e, (match o with
  | none => .none
  | some u => .tuple (prL (i + ln (wd "show" [32] :: pcE e [32] ++ [wd "in" [32]]) + 1) u)), .int (i : Int)]
theorem semi_run {k j : Nat} {rest : List (Tkn × Nat)} (hat : At all k ((.sign ";", j) :: rest)) : expectS all n ";" k = .ok (.none, k + 1) := sign_run (by decide) hat
theorem show_run {q B i k : Nat} {X : Nat → Res} {e : Ex} {o : Option Un} {b : List Nat} {rest : List (Tkn × Nat)} (hX : Rd1 all n q B X) (hw : WfE e) (hd : dpE e ≤ q) (hb : buE e ≤ B) (ho : ∀ u, o = some u → UnOk u) (hat : At all k (tkP i (shP e o b) ++ rest)) :
    lineG all n X k = .ok (shD i e o, k + (shP e o b).length) := by
  have hat0 : ∃ r, At all k ((.word "show", i) :: r) := ⟨_, by
    unfold shP at hat
    exact hat⟩
  obtain ⟨r0, h0⟩ := hat0
  have hno : ∀ v : Str, v ∈ (["base", "unit", "fun"] : List Str) → ¬ seesB all [v] k = true := fun v hv => by
    rw [h0.sees]
    have : ∀ v ∈ (["base", "unit", "fun"] : List Str), ¬ (valIn (.word "show") [v]) = true := by decide
    exact this v hv
  unfold lineG
  rw [if_neg (hno "base" (by decide)), if_neg (hno "unit" (by decide)), if_neg (hno "fun" (by decide)), h0.wh, word_run (v := "show") (by decide) h0]
  show bindR (showG all n X i (k + 1)) _ = _
  cases o with
  | none =>
    have e1 : tkP i (shP e none b) ++ rest = (.word "show", i) :: (tkP (i + ln [wd "show" [32]]) (pcE e []) ++ ((.sign ";", i + ln (wd "show" [32] :: pcE e [])) :: rest)) := by
      have : shP e none b = [wd "show" [32]] ++ pcE e [] ++ [sg ";" b] := by simp [shP, opP]
      rw [this, tkP_append, tkP_append]
      simp [tkP, wd, sg, ln]
    rw [e1] at hat
    have h1 := hX e _ (k + 1) [] _ hw hd hb hat.next ⟨_, _, rfl, by dsimp only; decide⟩
    have hat2 : At all (k + 1 + (pcE e []).length) ((.sign ";", i + ln (wd "show" [32] :: pcE e [])) :: rest) := by
      have := At.app hat.next
      rw [tkP_len] at this
      exact this
    unfold showG
    rw [h1]
    show bindR (bindR (if seesB all ["in"] (k + 1 + (pcE e []).length) = true then _ else _) _) _ = _
    rw [if_neg (by rw [hat2.sees]; dsimp only; decide)]
    show bindR (expectS all n ";" (k + 1 + (pcE e []).length)) _ = _
    rw [semi_run hat2]
    show Except.ok _ = _
    simp only [shD, shP, opP, List.length_cons, List.length_append, List.length_nil, if_true]
    congr 2
    omega
  | some u =>
    have e1 : tkP i (shP e (some u) b) ++ rest = (.word "show", i) :: (tkP (i + ln [wd "show" [32]]) (pcE e [32]) ++ ((.word "in", i + ln (wd "show" [32] :: pcE e [32])) :: (tkP (i + ln (wd "show" [32] :: pcE e [32] ++ [wd "in" [32]])) (unP u []) ++ ((.sign ";", i + ln (wd "show" [32] :: pcE e [32] ++ [wd "in" [32]] ++ unP u [])) :: rest)))) := by
      have : shP e (some u) b = [wd "show" [32]] ++ pcE e [32] ++ [wd "in" [32]] ++ unP u [] ++ [sg ";" b] := by simp [shP, opP]
      rw [this, tkP_append, tkP_append, tkP_append, tkP_append]
      simp [tkP, wd, sg, ln]
    rw [e1] at hat
    have h1 := hX e _ (k + 1) [32] _ hw hd hb hat.next ⟨_, _, rfl, by dsimp only; decide⟩
    have hat2 : At all (k + 1 + (pcE e [32]).length) ((.word "in", i + ln (wd "show" [32] :: pcE e [32])) :: (tkP (i + ln (wd "show" [32] :: pcE e [32] ++ [wd "in" [32]])) (unP u []) ++ ((.sign ";", i + ln (wd "show" [32] :: pcE e [32] ++ [wd "in" [32]] ++ unP u [])) :: rest))) := by
      have := At.app hat.next
      rw [tkP_len] at this
      exact this
    have hu := unit_run (n := n) (ho u rfl) hat2.next
    have hat3 : At all (k + 1 + (pcE e [32]).length + 1 + (unP u []).length) ((.sign ";", i + ln (wd "show" [32] :: pcE e [32] ++ [wd "in" [32]] ++ unP u [])) :: rest) := by
      have := At.app hat2.next
      rw [tkP_len] at this
      exact this
    unfold showG
    rw [h1]
    show bindR (bindR (if seesB all ["in"] (k + 1 + (pcE e [32]).length) = true then _ else _) _) _ = _
    rw [if_pos (by rw [hat2.sees]; dsimp only; decide), hu]
    show bindR (expectS all n ";" (k + 1 + (pcE e [32]).length + 1 + (unP u []).length)) _ = _
    rw [semi_run hat3]
    show Except.ok _ = _
    have hlen : (shP e (some u) b).length = 1 + (pcE e [32]).length + 1 + (unP u []).length + 1 := by
      simp [shP, opP]
      omega
    rw [hlen]
    show Except.ok (shD i e (some u), _) = _
    congr 2
    omega
end
end Px

/-! ### bases, units, functions -/
namespace Px
open PySem PySem.Spec PyProof.Rows L2 Ly Lx TL Lw
section
variable {all : List (Tkn × Nat)} {n : Nat}
def baP (b : List Nat) : List Pc := [wd "base" [32], nm "m" [], sg ";" b]
def baD (i : Nat) : PyData := .tuple [.str "base", .str "m", .int (i : Int)]
theorem base_run {i k : Nat} {X : Nat → Res} {b : List Nat} {rest : List (Tkn × Nat)} (hat : At all k (tkP i (baP b) ++ rest)) : lineG all n X k = .ok (baD i, k + (baP b).length) := by
  have h0 : At all k ((.word "base", i) :: (.name "m", i + 4 + 1) :: (.sign ";", i + 4 + 1 + 1 + 0) :: rest) := hat
  unfold lineG
  rw [if_pos (by rw [h0.sees]; dsimp only; decide), h0.wh]
  unfold baseM
  rw [name_run h0.next]
  show bindR (expectS all n ";" (k + 1 + 1)) _ = _
  rw [semi_run h0.next.next]
  rfl
def utP (t d : Nat) (w : List Nat) (u : Un) (b : List Nat) : List Pc := wd "unit" [32] :: nm "km" [32] :: sg "=" [32] :: ⟨.num t d, w, [32]⟩ :: unP u [] ++ [sg ";" b]
def utD (t d : Nat) (w : List Nat) (i : Nat) (u : Un) : PyData := .tuple [.str "unit", .str "km", .tuple [.int (t : Int), .int (d : Int)], .tuple (prL (i + ln [wd "unit" [32], nm "km" [32], sg "=" [32], ⟨.num t d, w, [32]⟩] + 1) u), .int (i : Int)]
theorem unit_line {i k t d : Nat} {w : List Nat} {u : Un} {X : Nat → Res} {b : List Nat} {rest : List (Tkn × Nat)} (hu : UnOk u) (hat : At all k (tkP i (utP t d w u b) ++ rest)) : lineG all n X k = .ok (utD t d w i u, k + (utP t d w u b).length) := by
  have e1 : ∃ i1 i2 i3 j, tkP i (utP t d w u b) ++ rest = (.word "unit", i) :: (.name "km", i1) :: (.sign "=", i2) :: (.num t d, i3) :: (tkP (i + ln [wd "unit" [32], nm "km" [32], sg "=" [32], ⟨.num t d, w, [32]⟩]) (unP u []) ++ ((.sign ";", j) :: rest)) := by
    refine ⟨i + ln [wd "unit" [32]], i + ln [wd "unit" [32], nm "km" [32]], i + ln [wd "unit" [32], nm "km" [32], sg "=" [32]], i + ln ([wd "unit" [32], nm "km" [32], sg "=" [32], ⟨.num t d, w, [32]⟩] ++ unP u []), ?_⟩
    have : utP t d w u b = [wd "unit" [32]] ++ [nm "km" [32]] ++ [sg "=" [32]] ++ [⟨.num t d, w, [32]⟩] ++ unP u [] ++ [sg ";" b] := by simp [utP]
    rw [this, tkP_append, tkP_append, tkP_append, tkP_append, tkP_append]
    simp [tkP, wd, sg, nm, ln]
  obtain ⟨i1, i2, i3, j, e1⟩ := e1
  rw [e1] at hat
  have h1 := hat.next
  have h2 := h1.next
  have h3 := h2.next
  have hun := unit_run (n := n) hu h3.next
  have h4 : At all (k + 1 + 1 + 1 + 1 + (unP u []).length) ((.sign ";", j) :: rest) := by
    have := At.app h3.next
    rw [tkP_len] at this
    exact this
  unfold lineG
  rw [if_neg (by rw [hat.sees]; dsimp only; decide), if_pos (by rw [hat.sees]; dsimp only; decide), hat.wh]
  unfold unitM
  rw [name_run h1]
  show bindR (bindR (expectS all n "=" (k + 1 + 1)) _) _ = _
  rw [sign_run (by decide) h2]
  show bindR (bindR (expectKind all n "number" (k + 1 + 1 + 1)) _) _ = _
  have hk : expectKind all n "number" (k + 1 + 1 + 1) = .ok (.tuple [.int (t : Int), .int (d : Int)], k + 1 + 1 + 1 + 1) := by
    unfold expectKind
    rw [if_pos (by rw [h3.kind]; exact (by decide : (("number" : Str) == "number") = true)), h3.tv]
    rfl
  rw [hk]
  show bindR (bindR (productM all n (k + 1 + 1 + 1 + 1)) _) _ = _
  rw [hun]
  show bindR (expectS all n ";" (k + 1 + 1 + 1 + 1 + (unP u []).length)) _ = _
  rw [semi_run h4]
  have hlen : (utP t d w u b).length = 1 + 1 + 1 + 1 + (unP u []).length + 1 := by
    simp [utP]
    omega
  rw [hlen]
  show Except.ok (utD t d w i u, _) = _
  congr 2
  omega
/-- a colon and a product, or nothing -/
def tdP (o : Option Un) (b : List Nat) : List Pc := match o with
  | none => []
  | some u => sg ":" [32] :: unP u b
def tdD (i : Nat) (o : Option Un) : PyData := match o with
  | none => .none
  | some u => .tuple (prL (i + ln [sg ":" [32]] + 1) u)
theorem told_run {i k : Nat} {o : Option Un} {b : List Nat} {t : Tkn × Nat} {rest : List (Tkn × Nat)} (ho : ∀ u, o = some u → UnOk u) (ht : valIn t.1 [":"] = false) (hat : At all k (tkP i (tdP o b) ++ t :: rest)) : toldM all n k = .ok (tdD i o, k + (tdP o b).length) := by
  cases o with
  | none =>
    have h0 : At all k (t :: rest) := hat
    unfold toldM
    rw [if_neg (by rw [h0.sees, ht]; exact Bool.false_ne_true)]
    rfl
  | some u =>
    have h0 : At all k ((.sign ":", i) :: (tkP (i + ln [sg ":" [32]]) (unP u b) ++ t :: rest)) := hat
    unfold toldM
    rw [if_pos (by rw [h0.sees]; dsimp only; decide), unit_run (ho u rfl) h0.next]
    show Except.ok (tdD i (some u), _) = _
    congr 2
    show _ = k + ((unP u b).length + 1)
    omega
end
end Px

/-! ### functions -/
namespace Px
open PySem PySem.Spec PyProof.Rows L2 Ly Lx TL Lw
abbrev Pm := Str × Option Un
def pmP (p : Pm) : List Pc := nm p.1 [] :: tdP p.2 []
def pmD (i : Nat) (p : Pm) : PyData := .tuple [.str p.1, tdD (i + ln [nm p.1 []]) p.2]
/-- the parameters behind the first -/
def paP : List Pm → List Pc
  | [] => []
  | p :: ps => sg "," [32] :: pmP p ++ paP ps
def paD : Nat → List Pm → List PyData
  | _, [] => []
  | i, p :: ps => pmD (i + ln [sg "," [32]]) p :: paD (i + ln (sg "," [32] :: pmP p)) ps
def PmOk (ps : List Pm) : Prop := ∀ p ∈ ps, (∀ u, p.2 = some u → UnOk u) ∧ ([")"] : List Str).any (· == p.1) = false
section
variable {all : List (Tkn × Nat)} {n : Nat}
theorem param_run {i k : Nat} {p : Pm} {t : Tkn × Nat} {rest : List (Tkn × Nat)} (ho : ∀ u, p.2 = some u → UnOk u) (ht : valIn t.1 [":"] = false) (hat : At all k (tkP i (pmP p) ++ t :: rest)) : paramM all n k = .ok (pmD i p, k + (pmP p).length) := by
  have h0 : At all k ((.name p.1, i) :: (tkP (i + ln [nm p.1 []]) (tdP p.2 []) ++ t :: rest)) := by
    have : tkP i (pmP p) = (.name p.1, i) :: tkP (i + ln [nm p.1 []]) (tdP p.2 []) := by
      show tkP i ([nm p.1 []] ++ tdP p.2 []) = _
      rw [tkP_append]
      rfl
    rw [this] at hat
    exact hat
  unfold paramM
  rw [name_run h0]
  show bindR (toldM all n (k + 1)) _ = _
  rw [told_run ho ht h0.next]
  show Except.ok (pmD i p, _) = _
  congr 2
  show _ = k + ((tdP p.2 []).length + 1)
  omega
theorem params_run : ∀ (ps : List Pm) (k i f j : Nat) (acc : List PyData) (rest : List (Tkn × Nat)), PmOk ps → ps.length < f → At all k (tkP i (paP ps) ++ (.sign ")", j) :: rest) → paramsL all n f acc k = .ok (.tuple (acc ++ paD i ps), k + (paP ps).length + 1)
  | [], k, i, f, j, acc, rest, _, hf, hat => by
    obtain ⟨f', rfl⟩ : ∃ f', f = f' + 1 := ⟨f - 1, by simp at hf; omega⟩
    have h0 : At all k ((.sign ")", j) :: rest) := hat
    unfold paramsL
    rw [if_neg (by rw [h0.sees]; dsimp only; decide), close_run h0]
    show Except.ok (PyData.tuple acc, k + 1) = _
    simp [paD, paP]
  | p :: ps, k, i, f, j, acc, rest, hp, hf, hat => by
    obtain ⟨f', rfl⟩ : ∃ f', f = f' + 1 := ⟨f - 1, by simp at hf; omega⟩
    have e1 : tkP i (paP (p :: ps)) = (.sign ",", i) :: (tkP (i + ln [sg "," [32]]) (pmP p) ++ tkP (i + ln (sg "," [32] :: pmP p)) (paP ps)) := by
      show tkP i ([sg "," [32]] ++ pmP p ++ paP ps) = _
      rw [tkP_append, tkP_append]
      rfl
    rw [e1] at hat
    have h0 : At all k ((.sign ",", i) :: (tkP (i + ln [sg "," [32]]) (pmP p) ++ (tkP (i + ln (sg "," [32] :: pmP p)) (paP ps) ++ (.sign ")", j) :: rest))) := by simpa using hat
    obtain ⟨t, r, et, ht⟩ : ∃ t r, tkP (i + ln (sg "," [32] :: pmP p)) (paP ps) ++ (.sign ")", j) :: rest = t :: r ∧ valIn t.1 [":"] = false := by
      cases ps with
      | nil => exact ⟨(.sign ")", j), rest, rfl, by dsimp only; decide⟩
      | cons q qs => exact ⟨(.sign ",", _), _, rfl, by dsimp only; decide⟩
    have h1 := h0.next
    rw [et] at h1
    have hpr := param_run (n := n) (hp p List.mem_cons_self).1 ht h1
    have h2 : At all (k + 1 + (pmP p).length) (tkP (i + ln (sg "," [32] :: pmP p)) (paP ps) ++ (.sign ")", j) :: rest) := by
      have := At.app h0.next
      rw [tkP_len] at this
      exact this
    have ih := params_run ps (k + 1 + (pmP p).length) (i + ln (sg "," [32] :: pmP p)) f' j (acc ++ [pmD (i + ln [sg "," [32]]) p]) rest (fun q hq => hp q (List.mem_cons_of_mem _ hq)) (by simp at hf; omega) h2
    unfold paramsL
    rw [if_pos (by rw [h0.sees]; dsimp only; decide), hpr]
    show paramsL all n f' _ _ = _
    rw [ih]
    have hlen : (paP (p :: ps)).length = 1 + (pmP p).length + (paP ps).length := by
      show (sg "," [32] :: pmP p ++ paP ps).length = _
      rw [List.length_append, List.length_cons]
      omega
    rw [hlen]
    simp only [paD, List.append_assoc, List.cons_append, List.nil_append]
    congr 2
    omega
/-- all the parameters, with the bracket -/
def prP : List Pm → List Pc
  | [] => []
  | p :: ps => pmP p ++ paP ps
def prD : Nat → List Pm → List PyData
  | _, [] => []
  | i, p :: ps => pmD i p :: paD (i + ln (pmP p)) ps
theorem paP_len : ∀ ps : List Pm, ps.length ≤ (paP ps).length
  | [] => Nat.le_refl _
  | p :: ps => by
    have := paP_len ps
    show _ ≤ (sg "," [32] :: pmP p ++ paP ps).length
    rw [List.length_append, List.length_cons, List.length_cons]
    omega
theorem all_params {ps : List Pm} {k i j : Nat} {rest : List (Tkn × Nat)} (hp : PmOk ps) (hat : At all k (tkP i (prP ps) ++ (.sign ")", j) :: rest)) : paramsM all n k = .ok (.tuple (prD i ps), k + (prP ps).length + 1) := by
  cases ps with
  | nil =>
    have h0 : At all k ((.sign ")", j) :: rest) := hat
    unfold paramsM
    rw [if_pos (by rw [h0.sees]; dsimp only; decide)]
    rfl
  | cons p ps =>
    have e1 : tkP i (prP (p :: ps)) = tkP i (pmP p) ++ tkP (i + ln (pmP p)) (paP ps) := tkP_append _ _ _
    rw [e1, List.append_assoc] at hat
    have hl : k + (pmP p).length + ((paP ps).length + 1) ≤ all.length := by
      have h1 := congrArg List.length (show all.drop k = _ from hat)
      simp only [List.length_drop, List.length_cons, List.length_append, tkP_len] at h1
      omega
    obtain ⟨t, r, et, ht⟩ : ∃ t r, tkP (i + ln (pmP p)) (paP ps) ++ (.sign ")", j) :: rest = t :: r ∧ valIn t.1 [":"] = false := by
      cases ps with
      | nil => exact ⟨(.sign ")", j), rest, rfl, by dsimp only; decide⟩
      | cons q qs => exact ⟨(.sign ",", _), _, rfl, by dsimp only; decide⟩
    have h1 := hat
    rw [et] at h1
    have h0 : At all k ((.name p.1, i) :: (tkP (i + ln [nm p.1 []]) (tdP p.2 []) ++ t :: r)) := by
      have : tkP i (pmP p) = (.name p.1, i) :: tkP (i + ln [nm p.1 []]) (tdP p.2 []) := by
        show tkP i ([nm p.1 []] ++ tdP p.2 []) = _
        rw [tkP_append]
        rfl
      rw [this] at h1
      exact h1
    have hpr := param_run (n := n) (hp p List.mem_cons_self).1 ht h1
    have h2 : At all (k + (pmP p).length) (tkP (i + ln (pmP p)) (paP ps) ++ (.sign ")", j) :: rest) := by
      have := At.app hat
      rw [tkP_len] at this
      exact this
    have h3 := paP_len ps
    have ih := params_run (n := n) ps (k + (pmP p).length) (i + ln (pmP p)) (all.length + 1) j [pmD i p] rest (fun q hq => hp q (List.mem_cons_of_mem _ hq)) (by omega) h2
    unfold paramsM
    rw [if_neg (by rw [h0.sees]; show ¬ (([")"] : List Str).any (· == p.1)) = true; rw [(hp p List.mem_cons_self).2]; exact Bool.false_ne_true), hpr]
    show paramsL all n (all.length + 1) [pmD i p] (k + (pmP p).length) = _
    rw [ih]
    have hlen : (prP (p :: ps)).length = (pmP p).length + (paP ps).length := List.length_append
    rw [hlen]
    show Except.ok (PyData.tuple (prD i (p :: ps)), _) = _
    congr 2
    omega
end
end Px

namespace Px
open PySem PySem.Spec PyProof.Rows L2 Ly Lx TL Lw
/-- the head of a function's line -/
def fuH (ps : List Pm) (o : Option Un) : List Pc := wd "fun" [32] :: nm "f" [] :: sg "(" [] :: prP ps ++ [sg ")" (if o = none then [32] else [])]
def fuP (ps : List Pm) (o : Option Un) (e : Ex) (b : List Nat) : List Pc := fuH ps o ++ tdP o [32] ++ [sg "=" [32]] ++ pcE e [] ++ [sg ";" b]
def fuD (i : Nat) (ps : List Pm) (o : Option Un) (e : Ex) : PyData := .tuple [.str "fun", .str "f", .tuple (prD (i + ln [wd "fun" [32], nm "f" [], sg "(" []]) ps), tdD (i + ln (fuH ps o)) o, trE (i + ln (fuH ps o ++ tdP o [32] ++ [sg "=" [32]])) e, .int (i : Int)]
section
variable {all : List (Tkn × Nat)} {n : Nat}
theorem fun_run {q B i k : Nat} {X : Nat → Res} {ps : List Pm} {o : Option Un} {e : Ex} {b : List Nat} {rest : List (Tkn × Nat)} (hX : Rd1 all n q B X) (hw : WfE e) (hd : dpE e ≤ q) (hb : buE e ≤ B) (hps : PmOk ps) (ho : ∀ u, o = some u → UnOk u)
    (hat : At all k (tkP i (fuP ps o e b) ++ rest)) : lineG all n X k = .ok (fuD i ps o e, k + (fuP ps o e b).length) := by
  obtain ⟨i1, i2, j1, j2, j3, e1⟩ : ∃ i1 i2 j1 j2 j3, tkP i (fuP ps o e b) ++ rest = (.word "fun", i) :: (.name "f", i1) :: (.sign "(", i2) :: (tkP (i + ln [wd "fun" [32], nm "f" [], sg "(" []]) (prP ps) ++ (.sign ")", j1) ::
      (tkP (i + ln (fuH ps o)) (tdP o [32]) ++ (.sign "=", j2) :: (tkP (i + ln (fuH ps o ++ tdP o [32] ++ [sg "=" [32]])) (pcE e []) ++ (.sign ";", j3) :: rest))) := by
    refine ⟨i + ln [wd "fun" [32]], i + ln [wd "fun" [32], nm "f" []], i + ln (wd "fun" [32] :: nm "f" [] :: sg "(" [] :: prP ps), i + ln (fuH ps o ++ tdP o [32]), i + ln (fuH ps o ++ tdP o [32] ++ [sg "=" [32]] ++ pcE e []), ?_⟩
    have h1 : tkP i (fuP ps o e b) = tkP i (fuH ps o) ++ tkP (i + ln (fuH ps o)) (tdP o [32]) ++ tkP (i + ln (fuH ps o ++ tdP o [32])) [sg "=" [32]] ++ tkP (i + ln (fuH ps o ++ tdP o [32] ++ [sg "=" [32]])) (pcE e []) ++ tkP (i + ln (fuH ps o ++ tdP o [32] ++ [sg "=" [32]] ++ pcE e [])) [sg ";" b] := by
      unfold fuP
      rw [tkP_append, tkP_append, tkP_append, tkP_append]
    have h2 : tkP i (fuH ps o) = (.word "fun", i) :: (.name "f", i + ln [wd "fun" [32]]) :: (.sign "(", i + ln [wd "fun" [32], nm "f" []]) :: (tkP (i + ln [wd "fun" [32], nm "f" [], sg "(" []]) (prP ps) ++ [(.sign ")", i + ln (wd "fun" [32] :: nm "f" [] :: sg "(" [] :: prP ps))]) := by
      show tkP i ([wd "fun" [32]] ++ [nm "f" []] ++ [sg "(" []] ++ prP ps ++ [sg ")" (if o = none then [32] else [])]) = _
      rw [tkP_append, tkP_append, tkP_append, tkP_append]
      simp [tkP, wd, sg, nm, ln]
    rw [h1, h2]
    simp [tkP, sg]
  rw [e1] at hat
  have a1 := hat.next
  have a2 := a1.next
  have a3 := a2.next
  have r3 := all_params (n := n) hps a3
  have a4 : At all (k + 1 + 1 + 1 + (prP ps).length) ((.sign ")", j1) :: (tkP (i + ln (fuH ps o)) (tdP o [32]) ++ (.sign "=", j2) :: (tkP (i + ln (fuH ps o ++ tdP o [32] ++ [sg "=" [32]])) (pcE e []) ++ (.sign ";", j3) :: rest))) := by
    have := At.app a3
    rw [tkP_len] at this
    exact this
  have a5 := a4.next
  have r5 := told_run (n := n) ho (by dsimp only; decide) a5
  have a6 : At all (k + 1 + 1 + 1 + (prP ps).length + 1 + (tdP o [32]).length) ((.sign "=", j2) :: (tkP (i + ln (fuH ps o ++ tdP o [32] ++ [sg "=" [32]])) (pcE e []) ++ (.sign ";", j3) :: rest)) := by
    have := At.app a5
    rw [tkP_len] at this
    exact this
  have r7 := hX e _ _ [] _ hw hd hb a6.next ⟨_, _, rfl, by dsimp only; decide⟩
  have a8 : At all (k + 1 + 1 + 1 + (prP ps).length + 1 + (tdP o [32]).length + 1 + (pcE e []).length) ((.sign ";", j3) :: rest) := by
    have := At.app a6.next
    rw [tkP_len] at this
    exact this
  unfold lineG
  rw [if_neg (by rw [hat.sees]; dsimp only; decide), if_neg (by rw [hat.sees]; dsimp only; decide), if_pos (by rw [hat.sees]; dsimp only; decide), hat.wh]
  unfold funG
  rw [name_run a1]
  show bindR (bindR (expectS all n "(" (k + 1 + 1)) _) _ = _
  rw [sign_run (by decide) a2]
  show bindR (bindR (paramsM all n (k + 1 + 1 + 1)) _) _ = _
  rw [r3]
  show bindR (bindR (toldM all n (k + 1 + 1 + 1 + (prP ps).length + 1)) _) _ = _
  rw [r5]
  show bindR (bindR (expectS all n "=" (k + 1 + 1 + 1 + (prP ps).length + 1 + (tdP o [32]).length)) _) _ = _
  rw [sign_run (by decide) a6]
  show bindR (bindR (X (k + 1 + 1 + 1 + (prP ps).length + 1 + (tdP o [32]).length + 1)) _) _ = _
  rw [r7]
  show bindR (expectS all n ";" (k + 1 + 1 + 1 + (prP ps).length + 1 + (tdP o [32]).length + 1 + (pcE e []).length)) _ = _
  rw [semi_run a8]
  have hlen : (fuP ps o e b).length = 1 + 1 + 1 + (prP ps).length + 1 + (tdP o [32]).length + 1 + (pcE e []).length + 1 := by
    simp [fuP, fuH]
    omega
  rw [hlen]
  show Except.ok (fuD i ps o e, _) = _
  congr 2
  omega
end
end Px

/-! ### operations and statements that the laws of drawn texts need -/
namespace Ly
open PySem PySem.Spec PyProof.Rows L2 Lx TL
section
variable {X : Cx}
theorem fold_flat (a : Array Nat) : ∀ (n : Nat) (b : Array Nat), ((List.replicate n a).foldl (· ++ ·) b).toList = b.toList ++ (List.replicate n a.toList).flatten
  | 0, b => by simp
  | n + 1, b => by
    rw [List.replicate_succ, List.foldl_cons, fold_flat a n, Array.toList_append, List.replicate_succ, List.flatten_cons, List.append_assoc]
/-- a text, n times -/
def repS (a : Str) (n : Nat) : Str := Lx.mk (List.replicate n (tl a)).flatten
theorem repS_len (a : Str) (n : Nat) : (repS a n).length = n * a.length := by
  unfold repS
  rw [mk_len, List.length_flatten, List.map_replicate, List.sum_replicate_nat, ← len_tl]
def rMulT : R2 := fun x y H Q => ∃ (a : Str) (n : Nat), x = .str a ∧ y = .int (n : Int) ∧ n ≤ 100000 ∧ a.length * n ≤ 100000 ∧ Q (.str (repS a n)) H
theorem op_mulT : OpR X (binaryOp .Mult) rMulT := by
  intro pins s σ H x y v u Q I rx ry h
  obtain ⟨a, n, rfl, rfl, hn, hl, q⟩ := h
  obtain ⟨t, rfl⟩ := rx
  obtain ⟨t', rfl⟩ := ry
  have e2 : (decide ((n : Int) < -(2 ^ 63 : Int)) || decide ((n : Int) ≥ 2 ^ 63)) = false := by
    rw [decide_eq_false (by omega), decide_eq_false (by omega)]
    rfl
  refine PySem.P.mul_str e2 (fun h1 _ => ?_) (fun _ _ => ?_) ?_
  · have ha : a.length ≤ 100000 := by
      have : a.length * 1 ≤ a.length * n := Nat.mul_le_mul_left _ (by omega)
      omega
    have hq : ((2 : Int) ^ 63 - 1) / (n : Int) ≥ 100000 := by
      refine Int.le_ediv_of_mul_le (by omega) ?_
      have : (100000 : Int) * (n : Int) ≤ 100000 * 100000 := by omega
      omega
    omega
  · have : a.length * (n : Int).toNat ≤ 100000 := by simpa using hl
    show decide (a.length * (n : Int).toNat > sizeLine) = false
    rw [sizeLine_eq, decide_eq_false_iff_not]
    omega
  · by_cases h0 : (n : Int) < 1
    · rw [if_pos h0]
      have e : n = 0 := by omega
      subst e
      refine ⟨by decide, .str _, H, I.tok _, ⟨_, rfl⟩, ?_⟩
      exact q
    · rw [if_neg h0]
      by_cases h1 : ((n : Int) == 1 || a.length == 0) = true
      · rw [if_pos h1]
        refine ⟨.str _, H, I, ⟨_, rfl⟩, ?_⟩
        have e : repS a n = a := by
          refine ext_tl ?_
          show (List.replicate n (tl a)).flatten = tl a
          rcases Bool.or_eq_true_iff.mp h1 with h | h
          · have : n = 1 := by
              have : (n : Int) = 1 := eq_of_beq h
              omega
            subst this
            simp
          · have h2 : a.length = 0 := eq_of_beq h
            rw [len_tl] at h2
            rw [List.length_eq_zero_iff.mp h2]
            simp
        rw [e] at q
        exact q
      · rw [if_neg h1]
        have e3 : (⟨(List.replicate (n : Int).toNat a.cps).foldl (· ++ ·) #[]⟩ : Str) = repS a n := by
          refine ext_tl ?_
          show ((List.replicate (n : Int).toNat a.cps).foldl (· ++ ·) #[]).toList = (List.replicate n (tl a)).flatten
          rw [fold_flat, Int.toNat_natCast]
          rfl
        rw [e3]
        refine ⟨?_, .str _, H, I.tok _, ⟨_, rfl⟩, q⟩
        rw [sizeLine_eq, repS_len, Nat.mul_comm]
        omega
theorem op_timesX : OpR X (binaryOp .Mult) (fun x y H Q => (rI CMul fun i j => .int (i * j)) x y H Q ∨ rMulT x y H Q) := op_mul.or op_mulT
theorem bt_sum : bootBuiltins "sum" = some (.builtin "sum") := by decide +kernel
/-- nothing is wished of an exception: none comes -/
theorem tk_no : L2N.Takes X (fun _ _ _ _ => False) := fun _ _ x => by
  obtain ⟨_, _, _, _, _, _, _, _, _, _, _, _, _, _, _, _, w⟩ := x
  exact w.elim
end
end Ly

/-! ### several except clauses that name the error -/
namespace Ly
open PySem PySem.Spec PyProof.Rows L2 L2N Lx TL
/-- what the clauses wish, the first one first -/
def wEach (K : PySem.W.Frag) (i : Nat) (W0 : WX) (D : Ends) : List (Value × (Addr → Value → Option Addr → TS)) → WX
  | [] => W0
  | p :: l => wAs K p.1 i p.2 (wEach K i W0 D l) D
/-- the clauses, each with the reading of its suite -/
inductive Cl2 (X : Cx) (m : Str) : List ExceptHandler → List (Value × (Addr → Value → Option Addr → TS)) → Prop
  | nil : Cl2 X m [] []
  | cons {k : Str} {cv : Value} {rd : Addr → Value → Option Addr → TS} {st0 : Stmt} {sts : List Stmt} {p1 p2 : Pos} {more : List ExceptHandler} {l : List (Value × (Addr → Value → Option Addr → TS))}
      (is : Names X k cv) (run : ∀ (a : Addr) (oe : Obj) (cls : Value) (d : Option Addr) (pn : List (Addr × Obj)), Zn cls d oe → (∃ vs, oe.data = .fields vs) → PSs (X.suite a ((a, oe) :: pn)) (st0 :: sts) (rd a cls d))
      (rest : Cl2 X m more l) : Cl2 X m (.ExceptHandler (some (.Name k p1)) (some m) (st0 :: sts) p2 :: more) ((cv, rd) :: l)
section
variable {X : Cx} {m : Str} {i : Nat} {bd : List Stmt} {c0 : ExceptHandler} {cs : List ExceptHandler} {l : List (Value × (Addr → Value → Option Addr → TS))} {pos : Pos} {tb : WX → TS} {W0 : WX}
theorem ps_try_two (h1 : X.stack = X.env :: X.outer) (h2 : X.env.frame = some X.env.locals) (h3 : X.N.Nodup) (tk : L2N.Takes X W0)
    (hbd : ∀ (W : WX) (pn : List (Addr × Obj)) (xe : Value → Shared → Prop), L2N.Takes (X.tr pn xe) W → PassesOwn (model X.prog X.w) X.A X.env xe → PSs (X.tr pn xe) bd (tb W))
    (hcl : Cl2 X m (c0 :: cs) l) (h4 : X.N[i]? = some m := by rfl) (h5 : X.env.kindOf m = some .local := by rfl) : PS X (.Try bd (c0 :: cs) [] [] pos) (fun D σ H => tb (wEach X.K i W0 D l) D σ H) := by
  constructor
  intro pins s σ H D J0 hq
  have good := J0.ok
  have frE : X.A.frames = some (X.env :: X.outer) := good.frames.trans (congrArg some h1)
  have lcl : Loc X.env.scope m := Or.inl h5
  apply wpAny_Try_except
  have back : ∀ {f : Flow} {t : Shared}, SP (X.tr (X.pn ++ pins) (fun e s1 => wpAny (model X.prog X.w) X.A (noteFrame e X.env) (fun _ s2 => wpAny (model X.prog X.w) X.A (setFlight e none) (fun _ s3 =>
      wpAny (model X.prog X.w) X.A (handleBy e X.env (c0 :: cs)) (SP X pins D) X.xe s3) X.xe s2) X.xe s1)) [] D f t → SP X pins D f t := fun {f t} hsp => by
    cases f with
    | ret u =>
      obtain ⟨v, a, b, J, r, q⟩ := hsp
      exact ⟨v, a, b, J.ofTry good, r, q⟩
    | next | brk | cont =>
      obtain ⟨a, b, J, q⟩ := hsp
      exact ⟨a, b, J.ofTry good, q⟩
  refine wpAny_mono ((hbd (wEach X.K i W0 D l) (X.pn ++ pins) (fun e s1 => wpAny (model X.prog X.w) X.A (noteFrame e X.env) (fun _ s2 => wpAny (model X.prog X.w) X.A (setFlight e none) (fun _ s3 =>
      wpAny (model X.prog X.w) X.A (handleBy e X.env (c0 :: cs)) (SP X pins D) X.xe s3) X.xe s2) X.xe s1) (fun e t came => ?_) PassesOwn.looking).run [] s σ H D (J0.toTry _) hq) (fun f t hsp => ?_) (fun _ _ z => z)
  · obtain ⟨x, B, sJ, pns, τ, G, cls, d, rfl, Jt, nbig, upw, sk, nax, osx, agx, wish⟩ := came
    have Jx : Inv X pins τ G sJ := Jt.ofTry good
    have sk2 : Sky B (X.env :: X.outer) x (Zn cls d) X.env.locals t.heap := h1 ▸ sk
    show wpAny (model X.prog X.w) X.A (noteFrame (.ref x) X.env) _ _ _
    refine Sky.land Zn.steady frE h2 sk2 fun g fly upg => ?_
    have Jg : Inv X pins τ G { t with heap := g } := Jx.landed nbig fly.1 (upw.trans upg) osx agx
    obtain ⟨og, vg, xg, zg, dg⟩ := fly.there
    have away : x ∉ frs (X.env :: X.outer) := fun hm => by
      obtain ⟨_, o1, x1, n1⟩ := fly.2.2.1.mem hm
      rw [xg] at x1
      cases x1
      exact n1 _ dg
    have apart : x ≠ X.env.locals := fun z => away (List.mem_filterMap.mpr ⟨X.env, List.mem_cons_self, by rw [h2, z]⟩)
    have afar : x ∉ X.fs := fun hm => by
      obtain ⟨e1, m1, q1⟩ := List.mem_filterMap.mp hm
      exact away (List.mem_filterMap.mpr ⟨e1, List.mem_cons_of_mem _ m1, q1⟩)
    have Sg := Jg.suite xg dg nax apart afar
    have each : ∀ {hs : List ExceptHandler} {ls : List (Value × (Addr → Value → Option Addr → TS))}, Cl2 X m hs ls → wEach X.K i W0 D ls cls d τ G →
        wpAny (model X.prog X.w) X.A (handleBy (.ref x) X.env hs) (SP X pins D) X.xe { t with heap := g } := by
      intro hs ls hk
      induction hk with
      | nil =>
        intro w
        apply wpAny_handleBy_nil
        obtain ⟨_, _, _, o2, v2, T2, _, _, x2, _, d2, f2, _⟩ := id fly
        unfold PySem.passOn
        refine wpAny_bind (wpAny_field x2 d2 f2 ?_)
        rw [if_neg (by simp : ¬ ((Value.ref T2 == Value.none) = true))]
        have go : wpAny (model X.prog X.w) X.A (setFlight (.ref x) X.env.frame) (fun _ s4 => wpAny (model X.prog X.w) X.A (throw (.ref x) : Sem Flow) (SP X pins D) X.xe s4) X.xe { t with heap := g } := by
          rw [h2]
          refine HandSPX.setFlight_upZ fly fun g4 sky4 up4 => wpAny_throw (tk _ _ ?_)
          refine ⟨x, B, sJ, pins, τ, G, cls, d, rfl, Jx, nbig, (upw.trans upg).trans up4, Or.inr (Or.inr ?_), nax, osx, agx, w⟩
          rw [h1]
          exact sky4
        first
          | exact wpAny_bind (wpAny_pure (wpAny_bind go))
          | exact wpAny_bind go
      | @cons k cv rd st0 sts p1 p2 more l2 is run rest ih =>
        intro w
        obtain ⟨b, eb, yes, no⟩ := w
        refine wpAny_handleBy_cons (codeAny_handlers_test ?_) (by intro q; cases q)
        have lk : PySem.W.Looks (model X.prog X.w) g (typeOf (.ref x)) cls := fun A Q E s k q => wpAny_typeOf_ref (k _ _ xg) (zg.1.symm ▸ q)
        have one := PySem.W.exm_one (M := model X.prog X.w) Jg.kIn lk eb
        have named : ∀ {Q : Value → Shared → Prop} {E : Value → Shared → Prop}, Q cv { t with heap := g } → wpAny (model X.prog X.w) (X.A.mark (some (.ref x))) (eval (.Name k p1) X.env) Q E { t with heap := g } := fun {Q E} q => by
          rcases is with ⟨i1, i2, i3 | ⟨i3, i4, i5⟩⟩
          · exact ld_glob (X := X.suite x ((x, og) :: (X.pn ++ pins))) Sg i1 i3 q i2
          · exact ld_blt (X := X.suite x ((x, og) :: (X.pn ++ pins))) Sg i1 i3 i4 q i5 i2
        refine named (one.here ?_)
        cases b with
        | false => exact ih (no rfl)
        | true =>
          apply codeAny_handlers_suite_as
          refine HandSPX.lands_againZ fly fun g4 fly4 up4 => ?_
          have J4 : Inv X pins τ G { t with heap := g4 } := Jx.landed nbig fly4.1 ((upw.trans upg).trans up4) osx agx
          obtain ⟨o4, v4, x4, z4, d4⟩ := fly4.there
          have S4 := J4.suite x4 d4 nax apart afar
          refine store_ok (X := X.suite x ((x, o4) :: (X.pn ++ pins))) (v := .ref x) S4 h3 h4 lcl rfl (fun s5 S5 => ?_) (Or.inr h5)
          have done : ∀ {τ6 : L2.St} {G6 : Hp} {s6 : Shared} {R : Shared → Prop}, Inv (X.suite x ((x, o4) :: (X.pn ++ pins))) [] τ6 G6 s6 → (∀ s7, Inv X pins (τ6.set i none) G6 s7 → R s7) →
              wpAny (model X.prog X.w) X.A (do bindName X.env m .none; unbindBehindTheSuite X.env m p2) (fun _ s7 => R s7) X.xe s6 := fun {τ6 G6 s6 R} S6 hR => gone_ok (S6.unsuite good) h3 h4 h5 hR
          refine wpAny_mono ((run x o4 cls d (X.pn ++ pins) z4 ⟨_, d4⟩).run [] s5 _ G _ S5 (yes rfl x nax)) (fun f s6 hsp => ?_) (fun _ _ z => z.elim)
          cases f with
          | ret u =>
            obtain ⟨v6, τ6, G6, S6, r6, q6⟩ := hsp
            exact done S6 fun s7 J7 => ⟨_, _, _, J7, r6, q6⟩
          | next | brk | cont =>
            obtain ⟨τ6, G6, S6, q6⟩ := hsp
            exact done S6 fun s7 J7 => ⟨_, _, J7, q6⟩
    exact each hcl wish
  · have := back hsp
    cases f with
    | next => exact wpAny_execs_nil this
    | ret u => exact this
    | brk => exact this
    | cont => exact this
end
end Ly

/-! ### the expressions and lines that the law draws -/
namespace Px
open PySem PySem.Spec PyProof.Rows L2 Ly Lx TL Lw
def unI0 (x : Str × Int) : PyData := .tuple [.str x.1, .int x.2, .int 0]
def unD0 (u : Un) : PyData := .tuple (u.map unI0)
abbrev uNames : List Str := ["m", "kg", "u2"]
abbrev uPows : List Int := [1, 2, -1, 0, 9, -9]
def UnD (u : Un) : Prop := u.length ≤ 2 ∧ ∀ x ∈ u, x.1 ∈ uNames ∧ x.2 ∈ uPows
theorem nlc {d : PyData} {ds : List PyData} (h : noL d = true) (t : noLs ds = true) : noLs (d :: ds) = true := by
  show (noL d && noLs ds) = true
  rw [h, t]
  rfl
theorem noLs_of {ds : List PyData} (h : ∀ d ∈ ds, noL d = true) : noLs ds = true := by
  induction ds with
  | nil => rfl
  | cons d ds ih =>
    show (noL d && noLs ds) = true
    rw [h d List.mem_cons_self, ih fun e he => h e (List.mem_cons_of_mem _ he)]
    rfl
theorem unI0_no (u : Un) : noLs (u.map unI0) = true := noLs_of fun d h => by
  obtain ⟨x, _, rfl⟩ := List.mem_map.mp h
  rfl
theorem unD0_no (u : Un) : noL (unD0 u) = true := unI0_no u
abbrev dNames : List Str := ["x", "y_1", "Q"]
abbrev dSigns : List Str := ["+", "-", "*", "/", "<", "<=", "==", "and", "or"]
abbrev dHeads : List Str := ["add", "sub", "mul", "div", "lt", "le", "eq", "and", "or"]
abbrev dNums : List (List Nat × Nat × Nat) := [(tl "5", 5, 1), (tl "2.5", 25, 10), (tl "0", 0, 1), (tl "999999", 999999, 1), (tl "0.1234", 1234, 10000)]
/-- drawn with so many levels left -/
inductive DrE : Nat → Ex → Prop
  | num {d : Nat} {w : List Nat} {t b : Nat} {u : Un} : (w, t, b) ∈ dNums → UnD u → DrE d (.num w t b u)
  | bl {d : Nat} {v : Bool} : DrE d (.bl v)
  | var {d : Nat} {w : Str} : w ∈ dNames → DrE d (.var w)
  | call0 {d : Nat} {w : Str} : w ∈ dNames → DrE (d + 1) (.call0 w)
  | call1 {d : Nat} {w : Str} {a : Ex} : w ∈ dNames → DrE d a → DrE (d + 1) (.call1 w a)
  | call2 {d : Nat} {w : Str} {a b : Ex} : w ∈ dNames → DrE d a → DrE d b → DrE (d + 1) (.call2 w a b)
  | iter {d : Nat} {w : Str} {n : Nat} {e : Ex} : w ∈ dNames → n ≤ 20 → DrE d e → DrE (d + 1) (.iter w n e)
  | pow {d : Nat} {e : Ex} {n : Int} : n.natAbs ≤ 9 → DrE d e → DrE (d + 1) (.pow e n)
  | no {d : Nat} {e : Ex} : DrE d e → DrE (d + 1) (.no e)
  | cond {d : Nat} {a b c : Ex} : DrE d a → DrE d b → DrE d c → DrE (d + 1) (.cond a b c)
  | lett {d : Nat} {w : Str} {a b : Ex} : w ∈ dNames → DrE d a → DrE d b → DrE (d + 1) (.lett w a b)
  | bin {d : Nat} {s : Str} {a b : Ex} : s ∈ dSigns → DrE d a → DrE d b → DrE (d + 1) (.bin s a b)
/-- the tree without indexes -/
def tr0 : Ex → PyData
  | .num _ t b u => .tuple [.str "number", .tuple [.int (t : Int), .int (b : Int)], unD0 u, .int 0]
  | .bl v => .tuple [.str "bool", .bool v]
  | .var w => .tuple [.str "var", .str w, .int 0]
  | .call0 w => .tuple [.str "call", .str w, .tuple [], .int 0]
  | .call1 w a => .tuple [.str "call", .str w, .tuple [tr0 a], .int 0]
  | .call2 w a b => .tuple [.str "call", .str w, .tuple [tr0 a, tr0 b], .int 0]
  | .iter w n e => .tuple [.str "iterate", .str w, .int (n : Int), tr0 e, .int 0]
  | .pow e n => .tuple [.str "power", tr0 e, .int n, .int 0]
  | .no e => .tuple [.str "not", tr0 e, .int 0]
  | .cond a b c => .tuple [.str "if", tr0 a, tr0 b, tr0 c, .int 0]
  | .lett w a b => .tuple [.str "let", .str w, tr0 a, tr0 b, .int 0]
  | .bin s a b => .tuple [.str (opName s), tr0 a, tr0 b, .int 0]
theorem no4 {a b c d : PyData} (h1 : noL a = true) (h2 : noL b = true) (h3 : noL c = true) (h4 : noL d = true) : noL (.tuple [a, b, c, d]) = true := nlc h1 (nlc h2 (nlc h3 (nlc h4 rfl)))
theorem no5 {a b c d e : PyData} (h1 : noL a = true) (h2 : noL b = true) (h3 : noL c = true) (h4 : noL d = true) (h5 : noL e = true) : noL (.tuple [a, b, c, d, e]) = true := nlc h1 (nlc h2 (nlc h3 (nlc h4 (nlc h5 rfl))))
theorem tr0_no : ∀ e : Ex, noL (tr0 e) = true
  | .num _ _ _ u => no4 rfl rfl (unD0_no u) rfl
  | .bl _ => rfl
  | .var _ => rfl
  | .call0 _ => rfl
  | .call1 _ a => no4 rfl rfl (nlc (tr0_no a) rfl) rfl
  | .call2 _ a b => no4 rfl rfl (nlc (tr0_no a) (nlc (tr0_no b) rfl)) rfl
  | .iter _ _ e => no5 rfl rfl rfl (tr0_no e) rfl
  | .pow e _ => no4 rfl (tr0_no e) rfl rfl
  | .no e => nlc rfl (nlc (tr0_no e) rfl)
  | .cond a b c => no5 rfl (tr0_no a) (tr0_no b) (tr0_no c) rfl
  | .lett _ a b => no5 rfl rfl (tr0_no a) (tr0_no b) rfl
  | .bin _ a b => no4 rfl (tr0_no a) (tr0_no b) rfl
/-- how many numbers are taken at most -/
def cst : Nat → Nat
  | 0 => 9
  | d + 1 => 3 * cst d + 9
/-- lines -/
inductive Ln where
  | base
  | unit (u : Un)
  | fn (ps : List Pm) (o : Option Un) (e : Ex)
  | sh (e : Ex) (o : Option Un)
def opD0 : Option Un → PyData
  | none => .none
  | some u => unD0 u
def pm0 (p : Pm) : PyData := .tuple [.str p.1, opD0 p.2]
def ln0 : Ln → PyData
  | .base => .tuple [.str "base", .str "m", .int 0]
  | .unit u => .tuple [.str "unit", .str "km", .tuple [.int 25, .int 10], unD0 u, .int 0]
  | .fn ps o e => .tuple [.str "fun", .str "f", .tuple (ps.map pm0), opD0 o, tr0 e, .int 0]
  | .sh e o => .tuple [.str "show", tr0 e, opD0 o, .int 0]
def OpD (o : Option Un) : Prop := ∀ u, o = some u → UnD u
def PmD (ps : List Pm) : Prop := ps.length ≤ 2 ∧ ∀ p ∈ ps, p.1 ∈ (["x", "y"] : List Str) ∧ OpD p.2
def DrL : Ln → Prop
  | .base => True
  | .unit u => UnD u
  | .fn ps o e => PmD ps ∧ OpD o ∧ DrE 4 e
  | .sh e o => DrE 4 e ∧ OpD o
theorem opD0_no : ∀ o : Option Un, noL (opD0 o) = true
  | none => rfl
  | some u => unD0_no u
theorem pm0s_no (ps : List Pm) : noLs (ps.map pm0) = true := noLs_of fun d h => by
  obtain ⟨x, _, rfl⟩ := List.mem_map.mp h
  exact nlc rfl (nlc (opD0_no _) rfl)
theorem ln0_no : ∀ l : Ln, noL (ln0 l) = true
  | .base => rfl
  | .unit u => no5 rfl rfl rfl (unD0_no u) rfl
  | .fn ps o e => nlc rfl (nlc rfl (nlc (pm0s_no ps) (nlc (opD0_no o) (nlc (tr0_no e) (nlc rfl rfl)))))
  | .sh e o => no4 rfl (tr0_no e) (opD0_no o) rfl
end Px

/-! ### the texts of what is drawn -/
namespace Px
open PySem PySem.Spec PyProof.Rows L2 Ly Lx TL Lw
theorem tlj (y : Str) (l : List Str) : tl (Txt.join y l) = joinL (tl y) (l.map tl) := by
  show tl (Builtin.Str.glued y l) = _
  rw [StrLaws.glued_eq_join, tl_join]
theorem pw_text (n : Int) (h : n.natAbs ≤ 9) (b : List Nat) : txP (pwP n b) = tl (Str.ofString (toString n)) ++ b := by
  have key : tl (Str.ofString (toString n)) = if n < 0 then 45 :: numL n.natAbs else numL n.natAbs := by
    have hn : n = -9 ∨ n = -8 ∨ n = -7 ∨ n = -6 ∨ n = -5 ∨ n = -4 ∨ n = -3 ∨ n = -2 ∨ n = -1 ∨ n = 0 ∨ n = 1 ∨ n = 2 ∨ n = 3 ∨ n = 4 ∨ n = 5 ∨ n = 6 ∨ n = 7 ∨ n = 8 ∨ n = 9 := by omega
    rcases hn with rfl | rfl | rfl | rfl | rfl | rfl | rfl | rfl | rfl | rfl | rfl | rfl | rfl | rfl | rfl | rfl | rfl | rfl | rfl <;> decide
  rw [key]
  unfold pwP
  split
  · show (tl "-" : List Nat) ++ ([] ++ (numL n.natAbs ++ (b ++ []))) = _
    simp
    rfl
  · show numL n.natAbs ++ (b ++ []) = _
    simp
def itT (x : Str × Int) : Str := x.1 ++ (if x.2 = 1 then ("" : Str) else ("^" : Str) ++ Str.ofString (toString x.2))
theorem it_text {x : Str × Int} (h : x.2.natAbs ≤ 9) (b : List Nat) : txP (itP x b) = tl (itT x) ++ b := by
  unfold itP itT
  rw [tl_append]
  split
  · show tl x.1 ++ (b ++ []) = _
    simp
    rfl
  · show tl x.1 ++ ([] ++ ((tl "^" : List Nat) ++ ([] ++ txP (pwP x.2 b)))) = _
    rw [pw_text _ h, tl_append]
    simp
theorem items_text : ∀ {u : Un}, (∀ x ∈ u, x.2.natAbs ≤ 9) → joinL (tl " ") ((u.map itT).map tl) = txP (isP u)
  | [], _ => rfl
  | [x], h => by
    show tl (itT x) = txP (itP x [])
    rw [it_text (h x (by simp))]
    simp
  | x :: y :: u, h => by
    have ih := items_text (u := y :: u) fun z hz => h z (List.mem_cons_of_mem _ hz)
    show tl (itT x) ++ (tl " " ++ joinL (tl " ") (((y :: u).map itT).map tl)) = txP (itP x [32] ++ isP (y :: u))
    rw [ih, txP_append, it_text (h x (by simp))]
    simp
    rfl
theorem un_text (u : Un) (b : List Nat) : txP (unP u b) = 91 :: (txP (isP u) ++ (93 :: b)) := by
  show (tl "[" : List Nat) ++ ([] ++ txP (isP u ++ [sg "]" b])) = _
  rw [txP_append]
  show 91 :: ([] ++ ([] ++ (txP (isP u) ++ ((tl "]" : List Nat) ++ (b ++ []))))) = _
  simp
  rfl
def unT (u : Un) : Str := ("[" : Str) ++ Txt.join " " (u.map itT) ++ ("]" : Str)
theorem unT_text {u : Un} (h : ∀ x ∈ u, x.2.natAbs ≤ 9) (b : List Nat) : txP (unP u b) = tl (unT u) ++ b := by
  rw [un_text]
  unfold unT
  rw [tl_append, tl_append, tlj, items_text h]
  show _ = ((91 :: ([] ++ txP (isP u))) ++ [93]) ++ b
  simp
theorem UnD.abs {u : Un} (h : UnD u) : ∀ x ∈ u, x.2.natAbs ≤ 9 := fun x hx => by
  have : ∀ n ∈ uPows, n.natAbs ≤ 9 := by decide
  exact this _ (h.2 x hx).2
theorem pcE_b (e : Ex) (b : List Nat) : txP (pcE e b) = txP (pcE e []) ++ b := by
  cases e with
  | num w t d u =>
    unfold pcE
    split
    · simp [txP]
    · simp [txP, un_text]
  | pow e q =>
    show txP (sg "(" [] :: (pcE e [] ++ (sg ")" [] :: sg "^" [] :: pwP q b))) = txP (sg "(" [] :: (pcE e [] ++ (sg ")" [] :: sg "^" [] :: pwP q []))) ++ b
    have : txP (pwP q b) = txP (pwP q []) ++ b := by
      unfold pwP
      split <;> simp [txP, sg, nr]
    simp [txP, txP_append, this]
  | _ => simp [pcE, txP, txP_append, sg, wd, nm, nr]
theorem numD_len {p : List Nat × Nat × Nat} (h : p ∈ dNums) : p.1.length ≤ 6 := by
  have : ∀ p ∈ dNums, p.1.length ≤ 6 := by decide
  exact this p h
theorem name_len {w : Str} (h : w ∈ dNames) : (tl w).length ≤ 3 := by
  have : ∀ w ∈ dNames, (tl w).length ≤ 3 := by decide
  exact this w h
theorem sign_len {w : Str} (h : w ∈ dSigns) : (tl w).length ≤ 3 := by
  have : ∀ w ∈ dSigns, (tl w).length ≤ 3 := by decide
  exact this w h
theorem itT_len {x : Str × Int} (h : x.1 ∈ uNames ∧ x.2 ∈ uPows) : (itT x).length ≤ 5 := by
  have : ∀ a ∈ uNames, ∀ n ∈ uPows, (itT (a, n)).length ≤ 5 := by decide
  exact this _ h.1 _ h.2
theorem unT_len {u : Un} (h : UnD u) : (unT u).length ≤ 13 := by
  have e : (unT u).length = 1 + (joinL (tl " ") ((u.map itT).map tl)).length + 1 := by
    unfold unT
    rw [len_tl, tl_append, tl_append, List.length_append, List.length_append, tlj]
    rfl
  rw [e]
  match u, h with
  | [], _ => decide
  | [x], h =>
    have := itT_len (h.2 x (by simp))
    rw [len_tl] at this
    show 1 + (tl (itT x)).length + 1 ≤ 13
    omega
  | [x, y], h =>
    have h1 := itT_len (h.2 x (by simp))
    have h2 := itT_len (h.2 y (by simp))
    rw [len_tl] at h1 h2
    show 1 + (tl (itT x) ++ (tl " " ++ tl (itT y))).length + 1 ≤ 13
    rw [List.length_append, List.length_append]
    show 1 + (_ + (1 + _)) + 1 ≤ 13
    omega
  | _ :: _ :: _ :: _, h => exact absurd h.1 (by simp)
/-- the greatest length of a text -/
def tb : Nat → Nat
  | 0 => 30
  | d + 1 => 3 * tb d + 40
theorem tb_le (d : Nat) : 30 ≤ tb d := by
  cases d with
  | zero => exact Nat.le_refl _
  | succ d =>
    show 30 ≤ 3 * tb d + 40
    omega
theorem lits : (tl ("(" : Str)).length = 1 ∧ (tl (")" : Str)).length = 1 ∧ (tl ("," : Str)).length = 1 ∧ (tl ("^" : Str)).length = 1 ∧ (tl ("=" : Str)).length = 1 ∧ (tl ("if" : Str)).length = 2 ∧ (tl ("then" : Str)).length = 4 ∧ (tl ("else" : Str)).length = 4 ∧ (tl ("let" : Str)).length = 3 ∧
    (tl ("in" : Str)).length = 2 ∧ (tl ("not" : Str)).length = 3 ∧ (tl ("iterate" : Str)).length = 7 ∧ (tl ("from" : Str)).length = 4 ∧ (tl ("true" : Str)).length = 4 ∧ (tl ("false" : Str)).length = 5 := by decide
theorem pw_len (n : Int) (h : n.natAbs ≤ 9) : (txP (pwP n [])).length ≤ 4 := by
  have h1 := numL_len (k := 3) (by decide) (n := n.natAbs) (by omega)
  unfold pwP
  split
  · show ((tl "-" : List Nat) ++ ([] ++ (numL n.natAbs ++ ([] ++ [])))).length ≤ 4
    simp only [List.length_append, List.length_nil]
    show 1 + _ ≤ 4
    omega
  · show (numL n.natAbs ++ ([] ++ [])).length ≤ 4
    simp only [List.length_append, List.length_nil]
    omega
theorem ex_len : ∀ {d : Nat} {e : Ex}, DrE d e → (txP (pcE e [])).length ≤ tb d := by
  intro d e h
  obtain ⟨l1, l2, l3, l4, l5, l6, l7, l8, l9, l10, l11, l12, l13, l14, l15⟩ := lits
  induction h with
  | @num d w t b u hp hu =>
    have h1 := numD_len hp
    have h2 := unT_len hu
    rw [len_tl] at h2
    have h3 := tb_le d
    have hq : w.length ≤ 6 := h1
    unfold pcE
    split
    · simp [txP]
      omega
    · simp only [txP, unT_text hu.abs, List.length_append, List.append_nil, List.length_cons, List.length_nil]
      omega
  | @bl d v =>
    have h3 := tb_le d
    cases v
    · exact Nat.le_trans (by decide) h3
    · exact Nat.le_trans (by decide) h3
  | @var d w hw =>
    have h3 := tb_le d
    have := name_len hw
    simp only [pcE, txP, nm, List.length_append, List.length_nil]
    omega
  | @call0 d w hw =>
    have h3 := tb_le (d + 1)
    have := name_len hw
    simp only [pcE, txP, nm, sg, List.length_append, List.length_nil]
    omega
  | @call1 d w a hw ha ih =>
    have := name_len hw
    have e : tb (d + 1) = 3 * tb d + 40 := rfl
    simp only [pcE, txP, txP_append, nm, sg, List.length_append, List.length_nil, List.cons_append]
    omega
  | @call2 d w a b hw ha hb ih ih2 =>
    have := name_len hw
    have e : tb (d + 1) = 3 * tb d + 40 := rfl
    simp only [pcE, txP, txP_append, nm, sg, List.length_append, List.length_nil, List.length_cons, List.cons_append]
    omega
  | @iter d w n e hw hn he ih =>
    have := name_len hw
    have h1 := numL_len (k := 3) (by decide) (n := n) (by omega)
    have e : tb (d + 1) = 3 * tb d + 40 := rfl
    simp only [pcE, txP, txP_append, nm, sg, wd, nr, List.length_append, List.length_nil, List.length_cons, List.cons_append]
    omega
  | @pow d e n hn he ih =>
    have h1 := pw_len n hn
    have e : tb (d + 1) = 3 * tb d + 40 := rfl
    simp only [pcE, txP, txP_append, sg, List.length_append, List.length_nil, List.length_cons, List.cons_append]
    omega
  | @no d e he ih =>
    have e : tb (d + 1) = 3 * tb d + 40 := rfl
    simp only [pcE, txP, txP_append, sg, wd, List.length_append, List.length_nil, List.length_cons, List.cons_append]
    omega
  | @cond d a b c ha hb hc i1 i2 i3 =>
    have e : tb (d + 1) = 3 * tb d + 40 := rfl
    simp only [pcE, txP, txP_append, pcE_b _ [32], sg, wd, List.length_append, List.length_nil, List.length_cons, List.cons_append]
    omega
  | @lett d w a b hw ha hb i1 i2 =>
    have := name_len hw
    have e : tb (d + 1) = 3 * tb d + 40 := rfl
    simp only [pcE, txP, txP_append, pcE_b _ [32], sg, wd, nm, List.length_append, List.length_nil, List.length_cons, List.cons_append]
    omega
  | @bin d s a b hs ha hb i1 i2 =>
    have := sign_len hs
    have e : tb (d + 1) = 3 * tb d + 40 := rfl
    simp only [pcE, txP, txP_append, sg, List.length_append, List.length_nil, List.length_cons, List.cons_append]
    omega
end Px

/-! ### the texts of what is drawn, as the law writes them -/
namespace Px
open PySem PySem.Spec PyProof.Rows L2 Ly Lx TL Lw
theorem lt0 : tl ("(" : Str) = [40] := rfl
theorem lt1 : tl (")" : Str) = [41] := rfl
theorem lt2 : tl ("," : Str) = [44] := rfl
theorem lt3 : tl ("^" : Str) = [94] := rfl
theorem lt4 : tl ("=" : Str) = [61] := rfl
theorem lt5 : tl ("if" : Str) = [105, 102] := rfl
theorem lt6 : tl ("then" : Str) = [116, 104, 101, 110] := rfl
theorem lt7 : tl ("else" : Str) = [101, 108, 115, 101] := rfl
theorem lt8 : tl ("let" : Str) = [108, 101, 116] := rfl
theorem lt9 : tl ("in" : Str) = [105, 110] := rfl
theorem lt10 : tl ("not" : Str) = [110, 111, 116] := rfl
theorem lt11 : tl ("iterate" : Str) = [105, 116, 101, 114, 97, 116, 101] := rfl
theorem lt12 : tl ("from" : Str) = [102, 114, 111, 109] := rfl
theorem lt13 : tl ("true" : Str) = [116, 114, 117, 101] := rfl
theorem lt14 : tl ("false" : Str) = [102, 97, 108, 115, 101] := rfl
theorem lt15 : tl ("((" : Str) = [40, 40] := rfl
theorem lt16 : tl (") " : Str) = [41, 32] := rfl
theorem lt17 : tl (" (" : Str) = [32, 40] := rfl
theorem lt18 : tl ("))" : Str) = [41, 41] := rfl
theorem lt19 : tl ("(if " : Str) = [40, 105, 102, 32] := rfl
theorem lt20 : tl (" then " : Str) = [32, 116, 104, 101, 110, 32] := rfl
theorem lt21 : tl (" else " : Str) = [32, 101, 108, 115, 101, 32] := rfl
theorem lt22 : tl ("(let " : Str) = [40, 108, 101, 116, 32] := rfl
theorem lt23 : tl (" = " : Str) = [32, 61, 32] := rfl
theorem lt24 : tl (" in " : Str) = [32, 105, 110, 32] := rfl
theorem lt25 : tl ("iterate " : Str) = [105, 116, 101, 114, 97, 116, 101, 32] := rfl
theorem lt26 : tl (" " : Str) = [32] := rfl
theorem lt27 : tl (" from (" : Str) = [32, 102, 114, 111, 109, 32, 40] := rfl
theorem lt28 : tl ("(not (" : Str) = [40, 110, 111, 116, 32, 40] := rfl
theorem lt29 : tl (")^" : Str) = [41, 94] := rfl
theorem lt30 : tl (", " : Str) = [44, 32] := rfl
theorem lt31 : tl ("" : Str) = [] := rfl
theorem lt32 : tl ("[" : Str) = [91] := rfl
theorem lt33 : tl ("]" : Str) = [93] := rfl
theorem lt34 : tl ("base" : Str) = [98, 97, 115, 101] := rfl
theorem lt35 : tl ("unit" : Str) = [117, 110, 105, 116] := rfl
theorem lt36 : tl ("fun" : Str) = [102, 117, 110] := rfl
theorem lt37 : tl ("show" : Str) = [115, 104, 111, 119] := rfl
theorem lt38 : tl (";" : Str) = [59] := rfl
theorem lt39 : tl (":" : Str) = [58] := rfl
theorem lt40 : tl ("m" : Str) = [109] := rfl
theorem lt41 : tl ("km" : Str) = [107, 109] := rfl
theorem lt42 : tl ("f" : Str) = [102] := rfl
theorem lt43 : tl ("fun f(" : Str) = [102, 117, 110, 32, 102, 40] := rfl
theorem lt44 : tl ("show " : Str) = [115, 104, 111, 119, 32] := rfl
theorem lt45 : tl ("base m;" : Str) = [98, 97, 115, 101, 32, 109, 59] := rfl
theorem lt46 : tl ("unit km = 2.5 " : Str) = [117, 110, 105, 116, 32, 107, 109, 32, 61, 32, 50, 46, 53, 32] := rfl
theorem lt47 : tl (": " : Str) = [58, 32] := rfl
theorem lt48 : tl ("2.5" : Str) = [50, 46, 53] := rfl
def exT (e : Ex) : Str := mk (txP (pcE e []))
theorem tl_exT (e : Ex) : tl (exT e) = txP (pcE e []) := rfl
theorem sapp_len (a b : Str) : (a ++ b).length = a.length + b.length := by rw [len_tl, tl_append, List.length_append, ← len_tl, ← len_tl]
theorem exT_len {d : Nat} {e : Ex} (h : DrE d e) : (exT e).length ≤ tb d := ex_len h
theorem exT_num (w : List Nat) (t b : Nat) (u : Un) (h : UnD u) : exT (.num w t b u) = mk w ++ (if u = [] then ("" : Str) else (" " : Str) ++ unT u) := by
  refine ext_tl ?_
  rw [tl_append, tl_exT]
  unfold pcE
  split
  · simp only [tl_append, tl_of, pcE, txP, txP_append, List.cons_append, List.append_assoc, List.nil_append, List.append_nil, sg, wd, nm, nr, lt0, lt1, lt2, lt3, lt4, lt5, lt6, lt7, lt8, lt9, lt10, lt11, lt12, lt13, lt14, lt15, lt16, lt17, lt18, lt19, lt20, lt21, lt22, lt23, lt24, lt25, lt26, lt27, lt28, lt29, lt30, lt31, lt32, lt33, lt34, lt35, lt36, lt37, lt38, lt39, lt40, lt41, lt42, lt43, lt44, lt45, lt46, lt47, lt48]
  · rw [show txP (⟨.num t b, w, [32]⟩ :: unP u []) = w ++ ([32] ++ txP (unP u [])) from rfl, unT_text h.abs]
    simp only [tl_append, tl_of, pcE, txP, txP_append, List.cons_append, List.append_assoc, List.nil_append, List.append_nil, sg, wd, nm, nr, lt0, lt1, lt2, lt3, lt4, lt5, lt6, lt7, lt8, lt9, lt10, lt11, lt12, lt13, lt14, lt15, lt16, lt17, lt18, lt19, lt20, lt21, lt22, lt23, lt24, lt25, lt26, lt27, lt28, lt29, lt30, lt31, lt32, lt33, lt34, lt35, lt36, lt37, lt38, lt39, lt40, lt41, lt42, lt43, lt44, lt45, lt46, lt47, lt48]
theorem exT_bl (v : Bool) : exT (.bl v) = if v = true then "true" else "false" := by cases v <;> rfl
theorem exT_var (w : Str) : exT (.var w) = w := by
  refine ext_tl ?_
  rw [tl_exT]
  simp only [tl_append, tl_of, pcE, txP, txP_append, List.cons_append, List.append_assoc, List.nil_append, List.append_nil, sg, wd, nm, nr, lt0, lt1, lt2, lt3, lt4, lt5, lt6, lt7, lt8, lt9, lt10, lt11, lt12, lt13, lt14, lt15, lt16, lt17, lt18, lt19, lt20, lt21, lt22, lt23, lt24, lt25, lt26, lt27, lt28, lt29, lt30, lt31, lt32, lt33, lt34, lt35, lt36, lt37, lt38, lt39, lt40, lt41, lt42, lt43, lt44, lt45, lt46, lt47, lt48]
theorem exT_call0 (w : Str) : exT (.call0 w) = w ++ "(" ++ Txt.join ", " [] ++ ")" := by
  refine ext_tl ?_
  rw [tl_exT]
  simp only [tl_append, tlj]
  show _ = ((_ ++ _) ++ []) ++ _
  simp only [tl_append, tl_of, pcE, txP, txP_append, List.cons_append, List.append_assoc, List.nil_append, List.append_nil, sg, wd, nm, nr, lt0, lt1, lt2, lt3, lt4, lt5, lt6, lt7, lt8, lt9, lt10, lt11, lt12, lt13, lt14, lt15, lt16, lt17, lt18, lt19, lt20, lt21, lt22, lt23, lt24, lt25, lt26, lt27, lt28, lt29, lt30, lt31, lt32, lt33, lt34, lt35, lt36, lt37, lt38, lt39, lt40, lt41, lt42, lt43, lt44, lt45, lt46, lt47, lt48]
theorem exT_call1 (w : Str) (a : Ex) : exT (.call1 w a) = w ++ "(" ++ Txt.join ", " [exT a] ++ ")" := by
  refine ext_tl ?_
  rw [tl_exT]
  simp only [tl_append, tlj]
  show _ = ((_ ++ _) ++ txP (pcE a [])) ++ _
  simp only [tl_append, tl_of, pcE, txP, txP_append, List.cons_append, List.append_assoc, List.nil_append, List.append_nil, sg, wd, nm, nr, lt0, lt1, lt2, lt3, lt4, lt5, lt6, lt7, lt8, lt9, lt10, lt11, lt12, lt13, lt14, lt15, lt16, lt17, lt18, lt19, lt20, lt21, lt22, lt23, lt24, lt25, lt26, lt27, lt28, lt29, lt30, lt31, lt32, lt33, lt34, lt35, lt36, lt37, lt38, lt39, lt40, lt41, lt42, lt43, lt44, lt45, lt46, lt47, lt48]
theorem exT_call2 (w : Str) (a b : Ex) : exT (.call2 w a b) = w ++ "(" ++ Txt.join ", " [exT a, exT b] ++ ")" := by
  refine ext_tl ?_
  rw [tl_exT]
  simp only [tl_append, tlj]
  show _ = ((_ ++ _) ++ (txP (pcE a []) ++ (tl ", " ++ txP (pcE b [])))) ++ _
  simp only [tl_append, tl_of, pcE, txP, txP_append, List.cons_append, List.append_assoc, List.nil_append, List.append_nil, sg, wd, nm, nr, lt0, lt1, lt2, lt3, lt4, lt5, lt6, lt7, lt8, lt9, lt10, lt11, lt12, lt13, lt14, lt15, lt16, lt17, lt18, lt19, lt20, lt21, lt22, lt23, lt24, lt25, lt26, lt27, lt28, lt29, lt30, lt31, lt32, lt33, lt34, lt35, lt36, lt37, lt38, lt39, lt40, lt41, lt42, lt43, lt44, lt45, lt46, lt47, lt48]
theorem numS (n : Nat) : Str.ofString (toString (n : Int)) = mk (numL n) := ext_tl (tl_num _)
theorem exT_iter (w : Str) (n : Nat) (e : Ex) : exT (.iter w n e) = ("iterate " : Str) ++ w ++ " " ++ Str.ofString (toString (n : Int)) ++ " from (" ++ exT e ++ ")" := by
  refine ext_tl ?_
  rw [tl_exT, numS]
  simp only [tl_append, tl_exT]
  simp only [tl_append, tl_of, pcE, txP, txP_append, List.cons_append, List.append_assoc, List.nil_append, List.append_nil, sg, wd, nm, nr, lt0, lt1, lt2, lt3, lt4, lt5, lt6, lt7, lt8, lt9, lt10, lt11, lt12, lt13, lt14, lt15, lt16, lt17, lt18, lt19, lt20, lt21, lt22, lt23, lt24, lt25, lt26, lt27, lt28, lt29, lt30, lt31, lt32, lt33, lt34, lt35, lt36, lt37, lt38, lt39, lt40, lt41, lt42, lt43, lt44, lt45, lt46, lt47, lt48]
theorem exT_pow (e : Ex) (n : Int) (h : n.natAbs ≤ 9) : exT (.pow e n) = ("(" : Str) ++ exT e ++ ")^" ++ Str.ofString (toString n) := by
  refine ext_tl ?_
  rw [tl_exT]
  simp only [tl_append, tl_exT]
  have := pw_text n h []
  rw [List.append_nil] at this
  rw [← this]
  simp only [tl_append, tl_of, pcE, txP, txP_append, List.cons_append, List.append_assoc, List.nil_append, List.append_nil, sg, wd, nm, nr, lt0, lt1, lt2, lt3, lt4, lt5, lt6, lt7, lt8, lt9, lt10, lt11, lt12, lt13, lt14, lt15, lt16, lt17, lt18, lt19, lt20, lt21, lt22, lt23, lt24, lt25, lt26, lt27, lt28, lt29, lt30, lt31, lt32, lt33, lt34, lt35, lt36, lt37, lt38, lt39, lt40, lt41, lt42, lt43, lt44, lt45, lt46, lt47, lt48]
theorem exT_no (e : Ex) : exT (.no e) = ("(not (" : Str) ++ exT e ++ "))" := by
  refine ext_tl ?_
  rw [tl_exT]
  simp only [tl_append, tl_exT]
  simp only [tl_append, tl_of, pcE, txP, txP_append, List.cons_append, List.append_assoc, List.nil_append, List.append_nil, sg, wd, nm, nr, lt0, lt1, lt2, lt3, lt4, lt5, lt6, lt7, lt8, lt9, lt10, lt11, lt12, lt13, lt14, lt15, lt16, lt17, lt18, lt19, lt20, lt21, lt22, lt23, lt24, lt25, lt26, lt27, lt28, lt29, lt30, lt31, lt32, lt33, lt34, lt35, lt36, lt37, lt38, lt39, lt40, lt41, lt42, lt43, lt44, lt45, lt46, lt47, lt48]
theorem exT_cond (a b c : Ex) : exT (.cond a b c) = ("(if " : Str) ++ exT a ++ " then " ++ exT b ++ " else " ++ exT c ++ ")" := by
  refine ext_tl ?_
  rw [tl_exT]
  simp only [tl_append, tl_exT, pcE, txP, txP_append, pcE_b _ [32]]
  simp only [tl_append, tl_of, pcE, txP, txP_append, List.cons_append, List.append_assoc, List.nil_append, List.append_nil, sg, wd, nm, nr, lt0, lt1, lt2, lt3, lt4, lt5, lt6, lt7, lt8, lt9, lt10, lt11, lt12, lt13, lt14, lt15, lt16, lt17, lt18, lt19, lt20, lt21, lt22, lt23, lt24, lt25, lt26, lt27, lt28, lt29, lt30, lt31, lt32, lt33, lt34, lt35, lt36, lt37, lt38, lt39, lt40, lt41, lt42, lt43, lt44, lt45, lt46, lt47, lt48]
theorem exT_lett (w : Str) (a b : Ex) : exT (.lett w a b) = ("(let " : Str) ++ w ++ " = " ++ exT a ++ " in " ++ exT b ++ ")" := by
  refine ext_tl ?_
  rw [tl_exT]
  simp only [tl_append, tl_exT, pcE, txP, txP_append, pcE_b _ [32]]
  simp only [tl_append, tl_of, pcE, txP, txP_append, List.cons_append, List.append_assoc, List.nil_append, List.append_nil, sg, wd, nm, nr, lt0, lt1, lt2, lt3, lt4, lt5, lt6, lt7, lt8, lt9, lt10, lt11, lt12, lt13, lt14, lt15, lt16, lt17, lt18, lt19, lt20, lt21, lt22, lt23, lt24, lt25, lt26, lt27, lt28, lt29, lt30, lt31, lt32, lt33, lt34, lt35, lt36, lt37, lt38, lt39, lt40, lt41, lt42, lt43, lt44, lt45, lt46, lt47, lt48]
theorem exT_bin (s : Str) (a b : Ex) : exT (.bin s a b) = ("((" : Str) ++ exT a ++ ") " ++ s ++ " (" ++ exT b ++ "))" := by
  refine ext_tl ?_
  rw [tl_exT]
  simp only [tl_append, tl_exT]
  simp only [tl_append, tl_of, pcE, txP, txP_append, List.cons_append, List.append_assoc, List.nil_append, List.append_nil, sg, wd, nm, nr, lt0, lt1, lt2, lt3, lt4, lt5, lt6, lt7, lt8, lt9, lt10, lt11, lt12, lt13, lt14, lt15, lt16, lt17, lt18, lt19, lt20, lt21, lt22, lt23, lt24, lt25, lt26, lt27, lt28, lt29, lt30, lt31, lt32, lt33, lt34, lt35, lt36, lt37, lt38, lt39, lt40, lt41, lt42, lt43, lt44, lt45, lt46, lt47, lt48]
end Px

/-! ### the texts of lines -/
namespace Px
open PySem PySem.Spec PyProof.Rows L2 Ly Lx TL Lw
def tdT (m : Str) : Option Un → Str
  | none => ""
  | some u => m ++ unT u
def pmT (p : Pm) : Str := match p.2 with
  | none => p.1
  | some u => p.1 ++ ": " ++ unT u
def lnT : Ln → Str
  | .base => "base m;"
  | .unit u => ("unit km = 2.5 " : Str) ++ unT u ++ ";"
  | .fn ps o e => ("fun f(" : Str) ++ Txt.join ", " (ps.map pmT) ++ ")" ++ tdT ": " o ++ " = " ++ exT e ++ ";"
  | .sh e o => ("show " : Str) ++ exT e ++ tdT " in " o ++ ";"
theorem tdT_len {m : Str} {o : Option Un} (h : OpD o) : (tdT m o).length ≤ m.length + 13 := by
  cases o with
  | none => exact Nat.zero_le _
  | some u =>
    have := unT_len (h u rfl)
    show (m ++ unT u).length ≤ _
    rw [sapp_len]
    omega
theorem pmT_len {p : Pm} (h : p.1 ∈ (["x", "y"] : List Str) ∧ OpD p.2) : (pmT p).length ≤ 20 := by
  have h1 : ∀ w ∈ (["x", "y"] : List Str), w.length ≤ 2 := by decide
  have h2 := h1 _ h.1
  unfold pmT
  split
  · omega
  · rename_i u e
    have := unT_len (h.2 u e)
    rw [sapp_len, sapp_len]
    show _ + 2 + _ ≤ _
    omega
end Px

/-! ### trees without their indexes -/
namespace Px
open PySem PySem.Spec PyProof.Rows L2 Ly Lx TL Lw
def isT : PyData → Bool
  | .tuple _ => true
  | _ => false
def isS : PyData → Bool
  | .str _ => true
  | _ => false
def isI : PyData → Bool
  | .int _ => true
  | .bool _ => true
  | _ => false
def isB : PyData → Bool
  | .bool _ => true
  | _ => false
def sIn (ws : List Str) : PyData → Bool
  | .str s => ws.any (· == s)
  | _ => false
def lastD (ds : List PyData) : PyData := ds.getLast?.getD .none
/-- of the items of a tuple, and of these without indexes -/
def fixD (ds found : List PyData) : PyData := match ds with
  | [] => .tuple []
  | d :: r => if (isS d && (r.length == 2 && (isI (r.headD .none) && !isB (r.headD .none)))) = true then .tuple [d, r.headD .none, .int 0]
    else if (isS d && (!sIn ["bool", "x", "y"] d && isI (lastD (d :: r)))) = true then .tuple (found.dropLast ++ [.int 0]) else .tuple found
mutual
def bareD : PyData → PyData
  | .tuple ds => fixD ds (bareA ds)
  | .none => .none
  | .bool b => .bool b
  | .int i => .int i
  | .str s => .str s
  | .list ds => .list ds
  | .dict kvs => .dict kvs
def bareA : List PyData → List PyData
  | [] => []
  | d :: ds => bareD d :: bareA ds
end
theorem bareA_map : ∀ ds : List PyData, bareA ds = ds.map bareD
  | [] => by simp [bareA]
  | d :: ds => by simp [bareA, bareA_map ds]
theorem bare_tup (ds : List PyData) : bareD (.tuple ds) = fixD ds (ds.map bareD) := by rw [bareD, bareA_map]
/-- four items, the last an index -/
theorem bare4 {s : Str} {a b : PyData} {i : Int} (h : (["bool", "x", "y"] : List Str).any (· == s) = false) : bareD (.tuple [.str s, a, b, .int i]) = .tuple [.str s, bareD a, bareD b, .int 0] := by
  rw [bare_tup]
  simp [fixD, isS, sIn, h, lastD, isI, bareD]
theorem bare5 {s : Str} {a b c : PyData} {i : Int} (h : (["bool", "x", "y"] : List Str).any (· == s) = false) : bareD (.tuple [.str s, a, b, c, .int i]) = .tuple [.str s, bareD a, bareD b, bareD c, .int 0] := by
  rw [bare_tup]
  simp [fixD, isS, sIn, h, lastD, isI, bareD]
theorem bare6 {s : Str} {a b c d : PyData} {i : Int} (h : (["bool", "x", "y"] : List Str).any (· == s) = false) : bareD (.tuple [.str s, a, b, c, d, .int i]) = .tuple [.str s, bareD a, bareD b, bareD c, bareD d, .int 0] := by
  rw [bare_tup]
  simp [fixD, isS, sIn, h, lastD, isI, bareD]
theorem bare3 {s : Str} {a : PyData} {i : Int} (h : (["bool", "x", "y"] : List Str).any (· == s) = false) (ha : isI a = false) : bareD (.tuple [.str s, a, .int i]) = .tuple [.str s, bareD a, .int 0] := by
  rw [bare_tup]
  have hi : isI (.int i) = true := rfl
  simp [fixD, isS, sIn, h, lastD, hi, bareD, ha]
theorem bare_un {s : Str} {n i : Int} : bareD (.tuple [.str s, .int n, .int i]) = .tuple [.str s, .int n, .int 0] := by
  rw [bare_tup]
  simp [fixD, isS, isI, isB]
/-- a tuple whose first item is no text -/
theorem bare_in {d : PyData} {ds : List PyData} (h : isS d = false) : bareD (.tuple (d :: ds)) = .tuple ((d :: ds).map bareD) := by
  rw [bare_tup]
  simp [fixD, h]
theorem bare_nil : bareD (.tuple []) = .tuple [] := by rw [bare_tup]; rfl
theorem bare_prL : ∀ (u : Un) (i : Nat), (prL i u).map bareD = u.map unI0
  | [], _ => rfl
  | [x], i => by
    simp only [prL, List.map_cons, List.map_nil]
    rw [bare_un]
    rfl
  | x :: y :: u, i => by
    simp only [prL, List.map_cons]
    rw [bare_un]
    have := bare_prL (y :: u) (i + (txP (itP x [32])).length)
    rw [List.map_cons] at this
    rw [this]
    rfl
theorem prL_hd : ∀ (u : Un) (i : Nat), ∀ d ∈ prL i u, isS d = false
  | [], _, d, h => by cases h
  | [x], i, d, h => by
    have : d = .tuple [.str x.1, .int x.2, .int (i : Int)] := by simpa [prL] using h
    subst this
    rfl
  | x :: y :: u, i, d, h => by
    rcases List.mem_cons.mp h with e | h
    · subst e
      rfl
    · exact prL_hd (y :: u) _ d h
theorem bare_all {ds : List PyData} (h : ∀ d ∈ ds, isS d = false) : bareD (.tuple ds) = .tuple (ds.map bareD) := by
  cases ds with
  | nil => exact bare_nil
  | cons d ds => exact bare_in (h d (by simp))
theorem bare_prod (u : Un) (i : Nat) : bareD (.tuple (prL i u)) = unD0 u := by
  rw [bare_all (prL_hd u i), bare_prL]
  rfl
theorem tr_hd (i : Nat) (e : Ex) : isS (trE i e) = false ∧ isI (trE i e) = false := by cases e <;> exact ⟨rfl, rfl⟩
theorem sOp {s : Str} (h : s ∈ dSigns) : (["bool", "x", "y"] : List Str).any (· == opName s) = false := by
  have : ∀ s ∈ dSigns, (["bool", "x", "y"] : List Str).any (· == opName s) = false := by decide
  exact this s h
theorem bare_ex : ∀ {d : Nat} {e : Ex}, DrE d e → ∀ i, bareD (trE i e) = tr0 e := by
  intro d e h
  induction h with
  | @num d w t b u hp hu =>
    intro i
    show bareD (.tuple [.str "number", .tuple [.int (t : Int), .int (b : Int)], .tuple (prL (i + w.length + 1 + 1) u), .int (i : Int)]) = _
    rw [bare4 (by decide), bare_prod, bare_in rfl]
    simp [bareD, tr0]
  | @bl d v =>
    intro i
    cases v <;> rfl
  | @var d w hw =>
    intro i
    show bareD (.tuple [.str "var", .str w, .int (i : Int)]) = _
    rw [bare3 (by decide) rfl]
    simp [bareD, tr0]
  | @call0 d w hw =>
    intro i
    show bareD (.tuple [.str "call", .str w, .tuple [], .int (i : Int)]) = _
    rw [bare4 (by decide), bare_nil]
    simp [bareD, tr0]
  | @call1 d w a hw ha ih =>
    intro i
    show bareD (.tuple [.str "call", .str w, .tuple [trE _ a], .int (i : Int)]) = _
    rw [bare4 (by decide), bare_in (tr_hd _ a).1]
    simp [bareD, tr0, ih]
  | @call2 d w a b hw ha hb ih ih2 =>
    intro i
    show bareD (.tuple [.str "call", .str w, .tuple [trE _ a, trE _ b], .int (i : Int)]) = _
    rw [bare4 (by decide), bare_in (tr_hd _ a).1]
    simp [bareD, tr0, ih, ih2]
  | @iter d w n e hw hn he ih =>
    intro i
    show bareD (.tuple [.str "iterate", .str w, .int (n : Int), trE _ e, .int (i : Int)]) = _
    rw [bare5 (by decide), ih]
    simp [bareD, tr0]
  | @pow d e n hn he ih =>
    intro i
    show bareD (.tuple [.str "power", trE _ e, .int n, .int _]) = _
    rw [bare4 (by decide), ih]
    simp [bareD, tr0]
  | @no d e he ih =>
    intro i
    show bareD (.tuple [.str "not", trE _ e, .int _]) = _
    rw [bare3 (by decide) (tr_hd _ e).2, ih]
    simp [tr0]
  | @cond d a b c ha hb hc i1 i2 i3 =>
    intro i
    show bareD (.tuple [.str "if", trE _ a, trE _ b, trE _ c, .int _]) = _
    rw [bare5 (by decide), i1, i2, i3]
    simp [tr0]
  | @lett d w a b hw ha hb i1 i2 =>
    intro i
    show bareD (.tuple [.str "let", .str w, trE _ a, trE _ b, .int _]) = _
    rw [bare5 (by decide), i1, i2]
    simp [bareD, tr0]
  | @bin d s a b hs ha hb i1 i2 =>
    intro i
    show bareD (.tuple [.str (opName s), trE _ a, trE _ b, .int _]) = _
    rw [bare4 (sOp hs), i1, i2]
    rfl
/-! lines -/
theorem bare_opt (i : Nat) : ∀ o : Option Un, bareD (tdD i o) = opD0 o
  | none => by simp [tdD, opD0, bareD]
  | some u => bare_prod u _
theorem bare_pm {i : Nat} {p : Pm} (h : p.1 ∈ (["x", "y"] : List Str)) : bareD (pmD i p) = pm0 p := by
  have hb : sIn ["bool", "x", "y"] (.str p.1) = true := by
    have : ∀ s ∈ (["x", "y"] : List Str), sIn ["bool", "x", "y"] (.str s) = true := by decide
    exact this _ h
  unfold pmD
  rw [bare_tup]
  simp [fixD, isS, hb, bareD, bare_opt, pm0]
theorem bare_pa : ∀ (ps : List Pm) (i : Nat), (∀ p ∈ ps, p.1 ∈ (["x", "y"] : List Str)) → (paD i ps).map bareD = ps.map pm0
  | [], _, _ => rfl
  | p :: ps, i, h => by
    show bareD (pmD _ p) :: (paD _ ps).map bareD = _
    rw [bare_pm (h p (by simp)), bare_pa ps _ fun q hq => h q (List.mem_cons_of_mem _ hq)]
    rfl
theorem bare_pr (ps : List Pm) (i : Nat) (h : ∀ p ∈ ps, p.1 ∈ (["x", "y"] : List Str)) : bareD (.tuple (prD i ps)) = .tuple (ps.map pm0) := by
  cases ps with
  | nil => exact bare_nil
  | cons p ps =>
    show bareD (.tuple (pmD _ p :: paD _ ps)) = _
    rw [bare_in rfl]
    show PyData.tuple (bareD (pmD _ p) :: (paD _ ps).map bareD) = _
    rw [bare_pm (h p (by simp)), bare_pa ps _ fun q hq => h q (List.mem_cons_of_mem _ hq)]
    rfl
/-- the line as it is read, from i -/
def lnD (i : Nat) : Ln → PyData
  | .base => baD i
  | .unit u => utD 25 10 (tl "2.5") i u
  | .fn ps o e => fuD i ps o e
  | .sh e o => shD i e o
theorem bare_ln {l : Ln} (h : DrL l) (i : Nat) : bareD (lnD i l) = ln0 l := by
  cases l with
  | base =>
    show bareD (.tuple [.str "base", .str "m", .int (i : Int)]) = _
    rw [bare3 (by decide) rfl]
    simp [bareD, ln0]
  | unit u =>
    show bareD (.tuple [.str "unit", .str "km", .tuple [.int _, .int _], .tuple (prL _ u), .int (i : Int)]) = _
    rw [bare5 (by decide), bare_prod, bare_in rfl]
    simp [bareD, ln0]
  | fn ps o e =>
    show bareD (.tuple [.str "fun", .str "f", .tuple (prD _ ps), tdD _ o, trE _ e, .int (i : Int)]) = _
    rw [bare6 (by decide), bare_pr ps _ fun p hp => (h.1.2 p hp).1, bare_opt, bare_ex h.2.2]
    simp [bareD, ln0]
  | sh e o =>
    cases o with
    | none =>
      show bareD (.tuple [.str "show", trE _ e, .none, .int (i : Int)]) = _
      rw [bare4 (by decide), bare_ex h.1]
      simp [bareD, ln0, opD0]
    | some u =>
      show bareD (.tuple [.str "show", trE _ e, .tuple (prL _ u), .int (i : Int)]) = _
      rw [bare4 (by decide), bare_ex h.1, bare_prod]
      rfl
end Px

/-! ### the indexes are those of the signs and words -/
namespace Px
open PySem PySem.Spec PyProof.Rows L2 Ly Lx TL Lw
abbrev mSigns : List (Str × Str) := [("add", "+"), ("sub", "-"), ("mul", "*"), ("div", "/"), ("lt", "<"), ("le", "<="), ("eq", "=="), ("power", "^")]
abbrev mWords : List Str := ["if", "let", "iterate", "not", "and", "or", "show", "fun", "base", "unit"]
/-- a text stands at i -/
def Sd (z : List Nat) (i : Nat) (g : Str) : Prop := (z.drop i).take g.length = tl g
def HdOk (z : List Nat) (ds : List PyData) : Prop := ∀ s r, ds = .str s :: r → (∀ g, (s, g) ∈ mSigns → r.length = 3 → ∃ i : Nat, ds[3]? = some (.int (i : Int)) ∧ Sd z i g) ∧ (s ∈ mWords → ∃ i : Nat, ds.getLast? = some (.int (i : Int)) ∧ Sd z i s)
mutual
def MkD (z : List Nat) : PyData → Prop
  | .tuple ds => HdOk z ds ∧ MkA z ds
  | .none => True
  | .bool _ => True
  | .int _ => True
  | .str _ => True
  | .list _ => True
  | .dict _ => True
def MkA (z : List Nat) : List PyData → Prop
  | [] => True
  | d :: ds => MkD z d ∧ MkA z ds
end
theorem mkA_of {z : List Nat} : ∀ {ds : List PyData}, (∀ d ∈ ds, MkD z d) → MkA z ds
  | [], _ => by simp [MkA]
  | d :: ds, h => by
    rw [MkA]
    exact ⟨h d (by simp), mkA_of fun e he => h e (List.mem_cons_of_mem _ he)⟩
theorem mkA_mem {z : List Nat} : ∀ {ds : List PyData}, MkA z ds → ∀ d ∈ ds, MkD z d
  | [], _, d, h => by cases h
  | e :: ds, h, d, hd => by
    rw [MkA] at h
    rcases List.mem_cons.mp hd with r | r
    · subst r
      exact h.1
    · exact mkA_mem h.2 d r
theorem mk_tup {z : List Nat} {ds : List PyData} (h : HdOk z ds) (t : ∀ d ∈ ds, MkD z d) : MkD z (.tuple ds) := by
  rw [MkD]
  exact ⟨h, mkA_of t⟩
theorem mk_flat {z : List Nat} {d : PyData} (h : isT d = false) : MkD z d := by
  cases d <;> first | (simp [MkD]; done) | cases h
/-- a head that is no word of these -/
theorem hd_none {z : List Nat} {s : Str} {r : List PyData} (h : (mSigns.any (·.1 == s)) = false) (h2 : mWords.any (· == s) = false) : HdOk z (.str s :: r) := by
  intro s' r' e
  cases e
  refine ⟨fun g hg _ => ?_, fun hw => ?_⟩
  · have := List.any_eq_false.mp h (s, g) hg
    simp at this
  · have := List.any_eq_false.mp h2 s hw
    simp at this
theorem hd_no {z : List Nat} {d : PyData} {r : List PyData} (h : isS d = false) : HdOk z (d :: r) := by
  intro s' r' e
  cases e
  cases h
theorem hd_nil {z : List Nat} : HdOk z [] := by
  intro s' r' e
  cases e
/-- pieces stand at i -/
def Tx (z : List Nat) (i : Nat) (P : List Pc) : Prop := ∃ A B, z = A ++ (txP P ++ B) ∧ A.length = i
theorem Tx.sub {z : List Nat} {i : Nat} {P : List Pc} (h : Tx z i P) (L M R : List Pc) (e : P = L ++ (M ++ R)) : Tx z (i + ln L) M := by
  obtain ⟨A, B, h1, h2⟩ := h
  subst e
  refine ⟨A ++ txP L, txP R ++ B, ?_, ?_⟩
  · rw [h1, txP_append, txP_append]
    simp
  · rw [List.length_append, h2]
    try rfl
theorem Tx.sd {z : List Nat} {i : Nat} {t : Tkn} {s : Str} {b : List Nat} (h : Tx z i [⟨t, tl s, b⟩]) : Sd z i s := by
  obtain ⟨A, B, h1, h2⟩ := h
  unfold Sd
  have e : z.drop i = tl s ++ (b ++ ([] ++ B)) := by
    rw [h1, ← h2, List.drop_left]
    exact (by simp [txP] : txP [⟨t, tl s, b⟩] ++ B = tl s ++ (b ++ ([] ++ B)))
  rw [e, len_tl, List.take_left]
theorem mk_prL {z : List Nat} : ∀ (u : Un) (i : Nat), UnD u ∨ (∀ x ∈ u, x.1 ∈ uNames) → ∀ d ∈ prL i u, MkD z d := by
  have key : ∀ (u : Un) (i : Nat), (∀ x ∈ u, x.1 ∈ uNames) → ∀ d ∈ prL i u, MkD z d := by
    have one : ∀ (s : Str) (n i : Int), s ∈ uNames → MkD z (.tuple [.str s, .int n, .int i]) := fun s n i h => by
      have h1 : ∀ s ∈ uNames, mSigns.any (·.1 == s) = false ∧ mWords.any (· == s) = false := by decide
      refine mk_tup (hd_none (h1 s h).1 (h1 s h).2) fun d hd => mk_flat ?_
      simp only [List.mem_cons, List.not_mem_nil, or_false] at hd
      rcases hd with rfl | rfl | rfl <;> rfl
    intro u
    induction u with
    | nil => intro i _ d h; cases h
    | cons x u ih =>
      intro i hu d h
      cases u with
      | nil =>
        have : d = .tuple [.str x.1, .int x.2, .int (i : Int)] := by simpa [prL] using h
        subst this
        exact one _ _ _ (hu x (by simp))
      | cons y u =>
        rcases List.mem_cons.mp h with e | h
        · subst e
          exact one _ _ _ (hu x (by simp))
        · exact ih _ (fun w hw => hu w (List.mem_cons_of_mem _ hw)) d h
  intro u i h
  rcases h with h | h
  · exact key u i fun x hx => (h.2 x hx).1
  · exact key u i h
theorem mk_prod {z : List Nat} {u : Un} (h : UnD u) (i : Nat) : MkD z (.tuple (prL i u)) := by
  refine mk_tup ?_ (mk_prL u i (.inl h))
  cases e : prL i u with
  | nil => exact hd_nil
  | cons d r => exact hd_no (prL_hd u i d (by rw [e]; simp))
theorem opSg {s : Str} (h : s ∈ dSigns) : (∀ g, (opName s, g) ∈ mSigns → g = s) ∧ (opName s ∈ mWords → opName s = s) := by
  have h1 : ∀ s ∈ dSigns, (∀ p ∈ mSigns, p.1 = opName s → p.2 = s) ∧ (opName s ∈ mWords → opName s = s) := by decide
  exact ⟨fun g hg => (h1 s h).1 _ hg rfl, (h1 s h).2⟩
/-- a word's head: its index stands last -/
theorem hd_word {z : List Nat} {s : Str} {r : List PyData} {i : Nat} (hs : mSigns.any (·.1 == s) = false) (hl : (PyData.str s :: r).getLast? = some (.int (i : Int))) (h : Sd z i s) : HdOk z (.str s :: r) := by
  intro s' r' e
  cases e
  refine ⟨fun g hg _ => ?_, fun _ => ⟨i, hl, h⟩⟩
  have := List.any_eq_false.mp hs (s, g) hg
  simp at this
theorem mem4 {P : PyData → Prop} {a b c d : PyData} (h1 : P a) (h2 : P b) (h3 : P c) (h4 : P d) : ∀ x ∈ [a, b, c, d], P x := by
  intro x hx
  simp only [List.mem_cons, List.not_mem_nil, or_false] at hx
  rcases hx with rfl | rfl | rfl | rfl <;> assumption
theorem mem5 {P : PyData → Prop} {a b c d e : PyData} (h1 : P a) (h2 : P b) (h3 : P c) (h4 : P d) (h5 : P e) : ∀ x ∈ [a, b, c, d, e], P x := by
  intro x hx
  simp only [List.mem_cons, List.not_mem_nil, or_false] at hx
  rcases hx with rfl | rfl | rfl | rfl | rfl <;> assumption
theorem mem3 {P : PyData → Prop} {a b c : PyData} (h1 : P a) (h2 : P b) (h3 : P c) : ∀ x ∈ [a, b, c], P x := by
  intro x hx
  simp only [List.mem_cons, List.not_mem_nil, or_false] at hx
  rcases hx with rfl | rfl | rfl <;> assumption
theorem mk_ex {z : List Nat} : ∀ {d : Nat} {e : Ex}, DrE d e → ∀ i b, Tx z i (pcE e b) → MkD z (trE i e) := by
  intro d e h
  induction h with
  | @num d w t n u hp hu =>
    intro i b hT
    exact mk_tup (hd_none (by decide) (by decide)) (mem4 (mk_flat rfl) (mk_tup (hd_no rfl) fun d hd => mk_flat (by
      simp only [List.mem_cons, List.not_mem_nil, or_false] at hd
      rcases hd with rfl | rfl <;> rfl)) (mk_prod hu _) (mk_flat rfl))
  | @bl d v =>
    intro i b hT
    refine mk_tup (hd_none (by decide) (by decide)) fun d hd => mk_flat ?_
    simp only [List.mem_cons, List.not_mem_nil, or_false] at hd
    rcases hd with rfl | rfl <;> rfl
  | @var d w hw =>
    intro i b hT
    exact mk_tup (hd_none (by decide) (by decide)) (mem3 (mk_flat rfl) (mk_flat rfl) (mk_flat rfl))
  | @call0 d w hw =>
    intro i b hT
    exact mk_tup (hd_none (by decide) (by decide)) (mem4 (mk_flat rfl) (mk_flat rfl) (mk_tup hd_nil fun d hd => by cases hd) (mk_flat rfl))
  | @call1 d w x hw hx ih =>
    intro i b hT
    have h1 := ih _ _ (hT.sub [nm w [], sg "(" []] (pcE x []) [sg ")" b] (by simp [pcE]))
    exact mk_tup (hd_none (by decide) (by decide)) (mem4 (mk_flat rfl) (mk_flat rfl) (mk_tup (hd_no (tr_hd _ x).1) fun d hd => by
      rw [List.mem_singleton.mp hd]
      exact h1) (mk_flat rfl))
  | @call2 d w x y hw hx hy i1 i2 =>
    intro i b hT
    have h1 := i1 _ _ (hT.sub [nm w [], sg "(" []] (pcE x []) (sg "," [32] :: pcE y [] ++ [sg ")" b]) (by simp [pcE]))
    have h2 := i2 _ _ (hT.sub ([nm w [], sg "(" []] ++ pcE x [] ++ [sg "," [32]]) (pcE y []) [sg ")" b] (by simp [pcE]))
    exact mk_tup (hd_none (by decide) (by decide)) (mem4 (mk_flat rfl) (mk_flat rfl) (mk_tup (hd_no (tr_hd _ x).1) fun d hd => by
      simp only [List.mem_cons, List.not_mem_nil, or_false] at hd
      rcases hd with rfl | rfl
      · exact h1
      · exact h2) (mk_flat rfl))
  | @iter d w n e hw hn he ih =>
    intro i b hT
    have h1 := ih _ _ (hT.sub [wd "iterate" [32], nm w [32], nr n [32], wd "from" [32], sg "(" []] (pcE e []) [sg ")" b] (by simp [pcE]))
    have h2 := (hT.sub [] [wd "iterate" [32]] (nm w [32] :: nr n [32] :: wd "from" [32] :: sg "(" [] :: pcE e [] ++ [sg ")" b]) (by simp [pcE])).sd
    exact mk_tup (hd_word (by decide) rfl h2) (mem5 (mk_flat rfl) (mk_flat rfl) (mk_flat rfl) h1 (mk_flat rfl))
  | @pow d e n hn he ih =>
    intro i b hT
    have h1 := ih _ _ (hT.sub [sg "(" []] (pcE e []) (sg ")" [] :: sg "^" [] :: pwP n b) (by simp [pcE]))
    have h2 := (hT.sub ([sg "(" []] ++ pcE e [] ++ [sg ")" []]) [sg "^" []] (pwP n b) (by simp [pcE])).sd
    refine mk_tup (fun s r e => ?_) (mem4 (mk_flat rfl) h1 (mk_flat rfl) (mk_flat rfl))
    cases e
    refine ⟨fun g hg _ => ⟨_, rfl, ?_⟩, fun hw => absurd hw (by decide)⟩
    have : ∀ p ∈ mSigns, p.1 = "power" → p.2 = "^" := by decide
    have hg2 : g = "^" := this _ hg rfl
    subst hg2
    exact h2
  | @no d e he ih =>
    intro i b hT
    have h1 := ih _ _ (hT.sub [sg "(" [], wd "not" [32], sg "(" []] (pcE e []) [sg ")" [], sg ")" b] (by simp [pcE]))
    have h2 := (hT.sub [sg "(" []] [wd "not" [32]] (sg "(" [] :: pcE e [] ++ [sg ")" [], sg ")" b]) (by simp [pcE])).sd
    exact mk_tup (hd_word (by decide) rfl h2) (mem3 (mk_flat rfl) h1 (mk_flat rfl))
  | @cond d x y w hx hy hw i1 i2 i3 =>
    intro i b hT
    have h1 := i1 _ _ (hT.sub [sg "(" [], wd "if" [32]] (pcE x [32]) (wd "then" [32] :: pcE y [32] ++ wd "else" [32] :: pcE w [] ++ [sg ")" b]) (by simp [pcE]))
    have h2 := i2 _ _ (hT.sub ([sg "(" [], wd "if" [32]] ++ pcE x [32] ++ [wd "then" [32]]) (pcE y [32]) (wd "else" [32] :: pcE w [] ++ [sg ")" b]) (by simp [pcE]))
    have h3 := i3 _ _ (hT.sub ([sg "(" [], wd "if" [32]] ++ pcE x [32] ++ [wd "then" [32]] ++ pcE y [32] ++ [wd "else" [32]]) (pcE w []) [sg ")" b] (by simp [pcE]))
    have h4 := (hT.sub [sg "(" []] [wd "if" [32]] (pcE x [32] ++ wd "then" [32] :: pcE y [32] ++ wd "else" [32] :: pcE w [] ++ [sg ")" b]) (by simp [pcE])).sd
    exact mk_tup (hd_word (by decide) rfl h4) (mem5 (mk_flat rfl) h1 h2 h3 (mk_flat rfl))
  | @lett d w x y hw hx hy i1 i2 =>
    intro i b hT
    have h1 := i1 _ _ (hT.sub [sg "(" [], wd "let" [32], nm w [32], sg "=" [32]] (pcE x [32]) (wd "in" [32] :: pcE y [] ++ [sg ")" b]) (by simp [pcE]))
    have h2 := i2 _ _ (hT.sub ([sg "(" [], wd "let" [32], nm w [32], sg "=" [32]] ++ pcE x [32] ++ [wd "in" [32]]) (pcE y []) [sg ")" b] (by simp [pcE]))
    have h4 := (hT.sub [sg "(" []] [wd "let" [32]] (nm w [32] :: sg "=" [32] :: pcE x [32] ++ wd "in" [32] :: pcE y [] ++ [sg ")" b]) (by simp [pcE])).sd
    exact mk_tup (hd_word (by decide) rfl h4) (mem5 (mk_flat rfl) (mk_flat rfl) h1 h2 (mk_flat rfl))
  | @bin d s x y hs hx hy i1 i2 =>
    intro i b hT
    have h1 := i1 _ _ (hT.sub [sg "(" [], sg "(" []] (pcE x []) (sg ")" [32] :: ⟨sgTok s, tl s, [32]⟩ :: sg "(" [] :: pcE y [] ++ [sg ")" [], sg ")" b]) (by simp [pcE]))
    have h2 := i2 _ _ (hT.sub ([sg "(" [], sg "(" []] ++ pcE x [] ++ [sg ")" [32], ⟨sgTok s, tl s, [32]⟩, sg "(" []]) (pcE y []) [sg ")" [], sg ")" b] (by simp [pcE]))
    have h4 := (hT.sub ([sg "(" [], sg "(" []] ++ pcE x [] ++ [sg ")" [32]]) [⟨sgTok s, tl s, [32]⟩] (sg "(" [] :: pcE y [] ++ [sg ")" [], sg ")" b]) (by simp [pcE])).sd
    obtain ⟨o1, o2⟩ := opSg hs
    refine mk_tup (fun s' r e => ?_) (mem4 (mk_flat rfl) h1 h2 (mk_flat rfl))
    cases e
    refine ⟨fun g hg _ => ⟨_, rfl, ?_⟩, fun hw => ⟨_, rfl, ?_⟩⟩
    · rw [o1 g hg]
      exact h4
    · rw [o2 hw]
      exact h4
/-! lines -/
def lnP : Ln → List Nat → List Pc
  | .base, b => baP b
  | .unit u, b => utP 25 10 (tl "2.5") u b
  | .fn ps o e, b => fuP ps o e b
  | .sh e o, b => shP e o b
theorem mk_opt {z : List Nat} {o : Option Un} (h : OpD o) (i : Nat) : MkD z (tdD i o) := by
  cases o with
  | none => exact mk_flat rfl
  | some u => exact mk_prod (h u rfl) _
theorem mk_pm {z : List Nat} {p : Pm} (h : p.1 ∈ (["x", "y"] : List Str) ∧ OpD p.2) (i : Nat) : MkD z (pmD i p) := by
  have h1 : ∀ s ∈ (["x", "y"] : List Str), mSigns.any (·.1 == s) = false ∧ mWords.any (· == s) = false := by decide
  refine mk_tup (hd_none (h1 _ h.1).1 (h1 _ h.1).2) fun d hd => ?_
  simp only [List.mem_cons, List.not_mem_nil, or_false] at hd
  rcases hd with rfl | rfl
  · exact mk_flat rfl
  · exact mk_opt h.2 _
theorem mk_pa {z : List Nat} : ∀ (ps : List Pm) (i : Nat), (∀ p ∈ ps, p.1 ∈ (["x", "y"] : List Str) ∧ OpD p.2) → ∀ d ∈ paD i ps, MkD z d
  | [], _, _, d, hd => by cases hd
  | p :: ps, i, h, d, hd => by
    rcases List.mem_cons.mp hd with e | hd
    · subst e
      exact mk_pm (h p (by simp)) _
    · exact mk_pa ps _ (fun q hq => h q (List.mem_cons_of_mem _ hq)) d hd
theorem mk_pr {z : List Nat} (ps : List Pm) (i : Nat) (h : ∀ p ∈ ps, p.1 ∈ (["x", "y"] : List Str) ∧ OpD p.2) : MkD z (.tuple (prD i ps)) := by
  cases ps with
  | nil => exact mk_tup hd_nil fun d hd => by cases hd
  | cons p ps =>
    refine mk_tup (hd_no rfl) fun d hd => ?_
    rcases List.mem_cons.mp hd with e | hd
    · subst e
      exact mk_pm (h p (by simp)) _
    · exact mk_pa ps _ (fun q hq => h q (List.mem_cons_of_mem _ hq)) d hd
theorem mem6 {P : PyData → Prop} {a b c d e f : PyData} (h1 : P a) (h2 : P b) (h3 : P c) (h4 : P d) (h5 : P e) (h6 : P f) : ∀ x ∈ [a, b, c, d, e, f], P x := by
  intro x hx
  simp only [List.mem_cons, List.not_mem_nil, or_false] at hx
  rcases hx with rfl | rfl | rfl | rfl | rfl | rfl <;> assumption
theorem mk_ln {z : List Nat} {l : Ln} (h : DrL l) (i : Nat) (b : List Nat) (hT : Tx z i (lnP l b)) : MkD z (lnD i l) := by
  cases l with
  | base =>
    have h4 := (hT.sub [] [wd "base" [32]] [nm "m" [], sg ";" b] rfl).sd
    exact mk_tup (hd_word (by decide) rfl h4) (mem3 (mk_flat rfl) (mk_flat rfl) (mk_flat rfl))
  | unit u =>
    have h4 := (hT.sub [] [wd "unit" [32]] (nm "km" [32] :: sg "=" [32] :: ⟨.num 25 10, tl "2.5", [32]⟩ :: unP u [] ++ [sg ";" b]) rfl).sd
    exact mk_tup (hd_word (by decide) rfl h4) (mem5 (mk_flat rfl) (mk_flat rfl) (mk_tup (hd_no rfl) fun d hd => mk_flat (by
      simp only [List.mem_cons, List.not_mem_nil, or_false] at hd
      rcases hd with rfl | rfl <;> rfl)) (mk_prod h _) (mk_flat rfl))
  | fn ps o e =>
    have h4 := (hT.sub [] [wd "fun" [32]] (nm "f" [] :: sg "(" [] :: prP ps ++ [sg ")" (if o = none then [32] else [])] ++ tdP o [32] ++ [sg "=" [32]] ++ pcE e [] ++ [sg ";" b]) (by simp [lnP, fuP, fuH])).sd
    have h5 := mk_ex h.2.2 _ _ (hT.sub (fuH ps o ++ tdP o [32] ++ [sg "=" [32]]) (pcE e []) [sg ";" b] (by simp [lnP, fuP]))
    exact mk_tup (hd_word (by decide) rfl h4) (mem6 (mk_flat rfl) (mk_flat rfl) (mk_pr ps _ h.1.2) (mk_opt h.2.1 _) h5 (mk_flat rfl))
  | sh e o =>
    have h4 := (hT.sub [] [wd "show" [32]] (pcE e (if o = none then [] else [32]) ++ opP [wd "in" [32]] o [] ++ [sg ";" b]) (by simp [lnP, shP])).sd
    have h5 := mk_ex h.1 _ _ (hT.sub [wd "show" [32]] (pcE e (if o = none then [] else [32])) (opP [wd "in" [32]] o [] ++ [sg ";" b]) (by simp [lnP, shP]))
    cases o with
    | none => exact mk_tup (hd_word (by decide) rfl h4) (mem4 (mk_flat rfl) h5 (mk_flat rfl) (mk_flat rfl))
    | some u => exact mk_tup (hd_word (by decide) rfl h4) (mem4 (mk_flat rfl) h5 (mk_prod (h.2 u rfl) _) (mk_flat rfl))
end Px

/-! ### a token at the end of the text -/
namespace Px
open PySem PySem.Spec PyProof.Rows L2 Ly Lx TL Lw
theorem tw_snoc {S : List Nat} (h : inS S 59 = false) : ∀ l : List Nat, (l ++ [59]).takeWhile (inS S) = l.takeWhile (inS S)
  | [] => by
    show List.takeWhile (inS S) [59] = []
    rw [List.takeWhile_cons_of_neg (by simp [h])]
  | c :: l => by
    show List.takeWhile (inS S) (c :: (l ++ [59])) = _
    by_cases hc : inS S c = true
    · rw [List.takeWhile_cons_of_pos hc, List.takeWhile_cons_of_pos hc, tw_snoc h l]
    · rw [List.takeWhile_cons_of_neg hc, List.takeWhile_cons_of_neg hc]
theorem run_snoc {S : List Nat} (h : inS S 59 = false) (l : List Nat) : run S (l ++ [59]) = run S l := by
  unfold Lx.run
  rw [tw_snoc h]
theorem frac_snoc (m : List Nat) : fracAt (m ++ [59]) = fracAt m := by
  cases m with
  | nil => rfl
  | cons c r =>
    show fracAt (c :: (r ++ [59])) = _
    rw [fracAt_cons, fracAt_cons, tw_snoc (by decide)]
theorem frac_lt (m : List Nat) (h : ¬ fracAt m = []) : (fracAt m).length + 1 ≤ m.length := by
  cases m with
  | nil => exact absurd rfl h
  | cons c r =>
    rw [fracAt_cons] at h ⊢
    split
    · have := (List.takeWhile_sublist (inS digits) (l := r)).length_le
      rw [List.length_cons]
      omega
    · rw [List.length_cons]
      simp
theorem drop_snoc {l : List Nat} {k : Nat} (h : k ≤ l.length) : (l ++ [59]).drop k = l.drop k ++ [59] := by
  rw [List.drop_append_of_le_length h]
theorem headIn_snoc (m : List Nat) : headIn naming (m ++ [59]) = headIn naming m := by
  cases m with
  | nil => decide
  | cons c r => rfl
theorem find_congr {α : Type} {p q : α → Bool} : ∀ {l : List α}, (∀ x ∈ l, p x = q x) → l.find? p = l.find? q
  | [], _ => rfl
  | x :: l, h => by
    have hx := h x (by simp)
    have ih := find_congr (l := l) fun y hy => h y (List.mem_cons_of_mem _ hy)
    rw [List.find?_cons, List.find?_cons, hx, ih]
theorem sg_snoc (c : Nat) (r : List Nat) : sgAt (c :: r ++ [59]) = sgAt (c :: r) := by
  unfold sgAt
  congr 1
  refine find_congr fun s hs => ?_
  have key : ∀ s ∈ sgns, (∃ a, tl s = [a]) ∨ ∃ a b, tl s = [a, b] ∧ b ≠ 59 := by
    intro s hs
    simp only [sgns, List.mem_cons, List.not_mem_nil, or_false] at hs
    rcases hs with rfl | rfl | rfl | rfl | rfl | rfl | rfl | rfl | rfl | rfl | rfl | rfl | rfl | rfl | rfl | rfl
    · exact .inr ⟨60, 61, rfl, by decide⟩
    · exact .inr ⟨61, 61, rfl, by decide⟩
    all_goals exact .inl ⟨_, rfl⟩
  rcases key s hs with ⟨a, e⟩ | ⟨a, b, e, hb⟩
  · rw [e]
    rfl
  · rw [e]
    cases r with
    | nil =>
      show ((a == c) && ((b == 59) && true)) = ((a == c) && false)
      rw [beq_eq_false_iff_ne.mpr hb]
      rfl
    | cons d r => rfl
theorem tok_end {l : List Nat} {t : Tkn} {n : Nat} (h : tokAt (l ++ [59]) = some (t, n)) (hl : l ≠ []) : tokAt l = some (t, n) := by
  cases l with
  | nil => exact absurd rfl hl
  | cons c r =>
    rw [← h]
    show _ = tokAt (c :: (r ++ [59]))
    rw [tokAt_cons, tokAt_cons]
    have hN := run_snoc (S := naming) (by decide) (c :: r)
    have hD := run_snoc (S := digits) (by decide) (c :: r)
    have lN := run_le naming (c :: r)
    have lD := run_le digits (c :: r)
    by_cases h1 : inS letters c = true
    · rw [if_pos h1, if_pos h1]
      show nmAt (c :: r) = nmAt (c :: r ++ [59])
      unfold nmAt
      rw [hN, List.take_append_of_le_length lN]
    · rw [if_neg h1, if_neg h1]
      by_cases h2 : inS digits c = true
      · rw [if_pos h2, if_pos h2]
        show nrAt (c :: r) = nrAt (c :: r ++ [59])
        have hf : fracAt ((c :: r ++ [59]).drop (run digits (c :: r))) = fracAt ((c :: r).drop (run digits (c :: r))) := by
          rw [drop_snoc lD, frac_snoc]
        have he : numEnd (c :: r ++ [59]) = numEnd (c :: r) := by
          unfold numEnd
          rw [hD, hf]
        have hle : numEnd (c :: r) ≤ (c :: r).length := by
          unfold numEnd
          split
          · exact lD
          · rename_i hne
            have := frac_lt _ hne
            rw [List.length_drop] at this
            omega
        unfold nrAt
        rw [he, hD, hf, List.take_append_of_le_length lD, drop_snoc hle, headIn_snoc]
      · rw [if_neg h2, if_neg h2]
        exact (sg_snoc c r).symm
/-! #### pieces, the last one at the end of the text -/
theorem head_tok {d : Pc} {P : List Pc} (h : Fits [59] (d :: P)) : tokAt (txP (d :: P)) = some (d.t, d.w.length) := by
  obtain ⟨hw, hb, ⟨s, r, e, hs⟩, hP⟩ := h
  show tokAt (d.w ++ (d.b ++ txP P)) = _
  cases hc : d.b ++ txP P with
  | nil =>
    rw [← List.append_assoc, hc] at e
    have e1 : s = 59 := by
      have := List.cons.inj (show (59 :: [] : List Nat) = s :: r from e)
      exact this.1.symm
    have e2 : r = [] := by
      have := List.cons.inj (show (59 :: [] : List Nat) = s :: r from e)
      exact this.2.symm
    subst e1
    subst e2
    have h1 := hw 59 [] hs
    have h2 := (tokAt_pos h1).1
    rw [List.append_nil]
    exact tok_end h1 (fun h => by rw [h] at h2; simp at h2)
  | cons s' r' =>
    rw [← List.append_assoc, hc] at e
    have : s' = s := (List.cons.inj e).1
    subst this
    exact hw s' r' hs
theorem lex_end : ∀ (P : List Pc) (i : Nat), Fits [59] P → LexTo i (txP P) (tkP i P) (i + (txP P).length) []
  | [], i, _ => .refl
  | c :: P, i, h => by
    have ht := head_tok h
    obtain ⟨hw, hb, _, hP⟩ := h
    have ih := lex_end P (i + c.w.length + c.b.length) hP
    have e2 : i + (txP (c :: P)).length = i + c.w.length + c.b.length + (txP P).length := by
      simp only [txP, List.length_append]
      omega
    rw [e2]
    refine .step ht ?_
    have ed : (txP (c :: P)).drop c.w.length = c.b ++ txP P := by
      show (c.w ++ (c.b ++ txP P)).drop c.w.length = _
      exact List.drop_left
    have es : skip false (c.b ++ txP P) = c.b.length := by
      rw [skip_blanks _ _ hb]
      cases P with
      | nil => rfl
      | cons d P => rw [tok_noskip (head_tok hP)]; rfl
    rw [ed, es, List.drop_left]
    exact ih
theorem lex_semi {P : List Pc} {i : Nat} (h : Fits [59] P) : LexTo i (txP P ++ [59]) (tkP i P ++ [(.sign ";", i + (txP P).length)]) (i + (txP P).length + 1) [] := by
  refine (lex_pcs P i h).trans ?_
  exact .step (n := 1) (show tokAt [59] = some (.sign ";", 1) from rfl) .refl
/-! #### the lines' pieces, but for their last sign -/
def lnQ : Ln → List Pc
  | .base => [wd "base" [32], nm "m" []]
  | .unit u => wd "unit" [32] :: nm "km" [32] :: sg "=" [32] :: ⟨.num 25 10, tl "2.5", [32]⟩ :: unP u []
  | .fn ps o e => fuH ps o ++ tdP o [32] ++ [sg "=" [32]] ++ pcE e []
  | .sh e o => wd "show" [32] :: pcE e (if o = none then [] else [32]) ++ opP [wd "in" [32]] o []
theorem lnP_Q (l : Ln) (b : List Nat) : lnP l b = lnQ l ++ [sg ";" b] := by
  cases l with
  | base => rfl
  | unit u => simp [lnP, lnQ, utP]
  | fn ps o e => simp [lnP, lnQ, fuP]
  | sh e o => simp [lnP, lnQ, shP]
abbrev aNames : List Str := ["x", "y_1", "Q", "m", "kg", "u2", "f", "km", "y"]
theorem wf_n (w : Str) (h : w ∈ aNames) : Wf (.name w) (tl w) := by
  simp only [List.mem_cons, List.not_mem_nil, or_false] at h
  rcases h with rfl | rfl | rfl | rfl | rfl | rfl | rfl | rfl | rfl <;> exact wf_name rfl (by decide) (by decide) (by decide) (by decide)
theorem wf_d {p : List Nat × Nat × Nat} (h : p ∈ dNums) : Wf (.num p.2.1 p.2.2) p.1 := by
  simp only [List.mem_cons, List.not_mem_nil, or_false] at h
  rcases h with rfl | rfl | rfl | rfl | rfl
  · exact wf_num (c := 53) (w := []) (ps := []) (by decide) (by decide) (by decide) (by decide) (by decide)
  · exact wf_num (c := 50) (w := []) (ps := [53]) (by decide) (by decide) (by decide) (by decide) (by decide)
  · exact wf_num (c := 48) (w := []) (ps := []) (by decide) (by decide) (by decide) (by decide) (by decide)
  · exact wf_num (c := 57) (w := [57, 57, 57, 57, 57]) (ps := []) (by decide) (by decide) (by decide) (by decide) (by decide)
  · exact wf_num (c := 48) (w := []) (ps := [49, 50, 51, 52]) (by decide) (by decide) (by decide) (by decide) (by decide)
theorem UnD.wf {u : Un} (h : UnD u) : ∀ x ∈ u, Wf (.name x.1) (tl x.1) ∧ x.2.natAbs ≤ 9 := fun x hx => by
  have h1 : ∀ w ∈ uNames, w ∈ aNames := by decide
  exact ⟨wf_n _ (h1 _ (h.2 x hx).1), h.abs x hx⟩
theorem wt_ex {d : Nat} {e : Ex} (h : DrE d e) : WtE e := by
  have h1 : ∀ w ∈ dNames, w ∈ aNames := by decide
  have h2 : ∀ s ∈ dSigns, s ∈ (["or", "and", "<", "<=", "==", "+", "-", "*", "/"] : List Str) := by decide
  induction h with
  | num hp hu => exact ⟨wf_d hp, hu.wf⟩
  | bl => exact trivial
  | var hw => exact wf_n _ (h1 _ hw)
  | call0 hw => exact wf_n _ (h1 _ hw)
  | call1 hw _ ih => exact ⟨wf_n _ (h1 _ hw), ih⟩
  | call2 hw _ _ i1 i2 => exact ⟨wf_n _ (h1 _ hw), i1, i2⟩
  | iter hw hn _ ih => exact ⟨wf_n _ (h1 _ hw), hn, ih⟩
  | pow hn _ ih => exact ⟨hn, ih⟩
  | no _ ih => exact ih
  | cond _ _ _ i1 i2 i3 => exact ⟨i1, i2, i3⟩
  | lett hw _ _ i1 i2 => exact ⟨wf_n _ (h1 _ hw), i1, i2⟩
  | bin hs _ _ i1 i2 => exact ⟨h2 _ hs, i1, i2⟩
theorem wf_ex {d : Nat} {e : Ex} (h : DrE d e) : WfE e := by
  have h1 : ∀ w ∈ dNames, okName w := by decide
  have h2 : ∀ s ∈ dSigns, s ∈ (["or", "and", "<", "<=", "==", "+", "-", "*", "/"] : List Str) := by decide
  have h3 : ∀ w ∈ uNames, (["]", "^"] : List Str).any (· == w) = false := by decide
  induction h with
  | num hp hu => exact fun x hx => ⟨hu.abs x hx, h3 _ (hu.2 x hx).1⟩
  | bl => exact trivial
  | var hw => exact h1 _ hw
  | call0 hw => exact h1 _ hw
  | call1 hw _ ih => exact ⟨h1 _ hw, ih⟩
  | call2 hw _ _ i1 i2 => exact ⟨h1 _ hw, i1, i2⟩
  | iter hw hn _ ih => exact ⟨hn, ih⟩
  | pow hn _ ih => exact ⟨hn, ih⟩
  | no _ ih => exact ih
  | cond _ _ _ i1 i2 i3 => exact ⟨i1, i2, i3⟩
  | lett hw _ _ i1 i2 => exact ⟨i1, i2⟩
  | bin hs _ _ i1 i2 => exact ⟨h2 _ hs, i1, i2⟩
theorem dp_ex : ∀ {d : Nat} {e : Ex}, DrE d e → dpE e ≤ 2 * d ∧ buE e ≤ 3 * d + 1 := by
  intro d e h
  induction h <;> simp only [dpE, buE] <;> omega
/-! #### all lines -/
def allQ : List Ln → List Pc
  | [] => []
  | [l] => lnQ l
  | l :: m :: r => lnP l [10, 32] ++ allQ (m :: r)
def allP : List Ln → List Pc
  | [] => []
  | [l] => lnP l []
  | l :: m :: r => lnP l [10, 32] ++ allP (m :: r)
theorem allP_Q : ∀ {ls : List Ln}, ls ≠ [] → allP ls = allQ ls ++ [sg ";" []]
  | [], h => absurd rfl h
  | [l], _ => lnP_Q l []
  | l :: m :: r, _ => by
    show lnP l [10, 32] ++ allP (m :: r) = (lnP l [10, 32] ++ allQ (m :: r)) ++ _
    rw [allP_Q (by simp), List.append_assoc]
def allD : Nat → List Ln → List PyData
  | _, [] => []
  | i, [l] => [lnD i l]
  | i, l :: m :: r => lnD i l :: allD (i + ln (lnP l [10, 32])) (m :: r)
theorem bare_lines : ∀ (ls : List Ln) (i : Nat), (∀ l ∈ ls, DrL l) → (allD i ls).map bareD = ls.map ln0
  | [], _, _ => rfl
  | [l], i, h => by
    show [bareD (lnD i l)] = [ln0 l]
    rw [bare_ln (h l (by simp))]
  | l :: m :: r, i, h => by
    show bareD (lnD i l) :: (allD _ (m :: r)).map bareD = _
    rw [bare_ln (h l (by simp)), bare_lines (m :: r) _ fun x hx => h x (List.mem_cons_of_mem _ hx)]
    rfl
theorem mk_lines {z : List Nat} : ∀ (ls : List Ln) (i : Nat), (∀ l ∈ ls, DrL l) → Tx z i (allP ls) → ∀ d ∈ allD i ls, MkD z d
  | [], _, _, _, d, hd => by cases hd
  | [l], i, h, hT, d, hd => by
    rw [List.mem_singleton.mp hd]
    exact mk_ln (h l (by simp)) i [] hT
  | l :: m :: r, i, h, hT, d, hd => by
    have h1 := hT.sub [] (lnP l [10, 32]) (allP (m :: r)) rfl
    have h2 := hT.sub (lnP l [10, 32]) (allP (m :: r)) [] (by simp [allP])
    rcases List.mem_cons.mp hd with e | hd
    · rw [e]
      exact mk_ln (h l (by simp)) i _ h1
    · exact mk_lines (m :: r) _ (fun x hx => h x (List.mem_cons_of_mem _ hx)) h2 d hd
end Px

/-! ### the whole text -/
namespace Px
open PySem PySem.Spec PyProof.Rows L2 Ly Lx TL Lw
section
variable {all : List (Tkn × Nat)} {n : Nat}
theorem UnD.ok {u : Un} (h : UnD u) : UnOk u := fun x hx => by
  have h3 : ∀ w ∈ uNames, (["]", "^"] : List Str).any (· == w) = false := by decide
  exact ⟨h.abs x hx, h3 _ (h.2 x hx).1⟩
theorem PmD.ok {ps : List Pm} (h : PmD ps) : PmOk ps := fun p hp => by
  have h3 : ∀ w ∈ (["x", "y"] : List Str), ([")"] : List Str).any (· == w) = false := by decide
  exact ⟨fun u hu => ((h.2 p hp).2 u hu).ok, h3 _ (h.2 p hp).1⟩
theorem ln_run {q B i k : Nat} {X : Nat → Res} {l : Ln} {b : List Nat} {rest : List (Tkn × Nat)} (hX : Rd1 all n q B X) (hq : 8 ≤ q) (hB : 13 ≤ B) (h : DrL l) (hat : At all k (tkP i (lnP l b) ++ rest)) : lineG all n X k = .ok (lnD i l, k + (lnP l b).length) := by
  cases l with
  | base => exact base_run hat
  | unit u => exact unit_line h.ok hat
  | fn ps o e =>
    have := dp_ex h.2.2
    exact fun_run hX (wf_ex h.2.2) (by omega) (by omega) h.1.ok (fun u hu => (h.2.1 u hu).ok) hat
  | sh e o =>
    have := dp_ex h.1
    exact show_run hX (wf_ex h.1) (by omega) (by omega) (fun u hu => (h.2 u hu).ok) hat
theorem lnP_pos (l : Ln) (b : List Nat) : 0 < (lnP l b).length := by
  rw [lnP_Q]
  simp
theorem lines_run {q B : Nat} {X : Nat → Res} (hX : Rd1 all n q B X) (hq : 8 ≤ q) (hB : 13 ≤ B) : ∀ (ls : List Ln) (k i f : Nat) (acc : List PyData), (∀ l ∈ ls, DrL l) → At all k (tkP i (allP ls)) → k + (allP ls).length = all.length → ls.length < f →
    linesG all n X f acc k = .ok (acc ++ allD i ls)
  | [], k, i, f, acc, _, hat, hk, hf => by
    obtain ⟨f', rfl⟩ : ∃ f', f = f' + 1 := ⟨f - 1, by simp at hf; omega⟩
    unfold linesG
    rw [if_pos (by simpa [allP] using hk)]
    simp [allD]
  | [l], k, i, f, acc, h, hat, hk, hf => by
    obtain ⟨f', rfl⟩ : ∃ f', f = f' + 1 + 1 := ⟨f - 2, by simp at hf; omega⟩
    have hk' : k + (lnP l []).length = all.length := hk
    have hp := lnP_pos l []
    have hr := ln_run (n := n) (rest := []) hX hq hB (h l (by simp)) (by rw [List.append_nil]; exact hat)
    unfold linesG
    rw [if_neg (by omega), hr]
    show linesG all n X (f' + 1) _ _ = _
    unfold linesG
    rw [if_pos hk']
    rfl
  | l :: m :: r, k, i, f, acc, h, hat, hk, hf => by
    obtain ⟨f', rfl⟩ : ∃ f', f = f' + 1 := ⟨f - 1, by simp at hf; omega⟩
    have e : tkP i (allP (l :: m :: r)) = tkP i (lnP l [10, 32]) ++ tkP (i + ln (lnP l [10, 32])) (allP (m :: r)) := by
      exact tkP_append _ _ _
    have hk' : k + ((lnP l [10, 32]).length + (allP (m :: r)).length) = all.length := by
      have e2 : (allP (l :: m :: r)).length = (lnP l [10, 32]).length + (allP (m :: r)).length := List.length_append
      rw [← e2, hk]
    have hp := lnP_pos l [10, 32]
    rw [e] at hat
    have hr := ln_run (n := n) hX hq hB (h l (by simp)) hat
    have h2 := At.app hat
    rw [tkP_len] at h2
    unfold linesG
    rw [if_neg (by omega), hr]
    show linesG all n X f' (acc ++ [lnD i l]) (k + (lnP l [10, 32]).length) = _
    rw [lines_run hX hq hB (m :: r) _ _ f' _ (fun x hx => h x (List.mem_cons_of_mem _ hx)) h2 (by omega) (by simp at hf ⊢; omega)]
    simp [allD]
end
/-! #### the pieces fit -/
theorem nx59 {l r : List Nat} (e : l = 59 :: r) : Nx ([] ++ l) := ⟨59, r, by rw [List.nil_append, e], by decide, by decide⟩
theorem fits_td {tail : List Nat} {o : Option Un} {P : List Pc} (h : OpD o) (hP : Fits tail P) : Fits tail (tdP o [32] ++ P) := by
  cases o with
  | none => exact hP
  | some u =>
    have h1 := fits_un (u := u) (b := [32]) (h u rfl).wf bl1 ⟨32, _, rfl⟩ hP
    exact fits_sg' (by decide) bl1 (by simp [unP]) h1
theorem fits_td0 {tail : List Nat} {o : Option Un} {P : List Pc} (h : OpD o) (hn : ∃ s r, txP P ++ tail = s :: r) (hP : Fits tail P) : Fits tail (tdP o [] ++ P) := by
  cases o with
  | none => exact hP
  | some u =>
    have h1 := fits_un (u := u) (b := []) (h u rfl).wf bl0 hn hP
    exact fits_sg' (by decide) bl1 (by simp [unP]) h1
theorem td_nx {o : Option Un} {x : Str} {c : Nat} {w b : List Nat} {P : List Pc} {tail : List Nat} (e : tl x = c :: w) (h1 : inS naming c = false) (h2 : c ≠ 46) : Nx ([] ++ (txP (tdP o [] ++ sg x b :: P) ++ tail)) := by
  cases o with
  | none => exact nxS e h1 h2
  | some u => exact nxS (x := ":") rfl (by decide) (by decide)
theorem fits_pm {tail : List Nat} {p : Pm} {x : Str} {c : Nat} {w b : List Nat} {P : List Pc} (hp : p.1 ∈ (["x", "y"] : List Str) ∧ OpD p.2) (e : tl x = c :: w) (h1 : inS naming c = false) (h2 : c ≠ 46) (hP : Fits tail (sg x b :: P)) : Fits tail (pmP p ++ sg x b :: P) := by
  have ha : ∀ w ∈ (["x", "y"] : List Str), w ∈ aNames := by decide
  have hn : ∃ s r, txP (sg x b :: P) ++ tail = s :: r := fits_ne hP (by simp)
  exact fits_pc (wf_n _ (ha _ hp.1)) (fun x e => by cases e) bl0 (td_nx e h1 h2) (fits_td0 hp.2 hn hP)
theorem fits_pa {tail : List Nat} {b : List Nat} {P : List Pc} (hP : Fits tail (sg ")" b :: P)) : ∀ (ps : List Pm), (∀ p ∈ ps, p.1 ∈ (["x", "y"] : List Str) ∧ OpD p.2) → Fits tail (paP ps ++ sg ")" b :: P)
  | [], _ => hP
  | p :: ps, h => by
    have ih := fits_pa hP ps fun q hq => h q (List.mem_cons_of_mem _ hq)
    have e : paP (p :: ps) ++ sg ")" b :: P = sg "," [32] :: (pmP p ++ (paP ps ++ sg ")" b :: P)) := by simp [paP]
    rw [e]
    refine fits_sg' (by decide) bl1 (by simp [pmP]) ?_
    cases ps with
    | nil => exact fits_pm (h p (by simp)) (x := ")") rfl (by decide) (by decide) hP
    | cons q ps => exact fits_pm (h p (by simp)) (x := ",") rfl (by decide) (by decide) (by simpa [paP] using ih)
theorem fits_pr {tail : List Nat} {b : List Nat} {P : List Pc} {ps : List Pm} (h : PmD ps) (hP : Fits tail (sg ")" b :: P)) : Fits tail (prP ps ++ sg ")" b :: P) := by
  cases ps with
  | nil => exact hP
  | cons p ps =>
    have ih := fits_pa hP ps fun q hq => h.2 q (List.mem_cons_of_mem _ hq)
    have e : prP (p :: ps) ++ sg ")" b :: P = pmP p ++ (paP ps ++ sg ")" b :: P) := by simp [prP]
    rw [e]
    cases ps with
    | nil => exact fits_pm (h.2 p (by simp)) (x := ")") rfl (by decide) (by decide) hP
    | cons q ps => exact fits_pm (h.2 p (by simp)) (x := ",") rfl (by decide) (by decide) (by simpa [paP] using ih)
theorem fits_ln {tail r : List Nat} {P : List Pc} {l : Ln} (h : DrL l) (e : txP P ++ tail = 59 :: r) (hP : Fits tail P) : Fits tail (lnQ l ++ P) := by
  have hnx : Nx ([] ++ (txP P ++ tail)) := nx59 e
  cases l with
  | base => exact fits_pc (wf_w _ (by decide)) (fun x e => by cases e) bl1 (nx32 _) (fits_pc (wf_n _ (by decide)) (fun x e => by cases e) bl0 hnx hP)
  | unit u =>
    have h1 := fits_un (u := u) (b := []) h.wf bl0 hnx.ne hP
    have e1 : lnQ (.unit u) ++ P = wd "unit" [32] :: nm "km" [32] :: sg "=" [32] :: ⟨.num 25 10, tl "2.5", [32]⟩ :: (unP u [] ++ P) := by simp [lnQ]
    rw [e1]
    exact fits_pc (wf_w _ (by decide)) (fun x e => by cases e) bl1 (nx32 _) (fits_pc (wf_n _ (by decide)) (fun x e => by cases e) bl1 (nx32 _) ⟨wf_less "=" (by decide), bl1, ⟨32, _, rfl, by decide⟩,
      fits_pc (wf_d (p := (tl "2.5", 25, 10)) (by decide)) (fun x e => by cases e) bl1 (nx32 _) h1⟩)
  | fn ps o ex =>
    have h1 := fits_ex ex [] tail P (wt_ex h.2.2) bl0 hnx hP
    have h2 : Fits tail (sg "=" [32] :: (pcE ex [] ++ P)) := ⟨wf_less "=" (by decide), bl1, ⟨32, _, rfl, by decide⟩, h1⟩
    have h3 := fits_td h.2.1 h2
    have h4 : Fits tail (sg ")" (if o = none then [32] else []) :: (tdP o [32] ++ sg "=" [32] :: (pcE ex [] ++ P))) := by
      refine fits_sg' (by decide) ?_ (by cases o <;> simp [tdP]) h3
      split
      · exact bl1
      · exact bl0
    have h5 := fits_pr h.1 h4
    have e1 : lnQ (.fn ps o ex) ++ P = wd "fun" [32] :: nm "f" [] :: sg "(" [] :: (prP ps ++ (sg ")" (if o = none then [32] else []) :: (tdP o [32] ++ sg "=" [32] :: (pcE ex [] ++ P)))) := by simp [lnQ, fuH]
    rw [e1]
    exact fits_pc (wf_w _ (by decide)) (fun x e => by cases e) bl1 (nx32 _) (fits_pc (wf_n _ (by decide)) (fun x e => by cases e) bl0 (nxS (x := "(") rfl (by decide) (by decide)) (fits_sg' (by decide) bl0 (by simp) h5))
  | sh ex o =>
    cases o with
    | none =>
      have h1 := fits_ex ex [] tail P (wt_ex h.1) bl0 hnx hP
      have e1 : lnQ (.sh ex none) ++ P = wd "show" [32] :: (pcE ex [] ++ P) := by simp [lnQ, opP]
      rw [e1]
      exact fits_pc (wf_w _ (by decide)) (fun x e => by cases e) bl1 (nx32 _) h1
    | some u =>
      have h0 := fits_un (u := u) (b := []) (h.2 u rfl).wf bl0 hnx.ne hP
      have h1 : Fits tail (wd "in" [32] :: (unP u [] ++ P)) := fits_pc (wf_w _ (by decide)) (fun x e => by cases e) bl1 (nx32 _) h0
      have h2 := fits_ex ex [32] tail _ (wt_ex h.1) bl1 (nx32 _) h1
      have e1 : lnQ (.sh ex (some u)) ++ P = wd "show" [32] :: (pcE ex [32] ++ (wd "in" [32] :: (unP u [] ++ P))) := by simp [lnQ, opP]
      rw [e1]
      exact fits_pc (wf_w _ (by decide)) (fun x e => by cases e) bl1 (nx32 _) h2
theorem lnQ_ne (l : Ln) : lnQ l ≠ [] := by
  cases l <;> simp [lnQ, fuH]
theorem fits_all : ∀ {ls : List Ln}, (∀ l ∈ ls, DrL l) → Fits [59] (allQ ls)
  | [], _ => by
    show skip false [59] = 0
    decide
  | [l], h => by
    have := fits_ln (tail := [59]) (P := []) (r := []) (h l (by simp)) rfl (by show skip false [59] = 0; decide)
    rw [List.append_nil] at this
    exact this
  | l :: m :: r, h => by
    have ih := fits_all (ls := m :: r) fun x hx => h x (List.mem_cons_of_mem _ hx)
    have hne : allQ (m :: r) ≠ [] := by
      cases r with
      | nil => exact lnQ_ne m
      | cons k r =>
        show lnP m _ ++ _ ≠ []
        rw [lnP_Q]
        simp
    have h1 : Fits [59] (sg ";" [10, 32] :: allQ (m :: r)) := fits_sg' (by decide) (by intro x hx; simp at hx; rcases hx with rfl | rfl <;> decide) hne ih
    have e : allQ (l :: m :: r) = lnQ l ++ (sg ";" [10, 32] :: allQ (m :: r)) := by
      show lnP l _ ++ _ = _
      rw [lnP_Q]
      simp
    rw [e]
    exact fits_ln (h l (by simp)) rfl h1
/-! #### the text as it is written -/
theorem unT_app (u : Un) (h : UnD u) (b : List Nat) : txP (unP u b) = tl (unT u) ++ b := unT_text h.abs b
theorem pm_text {p : Pm} (h : OpD p.2) : txP (pmP p) = tl (pmT p) := by
  unfold pmP pmT
  cases e : p.2 with
  | none => simp [tdP, txP, nm]
  | some u =>
    rw [tl_append, tl_append]
    simp [tdP, txP, nm, sg, unT_text (h u e).abs]
    rfl
theorem pa_text : ∀ {ps : List Pm} {p : Pm}, (∀ q ∈ p :: ps, OpD q.2) → txP (pmP p ++ paP ps) = joinL (tl ", ") (((p :: ps).map pmT).map tl)
  | [], p, h => by
    show txP (pmP p ++ []) = tl (pmT p)
    rw [List.append_nil, pm_text (h p (by simp))]
  | q :: ps, p, h => by
    have ih := pa_text (ps := ps) (p := q) fun x hx => h x (List.mem_cons_of_mem _ hx)
    show txP (pmP p ++ (sg "," [32] :: pmP q ++ paP ps)) = tl (pmT p) ++ (tl ", " ++ joinL (tl ", ") (((q :: ps).map pmT).map tl))
    rw [← ih, txP_append, pm_text (h p (by simp))]
    rfl
theorem pr_text {ps : List Pm} (h : ∀ q ∈ ps, OpD q.2) : txP (prP ps) = joinL (tl ", ") ((ps.map pmT).map tl) := by
  cases ps with
  | nil => rfl
  | cons p ps => exact pa_text h
theorem ln_text {l : Ln} (h : DrL l) : txP (lnQ l) ++ [59] = tl (lnT l) := by
  cases l with
  | base => rfl
  | unit u =>
    show txP (wd "unit" [32] :: nm "km" [32] :: sg "=" [32] :: ⟨.num 25 10, tl "2.5", [32]⟩ :: unP u []) ++ [59] = tl (("unit km = 2.5 " : Str) ++ unT u ++ ";")
    rw [tl_append, tl_append]
    simp only [txP, unT_text h.abs, wd, nm, sg]
    simp
    rfl
  | fn ps o e =>
    show txP (fuH ps o ++ tdP o [32] ++ [sg "=" [32]] ++ pcE e []) ++ [59] = tl (("fun f(" : Str) ++ Txt.join ", " (ps.map pmT) ++ ")" ++ tdT ": " o ++ " = " ++ exT e ++ ";")
    rw [tl_append, tl_append, tl_append, tl_append, tl_append, tl_append, tl_exT, tlj, ← pr_text fun q hq => (h.1.2 q hq).2]
    cases o with
    | none =>
      simp [fuH, tdP, txP, txP_append, wd, nm, sg, tdT]
      rfl
    | some u =>
      have : tl (tdT ": " (some u)) = tl ": " ++ tl (unT u) := tl_append _ _
      rw [this]
      simp [fuH, tdP, txP, txP_append, wd, nm, sg, unT_text (h.2.1 u rfl).abs]
      rfl
  | sh e o =>
    show txP (wd "show" [32] :: pcE e (if o = none then [] else [32]) ++ opP [wd "in" [32]] o []) ++ [59] = tl (("show " : Str) ++ exT e ++ tdT " in " o ++ ";")
    rw [tl_append, tl_append, tl_append, tl_exT]
    cases o with
    | none =>
      simp [opP, txP, txP_append, wd, tdT]
      rfl
    | some u =>
      have : tl (tdT " in " (some u)) = tl " in " ++ tl (unT u) := tl_append _ _
      rw [this]
      simp [opP, txP, txP_append, wd, unT_text (h.2 u rfl).abs, pcE_b e [32]]
      rfl
theorem all_text : ∀ {ls : List Ln}, ls ≠ [] → (∀ l ∈ ls, DrL l) → tl (Txt.join "\n " (ls.map lnT)) = txP (allQ ls) ++ [59]
  | [], h, _ => absurd rfl h
  | [l], _, h => by
    rw [tlj]
    show tl (lnT l) = _
    rw [← ln_text (h l (by simp))]
    rfl
  | l :: m :: r, _, h => by
    have ih := all_text (ls := m :: r) (by simp) fun x hx => h x (List.mem_cons_of_mem _ hx)
    rw [tlj] at ih ⊢
    show tl (lnT l) ++ (tl "\n " ++ joinL (tl "\n ") (((m :: r).map lnT).map tl)) = _
    rw [ih, ← ln_text (h l (by simp))]
    show _ = txP (lnP l [10, 32] ++ allQ (m :: r)) ++ [59]
    rw [lnP_Q, txP_append, txP_append]
    simp [txP, sg]
    rfl
end Px

/-! ### the texts that the law reads -/
namespace Px
open PySem PySem.Spec PyProof.Rows L2 Ly Lx TL Lw
theorem allP_len : ∀ ls : List Ln, ls.length ≤ (allP ls).length
  | [] => Nat.le_refl _
  | [l] => lnP_pos l []
  | l :: m :: r => by
    have ih := allP_len (m :: r)
    have h := lnP_pos l [10, 32]
    show _ ≤ (lnP l [10, 32] ++ allP (m :: r)).length
    rw [List.length_append, List.length_cons]
    omega
def allT (ls : List Ln) : List (Tkn × Nat) := tkP 0 (allQ ls) ++ [(.sign ";", (txP (allQ ls)).length)]
theorem allT_P {ls : List Ln} (h : ls ≠ []) : allT ls = tkP 0 (allP ls) := by
  rw [allP_Q h, tkP_append]
  unfold allT
  simp [tkP, sg]
theorem allT_len (ls : List Ln) : (allT ls).length = (allQ ls).length + 1 := by
  unfold allT
  rw [List.length_append, tkP_len]
  rfl
theorem run_all {ls : List Ln} {n q m : Nat} (hne : ls ≠ []) (h : ∀ l ∈ ls, DrL l) (hq : 9 ≤ q) (hm : 13 ≤ m) : linesG (allT ls) n (exprN (allT ls) n q m) ((allT ls).length + 1) [] 0 = .ok (allD 0 ls) := by
  obtain ⟨q', rfl⟩ : ∃ q', q = q' + 1 := ⟨q - 1, by omega⟩
  have hX : Rd1 (allT ls) n q' 13 (exprN (allT ls) n (q' + 1) m) := rd_expr hm
  have h1 := lines_run hX (by omega) (Nat.le_refl 13) ls 0 0 ((allT ls).length + 1) [] h (by rw [allT_P hne]; rfl) (by rw [allT_P hne, tkP_len]; omega) (by
    have := allP_len ls
    rw [allT_P hne, tkP_len]
    omega)
  rw [h1]
  rfl
theorem read_all {ls : List Ln} {n : Nat} (hne : ls ≠ []) (h : ∀ l ∈ ls, DrL l) : parseM (allT ls) n = .ok (allD 0 ls) := by
  unfold parseM
  rw [linesL_G]
  exact run_all hne h (by decide) (by decide)
theorem lex_allT {ls : List Ln} (h : ∀ l ∈ ls, DrL l) : LexTo 0 (txP (allQ ls) ++ [59]) (allT ls) ((txP (allQ ls)).length + 1) [] := by
  have := lex_semi (i := 0) (fits_all h)
  rw [Nat.zero_add] at this
  exact this
theorem skip_fits {P : List Pc} {tail : List Nat} (h : Fits tail P) : skip false (txP P ++ tail) = 0 := fits_skip h
/-- without its last sign -/
theorem read_cut {ls : List Ln} (hne : ls ≠ []) (h : ∀ l ∈ ls, DrL l) : parseM (tkP 0 (allQ ls)) (txP (allQ ls)).length = .error (.mal (txP (allQ ls)).length) := by
  generalize hi : (txP (allQ ls)).length = i
  have hl : (tkP 0 (allQ ls)).length = (allQ ls).length := tkP_len _ _
  have hg : (tkP 0 (allQ ls))[(allQ ls).length]? = none := List.getElem?_eq_none (by omega)
  have hw : wh (tkP 0 (allQ ls)) i (allQ ls).length = i := by
    unfold wh
    rw [hg]
  have I : Ins (allT ls) (tkP 0 (allQ ls)) i (allQ ls).length i := by
    refine ⟨fun k hk => ?_, fun ws _ => ?_, fun kd _ => ?_, hw, fun g => ?_, by rw [allT_len]; omega, by omega⟩
    · unfold allT
      rw [List.getElem?_append_left (by omega)]
    · unfold seesB
      rw [hg]
    · unfold kindB
      rw [hg]
    · unfold expectWhole
      rw [hg]
      show Except.error (Er.mal (wh _ i _)) = _
      rw [hw]
  have hns : seesB (allT ls) ["base", "unit", "fun", "show"] (allQ ls).length = false := by
    unfold seesB allT
    rw [List.getElem?_append_right (by omega), hl, Nat.sub_self]
    rfl
  unfold parseM
  rw [linesL_G]
  exact lines_ins I (by rw [allT_len]; omega) (pr_exprN I (n := i) 23 23) hns _ _ [] [] 0 _ (by omega) (Nat.zero_le _) (run_all hne h (by decide) (by decide))
theorem lex_cutT {ls : List Ln} (h : ∀ l ∈ ls, DrL l) : LexTo 0 (txP (allQ ls)) (tkP 0 (allQ ls)) (txP (allQ ls)).length [] := by
  have := lex_end (allQ ls) 0 (fits_all h)
  rw [Nat.zero_add] at this
  exact this
/-! #### a word put in -/
theorem okS_32 (t : Tkn) : okS t 32 = true := by
  cases t with
  | sign x =>
    show (!((x == "<" || x == "=") && (32 : Nat) == 61)) = true
    simp
  | _ => rfl
theorem fits_w {c : Pc} {P : List Pc} {tail : List Nat} (h : Fits tail (c :: P)) : ∃ a w, c.w = a :: w := by
  obtain ⟨hw, _, ⟨s, r, e, hs⟩, _⟩ := h
  have h1 := (tokAt_pos (hw s r hs)).1
  cases hcw : c.w with
  | nil => rw [hcw] at h1; simp at h1
  | cons a l => exact ⟨a, l, rfl⟩
theorem fits_mid {d : Pc} {M : List Pc} : ∀ {P0 : List Pc}, Fits [59] (P0 ++ d :: M) → Fits [59] (P0 ++ ⟨d.t, d.w, d.b ++ [32]⟩ :: wd "base" [32] :: M)
  | [], h => by
    obtain ⟨hw, hb, ⟨s, r, e, hs⟩, hM⟩ := h
    refine ⟨hw, fun x hx => ?_, ?_, fits_pc (wf_w _ (by decide)) (fun x e => by cases e) bl1 (nx32 _) hM⟩
    · rcases List.mem_append.mp hx with h | h
      · exact hb x h
      · exact bl1 x h
    · cases hdb : d.b with
      | nil => exact ⟨32, _, rfl, okS_32 _⟩
      | cons x b =>
        rw [hdb] at e
        have : x = s := (List.cons.inj e).1
        subst this
        exact ⟨x, _, rfl, hs⟩
  | c :: P0, h => by
    obtain ⟨hw, hb, ⟨s, r, e, hs⟩, hP⟩ := h
    have ih := fits_mid hP
    refine ⟨hw, hb, ?_, ih⟩
    cases hcb : c.b with
    | cons x b =>
      rw [hcb] at e
      have : x = s := (List.cons.inj e).1
      subst this
      exact ⟨x, _, rfl, hs⟩
    | nil =>
      rw [hcb] at e
      cases P0 with
      | nil =>
        obtain ⟨a, w, hw⟩ := fits_w (show Fits [59] (d :: M) from hP)
        have e' : (d.w ++ (d.b ++ txP M)) ++ [59] = s :: r := e
        rw [hw] at e'
        have : a = s := (List.cons.inj e').1
        subst this
        refine ⟨a, w ++ ((d.b ++ [32]) ++ txP (wd "base" [32] :: M)) ++ [59], ?_, hs⟩
        show [] ++ ((d.w ++ ((d.b ++ [32]) ++ txP (wd "base" [32] :: M))) ++ [59]) = _
        rw [hw]
        simp
      | cons f P0 =>
        obtain ⟨a, w, hw⟩ := fits_w (show Fits [59] (f :: (P0 ++ d :: M)) from hP)
        have e' : (f.w ++ (f.b ++ txP (P0 ++ d :: M))) ++ [59] = s :: r := e
        rw [hw] at e'
        have : a = s := (List.cons.inj e').1
        subst this
        refine ⟨a, w ++ (f.b ++ txP (P0 ++ ⟨d.t, d.w, d.b ++ [32]⟩ :: wd "base" [32] :: M)) ++ [59], ?_, hs⟩
        show [] ++ ((f.w ++ (f.b ++ txP (P0 ++ ⟨d.t, d.w, d.b ++ [32]⟩ :: wd "base" [32] :: M))) ++ [59]) = _
        rw [hw]
        simp
theorem read_ins {ls : List Ln} {P0 M : List Pc} {d : Pc} (hne : ls ≠ []) (h : ∀ l ∈ ls, DrL l) (hQ : allQ ls = P0 ++ d :: M) (hns : seesB (allT ls) ["base", "unit", "fun", "show"] (P0.length + 1) = false) :
    ∃ ts' j, LexTo 0 (txP (P0 ++ [d]) ++ (32 :: (tl "base" ++ (32 :: (txP M ++ [59]))))) ts' j [] ∧ skip false (txP (P0 ++ [d]) ++ (32 :: (tl "base" ++ (32 :: (txP M ++ [59]))))) = 0 ∧
      ∀ n', parseM ts' n' = .error (.mal ((txP (P0 ++ [d])).length + 1)) := by
  have hf := fits_all h
  rw [hQ] at hf
  have hm := fits_mid hf
  generalize hN : P0 ++ ⟨d.t, d.w, d.b ++ [32]⟩ :: wd "base" [32] :: M = N at hm
  have eT : txP (P0 ++ [d]) ++ (32 :: (tl "base" ++ (32 :: (txP M ++ [59])))) = txP N ++ [59] := by
    rw [← hN, txP_append, txP_append]
    simp [txP, wd]
  rw [eT]
  have eK : tkP 0 N = tkP 0 (P0 ++ [d]) ++ ((.word "base", (txP (P0 ++ [d])).length + 1) :: tkP ((txP (P0 ++ [d])).length + 1 + 4 + 1) M) := by
    have e1 : P0 ++ ⟨d.t, d.w, d.b ++ [32]⟩ :: wd "base" [32] :: M = (P0 ++ [⟨d.t, d.w, d.b ++ [32]⟩]) ++ (wd "base" [32] :: M) := by simp
    rw [← hN, e1, tkP_append, tk_last P0 d.t d.w (d.b ++ [32]) d.b 0]
    have e2 : 0 + (txP (P0 ++ [(⟨d.t, d.w, d.b ++ [32]⟩ : Pc)])).length = (txP (P0 ++ [d])).length + 1 := by
      rw [txP_append, txP_append]
      simp [txP]
      omega
    rw [e2]
    rfl
  refine ⟨tkP 0 N ++ [(.sign ";", 0 + (txP N).length)], _, lex_semi hm, fits_skip hm, fun n' => ?_⟩
  generalize hat : (txP (P0 ++ [d])).length + 1 = i at eK
  generalize hA : tkP 0 N ++ [(.sign ";", 0 + (txP N).length)] = all'
  have hpl : (tkP 0 (P0 ++ [d])).length = P0.length + 1 := by rw [tkP_len]; simp
  have eA : all' = tkP 0 (P0 ++ [d]) ++ ((.word "base", i) :: (tkP (i + 4 + 1) M ++ [(.sign ";", 0 + (txP N).length)])) := by
    rw [← hA, eK]
    simp
  have eO : allT ls = tkP 0 (P0 ++ [d]) ++ (tkP (0 + (txP (P0 ++ [d])).length) M ++ [(.sign ";", (txP (allQ ls)).length)]) := by
    have e1 : P0 ++ d :: M = (P0 ++ [d]) ++ M := by simp
    unfold allT
    rw [hQ, e1, tkP_append, List.append_assoc]
  have hg : all'[P0.length + 1]? = some (.word "base", i) := by
    rw [eA, List.getElem?_append_right (by omega), hpl, Nat.sub_self]
    rfl
  have hw : wh all' n' (P0.length + 1) = i := by
    unfold wh
    rw [hg]
  have I : Ins (allT ls) all' n' (P0.length + 1) i := by
    refine ⟨fun k hk => ?_, fun ws hws => ?_, fun kd hkd => ?_, hw, fun g => ?_, by rw [eO, List.length_append, hpl]; omega, by rw [eA, List.length_append, hpl]; omega⟩
    · rw [eA, eO, List.getElem?_append_left (by omega), List.getElem?_append_left (by omega)]
    · unfold seesB
      rw [hg]
      exact hws
    · unfold kindB
      rw [hg]
      exact hkd
    · unfold expectWhole
      rw [hg]
      show Except.error (Er.mal (wh _ _ _)) = _
      rw [hw]
  unfold parseM
  rw [linesL_G]
  refine lines_ins I ?_ (pr_exprN I (n := n') 23 23) hns _ _ [] [] 0 _ ?_ (Nat.zero_le _) (run_all (n := n') hne h (by decide) (by decide))
  · rw [eO, List.length_append, hpl, List.length_append]
    simp
  · rw [eA, List.length_append, hpl]
    omega
end Px

/-! ### many parentheses -/
namespace Px
open PySem PySem.Spec PyProof.Rows L2 Ly Lx TL Lw
theorem start_all {ls : List Ln} (hne : ls ≠ []) (h : ∀ l ∈ ls, DrL l) : seesB (allT ls) ["base", "unit", "fun", "show"] 0 = true := by
  have hr := run_all (n := 0) (q := 24) (m := 24) hne h (by decide) (by decide)
  unfold linesG at hr
  rw [if_neg (by rw [allT_len]; omega)] at hr
  cases hl : lineG (allT ls) 0 (exprN (allT ls) 0 24 24) 0 with
  | error e => rw [hl] at hr; cases hr
  | ok dk =>
    obtain ⟨d, k⟩ := dk
    exact line_starts hl
def brP (d : Nat) : List Pc := wd "show" [32] :: (List.replicate d (sg "(" []) ++ wd "true" [] :: List.replicate d (sg ")" []))
theorem fits_cl : ∀ d : Nat, Fits [59] (List.replicate d (sg ")" []))
  | 0 => by
    show skip false [59] = 0
    decide
  | d + 1 => by
    rw [List.replicate_succ]
    refine fits_sg (by decide) bl0 ?_ (fits_cl d)
    cases d with
    | zero => exact ⟨59, [], rfl⟩
    | succ d => exact ⟨41, _, rfl⟩
theorem fits_op {P : List Pc} (h : Fits [59] P) (hne : P ≠ []) : ∀ d : Nat, Fits [59] (List.replicate d (sg "(" []) ++ P)
  | 0 => h
  | d + 1 => by
    rw [List.replicate_succ]
    exact fits_sg' (by decide) bl0 (by simp [hne]) (fits_op h hne d)
theorem fits_br (d : Nat) : Fits [59] (brP d) := by
  have h1 : Fits [59] (wd "true" [] :: List.replicate d (sg ")" [])) := by
    refine fits_pc (wf_w _ (by decide)) (fun x e => by cases e) bl0 ?_ (fits_cl d)
    cases d with
    | zero => exact nx59 rfl
    | succ d => exact ⟨41, _, rfl, by decide, by decide⟩
  exact fits_pc (wf_w _ (by decide)) (fun x e => by cases e) bl1 (nx32 _) (fits_op h1 (by simp) d)
theorem txP_rep (x : Str) : ∀ d : Nat, txP (List.replicate d (sg x [])) = (List.replicate d (tl x)).flatten
  | 0 => rfl
  | d + 1 => by
    rw [List.replicate_succ, List.replicate_succ, List.flatten_cons, ← txP_rep x d]
    rfl
theorem br_text (d : Nat) : tl (("show " : Str) ++ repS "(" d ++ "true" ++ repS ")" d ++ ";") = txP (brP d) ++ [59] := by
  have e1 : tl (repS "(" d) = txP (List.replicate d (sg "(" [])) := (txP_rep "(" d).symm
  have e2 : tl (repS ")" d) = txP (List.replicate d (sg ")" [])) := (txP_rep ")" d).symm
  rw [tl_append, tl_append, tl_append, tl_append, e1, e2]
  simp [brP, txP, txP_append, wd]
  rfl
def brT (d : Nat) : List (Tkn × Nat) := tkP 0 (brP d) ++ [(.sign ";", (txP (brP d)).length)]
theorem lex_br (d : Nat) : LexTo 0 (txP (brP d) ++ [59]) (brT d) ((txP (brP d)).length + 1) [] := by
  have := lex_semi (i := 0) (fits_br d)
  rw [Nat.zero_add] at this
  exact this
section
variable {all : List (Tkn × Nat)} {n : Nat}
theorem tk_op : ∀ (d i : Nat) (P : List Pc), ∃ j, tkP i (List.replicate d (sg "(" []) ++ P) = (List.range d).map (fun k => (Tkn.sign "(", i + k)) ++ tkP j P
  | 0, i, P => ⟨i, rfl⟩
  | d + 1, i, P => by
    obtain ⟨j, hj⟩ := tk_op d (i + 1) P
    refine ⟨j, ?_⟩
    rw [List.replicate_succ, List.range_succ_eq_map, List.map_cons, List.map_map]
    show (Tkn.sign "(", i) :: tkP (i + 1 + 0) (List.replicate d (sg "(" []) ++ P) = _
    rw [Nat.add_zero, hj]
    show _ = (Tkn.sign "(", i) :: (_ ++ _)
    congr 2
    refine List.map_congr_left fun k _ => ?_
    show (Tkn.sign "(", i + 1 + k) = (Tkn.sign "(", i + (k + 1))
    rw [show i + 1 + k = i + (k + 1) by omega]
/-- within parentheses -/
theorem good_br : ∀ (d q i : Nat), ∃ ts, Good (all := all) (n := n) (exprN all n (q + d)) (d + 1) (.tuple [.str "bool", .bool true]) ts ∧ tkP i (List.replicate d (sg "(" []) ++ wd "true" [] :: List.replicate d (sg ")" [])) = ts
  | 0, q, i => ⟨_, good_bool (Nat.le_refl 1) true, rfl⟩
  | d + 1, q, i => by
    obtain ⟨ts, hg, ht⟩ := good_br d q (i + 1)
    have e : List.replicate (d + 1) (sg "(" []) ++ wd "true" [] :: List.replicate (d + 1) (sg ")" []) = [sg "(" []] ++ (List.replicate d (sg "(" []) ++ wd "true" [] :: List.replicate d (sg ")" [])) ++ [sg ")" []] := by
      rw [List.replicate_succ, List.replicate_succ']
      simp
    rw [e, tkP_append, tkP_append]
    have h2 := good_par (i := i) (j := i + (txP ([sg "(" []] ++ (List.replicate d (sg "(" []) ++ wd "true" [] :: List.replicate d (sg ")" [])))).length) (by omega) hg
    refine ⟨_, h2, ?_⟩
    have e3 : tkP (i + (txP [sg "(" []]).length) (List.replicate d (sg "(" []) ++ wd "true" [] :: List.replicate d (sg ")" [])) = ts := ht
    rw [e3]
    rfl
theorem chain_err {ops : List Str} {f : Nat → Nat → Res} {m k : Nat} {e : Er} (h : f m k = .error e) : chainM all n ops f m k = .error e := by
  unfold chainM
  rw [h]
  rfl
theorem over_run : ∀ (m q k : Nat), (∀ c, c < m → ∃ j, all[k + c]? = some (.sign "(", j)) → exprN all n q m k = .error .over
  | 0, 0, k, _ => rfl
  | 0, q + 1, k, _ => rfl
  | m + 1, 0, k, _ => rfl
  | m + 1, q + 1, k, h => by
    obtain ⟨j, hj⟩ := h 0 (by omega)
    rw [Nat.add_zero] at hj
    have ih := over_run m q (k + 1) fun c hc => by
      obtain ⟨j, hj⟩ := h (c + 1) (by omega)
      exact ⟨j, by rw [show k + 1 + c = k + (c + 1) by omega]; exact hj⟩
    have hs : ∀ ws : List Str, seesB all ws k = ws.any (· == ("(" : Str)) := fun ws => by
      unfold seesB
      rw [hj]
      rfl
    have hk : kindB all "number" k = false := by
      unfold kindB
      rw [hj]
      exact (by decide : (("sign" : Str) == "number") = false)
    have hp : primM all n (exprN all n q) (m + 1) k = .error .over := by
      unfold primM
      rw [if_neg (by rw [hk]; exact Bool.false_ne_true), if_neg (by rw [hs]; decide), if_neg (by rw [hs]; decide), if_pos (by rw [hs]; decide), ih]
      rfl
    have h1 : powersM all n (exprN all n q) (m + 1) k = .error .over := by
      unfold powersM
      rw [hp]
      rfl
    have h2 : factorsM all n (exprN all n q) (m + 1) k = .error .over := chain_err h1
    have h3 : termsM all n (exprN all n q) (m + 1) k = .error .over := chain_err h2
    have h4 : plainM all n (exprN all n q) (m + 1) k = .error .over := by
      unfold plainM
      rw [if_neg (by rw [hs]; decide), h3]
      rfl
    have h5 : bothM all n (exprN all n q) (m + 1) k = .error .over := chain_err h4
    show exprM all n (exprN all n q) (m + 1) k = _
    unfold exprM
    dsimp only
    rw [if_neg (by rw [hs]; decide), if_neg (by rw [hs]; decide)]
    exact chain_err h5
end
theorem show_in {all : List (Tkn × Nat)} {n : Nat} {r : List (Tkn × Nat)} (h : At all 0 ((.word "show", 0) :: r)) : lineM all n 0 = bindR (showM all n 0 1) fun l k => bindR (expectS all n ";" k) fun _ k => .ok (l, k) := by
  have hs : ∀ ws : List Str, seesB all ws 0 = ws.any (· == ("show" : Str)) := fun ws => h.sees ws
  unfold lineM
  rw [if_neg (by rw [hs]; decide), if_neg (by rw [hs]; decide), if_neg (by rw [hs]; decide), word_run (by decide) h, h.wh]
  rfl
theorem read_over {d n : Nat} (h : 24 ≤ d) : parseM (brT d) n = .error .over := by
  obtain ⟨j, hj⟩ := tk_op d (0 + 4 + 1) (wd "true" [] :: List.replicate d (sg ")" []))
  have e0 : brT d = (.word "show", 0) :: ((List.range d).map (fun k => (Tkn.sign "(", 0 + 4 + 1 + k)) ++ (tkP j (wd "true" [] :: List.replicate d (sg ")" [])) ++ [(.sign ";", (txP (brP d)).length)])) := by
    unfold brT
    show (Tkn.word "show", 0) :: (tkP (0 + 4 + 1) _ ++ _) = _
    rw [hj, List.append_assoc]
  generalize hA : brT d = all at e0
  have hat : At all 0 ((.word "show", 0) :: ((List.range d).map (fun k => (Tkn.sign "(", 0 + 4 + 1 + k)) ++ (tkP j (wd "true" [] :: List.replicate d (sg ")" [])) ++ [(.sign ";", (txP (brP d)).length)]))) := by
    show all.drop 0 = _
    rw [List.drop_zero, e0]
  have hX : exprTop all n 1 = .error .over := by
    unfold exprTop
    refine over_run 24 24 1 fun c hc => ⟨0 + 4 + 1 + c, ?_⟩
    rw [e0, show 1 + c = c + 1 by omega, List.getElem?_cons_succ, List.getElem?_append_left (by simp; omega), List.getElem?_map, List.getElem?_range (by omega)]
    rfl
  unfold parseM
  unfold linesL
  rw [if_neg (by rw [e0]; simp), show_in hat]
  unfold showM
  rw [hX]
  rfl
theorem read_deep {d n : Nat} (h : d < 24) : parseM (brT d) n = .ok [.tuple [.str "show", .tuple [.str "bool", .bool true], .none, .int ((0 : Nat) : Int)]] := by
  obtain ⟨ts, hg, ht⟩ := good_br (all := brT d) (n := n) d (23 - d) (0 + 4 + 1)
  have e0 : brT d = (.word "show", 0) :: (ts ++ [(.sign ";", (txP (brP d)).length)]) := by
    unfold brT
    show (Tkn.word "show", 0) :: (tkP (0 + 4 + 1) _ ++ _) = _
    rw [ht]
  rw [show 23 - d + d = 23 by omega] at hg
  have hat : At (brT d) 0 ((.word "show", 0) :: (ts ++ [(.sign ";", (txP (brP d)).length)])) := by
    show (brT d).drop 0 = _
    rw [List.drop_zero, ← e0]
  have h1 : exprTop (brT d) n 1 = .ok (.tuple [.str "bool", .bool true], 1 + ts.length) := by
    unfold exprTop
    exact expr_one (by omega) hg hat.next (by omega) ⟨_, _, rfl, by dsimp only; decide⟩
  have h2 : At (brT d) (1 + ts.length) [(.sign ";", (txP (brP d)).length)] := At.app hat.next
  have hl : (brT d).length = 1 + ts.length + 1 := by
    rw [e0]
    simp
    omega
  unfold parseM
  rw [hl]
  unfold linesL
  rw [if_neg (by rw [hl]; omega), show_in hat]
  unfold showM
  rw [h1]
  show (match bindR (bindR (if seesB (brT d) ["in"] (1 + ts.length) = true then _ else _) _) _ with
    | .ok (l, k2) => linesL (brT d) n (1 + ts.length + 1) ([] ++ [l]) k2
    | .error e => .error e) = _
  rw [if_neg (by rw [h2.sees]; dsimp only; decide)]
  show (match bindR (expectS (brT d) n ";" (1 + ts.length)) _ with
    | .ok (l, k2) => linesL (brT d) n (1 + ts.length + 1) ([] ++ [l]) k2
    | .error e => .error e) = _
  rw [semi_run h2]
  show linesL (brT d) n (1 + ts.length + 1) [_] (1 + ts.length + 1) = _
  unfold linesL
  rw [if_pos hl.symm]
end Px

/-! ### what is drawn is small -/
namespace Px
open PySem PySem.Spec PyProof.Rows L2 Ly Lx TL Lw
/-- its bulk, its depth -/
structure Db (d : PyData) (b h : Nat) : Prop where
  bk : d.bulk ≤ b
  dp : d.depth ≤ h
structure DbA (ds : List PyData) (b h : Nat) : Prop where
  bk : PyData.bulkAll ds ≤ b
  dp : PyData.depthAll ds ≤ h
theorem DbA.nil {h : Nat} : DbA [] 0 h := ⟨by simp [PyData.bulkAll], by simp [PyData.depthAll]⟩
theorem DbA.cons {d : PyData} {ds : List PyData} {b b' h : Nat} (x : Db d b h) (y : DbA ds b' h) : DbA (d :: ds) (b + b' + 1) h := by
  have h1 := x.bk
  have h2 := y.bk
  have h3 := x.dp
  have h4 := y.dp
  refine ⟨?_, ?_⟩
  · simp only [PyData.bulkAll]
    omega
  · simp only [PyData.depthAll]
    omega
theorem DbA.tup {ds : List PyData} {b h : Nat} (x : DbA ds b h) : Db (.tuple ds) b (h + 1) := by
  have h1 := x.bk
  have h2 := x.dp
  refine ⟨?_, ?_⟩
  · simp only [PyData.bulk]
    omega
  · simp only [PyData.depth]
    omega
theorem Db.mono {d : PyData} {b b' h h' : Nat} (x : Db d b h) (hb : b ≤ b') (hh : h ≤ h') : Db d b' h' := ⟨Nat.le_trans x.bk hb, Nat.le_trans x.dp hh⟩
theorem db_s {w : Str} {B h : Nat} (hl : w.length ≤ B) : Db (.str w) B h := ⟨hl, by simp [PyData.depth]⟩
theorem db_i {i : Int} {h : Nat} : Db (.int i) 0 h := ⟨by simp [PyData.bulk], by simp [PyData.depth]⟩
theorem db_b {i : Bool} {h : Nat} : Db (.bool i) 0 h := ⟨by simp [PyData.bulk], by simp [PyData.depth]⟩
theorem db_n {h : Nat} : Db .none 0 h := ⟨by simp [PyData.bulk], by simp [PyData.depth]⟩
theorem uName_len {w : Str} (h : w ∈ uNames) : w.length ≤ 2 := by
  have : ∀ w ∈ uNames, w.length ≤ 2 := by decide
  exact this w h
theorem dName_len {w : Str} (h : w ∈ dNames) : w.length ≤ 3 := by
  have : ∀ w ∈ dNames, w.length ≤ 3 := by decide
  exact this w h
theorem opN_len {s : Str} (h : s ∈ dSigns) : (opName s).length ≤ 3 := by
  have : ∀ w ∈ dSigns, (opName w).length ≤ 3 := by decide
  exact this s h
theorem db_pr {u : Un} (h : UnD u) (i : Nat) : Db (.tuple (prL i u)) 12 2 := by
  have one : ∀ (s : Str) (n i : Int), s ∈ uNames → Db (.tuple [.str s, .int n, .int i]) 5 1 := fun s n i hs =>
    (DbA.tup (.cons (db_s (uName_len hs)) (.cons db_i (.cons db_i (DbA.nil (h := 0)))))).mono (by omega) (by omega)
  match u, h with
  | [], _ => exact (DbA.tup (DbA.nil (h := 1))).mono (by omega) (by omega)
  | [x], h => exact (DbA.tup (.cons (one _ _ _ (h.2 x (by simp)).1) (DbA.nil (h := 1)))).mono (by omega) (by omega)
  | [x, y], h => exact (DbA.tup (.cons (one _ _ _ (h.2 x (by simp)).1) (.cons (one _ _ _ (h.2 y (by simp)).1) (DbA.nil (h := 1))))).mono (by omega) (by omega)
  | _ :: _ :: _ :: _, h => exact absurd h.1 (by simp)
def bk : Nat → Nat
  | 0 => 40
  | d + 1 => 3 * bk d + 40
theorem bk_le (d : Nat) : 40 ≤ bk d := by
  cases d with
  | zero => exact Nat.le_refl _
  | succ d =>
    show 40 ≤ 3 * bk d + 40
    omega
theorem db_ex : ∀ {d : Nat} {e : Ex}, DrE d e → ∀ i, Db (trE i e) (bk d) (2 * d + 3) := by
  intro d e h
  have ds : ∀ (w : Str) (B h : Nat), w.length ≤ B → Db (.str w) B h := fun w B h hl => db_s hl
  induction h with
  | @num d w t b u hp hu =>
    intro i
    have := bk_le d
    exact (DbA.tup (.cons (ds "number" 6 2 (by decide)) (.cons ((DbA.tup (.cons db_i (.cons db_i (DbA.nil (h := 0))))).mono (Nat.le_refl _) (by omega)) (.cons (db_pr hu _) (.cons db_i (DbA.nil (h := 2))))))).mono (by omega) (by omega)
  | @bl d v =>
    intro i
    have := bk_le d
    exact (DbA.tup (.cons (ds "bool" 4 2 (by decide)) (.cons db_b (DbA.nil (h := 2))))).mono (by omega) (by omega)
  | @var d w hw =>
    intro i
    have := bk_le d
    exact (DbA.tup (.cons (ds "var" 3 2 (by decide)) (.cons (ds w 3 2 (dName_len hw)) (.cons db_i (DbA.nil (h := 2)))))).mono (by omega) (by omega)
  | @call0 d w hw =>
    intro i
    have := bk_le (d + 1)
    exact (DbA.tup (.cons (ds "call" 4 2 (by decide)) (.cons (ds w 3 2 (dName_len hw)) (.cons ((DbA.tup (DbA.nil (h := 0))).mono (Nat.le_refl _) (by omega)) (.cons db_i (DbA.nil (h := 2))))))).mono (by omega) (by omega)
  | @call1 d w a hw ha ih =>
    intro i
    have e : bk (d + 1) = 3 * bk d + 40 := rfl
    exact (DbA.tup (.cons (ds "call" 4 _ (by decide)) (.cons (ds w 3 _ (dName_len hw)) (.cons (DbA.tup (.cons (ih _) (DbA.nil (h := 2 * d + 3)))) (.cons db_i (DbA.nil (h := 2 * d + 4))))))).mono (by omega) (by omega)
  | @call2 d w a b hw ha hb i1 i2 =>
    intro i
    have e : bk (d + 1) = 3 * bk d + 40 := rfl
    exact (DbA.tup (.cons (ds "call" 4 _ (by decide)) (.cons (ds w 3 _ (dName_len hw)) (.cons (DbA.tup (.cons (i1 _) (.cons (i2 _) (DbA.nil (h := 2 * d + 3))))) (.cons db_i (DbA.nil (h := 2 * d + 4))))))).mono (by omega) (by omega)
  | @iter d w n e hw hn he ih =>
    intro i
    have e : bk (d + 1) = 3 * bk d + 40 := rfl
    exact (DbA.tup (.cons (ds "iterate" 7 _ (by decide)) (.cons (ds w 3 _ (dName_len hw)) (.cons db_i (.cons (ih _) (.cons db_i (DbA.nil (h := 2 * d + 3)))))))).mono (by omega) (by omega)
  | @pow d e n hn he ih =>
    intro i
    have e : bk (d + 1) = 3 * bk d + 40 := rfl
    exact (DbA.tup (.cons (ds "power" 5 _ (by decide)) (.cons (ih _) (.cons db_i (.cons db_i (DbA.nil (h := 2 * d + 3))))))).mono (by omega) (by omega)
  | @no d e he ih =>
    intro i
    have e : bk (d + 1) = 3 * bk d + 40 := rfl
    exact (DbA.tup (.cons (ds "not" 3 _ (by decide)) (.cons (ih _) (.cons db_i (DbA.nil (h := 2 * d + 3)))))).mono (by omega) (by omega)
  | @cond d a b c ha hb hc i1 i2 i3 =>
    intro i
    have e : bk (d + 1) = 3 * bk d + 40 := rfl
    exact (DbA.tup (.cons (ds "if" 2 _ (by decide)) (.cons (i1 _) (.cons (i2 _) (.cons (i3 _) (.cons db_i (DbA.nil (h := 2 * d + 3)))))))).mono (by omega) (by omega)
  | @lett d w a b hw ha hb i1 i2 =>
    intro i
    have e : bk (d + 1) = 3 * bk d + 40 := rfl
    exact (DbA.tup (.cons (ds "let" 3 _ (by decide)) (.cons (ds w 3 _ (dName_len hw)) (.cons (i1 _) (.cons (i2 _) (.cons db_i (DbA.nil (h := 2 * d + 3)))))))).mono (by omega) (by omega)
  | @bin d s a b hs ha hb i1 i2 =>
    intro i
    have e : bk (d + 1) = 3 * bk d + 40 := rfl
    exact (DbA.tup (.cons (ds (opName s) 3 _ (opN_len hs)) (.cons (i1 _) (.cons (i2 _) (.cons db_i (DbA.nil (h := 2 * d + 3))))))).mono (by omega) (by omega)
theorem db_opt {o : Option Un} (h : OpD o) (i : Nat) : Db (tdD i o) 12 2 := by
  cases o with
  | none => exact (db_n (h := 0)).mono (Nat.zero_le _) (Nat.zero_le _)
  | some u => exact db_pr (h u rfl) _
theorem db_pm {p : Pm} (h : p.1 ∈ (["x", "y"] : List Str) ∧ OpD p.2) (i : Nat) : Db (pmD i p) 20 3 := by
  have h1 : ∀ w ∈ (["x", "y"] : List Str), w.length ≤ 2 := by decide
  exact (DbA.tup (.cons (db_s (h1 _ h.1)) (.cons (db_opt h.2 _) (DbA.nil (h := 2))))).mono (by omega) (by omega)
theorem db_prs {ps : List Pm} (h : PmD ps) (i : Nat) : Db (.tuple (prD i ps)) 42 4 := by
  match ps, h with
  | [], _ => exact (DbA.tup (DbA.nil (h := 3))).mono (by omega) (by omega)
  | [x], h => exact (DbA.tup (.cons (db_pm (h.2 x (by simp)) _) (DbA.nil (h := 3)))).mono (by omega) (by omega)
  | [x, y], h => exact (DbA.tup (.cons (db_pm (h.2 x (by simp)) _) (.cons (db_pm (h.2 y (by simp)) _) (DbA.nil (h := 3))))).mono (by omega) (by omega)
  | _ :: _ :: _ :: _, h => exact absurd h.1 (by simp)
theorem db_ln {l : Ln} (h : DrL l) (i : Nat) : Db (lnD i l) 10000 12 := by
  have ds : ∀ (w : Str) (B h : Nat), w.length ≤ B → Db (.str w) B h := fun w B h hl => db_s hl
  have hb : bk 4 ≤ 9000 := by decide
  cases l with
  | base => exact (DbA.tup (.cons (ds "base" 4 _ (by decide)) (.cons (ds "m" 1 _ (by decide)) (.cons db_i (DbA.nil (h := 2)))))).mono (by omega) (by omega)
  | unit u => exact (DbA.tup (.cons (ds "unit" 4 _ (by decide)) (.cons (ds "km" 2 _ (by decide)) (.cons ((DbA.tup (.cons db_i (.cons db_i (DbA.nil (h := 0))))).mono (Nat.le_refl _) (by omega)) (.cons (db_pr h _) (.cons db_i (DbA.nil (h := 2)))))))).mono (by omega) (by omega)
  | fn ps o e =>
    exact (DbA.tup (.cons (ds "fun" 3 _ (by decide)) (.cons (ds "f" 1 _ (by decide)) (.cons ((db_prs h.1 _).mono (Nat.le_refl _) (by omega)) (.cons ((db_opt h.2.1 _).mono (Nat.le_refl _) (by omega)) (.cons (db_ex h.2.2 _) (.cons db_i (DbA.nil (h := 2 * 4 + 3))))))))).mono (by omega) (by omega)
  | sh e o =>
    cases o with
    | none => exact (DbA.tup (.cons (ds "show" 4 (2 * 4 + 3) (by decide)) (.cons (db_ex h.1 _) (.cons (d := .none) (db_n (h := 2 * 4 + 3)) (.cons db_i (DbA.nil (h := 2 * 4 + 3))))))).mono (by omega) (by omega)
    | some u => exact (DbA.tup (.cons (ds "show" 4 (2 * 4 + 3) (by decide)) (.cons (db_ex h.1 _) (.cons ((db_pr (h.2 u rfl) _).mono (Nat.le_refl 12) (show 2 ≤ 2 * 4 + 3 by omega)) (.cons db_i (DbA.nil (h := 2 * 4 + 3))))))).mono (by omega) (by omega)
theorem sm_d {d : PyData} {b b' h h' : Nat} (x : Sm d b h) (hb : b ≤ b') (hh : h ≤ h') : Sm d b' h' := x.mono hb hh
theorem ascii_u {w : Str} (h : w ∈ uNames) : ∀ c ∈ tl w, c < 128 := by
  have : ∀ w ∈ uNames, ∀ c ∈ tl w, c < 128 := by decide
  exact this w h
theorem ascii_d {w : Str} (h : w ∈ dNames) : ∀ c ∈ tl w, c < 128 := by
  have : ∀ w ∈ dNames, ∀ c ∈ tl w, c < 128 := by decide
  exact this w h
theorem ascii_o {s : Str} (h : s ∈ dSigns) : ∀ c ∈ tl (opName s), c < 128 := by
  have : ∀ s ∈ dSigns, ∀ c ∈ tl (opName s), c < 128 := by decide
  exact this s h
theorem pow_small {n : Int} (h : n ∈ uPows) : n.natAbs < 100000000 := by
  have : ∀ n ∈ uPows, n.natAbs < 100000000 := by decide
  exact this n h
theorem si0 {h : Nat} : Sm (.int 0) 0 h := (sm_i (by decide)).mono (Nat.le_refl _) (Nat.zero_le _)
theorem sw (w : Str) (B h : Nat) (hl : w.length ≤ B) (hc : ∀ c ∈ tl w, c < 128) : Sm (.str w) B h := (sm_s hl hc).mono (Nat.le_refl _) (Nat.zero_le _)
theorem SmA.cons' {d : PyData} {ds : List PyData} {b b' h : Nat} (x : Sm d b h) (y : SmA ds b' h) : SmA (d :: ds) (b + b' + 1) h := by
  have := SmA.cons x y
  rw [Nat.max_self] at this
  exact this
theorem sm_un {u : Un} (h : UnD u) : Sm (unD0 u) 30 2 := by
  have one : ∀ x : Str × Int, (x.1 ∈ uNames ∧ x.2 ∈ uPows) → Sm (unI0 x) 8 1 := fun x hx =>
    (SmA.tup (.cons' (sw x.1 2 0 (uName_len hx.1) (ascii_u hx.1)) (.cons' (sm_i (pow_small hx.2)) (.cons' si0 (SmA.nil (h := 0)))))).mono (by omega) (by omega)
  match u, h with
  | [], _ => exact (SmA.tup (SmA.nil (h := 1))).mono (by omega) (by omega)
  | [x], h => exact (SmA.tup (.cons' (one x (h.2 x (by simp))) (SmA.nil (h := 1)))).mono (by omega) (by omega)
  | [x, y], h => exact (SmA.tup (.cons' (one x (h.2 x (by simp))) (.cons' (one y (h.2 y (by simp))) (SmA.nil (h := 1))))).mono (by omega) (by omega)
  | _ :: _ :: _ :: _, h => exact absurd h.1 (by simp)
def bs : Nat → Nat
  | 0 => 80
  | d + 1 => 3 * bs d + 60
theorem bs_le : ∀ d : Nat, 80 ≤ bs d
  | 0 => Nat.le_refl _
  | d + 1 => by
    have := bs_le d
    show 80 ≤ 3 * bs d + 60
    omega
theorem sm_ex : ∀ {d : Nat} {e : Ex}, DrE d e → Sm (tr0 e) (bs d) (2 * d + 3) := by
  intro d e h
  have ds : ∀ (w : Str) (B h : Nat), w.length ≤ B → (∀ c ∈ tl w, c < 128) → Sm (.str w) B h := sw
  induction h with
  | @num d w t b u hp hu =>
    have := bs_le d
    have hi : t < 1000000 ∧ b < 1000000 := by
      have : ∀ p ∈ dNums, p.2.1 < 1000000 ∧ p.2.2 < 1000000 := by decide
      exact this _ hp
    exact (SmA.tup (.cons' (ds "number" 6 2 (by decide) (by decide)) (.cons' ((SmA.tup (.cons' (sm_i (i := (t : Int)) (by omega)) (.cons' (sm_i (i := (b : Int)) (by omega)) (SmA.nil (h := 0))))).mono (Nat.le_refl _) (by omega)) (.cons' (sm_un hu) (.cons' si0 (SmA.nil (h := 2))))))).mono (by omega) (by omega)
  | @bl d v =>
    have := bs_le d
    have hb : Sm (.bool v) 0 2 := ⟨by simp [PyData.showable], by simp [PyData.hasDict], by simp [PyData.leavesShort], by simp [PyData.bulk], by simp [PyData.depth]⟩
    exact (SmA.tup (.cons' (ds "bool" 4 2 (by decide) (by decide)) (.cons' hb (SmA.nil (h := 2))))).mono (by omega) (by omega)
  | @var d w hw =>
    have := bs_le d
    exact (SmA.tup (.cons' (ds "var" 3 2 (by decide) (by decide)) (.cons' (ds w 3 2 (dName_len hw) (ascii_d hw)) (.cons' si0 (SmA.nil (h := 2)))))).mono (by omega) (by omega)
  | @call0 d w hw =>
    have := bs_le (d + 1)
    exact (SmA.tup (.cons' (ds "call" 4 2 (by decide) (by decide)) (.cons' (ds w 3 2 (dName_len hw) (ascii_d hw)) (.cons' ((SmA.tup (SmA.nil (h := 0))).mono (Nat.le_refl _) (by omega)) (.cons' si0 (SmA.nil (h := 2))))))).mono (by omega) (by omega)
  | @call1 d w a hw ha ih =>
    have e : bs (d + 1) = 3 * bs d + 60 := rfl
    exact (SmA.tup (.cons' (ds "call" 4 _ (by decide) (by decide)) (.cons' (ds w 3 _ (dName_len hw) (ascii_d hw)) (.cons' (SmA.tup (.cons' ih (SmA.nil (h := 2 * d + 3)))) (.cons' si0 (SmA.nil (h := 2 * d + 4))))))).mono (by omega) (by omega)
  | @call2 d w a b hw ha hb i1 i2 =>
    have e : bs (d + 1) = 3 * bs d + 60 := rfl
    exact (SmA.tup (.cons' (ds "call" 4 _ (by decide) (by decide)) (.cons' (ds w 3 _ (dName_len hw) (ascii_d hw)) (.cons' (SmA.tup (.cons' i1 (.cons' i2 (SmA.nil (h := 2 * d + 3))))) (.cons' si0 (SmA.nil (h := 2 * d + 4))))))).mono (by omega) (by omega)
  | @iter d w n e hw hn he ih =>
    have e : bs (d + 1) = 3 * bs d + 60 := rfl
    exact (SmA.tup (.cons' (ds "iterate" 7 _ (by decide) (by decide)) (.cons' (ds w 3 _ (dName_len hw) (ascii_d hw)) (.cons' ((sm_i (i := (n : Int)) (by omega)).mono (Nat.le_refl _) (Nat.zero_le _)) (.cons' ih (.cons' si0 (SmA.nil (h := 2 * d + 3)))))))).mono (by omega) (by omega)
  | @pow d e n hn he ih =>
    have e : bs (d + 1) = 3 * bs d + 60 := rfl
    exact (SmA.tup (.cons' (ds "power" 5 _ (by decide) (by decide)) (.cons' ih (.cons' ((sm_i (i := n) (by omega)).mono (Nat.le_refl _) (Nat.zero_le _)) (.cons' si0 (SmA.nil (h := 2 * d + 3))))))).mono (by omega) (by omega)
  | @no d e he ih =>
    have e : bs (d + 1) = 3 * bs d + 60 := rfl
    exact (SmA.tup (.cons' (ds "not" 3 _ (by decide) (by decide)) (.cons' ih (.cons' si0 (SmA.nil (h := 2 * d + 3)))))).mono (by omega) (by omega)
  | @cond d a b c ha hb hc i1 i2 i3 =>
    have e : bs (d + 1) = 3 * bs d + 60 := rfl
    exact (SmA.tup (.cons' (ds "if" 2 _ (by decide) (by decide)) (.cons' i1 (.cons' i2 (.cons' i3 (.cons' si0 (SmA.nil (h := 2 * d + 3)))))))).mono (by omega) (by omega)
  | @lett d w a b hw ha hb i1 i2 =>
    have e : bs (d + 1) = 3 * bs d + 60 := rfl
    exact (SmA.tup (.cons' (ds "let" 3 _ (by decide) (by decide)) (.cons' (ds w 3 _ (dName_len hw) (ascii_d hw)) (.cons' i1 (.cons' i2 (.cons' si0 (SmA.nil (h := 2 * d + 3)))))))).mono (by omega) (by omega)
  | @bin d s a b hs ha hb i1 i2 =>
    have e : bs (d + 1) = 3 * bs d + 60 := rfl
    exact (SmA.tup (.cons' (ds (opName s) 3 _ (opN_len hs) (ascii_o hs)) (.cons' i1 (.cons' i2 (.cons' si0 (SmA.nil (h := 2 * d + 3))))))).mono (by omega) (by omega)
theorem sm_n {h : Nat} : Sm .none 0 h := ⟨by simp [PyData.showable], by simp [PyData.hasDict], by simp [PyData.leavesShort], by simp [PyData.bulk], by simp [PyData.depth]⟩
theorem sm_opt {o : Option Un} (h : OpD o) : Sm (opD0 o) 30 2 := by
  cases o with
  | none => exact (sm_n (h := 0)).mono (Nat.zero_le _) (Nat.zero_le _)
  | some u => exact sm_un (h u rfl)
theorem sm_pm {p : Pm} (h : p.1 ∈ (["x", "y"] : List Str) ∧ OpD p.2) : Sm (pm0 p) 40 3 := by
  have h1 : ∀ w ∈ (["x", "y"] : List Str), w.length ≤ 2 ∧ ∀ c ∈ tl w, c < 128 := by decide
  exact (SmA.tup (.cons' (sw p.1 2 2 (h1 _ h.1).1 (h1 _ h.1).2) (.cons' (sm_opt h.2) (SmA.nil (h := 2))))).mono (by omega) (by omega)
theorem sm_prs {ps : List Pm} (h : PmD ps) : Sm (.tuple (ps.map pm0)) 90 4 := by
  match ps, h with
  | [], _ => exact (SmA.tup (SmA.nil (h := 3))).mono (by omega) (by omega)
  | [x], h => exact (SmA.tup (.cons' (sm_pm (h.2 x (by simp))) (SmA.nil (h := 3)))).mono (by omega) (by omega)
  | [x, y], h => exact (SmA.tup (.cons' (sm_pm (h.2 x (by simp))) (.cons' (sm_pm (h.2 y (by simp))) (SmA.nil (h := 3))))).mono (by omega) (by omega)
  | _ :: _ :: _ :: _, h => exact absurd h.1 (by simp)
theorem sm_ln {l : Ln} (h : DrL l) : Sm (ln0 l) 20000 12 := by
  have hb : bs 4 ≤ 15000 := by decide
  cases l with
  | base => exact (SmA.tup (.cons' (sw "base" 4 2 (by decide) (by decide)) (.cons' (sw "m" 1 2 (by decide) (by decide)) (.cons' si0 (SmA.nil (h := 2)))))).mono (by omega) (by omega)
  | unit u => exact (SmA.tup (.cons' (sw "unit" 4 2 (by decide) (by decide)) (.cons' (sw "km" 2 2 (by decide) (by decide)) (.cons' ((SmA.tup (.cons' (sm_i (i := 25) (by decide)) (.cons' (sm_i (i := 10) (by decide)) (SmA.nil (h := 0))))).mono (Nat.le_refl _) (show 0 + 1 ≤ 2 by omega)) (.cons' (sm_un h) (.cons' si0 (SmA.nil (h := 2)))))))).mono (by omega) (by omega)
  | fn ps o e =>
    exact (SmA.tup (.cons' (sw "fun" 3 11 (by decide) (by decide)) (.cons' (sw "f" 1 11 (by decide) (by decide)) (.cons' ((sm_prs h.1).mono (Nat.le_refl 90) (show 4 ≤ 11 by omega)) (.cons' ((sm_opt h.2.1).mono (Nat.le_refl 30) (show 2 ≤ 11 by omega)) (.cons' (sm_ex h.2.2) (.cons' si0 (SmA.nil (h := 11))))))))).mono (by omega) (by omega)
  | sh e o => exact (SmA.tup (.cons' (sw "show" 4 11 (by decide) (by decide)) (.cons' (sm_ex h.1) (.cons' ((sm_opt h.2).mono (Nat.le_refl 30) (show 2 ≤ 11 by omega)) (.cons' si0 (SmA.nil (h := 11))))))).mono (by omega) (by omega)
theorem sm_lns : ∀ {ls : List Ln}, (∀ l ∈ ls, DrL l) → SmA (ls.map ln0) (20001 * ls.length) 12
  | [], _ => SmA.nil
  | l :: ls, h => by
    have h1 := SmA.cons' (sm_ln (h l (by simp))) (sm_lns fun x hx => h x (List.mem_cons_of_mem _ hx))
    refine ⟨h1.sh, h1.nd, h1.lv, Nat.le_trans h1.bk ?_, h1.dp⟩
    rw [List.length_cons]
    omega
theorem lnT_len {l : Ln} (h : DrL l) : (lnT l).length ≤ 6000 := by
  have ht : ∀ e : Ex, DrE 4 e → (exT e).length ≤ 5000 := fun e he => Nat.le_trans (exT_len he) (by decide)
  cases l with
  | base => decide
  | unit u =>
    have := unT_len h
    show (("unit km = 2.5 " : Str) ++ unT u ++ ";").length ≤ _
    rw [sapp_len, sapp_len]
    show 14 + _ + 1 ≤ _
    omega
  | sh e o =>
    have h1 := ht e h.1
    have h2 : (tdT " in " o).length ≤ 4 + 13 := tdT_len h.2
    show (("show " : Str) ++ exT e ++ tdT " in " o ++ ";").length ≤ _
    rw [sapp_len, sapp_len, sapp_len]
    show 5 + _ + _ + 1 ≤ _
    omega
  | fn ps o e =>
    have h1 := ht e h.2.2
    have h2 : (tdT ": " o).length ≤ 2 + 13 := tdT_len h.2.1
    have h3 : (Txt.join ", " (ps.map pmT)).length ≤ 50 := by
      have e1 : (Txt.join ", " (ps.map pmT)).length = (joinL (tl ", ") ((ps.map pmT).map tl)).length := by rw [len_tl, tlj]
      rw [e1]
      match ps, h.1 with
      | [], _ => decide
      | [x], h =>
        have h4 := pmT_len (h.2 x (by simp))
        rw [len_tl] at h4
        show (tl (pmT x)).length ≤ 50
        omega
      | [x, y], h =>
        have h4 := pmT_len (h.2 x (by simp))
        have h5 := pmT_len (h.2 y (by simp))
        rw [len_tl] at h4 h5
        show (tl (pmT x) ++ (tl ", " ++ tl (pmT y))).length ≤ 50
        rw [List.length_append, List.length_append]
        show _ + (2 + _) ≤ 50
        omega
      | _ :: _ :: _ :: _, h => exact absurd h.1 (by simp)
    show (("fun f(" : Str) ++ Txt.join ", " (ps.map pmT) ++ ")" ++ tdT ": " o ++ " = " ++ exT e ++ ";").length ≤ _
    rw [sapp_len, sapp_len, sapp_len, sapp_len, sapp_len, sapp_len]
    show 6 + _ + 1 + _ + 3 + _ + 1 ≤ _
    omega
end Px

/-! ### not in, in a list of data -/
namespace Px
open PySem PySem.Spec PyProof.Rows L2 Ly Lx TL
def rNotInL (K : PySem.W.Frag) : R2 := fun x y H Q => ∃ d ds, Dp K H x d ∧ Dp K H y (.list ds) ∧ SeqAt.shaped d = true ∧ SeqAt.shaped (.list ds) = true ∧ Q (.bl (!(ds.any fun z => PyData.eqv z d))) H
theorem op_notInL {X : Cx} (hu : X.A.units + 128 < cLine) : OpR X (compareOp .NotIn) (rNotInL X.K) := by
  intro pins s σ H x y v u Q I rx ry h
  obtain ⟨d, ds, hd, he, sd, se, q⟩ := h
  obtain ⟨as, r1⟩ := Dp.reads I d x v hd rx
  obtain ⟨bs, r2⟩ := Dp.reads I (.list ds) y u he ry
  exact SeqAt.notIn_list_reads r2 r1 (SeqAt.canLay_of_shaped se) (SeqAt.canLay_of_shaped sd) (room_in_shaped sd (by omega)) ⟨.bl _, H, I, rfl, q⟩
theorem shl (ws : List Str) (h : ws.all cpsOk = true := by decide) : SeqAt.shaped (.list (ws.map PyData.str)) = true := by
  obtain ⟨h1, h2⟩ := strs_ok ws h
  unfold SeqAt.shaped
  simp [PyData.canLay0, PyData.depth, h1, h2]
end Px

/-! ### the word at a drawn place -/
namespace Px
open PySem PySem.Spec PyProof.Rows L2 Ly Lx TL Lw
theorem db_lines : ∀ (ls : List Ln) (i : Nat), (∀ l ∈ ls, DrL l) → ∀ d ∈ allD i ls, Db d 10000 12
  | [], _, _, d, hd => by cases hd
  | [l], i, h, d, hd => by
    rw [List.mem_singleton.mp hd]
    exact db_ln (h l (by simp)) i
  | l :: m :: r, i, h, d, hd => by
    rcases List.mem_cons.mp hd with e | hd
    · rw [e]
      exact db_ln (h l (by simp)) i
    · exact db_lines (m :: r) _ (fun x hx => h x (List.mem_cons_of_mem _ hx)) d hd
theorem allD_len : ∀ (ls : List Ln) (i : Nat), (allD i ls).length = ls.length
  | [], _ => rfl
  | [l], _ => rfl
  | l :: m :: r, i => by
    show (allD _ (m :: r)).length + 1 = _
    rw [allD_len (m :: r), List.length_cons, List.length_cons, List.length_cons]
theorem at_split {Q : List Pc} {p : Nat} {t : Tkn} {at_ : Nat} (h : (tkP 0 Q ++ [((.sign ";" : Tkn), (txP Q).length)])[p]? = some (t, at_)) : p ≤ Q.length ∧ at_ = (txP (Q.take p)).length := by
  have hl : (tkP 0 Q).length = Q.length := tkP_len _ _
  have hp : p < (tkP 0 Q ++ [((.sign ";" : Tkn), (txP Q).length)]).length := (List.getElem?_eq_some_iff.mp h).1
  rw [List.length_append, hl] at hp
  have hp' : p ≤ Q.length := by
    simp at hp
    omega
  refine ⟨hp', ?_⟩
  have e : tkP 0 Q = tkP 0 (Q.take p) ++ tkP (0 + (txP (Q.take p)).length) (Q.drop p) := by
    conv => lhs; rw [← List.take_append_drop p Q]
    rw [tkP_append]
  have htl : (tkP 0 (Q.take p)).length = p := by rw [tkP_len, List.length_take]; omega
  rw [e, List.append_assoc, List.getElem?_append_right (by omega), htl, Nat.sub_self] at h
  cases hd : Q.drop p with
  | nil =>
    rw [hd] at h
    have h' : some ((.sign ";" : Tkn), (txP Q).length) = some (t, at_) := h
    cases h'
    have : Q.take p = Q := List.take_of_length_le (by
      have := congrArg List.length hd
      rw [List.length_drop] at this
      simp at this
      omega)
    rw [this]
  | cons c M =>
    rw [hd] at h
    have h' : some (c.t, 0 + (txP (Q.take p)).length) = some (t, at_) := h
    cases h'
    omega
theorem ins_at {ls : List Ln} {p at_ : Nat} {t : Tkn} (hne : ls ≠ []) (h : ∀ l ∈ ls, DrL l) (hp : (allT ls)[p]? = some (t, at_)) (hv : valIn t ["base", "unit", "fun", "show"] = false) :
    ∃ ts' j, LexTo 0 ((txP (allQ ls) ++ [59]).take at_ ++ (32 :: (tl "base" ++ (32 :: (txP (allQ ls) ++ [59]).drop at_)))) ts' j [] ∧ skip false ((txP (allQ ls) ++ [59]).take at_ ++ (32 :: (tl "base" ++ (32 :: (txP (allQ ls) ++ [59]).drop at_)))) = 0 ∧
      ∀ n', parseM ts' n' = .error (.mal (at_ + 1)) := by
  have hsp : seesB (allT ls) ["base", "unit", "fun", "show"] p = false := by
    unfold seesB
    rw [hp]
    exact hv
  obtain ⟨h1, h2⟩ := at_split hp
  have hp0 : p ≠ 0 := fun e => by
    subst e
    rw [start_all hne h] at hsp
    cases hsp
  generalize hQ : allQ ls = Q at *
  have hne1 : Q.take p ≠ [] := fun e => by
    have := congrArg List.length e
    rw [List.length_take, List.length_nil] at this
    omega
  have e1 : Q.take p = (Q.take p).dropLast ++ [(Q.take p).getLast hne1] := (List.dropLast_concat_getLast hne1).symm
  generalize hP0 : (Q.take p).dropLast = P0 at e1
  generalize hd : (Q.take p).getLast hne1 = d at e1
  have hpl : p = P0.length + 1 := by
    have := congrArg List.length e1
    rw [List.length_take, List.length_append, List.length_singleton] at this
    omega
  have hQs : Q = P0 ++ d :: Q.drop p := by
    have := List.take_append_drop p Q
    rw [e1] at this
    simpa using this.symm
  have hT : txP Q ++ [59] = txP (P0 ++ [d]) ++ (txP (Q.drop p) ++ [59]) := by
    conv => lhs; rw [← List.take_append_drop p Q, txP_append, e1, List.append_assoc]
  rw [e1] at h2
  rw [hT, h2, List.take_left, List.drop_left]
  subst hpl
  exact read_ins hne h (by rw [hQ]; exact hQs) hsp
theorem cut_to (z : Str) {m : Nat} (h : m ≤ z.length) : cutS z none (some (m : Int)) = mk ((tl z).take m) := by
  unfold cutS
  rw [HT.sIx_none, HT.sIx_nat, Nat.min_eq_left h]
  rfl
theorem cut_from (z : Str) {m : Nat} (h : m ≤ z.length) : cutS z (some (m : Int)) none = mk ((tl z).drop m) := by
  unfold cutS
  rw [HT.sIx_none, HT.sIx_nat, Nat.min_eq_left h, List.take_of_length_le (by rw [List.length_drop, ← len_tl]; exact Nat.le_refl _)]
  rfl
end Px

namespace Tk
open PySem PySem.Spec PyProof.Rows L2 Ly
def topS (i : Nat) : Stmt := PySem.Challenge.pw_alnage_k01_programs_read_back.main.body.getD i (.Pass ⟨0, 0, 0, 0⟩)
abbrev s_Malformed___init__ : Stmt := inClass (topS 2) 0
theorem sc_Malformed___init__ : FnScope ["self", "at"] ["self", "at"] (defScope s_Malformed___init__) := ⟨rfl, rfl, rfl, by decide +kernel, rfl, by decide +kernel, by decide +kernel⟩
abbrev s_Oversized___init__ : Stmt := inClass (topS 3) 0
theorem sc_Oversized___init__ : FnScope ["self", "limit"] ["self", "limit"] (defScope s_Oversized___init__) := ⟨rfl, rfl, rfl, by decide +kernel, rfl, by decide +kernel, by decide +kernel⟩
abbrev s_tokens : Stmt := topS 15
theorem sc_tokens : FnScope ["text", "found", "at", "kind", "value", "end"] ["text"] (defScope s_tokens) := ⟨rfl, rfl, rfl, by decide +kernel, rfl, by decide +kernel, by decide +kernel⟩
abbrev s_token_start : Stmt := topS 16
theorem sc_token_start : FnScope ["text", "at"] ["text", "at"] (defScope s_token_start) := ⟨rfl, rfl, rfl, by decide +kernel, rfl, by decide +kernel, by decide +kernel⟩
abbrev s_comment_end : Stmt := topS 17
theorem sc_comment_end : FnScope ["text", "at", "newline"] ["text", "at"] (defScope s_comment_end) := ⟨rfl, rfl, rfl, by decide +kernel, rfl, by decide +kernel, by decide +kernel⟩
abbrev s_token_at : Stmt := topS 18
theorem sc_token_at : FnScope ["text", "at", "sign"] ["text", "at"] (defScope s_token_at) := ⟨rfl, rfl, rfl, by decide +kernel, rfl, by decide +kernel, by decide +kernel⟩
abbrev s_name_at : Stmt := topS 19
theorem sc_name_at : FnScope ["text", "at", "end", "name"] ["text", "at"] (defScope s_name_at) := ⟨rfl, rfl, rfl, by decide +kernel, rfl, by decide +kernel, by decide +kernel⟩
abbrev s_number_at : Stmt := topS 20
theorem sc_number_at : FnScope ["text", "at", "point", "whole", "part", "end"] ["text", "at"] (defScope s_number_at) := ⟨rfl, rfl, rfl, by decide +kernel, rfl, by decide +kernel, by decide +kernel⟩
abbrev s_digits_behind : Stmt := topS 21
theorem sc_digits_behind : FnScope ["text", "point"] ["text", "point"] (defScope s_digits_behind) := ⟨rfl, rfl, rfl, by decide +kernel, rfl, by decide +kernel, by decide +kernel⟩
abbrev s_run_end : Stmt := topS 22
theorem sc_run_end : FnScope ["text", "at", "characters"] ["text", "at", "characters"] (defScope s_run_end) := ⟨rfl, rfl, rfl, by decide +kernel, rfl, by decide +kernel, by decide +kernel⟩
abbrev s_Reader___init__ : Stmt := inClass (topS 24) 0
theorem sc_Reader___init__ : FnScope ["self", "found", "length"] ["self", "found", "length"] (defScope s_Reader___init__) := ⟨rfl, rfl, rfl, by decide +kernel, rfl, by decide +kernel, by decide +kernel⟩
abbrev s_Reader_ended : Stmt := inClass (topS 24) 1
theorem sc_Reader_ended : FnScope ["self"] ["self"] (defScope s_Reader_ended) := ⟨rfl, rfl, rfl, by decide +kernel, rfl, by decide +kernel, by decide +kernel⟩
abbrev s_Reader_where : Stmt := inClass (topS 24) 2
theorem sc_Reader_where : FnScope ["self"] ["self"] (defScope s_Reader_where) := ⟨rfl, rfl, rfl, by decide +kernel, rfl, by decide +kernel, by decide +kernel⟩
abbrev s_Reader_sees : Stmt := inClass (topS 24) 3
theorem sc_Reader_sees : FnScope ["self", "values"] ["self", "values"] (defScope s_Reader_sees) := ⟨rfl, rfl, rfl, by decide +kernel, rfl, by decide +kernel, by decide +kernel⟩
abbrev s_Reader_sees_kind : Stmt := inClass (topS 24) 4
theorem sc_Reader_sees_kind : FnScope ["self", "kind"] ["self", "kind"] (defScope s_Reader_sees_kind) := ⟨rfl, rfl, rfl, by decide +kernel, rfl, by decide +kernel, by decide +kernel⟩
abbrev s_Reader_take : Stmt := inClass (topS 24) 5
theorem sc_Reader_take : FnScope ["self", "value"] ["self"] (defScope s_Reader_take) := ⟨rfl, rfl, rfl, by decide +kernel, rfl, by decide +kernel, by decide +kernel⟩
abbrev s_Reader_accept : Stmt := inClass (topS 24) 6
theorem sc_Reader_accept : FnScope ["self", "value"] ["self", "value"] (defScope s_Reader_accept) := ⟨rfl, rfl, rfl, by decide +kernel, rfl, by decide +kernel, by decide +kernel⟩
abbrev s_Reader_expect : Stmt := inClass (topS 24) 7
theorem sc_Reader_expect : FnScope ["self", "value"] ["self", "value"] (defScope s_Reader_expect) := ⟨rfl, rfl, rfl, by decide +kernel, rfl, by decide +kernel, by decide +kernel⟩
abbrev s_Reader_expect_kind : Stmt := inClass (topS 24) 8
theorem sc_Reader_expect_kind : FnScope ["self", "kind"] ["self", "kind"] (defScope s_Reader_expect_kind) := ⟨rfl, rfl, rfl, by decide +kernel, rfl, by decide +kernel, by decide +kernel⟩
abbrev s_Reader_expect_whole : Stmt := inClass (topS 24) 9
theorem sc_Reader_expect_whole : FnScope ["self", "greatest", "at", "top", "bottom"] ["self", "greatest"] (defScope s_Reader_expect_whole) := ⟨rfl, rfl, rfl, by decide +kernel, rfl, by decide +kernel, by decide +kernel⟩
abbrev s_parse : Stmt := topS 31
theorem sc_parse : FnScope ["text", "reader", "lines"] ["text"] (defScope s_parse) := ⟨rfl, rfl, rfl, by decide +kernel, rfl, by decide +kernel, by decide +kernel⟩
abbrev s_read_line : Stmt := topS 32
theorem sc_read_line : FnScope ["reader", "at", "line"] ["reader"] (defScope s_read_line) := ⟨rfl, rfl, rfl, by decide +kernel, rfl, by decide +kernel, by decide +kernel⟩
abbrev s_read_unit : Stmt := topS 33
theorem sc_read_unit : FnScope ["reader", "at", "name", "number"] ["reader", "at"] (defScope s_read_unit) := ⟨rfl, rfl, rfl, by decide +kernel, rfl, by decide +kernel, by decide +kernel⟩
abbrev s_read_function : Stmt := topS 34
theorem sc_read_function : FnScope ["reader", "at", "name", "parameters", "product"] ["reader", "at"] (defScope s_read_function) := ⟨rfl, rfl, rfl, by decide +kernel, rfl, by decide +kernel, by decide +kernel⟩
abbrev s_read_parameters : Stmt := topS 35
theorem sc_read_parameters : FnScope ["reader", "parameters"] ["reader"] (defScope s_read_parameters) := ⟨rfl, rfl, rfl, by decide +kernel, rfl, by decide +kernel, by decide +kernel⟩
abbrev s_read_parameter : Stmt := topS 36
theorem sc_read_parameter : FnScope ["reader", "name"] ["reader"] (defScope s_read_parameter) := ⟨rfl, rfl, rfl, by decide +kernel, rfl, by decide +kernel, by decide +kernel⟩
abbrev s_read_told : Stmt := topS 37
theorem sc_read_told : FnScope ["reader"] ["reader"] (defScope s_read_told) := ⟨rfl, rfl, rfl, by decide +kernel, rfl, by decide +kernel, by decide +kernel⟩
abbrev s_read_show : Stmt := topS 38
theorem sc_read_show : FnScope ["reader", "at", "e", "product"] ["reader", "at"] (defScope s_read_show) := ⟨rfl, rfl, rfl, by decide +kernel, rfl, by decide +kernel, by decide +kernel⟩
abbrev s_read_product : Stmt := topS 39
theorem sc_read_product : FnScope ["reader", "parts", "at", "name", "power"] ["reader"] (defScope s_read_product) := ⟨rfl, rfl, rfl, by decide +kernel, rfl, by decide +kernel, by decide +kernel⟩
abbrev s_read_power : Stmt := topS 40
theorem sc_read_power : FnScope ["reader"] ["reader"] (defScope s_read_power) := ⟨rfl, rfl, rfl, by decide +kernel, rfl, by decide +kernel, by decide +kernel⟩
abbrev s_deeper : Stmt := topS 41
theorem sc_deeper : FnScope ["level"] ["level"] (defScope s_deeper) := ⟨rfl, rfl, rfl, by decide +kernel, rfl, by decide +kernel, by decide +kernel⟩
abbrev s_read_expression : Stmt := topS 42
theorem sc_read_expression : FnScope ["reader", "level", "at"] ["reader", "level"] (defScope s_read_expression) := ⟨rfl, rfl, rfl, by decide +kernel, rfl, by decide +kernel, by decide +kernel⟩
abbrev s_read_if : Stmt := topS 43
theorem sc_read_if : FnScope ["reader", "level", "at", "test", "first", "second"] ["reader", "level", "at"] (defScope s_read_if) := ⟨rfl, rfl, rfl, by decide +kernel, rfl, by decide +kernel, by decide +kernel⟩
abbrev s_read_let : Stmt := topS 44
theorem sc_read_let : FnScope ["reader", "level", "at", "name", "bound", "body"] ["reader", "level", "at"] (defScope s_read_let) := ⟨rfl, rfl, rfl, by decide +kernel, rfl, by decide +kernel, by decide +kernel⟩
abbrev s_read_chain : Stmt := topS 45
theorem sc_read_chain : FnScope ["reader", "level", "operators", "read_part", "e", "at", "operation"] ["reader", "level", "operators", "read_part"] (defScope s_read_chain) := ⟨rfl, rfl, rfl, by decide +kernel, rfl, by decide +kernel, by decide +kernel⟩
abbrev s_read_both : Stmt := topS 46
theorem sc_read_both : FnScope ["reader", "level"] ["reader", "level"] (defScope s_read_both) := ⟨rfl, rfl, rfl, by decide +kernel, rfl, by decide +kernel, by decide +kernel⟩
abbrev s_read_plain : Stmt := topS 47
theorem sc_read_plain : FnScope ["reader", "level", "at", "left", "operation"] ["reader", "level"] (defScope s_read_plain) := ⟨rfl, rfl, rfl, by decide +kernel, rfl, by decide +kernel, by decide +kernel⟩
abbrev s_read_terms : Stmt := topS 48
theorem sc_read_terms : FnScope ["reader", "level"] ["reader", "level"] (defScope s_read_terms) := ⟨rfl, rfl, rfl, by decide +kernel, rfl, by decide +kernel, by decide +kernel⟩
abbrev s_read_factors : Stmt := topS 49
theorem sc_read_factors : FnScope ["reader", "level"] ["reader", "level"] (defScope s_read_factors) := ⟨rfl, rfl, rfl, by decide +kernel, rfl, by decide +kernel, by decide +kernel⟩
abbrev s_read_powers : Stmt := topS 50
theorem sc_read_powers : FnScope ["reader", "level", "e", "at"] ["reader", "level"] (defScope s_read_powers) := ⟨rfl, rfl, rfl, by decide +kernel, rfl, by decide +kernel, by decide +kernel⟩
abbrev s_read_primary : Stmt := topS 51
theorem sc_read_primary : FnScope ["reader", "level", "at", "e", "name"] ["reader", "level"] (defScope s_read_primary) := ⟨rfl, rfl, rfl, by decide +kernel, rfl, by decide +kernel, by decide +kernel⟩
abbrev s_read_number : Stmt := topS 52
theorem sc_read_number : FnScope ["reader", "at", "number", "product"] ["reader", "at"] (defScope s_read_number) := ⟨rfl, rfl, rfl, by decide +kernel, rfl, by decide +kernel, by decide +kernel⟩
abbrev s_read_iterate : Stmt := topS 53
theorem sc_read_iterate : FnScope ["reader", "level", "at", "name", "count"] ["reader", "level", "at"] (defScope s_read_iterate) := ⟨rfl, rfl, rfl, by decide +kernel, rfl, by decide +kernel, by decide +kernel⟩
abbrev s_read_arguments : Stmt := topS 54
theorem sc_read_arguments : FnScope ["reader", "level", "arguments"] ["reader", "level"] (defScope s_read_arguments) := ⟨rfl, rfl, rfl, by decide +kernel, rfl, by decide +kernel, by decide +kernel⟩
abbrev s_law_cell : Stmt := topS 56
theorem sc_law_cell : FnScope ["script", "k"] ["script", "k"] (defScope s_law_cell) := ⟨rfl, rfl, rfl, by decide +kernel, rfl, by decide +kernel, by decide +kernel⟩
abbrev s_law_numbers : Stmt := topS 57
theorem sc_law_numbers : FnScope ["cell", "many", "found", "rest", "k"] ["cell", "many"] (defScope s_law_numbers) := ⟨rfl, rfl, rfl, by decide +kernel, rfl, by decide +kernel, by decide +kernel⟩
abbrev s_law_feed : Stmt := topS 58
theorem sc_law_feed : FnScope ["cell", "many"] ["cell", "many"] (defScope s_law_feed) := ⟨rfl, rfl, rfl, by decide +kernel, rfl, by decide +kernel, by decide +kernel⟩
abbrev s_law_take : Stmt := topS 59
theorem sc_law_take : FnScope ["feed", "limit", "numbers", "at"] ["feed", "limit"] (defScope s_law_take) := ⟨rfl, rfl, rfl, by decide +kernel, rfl, by decide +kernel, by decide +kernel⟩
abbrev s_law_drawn : Stmt := topS 60
theorem sc_law_drawn : FnScope ["feed", "depth", "pick", "name", "units", "number", "head"] ["feed", "depth"] (defScope s_law_drawn) := ⟨rfl, rfl, rfl, by decide +kernel, rfl, by decide +kernel, by decide +kernel⟩
abbrev s_law_brackets : Stmt := topS 61
theorem sc_law_brackets : FnScope ["feed"] ["feed"] (defScope s_law_brackets) := ⟨rfl, rfl, rfl, by decide +kernel, rfl, by decide +kernel, by decide +kernel⟩
abbrev s_law_line : Stmt := topS 62
theorem sc_law_line : FnScope ["feed", "pick", "parameters"] ["feed"] (defScope s_law_line) := ⟨rfl, rfl, rfl, by decide +kernel, rfl, by decide +kernel, by decide +kernel⟩
abbrev s_law_number : Stmt := topS 63
theorem sc_law_number : FnScope ["number", "digits", "places"] ["number"] (defScope s_law_number) := ⟨rfl, rfl, rfl, by decide +kernel, rfl, by decide +kernel, by decide +kernel⟩
abbrev s_law_units : Stmt := topS 64
theorem sc_law_units : FnScope ["product"] ["product"] (defScope s_law_units) := ⟨rfl, rfl, rfl, by decide +kernel, rfl, by decide +kernel, by decide +kernel⟩
abbrev s_law_text : Stmt := topS 65
theorem sc_law_text : FnScope ["e", "head", "sign"] ["e"] (defScope s_law_text) := ⟨rfl, rfl, rfl, by decide +kernel, rfl, by decide +kernel, by decide +kernel⟩
abbrev s_law_shown : Stmt := topS 66
theorem sc_law_shown : FnScope ["line", "mark", "product", "told", "shown", "name", "one"] ["line"] (defScope s_law_shown) := ⟨rfl, rfl, rfl, by decide +kernel, rfl, by decide +kernel, by decide +kernel⟩
abbrev s_law_bare : Stmt := topS 67
theorem sc_law_bare : FnScope ["tree", "found"] ["tree"] (defScope s_law_bare) := ⟨rfl, rfl, rfl, by decide +kernel, rfl, by decide +kernel, by decide +kernel⟩
abbrev s_law_marks : Stmt := topS 68
theorem sc_law_marks : FnScope ["text", "tree", "signs", "at"] ["text", "tree"] (defScope s_law_marks) := ⟨rfl, rfl, rfl, by decide +kernel, rfl, by decide +kernel, by decide +kernel⟩
abbrev s_law_read : Stmt := topS 69
theorem sc_law_read : FnScope ["text", "e"] ["text"] (defScope s_law_read) := ⟨rfl, rfl, rfl, by decide +kernel, rfl, by decide +kernel, by decide +kernel⟩
abbrev s_law : Stmt := topS 70
theorem sc_law : FnScope ["script", "feed", "lines", "text", "found", "places", "setting", "at", "starts", "deep", "due"] ["script"] (defScope s_law) := ⟨rfl, rfl, rfl, by decide +kernel, rfl, by decide +kernel, by decide +kernel⟩
/-- what the top has written -/
structure Top (w : World) (K : PySem.W.Frag) (mg : Str → Option Value) where
  a_tokens : Addr
  fd_tokens : FuncData
  F_tokens : Fun K "tokens" "tokens" s_tokens a_tokens fd_tokens
  m_tokens : mg "tokens" = some (.ref a_tokens)
  a_token_start : Addr
  fd_token_start : FuncData
  F_token_start : Fun K "token_start" "token_start" s_token_start a_token_start fd_token_start
  m_token_start : mg "token_start" = some (.ref a_token_start)
  a_comment_end : Addr
  fd_comment_end : FuncData
  F_comment_end : Fun K "comment_end" "comment_end" s_comment_end a_comment_end fd_comment_end
  m_comment_end : mg "comment_end" = some (.ref a_comment_end)
  a_token_at : Addr
  fd_token_at : FuncData
  F_token_at : Fun K "token_at" "token_at" s_token_at a_token_at fd_token_at
  m_token_at : mg "token_at" = some (.ref a_token_at)
  a_name_at : Addr
  fd_name_at : FuncData
  F_name_at : Fun K "name_at" "name_at" s_name_at a_name_at fd_name_at
  m_name_at : mg "name_at" = some (.ref a_name_at)
  a_number_at : Addr
  fd_number_at : FuncData
  F_number_at : Fun K "number_at" "number_at" s_number_at a_number_at fd_number_at
  m_number_at : mg "number_at" = some (.ref a_number_at)
  a_digits_behind : Addr
  fd_digits_behind : FuncData
  F_digits_behind : Fun K "digits_behind" "digits_behind" s_digits_behind a_digits_behind fd_digits_behind
  m_digits_behind : mg "digits_behind" = some (.ref a_digits_behind)
  a_run_end : Addr
  fd_run_end : FuncData
  F_run_end : Fun K "run_end" "run_end" s_run_end a_run_end fd_run_end
  m_run_end : mg "run_end" = some (.ref a_run_end)
  a_parse : Addr
  fd_parse : FuncData
  F_parse : Fun K "parse" "parse" s_parse a_parse fd_parse
  m_parse : mg "parse" = some (.ref a_parse)
  a_read_line : Addr
  fd_read_line : FuncData
  F_read_line : Fun K "read_line" "read_line" s_read_line a_read_line fd_read_line
  m_read_line : mg "read_line" = some (.ref a_read_line)
  a_read_unit : Addr
  fd_read_unit : FuncData
  F_read_unit : Fun K "read_unit" "read_unit" s_read_unit a_read_unit fd_read_unit
  m_read_unit : mg "read_unit" = some (.ref a_read_unit)
  a_read_function : Addr
  fd_read_function : FuncData
  F_read_function : Fun K "read_function" "read_function" s_read_function a_read_function fd_read_function
  m_read_function : mg "read_function" = some (.ref a_read_function)
  a_read_parameters : Addr
  fd_read_parameters : FuncData
  F_read_parameters : Fun K "read_parameters" "read_parameters" s_read_parameters a_read_parameters fd_read_parameters
  m_read_parameters : mg "read_parameters" = some (.ref a_read_parameters)
  a_read_parameter : Addr
  fd_read_parameter : FuncData
  F_read_parameter : Fun K "read_parameter" "read_parameter" s_read_parameter a_read_parameter fd_read_parameter
  m_read_parameter : mg "read_parameter" = some (.ref a_read_parameter)
  a_read_told : Addr
  fd_read_told : FuncData
  F_read_told : Fun K "read_told" "read_told" s_read_told a_read_told fd_read_told
  m_read_told : mg "read_told" = some (.ref a_read_told)
  a_read_show : Addr
  fd_read_show : FuncData
  F_read_show : Fun K "read_show" "read_show" s_read_show a_read_show fd_read_show
  m_read_show : mg "read_show" = some (.ref a_read_show)
  a_read_product : Addr
  fd_read_product : FuncData
  F_read_product : Fun K "read_product" "read_product" s_read_product a_read_product fd_read_product
  m_read_product : mg "read_product" = some (.ref a_read_product)
  a_read_power : Addr
  fd_read_power : FuncData
  F_read_power : Fun K "read_power" "read_power" s_read_power a_read_power fd_read_power
  m_read_power : mg "read_power" = some (.ref a_read_power)
  a_deeper : Addr
  fd_deeper : FuncData
  F_deeper : Fun K "deeper" "deeper" s_deeper a_deeper fd_deeper
  m_deeper : mg "deeper" = some (.ref a_deeper)
  a_read_expression : Addr
  fd_read_expression : FuncData
  F_read_expression : Fun K "read_expression" "read_expression" s_read_expression a_read_expression fd_read_expression
  m_read_expression : mg "read_expression" = some (.ref a_read_expression)
  a_read_if : Addr
  fd_read_if : FuncData
  F_read_if : Fun K "read_if" "read_if" s_read_if a_read_if fd_read_if
  m_read_if : mg "read_if" = some (.ref a_read_if)
  a_read_let : Addr
  fd_read_let : FuncData
  F_read_let : Fun K "read_let" "read_let" s_read_let a_read_let fd_read_let
  m_read_let : mg "read_let" = some (.ref a_read_let)
  a_read_chain : Addr
  fd_read_chain : FuncData
  F_read_chain : Fun K "read_chain" "read_chain" s_read_chain a_read_chain fd_read_chain
  m_read_chain : mg "read_chain" = some (.ref a_read_chain)
  a_read_both : Addr
  fd_read_both : FuncData
  F_read_both : Fun K "read_both" "read_both" s_read_both a_read_both fd_read_both
  m_read_both : mg "read_both" = some (.ref a_read_both)
  a_read_plain : Addr
  fd_read_plain : FuncData
  F_read_plain : Fun K "read_plain" "read_plain" s_read_plain a_read_plain fd_read_plain
  m_read_plain : mg "read_plain" = some (.ref a_read_plain)
  a_read_terms : Addr
  fd_read_terms : FuncData
  F_read_terms : Fun K "read_terms" "read_terms" s_read_terms a_read_terms fd_read_terms
  m_read_terms : mg "read_terms" = some (.ref a_read_terms)
  a_read_factors : Addr
  fd_read_factors : FuncData
  F_read_factors : Fun K "read_factors" "read_factors" s_read_factors a_read_factors fd_read_factors
  m_read_factors : mg "read_factors" = some (.ref a_read_factors)
  a_read_powers : Addr
  fd_read_powers : FuncData
  F_read_powers : Fun K "read_powers" "read_powers" s_read_powers a_read_powers fd_read_powers
  m_read_powers : mg "read_powers" = some (.ref a_read_powers)
  a_read_primary : Addr
  fd_read_primary : FuncData
  F_read_primary : Fun K "read_primary" "read_primary" s_read_primary a_read_primary fd_read_primary
  m_read_primary : mg "read_primary" = some (.ref a_read_primary)
  a_read_number : Addr
  fd_read_number : FuncData
  F_read_number : Fun K "read_number" "read_number" s_read_number a_read_number fd_read_number
  m_read_number : mg "read_number" = some (.ref a_read_number)
  a_read_iterate : Addr
  fd_read_iterate : FuncData
  F_read_iterate : Fun K "read_iterate" "read_iterate" s_read_iterate a_read_iterate fd_read_iterate
  m_read_iterate : mg "read_iterate" = some (.ref a_read_iterate)
  a_read_arguments : Addr
  fd_read_arguments : FuncData
  F_read_arguments : Fun K "read_arguments" "read_arguments" s_read_arguments a_read_arguments fd_read_arguments
  m_read_arguments : mg "read_arguments" = some (.ref a_read_arguments)
  a_law_cell : Addr
  fd_law_cell : FuncData
  F_law_cell : Fun K "_law_cell" "_law_cell" s_law_cell a_law_cell fd_law_cell
  m_law_cell : mg "_law_cell" = some (.ref a_law_cell)
  a_law_numbers : Addr
  fd_law_numbers : FuncData
  F_law_numbers : Fun K "_law_numbers" "_law_numbers" s_law_numbers a_law_numbers fd_law_numbers
  m_law_numbers : mg "_law_numbers" = some (.ref a_law_numbers)
  a_law_feed : Addr
  fd_law_feed : FuncData
  F_law_feed : Fun K "_law_feed" "_law_feed" s_law_feed a_law_feed fd_law_feed
  m_law_feed : mg "_law_feed" = some (.ref a_law_feed)
  a_law_take : Addr
  fd_law_take : FuncData
  F_law_take : Fun K "_law_take" "_law_take" s_law_take a_law_take fd_law_take
  m_law_take : mg "_law_take" = some (.ref a_law_take)
  a_law_drawn : Addr
  fd_law_drawn : FuncData
  F_law_drawn : Fun K "_law_drawn" "_law_drawn" s_law_drawn a_law_drawn fd_law_drawn
  m_law_drawn : mg "_law_drawn" = some (.ref a_law_drawn)
  a_law_brackets : Addr
  fd_law_brackets : FuncData
  F_law_brackets : Fun K "_law_brackets" "_law_brackets" s_law_brackets a_law_brackets fd_law_brackets
  m_law_brackets : mg "_law_brackets" = some (.ref a_law_brackets)
  a_law_line : Addr
  fd_law_line : FuncData
  F_law_line : Fun K "_law_line" "_law_line" s_law_line a_law_line fd_law_line
  m_law_line : mg "_law_line" = some (.ref a_law_line)
  a_law_number : Addr
  fd_law_number : FuncData
  F_law_number : Fun K "_law_number" "_law_number" s_law_number a_law_number fd_law_number
  m_law_number : mg "_law_number" = some (.ref a_law_number)
  a_law_units : Addr
  fd_law_units : FuncData
  F_law_units : Fun K "_law_units" "_law_units" s_law_units a_law_units fd_law_units
  m_law_units : mg "_law_units" = some (.ref a_law_units)
  a_law_text : Addr
  fd_law_text : FuncData
  F_law_text : Fun K "_law_text" "_law_text" s_law_text a_law_text fd_law_text
  m_law_text : mg "_law_text" = some (.ref a_law_text)
  a_law_shown : Addr
  fd_law_shown : FuncData
  F_law_shown : Fun K "_law_shown" "_law_shown" s_law_shown a_law_shown fd_law_shown
  m_law_shown : mg "_law_shown" = some (.ref a_law_shown)
  a_law_bare : Addr
  fd_law_bare : FuncData
  F_law_bare : Fun K "_law_bare" "_law_bare" s_law_bare a_law_bare fd_law_bare
  m_law_bare : mg "_law_bare" = some (.ref a_law_bare)
  a_law_marks : Addr
  fd_law_marks : FuncData
  F_law_marks : Fun K "_law_marks" "_law_marks" s_law_marks a_law_marks fd_law_marks
  m_law_marks : mg "_law_marks" = some (.ref a_law_marks)
  a_law_read : Addr
  fd_law_read : FuncData
  F_law_read : Fun K "_law_read" "_law_read" s_law_read a_law_read fd_law_read
  m_law_read : mg "_law_read" = some (.ref a_law_read)
  a_law : Addr
  fd_law : FuncData
  F_law : Fun K "law" "law" s_law a_law fd_law
  m_law : mg "law" = some (.ref a_law)
  n_abs : mg "abs" = none
  n_bool : mg "bool" = none
  n_int : mg "int" = none
  n_isinstance : mg "isinstance" = none
  n_len : mg "len" = none
  n_max : mg "max" = none
  n_range : mg "range" = none
  n_repr : mg "repr" = none
  n_str : mg "str" = none
  n_tuple : mg "tuple" = none
  a_RESERVED : Addr
  c_RESERVED : mg "RESERVED" = some (.ref a_RESERVED)
  s_RESERVED : ∀ H : Hp, SqT K H a_RESERVED [.str "and", .str "base", .str "else", .str "false", .str "from", .str "fun", .str "if", .str "in", .str "iterate", .str "let", .str "not", .str "or", .str "show", .str "then", .str "true", .str "unit"]
  u_LONGEST_TEXT : Value
  c_LONGEST_TEXT : mg "LONGEST_TEXT" = some u_LONGEST_TEXT
  r_LONGEST_TEXT : RelV (.int 12000) u_LONGEST_TEXT
  u_LONGEST_NAME : Value
  c_LONGEST_NAME : mg "LONGEST_NAME" = some u_LONGEST_NAME
  r_LONGEST_NAME : RelV (.int 16) u_LONGEST_NAME
  u_MOST_DIGITS : Value
  c_MOST_DIGITS : mg "MOST_DIGITS" = some u_MOST_DIGITS
  r_MOST_DIGITS : RelV (.int 6) u_MOST_DIGITS
  u_SEPARATORS : Value
  c_SEPARATORS : mg "SEPARATORS" = some u_SEPARATORS
  r_SEPARATORS : RelV (.str " \t\n") u_SEPARATORS
  u_LETTERS : Value
  c_LETTERS : mg "LETTERS" = some u_LETTERS
  r_LETTERS : RelV (.str "abcdefghijklmnopqrstuvwxyzABCDEFGHIJKLMNOPQRSTUVWXYZ") u_LETTERS
  u_DIGITS : Value
  c_DIGITS : mg "DIGITS" = some u_DIGITS
  r_DIGITS : RelV (.str "0123456789") u_DIGITS
  u_NAMING : Value
  c_NAMING : mg "NAMING" = some u_NAMING
  r_NAMING : RelV (.str "abcdefghijklmnopqrstuvwxyzABCDEFGHIJKLMNOPQRSTUVWXYZ0123456789_") u_NAMING
  a_SIGNS : Addr
  c_SIGNS : mg "SIGNS" = some (.ref a_SIGNS)
  s_SIGNS : ∀ H : Hp, SqT K H a_SIGNS [.str "<=", .str "==", .str "=", .str "<", .str "+", .str "-", .str "*", .str "/", .str "^", .str ",", .str ";", .str ":", .str "(", .str ")", .str "[", .str "]"]
  a_BOTTOMS : Addr
  c_BOTTOMS : mg "BOTTOMS" = some (.ref a_BOTTOMS)
  s_BOTTOMS : ∀ H : Hp, SqT K H a_BOTTOMS [.int 1, .int 10, .int 100, .int 1000, .int 10000]
  u_DEEPEST : Value
  c_DEEPEST : mg "DEEPEST" = some u_DEEPEST
  r_DEEPEST : RelV (.int 24) u_DEEPEST
  u_GREATEST_POWER : Value
  c_GREATEST_POWER : mg "GREATEST_POWER" = some u_GREATEST_POWER
  r_GREATEST_POWER : RelV (.int 9) u_GREATEST_POWER
  u_GREATEST_COUNT : Value
  c_GREATEST_COUNT : mg "GREATEST_COUNT" = some u_GREATEST_COUNT
  r_GREATEST_COUNT : RelV (.int 20) u_GREATEST_COUNT
  a_COMPARISONS : Addr
  c_COMPARISONS : mg "COMPARISONS" = some (.ref a_COMPARISONS)
  s_COMPARISONS : ∀ H : Hp, SqT K H a_COMPARISONS [.str "<", .str "<=", .str "=="]
  a_OPERATIONS : Addr
  c_OPERATIONS : mg "OPERATIONS" = some (.ref a_OPERATIONS)
  d_OPERATIONS_0 : KDct K w a_OPERATIONS "or" (.str "or")
  d_OPERATIONS_1 : KDct K w a_OPERATIONS "and" (.str "and")
  d_OPERATIONS_2 : KDct K w a_OPERATIONS "<" (.str "lt")
  d_OPERATIONS_3 : KDct K w a_OPERATIONS "<=" (.str "le")
  d_OPERATIONS_4 : KDct K w a_OPERATIONS "==" (.str "eq")
  d_OPERATIONS_5 : KDct K w a_OPERATIONS "+" (.str "add")
  d_OPERATIONS_6 : KDct K w a_OPERATIONS "-" (.str "sub")
  d_OPERATIONS_7 : KDct K w a_OPERATIONS "*" (.str "mul")
  d_OPERATIONS_8 : KDct K w a_OPERATIONS "/" (.str "div")
  a_Malformed : Addr
  i_Malformed : Addr
  fd_Malformed___init__ : FuncData
  F_Malformed___init__ : Fun K "__init__" "Malformed.__init__" s_Malformed___init__ i_Malformed fd_Malformed___init__
  x_Malformed : XCls K mg "Malformed" a_Malformed i_Malformed "at"
  a_Oversized : Addr
  i_Oversized : Addr
  fd_Oversized___init__ : FuncData
  F_Oversized___init__ : Fun K "__init__" "Oversized.__init__" s_Oversized___init__ i_Oversized fd_Oversized___init__
  x_Oversized : XCls K mg "Oversized" a_Oversized i_Oversized "limit"
  ap_Oversized_Malformed : PySem.W.subIn K (.ref a_Oversized) (.ref a_Malformed) = some false
  a_Reader : Addr
  m_Reader : mg "Reader" = some (.ref a_Reader)
  cl_Reader : Cls K a_Reader
  a_Reader___init__ : Addr
  fd_Reader___init__ : FuncData
  F_Reader___init__ : Fun K "__init__" "Reader.__init__" s_Reader___init__ a_Reader___init__ fd_Reader___init__
  mk_Reader : Mk K a_Reader a_Reader___init__
  a_Reader_ended : Addr
  fd_Reader_ended : FuncData
  F_Reader_ended : Fun K "ended" "Reader.ended" s_Reader_ended a_Reader_ended fd_Reader_ended
  M_Reader_ended : Meth K a_Reader "ended" a_Reader_ended
  a_Reader_where : Addr
  fd_Reader_where : FuncData
  F_Reader_where : Fun K "where" "Reader.where" s_Reader_where a_Reader_where fd_Reader_where
  M_Reader_where : Meth K a_Reader "where" a_Reader_where
  a_Reader_sees : Addr
  fd_Reader_sees : FuncData
  F_Reader_sees : Fun K "sees" "Reader.sees" s_Reader_sees a_Reader_sees fd_Reader_sees
  M_Reader_sees : Meth K a_Reader "sees" a_Reader_sees
  a_Reader_sees_kind : Addr
  fd_Reader_sees_kind : FuncData
  F_Reader_sees_kind : Fun K "sees_kind" "Reader.sees_kind" s_Reader_sees_kind a_Reader_sees_kind fd_Reader_sees_kind
  M_Reader_sees_kind : Meth K a_Reader "sees_kind" a_Reader_sees_kind
  a_Reader_take : Addr
  fd_Reader_take : FuncData
  F_Reader_take : Fun K "take" "Reader.take" s_Reader_take a_Reader_take fd_Reader_take
  M_Reader_take : Meth K a_Reader "take" a_Reader_take
  a_Reader_accept : Addr
  fd_Reader_accept : FuncData
  F_Reader_accept : Fun K "accept" "Reader.accept" s_Reader_accept a_Reader_accept fd_Reader_accept
  M_Reader_accept : Meth K a_Reader "accept" a_Reader_accept
  a_Reader_expect : Addr
  fd_Reader_expect : FuncData
  F_Reader_expect : Fun K "expect" "Reader.expect" s_Reader_expect a_Reader_expect fd_Reader_expect
  M_Reader_expect : Meth K a_Reader "expect" a_Reader_expect
  a_Reader_expect_kind : Addr
  fd_Reader_expect_kind : FuncData
  F_Reader_expect_kind : Fun K "expect_kind" "Reader.expect_kind" s_Reader_expect_kind a_Reader_expect_kind fd_Reader_expect_kind
  M_Reader_expect_kind : Meth K a_Reader "expect_kind" a_Reader_expect_kind
  a_Reader_expect_whole : Addr
  fd_Reader_expect_whole : FuncData
  F_Reader_expect_whole : Fun K "expect_whole" "Reader.expect_whole" s_Reader_expect_whole a_Reader_expect_whole fd_Reader_expect_whole
  M_Reader_expect_whole : Meth K a_Reader "expect_whole" a_Reader_expect_whole
  nF_Reader_found : NoAttr K a_Reader "found"
  nF_Reader_length : NoAttr K a_Reader "length"
  nF_Reader_taken : NoAttr K a_Reader "taken"
/-- .. out of what the head tells -/
def top_mk {w : World} {K : PySem.W.Frag} {h : Heap} {mg : Str → Option Value} (X : K.In h) (G : h.Ns mainGlobals mg)
    {f_tokens f_token_start f_comment_end f_token_at f_name_at f_number_at f_digits_behind f_run_end f_parse f_read_line f_read_unit f_read_function f_read_parameters f_read_parameter f_read_told f_read_show f_read_product f_read_power f_deeper f_read_expression f_read_if f_read_let f_read_chain f_read_both f_read_plain f_read_terms f_read_factors f_read_powers f_read_primary f_read_number f_read_iterate f_read_arguments f_law_cell f_law_numbers f_law_feed f_law_take f_law_drawn f_law_brackets f_law_line f_law_number f_law_units f_law_text f_law_shown f_law_bare f_law_marks f_law_read f_law : Addr}
    {oc_Malformed___init__ kV_Malformed___init__ dc_Malformed___init__ pm_Malformed___init__ cd_Malformed___init__ ct_Malformed___init__ : Value} {od_Malformed___init__ an_Malformed___init__ : Option Addr} {sl_Malformed___init__ : Array (Option Value)}
    {oc_Oversized___init__ kV_Oversized___init__ dc_Oversized___init__ pm_Oversized___init__ cd_Oversized___init__ ct_Oversized___init__ : Value} {od_Oversized___init__ an_Oversized___init__ : Option Addr} {sl_Oversized___init__ : Array (Option Value)}
    {oc_tokens kV_tokens dc_tokens pm_tokens cd_tokens ct_tokens : Value} {od_tokens an_tokens : Option Addr} {sl_tokens : Array (Option Value)}
    {oc_token_start kV_token_start dc_token_start pm_token_start cd_token_start ct_token_start : Value} {od_token_start an_token_start : Option Addr} {sl_token_start : Array (Option Value)}
    {oc_comment_end kV_comment_end dc_comment_end pm_comment_end cd_comment_end ct_comment_end : Value} {od_comment_end an_comment_end : Option Addr} {sl_comment_end : Array (Option Value)}
    {oc_token_at kV_token_at dc_token_at pm_token_at cd_token_at ct_token_at : Value} {od_token_at an_token_at : Option Addr} {sl_token_at : Array (Option Value)}
    {oc_name_at kV_name_at dc_name_at pm_name_at cd_name_at ct_name_at : Value} {od_name_at an_name_at : Option Addr} {sl_name_at : Array (Option Value)}
    {oc_number_at kV_number_at dc_number_at pm_number_at cd_number_at ct_number_at : Value} {od_number_at an_number_at : Option Addr} {sl_number_at : Array (Option Value)}
    {oc_digits_behind kV_digits_behind dc_digits_behind pm_digits_behind cd_digits_behind ct_digits_behind : Value} {od_digits_behind an_digits_behind : Option Addr} {sl_digits_behind : Array (Option Value)}
    {oc_run_end kV_run_end dc_run_end pm_run_end cd_run_end ct_run_end : Value} {od_run_end an_run_end : Option Addr} {sl_run_end : Array (Option Value)}
    {oc_Reader___init__ kV_Reader___init__ dc_Reader___init__ pm_Reader___init__ cd_Reader___init__ ct_Reader___init__ : Value} {od_Reader___init__ an_Reader___init__ : Option Addr} {sl_Reader___init__ : Array (Option Value)}
    {oc_Reader_ended kV_Reader_ended dc_Reader_ended pm_Reader_ended cd_Reader_ended ct_Reader_ended : Value} {od_Reader_ended an_Reader_ended : Option Addr} {sl_Reader_ended : Array (Option Value)}
    {oc_Reader_where kV_Reader_where dc_Reader_where pm_Reader_where cd_Reader_where ct_Reader_where : Value} {od_Reader_where an_Reader_where : Option Addr} {sl_Reader_where : Array (Option Value)}
    {oc_Reader_sees kV_Reader_sees dc_Reader_sees pm_Reader_sees cd_Reader_sees ct_Reader_sees : Value} {od_Reader_sees an_Reader_sees : Option Addr} {sl_Reader_sees : Array (Option Value)}
    {oc_Reader_sees_kind kV_Reader_sees_kind dc_Reader_sees_kind pm_Reader_sees_kind cd_Reader_sees_kind ct_Reader_sees_kind : Value} {od_Reader_sees_kind an_Reader_sees_kind : Option Addr} {sl_Reader_sees_kind : Array (Option Value)}
    {oc_Reader_take kV_Reader_take dc_Reader_take pm_Reader_take cd_Reader_take ct_Reader_take : Value} {od_Reader_take an_Reader_take : Option Addr} {sl_Reader_take : Array (Option Value)}
    {oc_Reader_accept kV_Reader_accept dc_Reader_accept pm_Reader_accept cd_Reader_accept ct_Reader_accept : Value} {od_Reader_accept an_Reader_accept : Option Addr} {sl_Reader_accept : Array (Option Value)}
    {oc_Reader_expect kV_Reader_expect dc_Reader_expect pm_Reader_expect cd_Reader_expect ct_Reader_expect : Value} {od_Reader_expect an_Reader_expect : Option Addr} {sl_Reader_expect : Array (Option Value)}
    {oc_Reader_expect_kind kV_Reader_expect_kind dc_Reader_expect_kind pm_Reader_expect_kind cd_Reader_expect_kind ct_Reader_expect_kind : Value} {od_Reader_expect_kind an_Reader_expect_kind : Option Addr} {sl_Reader_expect_kind : Array (Option Value)}
    {oc_Reader_expect_whole kV_Reader_expect_whole dc_Reader_expect_whole pm_Reader_expect_whole cd_Reader_expect_whole ct_Reader_expect_whole : Value} {od_Reader_expect_whole an_Reader_expect_whole : Option Addr} {sl_Reader_expect_whole : Array (Option Value)}
    {oc_parse kV_parse dc_parse pm_parse cd_parse ct_parse : Value} {od_parse an_parse : Option Addr} {sl_parse : Array (Option Value)}
    {oc_read_line kV_read_line dc_read_line pm_read_line cd_read_line ct_read_line : Value} {od_read_line an_read_line : Option Addr} {sl_read_line : Array (Option Value)}
    {oc_read_unit kV_read_unit dc_read_unit pm_read_unit cd_read_unit ct_read_unit : Value} {od_read_unit an_read_unit : Option Addr} {sl_read_unit : Array (Option Value)}
    {oc_read_function kV_read_function dc_read_function pm_read_function cd_read_function ct_read_function : Value} {od_read_function an_read_function : Option Addr} {sl_read_function : Array (Option Value)}
    {oc_read_parameters kV_read_parameters dc_read_parameters pm_read_parameters cd_read_parameters ct_read_parameters : Value} {od_read_parameters an_read_parameters : Option Addr} {sl_read_parameters : Array (Option Value)}
    {oc_read_parameter kV_read_parameter dc_read_parameter pm_read_parameter cd_read_parameter ct_read_parameter : Value} {od_read_parameter an_read_parameter : Option Addr} {sl_read_parameter : Array (Option Value)}
    {oc_read_told kV_read_told dc_read_told pm_read_told cd_read_told ct_read_told : Value} {od_read_told an_read_told : Option Addr} {sl_read_told : Array (Option Value)}
    {oc_read_show kV_read_show dc_read_show pm_read_show cd_read_show ct_read_show : Value} {od_read_show an_read_show : Option Addr} {sl_read_show : Array (Option Value)}
    {oc_read_product kV_read_product dc_read_product pm_read_product cd_read_product ct_read_product : Value} {od_read_product an_read_product : Option Addr} {sl_read_product : Array (Option Value)}
    {oc_read_power kV_read_power dc_read_power pm_read_power cd_read_power ct_read_power : Value} {od_read_power an_read_power : Option Addr} {sl_read_power : Array (Option Value)}
    {oc_deeper kV_deeper dc_deeper pm_deeper cd_deeper ct_deeper : Value} {od_deeper an_deeper : Option Addr} {sl_deeper : Array (Option Value)}
    {oc_read_expression kV_read_expression dc_read_expression pm_read_expression cd_read_expression ct_read_expression : Value} {od_read_expression an_read_expression : Option Addr} {sl_read_expression : Array (Option Value)}
    {oc_read_if kV_read_if dc_read_if pm_read_if cd_read_if ct_read_if : Value} {od_read_if an_read_if : Option Addr} {sl_read_if : Array (Option Value)}
    {oc_read_let kV_read_let dc_read_let pm_read_let cd_read_let ct_read_let : Value} {od_read_let an_read_let : Option Addr} {sl_read_let : Array (Option Value)}
    {oc_read_chain kV_read_chain dc_read_chain pm_read_chain cd_read_chain ct_read_chain : Value} {od_read_chain an_read_chain : Option Addr} {sl_read_chain : Array (Option Value)}
    {oc_read_both kV_read_both dc_read_both pm_read_both cd_read_both ct_read_both : Value} {od_read_both an_read_both : Option Addr} {sl_read_both : Array (Option Value)}
    {oc_read_plain kV_read_plain dc_read_plain pm_read_plain cd_read_plain ct_read_plain : Value} {od_read_plain an_read_plain : Option Addr} {sl_read_plain : Array (Option Value)}
    {oc_read_terms kV_read_terms dc_read_terms pm_read_terms cd_read_terms ct_read_terms : Value} {od_read_terms an_read_terms : Option Addr} {sl_read_terms : Array (Option Value)}
    {oc_read_factors kV_read_factors dc_read_factors pm_read_factors cd_read_factors ct_read_factors : Value} {od_read_factors an_read_factors : Option Addr} {sl_read_factors : Array (Option Value)}
    {oc_read_powers kV_read_powers dc_read_powers pm_read_powers cd_read_powers ct_read_powers : Value} {od_read_powers an_read_powers : Option Addr} {sl_read_powers : Array (Option Value)}
    {oc_read_primary kV_read_primary dc_read_primary pm_read_primary cd_read_primary ct_read_primary : Value} {od_read_primary an_read_primary : Option Addr} {sl_read_primary : Array (Option Value)}
    {oc_read_number kV_read_number dc_read_number pm_read_number cd_read_number ct_read_number : Value} {od_read_number an_read_number : Option Addr} {sl_read_number : Array (Option Value)}
    {oc_read_iterate kV_read_iterate dc_read_iterate pm_read_iterate cd_read_iterate ct_read_iterate : Value} {od_read_iterate an_read_iterate : Option Addr} {sl_read_iterate : Array (Option Value)}
    {oc_read_arguments kV_read_arguments dc_read_arguments pm_read_arguments cd_read_arguments ct_read_arguments : Value} {od_read_arguments an_read_arguments : Option Addr} {sl_read_arguments : Array (Option Value)}
    {oc_law_cell kV_law_cell dc_law_cell pm_law_cell cd_law_cell ct_law_cell : Value} {od_law_cell an_law_cell : Option Addr} {sl_law_cell : Array (Option Value)}
    {oc_law_numbers kV_law_numbers dc_law_numbers pm_law_numbers cd_law_numbers ct_law_numbers : Value} {od_law_numbers an_law_numbers : Option Addr} {sl_law_numbers : Array (Option Value)}
    {oc_law_feed kV_law_feed dc_law_feed pm_law_feed cd_law_feed ct_law_feed : Value} {od_law_feed an_law_feed : Option Addr} {sl_law_feed : Array (Option Value)}
    {oc_law_take kV_law_take dc_law_take pm_law_take cd_law_take ct_law_take : Value} {od_law_take an_law_take : Option Addr} {sl_law_take : Array (Option Value)}
    {oc_law_drawn kV_law_drawn dc_law_drawn pm_law_drawn cd_law_drawn ct_law_drawn : Value} {od_law_drawn an_law_drawn : Option Addr} {sl_law_drawn : Array (Option Value)}
    {oc_law_brackets kV_law_brackets dc_law_brackets pm_law_brackets cd_law_brackets ct_law_brackets : Value} {od_law_brackets an_law_brackets : Option Addr} {sl_law_brackets : Array (Option Value)}
    {oc_law_line kV_law_line dc_law_line pm_law_line cd_law_line ct_law_line : Value} {od_law_line an_law_line : Option Addr} {sl_law_line : Array (Option Value)}
    {oc_law_number kV_law_number dc_law_number pm_law_number cd_law_number ct_law_number : Value} {od_law_number an_law_number : Option Addr} {sl_law_number : Array (Option Value)}
    {oc_law_units kV_law_units dc_law_units pm_law_units cd_law_units ct_law_units : Value} {od_law_units an_law_units : Option Addr} {sl_law_units : Array (Option Value)}
    {oc_law_text kV_law_text dc_law_text pm_law_text cd_law_text ct_law_text : Value} {od_law_text an_law_text : Option Addr} {sl_law_text : Array (Option Value)}
    {oc_law_shown kV_law_shown dc_law_shown pm_law_shown cd_law_shown ct_law_shown : Value} {od_law_shown an_law_shown : Option Addr} {sl_law_shown : Array (Option Value)}
    {oc_law_bare kV_law_bare dc_law_bare pm_law_bare cd_law_bare ct_law_bare : Value} {od_law_bare an_law_bare : Option Addr} {sl_law_bare : Array (Option Value)}
    {oc_law_marks kV_law_marks dc_law_marks pm_law_marks cd_law_marks ct_law_marks : Value} {od_law_marks an_law_marks : Option Addr} {sl_law_marks : Array (Option Value)}
    {oc_law_read kV_law_read dc_law_read pm_law_read cd_law_read ct_law_read : Value} {od_law_read an_law_read : Option Addr} {sl_law_read : Array (Option Value)}
    {oc_law kV_law dc_law pm_law cd_law ct_law : Value} {od_law an_law : Option Addr} {sl_law : Array (Option Value)}
    {k_RESERVED_0 k_RESERVED_1 k_RESERVED_2 k_RESERVED_3 k_RESERVED_4 k_RESERVED_5 k_RESERVED_6 k_RESERVED_7 k_RESERVED_8 k_RESERVED_9 k_RESERVED_10 k_RESERVED_11 k_RESERVED_12 k_RESERVED_13 k_RESERVED_14 k_RESERVED_15 : Tok}
    {t_RESERVED : Addr} {td_RESERVED : Option Addr} {tn_RESERVED : Nat} {ts_RESERVED : Array (Option Value)}
    {k_LONGEST_TEXT : Tok}
    {k_LONGEST_NAME : Tok}
    {k_MOST_DIGITS : Tok}
    {k_SEPARATORS : Tok}
    {k_LETTERS : Tok}
    {k_DIGITS : Tok}
    {k_NAMING : Tok}
    {k_SIGNS_0 k_SIGNS_1 k_SIGNS_2 k_SIGNS_3 k_SIGNS_4 k_SIGNS_5 k_SIGNS_6 k_SIGNS_7 k_SIGNS_8 k_SIGNS_9 k_SIGNS_10 k_SIGNS_11 k_SIGNS_12 k_SIGNS_13 k_SIGNS_14 k_SIGNS_15 : Tok}
    {t_SIGNS : Addr} {td_SIGNS : Option Addr} {tn_SIGNS : Nat} {ts_SIGNS : Array (Option Value)}
    {k_BOTTOMS_0 k_BOTTOMS_1 k_BOTTOMS_2 k_BOTTOMS_3 k_BOTTOMS_4 : Tok}
    {t_BOTTOMS : Addr} {td_BOTTOMS : Option Addr} {tn_BOTTOMS : Nat} {ts_BOTTOMS : Array (Option Value)}
    {k_DEEPEST : Tok}
    {k_GREATEST_POWER : Tok}
    {k_GREATEST_COUNT : Tok}
    {k_COMPARISONS_0 k_COMPARISONS_1 k_COMPARISONS_2 : Tok}
    {t_COMPARISONS : Addr} {td_COMPARISONS : Option Addr} {tn_COMPARISONS : Nat} {ts_COMPARISONS : Array (Option Value)}
    {t_OPERATIONS : Addr} {te_OPERATIONS : Array DictEntry} {tn_OPERATIONS : Nat}
    {k_OPERATIONS_0 : Tok}
    {k_OPERATIONS_1 : Tok}
    {k_OPERATIONS_2 : Tok}
    {k_OPERATIONS_3 : Tok}
    {k_OPERATIONS_4 : Tok}
    {k_OPERATIONS_5 : Tok}
    {k_OPERATIONS_6 : Tok}
    {k_OPERATIONS_7 : Tok}
    {k_OPERATIONS_8 : Tok}
    {C_Malformed I_Malformed : Addr} {xn_Malformed xq_Malformed : Str} {xN_Malformed : Addr} {xb_Malformed : List Value} {xsn_Malformed : List Str} {xsu_Malformed : List Value} {xa_Malformed : Bool} {xc_Malformed : Option Bool} {xd_Malformed : Option Addr} {xk0_Malformed xk1_Malformed xk2_Malformed xk3_Malformed xk5_Malformed : Option Value}
    {R_Malformed_0 : Addr}
    {C_Oversized I_Oversized : Addr} {xn_Oversized xq_Oversized : Str} {xN_Oversized : Addr} {xb_Oversized : List Value} {xsn_Oversized : List Str} {xsu_Oversized : List Value} {xa_Oversized : Bool} {xc_Oversized : Option Bool} {xd_Oversized : Option Addr} {xk0_Oversized xk1_Oversized xk2_Oversized xk3_Oversized xk5_Oversized : Option Value}
    {R_Oversized_0 : Addr}
    {C_Reader : Addr}
    {f_Reader___init__ : Addr}
    {f_Reader_ended : Addr}
    {f_Reader_where : Addr}
    {f_Reader_sees : Addr}
    {f_Reader_sees_kind : Addr}
    {f_Reader_take : Addr}
    {f_Reader_accept : Addr}
    {f_Reader_expect : Addr}
    {f_Reader_expect_kind : Addr}
    {f_Reader_expect_whole : Addr}
    (atokens : PySem.W.nsIn K mainGlobals "tokens" = some (some (.ref f_tokens)))
    (ltokens : K.lookup f_tokens = some ⟨oc_tokens, od_tokens, .func (PySem.W.fnOf "tokens" "tokens" (defArgs s_tokens) (defBody s_tokens) (defScope s_tokens) .none kV_tokens dc_tokens pm_tokens an_tokens cd_tokens ct_tokens), sl_tokens⟩)
    (ctokens : PySem.W.codeIn K cd_tokens "tokens" = true)
    (ktokens : PySem.W.keepIn K (.ref f_tokens) = true)
    (atoken_start : PySem.W.nsIn K mainGlobals "token_start" = some (some (.ref f_token_start)))
    (ltoken_start : K.lookup f_token_start = some ⟨oc_token_start, od_token_start, .func (PySem.W.fnOf "token_start" "token_start" (defArgs s_token_start) (defBody s_token_start) (defScope s_token_start) .none kV_token_start dc_token_start pm_token_start an_token_start cd_token_start ct_token_start), sl_token_start⟩)
    (ctoken_start : PySem.W.codeIn K cd_token_start "token_start" = true)
    (ktoken_start : PySem.W.keepIn K (.ref f_token_start) = true)
    (acomment_end : PySem.W.nsIn K mainGlobals "comment_end" = some (some (.ref f_comment_end)))
    (lcomment_end : K.lookup f_comment_end = some ⟨oc_comment_end, od_comment_end, .func (PySem.W.fnOf "comment_end" "comment_end" (defArgs s_comment_end) (defBody s_comment_end) (defScope s_comment_end) .none kV_comment_end dc_comment_end pm_comment_end an_comment_end cd_comment_end ct_comment_end), sl_comment_end⟩)
    (ccomment_end : PySem.W.codeIn K cd_comment_end "comment_end" = true)
    (kcomment_end : PySem.W.keepIn K (.ref f_comment_end) = true)
    (atoken_at : PySem.W.nsIn K mainGlobals "token_at" = some (some (.ref f_token_at)))
    (ltoken_at : K.lookup f_token_at = some ⟨oc_token_at, od_token_at, .func (PySem.W.fnOf "token_at" "token_at" (defArgs s_token_at) (defBody s_token_at) (defScope s_token_at) .none kV_token_at dc_token_at pm_token_at an_token_at cd_token_at ct_token_at), sl_token_at⟩)
    (ctoken_at : PySem.W.codeIn K cd_token_at "token_at" = true)
    (ktoken_at : PySem.W.keepIn K (.ref f_token_at) = true)
    (aname_at : PySem.W.nsIn K mainGlobals "name_at" = some (some (.ref f_name_at)))
    (lname_at : K.lookup f_name_at = some ⟨oc_name_at, od_name_at, .func (PySem.W.fnOf "name_at" "name_at" (defArgs s_name_at) (defBody s_name_at) (defScope s_name_at) .none kV_name_at dc_name_at pm_name_at an_name_at cd_name_at ct_name_at), sl_name_at⟩)
    (cname_at : PySem.W.codeIn K cd_name_at "name_at" = true)
    (kname_at : PySem.W.keepIn K (.ref f_name_at) = true)
    (anumber_at : PySem.W.nsIn K mainGlobals "number_at" = some (some (.ref f_number_at)))
    (lnumber_at : K.lookup f_number_at = some ⟨oc_number_at, od_number_at, .func (PySem.W.fnOf "number_at" "number_at" (defArgs s_number_at) (defBody s_number_at) (defScope s_number_at) .none kV_number_at dc_number_at pm_number_at an_number_at cd_number_at ct_number_at), sl_number_at⟩)
    (cnumber_at : PySem.W.codeIn K cd_number_at "number_at" = true)
    (knumber_at : PySem.W.keepIn K (.ref f_number_at) = true)
    (adigits_behind : PySem.W.nsIn K mainGlobals "digits_behind" = some (some (.ref f_digits_behind)))
    (ldigits_behind : K.lookup f_digits_behind = some ⟨oc_digits_behind, od_digits_behind, .func (PySem.W.fnOf "digits_behind" "digits_behind" (defArgs s_digits_behind) (defBody s_digits_behind) (defScope s_digits_behind) .none kV_digits_behind dc_digits_behind pm_digits_behind an_digits_behind cd_digits_behind ct_digits_behind), sl_digits_behind⟩)
    (cdigits_behind : PySem.W.codeIn K cd_digits_behind "digits_behind" = true)
    (kdigits_behind : PySem.W.keepIn K (.ref f_digits_behind) = true)
    (arun_end : PySem.W.nsIn K mainGlobals "run_end" = some (some (.ref f_run_end)))
    (lrun_end : K.lookup f_run_end = some ⟨oc_run_end, od_run_end, .func (PySem.W.fnOf "run_end" "run_end" (defArgs s_run_end) (defBody s_run_end) (defScope s_run_end) .none kV_run_end dc_run_end pm_run_end an_run_end cd_run_end ct_run_end), sl_run_end⟩)
    (crun_end : PySem.W.codeIn K cd_run_end "run_end" = true)
    (krun_end : PySem.W.keepIn K (.ref f_run_end) = true)
    (aparse : PySem.W.nsIn K mainGlobals "parse" = some (some (.ref f_parse)))
    (lparse : K.lookup f_parse = some ⟨oc_parse, od_parse, .func (PySem.W.fnOf "parse" "parse" (defArgs s_parse) (defBody s_parse) (defScope s_parse) .none kV_parse dc_parse pm_parse an_parse cd_parse ct_parse), sl_parse⟩)
    (cparse : PySem.W.codeIn K cd_parse "parse" = true)
    (kparse : PySem.W.keepIn K (.ref f_parse) = true)
    (aread_line : PySem.W.nsIn K mainGlobals "read_line" = some (some (.ref f_read_line)))
    (lread_line : K.lookup f_read_line = some ⟨oc_read_line, od_read_line, .func (PySem.W.fnOf "read_line" "read_line" (defArgs s_read_line) (defBody s_read_line) (defScope s_read_line) .none kV_read_line dc_read_line pm_read_line an_read_line cd_read_line ct_read_line), sl_read_line⟩)
    (cread_line : PySem.W.codeIn K cd_read_line "read_line" = true)
    (kread_line : PySem.W.keepIn K (.ref f_read_line) = true)
    (aread_unit : PySem.W.nsIn K mainGlobals "read_unit" = some (some (.ref f_read_unit)))
    (lread_unit : K.lookup f_read_unit = some ⟨oc_read_unit, od_read_unit, .func (PySem.W.fnOf "read_unit" "read_unit" (defArgs s_read_unit) (defBody s_read_unit) (defScope s_read_unit) .none kV_read_unit dc_read_unit pm_read_unit an_read_unit cd_read_unit ct_read_unit), sl_read_unit⟩)
    (cread_unit : PySem.W.codeIn K cd_read_unit "read_unit" = true)
    (kread_unit : PySem.W.keepIn K (.ref f_read_unit) = true)
    (aread_function : PySem.W.nsIn K mainGlobals "read_function" = some (some (.ref f_read_function)))
    (lread_function : K.lookup f_read_function = some ⟨oc_read_function, od_read_function, .func (PySem.W.fnOf "read_function" "read_function" (defArgs s_read_function) (defBody s_read_function) (defScope s_read_function) .none kV_read_function dc_read_function pm_read_function an_read_function cd_read_function ct_read_function), sl_read_function⟩)
    (cread_function : PySem.W.codeIn K cd_read_function "read_function" = true)
    (kread_function : PySem.W.keepIn K (.ref f_read_function) = true)
    (aread_parameters : PySem.W.nsIn K mainGlobals "read_parameters" = some (some (.ref f_read_parameters)))
    (lread_parameters : K.lookup f_read_parameters = some ⟨oc_read_parameters, od_read_parameters, .func (PySem.W.fnOf "read_parameters" "read_parameters" (defArgs s_read_parameters) (defBody s_read_parameters) (defScope s_read_parameters) .none kV_read_parameters dc_read_parameters pm_read_parameters an_read_parameters cd_read_parameters ct_read_parameters), sl_read_parameters⟩)
    (cread_parameters : PySem.W.codeIn K cd_read_parameters "read_parameters" = true)
    (kread_parameters : PySem.W.keepIn K (.ref f_read_parameters) = true)
    (aread_parameter : PySem.W.nsIn K mainGlobals "read_parameter" = some (some (.ref f_read_parameter)))
    (lread_parameter : K.lookup f_read_parameter = some ⟨oc_read_parameter, od_read_parameter, .func (PySem.W.fnOf "read_parameter" "read_parameter" (defArgs s_read_parameter) (defBody s_read_parameter) (defScope s_read_parameter) .none kV_read_parameter dc_read_parameter pm_read_parameter an_read_parameter cd_read_parameter ct_read_parameter), sl_read_parameter⟩)
    (cread_parameter : PySem.W.codeIn K cd_read_parameter "read_parameter" = true)
    (kread_parameter : PySem.W.keepIn K (.ref f_read_parameter) = true)
    (aread_told : PySem.W.nsIn K mainGlobals "read_told" = some (some (.ref f_read_told)))
    (lread_told : K.lookup f_read_told = some ⟨oc_read_told, od_read_told, .func (PySem.W.fnOf "read_told" "read_told" (defArgs s_read_told) (defBody s_read_told) (defScope s_read_told) .none kV_read_told dc_read_told pm_read_told an_read_told cd_read_told ct_read_told), sl_read_told⟩)
    (cread_told : PySem.W.codeIn K cd_read_told "read_told" = true)
    (kread_told : PySem.W.keepIn K (.ref f_read_told) = true)
    (aread_show : PySem.W.nsIn K mainGlobals "read_show" = some (some (.ref f_read_show)))
    (lread_show : K.lookup f_read_show = some ⟨oc_read_show, od_read_show, .func (PySem.W.fnOf "read_show" "read_show" (defArgs s_read_show) (defBody s_read_show) (defScope s_read_show) .none kV_read_show dc_read_show pm_read_show an_read_show cd_read_show ct_read_show), sl_read_show⟩)
    (cread_show : PySem.W.codeIn K cd_read_show "read_show" = true)
    (kread_show : PySem.W.keepIn K (.ref f_read_show) = true)
    (aread_product : PySem.W.nsIn K mainGlobals "read_product" = some (some (.ref f_read_product)))
    (lread_product : K.lookup f_read_product = some ⟨oc_read_product, od_read_product, .func (PySem.W.fnOf "read_product" "read_product" (defArgs s_read_product) (defBody s_read_product) (defScope s_read_product) .none kV_read_product dc_read_product pm_read_product an_read_product cd_read_product ct_read_product), sl_read_product⟩)
    (cread_product : PySem.W.codeIn K cd_read_product "read_product" = true)
    (kread_product : PySem.W.keepIn K (.ref f_read_product) = true)
    (aread_power : PySem.W.nsIn K mainGlobals "read_power" = some (some (.ref f_read_power)))
    (lread_power : K.lookup f_read_power = some ⟨oc_read_power, od_read_power, .func (PySem.W.fnOf "read_power" "read_power" (defArgs s_read_power) (defBody s_read_power) (defScope s_read_power) .none kV_read_power dc_read_power pm_read_power an_read_power cd_read_power ct_read_power), sl_read_power⟩)
    (cread_power : PySem.W.codeIn K cd_read_power "read_power" = true)
    (kread_power : PySem.W.keepIn K (.ref f_read_power) = true)
    (adeeper : PySem.W.nsIn K mainGlobals "deeper" = some (some (.ref f_deeper)))
    (ldeeper : K.lookup f_deeper = some ⟨oc_deeper, od_deeper, .func (PySem.W.fnOf "deeper" "deeper" (defArgs s_deeper) (defBody s_deeper) (defScope s_deeper) .none kV_deeper dc_deeper pm_deeper an_deeper cd_deeper ct_deeper), sl_deeper⟩)
    (cdeeper : PySem.W.codeIn K cd_deeper "deeper" = true)
    (kdeeper : PySem.W.keepIn K (.ref f_deeper) = true)
    (aread_expression : PySem.W.nsIn K mainGlobals "read_expression" = some (some (.ref f_read_expression)))
    (lread_expression : K.lookup f_read_expression = some ⟨oc_read_expression, od_read_expression, .func (PySem.W.fnOf "read_expression" "read_expression" (defArgs s_read_expression) (defBody s_read_expression) (defScope s_read_expression) .none kV_read_expression dc_read_expression pm_read_expression an_read_expression cd_read_expression ct_read_expression), sl_read_expression⟩)
    (cread_expression : PySem.W.codeIn K cd_read_expression "read_expression" = true)
    (kread_expression : PySem.W.keepIn K (.ref f_read_expression) = true)
    (aread_if : PySem.W.nsIn K mainGlobals "read_if" = some (some (.ref f_read_if)))
    (lread_if : K.lookup f_read_if = some ⟨oc_read_if, od_read_if, .func (PySem.W.fnOf "read_if" "read_if" (defArgs s_read_if) (defBody s_read_if) (defScope s_read_if) .none kV_read_if dc_read_if pm_read_if an_read_if cd_read_if ct_read_if), sl_read_if⟩)
    (cread_if : PySem.W.codeIn K cd_read_if "read_if" = true)
    (kread_if : PySem.W.keepIn K (.ref f_read_if) = true)
    (aread_let : PySem.W.nsIn K mainGlobals "read_let" = some (some (.ref f_read_let)))
    (lread_let : K.lookup f_read_let = some ⟨oc_read_let, od_read_let, .func (PySem.W.fnOf "read_let" "read_let" (defArgs s_read_let) (defBody s_read_let) (defScope s_read_let) .none kV_read_let dc_read_let pm_read_let an_read_let cd_read_let ct_read_let), sl_read_let⟩)
    (cread_let : PySem.W.codeIn K cd_read_let "read_let" = true)
    (kread_let : PySem.W.keepIn K (.ref f_read_let) = true)
    (aread_chain : PySem.W.nsIn K mainGlobals "read_chain" = some (some (.ref f_read_chain)))
    (lread_chain : K.lookup f_read_chain = some ⟨oc_read_chain, od_read_chain, .func (PySem.W.fnOf "read_chain" "read_chain" (defArgs s_read_chain) (defBody s_read_chain) (defScope s_read_chain) .none kV_read_chain dc_read_chain pm_read_chain an_read_chain cd_read_chain ct_read_chain), sl_read_chain⟩)
    (cread_chain : PySem.W.codeIn K cd_read_chain "read_chain" = true)
    (kread_chain : PySem.W.keepIn K (.ref f_read_chain) = true)
    (aread_both : PySem.W.nsIn K mainGlobals "read_both" = some (some (.ref f_read_both)))
    (lread_both : K.lookup f_read_both = some ⟨oc_read_both, od_read_both, .func (PySem.W.fnOf "read_both" "read_both" (defArgs s_read_both) (defBody s_read_both) (defScope s_read_both) .none kV_read_both dc_read_both pm_read_both an_read_both cd_read_both ct_read_both), sl_read_both⟩)
    (cread_both : PySem.W.codeIn K cd_read_both "read_both" = true)
    (kread_both : PySem.W.keepIn K (.ref f_read_both) = true)
    (aread_plain : PySem.W.nsIn K mainGlobals "read_plain" = some (some (.ref f_read_plain)))
    (lread_plain : K.lookup f_read_plain = some ⟨oc_read_plain, od_read_plain, .func (PySem.W.fnOf "read_plain" "read_plain" (defArgs s_read_plain) (defBody s_read_plain) (defScope s_read_plain) .none kV_read_plain dc_read_plain pm_read_plain an_read_plain cd_read_plain ct_read_plain), sl_read_plain⟩)
    (cread_plain : PySem.W.codeIn K cd_read_plain "read_plain" = true)
    (kread_plain : PySem.W.keepIn K (.ref f_read_plain) = true)
    (aread_terms : PySem.W.nsIn K mainGlobals "read_terms" = some (some (.ref f_read_terms)))
    (lread_terms : K.lookup f_read_terms = some ⟨oc_read_terms, od_read_terms, .func (PySem.W.fnOf "read_terms" "read_terms" (defArgs s_read_terms) (defBody s_read_terms) (defScope s_read_terms) .none kV_read_terms dc_read_terms pm_read_terms an_read_terms cd_read_terms ct_read_terms), sl_read_terms⟩)
    (cread_terms : PySem.W.codeIn K cd_read_terms "read_terms" = true)
    (kread_terms : PySem.W.keepIn K (.ref f_read_terms) = true)
    (aread_factors : PySem.W.nsIn K mainGlobals "read_factors" = some (some (.ref f_read_factors)))
    (lread_factors : K.lookup f_read_factors = some ⟨oc_read_factors, od_read_factors, .func (PySem.W.fnOf "read_factors" "read_factors" (defArgs s_read_factors) (defBody s_read_factors) (defScope s_read_factors) .none kV_read_factors dc_read_factors pm_read_factors an_read_factors cd_read_factors ct_read_factors), sl_read_factors⟩)
    (cread_factors : PySem.W.codeIn K cd_read_factors "read_factors" = true)
    (kread_factors : PySem.W.keepIn K (.ref f_read_factors) = true)
    (aread_powers : PySem.W.nsIn K mainGlobals "read_powers" = some (some (.ref f_read_powers)))
    (lread_powers : K.lookup f_read_powers = some ⟨oc_read_powers, od_read_powers, .func (PySem.W.fnOf "read_powers" "read_powers" (defArgs s_read_powers) (defBody s_read_powers) (defScope s_read_powers) .none kV_read_powers dc_read_powers pm_read_powers an_read_powers cd_read_powers ct_read_powers), sl_read_powers⟩)
    (cread_powers : PySem.W.codeIn K cd_read_powers "read_powers" = true)
    (kread_powers : PySem.W.keepIn K (.ref f_read_powers) = true)
    (aread_primary : PySem.W.nsIn K mainGlobals "read_primary" = some (some (.ref f_read_primary)))
    (lread_primary : K.lookup f_read_primary = some ⟨oc_read_primary, od_read_primary, .func (PySem.W.fnOf "read_primary" "read_primary" (defArgs s_read_primary) (defBody s_read_primary) (defScope s_read_primary) .none kV_read_primary dc_read_primary pm_read_primary an_read_primary cd_read_primary ct_read_primary), sl_read_primary⟩)
    (cread_primary : PySem.W.codeIn K cd_read_primary "read_primary" = true)
    (kread_primary : PySem.W.keepIn K (.ref f_read_primary) = true)
    (aread_number : PySem.W.nsIn K mainGlobals "read_number" = some (some (.ref f_read_number)))
    (lread_number : K.lookup f_read_number = some ⟨oc_read_number, od_read_number, .func (PySem.W.fnOf "read_number" "read_number" (defArgs s_read_number) (defBody s_read_number) (defScope s_read_number) .none kV_read_number dc_read_number pm_read_number an_read_number cd_read_number ct_read_number), sl_read_number⟩)
    (cread_number : PySem.W.codeIn K cd_read_number "read_number" = true)
    (kread_number : PySem.W.keepIn K (.ref f_read_number) = true)
    (aread_iterate : PySem.W.nsIn K mainGlobals "read_iterate" = some (some (.ref f_read_iterate)))
    (lread_iterate : K.lookup f_read_iterate = some ⟨oc_read_iterate, od_read_iterate, .func (PySem.W.fnOf "read_iterate" "read_iterate" (defArgs s_read_iterate) (defBody s_read_iterate) (defScope s_read_iterate) .none kV_read_iterate dc_read_iterate pm_read_iterate an_read_iterate cd_read_iterate ct_read_iterate), sl_read_iterate⟩)
    (cread_iterate : PySem.W.codeIn K cd_read_iterate "read_iterate" = true)
    (kread_iterate : PySem.W.keepIn K (.ref f_read_iterate) = true)
    (aread_arguments : PySem.W.nsIn K mainGlobals "read_arguments" = some (some (.ref f_read_arguments)))
    (lread_arguments : K.lookup f_read_arguments = some ⟨oc_read_arguments, od_read_arguments, .func (PySem.W.fnOf "read_arguments" "read_arguments" (defArgs s_read_arguments) (defBody s_read_arguments) (defScope s_read_arguments) .none kV_read_arguments dc_read_arguments pm_read_arguments an_read_arguments cd_read_arguments ct_read_arguments), sl_read_arguments⟩)
    (cread_arguments : PySem.W.codeIn K cd_read_arguments "read_arguments" = true)
    (kread_arguments : PySem.W.keepIn K (.ref f_read_arguments) = true)
    (alaw_cell : PySem.W.nsIn K mainGlobals "_law_cell" = some (some (.ref f_law_cell)))
    (llaw_cell : K.lookup f_law_cell = some ⟨oc_law_cell, od_law_cell, .func (PySem.W.fnOf "_law_cell" "_law_cell" (defArgs s_law_cell) (defBody s_law_cell) (defScope s_law_cell) .none kV_law_cell dc_law_cell pm_law_cell an_law_cell cd_law_cell ct_law_cell), sl_law_cell⟩)
    (claw_cell : PySem.W.codeIn K cd_law_cell "_law_cell" = true)
    (klaw_cell : PySem.W.keepIn K (.ref f_law_cell) = true)
    (alaw_numbers : PySem.W.nsIn K mainGlobals "_law_numbers" = some (some (.ref f_law_numbers)))
    (llaw_numbers : K.lookup f_law_numbers = some ⟨oc_law_numbers, od_law_numbers, .func (PySem.W.fnOf "_law_numbers" "_law_numbers" (defArgs s_law_numbers) (defBody s_law_numbers) (defScope s_law_numbers) .none kV_law_numbers dc_law_numbers pm_law_numbers an_law_numbers cd_law_numbers ct_law_numbers), sl_law_numbers⟩)
    (claw_numbers : PySem.W.codeIn K cd_law_numbers "_law_numbers" = true)
    (klaw_numbers : PySem.W.keepIn K (.ref f_law_numbers) = true)
    (alaw_feed : PySem.W.nsIn K mainGlobals "_law_feed" = some (some (.ref f_law_feed)))
    (llaw_feed : K.lookup f_law_feed = some ⟨oc_law_feed, od_law_feed, .func (PySem.W.fnOf "_law_feed" "_law_feed" (defArgs s_law_feed) (defBody s_law_feed) (defScope s_law_feed) .none kV_law_feed dc_law_feed pm_law_feed an_law_feed cd_law_feed ct_law_feed), sl_law_feed⟩)
    (claw_feed : PySem.W.codeIn K cd_law_feed "_law_feed" = true)
    (klaw_feed : PySem.W.keepIn K (.ref f_law_feed) = true)
    (alaw_take : PySem.W.nsIn K mainGlobals "_law_take" = some (some (.ref f_law_take)))
    (llaw_take : K.lookup f_law_take = some ⟨oc_law_take, od_law_take, .func (PySem.W.fnOf "_law_take" "_law_take" (defArgs s_law_take) (defBody s_law_take) (defScope s_law_take) .none kV_law_take dc_law_take pm_law_take an_law_take cd_law_take ct_law_take), sl_law_take⟩)
    (claw_take : PySem.W.codeIn K cd_law_take "_law_take" = true)
    (klaw_take : PySem.W.keepIn K (.ref f_law_take) = true)
    (alaw_drawn : PySem.W.nsIn K mainGlobals "_law_drawn" = some (some (.ref f_law_drawn)))
    (llaw_drawn : K.lookup f_law_drawn = some ⟨oc_law_drawn, od_law_drawn, .func (PySem.W.fnOf "_law_drawn" "_law_drawn" (defArgs s_law_drawn) (defBody s_law_drawn) (defScope s_law_drawn) .none kV_law_drawn dc_law_drawn pm_law_drawn an_law_drawn cd_law_drawn ct_law_drawn), sl_law_drawn⟩)
    (claw_drawn : PySem.W.codeIn K cd_law_drawn "_law_drawn" = true)
    (klaw_drawn : PySem.W.keepIn K (.ref f_law_drawn) = true)
    (alaw_brackets : PySem.W.nsIn K mainGlobals "_law_brackets" = some (some (.ref f_law_brackets)))
    (llaw_brackets : K.lookup f_law_brackets = some ⟨oc_law_brackets, od_law_brackets, .func (PySem.W.fnOf "_law_brackets" "_law_brackets" (defArgs s_law_brackets) (defBody s_law_brackets) (defScope s_law_brackets) .none kV_law_brackets dc_law_brackets pm_law_brackets an_law_brackets cd_law_brackets ct_law_brackets), sl_law_brackets⟩)
    (claw_brackets : PySem.W.codeIn K cd_law_brackets "_law_brackets" = true)
    (klaw_brackets : PySem.W.keepIn K (.ref f_law_brackets) = true)
    (alaw_line : PySem.W.nsIn K mainGlobals "_law_line" = some (some (.ref f_law_line)))
    (llaw_line : K.lookup f_law_line = some ⟨oc_law_line, od_law_line, .func (PySem.W.fnOf "_law_line" "_law_line" (defArgs s_law_line) (defBody s_law_line) (defScope s_law_line) .none kV_law_line dc_law_line pm_law_line an_law_line cd_law_line ct_law_line), sl_law_line⟩)
    (claw_line : PySem.W.codeIn K cd_law_line "_law_line" = true)
    (klaw_line : PySem.W.keepIn K (.ref f_law_line) = true)
    (alaw_number : PySem.W.nsIn K mainGlobals "_law_number" = some (some (.ref f_law_number)))
    (llaw_number : K.lookup f_law_number = some ⟨oc_law_number, od_law_number, .func (PySem.W.fnOf "_law_number" "_law_number" (defArgs s_law_number) (defBody s_law_number) (defScope s_law_number) .none kV_law_number dc_law_number pm_law_number an_law_number cd_law_number ct_law_number), sl_law_number⟩)
    (claw_number : PySem.W.codeIn K cd_law_number "_law_number" = true)
    (klaw_number : PySem.W.keepIn K (.ref f_law_number) = true)
    (alaw_units : PySem.W.nsIn K mainGlobals "_law_units" = some (some (.ref f_law_units)))
    (llaw_units : K.lookup f_law_units = some ⟨oc_law_units, od_law_units, .func (PySem.W.fnOf "_law_units" "_law_units" (defArgs s_law_units) (defBody s_law_units) (defScope s_law_units) .none kV_law_units dc_law_units pm_law_units an_law_units cd_law_units ct_law_units), sl_law_units⟩)
    (claw_units : PySem.W.codeIn K cd_law_units "_law_units" = true)
    (klaw_units : PySem.W.keepIn K (.ref f_law_units) = true)
    (alaw_text : PySem.W.nsIn K mainGlobals "_law_text" = some (some (.ref f_law_text)))
    (llaw_text : K.lookup f_law_text = some ⟨oc_law_text, od_law_text, .func (PySem.W.fnOf "_law_text" "_law_text" (defArgs s_law_text) (defBody s_law_text) (defScope s_law_text) .none kV_law_text dc_law_text pm_law_text an_law_text cd_law_text ct_law_text), sl_law_text⟩)
    (claw_text : PySem.W.codeIn K cd_law_text "_law_text" = true)
    (klaw_text : PySem.W.keepIn K (.ref f_law_text) = true)
    (alaw_shown : PySem.W.nsIn K mainGlobals "_law_shown" = some (some (.ref f_law_shown)))
    (llaw_shown : K.lookup f_law_shown = some ⟨oc_law_shown, od_law_shown, .func (PySem.W.fnOf "_law_shown" "_law_shown" (defArgs s_law_shown) (defBody s_law_shown) (defScope s_law_shown) .none kV_law_shown dc_law_shown pm_law_shown an_law_shown cd_law_shown ct_law_shown), sl_law_shown⟩)
    (claw_shown : PySem.W.codeIn K cd_law_shown "_law_shown" = true)
    (klaw_shown : PySem.W.keepIn K (.ref f_law_shown) = true)
    (alaw_bare : PySem.W.nsIn K mainGlobals "_law_bare" = some (some (.ref f_law_bare)))
    (llaw_bare : K.lookup f_law_bare = some ⟨oc_law_bare, od_law_bare, .func (PySem.W.fnOf "_law_bare" "_law_bare" (defArgs s_law_bare) (defBody s_law_bare) (defScope s_law_bare) .none kV_law_bare dc_law_bare pm_law_bare an_law_bare cd_law_bare ct_law_bare), sl_law_bare⟩)
    (claw_bare : PySem.W.codeIn K cd_law_bare "_law_bare" = true)
    (klaw_bare : PySem.W.keepIn K (.ref f_law_bare) = true)
    (alaw_marks : PySem.W.nsIn K mainGlobals "_law_marks" = some (some (.ref f_law_marks)))
    (llaw_marks : K.lookup f_law_marks = some ⟨oc_law_marks, od_law_marks, .func (PySem.W.fnOf "_law_marks" "_law_marks" (defArgs s_law_marks) (defBody s_law_marks) (defScope s_law_marks) .none kV_law_marks dc_law_marks pm_law_marks an_law_marks cd_law_marks ct_law_marks), sl_law_marks⟩)
    (claw_marks : PySem.W.codeIn K cd_law_marks "_law_marks" = true)
    (klaw_marks : PySem.W.keepIn K (.ref f_law_marks) = true)
    (alaw_read : PySem.W.nsIn K mainGlobals "_law_read" = some (some (.ref f_law_read)))
    (llaw_read : K.lookup f_law_read = some ⟨oc_law_read, od_law_read, .func (PySem.W.fnOf "_law_read" "_law_read" (defArgs s_law_read) (defBody s_law_read) (defScope s_law_read) .none kV_law_read dc_law_read pm_law_read an_law_read cd_law_read ct_law_read), sl_law_read⟩)
    (claw_read : PySem.W.codeIn K cd_law_read "_law_read" = true)
    (klaw_read : PySem.W.keepIn K (.ref f_law_read) = true)
    (alaw : PySem.W.nsIn K mainGlobals "law" = some (some (.ref f_law)))
    (llaw : K.lookup f_law = some ⟨oc_law, od_law, .func (PySem.W.fnOf "law" "law" (defArgs s_law) (defBody s_law) (defScope s_law) .none kV_law dc_law pm_law an_law cd_law ct_law), sl_law⟩)
    (claw : PySem.W.codeIn K cd_law "law" = true)
    (klaw : PySem.W.keepIn K (.ref f_law) = true)
    (zabs : PySem.W.nsIn K mainGlobals "abs" = some none)
    (zbool : PySem.W.nsIn K mainGlobals "bool" = some none)
    (zint : PySem.W.nsIn K mainGlobals "int" = some none)
    (zisinstance : PySem.W.nsIn K mainGlobals "isinstance" = some none)
    (zlen : PySem.W.nsIn K mainGlobals "len" = some none)
    (zmax : PySem.W.nsIn K mainGlobals "max" = some none)
    (zrange : PySem.W.nsIn K mainGlobals "range" = some none)
    (zrepr : PySem.W.nsIn K mainGlobals "repr" = some none)
    (zstr : PySem.W.nsIn K mainGlobals "str" = some none)
    (ztuple : PySem.W.nsIn K mainGlobals "tuple" = some none)
    (gRESERVED : PySem.W.nsIn K mainGlobals "RESERVED" = some (some (.ref t_RESERVED)))
    (lRESERVED : K.lookup t_RESERVED = some ⟨.type "tuple", td_RESERVED, .seq #[.str "and" k_RESERVED_0, .str "base" k_RESERVED_1, .str "else" k_RESERVED_2, .str "false" k_RESERVED_3, .str "from" k_RESERVED_4, .str "fun" k_RESERVED_5, .str "if" k_RESERVED_6, .str "in" k_RESERVED_7, .str "iterate" k_RESERVED_8, .str "let" k_RESERVED_9, .str "not" k_RESERVED_10, .str "or" k_RESERVED_11, .str "show" k_RESERVED_12, .str "then" k_RESERVED_13, .str "true" k_RESERVED_14, .str "unit" k_RESERVED_15] tn_RESERVED, ts_RESERVED⟩)
    (gLONGEST_TEXT : PySem.W.nsIn K mainGlobals "LONGEST_TEXT" = some (some (.int 12000 k_LONGEST_TEXT)))
    (gLONGEST_NAME : PySem.W.nsIn K mainGlobals "LONGEST_NAME" = some (some (.int 16 k_LONGEST_NAME)))
    (gMOST_DIGITS : PySem.W.nsIn K mainGlobals "MOST_DIGITS" = some (some (.int 6 k_MOST_DIGITS)))
    (gSEPARATORS : PySem.W.nsIn K mainGlobals "SEPARATORS" = some (some (.str " \t\n" k_SEPARATORS)))
    (gLETTERS : PySem.W.nsIn K mainGlobals "LETTERS" = some (some (.str "abcdefghijklmnopqrstuvwxyzABCDEFGHIJKLMNOPQRSTUVWXYZ" k_LETTERS)))
    (gDIGITS : PySem.W.nsIn K mainGlobals "DIGITS" = some (some (.str "0123456789" k_DIGITS)))
    (gNAMING : PySem.W.nsIn K mainGlobals "NAMING" = some (some (.str "abcdefghijklmnopqrstuvwxyzABCDEFGHIJKLMNOPQRSTUVWXYZ0123456789_" k_NAMING)))
    (gSIGNS : PySem.W.nsIn K mainGlobals "SIGNS" = some (some (.ref t_SIGNS)))
    (lSIGNS : K.lookup t_SIGNS = some ⟨.type "tuple", td_SIGNS, .seq #[.str "<=" k_SIGNS_0, .str "==" k_SIGNS_1, .str "=" k_SIGNS_2, .str "<" k_SIGNS_3, .str "+" k_SIGNS_4, .str "-" k_SIGNS_5, .str "*" k_SIGNS_6, .str "/" k_SIGNS_7, .str "^" k_SIGNS_8, .str "," k_SIGNS_9, .str ";" k_SIGNS_10, .str ":" k_SIGNS_11, .str "(" k_SIGNS_12, .str ")" k_SIGNS_13, .str "[" k_SIGNS_14, .str "]" k_SIGNS_15] tn_SIGNS, ts_SIGNS⟩)
    (gBOTTOMS : PySem.W.nsIn K mainGlobals "BOTTOMS" = some (some (.ref t_BOTTOMS)))
    (lBOTTOMS : K.lookup t_BOTTOMS = some ⟨.type "tuple", td_BOTTOMS, .seq #[.int 1 k_BOTTOMS_0, .int 10 k_BOTTOMS_1, .int 100 k_BOTTOMS_2, .int 1000 k_BOTTOMS_3, .int 10000 k_BOTTOMS_4] tn_BOTTOMS, ts_BOTTOMS⟩)
    (gDEEPEST : PySem.W.nsIn K mainGlobals "DEEPEST" = some (some (.int 24 k_DEEPEST)))
    (gGREATEST_POWER : PySem.W.nsIn K mainGlobals "GREATEST_POWER" = some (some (.int 9 k_GREATEST_POWER)))
    (gGREATEST_COUNT : PySem.W.nsIn K mainGlobals "GREATEST_COUNT" = some (some (.int 20 k_GREATEST_COUNT)))
    (gCOMPARISONS : PySem.W.nsIn K mainGlobals "COMPARISONS" = some (some (.ref t_COMPARISONS)))
    (lCOMPARISONS : K.lookup t_COMPARISONS = some ⟨.type "tuple", td_COMPARISONS, .seq #[.str "<" k_COMPARISONS_0, .str "<=" k_COMPARISONS_1, .str "==" k_COMPARISONS_2] tn_COMPARISONS, ts_COMPARISONS⟩)
    (gOPERATIONS : PySem.W.nsIn K mainGlobals "OPERATIONS" = some (some (.ref t_OPERATIONS)))
    (lOPERATIONS : K.lookup t_OPERATIONS = some ⟨.type "dict", none, .dict te_OPERATIONS tn_OPERATIONS, #[]⟩)
    (kOPERATIONS : PySem.W.KeysLit w.params te_OPERATIONS.toList)
    (iOPERATIONS_0 : PySem.W.nsIn K t_OPERATIONS "or" = some (some (.str "or" k_OPERATIONS_0)))
    (iOPERATIONS_1 : PySem.W.nsIn K t_OPERATIONS "and" = some (some (.str "and" k_OPERATIONS_1)))
    (iOPERATIONS_2 : PySem.W.nsIn K t_OPERATIONS "<" = some (some (.str "lt" k_OPERATIONS_2)))
    (iOPERATIONS_3 : PySem.W.nsIn K t_OPERATIONS "<=" = some (some (.str "le" k_OPERATIONS_3)))
    (iOPERATIONS_4 : PySem.W.nsIn K t_OPERATIONS "==" = some (some (.str "eq" k_OPERATIONS_4)))
    (iOPERATIONS_5 : PySem.W.nsIn K t_OPERATIONS "+" = some (some (.str "add" k_OPERATIONS_5)))
    (iOPERATIONS_6 : PySem.W.nsIn K t_OPERATIONS "-" = some (some (.str "sub" k_OPERATIONS_6)))
    (iOPERATIONS_7 : PySem.W.nsIn K t_OPERATIONS "*" = some (some (.str "mul" k_OPERATIONS_7)))
    (iOPERATIONS_8 : PySem.W.nsIn K t_OPERATIONS "/" = some (some (.str "div" k_OPERATIONS_8)))
    (gMalformed : PySem.W.nsIn K mainGlobals "Malformed" = some (some (.ref C_Malformed)))
    (xMalformed : K.lookup C_Malformed = some (excClassObj xn_Malformed xq_Malformed C_Malformed xN_Malformed xb_Malformed [.ref R_Malformed_0, .type "ValueError", .type "Exception", .type "BaseException", .type "object"] true xsn_Malformed xsu_Malformed xa_Malformed xc_Malformed xd_Malformed xk0_Malformed xk1_Malformed xk2_Malformed xk3_Malformed xk5_Malformed "ValueError.__new__"))
    (saMalformed : PySem.W.findIn K (.ref C_Malformed) "__setattr__" = some (some (.builtin "object.__setattr__")))
    (gaMalformed : PySem.W.findIn K (.ref C_Malformed) "__getattribute__" = some (some (.builtin "BaseException.__getattribute__")))
    (ggMalformed : PySem.W.findIn K (.ref C_Malformed) "__getattr__" = some none)
    (noMalformed : PySem.W.findIn K (.ref C_Malformed) "at" = some none)
    (inMalformed : PySem.W.findIn K (.ref C_Malformed) "__init__" = some (some (.ref I_Malformed)))
    (tiMalformed : PySem.W.typeIn K (.ref I_Malformed) = some (.type "function"))
    (kcMalformed : PySem.W.keepIn K (.ref C_Malformed) = true)
    (exMalformed : PySem.W.subIn K (.ref C_Malformed) (.type "BaseException") = some true)
    (tyMalformed : PySem.W.typeIn K (.ref C_Malformed) = some (.type "type"))
    (hdMalformed : PySem.W.hasDictIn K C_Malformed = true)
    (icMalformed : PySem.W.isClsIn K C_Malformed = true)
    (suMalformed : PySem.W.subIn K (.ref C_Malformed) (.ref C_Malformed) = some true)
    (liMalformed : K.lookup I_Malformed = some ⟨oc_Malformed___init__, od_Malformed___init__, .func (PySem.W.fnOf "__init__" "Malformed.__init__" (defArgs s_Malformed___init__) (defBody s_Malformed___init__) (defScope s_Malformed___init__) .none kV_Malformed___init__ dc_Malformed___init__ pm_Malformed___init__ an_Malformed___init__ cd_Malformed___init__ ct_Malformed___init__), sl_Malformed___init__⟩)
    (ciMalformed : PySem.W.codeIn K cd_Malformed___init__ "Malformed.__init__" = true)
    (kiMalformed : PySem.W.keepIn K (.ref I_Malformed) = true)
    (gOversized : PySem.W.nsIn K mainGlobals "Oversized" = some (some (.ref C_Oversized)))
    (xOversized : K.lookup C_Oversized = some (excClassObj xn_Oversized xq_Oversized C_Oversized xN_Oversized xb_Oversized [.ref R_Oversized_0, .type "ValueError", .type "Exception", .type "BaseException", .type "object"] true xsn_Oversized xsu_Oversized xa_Oversized xc_Oversized xd_Oversized xk0_Oversized xk1_Oversized xk2_Oversized xk3_Oversized xk5_Oversized "ValueError.__new__"))
    (saOversized : PySem.W.findIn K (.ref C_Oversized) "__setattr__" = some (some (.builtin "object.__setattr__")))
    (gaOversized : PySem.W.findIn K (.ref C_Oversized) "__getattribute__" = some (some (.builtin "BaseException.__getattribute__")))
    (ggOversized : PySem.W.findIn K (.ref C_Oversized) "__getattr__" = some none)
    (noOversized : PySem.W.findIn K (.ref C_Oversized) "limit" = some none)
    (inOversized : PySem.W.findIn K (.ref C_Oversized) "__init__" = some (some (.ref I_Oversized)))
    (tiOversized : PySem.W.typeIn K (.ref I_Oversized) = some (.type "function"))
    (kcOversized : PySem.W.keepIn K (.ref C_Oversized) = true)
    (exOversized : PySem.W.subIn K (.ref C_Oversized) (.type "BaseException") = some true)
    (tyOversized : PySem.W.typeIn K (.ref C_Oversized) = some (.type "type"))
    (hdOversized : PySem.W.hasDictIn K C_Oversized = true)
    (icOversized : PySem.W.isClsIn K C_Oversized = true)
    (suOversized : PySem.W.subIn K (.ref C_Oversized) (.ref C_Oversized) = some true)
    (liOversized : K.lookup I_Oversized = some ⟨oc_Oversized___init__, od_Oversized___init__, .func (PySem.W.fnOf "__init__" "Oversized.__init__" (defArgs s_Oversized___init__) (defBody s_Oversized___init__) (defScope s_Oversized___init__) .none kV_Oversized___init__ dc_Oversized___init__ pm_Oversized___init__ an_Oversized___init__ cd_Oversized___init__ ct_Oversized___init__), sl_Oversized___init__⟩)
    (ciOversized : PySem.W.codeIn K cd_Oversized___init__ "Oversized.__init__" = true)
    (kiOversized : PySem.W.keepIn K (.ref I_Oversized) = true)
    (gReader : PySem.W.nsIn K mainGlobals "Reader" = some (some (.ref C_Reader)))
    (pgReader : PySem.W.plainGet K C_Reader Str.empty = true)
    (hdReader : PySem.W.hasDictIn K C_Reader = true)
    (poReader : PySem.W.plainOver K C_Reader = true)
    (saReader : PySem.W.findIn K (.ref C_Reader) "__setattr__" = some (some (.builtin "object.__setattr__")))
    (mkReader : PySem.W.makesIn K C_Reader = true)
    (kcReader : PySem.W.keepIn K (.ref C_Reader) = true)
    (aReader___init__ : PySem.W.findIn K (.ref C_Reader) "__init__" = some (some (.ref f_Reader___init__)))
    (iReader___init__ : PySem.W.isFn K (.ref f_Reader___init__) = true)
    (lReader___init__ : K.lookup f_Reader___init__ = some ⟨oc_Reader___init__, od_Reader___init__, .func (PySem.W.fnOf "__init__" "Reader.__init__" (defArgs s_Reader___init__) (defBody s_Reader___init__) (defScope s_Reader___init__) .none kV_Reader___init__ dc_Reader___init__ pm_Reader___init__ an_Reader___init__ cd_Reader___init__ ct_Reader___init__), sl_Reader___init__⟩)
    (cReader___init__ : PySem.W.codeIn K cd_Reader___init__ "Reader.__init__" = true)
    (kReader___init__ : PySem.W.keepIn K (.ref f_Reader___init__) = true)
    (aReader_ended : PySem.W.findIn K (.ref C_Reader) "ended" = some (some (.ref f_Reader_ended)))
    (iReader_ended : PySem.W.isFn K (.ref f_Reader_ended) = true)
    (lReader_ended : K.lookup f_Reader_ended = some ⟨oc_Reader_ended, od_Reader_ended, .func (PySem.W.fnOf "ended" "Reader.ended" (defArgs s_Reader_ended) (defBody s_Reader_ended) (defScope s_Reader_ended) .none kV_Reader_ended dc_Reader_ended pm_Reader_ended an_Reader_ended cd_Reader_ended ct_Reader_ended), sl_Reader_ended⟩)
    (cReader_ended : PySem.W.codeIn K cd_Reader_ended "Reader.ended" = true)
    (kReader_ended : PySem.W.keepIn K (.ref f_Reader_ended) = true)
    (aReader_where : PySem.W.findIn K (.ref C_Reader) "where" = some (some (.ref f_Reader_where)))
    (iReader_where : PySem.W.isFn K (.ref f_Reader_where) = true)
    (lReader_where : K.lookup f_Reader_where = some ⟨oc_Reader_where, od_Reader_where, .func (PySem.W.fnOf "where" "Reader.where" (defArgs s_Reader_where) (defBody s_Reader_where) (defScope s_Reader_where) .none kV_Reader_where dc_Reader_where pm_Reader_where an_Reader_where cd_Reader_where ct_Reader_where), sl_Reader_where⟩)
    (cReader_where : PySem.W.codeIn K cd_Reader_where "Reader.where" = true)
    (kReader_where : PySem.W.keepIn K (.ref f_Reader_where) = true)
    (aReader_sees : PySem.W.findIn K (.ref C_Reader) "sees" = some (some (.ref f_Reader_sees)))
    (iReader_sees : PySem.W.isFn K (.ref f_Reader_sees) = true)
    (lReader_sees : K.lookup f_Reader_sees = some ⟨oc_Reader_sees, od_Reader_sees, .func (PySem.W.fnOf "sees" "Reader.sees" (defArgs s_Reader_sees) (defBody s_Reader_sees) (defScope s_Reader_sees) .none kV_Reader_sees dc_Reader_sees pm_Reader_sees an_Reader_sees cd_Reader_sees ct_Reader_sees), sl_Reader_sees⟩)
    (cReader_sees : PySem.W.codeIn K cd_Reader_sees "Reader.sees" = true)
    (kReader_sees : PySem.W.keepIn K (.ref f_Reader_sees) = true)
    (aReader_sees_kind : PySem.W.findIn K (.ref C_Reader) "sees_kind" = some (some (.ref f_Reader_sees_kind)))
    (iReader_sees_kind : PySem.W.isFn K (.ref f_Reader_sees_kind) = true)
    (lReader_sees_kind : K.lookup f_Reader_sees_kind = some ⟨oc_Reader_sees_kind, od_Reader_sees_kind, .func (PySem.W.fnOf "sees_kind" "Reader.sees_kind" (defArgs s_Reader_sees_kind) (defBody s_Reader_sees_kind) (defScope s_Reader_sees_kind) .none kV_Reader_sees_kind dc_Reader_sees_kind pm_Reader_sees_kind an_Reader_sees_kind cd_Reader_sees_kind ct_Reader_sees_kind), sl_Reader_sees_kind⟩)
    (cReader_sees_kind : PySem.W.codeIn K cd_Reader_sees_kind "Reader.sees_kind" = true)
    (kReader_sees_kind : PySem.W.keepIn K (.ref f_Reader_sees_kind) = true)
    (aReader_take : PySem.W.findIn K (.ref C_Reader) "take" = some (some (.ref f_Reader_take)))
    (iReader_take : PySem.W.isFn K (.ref f_Reader_take) = true)
    (lReader_take : K.lookup f_Reader_take = some ⟨oc_Reader_take, od_Reader_take, .func (PySem.W.fnOf "take" "Reader.take" (defArgs s_Reader_take) (defBody s_Reader_take) (defScope s_Reader_take) .none kV_Reader_take dc_Reader_take pm_Reader_take an_Reader_take cd_Reader_take ct_Reader_take), sl_Reader_take⟩)
    (cReader_take : PySem.W.codeIn K cd_Reader_take "Reader.take" = true)
    (kReader_take : PySem.W.keepIn K (.ref f_Reader_take) = true)
    (aReader_accept : PySem.W.findIn K (.ref C_Reader) "accept" = some (some (.ref f_Reader_accept)))
    (iReader_accept : PySem.W.isFn K (.ref f_Reader_accept) = true)
    (lReader_accept : K.lookup f_Reader_accept = some ⟨oc_Reader_accept, od_Reader_accept, .func (PySem.W.fnOf "accept" "Reader.accept" (defArgs s_Reader_accept) (defBody s_Reader_accept) (defScope s_Reader_accept) .none kV_Reader_accept dc_Reader_accept pm_Reader_accept an_Reader_accept cd_Reader_accept ct_Reader_accept), sl_Reader_accept⟩)
    (cReader_accept : PySem.W.codeIn K cd_Reader_accept "Reader.accept" = true)
    (kReader_accept : PySem.W.keepIn K (.ref f_Reader_accept) = true)
    (aReader_expect : PySem.W.findIn K (.ref C_Reader) "expect" = some (some (.ref f_Reader_expect)))
    (iReader_expect : PySem.W.isFn K (.ref f_Reader_expect) = true)
    (lReader_expect : K.lookup f_Reader_expect = some ⟨oc_Reader_expect, od_Reader_expect, .func (PySem.W.fnOf "expect" "Reader.expect" (defArgs s_Reader_expect) (defBody s_Reader_expect) (defScope s_Reader_expect) .none kV_Reader_expect dc_Reader_expect pm_Reader_expect an_Reader_expect cd_Reader_expect ct_Reader_expect), sl_Reader_expect⟩)
    (cReader_expect : PySem.W.codeIn K cd_Reader_expect "Reader.expect" = true)
    (kReader_expect : PySem.W.keepIn K (.ref f_Reader_expect) = true)
    (aReader_expect_kind : PySem.W.findIn K (.ref C_Reader) "expect_kind" = some (some (.ref f_Reader_expect_kind)))
    (iReader_expect_kind : PySem.W.isFn K (.ref f_Reader_expect_kind) = true)
    (lReader_expect_kind : K.lookup f_Reader_expect_kind = some ⟨oc_Reader_expect_kind, od_Reader_expect_kind, .func (PySem.W.fnOf "expect_kind" "Reader.expect_kind" (defArgs s_Reader_expect_kind) (defBody s_Reader_expect_kind) (defScope s_Reader_expect_kind) .none kV_Reader_expect_kind dc_Reader_expect_kind pm_Reader_expect_kind an_Reader_expect_kind cd_Reader_expect_kind ct_Reader_expect_kind), sl_Reader_expect_kind⟩)
    (cReader_expect_kind : PySem.W.codeIn K cd_Reader_expect_kind "Reader.expect_kind" = true)
    (kReader_expect_kind : PySem.W.keepIn K (.ref f_Reader_expect_kind) = true)
    (aReader_expect_whole : PySem.W.findIn K (.ref C_Reader) "expect_whole" = some (some (.ref f_Reader_expect_whole)))
    (iReader_expect_whole : PySem.W.isFn K (.ref f_Reader_expect_whole) = true)
    (lReader_expect_whole : K.lookup f_Reader_expect_whole = some ⟨oc_Reader_expect_whole, od_Reader_expect_whole, .func (PySem.W.fnOf "expect_whole" "Reader.expect_whole" (defArgs s_Reader_expect_whole) (defBody s_Reader_expect_whole) (defScope s_Reader_expect_whole) .none kV_Reader_expect_whole dc_Reader_expect_whole pm_Reader_expect_whole an_Reader_expect_whole cd_Reader_expect_whole ct_Reader_expect_whole), sl_Reader_expect_whole⟩)
    (cReader_expect_whole : PySem.W.codeIn K cd_Reader_expect_whole "Reader.expect_whole" = true)
    (kReader_expect_whole : PySem.W.keepIn K (.ref f_Reader_expect_whole) = true)
    (nfReader_found : PySem.W.findIn K (.ref C_Reader) "found" = some none)
    (nfReader_length : PySem.W.findIn K (.ref C_Reader) "length" = some none)
    (nfReader_taken : PySem.W.findIn K (.ref C_Reader) "taken" = some none)
    (ap_Oversized_Malformed : PySem.W.subIn K (.ref C_Oversized) (.ref C_Malformed) = some false)
    : Top w K mg where
  a_tokens := f_tokens
  fd_tokens := _
  F_tokens := fun_mk (st := s_tokens) ltokens ctokens ktokens
  m_tokens := PySem.W.mg_of X G atokens
  a_token_start := f_token_start
  fd_token_start := _
  F_token_start := fun_mk (st := s_token_start) ltoken_start ctoken_start ktoken_start
  m_token_start := PySem.W.mg_of X G atoken_start
  a_comment_end := f_comment_end
  fd_comment_end := _
  F_comment_end := fun_mk (st := s_comment_end) lcomment_end ccomment_end kcomment_end
  m_comment_end := PySem.W.mg_of X G acomment_end
  a_token_at := f_token_at
  fd_token_at := _
  F_token_at := fun_mk (st := s_token_at) ltoken_at ctoken_at ktoken_at
  m_token_at := PySem.W.mg_of X G atoken_at
  a_name_at := f_name_at
  fd_name_at := _
  F_name_at := fun_mk (st := s_name_at) lname_at cname_at kname_at
  m_name_at := PySem.W.mg_of X G aname_at
  a_number_at := f_number_at
  fd_number_at := _
  F_number_at := fun_mk (st := s_number_at) lnumber_at cnumber_at knumber_at
  m_number_at := PySem.W.mg_of X G anumber_at
  a_digits_behind := f_digits_behind
  fd_digits_behind := _
  F_digits_behind := fun_mk (st := s_digits_behind) ldigits_behind cdigits_behind kdigits_behind
  m_digits_behind := PySem.W.mg_of X G adigits_behind
  a_run_end := f_run_end
  fd_run_end := _
  F_run_end := fun_mk (st := s_run_end) lrun_end crun_end krun_end
  m_run_end := PySem.W.mg_of X G arun_end
  a_parse := f_parse
  fd_parse := _
  F_parse := fun_mk (st := s_parse) lparse cparse kparse
  m_parse := PySem.W.mg_of X G aparse
  a_read_line := f_read_line
  fd_read_line := _
  F_read_line := fun_mk (st := s_read_line) lread_line cread_line kread_line
  m_read_line := PySem.W.mg_of X G aread_line
  a_read_unit := f_read_unit
  fd_read_unit := _
  F_read_unit := fun_mk (st := s_read_unit) lread_unit cread_unit kread_unit
  m_read_unit := PySem.W.mg_of X G aread_unit
  a_read_function := f_read_function
  fd_read_function := _
  F_read_function := fun_mk (st := s_read_function) lread_function cread_function kread_function
  m_read_function := PySem.W.mg_of X G aread_function
  a_read_parameters := f_read_parameters
  fd_read_parameters := _
  F_read_parameters := fun_mk (st := s_read_parameters) lread_parameters cread_parameters kread_parameters
  m_read_parameters := PySem.W.mg_of X G aread_parameters
  a_read_parameter := f_read_parameter
  fd_read_parameter := _
  F_read_parameter := fun_mk (st := s_read_parameter) lread_parameter cread_parameter kread_parameter
  m_read_parameter := PySem.W.mg_of X G aread_parameter
  a_read_told := f_read_told
  fd_read_told := _
  F_read_told := fun_mk (st := s_read_told) lread_told cread_told kread_told
  m_read_told := PySem.W.mg_of X G aread_told
  a_read_show := f_read_show
  fd_read_show := _
  F_read_show := fun_mk (st := s_read_show) lread_show cread_show kread_show
  m_read_show := PySem.W.mg_of X G aread_show
  a_read_product := f_read_product
  fd_read_product := _
  F_read_product := fun_mk (st := s_read_product) lread_product cread_product kread_product
  m_read_product := PySem.W.mg_of X G aread_product
  a_read_power := f_read_power
  fd_read_power := _
  F_read_power := fun_mk (st := s_read_power) lread_power cread_power kread_power
  m_read_power := PySem.W.mg_of X G aread_power
  a_deeper := f_deeper
  fd_deeper := _
  F_deeper := fun_mk (st := s_deeper) ldeeper cdeeper kdeeper
  m_deeper := PySem.W.mg_of X G adeeper
  a_read_expression := f_read_expression
  fd_read_expression := _
  F_read_expression := fun_mk (st := s_read_expression) lread_expression cread_expression kread_expression
  m_read_expression := PySem.W.mg_of X G aread_expression
  a_read_if := f_read_if
  fd_read_if := _
  F_read_if := fun_mk (st := s_read_if) lread_if cread_if kread_if
  m_read_if := PySem.W.mg_of X G aread_if
  a_read_let := f_read_let
  fd_read_let := _
  F_read_let := fun_mk (st := s_read_let) lread_let cread_let kread_let
  m_read_let := PySem.W.mg_of X G aread_let
  a_read_chain := f_read_chain
  fd_read_chain := _
  F_read_chain := fun_mk (st := s_read_chain) lread_chain cread_chain kread_chain
  m_read_chain := PySem.W.mg_of X G aread_chain
  a_read_both := f_read_both
  fd_read_both := _
  F_read_both := fun_mk (st := s_read_both) lread_both cread_both kread_both
  m_read_both := PySem.W.mg_of X G aread_both
  a_read_plain := f_read_plain
  fd_read_plain := _
  F_read_plain := fun_mk (st := s_read_plain) lread_plain cread_plain kread_plain
  m_read_plain := PySem.W.mg_of X G aread_plain
  a_read_terms := f_read_terms
  fd_read_terms := _
  F_read_terms := fun_mk (st := s_read_terms) lread_terms cread_terms kread_terms
  m_read_terms := PySem.W.mg_of X G aread_terms
  a_read_factors := f_read_factors
  fd_read_factors := _
  F_read_factors := fun_mk (st := s_read_factors) lread_factors cread_factors kread_factors
  m_read_factors := PySem.W.mg_of X G aread_factors
  a_read_powers := f_read_powers
  fd_read_powers := _
  F_read_powers := fun_mk (st := s_read_powers) lread_powers cread_powers kread_powers
  m_read_powers := PySem.W.mg_of X G aread_powers
  a_read_primary := f_read_primary
  fd_read_primary := _
  F_read_primary := fun_mk (st := s_read_primary) lread_primary cread_primary kread_primary
  m_read_primary := PySem.W.mg_of X G aread_primary
  a_read_number := f_read_number
  fd_read_number := _
  F_read_number := fun_mk (st := s_read_number) lread_number cread_number kread_number
  m_read_number := PySem.W.mg_of X G aread_number
  a_read_iterate := f_read_iterate
  fd_read_iterate := _
  F_read_iterate := fun_mk (st := s_read_iterate) lread_iterate cread_iterate kread_iterate
  m_read_iterate := PySem.W.mg_of X G aread_iterate
  a_read_arguments := f_read_arguments
  fd_read_arguments := _
  F_read_arguments := fun_mk (st := s_read_arguments) lread_arguments cread_arguments kread_arguments
  m_read_arguments := PySem.W.mg_of X G aread_arguments
  a_law_cell := f_law_cell
  fd_law_cell := _
  F_law_cell := fun_mk (st := s_law_cell) llaw_cell claw_cell klaw_cell
  m_law_cell := PySem.W.mg_of X G alaw_cell
  a_law_numbers := f_law_numbers
  fd_law_numbers := _
  F_law_numbers := fun_mk (st := s_law_numbers) llaw_numbers claw_numbers klaw_numbers
  m_law_numbers := PySem.W.mg_of X G alaw_numbers
  a_law_feed := f_law_feed
  fd_law_feed := _
  F_law_feed := fun_mk (st := s_law_feed) llaw_feed claw_feed klaw_feed
  m_law_feed := PySem.W.mg_of X G alaw_feed
  a_law_take := f_law_take
  fd_law_take := _
  F_law_take := fun_mk (st := s_law_take) llaw_take claw_take klaw_take
  m_law_take := PySem.W.mg_of X G alaw_take
  a_law_drawn := f_law_drawn
  fd_law_drawn := _
  F_law_drawn := fun_mk (st := s_law_drawn) llaw_drawn claw_drawn klaw_drawn
  m_law_drawn := PySem.W.mg_of X G alaw_drawn
  a_law_brackets := f_law_brackets
  fd_law_brackets := _
  F_law_brackets := fun_mk (st := s_law_brackets) llaw_brackets claw_brackets klaw_brackets
  m_law_brackets := PySem.W.mg_of X G alaw_brackets
  a_law_line := f_law_line
  fd_law_line := _
  F_law_line := fun_mk (st := s_law_line) llaw_line claw_line klaw_line
  m_law_line := PySem.W.mg_of X G alaw_line
  a_law_number := f_law_number
  fd_law_number := _
  F_law_number := fun_mk (st := s_law_number) llaw_number claw_number klaw_number
  m_law_number := PySem.W.mg_of X G alaw_number
  a_law_units := f_law_units
  fd_law_units := _
  F_law_units := fun_mk (st := s_law_units) llaw_units claw_units klaw_units
  m_law_units := PySem.W.mg_of X G alaw_units
  a_law_text := f_law_text
  fd_law_text := _
  F_law_text := fun_mk (st := s_law_text) llaw_text claw_text klaw_text
  m_law_text := PySem.W.mg_of X G alaw_text
  a_law_shown := f_law_shown
  fd_law_shown := _
  F_law_shown := fun_mk (st := s_law_shown) llaw_shown claw_shown klaw_shown
  m_law_shown := PySem.W.mg_of X G alaw_shown
  a_law_bare := f_law_bare
  fd_law_bare := _
  F_law_bare := fun_mk (st := s_law_bare) llaw_bare claw_bare klaw_bare
  m_law_bare := PySem.W.mg_of X G alaw_bare
  a_law_marks := f_law_marks
  fd_law_marks := _
  F_law_marks := fun_mk (st := s_law_marks) llaw_marks claw_marks klaw_marks
  m_law_marks := PySem.W.mg_of X G alaw_marks
  a_law_read := f_law_read
  fd_law_read := _
  F_law_read := fun_mk (st := s_law_read) llaw_read claw_read klaw_read
  m_law_read := PySem.W.mg_of X G alaw_read
  a_law := f_law
  fd_law := _
  F_law := fun_mk (st := s_law) llaw claw klaw
  m_law := PySem.W.mg_of X G alaw
  n_abs := PySem.W.mg_none_of X G zabs
  n_bool := PySem.W.mg_none_of X G zbool
  n_int := PySem.W.mg_none_of X G zint
  n_isinstance := PySem.W.mg_none_of X G zisinstance
  n_len := PySem.W.mg_none_of X G zlen
  n_max := PySem.W.mg_none_of X G zmax
  n_range := PySem.W.mg_none_of X G zrange
  n_repr := PySem.W.mg_none_of X G zrepr
  n_str := PySem.W.mg_none_of X G zstr
  n_tuple := PySem.W.mg_none_of X G ztuple
  a_RESERVED := t_RESERVED
  c_RESERVED := PySem.W.mg_of X G gRESERVED
  s_RESERVED := fun H => .inr ⟨_, _, _, lRESERVED, rfl, rfl, by rw [sizeLine_eq]; exact Nat.le_of_ble_eq_true rfl, .cons ⟨_, rfl⟩ (.cons ⟨_, rfl⟩ (.cons ⟨_, rfl⟩ (.cons ⟨_, rfl⟩ (.cons ⟨_, rfl⟩ (.cons ⟨_, rfl⟩ (.cons ⟨_, rfl⟩ (.cons ⟨_, rfl⟩ (.cons ⟨_, rfl⟩ (.cons ⟨_, rfl⟩ (.cons ⟨_, rfl⟩ (.cons ⟨_, rfl⟩ (.cons ⟨_, rfl⟩ (.cons ⟨_, rfl⟩ (.cons ⟨_, rfl⟩ (.cons ⟨_, rfl⟩ (.nil))))))))))))))))⟩
  u_LONGEST_TEXT := _
  c_LONGEST_TEXT := PySem.W.mg_of X G gLONGEST_TEXT
  r_LONGEST_TEXT := ⟨_, rfl⟩
  u_LONGEST_NAME := _
  c_LONGEST_NAME := PySem.W.mg_of X G gLONGEST_NAME
  r_LONGEST_NAME := ⟨_, rfl⟩
  u_MOST_DIGITS := _
  c_MOST_DIGITS := PySem.W.mg_of X G gMOST_DIGITS
  r_MOST_DIGITS := ⟨_, rfl⟩
  u_SEPARATORS := _
  c_SEPARATORS := PySem.W.mg_of X G gSEPARATORS
  r_SEPARATORS := ⟨_, rfl⟩
  u_LETTERS := _
  c_LETTERS := PySem.W.mg_of X G gLETTERS
  r_LETTERS := ⟨_, rfl⟩
  u_DIGITS := _
  c_DIGITS := PySem.W.mg_of X G gDIGITS
  r_DIGITS := ⟨_, rfl⟩
  u_NAMING := _
  c_NAMING := PySem.W.mg_of X G gNAMING
  r_NAMING := ⟨_, rfl⟩
  a_SIGNS := t_SIGNS
  c_SIGNS := PySem.W.mg_of X G gSIGNS
  s_SIGNS := fun H => .inr ⟨_, _, _, lSIGNS, rfl, rfl, by rw [sizeLine_eq]; exact Nat.le_of_ble_eq_true rfl, .cons ⟨_, rfl⟩ (.cons ⟨_, rfl⟩ (.cons ⟨_, rfl⟩ (.cons ⟨_, rfl⟩ (.cons ⟨_, rfl⟩ (.cons ⟨_, rfl⟩ (.cons ⟨_, rfl⟩ (.cons ⟨_, rfl⟩ (.cons ⟨_, rfl⟩ (.cons ⟨_, rfl⟩ (.cons ⟨_, rfl⟩ (.cons ⟨_, rfl⟩ (.cons ⟨_, rfl⟩ (.cons ⟨_, rfl⟩ (.cons ⟨_, rfl⟩ (.cons ⟨_, rfl⟩ (.nil))))))))))))))))⟩
  a_BOTTOMS := t_BOTTOMS
  c_BOTTOMS := PySem.W.mg_of X G gBOTTOMS
  s_BOTTOMS := fun H => .inr ⟨_, _, _, lBOTTOMS, rfl, rfl, by rw [sizeLine_eq]; exact Nat.le_of_ble_eq_true rfl, .cons ⟨_, rfl⟩ (.cons ⟨_, rfl⟩ (.cons ⟨_, rfl⟩ (.cons ⟨_, rfl⟩ (.cons ⟨_, rfl⟩ (.nil)))))⟩
  u_DEEPEST := _
  c_DEEPEST := PySem.W.mg_of X G gDEEPEST
  r_DEEPEST := ⟨_, rfl⟩
  u_GREATEST_POWER := _
  c_GREATEST_POWER := PySem.W.mg_of X G gGREATEST_POWER
  r_GREATEST_POWER := ⟨_, rfl⟩
  u_GREATEST_COUNT := _
  c_GREATEST_COUNT := PySem.W.mg_of X G gGREATEST_COUNT
  r_GREATEST_COUNT := ⟨_, rfl⟩
  a_COMPARISONS := t_COMPARISONS
  c_COMPARISONS := PySem.W.mg_of X G gCOMPARISONS
  s_COMPARISONS := fun H => .inr ⟨_, _, _, lCOMPARISONS, rfl, rfl, by rw [sizeLine_eq]; exact Nat.le_of_ble_eq_true rfl, .cons ⟨_, rfl⟩ (.cons ⟨_, rfl⟩ (.cons ⟨_, rfl⟩ (.nil)))⟩
  a_OPERATIONS := t_OPERATIONS
  c_OPERATIONS := PySem.W.mg_of X G gOPERATIONS
  d_OPERATIONS_0 := ⟨_, _, _, lOPERATIONS, kOPERATIONS, iOPERATIONS_0, ⟨_, rfl⟩⟩
  d_OPERATIONS_1 := ⟨_, _, _, lOPERATIONS, kOPERATIONS, iOPERATIONS_1, ⟨_, rfl⟩⟩
  d_OPERATIONS_2 := ⟨_, _, _, lOPERATIONS, kOPERATIONS, iOPERATIONS_2, ⟨_, rfl⟩⟩
  d_OPERATIONS_3 := ⟨_, _, _, lOPERATIONS, kOPERATIONS, iOPERATIONS_3, ⟨_, rfl⟩⟩
  d_OPERATIONS_4 := ⟨_, _, _, lOPERATIONS, kOPERATIONS, iOPERATIONS_4, ⟨_, rfl⟩⟩
  d_OPERATIONS_5 := ⟨_, _, _, lOPERATIONS, kOPERATIONS, iOPERATIONS_5, ⟨_, rfl⟩⟩
  d_OPERATIONS_6 := ⟨_, _, _, lOPERATIONS, kOPERATIONS, iOPERATIONS_6, ⟨_, rfl⟩⟩
  d_OPERATIONS_7 := ⟨_, _, _, lOPERATIONS, kOPERATIONS, iOPERATIONS_7, ⟨_, rfl⟩⟩
  d_OPERATIONS_8 := ⟨_, _, _, lOPERATIONS, kOPERATIONS, iOPERATIONS_8, ⟨_, rfl⟩⟩
  a_Malformed := C_Malformed
  i_Malformed := I_Malformed
  fd_Malformed___init__ := _
  F_Malformed___init__ := fun_mk (st := s_Malformed___init__) liMalformed ciMalformed kiMalformed
  x_Malformed := xcls_mk (PySem.W.mg_of X G gMalformed) xMalformed rfl saMalformed gaMalformed ggMalformed noMalformed inMalformed tiMalformed kcMalformed exMalformed tyMalformed hdMalformed icMalformed suMalformed
  a_Oversized := C_Oversized
  i_Oversized := I_Oversized
  fd_Oversized___init__ := _
  F_Oversized___init__ := fun_mk (st := s_Oversized___init__) liOversized ciOversized kiOversized
  x_Oversized := xcls_mk (PySem.W.mg_of X G gOversized) xOversized rfl saOversized gaOversized ggOversized noOversized inOversized tiOversized kcOversized exOversized tyOversized hdOversized icOversized suOversized
  ap_Oversized_Malformed := ap_Oversized_Malformed
  a_Reader := C_Reader
  m_Reader := PySem.W.mg_of X G gReader
  cl_Reader := ⟨pgReader, hdReader, poReader, saReader⟩
  a_Reader___init__ := f_Reader___init__
  fd_Reader___init__ := _
  F_Reader___init__ := fun_mk (st := s_Reader___init__) lReader___init__ cReader___init__ kReader___init__
  mk_Reader := ⟨mkReader, aReader___init__, iReader___init__, kcReader⟩
  a_Reader_ended := f_Reader_ended
  fd_Reader_ended := _
  F_Reader_ended := fun_mk (st := s_Reader_ended) lReader_ended cReader_ended kReader_ended
  M_Reader_ended := ⟨aReader_ended, iReader_ended, kReader_ended⟩
  a_Reader_where := f_Reader_where
  fd_Reader_where := _
  F_Reader_where := fun_mk (st := s_Reader_where) lReader_where cReader_where kReader_where
  M_Reader_where := ⟨aReader_where, iReader_where, kReader_where⟩
  a_Reader_sees := f_Reader_sees
  fd_Reader_sees := _
  F_Reader_sees := fun_mk (st := s_Reader_sees) lReader_sees cReader_sees kReader_sees
  M_Reader_sees := ⟨aReader_sees, iReader_sees, kReader_sees⟩
  a_Reader_sees_kind := f_Reader_sees_kind
  fd_Reader_sees_kind := _
  F_Reader_sees_kind := fun_mk (st := s_Reader_sees_kind) lReader_sees_kind cReader_sees_kind kReader_sees_kind
  M_Reader_sees_kind := ⟨aReader_sees_kind, iReader_sees_kind, kReader_sees_kind⟩
  a_Reader_take := f_Reader_take
  fd_Reader_take := _
  F_Reader_take := fun_mk (st := s_Reader_take) lReader_take cReader_take kReader_take
  M_Reader_take := ⟨aReader_take, iReader_take, kReader_take⟩
  a_Reader_accept := f_Reader_accept
  fd_Reader_accept := _
  F_Reader_accept := fun_mk (st := s_Reader_accept) lReader_accept cReader_accept kReader_accept
  M_Reader_accept := ⟨aReader_accept, iReader_accept, kReader_accept⟩
  a_Reader_expect := f_Reader_expect
  fd_Reader_expect := _
  F_Reader_expect := fun_mk (st := s_Reader_expect) lReader_expect cReader_expect kReader_expect
  M_Reader_expect := ⟨aReader_expect, iReader_expect, kReader_expect⟩
  a_Reader_expect_kind := f_Reader_expect_kind
  fd_Reader_expect_kind := _
  F_Reader_expect_kind := fun_mk (st := s_Reader_expect_kind) lReader_expect_kind cReader_expect_kind kReader_expect_kind
  M_Reader_expect_kind := ⟨aReader_expect_kind, iReader_expect_kind, kReader_expect_kind⟩
  a_Reader_expect_whole := f_Reader_expect_whole
  fd_Reader_expect_whole := _
  F_Reader_expect_whole := fun_mk (st := s_Reader_expect_whole) lReader_expect_whole cReader_expect_whole kReader_expect_whole
  M_Reader_expect_whole := ⟨aReader_expect_whole, iReader_expect_whole, kReader_expect_whole⟩
  nF_Reader_found := nfReader_found
  nF_Reader_length := nfReader_length
  nF_Reader_taken := nfReader_taken
theorem Top.b_Malformed_init {w : World} {K : PySem.W.Frag} {mg : Str → Option Value} (T : Top w K mg) : Binds K T.fd_Malformed___init__ ["self", "at"] [] := T.F_Malformed___init__.binds fun _ _ _ _ _ _ us hl => match us, hl with | [_, _], _ => rfl
theorem Top.b_Oversized_init {w : World} {K : PySem.W.Frag} {mg : Str → Option Value} (T : Top w K mg) : Binds K T.fd_Oversized___init__ ["self", "limit"] [] := T.F_Oversized___init__.binds fun _ _ _ _ _ _ us hl => match us, hl with | [_, _], _ => rfl
theorem Top.b_tokens {w : World} {K : PySem.W.Frag} {mg : Str → Option Value} (T : Top w K mg) : Binds K T.fd_tokens ["text"] [] := T.F_tokens.binds fun _ _ _ _ _ _ us hl => match us, hl with | [_], _ => rfl
theorem Top.b_token_start {w : World} {K : PySem.W.Frag} {mg : Str → Option Value} (T : Top w K mg) : Binds K T.fd_token_start ["text", "at"] [] := T.F_token_start.binds fun _ _ _ _ _ _ us hl => match us, hl with | [_, _], _ => rfl
theorem Top.b_comment_end {w : World} {K : PySem.W.Frag} {mg : Str → Option Value} (T : Top w K mg) : Binds K T.fd_comment_end ["text", "at"] [] := T.F_comment_end.binds fun _ _ _ _ _ _ us hl => match us, hl with | [_, _], _ => rfl
theorem Top.b_token_at {w : World} {K : PySem.W.Frag} {mg : Str → Option Value} (T : Top w K mg) : Binds K T.fd_token_at ["text", "at"] [] := T.F_token_at.binds fun _ _ _ _ _ _ us hl => match us, hl with | [_, _], _ => rfl
theorem Top.b_name_at {w : World} {K : PySem.W.Frag} {mg : Str → Option Value} (T : Top w K mg) : Binds K T.fd_name_at ["text", "at"] [] := T.F_name_at.binds fun _ _ _ _ _ _ us hl => match us, hl with | [_, _], _ => rfl
theorem Top.b_number_at {w : World} {K : PySem.W.Frag} {mg : Str → Option Value} (T : Top w K mg) : Binds K T.fd_number_at ["text", "at"] [] := T.F_number_at.binds fun _ _ _ _ _ _ us hl => match us, hl with | [_, _], _ => rfl
theorem Top.b_digits_behind {w : World} {K : PySem.W.Frag} {mg : Str → Option Value} (T : Top w K mg) : Binds K T.fd_digits_behind ["text", "point"] [] := T.F_digits_behind.binds fun _ _ _ _ _ _ us hl => match us, hl with | [_, _], _ => rfl
theorem Top.b_run_end {w : World} {K : PySem.W.Frag} {mg : Str → Option Value} (T : Top w K mg) : Binds K T.fd_run_end ["text", "at", "characters"] [] := T.F_run_end.binds fun _ _ _ _ _ _ us hl => match us, hl with | [_, _, _], _ => rfl
theorem Top.b_Reader___init__ {w : World} {K : PySem.W.Frag} {mg : Str → Option Value} (T : Top w K mg) : Binds K T.fd_Reader___init__ ["self", "found", "length"] [] := T.F_Reader___init__.binds fun _ _ _ _ _ _ us hl => match us, hl with | [_, _, _], _ => rfl
theorem Top.b_Reader_ended {w : World} {K : PySem.W.Frag} {mg : Str → Option Value} (T : Top w K mg) : Binds K T.fd_Reader_ended ["self"] [] := T.F_Reader_ended.binds fun _ _ _ _ _ _ us hl => match us, hl with | [_], _ => rfl
theorem Top.b_Reader_where {w : World} {K : PySem.W.Frag} {mg : Str → Option Value} (T : Top w K mg) : Binds K T.fd_Reader_where ["self"] [] := T.F_Reader_where.binds fun _ _ _ _ _ _ us hl => match us, hl with | [_], _ => rfl
theorem Top.b_Reader_sees {w : World} {K : PySem.W.Frag} {mg : Str → Option Value} (T : Top w K mg) : Binds K T.fd_Reader_sees ["self", "values"] [] := T.F_Reader_sees.binds fun _ _ _ _ _ _ us hl => match us, hl with | [_, _], _ => rfl
theorem Top.b_Reader_sees_kind {w : World} {K : PySem.W.Frag} {mg : Str → Option Value} (T : Top w K mg) : Binds K T.fd_Reader_sees_kind ["self", "kind"] [] := T.F_Reader_sees_kind.binds fun _ _ _ _ _ _ us hl => match us, hl with | [_, _], _ => rfl
theorem Top.b_Reader_take {w : World} {K : PySem.W.Frag} {mg : Str → Option Value} (T : Top w K mg) : Binds K T.fd_Reader_take ["self"] [] := T.F_Reader_take.binds fun _ _ _ _ _ _ us hl => match us, hl with | [_], _ => rfl
theorem Top.b_Reader_accept {w : World} {K : PySem.W.Frag} {mg : Str → Option Value} (T : Top w K mg) : Binds K T.fd_Reader_accept ["self", "value"] [] := T.F_Reader_accept.binds fun _ _ _ _ _ _ us hl => match us, hl with | [_, _], _ => rfl
theorem Top.b_Reader_expect {w : World} {K : PySem.W.Frag} {mg : Str → Option Value} (T : Top w K mg) : Binds K T.fd_Reader_expect ["self", "value"] [] := T.F_Reader_expect.binds fun _ _ _ _ _ _ us hl => match us, hl with | [_, _], _ => rfl
theorem Top.b_Reader_expect_kind {w : World} {K : PySem.W.Frag} {mg : Str → Option Value} (T : Top w K mg) : Binds K T.fd_Reader_expect_kind ["self", "kind"] [] := T.F_Reader_expect_kind.binds fun _ _ _ _ _ _ us hl => match us, hl with | [_, _], _ => rfl
theorem Top.b_Reader_expect_whole {w : World} {K : PySem.W.Frag} {mg : Str → Option Value} (T : Top w K mg) : Binds K T.fd_Reader_expect_whole ["self", "greatest"] [] := T.F_Reader_expect_whole.binds fun _ _ _ _ _ _ us hl => match us, hl with | [_, _], _ => rfl
theorem Top.b_parse {w : World} {K : PySem.W.Frag} {mg : Str → Option Value} (T : Top w K mg) : Binds K T.fd_parse ["text"] [] := T.F_parse.binds fun _ _ _ _ _ _ us hl => match us, hl with | [_], _ => rfl
theorem Top.b_read_line {w : World} {K : PySem.W.Frag} {mg : Str → Option Value} (T : Top w K mg) : Binds K T.fd_read_line ["reader"] [] := T.F_read_line.binds fun _ _ _ _ _ _ us hl => match us, hl with | [_], _ => rfl
theorem Top.b_read_unit {w : World} {K : PySem.W.Frag} {mg : Str → Option Value} (T : Top w K mg) : Binds K T.fd_read_unit ["reader", "at"] [] := T.F_read_unit.binds fun _ _ _ _ _ _ us hl => match us, hl with | [_, _], _ => rfl
theorem Top.b_read_function {w : World} {K : PySem.W.Frag} {mg : Str → Option Value} (T : Top w K mg) : Binds K T.fd_read_function ["reader", "at"] [] := T.F_read_function.binds fun _ _ _ _ _ _ us hl => match us, hl with | [_, _], _ => rfl
theorem Top.b_read_parameters {w : World} {K : PySem.W.Frag} {mg : Str → Option Value} (T : Top w K mg) : Binds K T.fd_read_parameters ["reader"] [] := T.F_read_parameters.binds fun _ _ _ _ _ _ us hl => match us, hl with | [_], _ => rfl
theorem Top.b_read_parameter {w : World} {K : PySem.W.Frag} {mg : Str → Option Value} (T : Top w K mg) : Binds K T.fd_read_parameter ["reader"] [] := T.F_read_parameter.binds fun _ _ _ _ _ _ us hl => match us, hl with | [_], _ => rfl
theorem Top.b_read_told {w : World} {K : PySem.W.Frag} {mg : Str → Option Value} (T : Top w K mg) : Binds K T.fd_read_told ["reader"] [] := T.F_read_told.binds fun _ _ _ _ _ _ us hl => match us, hl with | [_], _ => rfl
theorem Top.b_read_show {w : World} {K : PySem.W.Frag} {mg : Str → Option Value} (T : Top w K mg) : Binds K T.fd_read_show ["reader", "at"] [] := T.F_read_show.binds fun _ _ _ _ _ _ us hl => match us, hl with | [_, _], _ => rfl
theorem Top.b_read_product {w : World} {K : PySem.W.Frag} {mg : Str → Option Value} (T : Top w K mg) : Binds K T.fd_read_product ["reader"] [] := T.F_read_product.binds fun _ _ _ _ _ _ us hl => match us, hl with | [_], _ => rfl
theorem Top.b_read_power {w : World} {K : PySem.W.Frag} {mg : Str → Option Value} (T : Top w K mg) : Binds K T.fd_read_power ["reader"] [] := T.F_read_power.binds fun _ _ _ _ _ _ us hl => match us, hl with | [_], _ => rfl
theorem Top.b_deeper {w : World} {K : PySem.W.Frag} {mg : Str → Option Value} (T : Top w K mg) : Binds K T.fd_deeper ["level"] [] := T.F_deeper.binds fun _ _ _ _ _ _ us hl => match us, hl with | [_], _ => rfl
theorem Top.b_read_expression {w : World} {K : PySem.W.Frag} {mg : Str → Option Value} (T : Top w K mg) : Binds K T.fd_read_expression ["reader", "level"] [] := T.F_read_expression.binds fun _ _ _ _ _ _ us hl => match us, hl with | [_, _], _ => rfl
theorem Top.b_read_if {w : World} {K : PySem.W.Frag} {mg : Str → Option Value} (T : Top w K mg) : Binds K T.fd_read_if ["reader", "level", "at"] [] := T.F_read_if.binds fun _ _ _ _ _ _ us hl => match us, hl with | [_, _, _], _ => rfl
theorem Top.b_read_let {w : World} {K : PySem.W.Frag} {mg : Str → Option Value} (T : Top w K mg) : Binds K T.fd_read_let ["reader", "level", "at"] [] := T.F_read_let.binds fun _ _ _ _ _ _ us hl => match us, hl with | [_, _, _], _ => rfl
theorem Top.b_read_chain {w : World} {K : PySem.W.Frag} {mg : Str → Option Value} (T : Top w K mg) : Binds K T.fd_read_chain ["reader", "level", "operators", "read_part"] [] := T.F_read_chain.binds fun _ _ _ _ _ _ us hl => match us, hl with | [_, _, _, _], _ => rfl
theorem Top.b_read_both {w : World} {K : PySem.W.Frag} {mg : Str → Option Value} (T : Top w K mg) : Binds K T.fd_read_both ["reader", "level"] [] := T.F_read_both.binds fun _ _ _ _ _ _ us hl => match us, hl with | [_, _], _ => rfl
theorem Top.b_read_plain {w : World} {K : PySem.W.Frag} {mg : Str → Option Value} (T : Top w K mg) : Binds K T.fd_read_plain ["reader", "level"] [] := T.F_read_plain.binds fun _ _ _ _ _ _ us hl => match us, hl with | [_, _], _ => rfl
theorem Top.b_read_terms {w : World} {K : PySem.W.Frag} {mg : Str → Option Value} (T : Top w K mg) : Binds K T.fd_read_terms ["reader", "level"] [] := T.F_read_terms.binds fun _ _ _ _ _ _ us hl => match us, hl with | [_, _], _ => rfl
theorem Top.b_read_factors {w : World} {K : PySem.W.Frag} {mg : Str → Option Value} (T : Top w K mg) : Binds K T.fd_read_factors ["reader", "level"] [] := T.F_read_factors.binds fun _ _ _ _ _ _ us hl => match us, hl with | [_, _], _ => rfl
theorem Top.b_read_powers {w : World} {K : PySem.W.Frag} {mg : Str → Option Value} (T : Top w K mg) : Binds K T.fd_read_powers ["reader", "level"] [] := T.F_read_powers.binds fun _ _ _ _ _ _ us hl => match us, hl with | [_, _], _ => rfl
theorem Top.b_read_primary {w : World} {K : PySem.W.Frag} {mg : Str → Option Value} (T : Top w K mg) : Binds K T.fd_read_primary ["reader", "level"] [] := T.F_read_primary.binds fun _ _ _ _ _ _ us hl => match us, hl with | [_, _], _ => rfl
theorem Top.b_read_number {w : World} {K : PySem.W.Frag} {mg : Str → Option Value} (T : Top w K mg) : Binds K T.fd_read_number ["reader", "at"] [] := T.F_read_number.binds fun _ _ _ _ _ _ us hl => match us, hl with | [_, _], _ => rfl
theorem Top.b_read_iterate {w : World} {K : PySem.W.Frag} {mg : Str → Option Value} (T : Top w K mg) : Binds K T.fd_read_iterate ["reader", "level", "at"] [] := T.F_read_iterate.binds fun _ _ _ _ _ _ us hl => match us, hl with | [_, _, _], _ => rfl
theorem Top.b_read_arguments {w : World} {K : PySem.W.Frag} {mg : Str → Option Value} (T : Top w K mg) : Binds K T.fd_read_arguments ["reader", "level"] [] := T.F_read_arguments.binds fun _ _ _ _ _ _ us hl => match us, hl with | [_, _], _ => rfl
theorem Top.b_law_cell {w : World} {K : PySem.W.Frag} {mg : Str → Option Value} (T : Top w K mg) : Binds K T.fd_law_cell ["script", "k"] [] := T.F_law_cell.binds fun _ _ _ _ _ _ us hl => match us, hl with | [_, _], _ => rfl
theorem Top.b_law_numbers {w : World} {K : PySem.W.Frag} {mg : Str → Option Value} (T : Top w K mg) : Binds K T.fd_law_numbers ["cell", "many"] [] := T.F_law_numbers.binds fun _ _ _ _ _ _ us hl => match us, hl with | [_, _], _ => rfl
theorem Top.b_law_feed {w : World} {K : PySem.W.Frag} {mg : Str → Option Value} (T : Top w K mg) : Binds K T.fd_law_feed ["cell", "many"] [] := T.F_law_feed.binds fun _ _ _ _ _ _ us hl => match us, hl with | [_, _], _ => rfl
theorem Top.b_law_take {w : World} {K : PySem.W.Frag} {mg : Str → Option Value} (T : Top w K mg) : Binds K T.fd_law_take ["feed", "limit"] [] := T.F_law_take.binds fun _ _ _ _ _ _ us hl => match us, hl with | [_, _], _ => rfl
theorem Top.b_law_drawn {w : World} {K : PySem.W.Frag} {mg : Str → Option Value} (T : Top w K mg) : Binds K T.fd_law_drawn ["feed", "depth"] [] := T.F_law_drawn.binds fun _ _ _ _ _ _ us hl => match us, hl with | [_, _], _ => rfl
theorem Top.b_law_brackets {w : World} {K : PySem.W.Frag} {mg : Str → Option Value} (T : Top w K mg) : Binds K T.fd_law_brackets ["feed"] [] := T.F_law_brackets.binds fun _ _ _ _ _ _ us hl => match us, hl with | [_], _ => rfl
theorem Top.b_law_line {w : World} {K : PySem.W.Frag} {mg : Str → Option Value} (T : Top w K mg) : Binds K T.fd_law_line ["feed"] [] := T.F_law_line.binds fun _ _ _ _ _ _ us hl => match us, hl with | [_], _ => rfl
theorem Top.b_law_number {w : World} {K : PySem.W.Frag} {mg : Str → Option Value} (T : Top w K mg) : Binds K T.fd_law_number ["number"] [] := T.F_law_number.binds fun _ _ _ _ _ _ us hl => match us, hl with | [_], _ => rfl
theorem Top.b_law_units {w : World} {K : PySem.W.Frag} {mg : Str → Option Value} (T : Top w K mg) : Binds K T.fd_law_units ["product"] [] := T.F_law_units.binds fun _ _ _ _ _ _ us hl => match us, hl with | [_], _ => rfl
theorem Top.b_law_text {w : World} {K : PySem.W.Frag} {mg : Str → Option Value} (T : Top w K mg) : Binds K T.fd_law_text ["e"] [] := T.F_law_text.binds fun _ _ _ _ _ _ us hl => match us, hl with | [_], _ => rfl
theorem Top.b_law_shown {w : World} {K : PySem.W.Frag} {mg : Str → Option Value} (T : Top w K mg) : Binds K T.fd_law_shown ["line"] [] := T.F_law_shown.binds fun _ _ _ _ _ _ us hl => match us, hl with | [_], _ => rfl
theorem Top.b_law_bare {w : World} {K : PySem.W.Frag} {mg : Str → Option Value} (T : Top w K mg) : Binds K T.fd_law_bare ["tree"] [] := T.F_law_bare.binds fun _ _ _ _ _ _ us hl => match us, hl with | [_], _ => rfl
theorem Top.b_law_marks {w : World} {K : PySem.W.Frag} {mg : Str → Option Value} (T : Top w K mg) : Binds K T.fd_law_marks ["text", "tree"] [] := T.F_law_marks.binds fun _ _ _ _ _ _ us hl => match us, hl with | [_, _], _ => rfl
theorem Top.b_law_read {w : World} {K : PySem.W.Frag} {mg : Str → Option Value} (T : Top w K mg) : Binds K T.fd_law_read ["text"] [] := T.F_law_read.binds fun _ _ _ _ _ _ us hl => match us, hl with | [_], _ => rfl
theorem Top.b_law {w : World} {K : PySem.W.Frag} {mg : Str → Option Value} (T : Top w K mg) : Binds K T.fd_law ["script"] [] := T.F_law.binds fun _ _ _ _ _ _ us hl => match us, hl with | [_], _ => rfl
end Tk

namespace Tk
open PySem PySem.Spec PyProof.Rows L2 Ly Lx TL Px
theorem ok_Malformed_init {P : Program} {w : World} {K : PySem.W.Frag} {mg : Str → Option Value} {base : Heap} (T : Top w K mg) : FnOk P w K mg base CX0 1 T.i_Malformed T.fd_Malformed___init__ ["self", "at"] (spXI K T.a_Malformed "at") := by
  refine T.F_Malformed___init__.ok sc_Malformed___init__ (fun vs H Q E h => ?_) (fun cdv A outer s H vs Q E hr h => ?_)
  · obtain ⟨a, v, rfl, _⟩ := h
    rfl
  · obtain ⟨a, v, rfl, C, no, ea, q⟩ := h
    exact ⟨_, (pss_one (ps_ost (pv 0) (pv 1))), v, rfl, .ref a, rfl, a, _, rfl, C, no, .inl ⟨ea, fun dx n ne => q dx n ne⟩⟩
theorem ok_Oversized_init {P : Program} {w : World} {K : PySem.W.Frag} {mg : Str → Option Value} {base : Heap} (T : Top w K mg) : FnOk P w K mg base CX0 1 T.i_Oversized T.fd_Oversized___init__ ["self", "limit"] (spXI K T.a_Oversized "limit") := by
  refine T.F_Oversized___init__.ok sc_Oversized___init__ (fun vs H Q E h => ?_) (fun cdv A outer s H vs Q E hr h => ?_)
  · obtain ⟨a, v, rfl, _⟩ := h
    rfl
  · obtain ⟨a, v, rfl, C, no, ea, q⟩ := h
    exact ⟨_, (pss_one (ps_ost (pv 0) (pv 1))), v, rfl, .ref a, rfl, a, _, rfl, C, no, .inl ⟨ea, fun dx n ne => q dx n ne⟩⟩
/-! ### the reader's methods -/
def clOf {w : World} {K : PySem.W.Frag} {mg : Str → Option Value} (T : Top w K mg) : Cl := ⟨T.a_Reader, T.a_Malformed, T.a_Oversized⟩
section
variable {P : Program} {w : World} {K : PySem.W.Frag} {mg : Str → Option Value} {base : Heap}
/-- a method that looks only, or a step of the reader: self at R.r, k tokens taken -/
def spLook (K : PySem.W.Frag) (c : Cl) (f : List (Tkn × Nat) → Nat → Nat → V) : Sp := fun vs H Q _ => ∃ (R : RS) (k : Nat), vs = [.ref R.r] ∧ R.at_ K c.rd H k ∧ Q (f R.all R.n k) H
theorem okT_Reader_ended (T : Top w K mg) : FnT P w K mg base 1 T.a_Reader_ended T.fd_Reader_ended ["self"] (spLook K (clOf T) fun all _ k => .bl (decide (k = all.length))) := by
  refine okT T.F_Reader_ended sc_Reader_ended (fun vs H Q E h => ?_) (fun cdv A outer s H vs Q E hr h => ?_)
  · obtain ⟨R, k, rfl, _⟩ := h
    rfl
  · obtain ⟨R, k, rfl, ha, q⟩ := h
    refine ⟨_, (pss_one (ps_ret (pe_cmpR op_eq (pe_fld (pv 0) rfl) (pe_callB call_len (by rfl) T.n_len bt_len (pa_cons (pe_fld (pv 0) rfl) pa_nil)) (nomark _)))), ?_⟩
    have hl : R.xs.length = R.all.length := by rw [dps_len ha.2.2.1, List.length_map]
    refine ⟨_, rfl, _, _, _, _, _, rfl, ha.1, T.cl_Reader, T.nF_Reader_taken, rfl, _, rfl, _, _, _, _, _, rfl, ha.1, T.cl_Reader, T.nF_Reader_found, rfl, _, R.all.length, rfl, .inl ⟨_, SqL.of ha.2.1, hl.symm⟩, rfl, ?_⟩
    rw [dec_int]
    have e : ((k : Int) == (R.all.length : Int)) = decide (k = R.all.length) := by
      by_cases h : k = R.all.length
      · rw [h, decide_eq_true rfl]
        exact beq_self_eq_true _
      · rw [decide_eq_false h]
        exact beq_eq_false_iff_ne.mpr fun z => h (by omega)
    rw [e]
    exact q
/-- the item at the place -/
theorem tok_at {R : RS} {C : Addr} {H : Hp} {k : Nat} (ha : R.at_ K C H k) (h : k < R.all.length) : ∃ a v, R.all[k]? = some R.all[k] ∧ R.xs[k]? = some (.ref a) ∧ SqT K H a [.str (kindOf R.all[k].1), v, .int (R.all[k].2 : Int)] ∧ Dp K H v (valD R.all[k].1) := by
  have e1 := List.getElem?_eq_getElem h
  obtain ⟨v, hv, hd⟩ := dps_get (j := k) ha.2.2.1 (by rw [List.getElem?_map, e1]; rfl)
  cases hd with
  | tup hs hall =>
    cases hall with
    | cons h1 h2 =>
      cases h2 with
      | cons h3 h4 =>
        cases h4 with
        | cons h5 h6 =>
          cases h1
          cases h5
          cases h6
          exact ⟨_, _, e1, hv, hs, h3⟩
end
end Tk

namespace Tk
open PySem PySem.Spec PyProof.Rows L2 Ly Lx TL Px
section
variable {P : Program} {w : World} {K : PySem.W.Frag} {mg : Str → Option Value} {base : Heap}
theorem okT_Reader_where (T : Top w K mg) : FnT P w K mg base 2 T.a_Reader_where T.fd_Reader_where ["self"] (spLook K (clOf T) fun all n k => .int (wh all n k : Int)) := by
  refine okT T.F_Reader_where sc_Reader_where (fun vs H Q E h => ?_) (fun cdv A outer s H vs Q E hr h => ?_)
  · obtain ⟨R, k, rfl, _⟩ := h
    rfl
  · obtain ⟨R, k, rfl, ha, q⟩ := h
    have q : Q (.int (wh R.all R.n k : Int)) H := q
    refine ⟨_, (pss_cons (ps_if (pt_val (pe_meth0T (pv 0) T.cl_Reader T.M_Reader_ended (okT_Reader_ended T) (hr.mono (by first | decide | omega)) T.b_Reader_ended (fun σ => L2N.passAt (L2N.takes_of rfl rfl rfl rfl) σ)))
      (pss_one (ps_ret (pe_fld (pv 0) rfl)))
      pss_nil)
      (pss_one (ps_ret (pe_ix ix_seq (pe_ix ix_seq (pe_fld (pv 0) rfl) (pe_fld (pv 0) rfl) (fun _ _ => rfl)) pe_int (fun _ _ => rfl))))), ?_⟩
    refine ⟨_, rfl, R.r, _, _, rfl, ha.1, rfl, R, k, rfl, ha, _, rfl, ite2 (fun hc => ?_) (fun hc => ?_)⟩
    · have hk : k = R.all.length := of_decide_eq_true hc
      have e : wh R.all R.n k = R.n := by
        unfold wh
        rw [List.getElem?_eq_none (by omega)]
      rw [e] at q
      exact ⟨_, rfl, _, _, _, _, _, rfl, ha.1, T.cl_Reader, T.nF_Reader_length, rfl, q⟩
    · have hk : k < R.all.length := by
        have h1 := of_decide_eq_false (Bool.eq_false_iff.mpr hc)
        have h2 := ha.le
        omega
      obtain ⟨a, v, e1, hv, hs, hd⟩ := tok_at ha hk
      have e : wh R.all R.n k = R.all[k].2 := by
        unfold wh
        rw [e1]
      rw [e] at q
      exact ⟨_, rfl, _, _, _, _, _, rfl, ha.1, T.cl_Reader, T.nF_Reader_found, rfl, _, rfl, _, _, _, _, _, rfl, ha.1, T.cl_Reader, T.nF_Reader_taken, rfl,
        .inl ⟨R.l, _, _, _, rfl, rfl, SqL.of ha.2.1, atI_nat hv, .inr (.inl ⟨a, _, _, _, rfl, rfl, hs, rfl, q⟩)⟩⟩
def spSees (K : PySem.W.Frag) (c : Cl) : Sp := fun vs H Q _ => ∃ (R : RS) (k : Nat) (p : Addr) (ws : List Str), vs = [.ref R.r, .ref p] ∧ R.at_ K c.rd H k ∧ SqT K H p (ws.map V.str) ∧ SeqAt.shaped (.tuple (ws.map PyData.str)) = true ∧ Q (.bl (seesB R.all ws k)) H
theorem dp_strs {H : Hp} : ∀ ws : List Str, DpAll K H (ws.map V.str) (ws.map PyData.str)
  | [] => .nil
  | w :: ws => .cons (.str w) (dp_strs ws)
theorem okT_Reader_sees (T : Top w K mg) : FnT P w K mg base 2 T.a_Reader_sees T.fd_Reader_sees ["self", "values"] (spSees K (clOf T)) := by
  refine okT T.F_Reader_sees sc_Reader_sees (fun vs H Q E h => ?_) (fun cdv A outer s H vs Q E hr h => ?_)
  · obtain ⟨R, k, p, ws, rfl, _⟩ := h
    rfl
  · obtain ⟨R, k, p, ws, rfl, ha, hp, hsh, q⟩ := h
    refine ⟨_, (pss_one (ps_ret (pe_and (pe_not (pe_meth0T (pv 0) T.cl_Reader T.M_Reader_ended (okT_Reader_ended T) (hr.mono (by first | decide | omega)) T.b_Reader_ended (fun σ => L2N.passAt (L2N.takes_of rfl rfl rfl rfl) σ))) (pe_one (pe_cmpR (op_inTD hr.u128) (pe_ix ix_seq (pe_ix ix_seq (pe_fld (pv 0) rfl) (pe_fld (pv 0) rfl) (fun _ _ => rfl)) pe_int (fun _ _ => rfl)) (pv 1) (by rfl)))))), ?_⟩
    refine ⟨_, rfl, R.r, _, _, rfl, ha.1, rfl, R, k, rfl, ha, _, rfl, _, rfl, ?_⟩
    by_cases hk : k = R.all.length
    · have e : seesB R.all ws k = false := by
        unfold seesB
        rw [List.getElem?_eq_none (by omega)]
      rw [decide_eq_true hk]
      rw [e] at q
      exact iteF q
    · have hk' : k < R.all.length := by
        have h2 := ha.le
        omega
      obtain ⟨a, v, e1, hv, hs, hd⟩ := tok_at ha hk'
      have e : seesB R.all ws k = valIn R.all[k].1 ws := by
        unfold seesB
        rw [e1]
      rw [decide_eq_false hk]
      rw [e, ← any_in] at q
      exact iteT ⟨_, rfl, _, _, _, _, _, rfl, ha.1, T.cl_Reader, T.nF_Reader_found, rfl, _, rfl, _, _, _, _, _, rfl, ha.1, T.cl_Reader, T.nF_Reader_taken, rfl,
        .inl ⟨R.l, _, _, _, rfl, rfl, SqL.of ha.2.1, atI_nat hv, .inr (.inl ⟨a, _, _, _, rfl, rfl, hs, rfl, _, rfl, _, _, hd, .tup hp (dp_strs ws), R.ok _ (List.getElem_mem hk'), hsh, q⟩)⟩⟩
def spKind (K : PySem.W.Frag) (c : Cl) : Sp := fun vs H Q _ => ∃ (R : RS) (k : Nat) (kd : Str), vs = [.ref R.r, .str kd] ∧ R.at_ K c.rd H k ∧ Q (.bl (kindB R.all kd k)) H
theorem okT_Reader_sees_kind (T : Top w K mg) : FnT P w K mg base 2 T.a_Reader_sees_kind T.fd_Reader_sees_kind ["self", "kind"] (spKind K (clOf T)) := by
  refine okT T.F_Reader_sees_kind sc_Reader_sees_kind (fun vs H Q E h => ?_) (fun cdv A outer s H vs Q E hr h => ?_)
  · obtain ⟨R, k, kd, rfl, _⟩ := h
    rfl
  · obtain ⟨R, k, kd, rfl, ha, q⟩ := h
    refine ⟨_, (pss_one (ps_ret (pe_and (pe_not (pe_meth0T (pv 0) T.cl_Reader T.M_Reader_ended (okT_Reader_ended T) (hr.mono (by first | decide | omega)) T.b_Reader_ended (fun σ => L2N.passAt (L2N.takes_of rfl rfl rfl rfl) σ))) (pe_one (pe_cmpR op_eq (pe_ix ix_seq (pe_ix ix_seq (pe_fld (pv 0) rfl) (pe_fld (pv 0) rfl) (fun _ _ => rfl)) pe_int (fun _ _ => rfl)) (pv 1) (nomark _)))))), ?_⟩
    refine ⟨_, rfl, R.r, _, _, rfl, ha.1, rfl, R, k, rfl, ha, _, rfl, _, rfl, ?_⟩
    by_cases hk : k = R.all.length
    · have e : kindB R.all kd k = false := by
        unfold kindB
        rw [List.getElem?_eq_none (by omega)]
      rw [decide_eq_true hk]
      rw [e] at q
      exact iteF q
    · have hk' : k < R.all.length := by
        have h2 := ha.le
        omega
      obtain ⟨a, v, e1, hv, hs, hd⟩ := tok_at ha hk'
      have e : kindB R.all kd k = (kindOf R.all[k].1 == kd) := by
        unfold kindB
        rw [e1]
      rw [decide_eq_false hk]
      rw [e] at q
      refine iteT ⟨_, rfl, _, _, _, _, _, rfl, ha.1, T.cl_Reader, T.nF_Reader_found, rfl, _, rfl, _, _, _, _, _, rfl, ha.1, T.cl_Reader, T.nF_Reader_taken, rfl,
        .inl ⟨R.l, _, _, _, rfl, rfl, SqL.of ha.2.1, atI_nat hv, .inr (.inl ⟨a, _, _, _, rfl, rfl, hs, rfl, _, rfl, rfl, ?_⟩)⟩⟩
      rw [dec_str]
      exact q
/-- taking a token -/
theorem take_at {R : RS} {c : Cl} {H : Hp} {k : Nat} (ha : R.at_ K c.rd H k) (h : k < R.all.length) {fs : List (Str × V)}
    (hf : fs = putF "taken" (.int ((k : Int) + 1)) [("found", .ref R.l), ("length", .int (R.n : Int)), ("taken", .int (k : Int))]) :
    Go R.r H (upd H R.r (.ins c.rd R.dx fs)) ∧ R.at_ K c.rd (upd H R.r (.ins c.rd R.dx fs)) (k + 1) := by
  refine ⟨go_upd, ha.go go_upd ?_ h⟩
  subst hf
  rw [upd_same]
  rfl
def spTake (K : PySem.W.Frag) (c : Cl) : Sp := fun vs H Q _ => ∃ (R : RS) (k : Nat), vs = [.ref R.r] ∧ R.at_ K c.rd H k ∧ k < R.all.length ∧
  ∀ H' v, Go R.r H H' → R.at_ K c.rd H' (k + 1) → Dp K H' v (tvAt R.all k) → (∀ x, tvAt R.all k = .str x → v = .str x) → Q v H'
theorem okT_Reader_take (T : Top w K mg) : FnT P w K mg base 1 T.a_Reader_take T.fd_Reader_take ["self"] (spTake K (clOf T)) := by
  refine okT T.F_Reader_take sc_Reader_take (fun vs H Q E h => ?_) (fun cdv A outer s H vs Q E hr h => ?_)
  · obtain ⟨R, k, rfl, _⟩ := h
    rfl
  · obtain ⟨R, k, rfl, ha, hk, q⟩ := h
    refine ⟨_, (pss_cons (ps_set (i := 1) sc_Reader_take.nd rfl (.inl rfl) (by exact (pe_ix ix_seq (pe_ix ix_seq (pe_fld (pv 0) rfl) (pe_fld (pv 0) rfl) (fun _ _ => rfl)) pe_int (fun _ _ => rfl))))
      (pss_cons (ps_fldaug (pv 0) pe_int in_add)
      (pss_one (ps_ret (pv 1))))), ?_⟩
    obtain ⟨a, v, e1, hv, hs, hd⟩ := tok_at ha hk
    have e : tvAt R.all k = valD R.all[k].1 := by
      unfold tvAt
      rw [e1]
    refine ⟨_, rfl, _, _, _, _, _, rfl, ha.1, T.cl_Reader, T.nF_Reader_found, rfl, _, rfl, _, _, _, _, _, rfl, ha.1, T.cl_Reader, T.nF_Reader_taken, rfl,
        .inl ⟨R.l, _, _, _, rfl, rfl, SqL.of ha.2.1, atI_nat hv, .inr (.inl ⟨a, _, _, _, rfl, rfl, hs, rfl, ?_⟩)⟩⟩
    obtain ⟨g, ha'⟩ := take_at ha hk rfl
    refine ⟨_, rfl, _, _, _, _, _, rfl, ha.1, T.cl_Reader, T.nF_Reader_taken, rfl, _, _, rfl, rfl, _, _, ha.1, by show 3 < 1000; decide, _, rfl, ?_⟩
    refine q _ _ g ha' (by rw [e]; exact dp_go g ha.ins (noL_val _) hd) fun x hx => ?_
    rw [e] at hx
    rw [hx] at hd
    cases hd
    rfl
def spAcc (K : PySem.W.Frag) (c : Cl) : Sp := fun vs H Q _ => ∃ (R : RS) (k : Nat) (x : Str), vs = [.ref R.r, .str x] ∧ R.at_ K c.rd H k ∧ SeqAt.shaped (.tuple [.str x]) = true ∧
  (seesB R.all [x] k = true → ∀ H', Go R.r H H' → R.at_ K c.rd H' (k + 1) → Q (.bl true) H') ∧ (seesB R.all [x] k = false → ∀ H', Go R.r H H' → R.at_ K c.rd H' k → Q (.bl false) H')
theorem sees_lt {all : List (Tkn × Nat)} {ws : List Str} {k : Nat} (h : seesB all ws k = true) : k < all.length := by
  unfold seesB at h
  cases e : all[k]? with
  | none => rw [e] at h; cases h
  | some t => exact (List.getElem?_eq_some_iff.mp e).1
theorem kind_lt {all : List (Tkn × Nat)} {kd : Str} {k : Nat} (h : kindB all kd k = true) : k < all.length := by
  unfold kindB at h
  cases e : all[k]? with
  | none => rw [e] at h; cases h
  | some t => exact (List.getElem?_eq_some_iff.mp e).1
theorem okT_Reader_accept (T : Top w K mg) : FnT P w K mg base 3 T.a_Reader_accept T.fd_Reader_accept ["self", "value"] (spAcc K (clOf T)) := by
  refine okT T.F_Reader_accept sc_Reader_accept (fun vs H Q E h => ?_) (fun cdv A outer s H vs Q E hr h => ?_)
  · obtain ⟨R, k, x, rfl, _⟩ := h
    rfl
  · obtain ⟨R, k, x, rfl, ha, hsh, qt, qf⟩ := h
    refine ⟨_, (pss_cons (ps_if (pt_not (pt_val (pe_methT (pv 0) T.cl_Reader T.M_Reader_sees (okT_Reader_sees T) (hr.mono (by first | decide | omega)) T.b_Reader_sees (fun σ => L2N.passAt (L2N.takes_of rfl rfl rfl rfl) σ) (by exact (pa_cons (pe_tup (pa_cons (pv 1) pa_nil)) pa_nil)))))
      (pss_one (ps_ret pe_bl))
      pss_nil)
      (pss_cons (ps_fldaug (pv 0) pe_int in_add)
      (pss_one (ps_ret pe_bl)))), ?_⟩
    refine ⟨_, rfl, R.r, _, _, rfl, ha.1, rfl, _, rfl, by show 1 ≤ sizeLine; decide, fun p np => ?_⟩
    have hs := Ly.same_new (o := .tup [.str x]) np
    have ha1 := ha.same hs
    refine ⟨R, k, p, [x], rfl, ha1, SqT.of upd_same, hsh, _, rfl, ite2 (fun hc => ?_) (fun hc => ?_)⟩
    · have hc' : seesB R.all [x] k = false := by simpa using hc
      exact qf hc' _ (go_same hs) ha1
    · have hc' : seesB R.all [x] k = true := by simpa using hc
      obtain ⟨g, ha'⟩ := take_at ha1 (sees_lt hc') rfl
      exact ⟨_, rfl, _, _, _, _, _, rfl, ha1.1, T.cl_Reader, T.nF_Reader_taken, rfl, _, _, rfl, rfl, _, _, ha1.1, by show 3 < 1000; decide, qt hc' _ ((go_same hs).trans g) ha'⟩
def spOutS (K : PySem.W.Frag) (c : Cl) (f : Str → List (Tkn × Nat) → Nat → Nat → Res) : Sp := fun vs H Q E => ∃ (R : RS) (k : Nat) (x : Str), vs = [.ref R.r, .str x] ∧ R.at_ K c.rd H k ∧ SeqAt.shaped (.tuple [.str x]) = true ∧ Out K c R k H (f x R.all R.n k) Q E
def spOutI (K : PySem.W.Frag) (c : Cl) (f : Nat → List (Tkn × Nat) → Nat → Nat → Res) : Sp := fun vs H Q E => ∃ (R : RS) (k g : Nat), vs = [.ref R.r, .int (g : Int)] ∧ R.at_ K c.rd H k ∧ Out K c R k H (f g R.all R.n k) Q E
theorem err_new {R : RS} {C : Addr} {f : Str} {v : V} {H : Hp} {E : XK} (h : ErrG R C f v H E) {d : Addr} (hd : H d = none) : E (.ref C) (some d) (upd H d (.xd [(f, v)])) := h d _ (go_new hd) hd upd_same
theorem okT_Reader_expect (T : Top w K mg) : FnT P w K mg base 15 T.a_Reader_expect T.fd_Reader_expect ["self", "value"] (spOutS K (clOf T) fun x all n k => expectS all n x k) := by
  refine okT T.F_Reader_expect sc_Reader_expect (fun vs H Q E h => ?_) (fun cdv A outer s H vs Q E hr h => ?_)
  · obtain ⟨R, k, x, rfl, _⟩ := h
    rfl
  · obtain ⟨R, k, x, rfl, ha, hsh, q⟩ := h
    refine ⟨_, (pss_one (ps_if (pt_not (pt_val (pe_methT (pv 0) T.cl_Reader T.M_Reader_accept (okT_Reader_accept T) (hr.mono (by first | decide | omega)) T.b_Reader_accept (fun σ => L2N.passAt (L2N.takes_of rfl rfl rfl rfl) σ) (by exact (pa_cons (pv 1) pa_nil)))))
      (pss_one (ps_raiseX rfl (L2N.takes_of rfl rfl rfl rfl) T.x_Malformed (ok_Malformed_init T) (RoomT.room (k := 2) (hr.mono (by first | decide | omega))) T.b_Malformed_init (pa_cons (pe_meth0T (pv 0) T.cl_Reader T.M_Reader_where (okT_Reader_where T) (hr.mono (by first | decide | omega)) T.b_Reader_where (fun σ => L2N.passAt (L2N.takes_of rfl rfl rfl rfl) σ)) pa_nil)))
      pss_nil)), ?_⟩
    have q : Out K (clOf T) R k H (expectS R.all R.n x k) Q E := q
    unfold expectS at q
    refine ⟨_, rfl, R.r, _, _, rfl, ha.1, rfl, _, rfl, R, k, x, rfl, ha, hsh, fun hs H' g ha' => ⟨_, rfl, ?_⟩, fun hs H' g ha' => ⟨_, rfl, ?_⟩⟩
    · rw [if_pos hs] at q
      exact iteF (q (Nat.le_succ k) H' .non g ha' .non rfl)
    · rw [if_neg (by rw [hs]; exact Bool.false_ne_true)] at q
      refine iteT ⟨_, rfl, R.r, _, _, rfl, ha'.1, rfl, R, k, rfl, ha', _, rfl, fun d hd => ?_⟩
      exact err_new (ErrG.go q g) hd
theorem okT_Reader_expect_kind (T : Top w K mg) : FnT P w K mg base 15 T.a_Reader_expect_kind T.fd_Reader_expect_kind ["self", "kind"] (spOutS K (clOf T) fun x all n k => expectKind all n x k) := by
  refine okT T.F_Reader_expect_kind sc_Reader_expect_kind (fun vs H Q E h => ?_) (fun cdv A outer s H vs Q E hr h => ?_)
  · obtain ⟨R, k, x, rfl, _⟩ := h
    rfl
  · obtain ⟨R, k, x, rfl, ha, hsh, q⟩ := h
    refine ⟨_, (pss_cons (ps_if (pt_not (pt_val (pe_methT (pv 0) T.cl_Reader T.M_Reader_sees_kind (okT_Reader_sees_kind T) (hr.mono (by first | decide | omega)) T.b_Reader_sees_kind (fun σ => L2N.passAt (L2N.takes_of rfl rfl rfl rfl) σ) (by exact (pa_cons (pv 1) pa_nil)))))
      (pss_one (ps_raiseX rfl (L2N.takes_of rfl rfl rfl rfl) T.x_Malformed (ok_Malformed_init T) (RoomT.room (k := 2) (hr.mono (by first | decide | omega))) T.b_Malformed_init (pa_cons (pe_meth0T (pv 0) T.cl_Reader T.M_Reader_where (okT_Reader_where T) (hr.mono (by first | decide | omega)) T.b_Reader_where (fun σ => L2N.passAt (L2N.takes_of rfl rfl rfl rfl) σ)) pa_nil)))
      pss_nil)
      (pss_one (ps_ret (pe_meth0T (pv 0) T.cl_Reader T.M_Reader_take (okT_Reader_take T) (hr.mono (by first | decide | omega)) T.b_Reader_take (fun σ => L2N.passAt (L2N.takes_of rfl rfl rfl rfl) σ))))), ?_⟩
    have q : Out K (clOf T) R k H (expectKind R.all R.n x k) Q E := q
    unfold expectKind at q
    refine ⟨_, rfl, R.r, _, _, rfl, ha.1, rfl, _, rfl, R, k, x, rfl, ha, _, rfl, ?_⟩
    cases hs : kindB R.all x k with
    | true =>
      rw [if_pos hs] at q
      refine iteF ⟨_, rfl, R.r, _, _, rfl, ha.1, rfl, R, k, rfl, ha, kind_lt hs, fun H' v g ha' hd hx => ?_⟩
      refine q (Nat.le_succ k) H' v g ha' hd ?_
      unfold tvAt
      cases R.all[k]? with
      | none => rfl
      | some t => exact noL_val _
    | false =>
      rw [if_neg (by rw [hs]; exact Bool.false_ne_true)] at q
      refine iteT ⟨_, rfl, R.r, _, _, rfl, ha.1, rfl, R, k, rfl, ha, _, rfl, fun d hd => ?_⟩
      exact err_new q hd
theorem okT_Reader_expect_whole (T : Top w K mg) : FnT P w K mg base 16 T.a_Reader_expect_whole T.fd_Reader_expect_whole ["self", "greatest"] (spOutI K (clOf T) fun g all n k => expectWhole all n g k) := by
  refine okT T.F_Reader_expect_whole sc_Reader_expect_whole (fun vs H Q E h => ?_) (fun cdv A outer s H vs Q E hr h => ?_)
  · obtain ⟨R, k, g, rfl, _⟩ := h
    rfl
  · obtain ⟨R, k, g, rfl, ha, q⟩ := h
    refine ⟨_, (pss_cons (ps_set (i := 2) sc_Reader_expect_whole.nd rfl (.inl rfl) (by exact (pe_meth0T (pv 0) T.cl_Reader T.M_Reader_where (okT_Reader_where T) (hr.mono (by first | decide | omega)) T.b_Reader_where (fun σ => L2N.passAt (L2N.takes_of rfl rfl rfl rfl) σ))))
      (pss_cons (ps_asg (pe_methT (pv 0) T.cl_Reader T.M_Reader_expect_kind (okT_Reader_expect_kind T) (hr.mono (by first | decide | omega)) T.b_Reader_expect_kind (fun σ => L2N.passAt (L2N.takes_of rfl rfl rfl rfl) σ) (by exact (pa_cons pe_str pa_nil))) (pg_tup rfl (pgs_cons (pg_name (i := 3) sc_Reader_expect_whole.nd rfl (.inl rfl)) (pgs_cons (pg_name (i := 4) sc_Reader_expect_whole.nd rfl (.inl rfl)) pgs_nil))))
      (pss_cons (ps_if (PW.pt (pw_or (pt_cmpR op_ne (pv 4) pe_int (nomark _)) (pw_or1 (pt_cmpR op_gt (pv 3) (pv 1) (nomark _)))))
      (pss_one (ps_raiseX rfl (L2N.takes_of rfl rfl rfl rfl) T.x_Malformed (ok_Malformed_init T) (RoomT.room (k := 2) (hr.mono (by first | decide | omega))) T.b_Malformed_init (pa_cons (pv 2) pa_nil)))
      pss_nil)
      (pss_one (ps_ret (pv 3)))))), ?_⟩
    have q : Out K (clOf T) R k H (expectWhole R.all R.n g k) Q E := q
    have hkey : kindB R.all "number" k = false → expectWhole R.all R.n g k = .error (.mal (wh R.all R.n k)) := fun h => by
      unfold kindB at h
      unfold expectWhole
      cases e : R.all[k]? with
      | none => rfl
      | some t =>
        rw [e] at h
        obtain ⟨t, i⟩ := t
        cases t with
        | num a b =>
          have h' : (("number" : Str) == "number") = false := h
          exact absurd h' (by decide)
        | word _ => rfl
        | name _ => rfl
        | sign _ => rfl
    refine ⟨_, rfl, R.r, _, _, rfl, ha.1, rfl, R, k, rfl, ha, ?_⟩
    refine ⟨_, rfl, R.r, _, _, rfl, ha.1, rfl, R, k, "number", rfl, ha, sh1 _, ?_⟩
    show Out K (clOf T) R k H (expectKind R.all R.n "number" k) _ _
    unfold expectKind
    cases hs : kindB R.all "number" k with
    | false =>
      rw [if_neg Bool.false_ne_true]
      rw [hkey hs] at q
      exact q
    | true =>
      rw [if_pos rfl]
      have hk := kind_lt hs
      obtain ⟨t, i, e⟩ : ∃ t i, R.all[k]? = some (t, i) := ⟨_, _, List.getElem?_eq_getElem hk⟩
      unfold kindB at hs
      rw [e] at hs
      cases t with
      | word _ => exact absurd (show (("word" : Str) == "number") = true from hs) (by decide)
      | name _ => exact absurd (show (("name" : Str) == "number") = true from hs) (by decide)
      | sign _ => exact absurd (show (("sign" : Str) == "number") = true from hs) (by decide)
      | num a b =>
        unfold expectWhole at q
        rw [e] at q
        dsimp only at q
        have ew : wh R.all R.n k = i := by
          unfold wh
          rw [e]
        rw [← ew] at q
        have ev : tvAt R.all k = .tuple [.int (a : Int), .int (b : Int)] := by
          unfold tvAt
          rw [e]
          rfl
        intro hk1 H' v g1 ha' hd hn
        rw [ev] at hd
        cases hd with
        | tup hst hal =>
          cases hal with
          | cons h1 h2 =>
            cases h2 with
            | cons h3 h4 =>
              cases h4
              cases h1
              cases h3
              rename_i p
              refine ⟨p, _, rfl, hst, rfl, _, _, rfl, _, _, rfl, rfl, ?_⟩
              refine ⟨_, rfl, rfl, ?_⟩
              rw [dec_int]
              refine ⟨_, rfl, ite2 (fun hb => iteT ?_) (fun hb => ?_)⟩
              · have hb' : b ≠ 1 := by
                  intro z
                  subst z
                  exact absurd hb (by decide)
                rw [if_pos (.inl hb')] at q
                refine ⟨_, rfl, _, rfl, fun d hd => ?_⟩
                exact err_new (ErrG.go q g1) hd
              · have hb' : b = 1 := by
                  have : ((b : Int) == 1) = true := by simpa using hb
                  have := beq_iff_eq.mp this
                  omega
                refine ⟨_, rfl, _, rfl, _, _, rfl, rfl, _, rfl, ite2 (fun hg => ?_) (fun hg => ?_)⟩
                · have hg' : g < a := by
                    have := of_decide_eq_true hg
                    omega
                  rw [if_pos (.inr hg')] at q
                  refine ⟨_, rfl, _, rfl, fun d hd => ?_⟩
                  exact err_new (ErrG.go q g1) hd
                · have hg' : ¬ g < a := by
                    have := of_decide_eq_false (Bool.eq_false_iff.mpr hg)
                    omega
                  rw [if_neg (by rintro (z | z) <;> omega)] at q
                  exact ⟨_, rfl, q hk1 H' _ g1 ha' (.int _) rfl⟩
end
end Tk

namespace Tk
open PySem PySem.Spec PyProof.Rows L2 Ly Lx TL Px
/-! ### lists that are filled; deeper, powers, products, numbers -/
section
variable {P : Program} {w : World} {K : PySem.W.Frag} {mg : Str → Option Value} {base : Heap}
theorem noLs_append : ∀ {ds es : List PyData}, noLs ds = true → noLs es = true → noLs (ds ++ es) = true
  | [], _, _, h => h
  | d :: ds, es, h1, h2 => by
    have h1' : (noL d && noLs ds) = true := h1
    rw [Bool.and_eq_true] at h1'
    show (noL d && noLs (ds ++ es)) = true
    rw [h1'.1, noLs_append h1'.2 h2]
    rfl
theorem noLs_one {d : PyData} (h : noL d = true) : noLs [d] = true := by
  show (noL d && true) = true
  rw [h]
  rfl
/-- a list that the def has made is filled -/
structure Fl (K : PySem.W.Frag) (R : RS) (H0 H : Hp) (l : Addr) (xs : List V) (ds : List PyData) : Prop where
  fr : H0 l = none
  nr : l ≠ R.r
  nl : l ≠ R.l
  go : Go R.r H0 H
  is : H l = some (.lst xs)
  dp : DpAll K H xs ds
  no : noLs ds = true
theorem Fl.new {R : RS} {C l : Addr} {H0 H : Hp} {k : Nat} (ha : R.at_ K C H k) (g : Go R.r H0 H) (n : H l = none) : Fl K R H0 (upd H l (.lst [])) l [] [] ∧ R.at_ K C (upd H l (.lst [])) k :=
  ⟨⟨g.free n, fun e => absurd (show some _ = none from ha.1.symm.trans (e ▸ n)) (by simp), fun e => absurd (show some _ = none from ha.2.1.symm.trans (e ▸ n)) (by simp), g.trans (go_new n), upd_same, .nil, rfl⟩, ha.same (Ly.same_new n)⟩
theorem Fl.step {R : RS} {C l : Addr} {H0 H H' : Hp} {k : Nat} {xs : List V} {ds : List PyData} (L : Fl K R H0 H l xs ds) (ha : R.at_ K C H k) (g : Go R.r H H') : Fl K R H0 H' l xs ds :=
  ⟨L.fr, L.nr, L.nl, L.go.trans g, g.1 _ _ L.nr L.is, dps_keep (sqt_go g ha.ins) _ _ L.no L.dp, L.no⟩
theorem Fl.app {R : RS} {C l : Addr} {H0 H : Hp} {k : Nat} {xs : List V} {ds : List PyData} {v : V} {d : PyData} (L : Fl K R H0 H l xs ds) (ha : R.at_ K C H k) (hd : Dp K H v d) (hn : noL d = true) :
    Fl K R H0 (upd H l (.lst (xs ++ [v]))) l (xs ++ [v]) (ds ++ [d]) ∧ R.at_ K C (upd H l (.lst (xs ++ [v]))) k := by
  refine ⟨⟨L.fr, L.nr, L.nl, ⟨fun b o hb e => ?_, fun h => ?_⟩, upd_same, ?_, noLs_append L.no (noLs_one hn)⟩, ?_, ?_, dps_keep (sqt_upd L.is) _ _ (noL_toks _) ha.2.2.1, ha.2.2.2.1, ha.2.2.2.2⟩
  · rw [upd_ne (ne_of_none e L.fr)]
    exact L.go.1 b o hb e
  · rw [upd_ne L.nr.symm]
    exact L.go.2 h
  · exact dps_append (dps_keep (sqt_upd L.is) _ _ L.no L.dp) (.cons (dp_keep (sqt_upd L.is) _ _ hn hd) .nil)
  · rw [upd_ne L.nr.symm]
    exact ha.1
  · rw [upd_ne L.nl.symm]
    exact ha.2.1
theorem Fl.end_ {R : RS} {C l t : Addr} {H0 H : Hp} {k : Nat} {xs : List V} {ds : List PyData} (L : Fl K R H0 H l xs ds) (ha : R.at_ K C H k) (n : H t = none) :
    Go R.r H0 (upd H t (.tup xs)) ∧ R.at_ K C (upd H t (.tup xs)) k ∧ Dp K (upd H t (.tup xs)) (.ref t) (.tuple ds) ∧ noL (.tuple ds) = true :=
  ⟨L.go.trans (go_new n), ha.same (Ly.same_new n), .tup (SqT.of upd_same) (dps_keep (sqt_same (Ly.same_new n)) _ _ L.no L.dp), L.no⟩
theorem Fl.len {R : RS} {l : Addr} {H0 H : Hp} {xs : List V} {ds : List PyData} (L : Fl K R H0 H l xs ds) : xs.length = ds.length := dps_len L.dp
/-- the call of deeper -/
def spDeep (c : Cl) : Sp := fun vs H Q E => ∃ l j : Nat, vs = [.int (l : Int)] ∧ l + (j + 1) = 25 ∧ (j = 0 → ∀ d, H d = none → E (.ref c.ov) (some d) (upd H d (.xd [("limit", .str "depth")]))) ∧ (1 ≤ j → Q (.int ((l + 1 : Nat) : Int)) H)
theorem okT_deeper (T : Top w K mg) : FnT P w K mg base 15 T.a_deeper T.fd_deeper ["level"] (spDeep (clOf T)) := by
  refine okT T.F_deeper sc_deeper (fun vs H Q E h => ?_) (fun cdv A outer s H vs Q E hr h => ?_)
  · obtain ⟨l, j, rfl, _⟩ := h
    rfl
  · obtain ⟨l, j, rfl, hl, q0, q1⟩ := h
    refine ⟨_, (pss_cons (ps_if (pt_cmpR op_eq (pv 0) (pe_glob (by rfl) T.c_DEEPEST T.r_DEEPEST) (nomark _))
      (pss_one (ps_raiseX rfl (L2N.takes_of rfl rfl rfl rfl) T.x_Oversized (ok_Oversized_init T) (RoomT.room (k := 2) (hr.mono (by first | decide | omega))) T.b_Oversized_init (pa_cons pe_str pa_nil)))
      pss_nil)
      (pss_one (ps_ret (pe_op op_plus (pv 0) pe_int)))), ?_⟩
    refine ⟨_, rfl, rfl, ?_⟩
    rw [dec_int]
    refine ⟨_, rfl, ite2 (fun hc => ?_) (fun hc => ?_)⟩
    · have : (l : Int) = 24 := eq_of_beq hc
      have : j = 0 := by omega
      exact ⟨_, rfl, fun d hd => q0 this d hd⟩
    · have : ¬ (l : Int) = 24 := fun h => hc (beq_iff_eq.mpr h)
      exact ⟨_, rfl, .inl ⟨_, _, rfl, rfl, q1 (by omega)⟩⟩
/-- a def of the reader alone -/
def spOut0 (K : PySem.W.Frag) (c : Cl) (f : List (Tkn × Nat) → Nat → Nat → Res) : Sp := fun vs H Q E => ∃ (R : RS) (k : Nat), vs = [.ref R.r] ∧ R.at_ K c.rd H k ∧ Out K c R k H (f R.all R.n k) Q E
theorem whole_int {all : List (Tkn × Nat)} {n g k k1 : Nat} {d : PyData} (h : expectWhole all n g k = .ok (d, k1)) : ∃ t : Nat, d = .int (t : Int) := by
  unfold expectWhole at h
  split at h
  · split at h
    · cases h
    · cases h
      exact ⟨_, rfl⟩
  · cases h
theorem okT_read_power (T : Top w K mg) : FnT P w K mg base 17 T.a_read_power T.fd_read_power ["reader"] (spOut0 K (clOf T) powerM) := by
  refine okT T.F_read_power sc_read_power (fun vs H Q E h => ?_) (fun cdv A outer s H vs Q E hr h => ?_)
  · obtain ⟨R, k, rfl, _⟩ := h
    rfl
  · obtain ⟨R, k, rfl, ha, q⟩ := h
    refine ⟨_, (pss_cons (ps_if (pt_val (pe_methT (pv 0) T.cl_Reader T.M_Reader_accept (okT_Reader_accept T) (hr.mono (by first | decide | omega)) T.b_Reader_accept (fun σ => L2N.passAt (L2N.takes_of rfl rfl rfl rfl) σ) (by exact (pa_cons pe_str pa_nil))))
      (pss_one (ps_ret (pe_un un_neg (pe_methT (pv 0) T.cl_Reader T.M_Reader_expect_whole (okT_Reader_expect_whole T) (hr.mono (by first | decide | omega)) T.b_Reader_expect_whole (fun σ => L2N.passAt (L2N.takes_of rfl rfl rfl rfl) σ) (by exact (pa_cons (pe_glob (by rfl) T.c_GREATEST_POWER T.r_GREATEST_POWER) pa_nil))))))
      pss_nil)
      (pss_one (ps_ret (pe_methT (pv 0) T.cl_Reader T.M_Reader_expect_whole (okT_Reader_expect_whole T) (hr.mono (by first | decide | omega)) T.b_Reader_expect_whole (fun σ => L2N.passAt (L2N.takes_of rfl rfl rfl rfl) σ) (by exact (pa_cons (pe_glob (by rfl) T.c_GREATEST_POWER T.r_GREATEST_POWER) pa_nil)))))), ?_⟩
    unfold powerM at q
    refine ⟨_, rfl, R.r, _, _, rfl, ha.1, rfl, R, k, "-", rfl, ha, sh1 _, fun hs H' g ha' => ⟨_, rfl, iteT ?_⟩, fun hs H' g ha' => ⟨_, rfl, iteF ?_⟩⟩
    · rw [if_pos hs] at q
      refine ⟨_, rfl, R.r, _, _, rfl, ha'.1, rfl, R, k + 1, 9, rfl, ha', ?_⟩
      refine Out.step (Out.go q g) fun d k1 H2 v hr1 hk g2 ha2 hd hn q2 => ?_
      obtain ⟨t, rfl⟩ := whole_int hr1
      cases hd
      exact ⟨_, rfl, Out.ret q2 (by omega) (Go.refl _ _) ha2 (.int _) rfl⟩
    · rw [if_neg (by rw [hs]; exact Bool.false_ne_true)] at q
      refine ⟨_, rfl, R.r, _, _, rfl, ha'.1, rfl, R, k, 9, rfl, ha', Out.go q g⟩
end
end Tk

namespace Tk
open PySem PySem.Spec PyProof.Rows L2 Ly Lx TL Px
/-! ### products -/
section
variable {P : Program} {w : World} {K : PySem.W.Frag} {mg : Str → Option Value} {base : Heap}
theorem kind_noL {all : List (Tkn × Nat)} {n k k1 : Nat} {x : Str} {d : PyData} (h : expectKind all n x k = .ok (d, k1)) : d = tvAt all k ∧ k1 = k + 1 ∧ kindB all x k = true := by
  unfold expectKind at h
  split at h
  · rename_i hb
    cases h
    exact ⟨rfl, rfl, hb⟩
  · cases h
theorem Out.step0 {c : Cl} {R : RS} {k0 k : Nat} {H0 H : Hp} {Q Q' : VK} {E : XK} {r : Res} {g : PyData → Nat → Res} (h : Out K c R k0 H0 (bindR r g) Q E) (g0 : Go R.r H0 H)
    (q : ∀ d k1 H' v, r = .ok (d, k1) → k ≤ k1 → Go R.r H H' → R.at_ K c.rd H' k1 → Dp K H' v d → noL d = true → Out K c R k0 H0 (g d k1) Q E → Q' v H') : Out K c R k H r Q' E := by
  match r, h, q with
  | .ok (d, k1), h, q => exact fun hk H' v g ha hd hn => q d k1 H' v rfl hk g ha hd hn h
  | .error (.mal i), h, _ => exact ErrG.go h g0
  | .error .over, h, _ => exact ErrG.go h g0
theorem okT_read_product (T : Top w K mg) : FnT P w K mg base 19 T.a_read_product T.fd_read_product ["reader"] (spOut0 K (clOf T) productM) := by
  refine okT T.F_read_product sc_read_product (fun vs H Q E h => ?_) (fun cdv A outer s H vs Q E hr h => ?_)
  · obtain ⟨R, k, rfl, _⟩ := h
    rfl
  · obtain ⟨R, k, rfl, ha, q⟩ := h
    refine ⟨_, (pss_cons (ps_expr (pe_methT (pv 0) T.cl_Reader T.M_Reader_expect (okT_Reader_expect T) (hr.mono (by first | decide | omega)) T.b_Reader_expect (fun σ => L2N.passAt (L2N.takes_of rfl rfl rfl rfl) σ) (by exact (pa_cons pe_str pa_nil))))
      (pss_cons (ps_set (i := 1) sc_read_product.nd rfl (.inl rfl) (by exact (pe_lst pa_nil)))
      (pss_cons (ps_while (passes_of rfl) (pt_not (pt_val (pe_methT (pv 0) T.cl_Reader T.M_Reader_accept (okT_Reader_accept T) (hr.mono (by first | decide | omega)) T.b_Reader_accept (fun σ => L2N.passAt (L2N.takes_of rfl rfl rfl rfl) σ) (by exact (pa_cons pe_str pa_nil)))))
      (pss_cons (ps_set (i := 2) sc_read_product.nd rfl (.inl rfl) (by exact (pe_meth0T (pv 0) T.cl_Reader T.M_Reader_where (okT_Reader_where T) (hr.mono (by first | decide | omega)) T.b_Reader_where (fun σ => L2N.passAt (L2N.takes_of rfl rfl rfl rfl) σ))))
      (pss_cons (ps_set (i := 3) sc_read_product.nd rfl (.inl rfl) (by exact (pe_methT (pv 0) T.cl_Reader T.M_Reader_expect_kind (okT_Reader_expect_kind T) (hr.mono (by first | decide | omega)) T.b_Reader_expect_kind (fun σ => L2N.passAt (L2N.takes_of rfl rfl rfl rfl) σ) (by exact (pa_cons pe_str pa_nil)))))
      (pss_cons (ps_set (i := 4) sc_read_product.nd rfl (.inl rfl) (by exact (pe_ifExp (pt_val (pe_methT (pv 0) T.cl_Reader T.M_Reader_accept (okT_Reader_accept T) (hr.mono (by first | decide | omega)) T.b_Reader_accept (fun σ => L2N.passAt (L2N.takes_of rfl rfl rfl rfl) σ) (by exact (pa_cons pe_str pa_nil)))) (pe_callT (okT_read_power T) (hr.mono (by first | decide | omega)) (by rfl) T.m_read_power T.F_read_power.kp T.b_read_power (fun σ => L2N.passAt (L2N.takes_of rfl rfl rfl rfl) σ) (by exact (pa_cons (pv 0) pa_nil))) pe_int)))
      (pss_one (ps_expr (pe_bm PySem.F.plainAttrs_list PySem.F.slot_list_append PySem.F.type_list_append mt_append (pv 1) (pa_cons (pe_tup (pa_cons (pv 3) (pa_cons (pv 4) (pa_cons (pv 2) pa_nil)))) pa_nil))))))))
      (pss_one (ps_ret (pe_callTy call_tuple_of (by rfl) T.n_tuple bt_tuple (pa_cons (pv 1) pa_nil))))))), ?_⟩
    unfold productM at q
    refine ⟨_, rfl, R.r, _, _, rfl, ha.1, rfl, R, k, "[", rfl, ha, sh1 _, ?_⟩
    refine Out.step q fun d0 k1 H1 v0 hr0 hk1 g1 ha1 _ _ q1 => ?_
    clear q
    refine ⟨Nat.zero_le _, fun l nl => ?_⟩
    obtain ⟨L0, ha1'⟩ := Fl.new ha1 (Go.refl R.r H1) nl
    refine ⟨fun m σ H' => ∃ (k' : Nat) (xs : List V) (ds : List PyData) (y2 y3 y4 : Option V), σ = [some (.ref R.r), some (.ref l), y2, y3, y4] ∧ k1 ≤ k' ∧ xs.length ≤ k' ∧ R.all.length + 1 ≤ m + k' ∧
      R.at_ K (clOf T).rd H' k' ∧ Fl K R H1 H' l xs ds ∧ Out K (clOf T) R k H1 (productL R.all R.n m ds k') Q E,
      ⟨R.all.length + 1, k1, [], [], none, none, none, rfl, Nat.le_refl _, Nat.zero_le _, by omega, ha1', L0, q1⟩, ?_⟩
    clear q1 ha1' L0
    rintro m σ H2 ⟨k2, xs, ds, y2, y3, y4, rfl, hk2, hx, hm, ha2, L, q⟩
    have hle := ha2.le
    obtain ⟨f, rfl⟩ : ∃ f, m = f + 1 := ⟨m - 1, by omega⟩
    unfold productL at q
    refine ⟨_, rfl, R.r, _, _, rfl, ha2.1, rfl, R, k2, "]", rfl, ha2, sh1 _, fun hs H3 g3 ha3 => ⟨_, rfl, iteF ?_⟩, fun hs H3 g3 ha3 => ⟨_, rfl, iteT ?_⟩⟩
    · rw [if_pos hs] at q
      have L3 := L.step ha2 g3
      refine ⟨_, rfl, l, xs, rfl, .inl ⟨SqL.of L3.is, fun t nt => ?_⟩⟩
      obtain ⟨ge, hae, hde, hne⟩ := L3.end_ ha3 nt
      exact Out.ret q (by omega) ge hae hde hne
    · rw [if_neg (by rw [hs]; exact Bool.false_ne_true)] at q
      have L3 := L.step ha2 g3
      refine ⟨fun σ' H' => ∃ (k' : Nat) (xs' : List V) (ds' : List PyData) (y2 y3 y4 : Option V), σ' = [some (.ref R.r), some (.ref l), y2, y3, y4] ∧ k1 ≤ k' ∧ xs'.length ≤ k' ∧ R.all.length + 1 ≤ f + k' ∧
        R.at_ K (clOf T).rd H' k' ∧ Fl K R H1 H' l xs' ds' ∧ Out K (clOf T) R k H1 (productL R.all R.n f ds' k') Q E, fun σ' H' hN => ⟨f, by omega, hN⟩, ?_⟩
      -- at, name
      refine ⟨_, rfl, R.r, _, _, rfl, ha3.1, rfl, R, k2, rfl, ha3, ?_⟩
      refine ⟨_, rfl, R.r, _, _, rfl, ha3.1, rfl, R, k2, "name", rfl, ha3, sh1 _, ?_⟩
      refine Out.step0 q L3.go fun nm k4 H4 v4 hr4 hk4 g4 ha4 hd4 hn4 q4 => ?_
      have L4 := L3.step ha3 g4
      obtain ⟨_, hk24, _⟩ := kind_noL hr4
      clear q
      -- power
      refine ⟨_, rfl, R.r, _, _, rfl, ha4.1, rfl, R, k4, "^", rfl, ha4, sh1 _, fun hs5 H5 g5 ha5 => ⟨_, rfl, iteT ?_⟩, fun hs5 H5 g5 ha5 => ⟨_, rfl, iteF ?_⟩⟩
      · rw [if_pos hs5] at q4
        refine ⟨_, rfl, R, k4 + 1, rfl, ha5, ?_⟩
        refine Out.step0 q4 (L4.step ha4 g5).go fun d6 k6 H6 v6 hr6 hk6 g6 ha6 hd6 hn6 q6 => ?_
        have L6 := (L4.step ha4 g5).step ha5 g6
        have g46 := g5.trans g6
        have q7 : Out K (clOf T) R k H1 (productL R.all R.n f (ds ++ [.tuple [nm, d6, .int (wh R.all R.n k2 : Int)]]) k6) Q E := q6
        refine ⟨_, rfl, .inl ⟨rfl, _, .inl (.inl L6.is)⟩, _, rfl, _, rfl, _, rfl, by show 3 ≤ sizeLine; decide, fun p np => ?_⟩
        have L7 := L6.step ha6 (go_new (o := .tup [v4, v6, .int (wh R.all R.n k2 : Int)]) np)
        have ha7 := ha6.same (Ly.same_new (o := .tup [v4, v6, .int (wh R.all R.n k2 : Int)]) np)
        have sm := Ly.same_new (o := .tup [v4, v6, .int (wh R.all R.n k2 : Int)]) np
        have d7 : Dp K (upd H6 p (.tup [v4, v6, .int (wh R.all R.n k2 : Int)])) (.ref p) (.tuple [nm, d6, .int (wh R.all R.n k2 : Int)]) :=
          .tup (SqT.of upd_same) (.cons (dp_same sm hn4 (dp_go g46 ha4.ins hn4 hd4)) (.cons (dp_same sm hn6 hd6) (.cons (.int _) .nil)))
        have n7 : noL (.tuple [nm, d6, .int (wh R.all R.n k2 : Int)]) = true := by
          show (noL nm && (noL d6 && (true && true))) = true
          rw [hn4, hn6]
          rfl
        obtain ⟨L8, ha8⟩ := L7.app ha7 d7 n7
        refine ⟨l, xs, _, rfl, rfl, L7.is, Nat.lt_of_le_of_lt hx (Nat.lt_of_le_of_lt hle (Nat.lt_of_le_of_lt ha.2.2.2.2 (by decide))), ?_⟩
        exact ⟨k6, _, _, _, _, _, rfl, by omega, by rw [List.length_append]; simp; omega, by omega, ha8, L8, q7⟩
      · rw [if_neg (by rw [hs5]; exact Bool.false_ne_true)] at q4
        have L6 := L4.step ha4 g5
        have g46 := g5
        have ha6 := ha5
        have hd6 : Dp K H5 (.int 1) (.int 1) := .int 1
        have hn6 : noL (.int 1) = true := rfl
        have q7 : Out K (clOf T) R k H1 (productL R.all R.n f (ds ++ [.tuple [nm, .int 1, .int (wh R.all R.n k2 : Int)]]) k4) Q E := q4
        refine ⟨_, rfl, .inl ⟨rfl, _, .inl (.inl L6.is)⟩, _, rfl, _, rfl, _, rfl, by show 3 ≤ sizeLine; decide, fun p np => ?_⟩
        have L7 := L6.step ha6 (go_new (o := .tup [v4, .int 1, .int (wh R.all R.n k2 : Int)]) np)
        have ha7 := ha6.same (Ly.same_new (o := .tup [v4, .int 1, .int (wh R.all R.n k2 : Int)]) np)
        have sm := Ly.same_new (o := .tup [v4, .int 1, .int (wh R.all R.n k2 : Int)]) np
        have d7 : Dp K (upd H5 p (.tup [v4, .int 1, .int (wh R.all R.n k2 : Int)])) (.ref p) (.tuple [nm, .int 1, .int (wh R.all R.n k2 : Int)]) :=
          .tup (SqT.of upd_same) (.cons (dp_same sm hn4 (dp_go g46 ha4.ins hn4 hd4)) (.cons (dp_same sm hn6 hd6) (.cons (.int _) .nil)))
        have n7 : noL (.tuple [nm, .int 1, .int (wh R.all R.n k2 : Int)]) = true := by
          show (noL nm && (noL (.int 1) && (true && true))) = true
          rw [hn4, hn6]
          rfl
        obtain ⟨L8, ha8⟩ := L7.app ha7 d7 n7
        refine ⟨l, xs, _, rfl, rfl, L7.is, Nat.lt_of_le_of_lt hx (Nat.lt_of_le_of_lt hle (Nat.lt_of_le_of_lt ha.2.2.2.2 (by decide))), ?_⟩
        exact ⟨k4, _, _, _, _, _, rfl, by omega, by rw [List.length_append]; simp; omega, by omega, ha8, L8, q7⟩
end
end Tk

namespace Tk
open PySem PySem.Spec PyProof.Rows L2 Ly Lx TL Px
/-! ### numbers, parameters, units -/
section
variable {P : Program} {w : World} {K : PySem.W.Frag} {mg : Str → Option Value} {base : Heap}
theorem noLs_cons {d : PyData} {ds : List PyData} (h : noL d = true) (t : noLs ds = true) : noLs (d :: ds) = true := by
  show (noL d && noLs ds) = true
  rw [h, t]
  rfl
/-- a def ends with a tuple -/
theorem Out.tup {c : Cl} {R : RS} {k0 k : Nat} {H H' : Hp} {Q : VK} {E : XK} {vs : List V} {ds : List PyData} {p : Addr} (q : Out K c R k0 H (.ok (.tuple ds, k)) Q E) (hk : k0 ≤ k) (g : Go R.r H H') (ha : R.at_ K c.rd H' k)
    (hd : DpAll K H' vs ds) (hn : noLs ds = true) (np : H' p = none) : Q (.ref p) (upd H' p (.tup vs)) :=
  Out.ret q hk (g.trans (go_new np)) (ha.same (Ly.same_new np)) (.tup (SqT.of upd_same) (dps_keep (sqt_same (Ly.same_new np)) _ _ hn hd)) hn
/-- the callee's result is the def's, in another place -/
theorem Out.pass {c : Cl} {R : RS} {k0 k : Nat} {H : Hp} {Q : VK} {E : XK} {res : Res} (h : Out K c R k0 H res Q E) (hk : k0 ≤ k) : Out K c R k H res Q E := Out.last h hk
theorem noL_at {all : List (Tkn × Nat)} {k : Nat} : noL (tvAt all k) = true := by
  unfold tvAt
  cases all[k]? with
  | none => rfl
  | some t => exact noL_val _
theorem okT_read_told (T : Top w K mg) : FnT P w K mg base 20 T.a_read_told T.fd_read_told ["reader"] (spOut0 K (clOf T) toldM) := by
  refine okT T.F_read_told sc_read_told (fun vs H Q E h => ?_) (fun cdv A outer s H vs Q E hr h => ?_)
  · obtain ⟨R, k, rfl, _⟩ := h
    rfl
  · obtain ⟨R, k, rfl, ha, q⟩ := h
    refine ⟨_, (pss_one (ps_ret (pe_ifExp (pt_val (pe_methT (pv 0) T.cl_Reader T.M_Reader_accept (okT_Reader_accept T) (hr.mono (by first | decide | omega)) T.b_Reader_accept (fun σ => L2N.passAt (L2N.takes_of rfl rfl rfl rfl) σ) (by exact (pa_cons pe_str pa_nil)))) (pe_callT (okT_read_product T) (hr.mono (by first | decide | omega)) (by rfl) T.m_read_product T.F_read_product.kp T.b_read_product (fun σ => L2N.passAt (L2N.takes_of rfl rfl rfl rfl) σ) (by exact (pa_cons (pv 0) pa_nil))) pe_non))), ?_⟩
    unfold toldM at q
    refine ⟨_, rfl, R.r, _, _, rfl, ha.1, rfl, R, k, ":", rfl, ha, sh1 _, fun hs H1 g1 ha1 => ⟨_, rfl, iteT ?_⟩, fun hs H1 g1 ha1 => ⟨_, rfl, iteF ?_⟩⟩
    · rw [if_pos hs] at q
      exact ⟨_, rfl, R, k + 1, rfl, ha1, Out.pass (Out.go q g1) (by omega)⟩
    · rw [if_neg (by rw [hs]; exact Bool.false_ne_true)] at q
      exact Out.ret q (Nat.le_refl _) g1 ha1 .non rfl
def spNum (K : PySem.W.Frag) (c : Cl) : Sp := fun vs H Q E => ∃ (R : RS) (k a : Nat), vs = [.ref R.r, .int (a : Int)] ∧ R.at_ K c.rd H k ∧ kindB R.all "number" k = true ∧ Out K c R k H (numberM R.all R.n a k) Q E
theorem okT_read_number (T : Top w K mg) : FnT P w K mg base 20 T.a_read_number T.fd_read_number ["reader", "at"] (spNum K (clOf T)) := by
  refine okT T.F_read_number sc_read_number (fun vs H Q E h => ?_) (fun cdv A outer s H vs Q E hr h => ?_)
  · obtain ⟨R, k, a, rfl, _⟩ := h
    rfl
  · obtain ⟨R, k, a, rfl, ha, hkd, q⟩ := h
    refine ⟨_, (pss_cons (ps_set (i := 2) sc_read_number.nd rfl (.inl rfl) (by exact (pe_meth0T (pv 0) T.cl_Reader T.M_Reader_take (okT_Reader_take T) (hr.mono (by first | decide | omega)) T.b_Reader_take (fun σ => L2N.passAt (L2N.takes_of rfl rfl rfl rfl) σ))))
      (pss_cons (ps_set (i := 3) sc_read_number.nd rfl (.inl rfl) (by exact (pe_ifExp (pt_val (pe_methT (pv 0) T.cl_Reader T.M_Reader_sees (okT_Reader_sees T) (hr.mono (by first | decide | omega)) T.b_Reader_sees (fun σ => L2N.passAt (L2N.takes_of rfl rfl rfl rfl) σ) (by exact (pa_cons (pe_tup (pa_cons pe_str pa_nil)) pa_nil)))) (pe_callT (okT_read_product T) (hr.mono (by first | decide | omega)) (by rfl) T.m_read_product T.F_read_product.kp T.b_read_product (fun σ => L2N.passAt (L2N.takes_of rfl rfl rfl rfl) σ) (by exact (pa_cons (pv 0) pa_nil))) (pe_tup pa_nil))))
      (pss_one (ps_ret (pe_tup (pa_cons pe_str (pa_cons (pv 2) (pa_cons (pv 3) (pa_cons (pv 1) pa_nil))))))))), ?_⟩
    unfold numberM at q
    refine ⟨_, rfl, R.r, _, _, rfl, ha.1, rfl, R, k, rfl, ha, kind_lt hkd, fun H1 v1 g1 ha1 hd1 _ => ?_⟩
    refine ⟨_, rfl, R.r, _, _, rfl, ha1.1, rfl, by show 1 ≤ sizeLine; decide, fun p np => ?_⟩
    have hs := Ly.same_new (o := .tup [.str "["]) np
    have ha2 := ha1.same hs
    have g2 := g1.trans (go_same hs)
    have hd2 := dp_same hs noL_at hd1
    refine ⟨R, k + 1, p, ["["], rfl, ha2, SqT.of upd_same, sh1 _, ⟨_, rfl, ite2 (fun hc => ?_) (fun hc => ?_)⟩⟩
    · rw [if_pos hc] at q
      refine ⟨_, rfl, R, k + 1, rfl, ha2, ?_⟩
      refine Out.step (Out.go q g2) fun d3 k3 H3 v3 hr3 hk3 g3 ha3 hd3 hn3 q3 => ?_
      refine ⟨_, rfl, _, rfl, _, rfl, by show 4 ≤ sizeLine; decide, fun p np => ?_⟩
      exact Out.tup q3 (by omega) (Go.refl _ _) ha3 (.cons (.str _) (.cons (dp_go g3 ha2.ins noL_at hd2) (.cons hd3 (.cons (.int _) .nil)))) (noLs_cons rfl (noLs_cons noL_at (noLs_cons hn3 rfl))) np
    · rw [if_neg hc] at q
      refine ⟨by show 0 ≤ sizeLine; decide, fun p2 np2 => ?_⟩
      have hs3 := Ly.same_new (o := .tup []) np2
      refine ⟨_, rfl, _, rfl, _, rfl, by show 4 ≤ sizeLine; decide, fun p np => ?_⟩
      exact Out.tup (k := k + 1) q (by omega) (g2.trans (go_same hs3)) (ha2.same hs3) (.cons (.str _) (.cons (dp_same hs3 noL_at hd2) (.cons (.tup (SqT.of upd_same) .nil) (.cons (.int _) .nil)))) (noLs_cons rfl (noLs_cons noL_at rfl)) np
theorem okT_read_parameter (T : Top w K mg) : FnT P w K mg base 21 T.a_read_parameter T.fd_read_parameter ["reader"] (spOut0 K (clOf T) paramM) := by
  refine okT T.F_read_parameter sc_read_parameter (fun vs H Q E h => ?_) (fun cdv A outer s H vs Q E hr h => ?_)
  · obtain ⟨R, k, rfl, _⟩ := h
    rfl
  · obtain ⟨R, k, rfl, ha, q⟩ := h
    refine ⟨_, (pss_cons (ps_set (i := 1) sc_read_parameter.nd rfl (.inl rfl) (by exact (pe_methT (pv 0) T.cl_Reader T.M_Reader_expect_kind (okT_Reader_expect_kind T) (hr.mono (by first | decide | omega)) T.b_Reader_expect_kind (fun σ => L2N.passAt (L2N.takes_of rfl rfl rfl rfl) σ) (by exact (pa_cons pe_str pa_nil)))))
      (pss_one (ps_ret (pe_tup (pa_cons (pv 1) (pa_cons (pe_callT (okT_read_told T) (hr.mono (by first | decide | omega)) (by rfl) T.m_read_told T.F_read_told.kp T.b_read_told (fun σ => L2N.passAt (L2N.takes_of rfl rfl rfl rfl) σ) (by exact (pa_cons (pv 0) pa_nil))) pa_nil)))))), ?_⟩
    unfold paramM at q
    refine ⟨_, rfl, R.r, _, _, rfl, ha.1, rfl, R, k, "name", rfl, ha, sh1 _, ?_⟩
    refine Out.step q fun d1 k1 H1 v1 hr1 hk1 g1 ha1 hd1 hn1 q1 => ?_
    refine ⟨_, rfl, _, rfl, R, k1, rfl, ha1, ?_⟩
    refine Out.step q1 fun d2 k2 H2 v2 hr2 hk2 g2 ha2 hd2 hn2 q2 => ?_
    refine ⟨by show 2 ≤ sizeLine; decide, fun p np => ?_⟩
    exact Out.tup q2 (by omega) (Go.refl _ _) ha2 (.cons (dp_go g2 ha1.ins hn1 hd1) (.cons hd2 .nil)) (noLs_cons hn1 (noLs_cons hn2 rfl)) np
def spOutA (K : PySem.W.Frag) (c : Cl) (f : List (Tkn × Nat) → Nat → Nat → Nat → Res) : Sp := fun vs H Q E => ∃ (R : RS) (k a : Nat), vs = [.ref R.r, .int (a : Int)] ∧ R.at_ K c.rd H k ∧ Out K c R k H (f R.all R.n a k) Q E
theorem okT_read_unit (T : Top w K mg) : FnT P w K mg base 21 T.a_read_unit T.fd_read_unit ["reader", "at"] (spOutA K (clOf T) unitM) := by
  refine okT T.F_read_unit sc_read_unit (fun vs H Q E h => ?_) (fun cdv A outer s H vs Q E hr h => ?_)
  · obtain ⟨R, k, a, rfl, _⟩ := h
    rfl
  · obtain ⟨R, k, a, rfl, ha, q⟩ := h
    refine ⟨_, (pss_cons (ps_set (i := 2) sc_read_unit.nd rfl (.inl rfl) (by exact (pe_methT (pv 0) T.cl_Reader T.M_Reader_expect_kind (okT_Reader_expect_kind T) (hr.mono (by first | decide | omega)) T.b_Reader_expect_kind (fun σ => L2N.passAt (L2N.takes_of rfl rfl rfl rfl) σ) (by exact (pa_cons pe_str pa_nil)))))
      (pss_cons (ps_expr (pe_methT (pv 0) T.cl_Reader T.M_Reader_expect (okT_Reader_expect T) (hr.mono (by first | decide | omega)) T.b_Reader_expect (fun σ => L2N.passAt (L2N.takes_of rfl rfl rfl rfl) σ) (by exact (pa_cons pe_str pa_nil))))
      (pss_cons (ps_set (i := 3) sc_read_unit.nd rfl (.inl rfl) (by exact (pe_methT (pv 0) T.cl_Reader T.M_Reader_expect_kind (okT_Reader_expect_kind T) (hr.mono (by first | decide | omega)) T.b_Reader_expect_kind (fun σ => L2N.passAt (L2N.takes_of rfl rfl rfl rfl) σ) (by exact (pa_cons pe_str pa_nil)))))
      (pss_one (ps_ret (pe_tup (pa_cons pe_str (pa_cons (pv 2) (pa_cons (pv 3) (pa_cons (pe_callT (okT_read_product T) (hr.mono (by first | decide | omega)) (by rfl) T.m_read_product T.F_read_product.kp T.b_read_product (fun σ => L2N.passAt (L2N.takes_of rfl rfl rfl rfl) σ) (by exact (pa_cons (pv 0) pa_nil))) (pa_cons (pv 1) pa_nil))))))))))), ?_⟩
    unfold unitM at q
    refine ⟨_, rfl, R.r, _, _, rfl, ha.1, rfl, R, k, "name", rfl, ha, sh1 _, ?_⟩
    refine Out.step q fun d1 k1 H1 v1 hr1 hk1 g1 ha1 hd1 hn1 q1 => ?_
    refine ⟨_, rfl, R.r, _, _, rfl, ha1.1, rfl, R, k1, "=", rfl, ha1, sh1 _, ?_⟩
    refine Out.step q1 fun d2 k2 H2 v2 hr2 hk2 g2 ha2 hd2 hn2 q2 => ?_
    refine ⟨_, rfl, R.r, _, _, rfl, ha2.1, rfl, R, k2, "number", rfl, ha2, sh1 _, ?_⟩
    refine Out.step q2 fun d3 k3 H3 v3 hr3 hk3 g3 ha3 hd3 hn3 q3 => ?_
    refine ⟨_, rfl, _, rfl, _, rfl, R, k3, rfl, ha3, ?_⟩
    refine Out.step q3 fun d4 k4 H4 v4 hr4 hk4 g4 ha4 hd4 hn4 q4 => ?_
    refine ⟨_, rfl, by show 5 ≤ sizeLine; decide, fun p np => ?_⟩
    exact Out.tup q4 (by omega) (Go.refl _ _) ha4 (.cons (.str _) (.cons (dp_go ((g2.trans g3).trans g4) ha1.ins hn1 hd1) (.cons (dp_go g4 ha3.ins hn3 hd3) (.cons hd4 (.cons (.int _) .nil)))))
      (noLs_cons rfl (noLs_cons hn1 (noLs_cons hn3 (noLs_cons hn4 rfl)))) np
end
end Tk

namespace Tk
open PySem PySem.Spec PyProof.Rows L2 Ly Lx TL Px
/-! ### parameters -/
section
variable {P : Program} {w : World} {K : PySem.W.Frag} {mg : Str → Option Value} {base : Heap}
theorem len_ok {n : Nat} (h : n ≤ 100000) : n < sizeLine := Nat.lt_of_le_of_lt h (by decide)
theorem okT_read_parameters (T : Top w K mg) : FnT P w K mg base 22 T.a_read_parameters T.fd_read_parameters ["reader"] (spOut0 K (clOf T) paramsM) := by
  refine okT T.F_read_parameters sc_read_parameters (fun vs H Q E h => ?_) (fun cdv A outer s H vs Q E hr h => ?_)
  · obtain ⟨R, k, rfl, _⟩ := h
    rfl
  · obtain ⟨R, k, rfl, ha, q⟩ := h
    refine ⟨_, (pss_cons (ps_set (i := 1) sc_read_parameters.nd rfl (.inl rfl) (by exact (pe_lst pa_nil)))
      (pss_cons (ps_if (pt_not (pt_val (pe_methT (pv 0) T.cl_Reader T.M_Reader_accept (okT_Reader_accept T) (hr.mono (by first | decide | omega)) T.b_Reader_accept (fun σ => L2N.passAt (L2N.takes_of rfl rfl rfl rfl) σ) (by exact (pa_cons pe_str pa_nil)))))
      (pss_cons (ps_expr (pe_bm PySem.F.plainAttrs_list PySem.F.slot_list_append PySem.F.type_list_append mt_append (pv 1) (pa_cons (pe_callT (okT_read_parameter T) (hr.mono (by first | decide | omega)) (by rfl) T.m_read_parameter T.F_read_parameter.kp T.b_read_parameter (fun σ => L2N.passAt (L2N.takes_of rfl rfl rfl rfl) σ) (by exact (pa_cons (pv 0) pa_nil))) pa_nil)))
      (pss_cons (ps_while (passes_of rfl) (pt_val (pe_methT (pv 0) T.cl_Reader T.M_Reader_accept (okT_Reader_accept T) (hr.mono (by first | decide | omega)) T.b_Reader_accept (fun σ => L2N.passAt (L2N.takes_of rfl rfl rfl rfl) σ) (by exact (pa_cons pe_str pa_nil))))
      (pss_one (ps_expr (pe_bm PySem.F.plainAttrs_list PySem.F.slot_list_append PySem.F.type_list_append mt_append (pv 1) (pa_cons (pe_callT (okT_read_parameter T) (hr.mono (by first | decide | omega)) (by rfl) T.m_read_parameter T.F_read_parameter.kp T.b_read_parameter (fun σ => L2N.passAt (L2N.takes_of rfl rfl rfl rfl) σ) (by exact (pa_cons (pv 0) pa_nil))) pa_nil)))))
      (pss_one (ps_expr (pe_methT (pv 0) T.cl_Reader T.M_Reader_expect (okT_Reader_expect T) (hr.mono (by first | decide | omega)) T.b_Reader_expect (fun σ => L2N.passAt (L2N.takes_of rfl rfl rfl rfl) σ) (by exact (pa_cons pe_str pa_nil)))))))
      pss_nil)
      (pss_one (ps_ret (pe_callTy call_tuple_of (by rfl) T.n_tuple bt_tuple (pa_cons (pv 1) pa_nil)))))), ?_⟩
    unfold paramsM at q
    refine ⟨Nat.zero_le _, fun l nl => ?_⟩
    obtain ⟨L0, ha0⟩ := Fl.new ha (Go.refl R.r H) nl
    refine ⟨_, rfl, R.r, _, _, rfl, ha0.1, rfl, R, k, ")", rfl, ha0, sh1 _, fun hs H1 g1 ha1 => ⟨_, rfl, iteF ?_⟩, fun hs H1 g1 ha1 => ⟨_, rfl, iteT ?_⟩⟩
    · rw [if_pos hs] at q
      have L1 := L0.step ha0 g1
      refine ⟨_, rfl, l, [], rfl, .inl ⟨SqL.of L1.is, fun t nt => ?_⟩⟩
      obtain ⟨ge, hae, hde, hne⟩ := L1.end_ ha1 nt
      exact Out.ret q (by omega) ge hae hde hne
    · rw [if_neg (by rw [hs]; exact Bool.false_ne_true)] at q
      have L1 := L0.step ha0 g1
      refine ⟨_, rfl, .inl ⟨rfl, _, .inl (.inl L1.is)⟩, _, rfl, R, k, rfl, ha1, ?_⟩
      refine Out.step0 q L1.go fun d2 k2 H2 v2 hr2 hk2 g2 ha2 hd2 hn2 q2 => ?_
      clear q
      have L2 := L1.step ha1 g2
      refine ⟨l, [], v2, rfl, rfl, L2.is, len_ok (Nat.zero_le _), ?_⟩
      obtain ⟨L3, ha3⟩ := L2.app ha2 hd2 hn2
      refine ⟨fun m σ H' => ∃ (k' : Nat) (xs : List V) (ds : List PyData), σ = [some (.ref R.r), some (.ref l)] ∧ k ≤ k' ∧ xs.length ≤ k' + 1 ∧ R.all.length + 1 ≤ m + k' ∧
        R.at_ K (clOf T).rd H' k' ∧ Fl K R H H' l xs ds ∧ Out K (clOf T) R k H (paramsL R.all R.n m ds k') Q E,
        ⟨R.all.length + 1, k2, [] ++ [v2], [] ++ [d2], rfl, hk2, (by simp), by omega, ha3, L3, q2⟩, ?_⟩
      clear q2 L3 ha3 L2 L1 L0 ha0 ha1 ha2 hd2
      rintro m σ H3 ⟨k3, xs, ds, rfl, hk3, hx, hm, ha3, L3, q⟩
      have hle := ha3.le
      obtain ⟨f, rfl⟩ : ∃ f, m = f + 1 := ⟨m - 1, by omega⟩
      unfold paramsL at q
      refine ⟨_, rfl, R.r, _, _, rfl, ha3.1, rfl, R, k3, ",", rfl, ha3, sh1 _, fun hs4 H4 g4 ha4 => ⟨_, rfl, iteT ?_⟩, fun hs4 H4 g4 ha4 => ⟨_, rfl, iteF ?_⟩⟩
      · rw [if_pos hs4] at q
        have L4 := L3.step ha3 g4
        refine ⟨fun σ' H' => ∃ (k' : Nat) (xs : List V) (ds : List PyData), σ' = [some (.ref R.r), some (.ref l)] ∧ k ≤ k' ∧ xs.length ≤ k' + 1 ∧ R.all.length + 1 ≤ f + k' ∧
          R.at_ K (clOf T).rd H' k' ∧ Fl K R H H' l xs ds ∧ Out K (clOf T) R k H (paramsL R.all R.n f ds k') Q E, fun σ' H' hN => ⟨f, by omega, hN⟩, ?_⟩
        refine ⟨_, rfl, .inl ⟨rfl, _, .inl (.inl L4.is)⟩, _, rfl, R, k3 + 1, rfl, ha4, ?_⟩
        refine Out.step0 q L4.go fun d5 k5 H5 v5 hr5 hk5 g5 ha5 hd5 hn5 q5 => ?_
        have L5 := L4.step ha4 g5
        have hle5 := ha5.le
        refine ⟨l, xs, v5, rfl, rfl, L5.is, len_ok (by have := ha.2.2.2.2; omega), ?_⟩
        obtain ⟨L6, ha6⟩ := L5.app ha5 hd5 hn5
        exact ⟨k5, _, _, rfl, by omega, by rw [List.length_append]; simp; omega, by omega, ha6, L6, q5⟩
      · rw [if_neg (by rw [hs4]; exact Bool.false_ne_true)] at q
        have L4 := L3.step ha3 g4
        refine ⟨_, rfl, R.r, _, _, rfl, ha4.1, rfl, R, k3, ")", rfl, ha4, sh1 _, ?_⟩
        refine Out.step0 q L4.go fun d5 k5 H5 v5 hr5 hk5 g5 ha5 hd5 hn5 q5 => ?_
        have L5 := L4.step ha4 g5
        refine ⟨_, rfl, l, xs, rfl, .inl ⟨SqL.of L5.is, fun t nt => ?_⟩⟩
        obtain ⟨ge, hae, hde, hne⟩ := L5.end_ ha5 nt
        exact Out.ret q5 (by omega) ge hae hde hne
end
end Tk

namespace Tk
open PySem PySem.Spec PyProof.Rows L2 Ly Lx TL Px
/-! ### chains -/
section
variable {P : Program} {w : World} {K : PySem.W.Frag} {mg : Str → Option Value} {base : Heap}
/-- a def that reads on a level: j levels are left, this one with them -/
def spLv (K : PySem.W.Frag) (c : Cl) (f : List (Tkn × Nat) → Nat → Nat → Nat → Res) (j : Nat) : Sp := fun vs H Q E => ∃ (R : RS) (k l : Nat), vs = [.ref R.r, .int (l : Int)] ∧ 1 ≤ j ∧ l + j = 25 ∧ R.at_ K c.rd H k ∧ Out K c R k H (f R.all R.n j k) Q E
def spLe (K : PySem.W.Frag) (c : Cl) (f : List (Tkn × Nat) → Nat → Nat → Nat → Res) (m : Nat) : Sp := fun vs H Q E => ∃ j, j ≤ m ∧ spLv K c f j vs H Q E
theorem FnT.le {f : List (Tkn × Nat) → Nat → Nat → Nat → Res} {c : Cl} {fP : Addr} {fdP : FuncData} {r : Nat → Nat} {m : Nat} (hr : ∀ j, j ≤ m → r j ≤ r m) (h : ∀ j, j ≤ m → FnT P w K mg base (r j) fP fdP ["reader", "level"] (spLv K c f j)) :
    FnT P w K mg base (r m) fP fdP ["reader", "level"] (spLe K c f m) :=
  ⟨fun vs H Q E ⟨j, hj, q⟩ => (h j hj).len _ _ _ _ q, fun A outer s H args us vs Q E rr e0 hb hv ⟨j, hj, q⟩ => (h j hj).run A outer s H args us vs Q E (rr.mono (hr j hj)) e0 hb hv q⟩
theorem sees_str {all : List (Tkn × Nat)} {ws : List Str} {k : Nat} (h : seesB all ws k = true) : tvAt all k = .str (Px.strAt all k) ∧ Px.strAt all k ∈ ws := by
  unfold seesB at h
  unfold tvAt Px.strAt
  cases e : all[k]? with
  | none => rw [e] at h; cases h
  | some t =>
    rw [e] at h
    obtain ⟨t, i⟩ := t
    cases t with
    | word x => exact ⟨rfl, by have h' : (ws.any (· == x)) = true := h; obtain ⟨y, hy, e⟩ := List.any_eq_true.mp h'; have := eq_of_beq e; subst this; exact hy⟩
    | name x => exact ⟨rfl, by have h' : (ws.any (· == x)) = true := h; obtain ⟨y, hy, e⟩ := List.any_eq_true.mp h'; have := eq_of_beq e; subst this; exact hy⟩
    | num a b => exact absurd (show false = true from h) (by decide)
    | sign x => exact ⟨rfl, by have h' : (ws.any (· == x)) = true := h; obtain ⟨y, hy, e⟩ := List.any_eq_true.mp h'; have := eq_of_beq e; subst this; exact hy⟩
abbrev opers : List Str := ["or", "and", "<", "<=", "==", "+", "-", "*", "/"]
/-- what the dict of the operations holds -/
theorem opD (T : Top w K mg) {x : Str} (h : x ∈ opers) : KDct K w T.a_OPERATIONS x (.str (opName x)) := by
  simp only [List.mem_cons, List.not_mem_nil, or_false] at h
  rcases h with h | h | h | h | h | h | h | h | h
  · subst h; exact T.d_OPERATIONS_0
  · subst h; exact T.d_OPERATIONS_1
  · subst h; exact T.d_OPERATIONS_2
  · subst h; exact T.d_OPERATIONS_3
  · subst h; exact T.d_OPERATIONS_4
  · subst h; exact T.d_OPERATIONS_5
  · subst h; exact T.d_OPERATIONS_6
  · subst h; exact T.d_OPERATIONS_7
  · subst h; exact T.d_OPERATIONS_8
def spCh (K : PySem.W.Frag) (c : Cl) (fP : Addr) (ops : List Str) (f : List (Tkn × Nat) → Nat → Nat → Nat → Res) (m : Nat) : Sp := fun vs H Q E => ∃ (R : RS) (k l j : Nat) (p : Addr), vs = [.ref R.r, .int (l : Int), .ref p, .ref fP] ∧ j ≤ m ∧ 1 ≤ j ∧ l + j = 25 ∧
  R.at_ K c.rd H k ∧ SqT K H p (ops.map V.str) ∧ Out K c R k H (chainM R.all R.n ops (f R.all R.n) j k) Q E
theorem node_no {op : Str} {a b : PyData} {i : Nat} (ha : noL a = true) (hb : noL b = true) : noLs [.str op, a, b, .int (i : Int)] = true := noLs_cons rfl (noLs_cons ha (noLs_cons hb rfl))
theorem okT_read_chain (T : Top w K mg) {fP : Addr} {fdP : FuncData} {r m : Nat} {f : List (Tkn × Nat) → Nat → Nat → Nat → Res} {ops : List Str} (hf0 : ∀ all n k, f all n 0 k = .error .over)
    (hP : FnT P w K mg base r fP fdP ["reader", "level"] (spLe K (clOf T) f m)) (hk : PySem.W.keepIn K (.ref fP) = true) (hb : Binds K fdP ["reader", "level"] []) (h16 : 16 ≤ r)
    (hsh : SeqAt.shaped (.tuple (ops.map PyData.str)) = true) (hops : ∀ x ∈ ops, x ∈ opers) :
    FnT P w K mg base (r + 1) T.a_read_chain T.fd_read_chain ["reader", "level", "operators", "read_part"] (spCh K (clOf T) fP ops f m) := by
  refine okT T.F_read_chain sc_read_chain (fun vs H Q E h => ?_) (fun cdv A outer s H vs Q E hr h => ?_)
  · obtain ⟨R, k, l, j, p, rfl, _⟩ := h
    rfl
  · obtain ⟨R, k, l, j, p, rfl, hjm, hj, hl, ha, hp, q⟩ := h
    refine ⟨_, (pss_cons (ps_set (i := 4) sc_read_chain.nd rfl (.inl rfl) (by exact (pe_callN (i := 3) hP (hr.mono (by first | decide | omega)) hk hb (fun σ => L2N.passAt (L2N.takes_of rfl rfl rfl rfl) σ) (by exact (pa_cons (pv 0) (pa_cons (pv 1) pa_nil))))))
      (pss_cons (ps_while (passes_of rfl) (pt_val (pe_methT (pv 0) T.cl_Reader T.M_Reader_sees (okT_Reader_sees T) (hr.mono (by first | decide | omega)) T.b_Reader_sees (fun σ => L2N.passAt (L2N.takes_of rfl rfl rfl rfl) σ) (by exact (pa_cons (pv 2) pa_nil))))
      (pss_cons (ps_set (i := 5) sc_read_chain.nd rfl (.inl rfl) (by exact (pe_meth0T (pv 0) T.cl_Reader T.M_Reader_where (okT_Reader_where T) (hr.mono (by first | decide | omega)) T.b_Reader_where (fun σ => L2N.passAt (L2N.takes_of rfl rfl rfl rfl) σ))))
      (pss_cons (ps_set (i := 6) sc_read_chain.nd rfl (.inl rfl) (by exact (pe_ix ix_kdict (pe_glob (v := .ref T.a_OPERATIONS) (by rfl) T.c_OPERATIONS rfl) (pe_meth0T (pv 0) T.cl_Reader T.M_Reader_take (okT_Reader_take T) (hr.mono (by first | decide | omega)) T.b_Reader_take (fun σ => L2N.passAt (L2N.takes_of rfl rfl rfl rfl) σ)) (fun _ _ => rfl))))
      (pss_cons (ps_set (i := 1) sc_read_chain.nd rfl (.inl rfl) (by exact (pe_callT (okT_deeper T) (hr.mono (by first | decide | omega)) (by rfl) T.m_deeper T.F_deeper.kp T.b_deeper (fun σ => L2N.passAt (L2N.takes_of rfl rfl rfl rfl) σ) (by exact (pa_cons (pv 1) pa_nil)))))
      (pss_one (ps_set (i := 4) sc_read_chain.nd rfl (.inl rfl) (by exact (pe_tup (pa_cons (pv 6) (pa_cons (pv 4) (pa_cons (pe_callN (i := 3) hP (hr.mono (by first | decide | omega)) hk hb (fun σ => L2N.passAt (L2N.takes_of rfl rfl rfl rfl) σ) (by exact (pa_cons (pv 0) (pa_cons (pv 1) pa_nil)))) (pa_cons (pv 5) pa_nil))))))))))))
      (pss_one (ps_ret (pv 4))))), ?_⟩
    unfold chainM at q
    refine ⟨rfl, _, rfl, _, rfl, j, hjm, R, k, l, rfl, hj, hl, ha, ?_⟩
    refine Out.step0 q (Go.refl _ _) fun d1 k1 H1 v1 hr1 hk1 g1 ha1 hd1 hn1 q1 => ?_
    clear q
    refine ⟨fun m' σ H' => ∃ (k' l' : Nat) (v : V) (d : PyData) (y5 y6 : Option V), σ = [some (.ref R.r), some (.int (l' : Int)), some (.ref p), some (.ref fP), some v, y5, y6] ∧ k ≤ k' ∧ 1 ≤ m' ∧ m' ≤ m ∧ l' + m' = 25 ∧
      R.at_ K (clOf T).rd H' k' ∧ Go R.r H H' ∧ Dp K H' v d ∧ noL d = true ∧ Out K (clOf T) R k H (chainL R.all R.n ops (f R.all R.n) m' d k') Q E,
      ⟨j, k1, l, v1, d1, none, none, rfl, hk1, hj, hjm, hl, ha1, g1, hd1, hn1, q1⟩, ?_⟩
    clear q1 hd1 ha1 g1
    rintro m2 σ H2 ⟨k2, l2, v2, d2, y5, y6, rfl, hk2, h1m, hm2, hl2, ha2, g2, hd2, hn2, q⟩
    obtain ⟨m3, rfl⟩ : ∃ m3, m2 = m3 + 1 := ⟨m2 - 1, by omega⟩
    unfold chainL at q
    refine ⟨_, rfl, R.r, _, _, rfl, ha2.1, rfl, _, rfl, R, k2, p, ops, rfl, ha2, sqt_go g2 ha.ins _ _ hp, hsh, ⟨_, rfl, ite2 (fun hs => ?_) (fun hs => ?_)⟩⟩
    · rw [if_pos hs] at q
      obtain ⟨es, hin⟩ := sees_str hs
      refine ⟨fun σ' H' => ∃ (k' l' : Nat) (v : V) (d : PyData) (y5 y6 : Option V), σ' = [some (.ref R.r), some (.int (l' : Int)), some (.ref p), some (.ref fP), some v, y5, y6] ∧ k ≤ k' ∧ 1 ≤ m3 ∧ m3 ≤ m ∧ l' + m3 = 25 ∧
        R.at_ K (clOf T).rd H' k' ∧ Go R.r H H' ∧ Dp K H' v d ∧ noL d = true ∧ Out K (clOf T) R k H (chainL R.all R.n ops (f R.all R.n) m3 d k') Q E, fun σ' H' hN => ⟨m3, by omega, hN⟩, ?_⟩
      refine ⟨_, rfl, R.r, _, _, rfl, ha2.1, rfl, R, k2, rfl, ha2, ?_⟩
      refine ⟨_, rfl, R.r, _, _, rfl, ha2.1, rfl, R, k2, rfl, ha2, sees_lt hs, fun H3 v3 g3 ha3 hd3 hx3 => ?_⟩
      obtain rfl := hx3 _ es
      refine ⟨_, _, _, rfl, rfl, opD T (hops _ hin), ?_⟩
      refine ⟨_, rfl, l2, m3, rfl, hl2, fun h0 dd hdd => ?_, fun h1 => ?_⟩
      · subst h0
        rw [hf0] at q
        exact err_new (ErrG.go q (g2.trans g3)) hdd
      · refine ⟨_, rfl, _, rfl, rfl, _, rfl, _, rfl, m3, by omega, R, k2 + 1, l2 + 1, rfl, h1, by omega, ha3, ?_⟩
        refine Out.step0 q (g2.trans g3) fun d4 k4 H4 v4 hr4 hk4 g4 ha4 hd4 hn4 q4 => ?_
        have hd24 := dp_go (g3.trans g4) ha2.ins hn2 hd2
        refine ⟨_, rfl, by show 4 ≤ sizeLine; decide, fun t nt => ?_⟩
        have sm := Ly.same_new (o := .tup [.str (opName (Px.strAt R.all k2)), v2, v4, .int (wh R.all R.n k2 : Int)]) nt
        refine ⟨k4, l2 + 1, _, node (opName (Px.strAt R.all k2)) d2 d4 (wh R.all R.n k2), _, _, rfl, by omega, h1, by omega, by omega, ha4.same sm, ((g2.trans g3).trans g4).trans (go_new nt), ?_, (show noL (.tuple _) = true from node_no hn2 hn4), q4⟩
        exact .tup (SqT.of upd_same) (dps_keep (sqt_same sm) _ _ (node_no hn2 hn4) (.cons (.str _) (.cons hd24 (.cons hd4 (.cons (.int _) .nil)))))
    · rw [if_neg hs] at q
      exact ⟨_, rfl, Out.ret q (by omega) g2 ha2 hd2 hn2⟩
end
end Tk

namespace Tk
open PySem PySem.Spec PyProof.Rows L2 Ly Lx TL Px
/-! ### primaries -/
section
variable {P : Program} {w : World} {K : PySem.W.Frag} {mg : Str → Option Value} {base : Heap}
abbrev Lv := List (Tkn × Nat) → Nat → Nat → Nat → Res
def primF (E : Lv) : Lv := fun all n j k => primM all n (E all n) j k
def spIt (K : PySem.W.Frag) (c : Cl) (E : Lv) (j : Nat) : Sp := fun vs H Q X => ∃ (R : RS) (k l a : Nat), vs = [.ref R.r, .int (l : Int), .int (a : Int)] ∧ l + (j + 1) = 25 ∧ R.at_ K c.rd H k ∧ Out K c R k H (iterateM R.all R.n (primF E R.all R.n j) a k) Q X
theorem okT_read_iterate (T : Top w K mg) {E : Lv} {r j : Nat} (hI : FnT P w K mg base r T.a_read_primary T.fd_read_primary ["reader", "level"] (spLv K (clOf T) (primF E) j)) (h16 : 16 ≤ r) :
    FnT P w K mg base (r + 1) T.a_read_iterate T.fd_read_iterate ["reader", "level", "at"] (spIt K (clOf T) E j) := by
  refine okT T.F_read_iterate sc_read_iterate (fun vs H Q X h => ?_) (fun cdv A outer s H vs Q X hr h => ?_)
  · obtain ⟨R, k, l, a, rfl, _⟩ := h
    rfl
  · obtain ⟨R, k, l, a, rfl, hl, ha, q⟩ := h
    refine ⟨_, (pss_cons (ps_set (i := 3) sc_read_iterate.nd rfl (.inl rfl) (by exact (pe_methT (pv 0) T.cl_Reader T.M_Reader_expect_kind (okT_Reader_expect_kind T) (hr.mono (by first | decide | omega)) T.b_Reader_expect_kind (fun σ => L2N.passAt (L2N.takes_of rfl rfl rfl rfl) σ) (by exact (pa_cons pe_str pa_nil)))))
      (pss_cons (ps_set (i := 4) sc_read_iterate.nd rfl (.inl rfl) (by exact (pe_methT (pv 0) T.cl_Reader T.M_Reader_expect_whole (okT_Reader_expect_whole T) (hr.mono (by first | decide | omega)) T.b_Reader_expect_whole (fun σ => L2N.passAt (L2N.takes_of rfl rfl rfl rfl) σ) (by exact (pa_cons (pe_glob (by rfl) T.c_GREATEST_COUNT T.r_GREATEST_COUNT) pa_nil)))))
      (pss_cons (ps_expr (pe_methT (pv 0) T.cl_Reader T.M_Reader_expect (okT_Reader_expect T) (hr.mono (by first | decide | omega)) T.b_Reader_expect (fun σ => L2N.passAt (L2N.takes_of rfl rfl rfl rfl) σ) (by exact (pa_cons pe_str pa_nil))))
      (pss_one (ps_ret (pe_tup (pa_cons pe_str (pa_cons (pv 3) (pa_cons (pv 4) (pa_cons (pe_callT hI (hr.mono (by first | decide | omega)) (by rfl) T.m_read_primary T.F_read_primary.kp T.b_read_primary (fun σ => L2N.passAt (L2N.takes_of rfl rfl rfl rfl) σ) (by exact (pa_cons (pv 0) (pa_cons (pe_callT (okT_deeper T) (hr.mono (by first | decide | omega)) (by rfl) T.m_deeper T.F_deeper.kp T.b_deeper (fun σ => L2N.passAt (L2N.takes_of rfl rfl rfl rfl) σ) (by exact (pa_cons (pv 1) pa_nil))) pa_nil)))) (pa_cons (pv 2) pa_nil))))))))))), ?_⟩
    unfold iterateM at q
    refine ⟨_, rfl, R.r, _, _, rfl, ha.1, rfl, R, k, "name", rfl, ha, sh1 _, ?_⟩
    refine Out.step q fun d1 k1 H1 v1 hr1 hk1 g1 ha1 hd1 hn1 q1 => ?_
    refine ⟨_, rfl, R.r, _, _, rfl, ha1.1, rfl, R, k1, 20, rfl, ha1, ?_⟩
    refine Out.step q1 fun d2 k2 H2 v2 hr2 hk2 g2 ha2 hd2 hn2 q2 => ?_
    refine ⟨_, rfl, R.r, _, _, rfl, ha2.1, rfl, R, k2, "from", rfl, ha2, sh1 _, ?_⟩
    refine Out.step q2 fun d3 k3 H3 v3 hr3 hk3 g3 ha3 hd3 hn3 q3 => ?_
    refine ⟨_, rfl, _, rfl, _, rfl, _, rfl, l, j, rfl, hl, fun h0 dd hdd => ?_, fun h1 => ?_⟩
    · subst h0
      exact err_new q3 hdd
    · refine ⟨R, k3, l + 1, rfl, h1, by omega, ha3, ?_⟩
      refine Out.step q3 fun d4 k4 H4 v4 hr4 hk4 g4 ha4 hd4 hn4 q4 => ?_
      refine ⟨_, rfl, by show 5 ≤ sizeLine; decide, fun p np => ?_⟩
      exact Out.tup q4 (by omega) (Go.refl _ _) ha4 (.cons (.str _) (.cons (dp_go ((g2.trans g3).trans g4) ha1.ins hn1 hd1) (.cons (dp_go (g3.trans g4) ha2.ins hn2 hd2) (.cons hd4 (.cons (.int _) .nil)))))
        (noLs_cons rfl (noLs_cons hn1 (noLs_cons hn2 (noLs_cons hn4 rfl)))) np
def spAr (K : PySem.W.Frag) (c : Cl) (E : Lv) (j : Nat) : Sp := fun vs H Q X => ∃ (R : RS) (k l : Nat), vs = [.ref R.r, .int (l : Int)] ∧ l + (j + 1) = 25 ∧ R.at_ K c.rd H k ∧ E R.all R.n 0 = (fun _ => .error .over) ∧ Out K c R k H (argsM R.all R.n (E R.all R.n j) k) Q X
theorem okT_read_arguments (T : Top w K mg) {E : Lv} {r j : Nat} (hX : FnT P w K mg base r T.a_read_expression T.fd_read_expression ["reader", "level"] (spLv K (clOf T) E j)) (h16 : 16 ≤ r) :
    FnT P w K mg base (r + 1) T.a_read_arguments T.fd_read_arguments ["reader", "level"] (spAr K (clOf T) E j) := by
  refine okT T.F_read_arguments sc_read_arguments (fun vs H Q X h => ?_) (fun cdv A outer s H vs Q X hr h => ?_)
  · obtain ⟨R, k, l, rfl, _⟩ := h
    rfl
  · obtain ⟨R, k, le, rfl, hlv, ha, hE0, q⟩ := h
    refine ⟨_, (pss_cons (ps_set (i := 2) sc_read_arguments.nd rfl (.inl rfl) (by exact (pe_lst pa_nil)))
      (pss_cons (ps_if (pt_not (pt_val (pe_methT (pv 0) T.cl_Reader T.M_Reader_accept (okT_Reader_accept T) (hr.mono (by first | decide | omega)) T.b_Reader_accept (fun σ => L2N.passAt (L2N.takes_of rfl rfl rfl rfl) σ) (by exact (pa_cons pe_str pa_nil)))))
      (pss_cons (ps_expr (pe_bm PySem.F.plainAttrs_list PySem.F.slot_list_append PySem.F.type_list_append mt_append (pv 2) (pa_cons (pe_callT hX (hr.mono (by first | decide | omega)) (by rfl) T.m_read_expression T.F_read_expression.kp T.b_read_expression (fun σ => L2N.passAt (L2N.takes_of rfl rfl rfl rfl) σ) (by exact (pa_cons (pv 0) (pa_cons (pe_callT (okT_deeper T) (hr.mono (by first | decide | omega)) (by rfl) T.m_deeper T.F_deeper.kp T.b_deeper (fun σ => L2N.passAt (L2N.takes_of rfl rfl rfl rfl) σ) (by exact (pa_cons (pv 1) pa_nil))) pa_nil)))) pa_nil)))
      (pss_cons (ps_while (passes_of rfl) (pt_val (pe_methT (pv 0) T.cl_Reader T.M_Reader_accept (okT_Reader_accept T) (hr.mono (by first | decide | omega)) T.b_Reader_accept (fun σ => L2N.passAt (L2N.takes_of rfl rfl rfl rfl) σ) (by exact (pa_cons pe_str pa_nil))))
      (pss_one (ps_expr (pe_bm PySem.F.plainAttrs_list PySem.F.slot_list_append PySem.F.type_list_append mt_append (pv 2) (pa_cons (pe_callT hX (hr.mono (by first | decide | omega)) (by rfl) T.m_read_expression T.F_read_expression.kp T.b_read_expression (fun σ => L2N.passAt (L2N.takes_of rfl rfl rfl rfl) σ) (by exact (pa_cons (pv 0) (pa_cons (pe_callT (okT_deeper T) (hr.mono (by first | decide | omega)) (by rfl) T.m_deeper T.F_deeper.kp T.b_deeper (fun σ => L2N.passAt (L2N.takes_of rfl rfl rfl rfl) σ) (by exact (pa_cons (pv 1) pa_nil))) pa_nil)))) pa_nil)))))
      (pss_one (ps_expr (pe_methT (pv 0) T.cl_Reader T.M_Reader_expect (okT_Reader_expect T) (hr.mono (by first | decide | omega)) T.b_Reader_expect (fun σ => L2N.passAt (L2N.takes_of rfl rfl rfl rfl) σ) (by exact (pa_cons pe_str pa_nil)))))))
      pss_nil)
      (pss_one (ps_ret (pe_callTy call_tuple_of (by rfl) T.n_tuple bt_tuple (pa_cons (pv 2) pa_nil)))))), ?_⟩
    unfold argsM at q
    refine ⟨Nat.zero_le _, fun l nl => ?_⟩
    obtain ⟨L0, ha0⟩ := Fl.new ha (Go.refl R.r H) nl
    refine ⟨_, rfl, R.r, _, _, rfl, ha0.1, rfl, R, k, ")", rfl, ha0, sh1 _, fun hs H1 g1 ha1 => ⟨_, rfl, iteF ?_⟩, fun hs H1 g1 ha1 => ⟨_, rfl, iteT ?_⟩⟩
    · rw [if_pos hs] at q
      have L1 := L0.step ha0 g1
      refine ⟨_, rfl, l, [], rfl, .inl ⟨SqL.of L1.is, fun t nt => ?_⟩⟩
      obtain ⟨ge, hae, hde, hne⟩ := L1.end_ ha1 nt
      exact Out.ret q (by omega) ge hae hde hne
    · rw [if_neg (by rw [hs]; exact Bool.false_ne_true)] at q
      have L1 := L0.step ha0 g1
      refine ⟨_, rfl, .inl ⟨rfl, _, .inl (.inl L1.is)⟩, _, rfl, _, rfl, le, j, rfl, hlv, fun h0 dd hdd => ?_, fun h1 => ?_⟩
      · subst h0
        rw [hE0] at q
        exact err_new (ErrG.go q L1.go) hdd
      refine ⟨R, k, le + 1, rfl, h1, by omega, ha1, ?_⟩
      refine Out.step0 q L1.go fun d2 k2 H2 v2 hr2 hk2 g2 ha2 hd2 hn2 q2 => ?_
      clear q
      have L2 := L1.step ha1 g2
      refine ⟨l, [], v2, rfl, rfl, L2.is, len_ok (Nat.zero_le _), ?_⟩
      obtain ⟨L3, ha3⟩ := L2.app ha2 hd2 hn2
      refine ⟨fun m σ H' => ∃ (k' : Nat) (xs : List V) (ds : List PyData), σ = [some (.ref R.r), some (.int (le : Int)), some (.ref l)] ∧ k ≤ k' ∧ xs.length ≤ k' + 1 ∧ R.all.length + 1 ≤ m + k' ∧
        R.at_ K (clOf T).rd H' k' ∧ Fl K R H H' l xs ds ∧ Out K (clOf T) R k H (argsL R.all R.n (E R.all R.n j) m ds k') Q X,
        ⟨R.all.length + 1, k2, [] ++ [v2], [] ++ [d2], rfl, hk2, (by simp), by omega, ha3, L3, q2⟩, ?_⟩
      clear q2 L3 ha3 L2 L1 L0 ha0 ha1 ha2 hd2
      rintro m σ H3 ⟨k3, xs, ds, rfl, hk3, hx, hm, ha3, L3, q⟩
      have hle := ha3.le
      obtain ⟨f, rfl⟩ : ∃ f, m = f + 1 := ⟨m - 1, by omega⟩
      unfold argsL at q
      refine ⟨_, rfl, R.r, _, _, rfl, ha3.1, rfl, R, k3, ",", rfl, ha3, sh1 _, fun hs4 H4 g4 ha4 => ⟨_, rfl, iteT ?_⟩, fun hs4 H4 g4 ha4 => ⟨_, rfl, iteF ?_⟩⟩
      · rw [if_pos hs4] at q
        have L4 := L3.step ha3 g4
        refine ⟨fun σ' H' => ∃ (k' : Nat) (xs : List V) (ds : List PyData), σ' = [some (.ref R.r), some (.int (le : Int)), some (.ref l)] ∧ k ≤ k' ∧ xs.length ≤ k' + 1 ∧ R.all.length + 1 ≤ f + k' ∧
          R.at_ K (clOf T).rd H' k' ∧ Fl K R H H' l xs ds ∧ Out K (clOf T) R k H (argsL R.all R.n (E R.all R.n j) f ds k') Q X, fun σ' H' hN => ⟨f, by omega, hN⟩, ?_⟩
        refine ⟨_, rfl, .inl ⟨rfl, _, .inl (.inl L4.is)⟩, _, rfl, _, rfl, le, j, rfl, hlv, fun h0 dd hdd => ?_, fun h1 => ?_⟩
        · omega
        refine ⟨R, k3 + 1, le + 1, rfl, h1, by omega, ha4, ?_⟩
        refine Out.step0 q L4.go fun d5 k5 H5 v5 hr5 hk5 g5 ha5 hd5 hn5 q5 => ?_
        have L5 := L4.step ha4 g5
        have hle5 := ha5.le
        refine ⟨l, xs, v5, rfl, rfl, L5.is, len_ok (by have := ha.2.2.2.2; omega), ?_⟩
        obtain ⟨L6, ha6⟩ := L5.app ha5 hd5 hn5
        exact ⟨k5, _, _, rfl, by omega, by rw [List.length_append]; simp; omega, by omega, ha6, L6, q5⟩
      · rw [if_neg (by rw [hs4]; exact Bool.false_ne_true)] at q
        have L4 := L3.step ha3 g4
        refine ⟨_, rfl, R.r, _, _, rfl, ha4.1, rfl, R, k3, ")", rfl, ha4, sh1 _, ?_⟩
        refine Out.step0 q L4.go fun d5 k5 H5 v5 hr5 hk5 g5 ha5 hd5 hn5 q5 => ?_
        have L5 := L4.step ha4 g5
        refine ⟨_, rfl, l, xs, rfl, .inl ⟨SqL.of L5.is, fun t nt => ?_⟩⟩
        obtain ⟨ge, hae, hde, hne⟩ := L5.end_ ha5 nt
        exact Out.ret q5 (by omega) ge hae hde hne
end
end Tk

namespace Tk
open PySem PySem.Spec PyProof.Rows L2 Ly Lx TL Px
/-! ### primaries, powers, if, let -/
section
variable {P : Program} {w : World} {K : PySem.W.Frag} {mg : Str → Option Value} {base : Heap}
theorem okT_read_primary (T : Top w K mg) {E : Lv} (hE0 : ∀ all n, E all n 0 = fun _ => .error .over) : ∀ j, (∀ i, i < j → FnT P w K mg base (13 * i + 28) T.a_read_expression T.fd_read_expression ["reader", "level"] (spLv K (clOf T) E i)) →
    FnT P w K mg base (13 * j + 18) T.a_read_primary T.fd_read_primary ["reader", "level"] (spLv K (clOf T) (primF E) j)
  | 0, _ => FnT.none fun vs H Q X h => by
    obtain ⟨R, k, l, _, h, _⟩ := h
    omega
  | j + 1, hE => by
    have hI := okT_read_primary T hE0 j fun i hi => hE i (by omega)
    have hX := hE j (by omega)
    refine FnT.mono (j := 13 * j + 30 + 1) ?_ (by omega)
    refine okT T.F_read_primary sc_read_primary (fun vs H Q X h => ?_) (fun cdv A outer s H vs Q X hr h => ?_)
    · obtain ⟨R, k, l, rfl, _⟩ := h
      rfl
    · obtain ⟨R, k, l, rfl, _, hl, ha, q⟩ := h
      refine ⟨_, (pss_cons (ps_set (i := 2) sc_read_primary.nd rfl (.inl rfl) (by exact (pe_meth0T (pv 0) T.cl_Reader T.M_Reader_where (okT_Reader_where T) (hr.mono (by first | decide | omega)) T.b_Reader_where (fun σ => L2N.passAt (L2N.takes_of rfl rfl rfl rfl) σ))))
      (pss_cons (ps_if (pt_val (pe_methT (pv 0) T.cl_Reader T.M_Reader_sees_kind (okT_Reader_sees_kind T) (hr.mono (by first | decide | omega)) T.b_Reader_sees_kind (fun σ => L2N.passAt (L2N.takes_of rfl rfl rfl rfl) σ) (by exact (pa_cons pe_str pa_nil))))
      (pss_one (ps_ret (pe_callT (okT_read_number T) (hr.mono (by first | decide | omega)) (by rfl) T.m_read_number T.F_read_number.kp T.b_read_number (fun σ => L2N.passAt (L2N.takes_of rfl rfl rfl rfl) σ) (by exact (pa_cons (pv 0) (pa_cons (pv 2) pa_nil))))))
      pss_nil)
      (pss_cons (ps_if (pt_val (pe_methT (pv 0) T.cl_Reader T.M_Reader_accept (okT_Reader_accept T) (hr.mono (by first | decide | omega)) T.b_Reader_accept (fun σ => L2N.passAt (L2N.takes_of rfl rfl rfl rfl) σ) (by exact (pa_cons pe_str pa_nil))))
      (pss_one (ps_ret (pe_tup (pa_cons pe_str (pa_cons pe_bl pa_nil)))))
      pss_nil)
      (pss_cons (ps_if (pt_val (pe_methT (pv 0) T.cl_Reader T.M_Reader_accept (okT_Reader_accept T) (hr.mono (by first | decide | omega)) T.b_Reader_accept (fun σ => L2N.passAt (L2N.takes_of rfl rfl rfl rfl) σ) (by exact (pa_cons pe_str pa_nil))))
      (pss_one (ps_ret (pe_tup (pa_cons pe_str (pa_cons pe_bl pa_nil)))))
      pss_nil)
      (pss_cons (ps_if (pt_val (pe_methT (pv 0) T.cl_Reader T.M_Reader_accept (okT_Reader_accept T) (hr.mono (by first | decide | omega)) T.b_Reader_accept (fun σ => L2N.passAt (L2N.takes_of rfl rfl rfl rfl) σ) (by exact (pa_cons pe_str pa_nil))))
      (pss_cons (ps_set (i := 3) sc_read_primary.nd rfl (.inl rfl) (by exact (pe_callT hX (hr.mono (by first | decide | omega)) (by rfl) T.m_read_expression T.F_read_expression.kp T.b_read_expression (fun σ => L2N.passAt (L2N.takes_of rfl rfl rfl rfl) σ) (by exact (pa_cons (pv 0) (pa_cons (pe_callT (okT_deeper T) (hr.mono (by first | decide | omega)) (by rfl) T.m_deeper T.F_deeper.kp T.b_deeper (fun σ => L2N.passAt (L2N.takes_of rfl rfl rfl rfl) σ) (by exact (pa_cons (pv 1) pa_nil))) pa_nil))))))
      (pss_cons (ps_expr (pe_methT (pv 0) T.cl_Reader T.M_Reader_expect (okT_Reader_expect T) (hr.mono (by first | decide | omega)) T.b_Reader_expect (fun σ => L2N.passAt (L2N.takes_of rfl rfl rfl rfl) σ) (by exact (pa_cons pe_str pa_nil))))
      (pss_one (ps_ret (pv 3)))))
      pss_nil)
      (pss_cons (ps_if (pt_val (pe_methT (pv 0) T.cl_Reader T.M_Reader_accept (okT_Reader_accept T) (hr.mono (by first | decide | omega)) T.b_Reader_accept (fun σ => L2N.passAt (L2N.takes_of rfl rfl rfl rfl) σ) (by exact (pa_cons pe_str pa_nil))))
      (pss_one (ps_ret (pe_callT (okT_read_iterate T hI (by omega)) (hr.mono (by first | decide | omega)) (by rfl) T.m_read_iterate T.F_read_iterate.kp T.b_read_iterate (fun σ => L2N.passAt (L2N.takes_of rfl rfl rfl rfl) σ) (by exact (pa_cons (pv 0) (pa_cons (pv 1) (pa_cons (pv 2) pa_nil)))))))
      pss_nil)
      (pss_cons (ps_set (i := 4) sc_read_primary.nd rfl (.inl rfl) (by exact (pe_methT (pv 0) T.cl_Reader T.M_Reader_expect_kind (okT_Reader_expect_kind T) (hr.mono (by first | decide | omega)) T.b_Reader_expect_kind (fun σ => L2N.passAt (L2N.takes_of rfl rfl rfl rfl) σ) (by exact (pa_cons pe_str pa_nil)))))
      (pss_cons (ps_if (pt_val (pe_methT (pv 0) T.cl_Reader T.M_Reader_accept (okT_Reader_accept T) (hr.mono (by first | decide | omega)) T.b_Reader_accept (fun σ => L2N.passAt (L2N.takes_of rfl rfl rfl rfl) σ) (by exact (pa_cons pe_str pa_nil))))
      (pss_one (ps_ret (pe_tup (pa_cons pe_str (pa_cons (pv 4) (pa_cons (pe_callT (okT_read_arguments T hX (by omega)) (hr.mono (by first | decide | omega)) (by rfl) T.m_read_arguments T.F_read_arguments.kp T.b_read_arguments (fun σ => L2N.passAt (L2N.takes_of rfl rfl rfl rfl) σ) (by exact (pa_cons (pv 0) (pa_cons (pv 1) pa_nil)))) (pa_cons (pv 2) pa_nil)))))))
      pss_nil)
      (pss_one (ps_ret (pe_tup (pa_cons pe_str (pa_cons (pv 4) (pa_cons (pv 2) pa_nil)))))))))))))), ?_⟩
      have q : Out K (clOf T) R k H (primM R.all R.n (E R.all R.n) (j + 1) k) Q X := q
      unfold primM at q
      refine ⟨_, rfl, R.r, _, _, rfl, ha.1, rfl, R, k, rfl, ha, ?_⟩
      refine ⟨_, rfl, R.r, _, _, rfl, ha.1, rfl, R, k, "number", rfl, ha, ⟨_, rfl, ite2 (fun hs => ?_) (fun hs => ?_)⟩⟩
      · rw [if_pos hs] at q
        exact ⟨_, rfl, _, rfl, R, k, _, rfl, ha, hs, q⟩
      rw [if_neg hs] at q
      refine ⟨_, rfl, R.r, _, _, rfl, ha.1, rfl, R, k, "true", rfl, ha, sh1 _, fun hs1 H1 g1 ha1 => ⟨_, rfl, iteT ?_⟩, fun hs1 H1 g1 ha1 => ⟨_, rfl, iteF ?_⟩⟩
      · rw [if_pos hs1] at q
        refine ⟨by show 2 ≤ sizeLine; decide, fun p np => ?_⟩
        exact Out.tup q (by omega) g1 ha1 (.cons (.str _) (.cons (.bl _) .nil)) rfl np
      rw [if_neg (by rw [hs1]; exact Bool.false_ne_true)] at q
      refine ⟨_, rfl, R.r, _, _, rfl, ha1.1, rfl, R, k, "false", rfl, ha1, sh1 _, fun hs2 H2 g2 ha2 => ⟨_, rfl, iteT ?_⟩, fun hs2 H2 g2 ha2 => ⟨_, rfl, iteF ?_⟩⟩
      · rw [if_pos hs2] at q
        refine ⟨by show 2 ≤ sizeLine; decide, fun p np => ?_⟩
        exact Out.tup q (by omega) (g1.trans g2) ha2 (.cons (.str _) (.cons (.bl _) .nil)) rfl np
      rw [if_neg (by rw [hs2]; exact Bool.false_ne_true)] at q
      have g02 := g1.trans g2
      refine ⟨_, rfl, R.r, _, _, rfl, ha2.1, rfl, R, k, "(", rfl, ha2, sh1 _, fun hs3 H3 g3 ha3 => ⟨_, rfl, iteT ?_⟩, fun hs3 H3 g3 ha3 => ⟨_, rfl, iteF ?_⟩⟩
      · rw [if_pos hs3] at q
        have g03 := g02.trans g3
        refine ⟨_, rfl, _, rfl, l, j, rfl, hl, fun h0 dd hdd => ?_, fun h1 => ?_⟩
        · subst h0
          rw [hE0] at q
          exact err_new (ErrG.go q g03) hdd
        refine ⟨R, k + 1, l + 1, rfl, h1, by omega, ha3, ?_⟩
        refine Out.step0 q g03 fun d4 k4 H4 v4 hr4 hk4 g4 ha4 hd4 hn4 q4 => ?_
        refine ⟨_, rfl, R.r, _, _, rfl, ha4.1, rfl, R, k4, ")", rfl, ha4, sh1 _, ?_⟩
        refine Out.step0 q4 (g03.trans g4) fun d5 k5 H5 v5 hr5 hk5 g5 ha5 hd5 hn5 q5 => ?_
        exact ⟨_, rfl, Out.ret q5 (by omega) ((g03.trans g4).trans g5) ha5 (dp_go g5 ha4.ins hn4 hd4) hn4⟩
      rw [if_neg (by rw [hs3]; exact Bool.false_ne_true)] at q
      have g03 := g02.trans g3
      refine ⟨_, rfl, R.r, _, _, rfl, ha3.1, rfl, R, k, "iterate", rfl, ha3, sh1 _, fun hs4 H4 g4 ha4 => ⟨_, rfl, iteT ?_⟩, fun hs4 H4 g4 ha4 => ⟨_, rfl, iteF ?_⟩⟩
      · rw [if_pos hs4] at q
        exact ⟨_, rfl, _, rfl, _, rfl, R, k + 1, l, _, rfl, hl, ha4, Out.pass (Out.go q (g03.trans g4)) (by omega)⟩
      rw [if_neg (by rw [hs4]; exact Bool.false_ne_true)] at q
      have g04 := g03.trans g4
      refine ⟨_, rfl, R.r, _, _, rfl, ha4.1, rfl, R, k, "name", rfl, ha4, sh1 _, ?_⟩
      refine Out.step0 q g04 fun d5 k5 H5 v5 hr5 hk5 g5 ha5 hd5 hn5 q5 => ?_
      have g05 := g04.trans g5
      refine ⟨_, rfl, R.r, _, _, rfl, ha5.1, rfl, R, k5, "(", rfl, ha5, sh1 _, fun hs6 H6 g6 ha6 => ⟨_, rfl, iteT ?_⟩, fun hs6 H6 g6 ha6 => ⟨_, rfl, iteF ?_⟩⟩
      · rw [if_pos hs6] at q5
        have g06 := g05.trans g6
        have hd6 := dp_go g6 ha5.ins hn5 hd5
        refine ⟨_, rfl, _, rfl, _, rfl, R, k5 + 1, l, rfl, hl, ha6, hE0 _ _, ?_⟩
        refine Out.step0 q5 g06 fun d7 k7 H7 v7 hr7 hk7 g7 ha7 hd7 hn7 q7 => ?_
        refine ⟨_, rfl, by show 4 ≤ sizeLine; decide, fun p np => ?_⟩
        exact Out.tup q7 (by omega) (g06.trans g7) ha7 (.cons (.str _) (.cons (dp_go g7 ha6.ins hn5 hd6) (.cons hd7 (.cons (.int _) .nil)))) (noLs_cons rfl (noLs_cons hn5 (noLs_cons hn7 rfl))) np
      · rw [if_neg (by rw [hs6]; exact Bool.false_ne_true)] at q5
        refine ⟨_, rfl, _, rfl, by show 3 ≤ sizeLine; decide, fun p np => ?_⟩
        exact Out.tup q5 (by omega) (g05.trans g6) ha6 (.cons (.str _) (.cons (dp_go g6 ha5.ins hn5 hd5) (.cons (.int _) .nil))) (noLs_cons rfl (noLs_cons hn5 rfl)) np
def powersF (E : Lv) : Lv := fun all n j k => powersM all n (E all n) j k
theorem okT_read_powers (T : Top w K mg) {E : Lv} {r j : Nat} (hI : FnT P w K mg base r T.a_read_primary T.fd_read_primary ["reader", "level"] (spLv K (clOf T) (primF E) j)) (h17 : 17 ≤ r) :
    FnT P w K mg base (r + 1) T.a_read_powers T.fd_read_powers ["reader", "level"] (spLv K (clOf T) (powersF E) j) := by
  refine okT T.F_read_powers sc_read_powers (fun vs H Q X h => ?_) (fun cdv A outer s H vs Q X hr h => ?_)
  · obtain ⟨R, k, l, rfl, _⟩ := h
    rfl
  · obtain ⟨R, k, l, rfl, hj, hl, ha, q⟩ := h
    refine ⟨_, (pss_cons (ps_set (i := 2) sc_read_powers.nd rfl (.inl rfl) (by exact (pe_callT hI (hr.mono (by first | decide | omega)) (by rfl) T.m_read_primary T.F_read_primary.kp T.b_read_primary (fun σ => L2N.passAt (L2N.takes_of rfl rfl rfl rfl) σ) (by exact (pa_cons (pv 0) (pa_cons (pv 1) pa_nil))))))
      (pss_cons (ps_while (passes_of rfl) (pt_val (pe_methT (pv 0) T.cl_Reader T.M_Reader_sees (okT_Reader_sees T) (hr.mono (by first | decide | omega)) T.b_Reader_sees (fun σ => L2N.passAt (L2N.takes_of rfl rfl rfl rfl) σ) (by exact (pa_cons (pe_tup (pa_cons pe_str pa_nil)) pa_nil))))
      (pss_cons (ps_set (i := 3) sc_read_powers.nd rfl (.inl rfl) (by exact (pe_meth0T (pv 0) T.cl_Reader T.M_Reader_where (okT_Reader_where T) (hr.mono (by first | decide | omega)) T.b_Reader_where (fun σ => L2N.passAt (L2N.takes_of rfl rfl rfl rfl) σ))))
      (pss_cons (ps_expr (pe_methT (pv 0) T.cl_Reader T.M_Reader_expect (okT_Reader_expect T) (hr.mono (by first | decide | omega)) T.b_Reader_expect (fun σ => L2N.passAt (L2N.takes_of rfl rfl rfl rfl) σ) (by exact (pa_cons pe_str pa_nil))))
      (pss_cons (ps_set (i := 1) sc_read_powers.nd rfl (.inl rfl) (by exact (pe_callT (okT_deeper T) (hr.mono (by first | decide | omega)) (by rfl) T.m_deeper T.F_deeper.kp T.b_deeper (fun σ => L2N.passAt (L2N.takes_of rfl rfl rfl rfl) σ) (by exact (pa_cons (pv 1) pa_nil)))))
      (pss_one (ps_set (i := 2) sc_read_powers.nd rfl (.inl rfl) (by exact (pe_tup (pa_cons pe_str (pa_cons (pv 2) (pa_cons (pe_callT (okT_read_power T) (hr.mono (by first | decide | omega)) (by rfl) T.m_read_power T.F_read_power.kp T.b_read_power (fun σ => L2N.passAt (L2N.takes_of rfl rfl rfl rfl) σ) (by exact (pa_cons (pv 0) pa_nil))) (pa_cons (pv 3) pa_nil))))))))))))
      (pss_one (ps_ret (pv 2))))), ?_⟩
    have q : Out K (clOf T) R k H (powersM R.all R.n (E R.all R.n) j k) Q X := q
    unfold powersM at q
    refine ⟨_, rfl, _, rfl, R, k, l, rfl, hj, hl, ha, ?_⟩
    refine Out.step0 q (Go.refl _ _) fun d1 k1 H1 v1 hr1 hk1 g1 ha1 hd1 hn1 q1 => ?_
    clear q
    refine ⟨fun m' σ H' => ∃ (k' l' : Nat) (v : V) (d : PyData) (y3 : Option V), σ = [some (.ref R.r), some (.int (l' : Int)), some v, y3] ∧ k ≤ k' ∧ 1 ≤ m' ∧ l' + m' = 25 ∧
      R.at_ K (clOf T).rd H' k' ∧ Go R.r H H' ∧ Dp K H' v d ∧ noL d = true ∧ Out K (clOf T) R k H (powL R.all R.n m' d k') Q X,
      ⟨j, k1, l, v1, d1, none, rfl, hk1, hj, hl, ha1, g1, hd1, hn1, q1⟩, ?_⟩
    clear q1 hd1 ha1 g1
    rintro m2 σ H2 ⟨k2, l2, v2, d2, y3, rfl, hk2, h1m, hl2, ha2, g2, hd2, hn2, q⟩
    obtain ⟨m3, rfl⟩ : ∃ m3, m2 = m3 + 1 := ⟨m2 - 1, by omega⟩
    unfold powL at q
    refine ⟨_, rfl, R.r, _, _, rfl, ha2.1, rfl, by show 1 ≤ sizeLine; decide, fun p np => ?_⟩
    have hs0 := Ly.same_new (o := .tup [.str "^"]) np
    have ha3 := ha2.same hs0
    have g3 := g2.trans (go_same hs0)
    have hd3 := dp_same hs0 hn2 hd2
    refine ⟨R, k2, p, ["^"], rfl, ha3, SqT.of upd_same, sh1 _, ⟨_, rfl, ite2 (fun hs => ?_) (fun hs => ?_)⟩⟩
    · rw [if_pos hs] at q
      refine ⟨fun σ' H' => ∃ (k' l' : Nat) (v : V) (d : PyData) (y3 : Option V), σ' = [some (.ref R.r), some (.int (l' : Int)), some v, y3] ∧ k ≤ k' ∧ 1 ≤ m3 ∧ l' + m3 = 25 ∧
        R.at_ K (clOf T).rd H' k' ∧ Go R.r H H' ∧ Dp K H' v d ∧ noL d = true ∧ Out K (clOf T) R k H (powL R.all R.n m3 d k') Q X, fun σ' H' hN => ⟨m3, by omega, hN⟩, ?_⟩
      refine ⟨_, rfl, R.r, _, _, rfl, ha3.1, rfl, R, k2, rfl, ha3, ?_⟩
      refine ⟨_, rfl, R.r, _, _, rfl, ha3.1, rfl, R, k2, "^", rfl, ha3, sh1 _, ?_⟩
      show Out K (clOf T) R k2 _ (expectS R.all R.n "^" k2) _ _
      unfold expectS
      rw [if_pos hs]
      intro hk4 H4 v4 g4 ha4 hd4 hn4
      refine ⟨_, rfl, l2, m3, rfl, hl2, fun h0 dd hdd => ?_, fun h1 => ?_⟩
      · rw [if_pos h0] at q
        exact err_new (ErrG.go q (g3.trans g4)) hdd
      · rw [if_neg (by omega)] at q
        refine ⟨_, rfl, _, rfl, R, k2 + 1, rfl, ha4, ?_⟩
        refine Out.step0 q (g3.trans g4) fun d5 k5 H5 v5 hr5 hk5 g5 ha5 hd5 hn5 q5 => ?_
        have hd35 := dp_go (g4.trans g5) ha3.ins hn2 hd3
        refine ⟨_, rfl, by show 4 ≤ sizeLine; decide, fun t nt => ?_⟩
        have sm := Ly.same_new (o := .tup [.str "power", v2, v5, .int (wh R.all R.n k2 : Int)]) nt
        refine ⟨k5, l2 + 1, _, .tuple [.str "power", d2, d5, .int (wh R.all R.n k2 : Int)], _, rfl, by omega, h1, by omega, ha5.same sm, ((g3.trans g4).trans g5).trans (go_new nt), ?_, (show noL (.tuple _) = true from node_no hn2 hn5), q5⟩
        exact .tup (SqT.of upd_same) (dps_keep (sqt_same sm) _ _ (node_no hn2 hn5) (.cons (.str _) (.cons hd35 (.cons hd5 (.cons (.int _) .nil)))))
    · rw [if_neg hs] at q
      exact ⟨_, rfl, Out.ret q (by omega) g3 ha3 hd3 hn2⟩
def spIf (K : PySem.W.Frag) (c : Cl) (f : List (Tkn × Nat) → Nat → (Nat → Res) → Nat → Nat → Res) (E : Lv) (j : Nat) : Sp := fun vs H Q X => ∃ (R : RS) (k l a : Nat), vs = [.ref R.r, .int (l : Int), .int (a : Int)] ∧ l + (j + 1) = 25 ∧ R.at_ K c.rd H k ∧ E R.all R.n 0 = (fun _ => .error .over) ∧ Out K c R k H (f R.all R.n (E R.all R.n j) a k) Q X
theorem okT_read_if (T : Top w K mg) {E : Lv} {r j : Nat} (hX : FnT P w K mg base r T.a_read_expression T.fd_read_expression ["reader", "level"] (spLv K (clOf T) E j)) (h16 : 16 ≤ r) :
    FnT P w K mg base (r + 1) T.a_read_if T.fd_read_if ["reader", "level", "at"] (spIf K (clOf T) ifM E j) := by
  refine okT T.F_read_if sc_read_if (fun vs H Q X h => ?_) (fun cdv A outer s H vs Q X hr h => ?_)
  · obtain ⟨R, k, l, a, rfl, _⟩ := h
    rfl
  · obtain ⟨R, k, l, a, rfl, hl, ha, hE0, q⟩ := h
    refine ⟨_, (pss_cons (ps_set (i := 3) sc_read_if.nd rfl (.inl rfl) (by exact (pe_callT hX (hr.mono (by first | decide | omega)) (by rfl) T.m_read_expression T.F_read_expression.kp T.b_read_expression (fun σ => L2N.passAt (L2N.takes_of rfl rfl rfl rfl) σ) (by exact (pa_cons (pv 0) (pa_cons (pe_callT (okT_deeper T) (hr.mono (by first | decide | omega)) (by rfl) T.m_deeper T.F_deeper.kp T.b_deeper (fun σ => L2N.passAt (L2N.takes_of rfl rfl rfl rfl) σ) (by exact (pa_cons (pv 1) pa_nil))) pa_nil))))))
      (pss_cons (ps_expr (pe_methT (pv 0) T.cl_Reader T.M_Reader_expect (okT_Reader_expect T) (hr.mono (by first | decide | omega)) T.b_Reader_expect (fun σ => L2N.passAt (L2N.takes_of rfl rfl rfl rfl) σ) (by exact (pa_cons pe_str pa_nil))))
      (pss_cons (ps_set (i := 4) sc_read_if.nd rfl (.inl rfl) (by exact (pe_callT hX (hr.mono (by first | decide | omega)) (by rfl) T.m_read_expression T.F_read_expression.kp T.b_read_expression (fun σ => L2N.passAt (L2N.takes_of rfl rfl rfl rfl) σ) (by exact (pa_cons (pv 0) (pa_cons (pe_callT (okT_deeper T) (hr.mono (by first | decide | omega)) (by rfl) T.m_deeper T.F_deeper.kp T.b_deeper (fun σ => L2N.passAt (L2N.takes_of rfl rfl rfl rfl) σ) (by exact (pa_cons (pv 1) pa_nil))) pa_nil))))))
      (pss_cons (ps_expr (pe_methT (pv 0) T.cl_Reader T.M_Reader_expect (okT_Reader_expect T) (hr.mono (by first | decide | omega)) T.b_Reader_expect (fun σ => L2N.passAt (L2N.takes_of rfl rfl rfl rfl) σ) (by exact (pa_cons pe_str pa_nil))))
      (pss_cons (ps_set (i := 5) sc_read_if.nd rfl (.inl rfl) (by exact (pe_callT hX (hr.mono (by first | decide | omega)) (by rfl) T.m_read_expression T.F_read_expression.kp T.b_read_expression (fun σ => L2N.passAt (L2N.takes_of rfl rfl rfl rfl) σ) (by exact (pa_cons (pv 0) (pa_cons (pe_callT (okT_deeper T) (hr.mono (by first | decide | omega)) (by rfl) T.m_deeper T.F_deeper.kp T.b_deeper (fun σ => L2N.passAt (L2N.takes_of rfl rfl rfl rfl) σ) (by exact (pa_cons (pv 1) pa_nil))) pa_nil))))))
      (pss_one (ps_ret (pe_tup (pa_cons pe_str (pa_cons (pv 3) (pa_cons (pv 4) (pa_cons (pv 5) (pa_cons (pv 2) pa_nil))))))))))))), ?_⟩
    unfold ifM at q
    refine ⟨_, rfl, _, rfl, l, j, rfl, hl, fun h0 dd hdd => ?_, fun h1 => ?_⟩
    · subst h0
      rw [hE0] at q
      exact err_new q hdd
    refine ⟨R, k, l + 1, rfl, h1, by omega, ha, ?_⟩
    refine Out.step q fun d1 k1 H1 v1 hr1 hk1 g1 ha1 hd1 hn1 q1 => ?_
    refine ⟨_, rfl, R.r, _, _, rfl, ha1.1, rfl, R, k1, "then", rfl, ha1, sh1 _, ?_⟩
    refine Out.step q1 fun d2 k2 H2 v2 hr2 hk2 g2 ha2 hd2 hn2 q2 => ?_
    refine ⟨_, rfl, _, rfl, l, j, rfl, hl, fun h0 dd hdd => absurd h0 (by omega), fun h1 => ?_⟩
    refine ⟨R, k2, l + 1, rfl, h1, by omega, ha2, ?_⟩
    refine Out.step q2 fun d3 k3 H3 v3 hr3 hk3 g3 ha3 hd3 hn3 q3 => ?_
    refine ⟨_, rfl, R.r, _, _, rfl, ha3.1, rfl, R, k3, "else", rfl, ha3, sh1 _, ?_⟩
    refine Out.step q3 fun d4 k4 H4 v4 hr4 hk4 g4 ha4 hd4 hn4 q4 => ?_
    refine ⟨_, rfl, _, rfl, l, j, rfl, hl, fun h0 dd hdd => absurd h0 (by omega), fun h1 => ?_⟩
    refine ⟨R, k4, l + 1, rfl, h1, by omega, ha4, ?_⟩
    refine Out.step q4 fun d5 k5 H5 v5 hr5 hk5 g5 ha5 hd5 hn5 q5 => ?_
    refine ⟨_, rfl, _, rfl, _, rfl, _, rfl, by show 5 ≤ sizeLine; decide, fun p np => ?_⟩
    exact Out.tup q5 (by omega) (Go.refl _ _) ha5 (.cons (.str _) (.cons (dp_go (((g2.trans g3).trans g4).trans g5) ha1.ins hn1 hd1) (.cons (dp_go (g4.trans g5) ha3.ins hn3 hd3) (.cons hd5 (.cons (.int _) .nil)))))
      (noLs_cons rfl (noLs_cons hn1 (noLs_cons hn3 (noLs_cons hn5 rfl)))) np
theorem okT_read_let (T : Top w K mg) {E : Lv} {r j : Nat} (hX : FnT P w K mg base r T.a_read_expression T.fd_read_expression ["reader", "level"] (spLv K (clOf T) E j)) (h16 : 16 ≤ r) :
    FnT P w K mg base (r + 1) T.a_read_let T.fd_read_let ["reader", "level", "at"] (spIf K (clOf T) letM E j) := by
  refine okT T.F_read_let sc_read_let (fun vs H Q X h => ?_) (fun cdv A outer s H vs Q X hr h => ?_)
  · obtain ⟨R, k, l, a, rfl, _⟩ := h
    rfl
  · obtain ⟨R, k, l, a, rfl, hl, ha, hE0, q⟩ := h
    refine ⟨_, (pss_cons (ps_set (i := 3) sc_read_let.nd rfl (.inl rfl) (by exact (pe_methT (pv 0) T.cl_Reader T.M_Reader_expect_kind (okT_Reader_expect_kind T) (hr.mono (by first | decide | omega)) T.b_Reader_expect_kind (fun σ => L2N.passAt (L2N.takes_of rfl rfl rfl rfl) σ) (by exact (pa_cons pe_str pa_nil)))))
      (pss_cons (ps_expr (pe_methT (pv 0) T.cl_Reader T.M_Reader_expect (okT_Reader_expect T) (hr.mono (by first | decide | omega)) T.b_Reader_expect (fun σ => L2N.passAt (L2N.takes_of rfl rfl rfl rfl) σ) (by exact (pa_cons pe_str pa_nil))))
      (pss_cons (ps_set (i := 4) sc_read_let.nd rfl (.inl rfl) (by exact (pe_callT hX (hr.mono (by first | decide | omega)) (by rfl) T.m_read_expression T.F_read_expression.kp T.b_read_expression (fun σ => L2N.passAt (L2N.takes_of rfl rfl rfl rfl) σ) (by exact (pa_cons (pv 0) (pa_cons (pe_callT (okT_deeper T) (hr.mono (by first | decide | omega)) (by rfl) T.m_deeper T.F_deeper.kp T.b_deeper (fun σ => L2N.passAt (L2N.takes_of rfl rfl rfl rfl) σ) (by exact (pa_cons (pv 1) pa_nil))) pa_nil))))))
      (pss_cons (ps_expr (pe_methT (pv 0) T.cl_Reader T.M_Reader_expect (okT_Reader_expect T) (hr.mono (by first | decide | omega)) T.b_Reader_expect (fun σ => L2N.passAt (L2N.takes_of rfl rfl rfl rfl) σ) (by exact (pa_cons pe_str pa_nil))))
      (pss_cons (ps_set (i := 5) sc_read_let.nd rfl (.inl rfl) (by exact (pe_callT hX (hr.mono (by first | decide | omega)) (by rfl) T.m_read_expression T.F_read_expression.kp T.b_read_expression (fun σ => L2N.passAt (L2N.takes_of rfl rfl rfl rfl) σ) (by exact (pa_cons (pv 0) (pa_cons (pe_callT (okT_deeper T) (hr.mono (by first | decide | omega)) (by rfl) T.m_deeper T.F_deeper.kp T.b_deeper (fun σ => L2N.passAt (L2N.takes_of rfl rfl rfl rfl) σ) (by exact (pa_cons (pv 1) pa_nil))) pa_nil))))))
      (pss_one (ps_ret (pe_tup (pa_cons pe_str (pa_cons (pv 3) (pa_cons (pv 4) (pa_cons (pv 5) (pa_cons (pv 2) pa_nil))))))))))))), ?_⟩
    unfold letM at q
    refine ⟨_, rfl, R.r, _, _, rfl, ha.1, rfl, R, k, "name", rfl, ha, sh1 _, ?_⟩
    refine Out.step q fun d1 k1 H1 v1 hr1 hk1 g1 ha1 hd1 hn1 q1 => ?_
    refine ⟨_, rfl, R.r, _, _, rfl, ha1.1, rfl, R, k1, "=", rfl, ha1, sh1 _, ?_⟩
    refine Out.step q1 fun d2 k2 H2 v2 hr2 hk2 g2 ha2 hd2 hn2 q2 => ?_
    refine ⟨_, rfl, _, rfl, l, j, rfl, hl, fun h0 dd hdd => ?_, fun h1 => ?_⟩
    · subst h0
      rw [hE0] at q2
      exact err_new q2 hdd
    refine ⟨R, k2, l + 1, rfl, h1, by omega, ha2, ?_⟩
    refine Out.step q2 fun d3 k3 H3 v3 hr3 hk3 g3 ha3 hd3 hn3 q3 => ?_
    refine ⟨_, rfl, R.r, _, _, rfl, ha3.1, rfl, R, k3, "in", rfl, ha3, sh1 _, ?_⟩
    refine Out.step q3 fun d4 k4 H4 v4 hr4 hk4 g4 ha4 hd4 hn4 q4 => ?_
    refine ⟨_, rfl, _, rfl, l, j, rfl, hl, fun h0 dd hdd => absurd h0 (by omega), fun h1 => ?_⟩
    refine ⟨R, k4, l + 1, rfl, h1, by omega, ha4, ?_⟩
    refine Out.step q4 fun d5 k5 H5 v5 hr5 hk5 g5 ha5 hd5 hn5 q5 => ?_
    refine ⟨_, rfl, _, rfl, _, rfl, _, rfl, by show 5 ≤ sizeLine; decide, fun p np => ?_⟩
    exact Out.tup q5 (by omega) (Go.refl _ _) ha5 (.cons (.str _) (.cons (dp_go (((g2.trans g3).trans g4).trans g5) ha1.ins hn1 hd1) (.cons (dp_go (g4.trans g5) ha3.ins hn3 hd3) (.cons hd5 (.cons (.int _) .nil)))))
      (noLs_cons rfl (noLs_cons hn1 (noLs_cons hn3 (noLs_cons hn5 rfl)))) np
end
end Tk

namespace Tk
open PySem PySem.Spec PyProof.Rows L2 Ly Lx TL Px
/-! ### the levels of an expression -/
section
variable {P : Program} {w : World} {K : PySem.W.Frag} {mg : Str → Option Value} {base : Heap}
def factorsF (E : Lv) : Lv := fun all n j k => factorsM all n (E all n) j k
def termsF (E : Lv) : Lv := fun all n j k => termsM all n (E all n) j k
def plainF (E : Lv) : Lv := fun all n j k => plainM all n (E all n) j k
def bothF (E : Lv) : Lv := fun all n j k => bothM all n (E all n) j k
def exprF (E : Lv) : Lv := fun all n j k => exprM all n (E all n) j k
theorem okT_read_factors (T : Top w K mg) {E : Lv} {r j : Nat} (hC : FnT P w K mg base r T.a_read_chain T.fd_read_chain ["reader", "level", "operators", "read_part"] (spCh K (clOf T) T.a_read_powers ["*", "/"] (powersF E) j)) :
    FnT P w K mg base (r + 1) T.a_read_factors T.fd_read_factors ["reader", "level"] (spLv K (clOf T) (factorsF E) j) := by
  refine okT T.F_read_factors sc_read_factors (fun vs H Q X h => ?_) (fun cdv A outer s H vs Q X hr h => ?_)
  · obtain ⟨R, k, l, rfl, _⟩ := h
    rfl
  · obtain ⟨R, k, l, rfl, hj, hl, ha, q⟩ := h
    refine ⟨_, (pss_one (ps_ret (pe_callT hC (hr.mono (by first | decide | omega)) (by rfl) T.m_read_chain T.F_read_chain.kp T.b_read_chain (fun σ => L2N.passAt (L2N.takes_of rfl rfl rfl rfl) σ) (by exact (pa_cons (pv 0) (pa_cons (pv 1) (pa_cons (pe_tup (pa_cons pe_str (pa_cons pe_str pa_nil))) (pa_cons (pe_glob (v := .ref T.a_read_powers) (by rfl) T.m_read_powers rfl) pa_nil)))))))), ?_⟩
    refine ⟨_, rfl, _, rfl, by show 2 ≤ sizeLine; decide, fun p np => ?_⟩
    have sm := Ly.same_new (o := .tup [.str "*", .str "/"]) np
    exact ⟨R, k, l, j, p, rfl, Nat.le_refl _, hj, hl, ha.same sm, SqT.of upd_same, Out.go q (go_same sm)⟩
theorem okT_read_terms (T : Top w K mg) {E : Lv} {r j : Nat} (hC : FnT P w K mg base r T.a_read_chain T.fd_read_chain ["reader", "level", "operators", "read_part"] (spCh K (clOf T) T.a_read_factors ["+", "-"] (factorsF E) j)) :
    FnT P w K mg base (r + 1) T.a_read_terms T.fd_read_terms ["reader", "level"] (spLv K (clOf T) (termsF E) j) := by
  refine okT T.F_read_terms sc_read_terms (fun vs H Q X h => ?_) (fun cdv A outer s H vs Q X hr h => ?_)
  · obtain ⟨R, k, l, rfl, _⟩ := h
    rfl
  · obtain ⟨R, k, l, rfl, hj, hl, ha, q⟩ := h
    refine ⟨_, (pss_one (ps_ret (pe_callT hC (hr.mono (by first | decide | omega)) (by rfl) T.m_read_chain T.F_read_chain.kp T.b_read_chain (fun σ => L2N.passAt (L2N.takes_of rfl rfl rfl rfl) σ) (by exact (pa_cons (pv 0) (pa_cons (pv 1) (pa_cons (pe_tup (pa_cons pe_str (pa_cons pe_str pa_nil))) (pa_cons (pe_glob (v := .ref T.a_read_factors) (by rfl) T.m_read_factors rfl) pa_nil)))))))), ?_⟩
    refine ⟨_, rfl, _, rfl, by show 2 ≤ sizeLine; decide, fun p np => ?_⟩
    have sm := Ly.same_new (o := .tup [.str "+", .str "-"]) np
    exact ⟨R, k, l, j, p, rfl, Nat.le_refl _, hj, hl, ha.same sm, SqT.of upd_same, Out.go q (go_same sm)⟩
theorem okT_read_both (T : Top w K mg) {E : Lv} {r j : Nat} (hC : FnT P w K mg base r T.a_read_chain T.fd_read_chain ["reader", "level", "operators", "read_part"] (spCh K (clOf T) T.a_read_plain ["and"] (plainF E) j)) :
    FnT P w K mg base (r + 1) T.a_read_both T.fd_read_both ["reader", "level"] (spLv K (clOf T) (bothF E) j) := by
  refine okT T.F_read_both sc_read_both (fun vs H Q X h => ?_) (fun cdv A outer s H vs Q X hr h => ?_)
  · obtain ⟨R, k, l, rfl, _⟩ := h
    rfl
  · obtain ⟨R, k, l, rfl, hj, hl, ha, q⟩ := h
    refine ⟨_, (pss_one (ps_ret (pe_callT hC (hr.mono (by first | decide | omega)) (by rfl) T.m_read_chain T.F_read_chain.kp T.b_read_chain (fun σ => L2N.passAt (L2N.takes_of rfl rfl rfl rfl) σ) (by exact (pa_cons (pv 0) (pa_cons (pv 1) (pa_cons (pe_tup (pa_cons pe_str pa_nil)) (pa_cons (pe_glob (v := .ref T.a_read_plain) (by rfl) T.m_read_plain rfl) pa_nil)))))))), ?_⟩
    refine ⟨_, rfl, _, rfl, by show 1 ≤ sizeLine; decide, fun p np => ?_⟩
    have sm := Ly.same_new (o := .tup [.str "and"]) np
    exact ⟨R, k, l, j, p, rfl, Nat.le_refl _, hj, hl, ha.same sm, SqT.of upd_same, Out.go q (go_same sm)⟩
theorem okT_read_plain (T : Top w K mg) {E : Lv} : ∀ j, (∀ i, i ≤ j → FnT P w K mg base (13 * i + 23) T.a_read_terms T.fd_read_terms ["reader", "level"] (spLv K (clOf T) (termsF E) i)) →
    FnT P w K mg base (13 * j + 24) T.a_read_plain T.fd_read_plain ["reader", "level"] (spLv K (clOf T) (plainF E) j)
  | 0, _ => FnT.none fun vs H Q X h => by
    obtain ⟨R, k, l, _, h, _⟩ := h
    omega
  | j + 1, hT => by
    have hN := okT_read_plain T j fun i hi => hT i (by omega)
    have hS := FnT.le (r := fun i => 13 * i + 23) (m := j + 1) (fun i hi => by omega) hT
    refine okT T.F_read_plain sc_read_plain (fun vs H Q X h => ?_) (fun cdv A outer s H vs Q X hr h => ?_)
    · obtain ⟨R, k, l, rfl, _⟩ := h
      rfl
    · obtain ⟨R, k, l, rfl, hj, hl, ha, q⟩ := h
      refine ⟨_, (pss_cons (ps_set (i := 2) sc_read_plain.nd rfl (.inl rfl) (by exact (pe_meth0T (pv 0) T.cl_Reader T.M_Reader_where (okT_Reader_where T) (hr.mono (by first | decide | omega)) T.b_Reader_where (fun σ => L2N.passAt (L2N.takes_of rfl rfl rfl rfl) σ))))
      (pss_cons (ps_if (pt_val (pe_methT (pv 0) T.cl_Reader T.M_Reader_accept (okT_Reader_accept T) (hr.mono (by first | decide | omega)) T.b_Reader_accept (fun σ => L2N.passAt (L2N.takes_of rfl rfl rfl rfl) σ) (by exact (pa_cons pe_str pa_nil))))
      (pss_one (ps_ret (pe_tup (pa_cons pe_str (pa_cons (pe_callT hN (hr.mono (by first | decide | omega)) (by rfl) T.m_read_plain T.F_read_plain.kp T.b_read_plain (fun σ => L2N.passAt (L2N.takes_of rfl rfl rfl rfl) σ) (by exact (pa_cons (pv 0) (pa_cons (pe_callT (okT_deeper T) (hr.mono (by first | decide | omega)) (by rfl) T.m_deeper T.F_deeper.kp T.b_deeper (fun σ => L2N.passAt (L2N.takes_of rfl rfl rfl rfl) σ) (by exact (pa_cons (pv 1) pa_nil))) pa_nil)))) (pa_cons (pv 2) pa_nil))))))
      pss_nil)
      (pss_cons (ps_set (i := 3) sc_read_plain.nd rfl (.inl rfl) (by exact (pe_callT hS (hr.mono (by first | decide | omega)) (by rfl) T.m_read_terms T.F_read_terms.kp T.b_read_terms (fun σ => L2N.passAt (L2N.takes_of rfl rfl rfl rfl) σ) (by exact (pa_cons (pv 0) (pa_cons (pv 1) pa_nil))))))
      (pss_cons (ps_if (pt_not (pt_val (pe_methT (pv 0) T.cl_Reader T.M_Reader_sees (okT_Reader_sees T) (hr.mono (by first | decide | omega)) T.b_Reader_sees (fun σ => L2N.passAt (L2N.takes_of rfl rfl rfl rfl) σ) (by exact (pa_cons (pe_glob (v := .ref T.a_COMPARISONS) (by rfl) T.c_COMPARISONS rfl) pa_nil)))))
      (pss_one (ps_ret (pv 3)))
      pss_nil)
      (pss_cons (ps_set (i := 2) sc_read_plain.nd rfl (.inl rfl) (by exact (pe_meth0T (pv 0) T.cl_Reader T.M_Reader_where (okT_Reader_where T) (hr.mono (by first | decide | omega)) T.b_Reader_where (fun σ => L2N.passAt (L2N.takes_of rfl rfl rfl rfl) σ))))
      (pss_cons (ps_set (i := 4) sc_read_plain.nd rfl (.inl rfl) (by exact (pe_ix ix_kdict (pe_glob (v := .ref T.a_OPERATIONS) (by rfl) T.c_OPERATIONS rfl) (pe_meth0T (pv 0) T.cl_Reader T.M_Reader_take (okT_Reader_take T) (hr.mono (by first | decide | omega)) T.b_Reader_take (fun σ => L2N.passAt (L2N.takes_of rfl rfl rfl rfl) σ)) (fun _ _ => rfl))))
      (pss_one (ps_ret (pe_tup (pa_cons (pv 4) (pa_cons (pv 3) (pa_cons (pe_callT hS (hr.mono (by first | decide | omega)) (by rfl) T.m_read_terms T.F_read_terms.kp T.b_read_terms (fun σ => L2N.passAt (L2N.takes_of rfl rfl rfl rfl) σ) (by exact (pa_cons (pv 0) (pa_cons (pe_callT (okT_deeper T) (hr.mono (by first | decide | omega)) (by rfl) T.m_deeper T.F_deeper.kp T.b_deeper (fun σ => L2N.passAt (L2N.takes_of rfl rfl rfl rfl) σ) (by exact (pa_cons (pv 1) pa_nil))) pa_nil)))) (pa_cons (pv 2) pa_nil))))))))))))), ?_⟩
      have q : Out K (clOf T) R k H (plainM R.all R.n (E R.all R.n) (j + 1) k) Q X := q
      unfold plainM at q
      refine ⟨_, rfl, R.r, _, _, rfl, ha.1, rfl, R, k, rfl, ha, ?_⟩
      refine ⟨_, rfl, R.r, _, _, rfl, ha.1, rfl, R, k, "not", rfl, ha, sh1 _, fun hs1 H1 g1 ha1 => ⟨_, rfl, iteT ?_⟩, fun hs1 H1 g1 ha1 => ⟨_, rfl, iteF ?_⟩⟩
      · rw [if_pos hs1] at q
        refine ⟨_, rfl, _, rfl, l, j, rfl, hl, fun h0 dd hdd => ?_, fun h1 => ?_⟩
        · subst h0
          exact err_new (ErrG.go (show ErrG _ _ _ _ _ _ from q) g1) hdd
        refine ⟨R, k + 1, l + 1, rfl, h1, by omega, ha1, ?_⟩
        refine Out.step0 q g1 fun d2 k2 H2 v2 hr2 hk2 g2 ha2 hd2 hn2 q2 => ?_
        refine ⟨_, rfl, by show 3 ≤ sizeLine; decide, fun p np => ?_⟩
        exact Out.tup q2 (by omega) (g1.trans g2) ha2 (.cons (.str _) (.cons hd2 (.cons (.int _) .nil))) (noLs_cons rfl (noLs_cons hn2 rfl)) np
      rw [if_neg (by rw [hs1]; exact Bool.false_ne_true)] at q
      refine ⟨_, rfl, _, rfl, j + 1, Nat.le_refl _, R, k, l, rfl, by omega, hl, ha1, ?_⟩
      refine Out.step0 q g1 fun d2 k2 H2 v2 hr2 hk2 g2 ha2 hd2 hn2 q2 => ?_
      refine ⟨_, rfl, R.r, _, _, rfl, ha2.1, rfl, R, k2, T.a_COMPARISONS, ["<", "<=", "=="], rfl, ha2, T.s_COMPARISONS _, shs _, ⟨_, rfl, ite2 (fun hs3 => ?_) (fun hs3 => ?_)⟩⟩
      · have hs3 : ¬ seesB R.all ["<", "<=", "=="] k2 = true := by simpa using hs3
        rw [if_neg hs3] at q2
        exact ⟨_, rfl, Out.ret q2 (by omega) (g1.trans g2) ha2 hd2 hn2⟩
      · have hs3 : seesB R.all ["<", "<=", "=="] k2 = true := by simpa using hs3
        rw [if_pos hs3] at q2
        obtain ⟨es, hin⟩ := sees_str hs3
        refine ⟨_, rfl, R.r, _, _, rfl, ha2.1, rfl, R, k2, rfl, ha2, ?_⟩
        refine ⟨_, rfl, R.r, _, _, rfl, ha2.1, rfl, R, k2, rfl, ha2, sees_lt hs3, fun H3 v3 g3 ha3 hd3 hx3 => ?_⟩
        obtain rfl := hx3 _ es
        have hop : Px.strAt R.all k2 ∈ opers := by
          simp only [List.mem_cons, List.not_mem_nil, or_false] at hin ⊢
          rcases hin with h | h | h
          · exact .inr (.inr (.inl h))
          · exact .inr (.inr (.inr (.inl h)))
          · exact .inr (.inr (.inr (.inr (.inl h))))
        refine ⟨_, _, _, rfl, rfl, opD T hop, ?_⟩
        have g03 := (g1.trans g2).trans g3
        refine ⟨_, rfl, _, rfl, _, rfl, _, rfl, l, j, rfl, hl, fun h0 dd hdd => ?_, fun h1 => ?_⟩
        · subst h0
          exact err_new (ErrG.go (show ErrG _ _ _ _ _ _ from q2) g03) hdd
        refine ⟨j, by omega, R, k2 + 1, l + 1, rfl, h1, by omega, ha3, ?_⟩
        refine Out.step0 q2 g03 fun d4 k4 H4 v4 hr4 hk4 g4 ha4 hd4 hn4 q4 => ?_
        refine ⟨_, rfl, by show 4 ≤ sizeLine; decide, fun p np => ?_⟩
        exact Out.tup q4 (by omega) (g03.trans g4) ha4 (.cons (.str _) (.cons (dp_go (g3.trans g4) ha2.ins hn2 hd2) (.cons hd4 (.cons (.int _) .nil)))) (node_no hn2 hn4) np
theorem okT_read_expression (T : Top w K mg) {E : Lv} (hE0 : ∀ all n, E all n 0 = fun _ => .error .over) {r j : Nat} (hX : FnT P w K mg base r T.a_read_expression T.fd_read_expression ["reader", "level"] (spLv K (clOf T) E j)) {r2 : Nat}
    (hC : FnT P w K mg base r2 T.a_read_chain T.fd_read_chain ["reader", "level", "operators", "read_part"] (spCh K (clOf T) T.a_read_both ["or"] (bothF E) (j + 1))) (h16 : 16 ≤ r) (hr2 : r + 1 ≤ r2) :
    FnT P w K mg base (r2 + 1) T.a_read_expression T.fd_read_expression ["reader", "level"] (spLv K (clOf T) (exprF E) (j + 1)) := by
  refine okT T.F_read_expression sc_read_expression (fun vs H Q X h => ?_) (fun cdv A outer s H vs Q X hr h => ?_)
  · obtain ⟨R, k, l, rfl, _⟩ := h
    rfl
  · obtain ⟨R, k, l, rfl, hj, hl, ha, q⟩ := h
    refine ⟨_, (pss_cons (ps_set (i := 2) sc_read_expression.nd rfl (.inl rfl) (by exact (pe_meth0T (pv 0) T.cl_Reader T.M_Reader_where (okT_Reader_where T) (hr.mono (by first | decide | omega)) T.b_Reader_where (fun σ => L2N.passAt (L2N.takes_of rfl rfl rfl rfl) σ))))
      (pss_cons (ps_if (pt_val (pe_methT (pv 0) T.cl_Reader T.M_Reader_accept (okT_Reader_accept T) (hr.mono (by first | decide | omega)) T.b_Reader_accept (fun σ => L2N.passAt (L2N.takes_of rfl rfl rfl rfl) σ) (by exact (pa_cons pe_str pa_nil))))
      (pss_one (ps_ret (pe_callT (okT_read_if T hX (by omega)) (hr.mono (by first | decide | omega)) (by rfl) T.m_read_if T.F_read_if.kp T.b_read_if (fun σ => L2N.passAt (L2N.takes_of rfl rfl rfl rfl) σ) (by exact (pa_cons (pv 0) (pa_cons (pv 1) (pa_cons (pv 2) pa_nil)))))))
      pss_nil)
      (pss_cons (ps_if (pt_val (pe_methT (pv 0) T.cl_Reader T.M_Reader_accept (okT_Reader_accept T) (hr.mono (by first | decide | omega)) T.b_Reader_accept (fun σ => L2N.passAt (L2N.takes_of rfl rfl rfl rfl) σ) (by exact (pa_cons pe_str pa_nil))))
      (pss_one (ps_ret (pe_callT (okT_read_let T hX (by omega)) (hr.mono (by first | decide | omega)) (by rfl) T.m_read_let T.F_read_let.kp T.b_read_let (fun σ => L2N.passAt (L2N.takes_of rfl rfl rfl rfl) σ) (by exact (pa_cons (pv 0) (pa_cons (pv 1) (pa_cons (pv 2) pa_nil)))))))
      pss_nil)
      (pss_one (ps_ret (pe_callT hC (hr.mono (by first | decide | omega)) (by rfl) T.m_read_chain T.F_read_chain.kp T.b_read_chain (fun σ => L2N.passAt (L2N.takes_of rfl rfl rfl rfl) σ) (by exact (pa_cons (pv 0) (pa_cons (pv 1) (pa_cons (pe_tup (pa_cons pe_str pa_nil)) (pa_cons (pe_glob (v := .ref T.a_read_both) (by rfl) T.m_read_both rfl) pa_nil))))))))))), ?_⟩
    have q : Out K (clOf T) R k H (exprM R.all R.n (E R.all R.n) (j + 1) k) Q X := q
    unfold exprM at q
    dsimp only at q
    refine ⟨_, rfl, R.r, _, _, rfl, ha.1, rfl, R, k, rfl, ha, ?_⟩
    refine ⟨_, rfl, R.r, _, _, rfl, ha.1, rfl, R, k, "if", rfl, ha, sh1 _, fun hs1 H1 g1 ha1 => ⟨_, rfl, iteT ?_⟩, fun hs1 H1 g1 ha1 => ⟨_, rfl, iteF ?_⟩⟩
    · rw [if_pos hs1] at q
      exact ⟨_, rfl, _, rfl, _, rfl, R, k + 1, l, _, rfl, hl, ha1, hE0 _ _, Out.pass (Out.go q g1) (by omega)⟩
    rw [if_neg (by rw [hs1]; exact Bool.false_ne_true)] at q
    refine ⟨_, rfl, R.r, _, _, rfl, ha1.1, rfl, R, k, "let", rfl, ha1, sh1 _, fun hs2 H2 g2 ha2 => ⟨_, rfl, iteT ?_⟩, fun hs2 H2 g2 ha2 => ⟨_, rfl, iteF ?_⟩⟩
    · rw [if_pos hs2] at q
      exact ⟨_, rfl, _, rfl, _, rfl, R, k + 1, l, _, rfl, hl, ha2, hE0 _ _, Out.pass (Out.go q (g1.trans g2)) (by omega)⟩
    rw [if_neg (by rw [hs2]; exact Bool.false_ne_true)] at q
    refine ⟨_, rfl, _, rfl, by show 1 ≤ sizeLine; decide, fun p np => ?_⟩
    have sm := Ly.same_new (o := .tup [.str "or"]) np
    exact ⟨R, k, l, j + 1, p, rfl, Nat.le_refl _, hj, hl, ha2.same sm, SqT.of upd_same, Out.go q ((g1.trans g2).trans (go_same sm))⟩
end
end Tk

namespace Tk
open PySem PySem.Spec PyProof.Rows L2 Ly Lx TL Px
/-! ### the tie; lines; parse -/
section
variable {P : Program} {w : World} {K : PySem.W.Frag} {mg : Str → Option Value} {base : Heap}
theorem okT_level (T : Top w K mg) {E : Lv} (hE0 : ∀ all n, E all n 0 = fun _ => .error .over) {j : Nat} (hE : ∀ i, i < j + 1 → FnT P w K mg base (13 * i + 28) T.a_read_expression T.fd_read_expression ["reader", "level"] (spLv K (clOf T) E i)) :
    FnT P w K mg base (13 * (j + 1) + 28) T.a_read_expression T.fd_read_expression ["reader", "level"] (spLv K (clOf T) (exprF E) (j + 1)) := by
  have h1 : ∀ i, i ≤ j + 1 → FnT P w K mg base (13 * i + 19) T.a_read_powers T.fd_read_powers ["reader", "level"] (spLv K (clOf T) (powersF E) i) := fun i hi =>
    okT_read_powers T (okT_read_primary T hE0 i fun i' hi' => hE i' (by omega)) (by omega)
  have h2 : ∀ i, i ≤ j + 1 → FnT P w K mg base (13 * i + 21) T.a_read_factors T.fd_read_factors ["reader", "level"] (spLv K (clOf T) (factorsF E) i) := fun i hi =>
    okT_read_factors T (okT_read_chain T (fun _ _ _ => rfl) (FnT.le (r := fun i => 13 * i + 19) (fun _ h => by omega) fun i' hi' => h1 i' (by omega)) T.F_read_powers.kp T.b_read_powers (by omega) (shs _) (by decide))
  have h3 : ∀ i, i ≤ j + 1 → FnT P w K mg base (13 * i + 23) T.a_read_terms T.fd_read_terms ["reader", "level"] (spLv K (clOf T) (termsF E) i) := fun i hi =>
    okT_read_terms T (okT_read_chain T (fun _ _ _ => rfl) (FnT.le (r := fun i => 13 * i + 21) (fun _ h => by omega) fun i' hi' => h2 i' (by omega)) T.F_read_factors.kp T.b_read_factors (by omega) (shs _) (by decide))
  have h4 : ∀ i, i ≤ j + 1 → FnT P w K mg base (13 * i + 24) T.a_read_plain T.fd_read_plain ["reader", "level"] (spLv K (clOf T) (plainF E) i) := fun i hi =>
    okT_read_plain T i fun i' hi' => h3 i' (by omega)
  have h5 : ∀ i, i ≤ j + 1 → FnT P w K mg base (13 * i + 26) T.a_read_both T.fd_read_both ["reader", "level"] (spLv K (clOf T) (bothF E) i) := fun i hi =>
    okT_read_both T (okT_read_chain T (fun _ _ _ => rfl) (FnT.le (r := fun i => 13 * i + 24) (fun _ h => by omega) fun i' hi' => h4 i' (by omega)) T.F_read_plain.kp T.b_read_plain (by omega) (shs _) (by decide))
  exact okT_read_expression T hE0 (hE j (by omega)) (okT_read_chain T (fun _ _ _ => rfl) (FnT.le (r := fun i => 13 * i + 26) (fun _ h => by omega) fun i' hi' => h5 i' (by omega)) T.F_read_both.kp T.b_read_both (by omega) (shs _) (by decide)) (by omega) (by omega)
def exprNF (q : Nat) : Lv := fun all n j k => exprN all n q j k
theorem exprNF0 : ∀ q all n, exprNF q all n 0 = fun _ => .error .over
  | 0, _, _ => rfl
  | q + 1, _, _ => rfl
theorem okT_exprN (T : Top w K mg) : ∀ q j, j ≤ q → FnT P w K mg base (13 * j + 28) T.a_read_expression T.fd_read_expression ["reader", "level"] (spLv K (clOf T) (exprNF q) j)
  | _, 0, _ => FnT.none fun vs H Q X h => by
    obtain ⟨R, k, l, _, h, _⟩ := h
    omega
  | 0, j + 1, h => absurd h (by omega)
  | q + 1, j + 1, h => okT_level T (exprNF0 q) fun i hi => okT_exprN T q i (by omega)
theorem okT_expr (T : Top w K mg) : FnT P w K mg base 340 T.a_read_expression T.fd_read_expression ["reader", "level"] (spLv K (clOf T) (exprNF 24) 24) := okT_exprN T 24 24 (Nat.le_refl _)
theorem okT_read_function (T : Top w K mg) (hX : FnT P w K mg base 340 T.a_read_expression T.fd_read_expression ["reader", "level"] (spLv K (clOf T) (exprNF 24) 24)) :
    FnT P w K mg base 341 T.a_read_function T.fd_read_function ["reader", "at"] (spOutA K (clOf T) funM) := by
  refine okT T.F_read_function sc_read_function (fun vs H Q E h => ?_) (fun cdv A outer s H vs Q E hr h => ?_)
  · obtain ⟨R, k, a, rfl, _⟩ := h
    rfl
  · obtain ⟨R, k, a, rfl, ha, q⟩ := h
    refine ⟨_, (pss_cons (ps_set (i := 2) sc_read_function.nd rfl (.inl rfl) (by exact (pe_methT (pv 0) T.cl_Reader T.M_Reader_expect_kind (okT_Reader_expect_kind T) (hr.mono (by first | decide | omega)) T.b_Reader_expect_kind (fun σ => L2N.passAt (L2N.takes_of rfl rfl rfl rfl) σ) (by exact (pa_cons pe_str pa_nil)))))
      (pss_cons (ps_expr (pe_methT (pv 0) T.cl_Reader T.M_Reader_expect (okT_Reader_expect T) (hr.mono (by first | decide | omega)) T.b_Reader_expect (fun σ => L2N.passAt (L2N.takes_of rfl rfl rfl rfl) σ) (by exact (pa_cons pe_str pa_nil))))
      (pss_cons (ps_set (i := 3) sc_read_function.nd rfl (.inl rfl) (by exact (pe_callT (okT_read_parameters T) (hr.mono (by first | decide | omega)) (by rfl) T.m_read_parameters T.F_read_parameters.kp T.b_read_parameters (fun σ => L2N.passAt (L2N.takes_of rfl rfl rfl rfl) σ) (by exact (pa_cons (pv 0) pa_nil)))))
      (pss_cons (ps_set (i := 4) sc_read_function.nd rfl (.inl rfl) (by exact (pe_callT (okT_read_told T) (hr.mono (by first | decide | omega)) (by rfl) T.m_read_told T.F_read_told.kp T.b_read_told (fun σ => L2N.passAt (L2N.takes_of rfl rfl rfl rfl) σ) (by exact (pa_cons (pv 0) pa_nil)))))
      (pss_cons (ps_expr (pe_methT (pv 0) T.cl_Reader T.M_Reader_expect (okT_Reader_expect T) (hr.mono (by first | decide | omega)) T.b_Reader_expect (fun σ => L2N.passAt (L2N.takes_of rfl rfl rfl rfl) σ) (by exact (pa_cons pe_str pa_nil))))
      (pss_one (ps_ret (pe_tup (pa_cons pe_str (pa_cons (pv 2) (pa_cons (pv 3) (pa_cons (pv 4) (pa_cons (pe_callT hX (hr.mono (by first | decide | omega)) (by rfl) T.m_read_expression T.F_read_expression.kp T.b_read_expression (fun σ => L2N.passAt (L2N.takes_of rfl rfl rfl rfl) σ) (by exact (pa_cons (pv 0) (pa_cons pe_int pa_nil)))) (pa_cons (pv 1) pa_nil)))))))))))))), ?_⟩
    unfold funM at q
    refine ⟨_, rfl, R.r, _, _, rfl, ha.1, rfl, R, k, "name", rfl, ha, sh1 _, ?_⟩
    refine Out.step q fun d1 k1 H1 v1 hr1 hk1 g1 ha1 hd1 hn1 q1 => ?_
    refine ⟨_, rfl, R.r, _, _, rfl, ha1.1, rfl, R, k1, "(", rfl, ha1, sh1 _, ?_⟩
    refine Out.step q1 fun d2 k2 H2 v2 hr2 hk2 g2 ha2 hd2 hn2 q2 => ?_
    refine ⟨_, rfl, R, k2, rfl, ha2, ?_⟩
    refine Out.step q2 fun d3 k3 H3 v3 hr3 hk3 g3 ha3 hd3 hn3 q3 => ?_
    refine ⟨_, rfl, R, k3, rfl, ha3, ?_⟩
    refine Out.step q3 fun d4 k4 H4 v4 hr4 hk4 g4 ha4 hd4 hn4 q4 => ?_
    refine ⟨_, rfl, R.r, _, _, rfl, ha4.1, rfl, R, k4, "=", rfl, ha4, sh1 _, ?_⟩
    refine Out.step q4 fun d5 k5 H5 v5 hr5 hk5 g5 ha5 hd5 hn5 q5 => ?_
    refine ⟨_, rfl, _, rfl, _, rfl, _, rfl, R, k5, 1, rfl, by omega, by omega, ha5, ?_⟩
    refine Out.step q5 fun d6 k6 H6 v6 hr6 hk6 g6 ha6 hd6 hn6 q6 => ?_
    refine ⟨_, rfl, by show 6 ≤ sizeLine; decide, fun p np => ?_⟩
    have g36 := (g4.trans g5).trans g6
    exact Out.tup q6 (by omega) (Go.refl _ _) ha6 (.cons (.str _) (.cons (dp_go ((g2.trans g3).trans g36) ha1.ins hn1 hd1) (.cons (dp_go g36 ha3.ins hn3 hd3) (.cons (dp_go (g5.trans g6) ha4.ins hn4 hd4) (.cons hd6 (.cons (.int _) .nil))))))
      (noLs_cons rfl (noLs_cons hn1 (noLs_cons hn3 (noLs_cons hn4 (noLs_cons hn6 rfl))))) np
theorem okT_read_show (T : Top w K mg) (hX : FnT P w K mg base 340 T.a_read_expression T.fd_read_expression ["reader", "level"] (spLv K (clOf T) (exprNF 24) 24)) :
    FnT P w K mg base 341 T.a_read_show T.fd_read_show ["reader", "at"] (spOutA K (clOf T) showM) := by
  refine okT T.F_read_show sc_read_show (fun vs H Q E h => ?_) (fun cdv A outer s H vs Q E hr h => ?_)
  · obtain ⟨R, k, a, rfl, _⟩ := h
    rfl
  · obtain ⟨R, k, a, rfl, ha, q⟩ := h
    refine ⟨_, (pss_cons (ps_set (i := 2) sc_read_show.nd rfl (.inl rfl) (by exact (pe_callT hX (hr.mono (by first | decide | omega)) (by rfl) T.m_read_expression T.F_read_expression.kp T.b_read_expression (fun σ => L2N.passAt (L2N.takes_of rfl rfl rfl rfl) σ) (by exact (pa_cons (pv 0) (pa_cons pe_int pa_nil))))))
      (pss_cons (ps_set (i := 3) sc_read_show.nd rfl (.inl rfl) (by exact (pe_ifExp (pt_val (pe_methT (pv 0) T.cl_Reader T.M_Reader_accept (okT_Reader_accept T) (hr.mono (by first | decide | omega)) T.b_Reader_accept (fun σ => L2N.passAt (L2N.takes_of rfl rfl rfl rfl) σ) (by exact (pa_cons pe_str pa_nil)))) (pe_callT (okT_read_product T) (hr.mono (by first | decide | omega)) (by rfl) T.m_read_product T.F_read_product.kp T.b_read_product (fun σ => L2N.passAt (L2N.takes_of rfl rfl rfl rfl) σ) (by exact (pa_cons (pv 0) pa_nil))) pe_non)))
      (pss_one (ps_ret (pe_tup (pa_cons pe_str (pa_cons (pv 2) (pa_cons (pv 3) (pa_cons (pv 1) pa_nil))))))))), ?_⟩
    unfold showM at q
    refine ⟨_, rfl, R, k, 1, rfl, by omega, by omega, ha, ?_⟩
    refine Out.step q fun d1 k1 H1 v1 hr1 hk1 g1 ha1 hd1 hn1 q1 => ?_
    refine ⟨_, rfl, R.r, _, _, rfl, ha1.1, rfl, R, k1, "in", rfl, ha1, sh1 _, fun hs H2 g2 ha2 => ⟨_, rfl, iteT ?_⟩, fun hs H2 g2 ha2 => ⟨_, rfl, iteF ?_⟩⟩
    · rw [if_pos hs] at q1
      refine ⟨_, rfl, R, k1 + 1, rfl, ha2, ?_⟩
      refine Out.step0 q1 g2 fun d3 k3 H3 v3 hr3 hk3 g3 ha3 hd3 hn3 q3 => ?_
      refine ⟨_, rfl, _, rfl, _, rfl, by show 4 ≤ sizeLine; decide, fun p np => ?_⟩
      exact Out.tup q3 (by omega) (g2.trans g3) ha3 (.cons (.str _) (.cons (dp_go (g2.trans g3) ha1.ins hn1 hd1) (.cons hd3 (.cons (.int _) .nil)))) (node_no hn1 hn3) np
    · rw [if_neg (by rw [hs]; exact Bool.false_ne_true)] at q1
      refine ⟨_, rfl, _, rfl, _, rfl, by show 4 ≤ sizeLine; decide, fun p np => ?_⟩
      exact Out.tup (k := k1) q1 (by omega) g2 ha2 (.cons (.str _) (.cons (dp_go g2 ha1.ins hn1 hd1) (.cons .non (.cons (.int _) .nil)))) (node_no hn1 rfl) np
end
end Tk

namespace Tk
open PySem PySem.Spec PyProof.Rows L2 Ly Lx TL Px
/-! ### the lexer's defs keep their promises -/
theorem chr_eq (c d : Nat) : decide (V.str ⟨#[c]⟩ = V.str ⟨#[d]⟩) = decide (c = d) := by
  by_cases h : c = d
  · subst h
    simp
  · rw [decide_eq_false h, decide_eq_false]
    intro e
    have h1 : (⟨#[c]⟩ : Str) = ⟨#[d]⟩ := V.str.inj e
    have h2 : #[c] = #[d] := congrArg Str.cps h1
    exact h (by simpa using h2)
/-- a token is handed back, its end at e -/
def TokRes (K : PySem.W.Frag) (H : Hp) (t : Tkn) (e : Nat) (Q : VK) : Prop := ∀ p H' val, Same H H' → H p = none →
  H' p = some (.tup [.str (kindOf t), val, .int (e : Int)]) → Dp K H' val (valD t) → Q (.ref p) H'
/-- an error of the class at C with this field is let out -/
def ErrRes (C : Addr) (f : Str) (v : V) (H : Hp) (E : XK) : Prop := ∀ d H', Same H H' → H d = none → H' d = some (.xd [(f, v)]) → E (.ref C) (some d) H'
theorem same_upd {H : Hp} {p : Addr} {o : HO} (h : H p = none) : Same H (upd H p o) := fun b x e => by
  rw [upd_ne (ne_of_none e h)]
  exact e
theorem err_of {C : Addr} {f : Str} {v : V} {H : Hp} {E : XK} (h : ErrRes C f v H E) {d : Addr} (hd : H d = none) : E (.ref C) (some d) (upd H d (.xd [(f, v)])) :=
  h d _ (same_upd hd) hd upd_same
def sp_run_end : Sp := fun vs H Q _ => ∃ (z c : Str) (i : Nat), vs = [.str z, .int (i : Int), .str c] ∧ z.length ≤ 100000 ∧ i ≤ z.length ∧ Q (.int ((i + run (tl c) ((tl z).drop i) : Nat) : Int)) H
def sp_comment_end : Sp := fun vs H Q _ => ∃ (z : Str) (i : Nat), vs = [.str z, .int (i : Int)] ∧ z.length ≤ 100000 ∧ i ≤ z.length ∧ Q (.int ((i + toEnd ((tl z).drop i) : Nat) : Int)) H
def sp_token_start : Sp := fun vs H Q _ => ∃ (z : Str) (i : Nat), vs = [.str z, .int (i : Int)] ∧ z.length ≤ 100000 ∧ i ≤ z.length ∧ Q (.int ((i + skip false ((tl z).drop i) : Nat) : Int)) H
def sp_digits_behind : Sp := fun vs H Q _ => ∃ (z : Str) (i : Nat), vs = [.str z, .int (i : Int)] ∧ z.length ≤ 100000 ∧ i ≤ z.length ∧ Q (.str (mk (fracAt ((tl z).drop i)))) H
def sp_tok (f : List Nat → Option (Tkn × Nat)) (K : PySem.W.Frag) (C : Addr) : Sp := fun vs H Q E => ∃ (z : Str) (i : Nat), vs = [.str z, .int (i : Int)] ∧ z.length ≤ 100000 ∧ i < z.length ∧
  (∀ t n, f ((tl z).drop i) = some (t, n) → TokRes K H t (i + n) Q) ∧ (f ((tl z).drop i) = none → ErrRes C "at" (.int (i : Int)) H E)
theorem drop_at {z : Str} {j : Nat} (h : j < z.length) : ∃ x, (tl z)[j]? = some x ∧ (tl z).drop j = x :: (tl z).drop (j + 1) := by
  rw [len_tl] at h
  exact ⟨(tl z)[j], List.getElem?_eq_getElem h, List.drop_eq_getElem_cons h⟩
theorem drop_end {z : Str} {j : Nat} (h : z.length ≤ j) : (tl z).drop j = [] := List.drop_eq_nil_of_le (by rw [← len_tl]; exact h)
theorem drop_len (z : Str) (j : Nat) : ((tl z).drop j).length = z.length - j := by rw [List.length_drop, ← len_tl]
section
variable {P : Program} {w : World} {K : PySem.W.Frag} {mg : Str → Option Value} {base : Heap}
theorem ok_run_end (T : Top w K mg) : FnOk P w K mg base CX0 1 T.a_run_end T.fd_run_end ["text", "at", "characters"] sp_run_end := by
  refine T.F_run_end.ok sc_run_end (fun vs H Q E h => ?_) (fun cdv A outer s H vs Q E hr h => ?_)
  · obtain ⟨z, c, i, rfl, _⟩ := h
    rfl
  · obtain ⟨z, c, i, rfl, hz, hi, q⟩ := h
    refine ⟨_, (pss_cons (ps_while PassesOwn.never (PW.pt (pw_and (pt_cmpR op_lt (pv 1) (pe_callB call_len (by rfl) T.n_len bt_len (pa_cons (pv 0) pa_nil)) (nomark _)) (pw_and1 (pt_cmpR op_within (pe_ix ix_seq (pv 0) (pv 1) (fun _ _ => rfl)) (pv 2) (by rfl)))))
      (pss_one (ps_aug (i := 1) sc_run_end.nd rfl (.inl rfl) pe_int ip_add)))
      (pss_one (ps_ret (pv 1)))), ?_⟩
    refine ⟨fun m σ H' => ∃ j : Nat, σ = [some (.str z), some (.int (j : Int)), some (.str c)] ∧ H' = H ∧ j ≤ z.length ∧ m = z.length - j ∧
      j + run (tl c) ((tl z).drop j) = i + run (tl c) ((tl z).drop i), ⟨_, i, rfl, rfl, hi, rfl, rfl⟩, ?_⟩
    rintro m σ H1 ⟨j, rfl, rfl, hj, rfl, ej⟩
    refine ⟨_, rfl, _, rfl, _, z.length, rfl, ⟨sz hz, rfl⟩, _, _, rfl, rfl, _, rfl, ite2 (fun hc => ?_) (fun hc => ?_)⟩
    · have hlt : j < z.length := by simpa using hc
      obtain ⟨x, hx, hd⟩ := drop_at hlt
      rw [hd] at ej
      refine ⟨_, rfl, _, rfl, .inr (.inr ⟨z, (j : Int), x, rfl, rfl, sz hz, atI_nat hx, _, rfl, .inl ⟨x, c, rfl, rfl, _, rfl, ite2 (fun hc' => ?_) (fun hc' => ?_)⟩⟩)⟩
      · rw [run_in (S := tl c) hc'] at ej
        refine ⟨fun σ' H' => ∃ j' : Nat, σ' = [some (.str z), some (.int (j' : Int)), some (.str c)] ∧ H' = H1 ∧ j' = j + 1, fun σ' H' ⟨j', e1, e2, e3⟩ => ?_, ?_⟩
        · subst e3
          exact ⟨_, by omega, j + 1, e1, e2, hlt, rfl, by omega⟩
        · exact ⟨_, rfl, _, _, rfl, rfl, j + 1, rfl, rfl, rfl⟩
      · rw [run_out (S := tl c) (Bool.eq_false_iff.mpr hc')] at ej
        refine ⟨_, rfl, ?_⟩
        have e : j = i + run (tl c) ((tl z).drop i) := by omega
        rw [e]
        exact q
    · have hlt : j = z.length := by
        have : ¬ j < z.length := by simpa using hc
        omega
      rw [drop_end (Nat.le_of_eq hlt.symm), run_nil] at ej
      refine ⟨_, rfl, ?_⟩
      have e : j = i + run (tl c) ((tl z).drop i) := by omega
      rw [e]
      exact q
theorem ok_comment_end (T : Top w K mg) : FnOk P w K mg base CX0 1 T.a_comment_end T.fd_comment_end ["text", "at"] sp_comment_end := by
  refine T.F_comment_end.ok sc_comment_end (fun vs H Q E h => ?_) (fun cdv A outer s H vs Q E hr h => ?_)
  · obtain ⟨z, i, rfl, _⟩ := h
    rfl
  · obtain ⟨z, i, rfl, hz, hi, q⟩ := h
    refine ⟨_, (pss_cons (ps_set (i := 2) sc_comment_end.nd rfl (.inl rfl) (by exact (pe_bm PySem.F.plainAttrs_str PySem.F.slot_str_find PySem.F.type_str_find mt_find3 (pv 0) (pa_cons pe_str (pa_cons (pv 1) pa_nil)))))
      (pss_one (ps_ret (pe_ifExp (pt_cmpR op_lt (pv 2) pe_int (nomark _)) (pe_callB call_len (by rfl) T.n_len bt_len (pa_cons (pv 0) pa_nil)) (pv 2))))), ?_⟩
    refine ⟨_, rfl, rfl, _, rfl, z, "\n", (i : Int), rfl, rfl, ?_⟩
    rw [find_nl z hi]
    have hle := toEnd_le ((tl z).drop i)
    rw [drop_len] at hle
    by_cases h : i + toEnd ((tl z).drop i) < z.length
    · rw [if_pos h]
      refine ⟨_, rfl, _, _, rfl, rfl, _, rfl, ?_⟩
      rw [decide_eq_false (by omega)]
      exact iteF ⟨_, rfl, q⟩
    · rw [if_neg h]
      refine ⟨_, rfl, _, _, rfl, rfl, _, rfl, iteT ⟨_, rfl, _, z.length, rfl, ⟨sz hz, rfl⟩, ?_⟩⟩
      have e : i + toEnd ((tl z).drop i) = z.length := by omega
      rw [e] at q
      exact q
theorem ok_token_start (T : Top w K mg) : FnOk P w K mg base CX0 2 T.a_token_start T.fd_token_start ["text", "at"] sp_token_start := by
  refine T.F_token_start.ok sc_token_start (fun vs H Q E h => ?_) (fun cdv A outer s H vs Q E hr h => ?_)
  · obtain ⟨z, i, rfl, _⟩ := h
    rfl
  · obtain ⟨z, i, rfl, hz, hi, q⟩ := h
    refine ⟨_, (pss_cons (ps_while PassesOwn.never (pt_cmpR op_lt (pv 1) (pe_callB call_len (by rfl) T.n_len bt_len (pa_cons (pv 0) pa_nil)) (nomark _))
      (pss_one (ps_if (pt_cmpR op_eq (pe_ix ix_seq (pv 0) (pv 1) (fun _ _ => rfl)) pe_str (nomark _))
      (pss_one (ps_set (i := 1) sc_token_start.nd rfl (.inl rfl) (by exact (pe_call (ok_comment_end T) (hr.mono (by first | decide | omega)) (by rfl) T.m_comment_end T.F_comment_end.kp T.b_comment_end .nil pass0 (pa_cons (pv 0) (pa_cons (pv 1) pa_nil))))))
      (pss_one (ps_if (pt_cmpR op_within (pe_ix ix_seq (pv 0) (pv 1) (fun _ _ => rfl)) (pe_glob (by rfl) T.c_SEPARATORS T.r_SEPARATORS) (by rfl))
      (pss_one (ps_aug (i := 1) sc_token_start.nd rfl (.inl rfl) pe_int ip_add))
      (pss_one (ps_ret (pv 1))))))))
      (pss_one (ps_ret (pv 1)))), ?_⟩
    refine ⟨fun m σ H' => ∃ j : Nat, σ = [some (.str z), some (.int (j : Int))] ∧ H' = H ∧ j ≤ z.length ∧ m = z.length - j ∧
      j + skip false ((tl z).drop j) = i + skip false ((tl z).drop i), ⟨_, i, rfl, rfl, hi, rfl, rfl⟩, ?_⟩
    rintro m σ H1 ⟨j, rfl, rfl, hj, rfl, ej⟩
    refine ⟨_, rfl, _, rfl, _, z.length, rfl, ⟨sz hz, rfl⟩, _, _, rfl, rfl, _, rfl, ite2 (fun hc => ?_) (fun hc => ?_)⟩
    · have hlt : j < z.length := by simpa using hc
      obtain ⟨x, hx, hd⟩ := drop_at hlt
      refine ⟨fun σ' H' => ∃ j' : Nat, σ' = [some (.str z), some (.int (j' : Int))] ∧ H' = H1 ∧ j < j' ∧ j' ≤ z.length ∧ j' + skip false ((tl z).drop j') = i + skip false ((tl z).drop i), fun σ' H' ⟨j', e1, e2, e3, e4, e5⟩ => ?_, ?_⟩
      · exact ⟨_, by omega, j', e1, e2, e4, rfl, e5⟩
      refine ⟨_, rfl, _, rfl, .inr (.inr ⟨z, (j : Int), x, rfl, rfl, sz hz, atI_nat hx, rfl, ?_⟩)⟩
      rw [show decide (V.str ⟨#[x]⟩ = V.str "#") = decide (x = 35) from chr_eq x 35]
      refine ⟨_, rfl, ite2 (fun hc' => ?_) (fun hc' => ?_)⟩
      · have h35 : x = 35 := of_decide_eq_true hc'
        subst h35
        rw [hd] at ej
        rw [skip_hash, ← hd, List.drop_drop] at ej
        have hle := toEnd_le ((tl z).drop j)
        rw [drop_len] at hle
        have hpos : toEnd ((tl z).drop j) = toEnd ((tl z).drop (j + 1)) + 1 := by
          rw [hd, toEnd_cons (by decide)]
        refine ⟨_, rfl, _, rfl, z, j, rfl, hz, hj, j + toEnd ((tl z).drop j), rfl, rfl, by omega, by omega, by omega⟩
      · have h35 : x ≠ 35 := of_decide_eq_false (Bool.eq_false_iff.mpr hc')
        refine ⟨_, rfl, _, rfl, .inr (.inr ⟨z, (j : Int), x, rfl, rfl, sz hz, atI_nat hx, ?_⟩)⟩
        obtain ⟨u, hu, hT⟩ : ∃ y, T.u_SEPARATORS = y ∧ y = T.u_SEPARATORS := ⟨_, rfl, rfl⟩
        refine .inl ⟨x, " \t\n", rfl, rfl, _, rfl, ite2 (fun hb => ?_) (fun hb => ?_)⟩
        · rw [hd, skip_blank hb] at ej
          exact ⟨_, rfl, _, _, rfl, rfl, j + 1, rfl, rfl, by omega, hlt, by omega⟩
        · rw [hd, skip_stop (Bool.eq_false_iff.mpr hb) h35] at ej
          refine ⟨_, rfl, ?_⟩
          have e : j = i + skip false ((tl z).drop i) := by omega
          rw [e]
          exact q
    · have hlt : j = z.length := by
        have : ¬ j < z.length := by simpa using hc
        omega
      rw [drop_end (Nat.le_of_eq hlt.symm)] at ej
      refine ⟨_, rfl, ?_⟩
      have e : j = i + skip false ((tl z).drop i) := by
        simp only [skip] at ej
        omega
      rw [e]
      exact q
theorem ok_digits_behind (T : Top w K mg) : FnOk P w K mg base CX0 2 T.a_digits_behind T.fd_digits_behind ["text", "point"] sp_digits_behind := by
  refine T.F_digits_behind.ok sc_digits_behind (fun vs H Q E h => ?_) (fun cdv A outer s H vs Q E hr h => ?_)
  · obtain ⟨z, i, rfl, _⟩ := h
    rfl
  · obtain ⟨z, i, rfl, hz, hi, q⟩ := h
    refine ⟨_, (pss_cons (ps_if (pt_not (pt_val (pe_bm PySem.F.plainAttrs_str PySem.F.slot_str_startswith PySem.F.type_str_startswith mt_startswith3 (pv 0) (pa_cons pe_str (pa_cons (pv 1) pa_nil)))))
      (pss_one (ps_ret pe_str))
      pss_nil)
      (pss_one (ps_ret (pe_slice sl_str (pv 0) (po_some (pe_op op_plus (pv 1) pe_int)) (po_some (pe_call (ok_run_end T) (hr.mono (by first | decide | omega)) (by rfl) T.m_run_end T.F_run_end.kp T.b_run_end .nil pass0 (pa_cons (pv 0) (pa_cons (pe_op op_plus (pv 1) pe_int) (pa_cons (pe_glob (by rfl) T.c_DIGITS T.r_DIGITS) pa_nil))))))))), ?_⟩
    refine ⟨_, rfl, rfl, _, rfl, z, ".", (i : Int), rfl, rfl, _, rfl, ?_⟩
    rw [starts_eq z "." hi]
    cases e : (tl z).drop i with
    | nil =>
      rw [e] at q
      exact iteT q
    | cons x r =>
      rw [e] at q
      have hp : (tl (Str.ofString ".")).isPrefixOf (x :: r) = decide (x = 46) := by
        show (List.isPrefixOf [46] (x :: r)) = _
        simp only [List.isPrefixOf, Bool.and_true]
        by_cases hx : x = 46
        · subst hx; rfl
        · rw [decide_eq_false hx]
          exact beq_eq_false_iff_ne.mpr (Ne.symm hx)
      rw [hp]
      have hlt : i < z.length := by
        have := drop_len z i
        rw [e] at this
        simp at this
        omega
      have e1 : (tl z).drop (i + 1) = r := by
        have := drop_at hlt
        obtain ⟨y, _, h2⟩ := this
        rw [e] at h2
        exact (List.cons.inj h2).2.symm
      by_cases hx : x = 46
      · rw [decide_eq_true hx]
        refine iteF ?_
        have hle := run_le digits r
        have hl : r.length = z.length - (i + 1) := by rw [← e1, drop_len]
        refine ⟨_, rfl, _, rfl, .inl ⟨_, _, rfl, rfl, (i : Int) + 1, rfl, _, rfl, _, rfl, .inl ⟨_, _, rfl, rfl, z, _, i + 1, rfl, hz, hlt, _, rfl, z, rfl, sz hz, ?_⟩⟩⟩
        have e2 : cutS z (some ((i : Int) + 1)) (some ((i + 1 + run digits ((tl z).drop (i + 1)) : Nat) : Int)) = mk (fracAt (x :: r)) := by
          have := cut_eq z (i := i + 1) (j := i + 1 + run digits ((tl z).drop (i + 1))) (by omega) (by rw [e1]; omega)
          rw [show ((i : Int) + 1) = ((i + 1 : Nat) : Int) from rfl, this, Nat.add_sub_cancel_left, e1, take_run]
          simp only [fracAt, if_pos hx]
        rw [show tl (Str.ofString "0123456789") = digits from rfl, e2]
        exact q
      · rw [decide_eq_false hx]
        refine iteT ?_
        simp only [fracAt, if_neg hx] at q
        exact q
end
end Tk

namespace Tk
open PySem PySem.Spec PyProof.Rows L2 Ly Lx TL Px
section
variable {P : Program} {w : World} {K : PySem.W.Frag} {mg : Str → Option Value} {base : Heap}
theorem find_of {α : Type} {p : α → Bool} : ∀ {l : List α} {k : Nat} {s : α}, l[k]? = some s → p s = true → (∀ j, j < k → ∀ s', l[j]? = some s' → p s' = false) → l.find? p = some s
  | [], k, s, h, _, _ => by simp at h
  | a :: l, 0, s, h, hp, _ => by
    have e : a = s := by simpa using h
    subst e
    rw [List.find?_cons_of_pos hp]
  | a :: l, k + 1, s, h, hp, hn => by
    rw [List.find?_cons_of_neg (by rw [hn 0 (by omega) a rfl]; exact Bool.false_ne_true)]
    exact find_of (l := l) (k := k) (by simpa using h) hp fun j hj s' hs => hn (j + 1) (by omega) s' (by simpa using hs)
theorem ok_name_at (T : Top w K mg) : FnOk P w K mg base (L2N.CX P w) 4 T.a_name_at T.fd_name_at ["text", "at"] (sp_tok nmAt K T.a_Malformed) := by
  refine okN T.F_name_at sc_name_at (fun vs H Q E h => ?_) (fun cdv A outer s H vs Q E hr h => ?_)
  · obtain ⟨z, i, rfl, _⟩ := h
    rfl
  · obtain ⟨z, i, rfl, hz, hi, hok, her⟩ := h
    refine ⟨_, (pss_cons (ps_set (i := 2) sc_name_at.nd rfl (.inl rfl) (by exact (pe_call (ok_run_end T) (hr.mono (by first | decide | omega)) (by rfl) T.m_run_end T.F_run_end.kp T.b_run_end .nil pass0 (pa_cons (pv 0) (pa_cons (pv 1) (pa_cons (pe_glob (by rfl) T.c_NAMING T.r_NAMING) pa_nil))))))
      (pss_cons (ps_set (i := 3) sc_name_at.nd rfl (.inl rfl) (by exact (pe_slice sl_str (pv 0) (po_some (pv 1)) (po_some (pv 2)))))
      (pss_cons (ps_if (pt_cmpR op_within (pv 3) (pe_glob (v := .ref T.a_RESERVED) (by rfl) T.c_RESERVED rfl) (by rfl))
      (pss_one (ps_ret (pe_tup (pa_cons pe_str (pa_cons (pv 3) (pa_cons (pv 2) pa_nil))))))
      pss_nil)
      (pss_cons (ps_if (pt_cmpR op_gt (pe_callB call_len (by rfl) T.n_len bt_len (pa_cons (pv 3) pa_nil)) (pe_glob (by rfl) T.c_LONGEST_NAME T.r_LONGEST_NAME) (nomark _))
      (pss_one (ps_raiseX rfl (L2N.takes_of rfl rfl rfl rfl) T.x_Malformed (ok_Malformed_init T) (hr.mono (by decide)) T.b_Malformed_init (pa_cons (pv 1) pa_nil)))
      pss_nil)
      (pss_one (ps_ret (pe_tup (pa_cons pe_str (pa_cons (pv 3) (pa_cons (pv 2) pa_nil)))))))))), ?_⟩
    have hle := run_le naming ((tl z).drop i)
    rw [drop_len] at hle
    refine ⟨_, rfl, _, rfl, z, _, i, rfl, hz, Nat.le_of_lt hi, ?_⟩
    refine ⟨_, rfl, _, rfl, _, rfl, _, rfl, _, rfl, z, rfl, sz hz, ?_⟩
    rw [show tl (Str.ofString "abcdefghijklmnopqrstuvwxyzABCDEFGHIJKLMNOPQRSTUVWXYZ0123456789_") = naming from rfl]
    rw [cut_eq z (Nat.le_add_right _ _) (by omega), Nat.add_sub_cancel_left]
    refine ⟨_, rfl, .inr ⟨T.a_RESERVED, _, rfl, .inr (T.s_RESERVED _), rfl, rfl, _, rfl, ite2 (fun hc => ?_) (fun hc => ?_)⟩⟩
    · have hres : isRes (mk (((tl z).drop i).take (run naming ((tl z).drop i)))) = true := hc
      refine ⟨_, rfl, _, rfl, by show 3 ≤ sizeLine; decide, fun p hp => ?_⟩
      exact hok (.word _) _ (by unfold nmAt; rw [if_pos hres]) p _ _ (same_upd hp) hp upd_same (.str _)
    · have hres : ¬ isRes (mk (((tl z).drop i).take (run naming ((tl z).drop i)))) = true := hc
      have hln : (mk (((tl z).drop i).take (run naming ((tl z).drop i)))).length = run naming ((tl z).drop i) := by
        rw [mk_len, List.length_take, drop_len]
        omega
      refine ⟨_, rfl, _, run naming ((tl z).drop i), rfl, ⟨by rw [hln]; exact sz (by omega), hln.symm⟩, _, _, rfl, rfl, _, rfl, ite2 (fun hc' => ?_) (fun hc' => ?_)⟩
      · have h16 : 16 < run naming ((tl z).drop i) := by
          have := of_decide_eq_true hc'
          omega
        refine ⟨_, rfl, _, rfl, fun d hd => err_of (her ?_) hd⟩
        unfold nmAt
        rw [if_neg hres, if_pos h16]
      · have h16 : ¬ 16 < run naming ((tl z).drop i) := by
          have := of_decide_eq_false (Bool.eq_false_iff.mpr hc')
          omega
        refine ⟨_, rfl, _, rfl, by show 3 ≤ sizeLine; decide, fun p hp => ?_⟩
        exact hok (.name _) _ (by unfold nmAt; rw [if_neg hres, if_neg h16]) p _ _ (same_upd hp) hp upd_same (.str _)
theorem ok_number_at (T : Top w K mg) : FnOk P w K mg base (L2N.CX P w) 4 T.a_number_at T.fd_number_at ["text", "at"]
    (fun vs H Q E => sp_tok nrAt K T.a_Malformed vs H Q E ∧ ∃ (z : Str) (i : Nat), vs = [.str z, .int (i : Int)] ∧ 1 ≤ run digits ((tl z).drop i)) := by
  refine okN T.F_number_at sc_number_at (fun vs H Q E h => ?_) (fun cdv A outer s H vs Q E hr h => ?_)
  · obtain ⟨⟨z, i, rfl, _⟩, _⟩ := h
    rfl
  · obtain ⟨⟨z, i, rfl, hz, hi, hok, her⟩, z', i', e, h1⟩ := h
    have ez : z = z' := by
      injection e with e1 _
      injection e1
    have ei : i = i' := by
      injection e with _ e2
      injection e2 with e3 _
      injection e3 with e4
      omega
    subst ez ei
    refine ⟨_, (pss_cons (ps_set (i := 2) sc_number_at.nd rfl (.inl rfl) (by exact (pe_call (ok_run_end T) (hr.mono (by first | decide | omega)) (by rfl) T.m_run_end T.F_run_end.kp T.b_run_end .nil pass0 (pa_cons (pv 0) (pa_cons (pv 1) (pa_cons (pe_glob (by rfl) T.c_DIGITS T.r_DIGITS) pa_nil))))))
      (pss_cons (ps_set (i := 3) sc_number_at.nd rfl (.inl rfl) (by exact (pe_slice sl_str (pv 0) (po_some (pv 1)) (po_some (pv 2)))))
      (pss_cons (ps_set (i := 4) sc_number_at.nd rfl (.inl rfl) (by exact (pe_call (ok_digits_behind T) (hr.mono (by first | decide | omega)) (by rfl) T.m_digits_behind T.F_digits_behind.kp T.b_digits_behind .nil pass0 (pa_cons (pv 0) (pa_cons (pv 2) pa_nil)))))
      (pss_cons (ps_set (i := 5) sc_number_at.nd rfl (.inl rfl) (by exact (pe_ifExp (pt_truth (pv 4) (by intro _; rfl)) (pe_op op_plus (pe_op op_plus (pv 2) pe_int) (pe_callB call_len (by rfl) T.n_len bt_len (pa_cons (pv 4) pa_nil))) (pv 2))))
      (pss_cons (ps_if (PW.pt (pw_or (pt_cmpR op_gt (pe_callB call_len (by rfl) T.n_len bt_len (pa_cons (pv 3) pa_nil)) (pe_glob (by rfl) T.c_MOST_DIGITS T.r_MOST_DIGITS) (nomark _)) (pw_or1 (pt_cmpR op_ge (pe_callB call_len (by rfl) T.n_len bt_len (pa_cons (pv 4) pa_nil)) (pe_callB call_len (by rfl) T.n_len bt_len (pa_cons (pe_glob (v := .ref T.a_BOTTOMS) (by rfl) T.c_BOTTOMS rfl) pa_nil)) (nomark _)))))
      (pss_one (ps_raiseX rfl (L2N.takes_of rfl rfl rfl rfl) T.x_Malformed (ok_Malformed_init T) (hr.mono (by decide)) T.b_Malformed_init (pa_cons (pv 1) pa_nil)))
      pss_nil)
      (pss_cons (ps_if (PW.pt (pw_and (pt_cmpR op_lt (pv 5) (pe_callB call_len (by rfl) T.n_len bt_len (pa_cons (pv 0) pa_nil)) (nomark _)) (pw_and1 (pt_cmpR op_within (pe_ix ix_seq (pv 0) (pv 5) (fun _ _ => rfl)) (pe_glob (by rfl) T.c_NAMING T.r_NAMING) (by rfl)))))
      (pss_one (ps_raiseX rfl (L2N.takes_of rfl rfl rfl rfl) T.x_Malformed (ok_Malformed_init T) (hr.mono (by decide)) T.b_Malformed_init (pa_cons (pv 1) pa_nil)))
      pss_nil)
      (pss_one (ps_ret (pe_tup (pa_cons pe_str (pa_cons (pe_tup (pa_cons (pe_callTy call_intX (by rfl) T.n_int bt_int (pa_cons (pe_op op_plus (pv 3) (pv 4)) pa_nil)) (pa_cons (pe_ix ix_seq (pe_glob (v := .ref T.a_BOTTOMS) (by rfl) T.c_BOTTOMS rfl) (pe_callB call_len (by rfl) T.n_len bt_len (pa_cons (pv 4) pa_nil)) (fun _ _ => rfl)) pa_nil))) (pa_cons (pv 5) pa_nil)))))))))))), ?_⟩
    have hle := run_le digits ((tl z).drop i)
    rw [drop_len] at hle
    generalize hp : run digits ((tl z).drop i) = p at *
    have hdd : (tl z).drop (i + p) = ((tl z).drop i).drop p := by rw [List.drop_drop]
    refine ⟨_, rfl, _, rfl, z, _, i, rfl, hz, Nat.le_of_lt hi, ?_⟩
    rw [show tl (Str.ofString "0123456789") = digits from rfl, hp]
    refine ⟨_, rfl, _, rfl, _, rfl, _, rfl, _, rfl, z, rfl, sz hz, ?_⟩
    rw [cut_eq z (Nat.le_add_right _ _) (by omega), Nat.add_sub_cancel_left]
    refine ⟨_, rfl, _, rfl, z, i + p, rfl, hz, by omega, ?_⟩
    rw [hdd]
    generalize hF : fracAt (((tl z).drop i).drop p) = F at *
    have hFl : F ≠ [] → F.length + 1 ≤ z.length - (i + p) := fun hne => by
      have := fracAt_lt (l := ((tl z).drop i).drop p) (by rw [hF]; exact hne)
      rw [hF, List.length_drop, drop_len] at this
      omega
    have hFz : F.length ≤ 100000 := by
      have := fracAt_le (((tl z).drop i).drop p)
      rw [hF, List.length_drop, drop_len] at this
      omega
    have hE : numEnd ((tl z).drop i) = if F = [] then p else p + 1 + F.length := by
      unfold numEnd
      rw [hp, hF]
    have hEz : i + numEnd ((tl z).drop i) ≤ z.length := by
      rw [hE]
      split
      · omega
      · rename_i hne
        have := hFl hne
        omega
    have hW : (((tl z).drop i).take p).length = p := by
      rw [List.length_take, drop_len]
      omega
    have hnone : 6 < p ∨ 5 ≤ F.length → nrAt ((tl z).drop i) = none := fun hb => by
      unfold nrAt
      rw [hp, hF, if_pos hb]
    -- end = point + 1 + len(part) if part else point
    refine ⟨_, rfl, (!decide (F = [])), ⟨by rw [mk_len]; exact sz hFz, ?_⟩, ite2 (fun hb => ?yes) (fun hb => ?no)⟩
    · rw [mk_len]
      cases F with
      | nil => rfl
      | cons a r =>
        rw [decide_eq_false (by simp)]
        simp only [List.length_cons, Bool.not_false]
        symm
        rw [bne_iff_ne]
        omega
    case' yes =>
      have hne : F ≠ [] := by simpa using hb
      refine ⟨_, rfl, .inl ⟨_, _, rfl, rfl, _, rfl, _, F.length, rfl, ⟨by rw [mk_len]; exact sz hFz, (mk_len F).symm⟩, .inl ⟨_, _, rfl, rfl, ?_⟩⟩⟩
      dsimp only
      rw [show ((i + p : Nat) : Int) + 1 + (F.length : Int) = ((i + numEnd ((tl z).drop i) : Nat) : Int) by rw [hE, if_neg hne]; omega]
    case' no =>
      have hne : F = [] := by simpa using hb
      refine ⟨_, rfl, ?_⟩
      rw [show ((i + p : Nat) : Int) = ((i + numEnd ((tl z).drop i) : Nat) : Int) by rw [hE, if_pos hne]]
    all_goals
      refine ⟨_, rfl, _, p, rfl, ⟨by rw [mk_len, hW]; exact sz (by omega), by rw [mk_len, hW]⟩, _, _, rfl, rfl, _, rfl, ite2 (fun h6 => iteT ?_) (fun h6 => ?_)⟩
      · exact ⟨_, rfl, _, rfl, fun d hd => err_of (her (hnone (.inl (by have := of_decide_eq_true h6; omega)))) hd⟩
      have h6' : ¬ 6 < p := by
        have := of_decide_eq_false (Bool.eq_false_iff.mpr h6)
        omega
      refine ⟨_, rfl, _, F.length, rfl, ⟨by rw [mk_len]; exact sz hFz, (mk_len F).symm⟩, _, 5, rfl, .inr ⟨_, T.s_BOTTOMS _, rfl⟩, _, _, rfl, rfl, _, rfl, ite2 (fun h5 => ?_) (fun h5 => ?_)⟩
      · exact ⟨_, rfl, _, rfl, fun d hd => err_of (her (hnone (.inr (by have := of_decide_eq_true h5; omega)))) hd⟩
      have h5' : F.length < 5 := by
        have := of_decide_eq_false (Bool.eq_false_iff.mpr h5)
        omega
      have hnb : ¬ (6 < p ∨ 5 ≤ F.length) := by omega
      have hbit : headIn naming (((tl z).drop i).drop (numEnd ((tl z).drop i))) = true → nrAt ((tl z).drop i) = none := fun hh => by
        unfold nrAt
        rw [hp, hF, if_neg hnb, if_pos hh]
      have hgood : headIn naming (((tl z).drop i).drop (numEnd ((tl z).drop i))) = false →
          nrAt ((tl z).drop i) = some (.num (NumText.digitsVal (((tl z).drop i).take p ++ F)) (10 ^ F.length), numEnd ((tl z).drop i)) := fun hh => by
        unfold nrAt
        rw [hp, hF, if_neg hnb, if_neg (by rw [hh]; exact Bool.false_ne_true)]
      have hint : PySem.intText? (mk (((tl z).drop i).take p) ++ mk F) = some ((NumText.digitsVal (((tl z).drop i).take p ++ F) : Nat) : Int) := by
        have e1 : (mk (((tl z).drop i).take p) ++ mk F).cps.toList = ((tl z).drop i).take p ++ F := tl_append _ _
        have h2 := intText_digits (x := mk (((tl z).drop i).take p) ++ mk F) (by
          rw [e1]
          refine all_digs fun c hc => ?_
          rcases List.mem_append.mp hc with hc | hc
          · rw [← hp, take_run] at hc
            exact List.all_eq_true.mp (List.all_takeWhile (l := (tl z).drop i)) c hc
          · rw [← hF] at hc
            exact fracAt_digs _ c hc) (by
          rw [e1]
          intro e
          have := congrArg List.length e
          rw [List.length_append, hW] at this
          simp at this
          omega) (by
          rw [len_tl, show tl (mk (((tl z).drop i).take p) ++ mk F) = _ from e1, List.length_append, hW]
          omega)
        rw [e1] at h2
        exact h2
      have hsum : (mk (((tl z).drop i).take p)).length + (mk F).length ≤ sizeLine := by
        rw [mk_len, mk_len, hW]
        exact sz (by omega)
      have hbot : atI [V.int 1, V.int 10, V.int 100, V.int 1000, V.int 10000] ((F.length : Nat) : Int) = some (.int ((10 ^ F.length : Nat) : Int)) := by
        rcases (by omega : F.length = 0 ∨ F.length = 1 ∨ F.length = 2 ∨ F.length = 3 ∨ F.length = 4) with e | e | e | e | e <;> rw [e] <;> rfl
      have fin : headIn naming (((tl z).drop i).drop (numEnd ((tl z).drop i))) = false → ∀ b, H b = none → ∀ q, upd H b (.tup [.int ((NumText.digitsVal (((tl z).drop i).take p ++ F) : Nat) : Int), .int ((10 ^ F.length : Nat) : Int)]) q = none →
          Q (.ref q) (upd (upd H b (.tup [.int ((NumText.digitsVal (((tl z).drop i).take p ++ F) : Nat) : Int), .int ((10 ^ F.length : Nat) : Int)])) q (.tup [.str "number", .ref b, .int ((i + numEnd ((tl z).drop i) : Nat) : Int)])) := fun hh b hb q hq => by
        have hs1 := same_upd (o := .tup [.int ((NumText.digitsVal (((tl z).drop i).take p ++ F) : Nat) : Int), .int ((10 ^ F.length : Nat) : Int)]) hb
        have hs2 := same_upd (o := .tup [.str "number", .ref b, .int ((i + numEnd ((tl z).drop i) : Nat) : Int)]) hq
        refine hok _ _ (hgood hh) q _ _ (hs1.trans hs2) (hs1.free hq) upd_same ?_
        exact .tup (.inl (.inl (hs2 _ _ upd_same))) (.cons (.int _) (.cons (.int _) .nil))
      by_cases hend : i + numEnd ((tl z).drop i) < z.length
      · obtain ⟨x, hx, hd⟩ := drop_at hend
        have hd' : ((tl z).drop i).drop (numEnd ((tl z).drop i)) = x :: (tl z).drop (i + numEnd ((tl z).drop i) + 1) := by
          rw [List.drop_drop]
          exact hd
        refine ⟨_, rfl, _, rfl, _, z.length, rfl, ⟨sz hz, rfl⟩, _, _, rfl, rfl, _, rfl, ?_⟩
        rw [decide_eq_true (by omega)]
        refine iteT ⟨_, rfl, _, rfl, .inr (.inr ⟨z, _, x, rfl, rfl, sz hz, atI_nat hx, .inl ⟨x, _, rfl, rfl, _, rfl, ite2 (fun hc => ?_) (fun hc => ?_)⟩⟩)⟩
        · exact ⟨_, rfl, _, rfl, fun d hd2 => err_of (her (hbit (by rw [hd']; exact hc))) hd2⟩
        · refine ⟨_, rfl, _, rfl, .inr ⟨_, _, rfl, rfl, hsum, .inr ⟨_, _, rfl, hint, by rw [len_tl, tl_append, List.length_append, tl_of, tl_of, hW]; omega, _, rfl, _, F.length, rfl, ⟨by rw [mk_len]; exact sz hFz, (mk_len F).symm⟩,
            .inr (.inl ⟨T.a_BOTTOMS, _, _, _, rfl, rfl, T.s_BOTTOMS _, hbot, by show 2 ≤ sizeLine; decide, fun b hb' => ⟨_, rfl, by show 3 ≤ sizeLine; decide, fun q hq => ?_⟩⟩)⟩⟩⟩
          exact fin (by rw [hd']; exact Bool.eq_false_iff.mpr hc) b hb' q hq
      · have hd' : ((tl z).drop i).drop (numEnd ((tl z).drop i)) = [] := by
          rw [List.drop_drop]
          exact drop_end (by omega)
        refine ⟨_, rfl, _, rfl, _, z.length, rfl, ⟨sz hz, rfl⟩, _, _, rfl, rfl, _, rfl, ?_⟩
        rw [decide_eq_false (by omega)]
        refine iteF (iteF ⟨_, rfl, _, rfl, .inr ⟨_, _, rfl, rfl, hsum, .inr ⟨_, _, rfl, hint, by rw [len_tl, tl_append, List.length_append, tl_of, tl_of, hW]; omega, _, rfl, _, F.length, rfl, ⟨by rw [mk_len]; exact sz hFz, (mk_len F).symm⟩,
            .inr (.inl ⟨T.a_BOTTOMS, _, _, _, rfl, rfl, T.s_BOTTOMS _, hbot, by show 2 ≤ sizeLine; decide, fun b hb' => ⟨_, rfl, by show 3 ≤ sizeLine; decide, fun q hq => ?_⟩⟩)⟩⟩⟩)
        exact fin (by rw [hd']; rfl) b hb' q hq
end
end Tk

namespace Tk
open PySem PySem.Spec PyProof.Rows L2 Ly Lx TL Px
section
variable {P : Program} {w : World} {K : PySem.W.Frag} {mg : Str → Option Value} {base : Heap}
theorem ok_token_at (T : Top w K mg) : FnOk P w K mg base (L2N.CX P w) 5 T.a_token_at T.fd_token_at ["text", "at"] (sp_tok tokAt K T.a_Malformed) := by
  refine okN T.F_token_at sc_token_at (fun vs H Q E h => ?_) (fun cdv A outer s H vs Q E hr h => ?_)
  · obtain ⟨z, i, rfl, _⟩ := h
    rfl
  · obtain ⟨z, i, rfl, hz, hi, hok, her⟩ := h
    refine ⟨_, (pss_cons (ps_if (pt_cmpR op_within (pe_ix ix_seq (pv 0) (pv 1) (fun _ _ => rfl)) (pe_glob (by rfl) T.c_LETTERS T.r_LETTERS) (by rfl))
      (pss_one (ps_ret (pe_call (ok_name_at T) (hr.mono (by first | decide | omega)) (by rfl) T.m_name_at T.F_name_at.kp T.b_name_at .nil (L2N.passes_call (L2N.takes_of rfl rfl rfl rfl) (fun _ _ _ _ h => h)) (pa_cons (pv 0) (pa_cons (pv 1) pa_nil)))))
      pss_nil)
      (pss_cons (ps_if (pt_cmpR op_within (pe_ix ix_seq (pv 0) (pv 1) (fun _ _ => rfl)) (pe_glob (by rfl) T.c_DIGITS T.r_DIGITS) (by rfl))
      (pss_one (ps_ret (pe_call (ok_number_at T) (hr.mono (by first | decide | omega)) (by rfl) T.m_number_at T.F_number_at.kp T.b_number_at .nil (L2N.passes_call (L2N.takes_of rfl rfl rfl rfl) (fun _ _ _ _ h => h)) (pa_cons (pv 0) (pa_cons (pv 1) pa_nil)))))
      pss_nil)
      (pss_cons (ps_for (passes_of rfl) rfl (pi_tup (pe_glob (v := .ref T.a_SIGNS) (by rfl) T.c_SIGNS rfl)) (pg_name (i := 2) sc_token_at.nd rfl (.inl rfl))
      (pss_one (ps_if (pt_val (pe_bm PySem.F.plainAttrs_str PySem.F.slot_str_startswith PySem.F.type_str_startswith mt_startswith3 (pv 0) (pa_cons (pv 2) (pa_cons (pv 1) pa_nil))))
      (pss_one (ps_ret (pe_tup (pa_cons pe_str (pa_cons (pv 2) (pa_cons (pe_op op_plus (pv 1) (pe_callB call_len (by rfl) T.n_len bt_len (pa_cons (pv 2) pa_nil))) pa_nil))))))
      pss_nil)))
      (pss_one (ps_raiseX rfl (L2N.takes_of rfl rfl rfl rfl) T.x_Malformed (ok_Malformed_init T) (hr.mono (by decide)) T.b_Malformed_init (pa_cons (pv 1) pa_nil)))))), ?_⟩
    obtain ⟨x, hx, hd⟩ := drop_at hi
    refine ⟨_, rfl, _, rfl, .inr (.inr ⟨z, _, x, rfl, rfl, sz hz, atI_nat hx, .inl ⟨x, _, rfl, rfl, _, rfl, ite2 (fun h1 => ?_) (fun h1 => ?_)⟩⟩)⟩
    · have h1' : inS letters x = true := h1
      have et : tokAt ((tl z).drop i) = nmAt ((tl z).drop i) := by
        rw [hd, tokAt_cons, if_pos h1']
      rw [et] at hok her
      exact ⟨_, rfl, _, rfl, z, i, rfl, hz, hi, hok, her⟩
    have h1' : ¬ inS letters x = true := h1
    refine ⟨_, rfl, _, rfl, .inr (.inr ⟨z, _, x, rfl, rfl, sz hz, atI_nat hx, .inl ⟨x, _, rfl, rfl, _, rfl, ite2 (fun h2 => ?_) (fun h2 => ?_)⟩⟩)⟩
    · have h2' : inS digits x = true := h2
      have et : tokAt ((tl z).drop i) = nrAt ((tl z).drop i) := by
        rw [hd, tokAt_cons, if_neg h1', if_pos h2']
      rw [et] at hok her
      refine ⟨_, rfl, _, rfl, ⟨z, i, rfl, hz, hi, hok, her⟩, z, i, rfl, ?_⟩
      rw [hd, run_in h2']
      omega
    have h2' : ¬ inS digits x = true := h2
    have et : tokAt ((tl z).drop i) = sgAt ((tl z).drop i) := by
      rw [hd, tokAt_cons, if_neg h1', if_neg h2']
    rw [et] at hok her
    refine ⟨_, rfl, ⟨_, T.s_SIGNS _⟩, for_tup (K := K) (a := T.a_SIGNS) (xs := sgns.map V.str) (fun k σ H' => ∃ y, σ = [some (.str z), some (.int (i : Int)), y] ∧ H' = H ∧
      ∀ j, j < k → ∀ s, sgns[j]? = some s → (tl s).isPrefixOf ((tl z).drop i) = false) ⟨none, rfl, rfl, fun j hj => absurd hj (Nat.not_lt_zero j)⟩ (fun k σ H' _ _ => T.s_SIGNS H') ?_ ?_⟩
    · rintro k v σ H1 hk ⟨y, rfl, rfl, hno⟩
      rw [List.getElem?_map] at hk
      cases hs : sgns[k]? with
      | none => rw [hs] at hk; cases hk
      | some sg =>
        rw [hs] at hk
        have ev : v = .str sg := (Option.some.inj hk).symm
        subst ev
        have hsl : sg.length ≤ 2 := by
          have : ∀ s ∈ sgns, s.length ≤ 2 := by decide
          exact this sg (List.mem_of_getElem? hs)
        refine ⟨_, rfl, rfl, _, rfl, _, rfl, z, sg, (i : Int), rfl, rfl, ?_⟩
        rw [starts_eq z sg (Nat.le_of_lt hi)]
        refine ⟨_, rfl, ite2 (fun hp => ?_) (fun hp => ?_)⟩
        · refine ⟨_, rfl, _, rfl, _, rfl, _, sg.length, rfl, ⟨sz (by omega), rfl⟩, .inl ⟨_, _, rfl, rfl, by show 3 ≤ sizeLine; decide, fun p hp' => ?_⟩⟩
          have e : sgAt ((tl z).drop i) = some (.sign sg, sg.length) := by
            unfold sgAt
            rw [find_of hs hp hno]
            rfl
          exact hok (.sign sg) _ e p _ _ (same_upd hp') hp' upd_same (.str _)
        · refine ⟨_, rfl, rfl, fun j hj s hs' => ?_⟩
          by_cases hjk : j = k
          · subst hjk
            rw [hs] at hs'
            cases hs'
            exact Bool.eq_false_iff.mpr hp
          · exact hno j (by omega) s hs'
    · rintro σ H1 ⟨y, rfl, rfl, hno⟩
      refine ⟨_, rfl, _, rfl, fun d hd2 => err_of (her ?_) hd2⟩
      unfold sgAt
      rw [List.find?_eq_none.mpr fun s hs => ?_]
      · rfl
      · obtain ⟨j, hj⟩ := List.getElem?_of_mem hs
        have hlt : j < (sgns.map V.str).length := by
          rw [List.length_map]
          exact (List.getElem?_eq_some_iff.mp hj).1
        rw [hno j hlt s hj]
        exact Bool.false_ne_true
/-- what tokens(text) is promised for any text: how far it reads, what then -/
def sp_tokens (K : PySem.W.Frag) (CM CO : Addr) : Sp := fun vs H Q E => ∃ z : Str, vs = [.str z] ∧ z.length ≤ 100000 ∧
  (12000 < z.length → ErrRes CO "limit" (.str "text") H E) ∧
  (z.length ≤ 12000 → ∃ ts j l', LexTo (skip false (tl z)) ((tl z).drop (skip false (tl z))) ts j l' ∧ (l' = [] ∨ tokAt l' = none) ∧
    (l' = [] → ∀ p H' xs, Same H H' → H p = none → H' p = some (.lst xs) → DpAll K H' xs (ts.map tokD) → Q (.ref p) H') ∧
    (l' ≠ [] → ErrRes CM "at" (.int (j : Int)) H E))
theorem ok_tokens (T : Top w K mg) : FnOk P w K mg base (L2N.CX P w) 6 T.a_tokens T.fd_tokens ["text"] (sp_tokens K T.a_Malformed T.a_Oversized) := by
  refine okN T.F_tokens sc_tokens (fun vs H Q E h => ?_) (fun cdv A outer s H vs Q E hr h => ?_)
  · obtain ⟨z, rfl, _⟩ := h
    rfl
  · obtain ⟨z, rfl, hz, hbig, hsmall⟩ := h
    refine ⟨_, (pss_cons (ps_if (pt_cmpR op_gt (pe_callB call_len (by rfl) T.n_len bt_len (pa_cons (pv 0) pa_nil)) (pe_glob (by rfl) T.c_LONGEST_TEXT T.r_LONGEST_TEXT) (nomark _))
      (pss_one (ps_raiseX rfl (L2N.takes_of rfl rfl rfl rfl) T.x_Oversized (ok_Oversized_init T) (hr.mono (by decide)) T.b_Oversized_init (pa_cons pe_str pa_nil)))
      pss_nil)
      (pss_cons (ps_set (i := 1) sc_tokens.nd rfl (.inl rfl) (by exact (pe_lst pa_nil)))
      (pss_cons (ps_set (i := 2) sc_tokens.nd rfl (.inl rfl) (by exact (pe_call (ok_token_start T) (hr.mono (by first | decide | omega)) (by rfl) T.m_token_start T.F_token_start.kp T.b_token_start .nil pass0 (pa_cons (pv 0) (pa_cons pe_int pa_nil)))))
      (pss_cons (ps_while (passes_of rfl) (pt_cmpR op_lt (pv 2) (pe_callB call_len (by rfl) T.n_len bt_len (pa_cons (pv 0) pa_nil)) (nomark _))
      (pss_cons (ps_asg (pe_call (ok_token_at T) (hr.mono (by first | decide | omega)) (by rfl) T.m_token_at T.F_token_at.kp T.b_token_at .nil (L2N.passes_call (L2N.takes_of rfl rfl rfl rfl) (fun _ _ _ _ h => h)) (pa_cons (pv 0) (pa_cons (pv 2) pa_nil))) (pg_tup rfl (pgs_cons (pg_name (i := 3) sc_tokens.nd rfl (.inl rfl)) (pgs_cons (pg_name (i := 4) sc_tokens.nd rfl (.inl rfl)) (pgs_cons (pg_name (i := 5) sc_tokens.nd rfl (.inl rfl)) pgs_nil)))))
      (pss_cons (ps_expr (pe_bm PySem.F.plainAttrs_list PySem.F.slot_list_append PySem.F.type_list_append mt_append (pv 1) (pa_cons (pe_tup (pa_cons (pv 3) (pa_cons (pv 4) (pa_cons (pv 2) pa_nil)))) pa_nil)))
      (pss_one (ps_set (i := 2) sc_tokens.nd rfl (.inl rfl) (by exact (pe_call (ok_token_start T) (hr.mono (by first | decide | omega)) (by rfl) T.m_token_start T.F_token_start.kp T.b_token_start .nil pass0 (pa_cons (pv 0) (pa_cons (pv 5) pa_nil)))))))))
      (pss_one (ps_ret (pv 1))))))), ?_⟩
    refine ⟨_, rfl, _, z.length, rfl, ⟨sz hz, rfl⟩, _, _, rfl, rfl, _, rfl, ite2 (fun hc => ?_) (fun hc => ?_)⟩
    · have : 12000 < z.length := by
        have := of_decide_eq_true hc
        omega
      exact ⟨_, rfl, fun d hd => err_of (hbig this) hd⟩
    have h12 : z.length ≤ 12000 := by
      have := of_decide_eq_false (Bool.eq_false_iff.mpr hc)
      omega
    obtain ⟨ts, je, le, hlex, hstop, hgood, hbad⟩ := hsmall h12
    refine ⟨Nat.zero_le _, fun l nl => ?_⟩
    refine ⟨_, rfl, z, 0, rfl, hz, Nat.zero_le _, ?_⟩
    rw [Nat.zero_add, List.drop_zero]
    have hsk := skip_le false (tl z)
    rw [← len_tl] at hsk
    refine ⟨fun m σ H' => ∃ (a : Nat) (done rest : List (Tkn × Nat)) (xs : List V) (y3 y4 y5 : Option V), σ = [some (.str z), some (.ref l), some (.int (a : Int)), y3, y4, y5] ∧ a ≤ z.length ∧ m = z.length - a ∧
      Same H H' ∧ H' l = some (.lst xs) ∧ DpAll K H' xs (done.map tokD) ∧ done.length ≤ a ∧ ts = done ++ rest ∧ LexTo a ((tl z).drop a) rest je le,
      ⟨_, skip false (tl z), [], ts, [], none, none, none, rfl, hsk, rfl, same_upd nl, upd_same, .nil, Nat.zero_le _, rfl, hlex⟩, ?_⟩
    rintro m σ H1 ⟨a, done, rest, xs, y3, y4, y5, rfl, ha, rfl, hs, hl, hdp, hdl, ets, hlx⟩
    refine ⟨_, rfl, _, rfl, _, z.length, rfl, ⟨sz hz, rfl⟩, _, _, rfl, rfl, _, rfl, ite2 (fun hc => ?_) (fun hc => ?_)⟩
    · have hlt : a < z.length := by simpa using hc
      obtain ⟨x, hx, hd⟩ := drop_at hlt
      refine ⟨fun σ' H' => ∃ (a' : Nat) (done' rest' : List (Tkn × Nat)) (xs' : List V) (y3 y4 y5 : Option V), σ' = [some (.str z), some (.ref l), some (.int (a' : Int)), y3, y4, y5] ∧ a < a' ∧ a' ≤ z.length ∧
        Same H H' ∧ H' l = some (.lst xs') ∧ DpAll K H' xs' (done'.map tokD) ∧ done'.length ≤ a' ∧ ts = done' ++ rest' ∧ LexTo a' ((tl z).drop a') rest' je le, fun σ' H' hN => ?_, ?_⟩
      · obtain ⟨a', d', r', xs', z3, z4, z5, e1, e2, e3, e4, e5, e6, e7, e8, e9⟩ := hN
        exact ⟨_, by omega, a', d', r', xs', z3, z4, z5, e1, e3, rfl, e4, e5, e6, e7, e8, e9⟩
      -- kind, value, end = token_at(text, at)
      refine ⟨_, rfl, _, rfl, z, a, rfl, hz, hlt, fun t n ht => ?_, fun hn => ?_⟩
      · intro p H2 val hs2 np hp hval
        have hpos := tokAt_pos ht
        rw [drop_len] at hpos
        refine ⟨p, _, rfl, .inl (.inl hp), rfl, _, _, rfl, _, _, rfl, _, _, rfl, rfl, ?_⟩
        -- found.append((kind, value, at))
        have hl2 : H2 l = some (.lst xs) := hs2 _ _ hl
        refine ⟨_, rfl, .inl ⟨rfl, _, .inl (.inl hl2)⟩, _, rfl, _, rfl, _, rfl, by show 3 ≤ sizeLine; decide, fun q nq => ?_⟩
        have hlq : (upd H2 q (.tup [.str (kindOf t), val, .int (a : Int)])) l = some (.lst xs) := same_upd nq _ _ hl2
        refine ⟨l, xs, _, rfl, rfl, hlq, ?_, ?_⟩
        · rw [dps_len hdp, List.length_map]
          exact Nat.lt_of_le_of_lt (Nat.le_trans hdl ha) (Nat.lt_of_le_of_lt hz (by decide))
        -- at = token_start(text, end)
        refine ⟨_, rfl, _, rfl, z, a + n, rfl, hz, by omega, ?_⟩
        have hsk2 := skip_le false ((tl z).drop (a + n))
        rw [drop_len] at hsk2
        generalize hH3 : upd (upd H2 q (.tup [.str (kindOf t), val, .int (a : Int)])) l (.lst (xs ++ [.ref q])) = H3
        have s13 : ∀ b o, H b = some o → H3 b = some o := fun b o e => by
          subst hH3
          rw [upd_ne (ne_of_none e nl)]
          exact same_upd nq _ _ (hs2 _ _ (hs _ _ e))
        have tt : ∀ a' ys, SqT K H1 a' ys → SqT K H3 a' ys := fun a' ys h => by
          subst hH3
          exact sqt_upd hlq a' ys (sqt_same (same_upd nq) a' ys (sqt_same hs2 a' ys h))
        have tt2 : ∀ a' ys, SqT K H2 a' ys → SqT K H3 a' ys := fun a' ys h => by
          subst hH3
          exact sqt_upd hlq a' ys (sqt_same (same_upd nq) a' ys h)
        have hq3 : H3 q = some (.tup [.str (kindOf t), val, .int (a : Int)]) := by
          subst hH3
          rw [upd_ne (ne_of upd_same hlq (by intro z; cases z)), upd_same]
        have dnew : Dp K H3 (.ref q) (tokD (t, a)) := .tup (.inl (.inl hq3)) (.cons (.str _) (.cons (dp_keep tt2 _ _ (noL_val t) hval) (.cons (.int _) .nil)))
        cases hlx with
        | refl => 
          rcases hstop with e | e
          · rw [hd] at e
            cases e
          · rw [e] at ht
            cases ht
        | step e r =>
          rw [ht] at e
          cases e
          rename_i ts'
          refine ⟨a + n + skip false ((tl z).drop (a + n)), done ++ [(t, a)], ts', _, _, _, _, rfl, by omega, by omega, s13, by subst hH3; exact upd_same, ?_, ?_, ?_, ?_⟩
          · rw [List.map_append]
            exact dps_append (dps_keep tt _ _ (noL_toks done) hdp) (.cons dnew .nil)
          · rw [List.length_append]
            simp
            omega
          · rw [ets, List.append_assoc]
            rfl
          · rw [List.drop_drop, List.drop_drop] at r
            exact r
      · -- no token stands there
        cases hlx with
        | refl =>
          intro d H' h1 h2 h3
          exact hbad (by rw [hd]; simp) d H' (hs.trans h1) (hs.free h2) h3
        | step e _ =>
          rw [hn] at e
          cases e
    · have hend : a = z.length := by
        have : ¬ a < z.length := by simpa using hc
        omega
      rw [drop_end (Nat.le_of_eq hend.symm)] at hlx
      refine ⟨_, rfl, ?_⟩
      cases hlx with
      | refl =>
        rw [List.append_nil] at ets
        subst ets
        exact hgood rfl l H1 xs hs nl hl hdp
      | step e _ => cases e
end
end Tk

namespace Tk
open PySem PySem.Spec PyProof.Rows L2 Ly Lx TL Px
/-! ### lines -/
section
variable {P : Program} {w : World} {K : PySem.W.Frag} {mg : Str → Option Value} {base : Heap}
theorem bindR_assoc (r : Res) (f g : PyData → Nat → Res) : bindR (bindR r f) g = bindR r fun d k => bindR (f d k) g := by
  match r with
  | .ok (d, k) => rfl
  | .error e => rfl
theorem expS_to {all : List (Tkn × Nat)} {n k k1 : Nat} {x : Str} {d : PyData} (h : expectS all n x k = .ok (d, k1)) : k1 = k + 1 := by
  unfold expectS at h
  split at h
  · cases h
    rfl
  · cases h
def spLine (K : PySem.W.Frag) (c : Cl) : Sp := fun vs H Q E => ∃ (R : RS) (k : Nat), vs = [.ref R.r] ∧ R.at_ K c.rd H k ∧ Out K c R (k + 1) H (lineM R.all R.n k) Q E
theorem okT_read_line (T : Top w K mg) (hX : FnT P w K mg base 340 T.a_read_expression T.fd_read_expression ["reader", "level"] (spLv K (clOf T) (exprNF 24) 24)) :
    FnT P w K mg base 342 T.a_read_line T.fd_read_line ["reader"] (spLine K (clOf T)) := by
  refine okT T.F_read_line sc_read_line (fun vs H Q E h => ?_) (fun cdv A outer s H vs Q E hr h => ?_)
  · obtain ⟨R, k, rfl, _⟩ := h
    rfl
  · obtain ⟨R, k, rfl, ha, q⟩ := h
    refine ⟨_, (pss_cons (ps_set (i := 1) sc_read_line.nd rfl (.inl rfl) (by exact (pe_meth0T (pv 0) T.cl_Reader T.M_Reader_where (okT_Reader_where T) (hr.mono (by first | decide | omega)) T.b_Reader_where (fun σ => L2N.passAt (L2N.takes_of rfl rfl rfl rfl) σ))))
      (pss_cons (ps_if (pt_val (pe_methT (pv 0) T.cl_Reader T.M_Reader_accept (okT_Reader_accept T) (hr.mono (by first | decide | omega)) T.b_Reader_accept (fun σ => L2N.passAt (L2N.takes_of rfl rfl rfl rfl) σ) (by exact (pa_cons pe_str pa_nil))))
      (pss_one (ps_set (i := 2) sc_read_line.nd rfl (.inl rfl) (by exact (pe_tup (pa_cons pe_str (pa_cons (pe_methT (pv 0) T.cl_Reader T.M_Reader_expect_kind (okT_Reader_expect_kind T) (hr.mono (by first | decide | omega)) T.b_Reader_expect_kind (fun σ => L2N.passAt (L2N.takes_of rfl rfl rfl rfl) σ) (by exact (pa_cons pe_str pa_nil))) (pa_cons (pv 1) pa_nil)))))))
      (pss_one (ps_if (pt_val (pe_methT (pv 0) T.cl_Reader T.M_Reader_accept (okT_Reader_accept T) (hr.mono (by first | decide | omega)) T.b_Reader_accept (fun σ => L2N.passAt (L2N.takes_of rfl rfl rfl rfl) σ) (by exact (pa_cons pe_str pa_nil))))
      (pss_one (ps_set (i := 2) sc_read_line.nd rfl (.inl rfl) (by exact (pe_callT (okT_read_unit T) (hr.mono (by first | decide | omega)) (by rfl) T.m_read_unit T.F_read_unit.kp T.b_read_unit (fun σ => L2N.passAt (L2N.takes_of rfl rfl rfl rfl) σ) (by exact (pa_cons (pv 0) (pa_cons (pv 1) pa_nil)))))))
      (pss_one (ps_if (pt_val (pe_methT (pv 0) T.cl_Reader T.M_Reader_accept (okT_Reader_accept T) (hr.mono (by first | decide | omega)) T.b_Reader_accept (fun σ => L2N.passAt (L2N.takes_of rfl rfl rfl rfl) σ) (by exact (pa_cons pe_str pa_nil))))
      (pss_one (ps_set (i := 2) sc_read_line.nd rfl (.inl rfl) (by exact (pe_callT (okT_read_function T hX) (hr.mono (by first | decide | omega)) (by rfl) T.m_read_function T.F_read_function.kp T.b_read_function (fun σ => L2N.passAt (L2N.takes_of rfl rfl rfl rfl) σ) (by exact (pa_cons (pv 0) (pa_cons (pv 1) pa_nil)))))))
      (pss_cons (ps_expr (pe_methT (pv 0) T.cl_Reader T.M_Reader_expect (okT_Reader_expect T) (hr.mono (by first | decide | omega)) T.b_Reader_expect (fun σ => L2N.passAt (L2N.takes_of rfl rfl rfl rfl) σ) (by exact (pa_cons pe_str pa_nil))))
      (pss_one (ps_set (i := 2) sc_read_line.nd rfl (.inl rfl) (by exact (pe_callT (okT_read_show T hX) (hr.mono (by first | decide | omega)) (by rfl) T.m_read_show T.F_read_show.kp T.b_read_show (fun σ => L2N.passAt (L2N.takes_of rfl rfl rfl rfl) σ) (by exact (pa_cons (pv 0) (pa_cons (pv 1) pa_nil)))))))))))))
      (pss_cons (ps_expr (pe_methT (pv 0) T.cl_Reader T.M_Reader_expect (okT_Reader_expect T) (hr.mono (by first | decide | omega)) T.b_Reader_expect (fun σ => L2N.passAt (L2N.takes_of rfl rfl rfl rfl) σ) (by exact (pa_cons pe_str pa_nil))))
      (pss_one (ps_ret (pv 2)))))), ?_⟩
    unfold lineM at q
    refine ⟨_, rfl, R.r, _, _, rfl, ha.1, rfl, R, k, rfl, ha, ?_⟩
    refine ⟨_, rfl, R.r, _, _, rfl, ha.1, rfl, R, k, "base", rfl, ha, sh1 _, fun hs1 H1 g1 ha1 => ⟨_, rfl, iteT ?_⟩, fun hs1 H1 g1 ha1 => ⟨_, rfl, iteF ?_⟩⟩
    · rw [if_pos hs1] at q
      unfold baseM at q
      rw [bindR_assoc] at q
      refine ⟨_, rfl, R.r, _, _, rfl, ha1.1, rfl, R, k + 1, "name", rfl, ha1, sh1 _, ?_⟩
      refine Out.step0 q g1 fun d2 k2 H2 v2 hr2 hk2 g2 ha2 hd2 hn2 q2 => ?_
      refine ⟨_, rfl, by show 3 ≤ sizeLine; decide, fun p np => ?_⟩
      have sm := Ly.same_new (o := .tup [.str "base", v2, .int (wh R.all R.n k : Int)]) np
      have ha3 := ha2.same sm
      have g3 := (g1.trans g2).trans (go_same sm)
      have hn3 : noL (.tuple [.str "base", d2, .int (wh R.all R.n k : Int)]) = true := noLs_cons rfl (noLs_cons hn2 rfl)
      have hd3 : Dp K (upd H2 p (.tup [.str "base", v2, .int (wh R.all R.n k : Int)])) (.ref p) (.tuple [.str "base", d2, .int (wh R.all R.n k : Int)]) :=
        .tup (SqT.of upd_same) (.cons (.str _) (.cons (dp_same sm hn2 hd2) (.cons (.int _) .nil)))
      refine ⟨_, rfl, R.r, _, _, rfl, ha3.1, rfl, R, k2, ";", rfl, ha3, sh1 _, ?_⟩
      refine Out.step0 q2 g3 fun d4 k4 H4 v4 hr4 hk4 g4 ha4 hd4 hn4 q4 => ?_
      have := expS_to hr4
      exact ⟨_, rfl, Out.ret q4 (by omega) (g3.trans g4) ha4 (dp_go g4 ha3.ins hn3 hd3) hn3⟩
    rw [if_neg (by rw [hs1]; exact Bool.false_ne_true)] at q
    refine ⟨_, rfl, R.r, _, _, rfl, ha1.1, rfl, R, k, "unit", rfl, ha1, sh1 _, fun hs2 H2 g2 ha2 => ⟨_, rfl, iteT ?_⟩, fun hs2 H2 g2 ha2 => ⟨_, rfl, iteF ?_⟩⟩
    · rw [if_pos hs2] at q
      refine ⟨_, rfl, _, rfl, R, k + 1, _, rfl, ha2, ?_⟩
      refine Out.step0 q (g1.trans g2) fun d3 k3 H3 v3 hr3 hk3 g3 ha3 hd3 hn3 q3 => ?_
      refine ⟨_, rfl, R.r, _, _, rfl, ha3.1, rfl, R, k3, ";", rfl, ha3, sh1 _, ?_⟩
      refine Out.step0 q3 ((g1.trans g2).trans g3) fun d4 k4 H4 v4 hr4 hk4 g4 ha4 hd4 hn4 q4 => ?_
      have := expS_to hr4
      exact ⟨_, rfl, Out.ret q4 (by omega) (((g1.trans g2).trans g3).trans g4) ha4 (dp_go g4 ha3.ins hn3 hd3) hn3⟩
    rw [if_neg (by rw [hs2]; exact Bool.false_ne_true)] at q
    have g02 := g1.trans g2
    refine ⟨_, rfl, R.r, _, _, rfl, ha2.1, rfl, R, k, "fun", rfl, ha2, sh1 _, fun hs3 H3 g3 ha3 => ⟨_, rfl, iteT ?_⟩, fun hs3 H3 g3 ha3 => ⟨_, rfl, iteF ?_⟩⟩
    · rw [if_pos hs3] at q
      refine ⟨_, rfl, _, rfl, R, k + 1, _, rfl, ha3, ?_⟩
      refine Out.step0 q (g02.trans g3) fun d4 k4 H4 v4 hr4 hk4 g4 ha4 hd4 hn4 q4 => ?_
      refine ⟨_, rfl, R.r, _, _, rfl, ha4.1, rfl, R, k4, ";", rfl, ha4, sh1 _, ?_⟩
      refine Out.step0 q4 ((g02.trans g3).trans g4) fun d5 k5 H5 v5 hr5 hk5 g5 ha5 hd5 hn5 q5 => ?_
      have := expS_to hr5
      exact ⟨_, rfl, Out.ret q5 (by omega) (((g02.trans g3).trans g4).trans g5) ha5 (dp_go g5 ha4.ins hn4 hd4) hn4⟩
    rw [if_neg (by rw [hs3]; exact Bool.false_ne_true), bindR_assoc] at q
    have g03 := g02.trans g3
    refine ⟨_, rfl, R.r, _, _, rfl, ha3.1, rfl, R, k, "show", rfl, ha3, sh1 _, ?_⟩
    refine Out.step0 q g03 fun d4 k4 H4 v4 hr4 hk4 g4 ha4 hd4 hn4 q4 => ?_
    refine ⟨_, rfl, _, rfl, R, k4, _, rfl, ha4, ?_⟩
    refine Out.step0 q4 (g03.trans g4) fun d5 k5 H5 v5 hr5 hk5 g5 ha5 hd5 hn5 q5 => ?_
    refine ⟨_, rfl, R.r, _, _, rfl, ha5.1, rfl, R, k5, ";", rfl, ha5, sh1 _, ?_⟩
    refine Out.step0 q5 ((g03.trans g4).trans g5) fun d6 k6 H6 v6 hr6 hk6 g6 ha6 hd6 hn6 q6 => ?_
    have := expS_to hr6
    exact ⟨_, rfl, Out.ret q6 (by omega) (((g03.trans g4).trans g5).trans g6) ha6 (dp_go g6 ha5.ins hn5 hd5) hn5⟩
/-- the reader is made -/
def spInit (C : Addr) : Sp := fun vs H Q _ => ∃ (x dx l : Addr) (n : Nat), vs = [.ref x, .ref l, .int (n : Int)] ∧ H x = some (.ins C dx []) ∧
  Q .non (upd (upd (upd H x (.ins C dx [("found", .ref l)])) x (.ins C dx [("found", .ref l), ("length", .int (n : Int))])) x (.ins C dx [("found", .ref l), ("length", .int (n : Int)), ("taken", .int 0)]))
theorem okT_Reader___init__ (T : Top w K mg) : FnT P w K mg base 1 T.a_Reader___init__ T.fd_Reader___init__ ["self", "found", "length"] (spInit T.a_Reader) := by
  refine okT T.F_Reader___init__ sc_Reader___init__ (fun vs H Q E h => ?_) (fun cdv A outer s H vs Q E hr h => ?_)
  · obtain ⟨x, dx, l, n, rfl, _⟩ := h
    rfl
  · obtain ⟨x, dx, l, n, rfl, hx, q⟩ := h
    refine ⟨_, (pss_cons (ps_fld (pv 0) (pv 1) rfl)
      (pss_cons (ps_fld (pv 0) (pv 2) rfl)
      (pss_one (ps_fld (pv 0) pe_int rfl)))), ?_⟩
    refine ⟨_, rfl, _, rfl, x, _, dx, [], rfl, hx, T.cl_Reader, T.nF_Reader_found, by show 0 < 1000; decide, ?_⟩
    refine ⟨_, rfl, _, rfl, x, _, dx, _, rfl, upd_same, T.cl_Reader, T.nF_Reader_length, by show 1 < 1000; decide, ?_⟩
    exact ⟨_, rfl, x, _, dx, _, rfl, upd_same, T.cl_Reader, T.nF_Reader_taken, by show 2 < 1000; decide, q⟩
end
end Tk

namespace Tk
open PySem PySem.Spec PyProof.Rows L2 Ly Lx TL Px
/-! ### parse -/
section
variable {P : Program} {w : World} {K : PySem.W.Frag} {mg : Str → Option Value} {base : Heap}
theorem LexTo.cnt {i j : Nat} {l l' : List Nat} {ts : List (Tkn × Nat)} (h : LexTo i l ts j l') : ts.length + l'.length ≤ l.length := by
  induction h with
  | refl => simp
  | step e _ ih =>
    have h1 := tokAt_pos e
    simp only [List.length_drop] at ih
    simp only [List.length_cons]
    omega
theorem shS {x : Str} (h : cpsOk x = true) : SeqAt.shaped (.str x) = true := by
  unfold SeqAt.shaped
  simp [PyData.canLay0, PyData.depth, strOk_of h]
theorem shN (t b : Nat) : SeqAt.shaped (.tuple [.int (t : Int), .int (b : Int)]) = true := by
  unfold SeqAt.shaped
  simp [PyData.canLay0, PyData.depth, PyData.canLayAll0, PyData.depthAll]
theorem naming_small {c : Nat} (h : inS naming c = true) : c < 0x110000 := by
  have h1 : ∀ c ∈ naming, c < 0x110000 := by decide
  exact h1 c (of_decide_eq_true h)
theorem cps_naming (l : List Nat) : cpsOk (mk (l.take (run naming l))) = true := by
  rw [take_run]
  show (l.takeWhile (inS naming)).all _ = true
  rw [List.all_eq_true]
  intro c hc
  have : inS naming c = true := by
    have := List.all_takeWhile (p := inS naming) (l := l)
    exact List.all_eq_true.mp this c hc
  exact decide_eq_true (naming_small this)
theorem tok_shaped {l : List Nat} {t : Tkn} {n : Nat} (h : tokAt l = some (t, n)) : SeqAt.shaped (valD t) = true := by
  cases l with
  | nil => cases h
  | cons c r =>
    rw [tokAt_cons] at h
    split at h
    · unfold nmAt at h
      split at h
      · cases h
        exact shS (cps_naming _)
      · split at h
        · cases h
        · cases h
          exact shS (cps_naming _)
    · split at h
      · unfold nrAt at h
        split at h
        · cases h
        · split at h
          · cases h
          · cases h
            exact shN _ _
      · unfold sgAt at h
        cases e : sgns.find? fun s => (tl s).isPrefixOf (c :: r) with
        | none => rw [e] at h; cases h
        | some s =>
          rw [e] at h
          cases h
          have hm := List.mem_of_find?_eq_some e
          have : ∀ s ∈ sgns, cpsOk s = true := by decide
          exact shS (this _ hm)
theorem LexTo.shaped {i j : Nat} {l l' : List Nat} {ts : List (Tkn × Nat)} (h : LexTo i l ts j l') : ∀ t ∈ ts, SeqAt.shaped (valD t.1) = true := by
  induction h with
  | refl => simp
  | step e _ ih =>
    intro t ht
    rcases List.mem_cons.mp ht with h | h
    · subst h
      exact tok_shaped e
    · exact ih t h
def ParOut (K : PySem.W.Frag) (CM CO : Addr) (res : Except Er (List PyData)) (H : Hp) (Q : VK) (E : XK) : Prop := match res with
  | .ok ls => ∀ l H' xs, Same H H' → H l = none → H' l = some (.lst xs) → DpAll K H' xs ls → noLs ls = true → Q (.ref l) H'
  | .error (.mal i) => ErrRes CM "at" (.int (i : Int)) H E
  | .error .over => ErrRes CO "limit" (.str "depth") H E
def sp_parse (K : PySem.W.Frag) (CM CO : Addr) : Sp := fun vs H Q E => ∃ (z : Str) (ts : List (Tkn × Nat)) (j : Nat), vs = [.str z] ∧ z.length ≤ 12000 ∧ LexTo (skip false (tl z)) ((tl z).drop (skip false (tl z))) ts j [] ∧
  ParOut K CM CO (parseM ts z.length) H Q E
theorem same_go {r : Addr} {H H1 H2 : Hp} (s : Same H H1) (h : H r = none) (g : Go r H1 H2) : Same H H2 := fun b o e => g.1 b o (fun hb => by subst hb; rw [h] at e; cases e) (s b o e)
theorem ErrRes.toG {R : RS} {C : Addr} {f : Str} {v : V} {H H1 : Hp} {E : XK} (h : ErrRes C f v H E) (s : Same H H1) (hr : H R.r = none) : ErrG R C f v H1 E := fun d H2 g hd e =>
  h d H2 (same_go s hr g) (by
    cases e0 : H d with
    | none => rfl
    | some o => rw [s d o e0] at hd; cases hd) e
theorem okT_parse (T : Top w K mg) (hL : FnT P w K mg base 342 T.a_read_line T.fd_read_line ["reader"] (spLine K (clOf T))) : FnT P w K mg base 343 T.a_parse T.fd_parse ["text"] (sp_parse K T.a_Malformed T.a_Oversized) := by
  refine okT T.F_parse sc_parse (fun vs H Q E h => ?_) (fun cdv A outer s H vs Q E hr h => ?_)
  · obtain ⟨z, ts, j, rfl, _⟩ := h
    rfl
  · obtain ⟨z, ts, j, rfl, hz, hlx, q⟩ := h
    refine ⟨_, (pss_cons (ps_set (i := 1) sc_parse.nd rfl (.inl rfl) (by exact (pe_makeT T.mk_Reader (okT_Reader___init__ T) (hr.mono (by first | decide | omega)) (by rfl) T.m_Reader T.b_Reader___init__ (fun σ => L2N.passAt (L2N.takes_of rfl rfl rfl rfl) σ) (by exact (pa_cons (pe_callT (FnT.of (ok_tokens T)) (hr.mono (by first | decide | omega)) (by rfl) T.m_tokens T.F_tokens.kp T.b_tokens (fun σ => L2N.passAt (L2N.takes_of rfl rfl rfl rfl) σ) (by exact (pa_cons (pv 0) pa_nil))) (pa_cons (pe_callB call_len (by rfl) T.n_len bt_len (pa_cons (pv 0) pa_nil)) pa_nil))))))
      (pss_cons (ps_set (i := 2) sc_parse.nd rfl (.inl rfl) (by exact (pe_lst pa_nil)))
      (pss_cons (ps_while (passes_of rfl) (pt_not (pt_val (pe_meth0T (pv 1) T.cl_Reader T.M_Reader_ended (okT_Reader_ended T) (hr.mono (by first | decide | omega)) T.b_Reader_ended (fun σ => L2N.passAt (L2N.takes_of rfl rfl rfl rfl) σ))))
      (pss_one (ps_expr (pe_bm PySem.F.plainAttrs_list PySem.F.slot_list_append PySem.F.type_list_append mt_append (pv 2) (pa_cons (pe_callT hL (hr.mono (by first | decide | omega)) (by rfl) T.m_read_line T.F_read_line.kp T.b_read_line (fun σ => L2N.passAt (L2N.takes_of rfl rfl rfl rfl) σ) (by exact (pa_cons (pv 1) pa_nil))) pa_nil)))))
      (pss_one (ps_ret (pv 2)))))), ?_⟩
    have hcnt := LexTo.cnt hlx
    rw [drop_len] at hcnt
    refine ⟨_, rfl, z, rfl, by omega, fun h => absurd h (by omega), fun _ => ⟨ts, j, [], hlx, .inl rfl, fun _ p H1 xs s1 np hp hdp => ?_, fun h => absurd rfl h⟩⟩
    refine ⟨_, rfl, _, z.length, rfl, ⟨sz (by omega), rfl⟩, fun r dx nr ndx hne => ?_⟩
    have hpr : p ≠ r := fun e => by subst e; rw [hp] at nr; cases nr
    have hpd : p ≠ dx := fun e => by subst e; rw [hp] at ndx; cases ndx
    refine ⟨r, dx, p, z.length, rfl, upd_same, rfl, ?_⟩
    generalize hH2 : upd (upd (upd (upd (upd H1 dx (.own r)) r (.ins T.a_Reader dx [])) r (.ins T.a_Reader dx [("found", .ref p)])) r (.ins T.a_Reader dx [("found", .ref p), ("length", .int (z.length : Int))])) r
      (.ins T.a_Reader dx [("found", .ref p), ("length", .int (z.length : Int)), ("taken", .int 0)]) = H2
    have s12 : Same H1 H2 := fun b o e => by
      subst hH2
      have h1 : b ≠ r := fun h => by subst h; rw [nr] at e; cases e
      have h2 : b ≠ dx := fun h => by subst h; rw [ndx] at e; cases e
      rw [upd_ne h1, upd_ne h1, upd_ne h1, upd_ne h1, upd_ne h2]
      exact e
    have hr2 : H2 r = some (.ins T.a_Reader dx [("found", .ref p), ("length", .int (z.length : Int)), ("taken", .int 0)]) := by
      subst hH2
      exact upd_same
    have s02 : Same H H2 := fun b o e => s12 b o (s1 b o e)
    have hr0 : H r = none := by
      cases e : H r with
      | none => rfl
      | some o => rw [s1 r o e] at nr; cases nr
    let R : RS := ⟨r, dx, p, xs, z.length, ts, LexTo.shaped hlx⟩
    have ha2 : R.at_ K (clOf T).rd H2 0 := ⟨hr2, s12 _ _ hp, dps_keep (sqt_same s12) _ _ (noL_toks _) hdp, Nat.zero_le _, by show ts.length ≤ 100000; omega⟩
    refine ⟨Nat.zero_le _, fun l nl => ?_⟩
    obtain ⟨L0, ha3⟩ := Fl.new ha2 (Go.refl R.r H2) nl
    have hl0 : H l = none := by
      cases e : H l with
      | none => rfl
      | some o => rw [s02 l o e] at nl; cases nl
    unfold parseM at q
    refine ⟨fun m σ H' => ∃ (k : Nat) (ys : List V) (ds : List PyData), σ = [some (.str z), some (.ref r), some (.ref l)] ∧ ys.length ≤ k ∧ ts.length + 1 ≤ m + k ∧ R.at_ K (clOf T).rd H' k ∧ Fl K R H2 H' l ys ds ∧
      ParOut K T.a_Malformed T.a_Oversized (linesL ts z.length m ds k) H Q E, ⟨ts.length + 1, 0, [], [], rfl, Nat.zero_le _, by omega, ha3, L0, q⟩, ?_⟩
    clear q
    rintro m σ H3 ⟨k, ys, ds, rfl, hys, hm, ha, L, q⟩
    have hle : k ≤ ts.length := ha.le
    obtain ⟨f, rfl⟩ : ∃ f, m = f + 1 := ⟨m - 1, by omega⟩
    unfold linesL at q
    refine ⟨_, rfl, r, _, _, rfl, ha.1, rfl, R, k, rfl, ha, ⟨_, rfl, ite2 (fun hc => ?_) (fun hc => ?_)⟩⟩
    · have hk : ¬ k = ts.length := by
        have hc' : decide (k = ts.length) = false := by simpa using hc
        exact of_decide_eq_false hc'
      rw [if_neg hk] at q
      have s03 := same_go s02 hr0 L.go
      refine ⟨fun σ' H' => ∃ (k : Nat) (ys : List V) (ds : List PyData), σ' = [some (.str z), some (.ref r), some (.ref l)] ∧ ys.length ≤ k ∧ ts.length + 1 ≤ f + k ∧ R.at_ K (clOf T).rd H' k ∧ Fl K R H2 H' l ys ds ∧
        ParOut K T.a_Malformed T.a_Oversized (linesL ts z.length f ds k) H Q E, fun σ' H' hN => ⟨f, by omega, hN⟩, ?_⟩
      refine ⟨_, rfl, .inl ⟨rfl, _, .inl (.inl L.is)⟩, _, rfl, R, k, rfl, ha, ?_⟩
      show Out K (clOf T) R (k + 1) H3 (lineM ts z.length k) _ _
      cases el : lineM ts z.length k with
      | ok dk =>
        obtain ⟨d, k4⟩ := dk
        rw [el] at q
        intro hk4 H4 v4 g4 ha4 hd4 hn4
        have L4 := L.step ha g4
        obtain ⟨L5, ha5⟩ := L4.app ha4 hd4 hn4
        refine ⟨l, ys, v4, rfl, rfl, L4.is, len_ok (by omega), ?_⟩
        exact ⟨k4, _, _, rfl, by rw [List.length_append]; simp; omega, by omega, ha5, L5, q⟩
      | error e =>
        rw [el] at q
        cases e with
        | mal i => exact ErrRes.toG q s03 hr0
        | over => exact ErrRes.toG q s03 hr0
    · have hk : k = ts.length := by
        have hc' : decide (k = ts.length) = true := by simpa using hc
        exact of_decide_eq_true hc'
      rw [if_pos hk] at q
      have s03 := same_go s02 hr0 L.go
      exact ⟨_, rfl, q l H3 ys s03 hl0 L.is L.dp L.no⟩
end
end Tk

namespace Tk
open PySem PySem.Spec PyProof.Rows L2 Ly Lx TL Px Lw
/-! ### the law's own defs: what is drawn -/
section
variable {P : Program} {w : World} {K : PySem.W.Frag} {mg : Str → Option Value} {base : Heap}
theorem hu_of1 {k : Nat} {A : Around} (r : Room k A) : A.units + 1 < cLine := by
  have := hu_of64 r
  omega
theorem at_eq {α : Type} {xs : List α} {z : Int} {n : Nat} {v : α} (e : z = (n : Int)) (h : xs[n]? = some v) : atI xs z = some v := by
  rw [e]
  exact atI_nat h
def sp_cell (K : PySem.W.Frag) : Sp := fun vs H Q _ => ∃ (a : Addr) (ns : List Int) (k : Nat), vs = [.ref a, .int (k : Int)] ∧ SqL K H a (ns.map V.int) ∧ Q (.int (ns.getD k 0)) H
theorem ok_law_cell (T : Top w K mg) : FnOk P w K mg base CX0 1 T.a_law_cell T.fd_law_cell ["script", "k"] (sp_cell K) := by
  refine T.F_law_cell.ok sc_law_cell (fun vs H Q E h => ?_) (fun cdv A outer s H vs Q E hr h => ?_)
  · obtain ⟨a, ns, k, rfl, _⟩ := h
    rfl
  · obtain ⟨a, ns, k, rfl, hS, q⟩ := h
    refine ⟨_, (pss_cons (ps_if (pt_cmpR op_lt (pv 1) (pe_callB call_len (by rfl) T.n_len bt_len (pa_cons (pv 0) pa_nil)) (nomark _))
      (pss_one (ps_ret (pe_callTy call_intX (by rfl) T.n_int bt_int (pa_cons (pe_ix ix_seq (pv 0) (pv 1) (fun _ _ => rfl)) pa_nil))))
      pss_nil)
      (pss_one (ps_ret pe_int))), ?_⟩
    refine ⟨_, rfl, _, rfl, _, ns.length, rfl, .inl ⟨_, hS, (List.length_map _).symm⟩, _, _, rfl, rfl, _, rfl, ite2 (fun hc => ?_) (fun hc => ?_)⟩
    · have hlt : k < ns.length := by simpa using hc
      rw [List.getD_eq_getElem?_getD, List.getElem?_eq_getElem hlt] at q
      have g : (ns.map V.int)[k]? = some (.int ns[k]) := by
        rw [List.getElem?_map, List.getElem?_eq_getElem hlt]
        rfl
      exact ⟨_, rfl, _, rfl, .inl ⟨a, _, _, _, rfl, rfl, hS, atI_nat g, .inl (.inl ⟨_, rfl, q⟩)⟩⟩
    · have hlt : ¬ k < ns.length := by simpa using hc
      rw [List.getD_eq_getElem?_getD, List.getElem?_eq_none (by omega)] at q
      exact q
abbrev vN (ns : List Nat) : List V := ns.map fun n : Nat => V.int (n : Int)
def sp_numbers : Sp := fun vs H Q _ => ∃ (c : Int) (many : Nat), vs = [.int c, .int (many : Int)] ∧ many ≤ 1000 ∧
  ∀ H' l ns, Same H H' → H l = none → H' l = some (.lst (vN ns)) → ns.length = many → Q (.ref l) H'
theorem vN_snoc (ns : List Nat) (n : Nat) : vN ns ++ [V.int (n : Int)] = vN (ns ++ [n]) := by simp [vN]
theorem ok_law_numbers (T : Top w K mg) : FnOk P w K mg base CX0 1 T.a_law_numbers T.fd_law_numbers ["cell", "many"] sp_numbers := by
  refine T.F_law_numbers.ok sc_law_numbers (fun vs H Q E h => ?_) (fun cdv A outer s H vs Q E hr h => ?_)
  · obtain ⟨c, many, rfl, _⟩ := h
    rfl
  · obtain ⟨c, many, rfl, hm, q⟩ := h
    refine ⟨_, (pss_cons (ps_set (i := 2) sc_law_numbers.nd rfl (.inl rfl) (by exact (pe_lst pa_nil)))
      (pss_cons (ps_set (i := 3) sc_law_numbers.nd rfl (.inl rfl) (by exact (pe_callB call_abs (by rfl) T.n_abs bt_abs (pa_cons (pv 0) pa_nil))))
      (pss_cons (ps_if (pt_cmpR op_ge (pv 3) pe_int (nomark _))
      (pss_cons (ps_for PassesOwn.never rfl (pi_range1 (by rfl) T.n_range (pa_cons (pv 1) pa_nil)) (pg_name (i := 4) sc_law_numbers.nd rfl (.inl rfl))
      (pss_cons (ps_expr (pe_bm PySem.F.plainAttrs_list PySem.F.slot_list_append PySem.F.type_list_append mt_append (pv 2) (pa_cons (pe_op op_mod (pe_callTy call_intX (by rfl) T.n_int bt_int (pa_cons (pv 3) pa_nil)) pe_int) pa_nil)))
      (pss_one (ps_set (i := 3) sc_law_numbers.nd rfl (.inl rfl) (by exact (pe_op op_fdiv (pv 3) pe_int))))))
      (pss_one (ps_ret (pv 2))))
      pss_nil)
      (pss_cons (ps_for PassesOwn.never rfl (pi_range1 (by rfl) T.n_range (pa_cons (pv 1) pa_nil)) (pg_name (i := 4) sc_law_numbers.nd rfl (.inl rfl))
      (pss_cons (ps_set (i := 3) sc_law_numbers.nd rfl (.inl rfl) (by exact (pe_op op_mod (pe_callTy call_intX (by rfl) T.n_int bt_int (pa_cons (pe_op op_plus (pe_op op_plus (pe_op op_timesX (pv 3) pe_int) (pe_op op_timesX (pv 4) pe_int)) pe_int) pa_nil)) pe_int)))
      (pss_one (ps_expr (pe_bm PySem.F.plainAttrs_list PySem.F.slot_list_append PySem.F.type_list_append mt_append (pv 2) (pa_cons (pe_op op_mod (pe_op op_mod (pe_callTy call_intX (by rfl) T.n_int bt_int (pa_cons (pe_op op_timesX (pv 3) pe_int) pa_nil)) pe_int) pe_int) pa_nil))))))
      (pss_one (ps_ret (pv 2))))))), ?_⟩
    refine ⟨Nat.zero_le _, fun l nl => ?_⟩
    refine ⟨_, rfl, _, rfl, ?_⟩
    have fin : ∀ H' ns, (∀ b o, H b = some o → H' b = some o) → H' l = some (.lst (vN ns)) → ns.length = many → Q (.ref l) H' := fun H' ns s h1 h2 => q H' l ns s nl h1 h2
    have s0 : Same H (upd H l (.lst [])) := same_upd nl
    have step : ∀ {H' : Hp} {o : HO}, Same H H' → Same H (upd H' l o) := fun {H' o} s b x e => by
      rw [upd_ne (ne_of_none e nl)]
      exact s b x e
    generalize (if c < 0 then -c else c) = r0
    refine ⟨_, rfl, _, _, rfl, rfl, _, rfl, ite2 (fun hc => ?_) (fun hc => ?_)⟩
    · refine ⟨_, rfl, _, rfl, by omega, by omega, ?_⟩
      rw [show ((many : Int)).toNat = many from Int.toNat_natCast _]
      refine for_range (lo := 0) (n := many) (fun i σ H' => ∃ (r : Int) (y : Option V) (ns : List Nat), σ = [some (.int c), some (.int (many : Int)), some (.ref l), some (.int r), y] ∧ Same H H' ∧ H' l = some (.lst (vN ns)) ∧ ns.length = i)
        ⟨r0, none, [], rfl, s0, upd_same, rfl⟩ ?_ ?_
      · rintro i σ H1 hi ⟨r, y, ns, rfl, s1, hl, hn⟩
        refine ⟨_, rfl, .inl ⟨rfl, _, SqL.of hl⟩, _, rfl, .inl (.inl ⟨_, rfl, _, _, rfl, rfl, (by show (0 : Int) < 1048576; decide), l, _, _, rfl, rfl, hl, len_ok (by simp; omega), ?_⟩)⟩
        refine ⟨_, rfl, _, _, rfl, rfl, ⟨by decide, by decide⟩, ?_⟩
        have e : r % 1048576 = (((r % 1048576).toNat : Nat) : Int) := by omega
        exact ⟨_, _, ns ++ [(r % 1048576).toNat], rfl, step s1, upd_same.trans (by rw [← vN_snoc, ← e]), by simp [hn]⟩
      · rintro σ H1 ⟨r, y, ns, rfl, s1, hl, hn⟩
        exact ⟨_, rfl, fin _ _ s1 hl hn⟩
    · refine ⟨_, rfl, _, rfl, by omega, by omega, ?_⟩
      rw [show ((many : Int)).toNat = many from Int.toNat_natCast _]
      refine for_range (lo := 0) (n := many) (fun i σ H' => ∃ (r : Int) (y : Option V) (ns : List Nat), σ = [some (.int c), some (.int (many : Int)), some (.ref l), some (.int r), y] ∧ Same H H' ∧ H' l = some (.lst (vN ns)) ∧ ns.length = i)
        ⟨r0, none, [], rfl, s0, upd_same, rfl⟩ ?_ ?_
      · rintro i σ H1 hi ⟨r, y, ns, rfl, s1, hl, hn⟩
        refine ⟨_, rfl, .inl ⟨_, _, rfl, rfl, .inr ⟨by decide, by decide⟩, _, rfl, .inl ⟨_, _, rfl, rfl, .inr ⟨by decide, by decide⟩, .inl ⟨_, _, rfl, rfl, .inl ⟨_, _, rfl, rfl, .inl (.inl ⟨_, rfl, _, _, rfl, rfl, (by show (0 : Int) < 2147483647; decide), ?_⟩)⟩⟩⟩⟩⟩
        generalize hr2 : (r * 48271 + (0 + (i : Int)) * 7919 + 11) % 2147483647 = r2
        refine ⟨_, rfl, .inl ⟨rfl, _, SqL.of hl⟩, _, rfl, .inl ⟨_, _, rfl, rfl, .inr ⟨by decide, by decide⟩, .inl (.inl ⟨_, rfl, _, _, rfl, rfl, (by show (0 : Int) < 2147483629; decide), _, _, rfl, rfl, (by show (0 : Int) < 1048576; decide), l, _, _, rfl, rfl, hl, len_ok (by simp; omega), ?_⟩)⟩⟩
        generalize hz : ((r * 48271 + (0 + (i : Int)) * 7919 + 11) % 2147483647 * 69621 % 2147483629 % 1048576) = z
        have e : z = ((z.toNat : Nat) : Int) := by omega
        exact ⟨_, _, ns ++ [z.toNat], rfl, step s1, upd_same.trans (by rw [← vN_snoc, ← e, ← hz]), by simp [hn]⟩
      · rintro σ H1 ⟨r, y, ns, rfl, s1, hl, hn⟩
        exact ⟨_, rfl, fin _ _ s1 hl hn⟩
end
end Tk

namespace Tk
open PySem PySem.Spec PyProof.Rows L2 Ly Lx TL Px Lw
section
variable {P : Program} {w : World} {K : PySem.W.Frag} {mg : Str → Option Value} {base : Heap}
theorem sql_go {fa : Addr} {H H' : Hp} {kvs : List (Key × V)} (g : Go fa H H') (hf : H fa = some (.dK kvs)) {a : Addr} {xs : List V} (h : SqL K H a xs) : SqL K H' a xs := by
  rcases h with (h | ⟨o, h⟩) | h
  · exact .inl (.inl (g.1 _ _ (ne_of h hf (by intro z; cases z)) h))
  · exact .inl (.inr ⟨o, g.1 _ _ (ne_of h hf (by intro z; cases z)) h⟩)
  · exact .inr h
theorem sqt_goD {fa : Addr} {H H' : Hp} {kvs : List (Key × V)} (g : Go fa H H') (hf : H fa = some (.dK kvs)) (a : Addr) (xs : List V) (h : SqT K H a xs) : SqT K H' a xs := by
  rcases h with (h | ⟨o, h⟩) | h
  · exact .inl (.inl (g.1 _ _ (ne_of h hf (by intro z; cases z)) h))
  · exact .inl (.inr ⟨o, g.1 _ _ (ne_of h hf (by intro z; cases z)) h⟩)
  · exact .inr h
abbrev fdD (k : Nat) (la : Addr) : HO := .dK [(.inr "at", .int (k : Int)), (.inr "numbers", .ref la), (.inr "fresh", .int 0)]
/-- the feed: its dict, its list -/
structure Fe where
  f : Addr
  l : Addr
  ns : List Nat
  pos : 0 < ns.length
  le : ns.length ≤ 1000
/-- k numbers have been taken -/
def Fe.at_ (F : Fe) (H : Hp) (k : Nat) : Prop := H F.f = some (fdD k F.l) ∧ H F.l = some (.lst (vN F.ns)) ∧ k ≤ 100000
section
variable {F : Fe} {H H' : Hp} {k : Nat}
theorem Fe.at_.same (h : F.at_ H k) (s : Same H H') : F.at_ H' k := ⟨s _ _ h.1, s _ _ h.2.1, h.2.2⟩
theorem Fe.at_.ne (h : F.at_ H k) {D : Addr} {xs : List V} (hD : H D = some (.lst xs)) : D ≠ F.f := ne_of hD h.1 (by intro z; cases z)
theorem Fe.at_.put (h : F.at_ H k) {D : Addr} {xs : List V} {o : HO} (hD : H D = some (.lst xs)) (hl : D ≠ F.l) : F.at_ (upd H D o) k :=
  ⟨by rw [upd_ne (h.ne hD).symm]; exact h.1, by rw [upd_ne hl.symm]; exact h.2.1, h.2.2⟩
theorem Fe.at_.new (h : F.at_ H k) {p : Addr} {o : HO} (n : H p = none) : F.at_ (upd H p o) k := h.same (same_upd n)
theorem Fe.at_.dp (h : F.at_ H k) {K : PySem.W.Frag} (g : Go F.f H H') {d : PyData} {v : V} (n : noL d = true) (hd : Dp K H v d) : Dp K H' v d := dp_keep (sqt_goD g h.1) _ _ n hd
theorem Fe.at_.dps (h : F.at_ H k) {K : PySem.W.Frag} (g : Go F.f H H') {ds : List PyData} {vs : List V} (n : noLs ds = true) (hd : DpAll K H vs ds) : DpAll K H' vs ds := dps_keep (sqt_goD g h.1) _ _ n hd
theorem sqt_put {K : PySem.W.Frag} {D : Addr} {xs : List V} {o : HO} (hD : H D = some (.lst xs)) (a : Addr) (ys : List V) (h : SqT K H a ys) : SqT K (upd H D o) a ys := by
  rcases h with (h | ⟨u, h⟩) | h
  · exact .inl (.inl (by rw [upd_ne (ne_of h hD (by intro z; cases z))]; exact h))
  · exact .inl (.inr ⟨u, by rw [upd_ne (ne_of h hD (by intro z; cases z))]; exact h⟩)
  · exact .inr h
/-- a list that is newer than H0 changes -/
theorem go_put {H0 : Hp} {r D : Addr} {o : HO} (g : Go r H0 H) (n : H0 D = none) (hr : H r ≠ none → D ≠ r) : Go r H0 (upd H D o) := ⟨fun b x hb e => by
    rw [upd_ne (ne_of_none e n)]
    exact g.1 b x hb e, fun e => by
    have := g.2 e
    by_cases h : r = D
    · subst h
      rw [upd_same]
      simp
    · rw [upd_ne h]
      exact this⟩
end
def sp_feed (K : PySem.W.Frag) : Sp := fun vs H Q _ => ∃ (c : Int) (many : Nat), vs = [.int c, .int (many : Int)] ∧ 0 < many ∧ many ≤ 1000 ∧
  ∀ H' (F : Fe), Same H H' → H F.f = none → H F.l = none → F.at_ H' 0 → Q (.ref F.f) H'
abbrev fdL (a b c : V) : List (Key × V) := [(.inr "at", a), (.inr "numbers", b), (.inr "fresh", c)]
theorem mg3 (a b c : V) : mergeK [] (fdL a b c) = fdL a b c := by
  have h1 : ¬ (Sum.inr ("at" : Str) : Key) = .inr "numbers" := by decide
  have h2 : ¬ (Sum.inr ("at" : Str) : Key) = .inr "fresh" := by decide
  have h3 : ¬ (Sum.inr ("numbers" : Str) : Key) = .inr "fresh" := by decide
  simp [mergeK, putK, h1, h2, h3]
theorem ok_law_feed (T : Top w K mg) : FnOk P w K mg base CX0 2 T.a_law_feed T.fd_law_feed ["cell", "many"] (sp_feed K) := by
  refine T.F_law_feed.ok sc_law_feed (fun vs H Q E h => ?_) (fun cdv A outer s H vs Q E hr h => ?_)
  · obtain ⟨c, many, rfl, _⟩ := h
    rfl
  · obtain ⟨c, many, rfl, h0, hm, q⟩ := h
    refine ⟨_, (pss_one (ps_ret (pe_disp (pps_cons pe_str pe_int (pps_cons pe_str (pe_call (ok_law_numbers T) (hr.mono (by first | decide | omega)) (by rfl) T.m_law_numbers T.F_law_numbers.kp T.b_law_numbers .nil pass0 (pa_cons (pv 0) (pa_cons (pv 1) pa_nil))) (pps_cons pe_str pe_int pps_nil))) rfl rfl (by simp) (by decide)))), ?_⟩
    intro p np
    refine ⟨_, rfl, _, rfl, c, many, rfl, hm, fun H' l ns s nl hl hn => ?_⟩
    have hp := s _ _ (upd_same (H := H) (a := p) (o := .dK []))
    refine ⟨hp, fdL (.int 0) (.ref l) (.int 0), rfl, by show 3 ≤ 15; decide, ?_⟩
    have hlp : l ≠ p := fun e => by
      subst e
      rw [upd_same] at nl
      cases nl
    rw [mg3]
    have nl0 : H l = none := by
      rw [upd_ne hlp] at nl
      exact nl
    refine q _ ⟨p, l, ns, by omega, by omega⟩ (fun b o e => ?_) np nl0 ⟨upd_same, by rw [upd_ne hlp]; exact hl, by omega⟩
    have hb : b ≠ p := ne_of_none e np
    rw [upd_ne hb]
    exact s b o (by rw [upd_ne hb]; exact e)
def sp_take : Sp := fun vs H Q _ => ∃ (F : Fe) (k limit : Nat), vs = [.ref F.f, .int (limit : Int)] ∧ 0 < limit ∧ F.at_ H k ∧ k < 100000 ∧
  ∀ H' (v : Nat), v < limit → Go F.f H H' → F.at_ H' (k + 1) → Q (.int (v : Int)) H'
theorem fd_put (a b c v : V) : putK (fdL a b c) (Sum.inr "at") v = fdL v b c := by
  have h1 : ¬ (Sum.inr ("numbers" : Str) : Key) = .inr "at" := by decide
  have h2 : ¬ (Sum.inr ("fresh" : Str) : Key) = .inr "at" := by decide
  simp [putK, h1, h2]
theorem ok_law_take (T : Top w K mg) : FnOk P w K mg base CX0 1 T.a_law_take T.fd_law_take ["feed", "limit"] sp_take := by
  refine T.F_law_take.ok sc_law_take (fun vs H Q E h => ?_) (fun cdv A outer s H vs Q E hr h => ?_)
  · obtain ⟨F, k, limit, rfl, _⟩ := h
    rfl
  · obtain ⟨⟨fa, la, ns, hn0, hn1⟩, k, limit, rfl, hl, ⟨hf, hns, hk⟩, hk2, q⟩ := h
    dsimp only at hf hns q
    refine ⟨_, (pss_cons (ps_set (i := 2) sc_law_take.nd rfl (.inl rfl) (by exact (pe_dget (hu_of1 hr) (pv 0) pe_str (fun _ _ => rfl))))
      (pss_cons (ps_set (i := 3) sc_law_take.nd rfl (.inl rfl) (by exact (pe_dget (hu_of1 hr) (pv 0) pe_str (fun _ _ => rfl))))
      (pss_cons (ps_dput (hu_of1 hr) (pv 0) pe_str (pe_op op_plus (pv 3) pe_int) rfl)
      (pss_one (ps_ret (pe_op op_mod (pe_callTy call_intX (by rfl) T.n_int bt_int (pa_cons (pe_op op_fdiv (pe_ix ix_seq (pv 2) (pe_op op_mod (pv 3) (pe_callB call_len (by rfl) T.n_len bt_len (pa_cons (pv 2) pa_nil))) (fun _ _ => rfl)) (pe_op op_plus pe_int (pe_op op_timesX (pe_op op_fdiv (pv 3) (pe_callB call_len (by rfl) T.n_len bt_len (pa_cons (pv 2) pa_nil))) pe_int))) pa_nil)) (pv 1))))))), ?_⟩
    refine ⟨_, rfl, fa, .ref la, rfl, DGet.k (k := .inr "numbers") hf, ?_⟩
    refine ⟨_, rfl, fa, .int (k : Int), rfl, DGet.k (k := .inr "at") hf, ?_⟩
    refine ⟨_, rfl, .inl ⟨_, _, rfl, rfl, _, rfl, fa, _, rfl, DPut.k (k := .inr "at") hf (by show 3 < sizeLine; decide), ?_⟩⟩
    rw [fd_put]
    generalize hH2 : upd H fa (.dK (fdL (.int ((k : Int) + 1)) (.ref la) (.int 0))) = H2
    have g : Go fa H H2 := by subst hH2; exact go_upd
    have hf2 : H2 fa = some (fdD (k + 1) la) := by subst hH2; exact upd_same
    have hl2 : H2 la = some (.lst (vN ns)) := g.1 _ _ (ne_of hns hf (by intro z; cases z)) hns
    have hns2 : SqL K H2 la (vN ns) := SqL.of hl2
    have hm : k % ns.length < ns.length := Nat.mod_lt _ hn0
    have hg : (vN ns)[k % ns.length]? = some (.int ((ns[k % ns.length] : Nat) : Int)) := by
      show (ns.map _)[k % ns.length]? = _
      rw [List.getElem?_map, List.getElem?_eq_getElem hm]
      rfl
    have hdv : (k : Int) / (ns.length : Int) = ((k / ns.length : Nat) : Int) := rfl
    have hdl : k / ns.length ≤ k := Nat.div_le_self _ _
    have hlen : (vN ns).length = ns.length := by simp [vN]
    refine ⟨_, rfl, _, rfl, _, rfl, _, ns.length, rfl, .inl ⟨_, hns2, hlen.symm⟩, _, _, rfl, rfl, (by show (0 : Int) < (ns.length : Int); omega), .inl ⟨la, _, _, _, rfl, rfl, hns2, at_eq (n := k % ns.length) rfl hg, ?_⟩⟩
    refine ⟨_, rfl, _, rfl, _, ns.length, rfl, .inl ⟨_, hns2, hlen.symm⟩, _, _, rfl, rfl, ⟨by show (0 : Int) < (ns.length : Int); omega, by show (ns.length : Int) < 1073741824; omega⟩, .inl ⟨_, _, rfl, rfl, .inr ⟨by decide, by decide⟩, .inl ⟨_, _, rfl, rfl, ?_⟩⟩⟩
    rw [hdv]
    generalize k / ns.length = dd at *
    refine ⟨_, _, rfl, rfl, ⟨by omega, by omega⟩, .inl (.inl ⟨_, rfl, _, rfl, _, _, rfl, rfl, (by show (0 : Int) < (limit : Int); omega), ?_⟩)⟩
    have hv : ((ns[k % ns.length] : Nat) : Int) / (1 + ((dd : Nat) : Int) * 7) % (limit : Int) = ((ns[k % ns.length] / (1 + dd * 7) % limit : Nat) : Int) := by
      simp
    show Q (.int (((ns[k % ns.length] : Nat) : Int) / (1 + ((dd : Nat) : Int) * 7) % (limit : Int))) H2
    rw [hv]
    exact q H2 _ (Nat.mod_lt _ hl) g ⟨hf2, hl2, by show k + 1 ≤ 100000; omega⟩
end
end Tk

namespace Tk
open PySem PySem.Spec PyProof.Rows L2 Ly Lx TL Px Lw
theorem menuS {l : List Str} {v : Nat} (h : v < l.length) : atI (l.map V.str) (v : Int) = some (.str (l.getD v "")) := by
  refine atI_nat ?_
  rw [List.getElem?_map, List.getD_eq_getElem?_getD, List.getElem?_eq_getElem h]
  rfl
theorem menuI {l : List Int} {v : Nat} (h : v < l.length) : atI (l.map V.int) (v : Int) = some (.int (l.getD v 0)) := by
  refine atI_nat ?_
  rw [List.getElem?_map, List.getD_eq_getElem?_getD, List.getElem?_eq_getElem h]
  rfl
theorem getD_mem {α : Type} {l : List α} {v : Nat} {d : α} (h : v < l.length) : l.getD v d ∈ l := by
  rw [List.getD_eq_getElem?_getD, List.getElem?_eq_getElem h]
  exact List.getElem_mem h
section
variable {P : Program} {w : World} {K : PySem.W.Frag} {mg : Str → Option Value} {base : Heap}
def sp_brackets (K : PySem.W.Frag) : Sp := fun vs H Q _ => ∃ (F : Fe) (k : Nat), vs = [.ref F.f] ∧ F.at_ H k ∧ k + 5 < 100000 ∧
  ∀ H' v (u : Un) k', UnD u → Go F.f H H' → F.at_ H' k' → k' ≤ k + 5 → Dp K H' v (unD0 u) → Q v H'
theorem scx_law_brackets : FnScope ["feed", "k"] ["feed"] (defScope s_law_brackets) := ⟨rfl, rfl, rfl, by decide +kernel, rfl, by decide +kernel, by decide +kernel⟩
theorem ok_law_brackets (T : Top w K mg) : FnOk P w K mg base CX0 2 T.a_law_brackets T.fd_law_brackets ["feed"] (sp_brackets K) := by
  refine T.F_law_brackets.ok scx_law_brackets (fun vs H Q E h => ?_) (fun cdv A outer s H vs Q E hr h => ?_)
  · obtain ⟨F, k, rfl, _⟩ := h
    rfl
  · obtain ⟨F, k, rfl, ha, hk, q⟩ := h
    refine ⟨_, (pss_one (ps_ret (pe_callTy call_tuple_of (by rfl) T.n_tuple bt_tuple (pa_cons (pe_lc (own := [("k", 1)]) (g := gName 1) (tt := tYes) (by rfl) scx_law_brackets.nd (pi_range1 (by rfl) T.n_range (pa_cons (pe_call (ok_law_take T) (hr.mono (by first | decide | omega)) (by rfl) T.m_law_take T.F_law_take.kp T.b_law_take .nil pass0 (pa_cons (pv 0) (pa_cons pe_int pa_nil))) pa_nil)) (blkOk_by (own := [("k", 1)]) (N := ["feed", "k"]) (sc := defScope s_law_brackets) (by decide +kernel))
      (fun _ _ _ _ _ => pg_name (i := 1) scx_law_brackets.nd rfl (Or.inl rfl)) (fun _ _ _ _ _ => pts_nil) (fun _ _ _ _ _ => (pe_tup (pa_cons (pe_ix (show IxR _ (rIx K) from ix_seq) (pe_lst (pa_cons pe_str (pa_cons pe_str (pa_cons pe_str pa_nil)))) (pe_call (ok_law_take T) (hr.mono (by first | decide | omega)) (by rfl) T.m_law_take T.F_law_take.kp T.b_law_take .nil pass0 (pa_cons (pv 0) (pa_cons pe_int pa_nil))) (fun _ _ => rfl)) (pa_cons (pe_ix (show IxR _ (rIx K) from ix_seq) (pe_lst (pa_cons pe_int (pa_cons pe_int (pa_cons (pe_op op_sub pe_int pe_int) (pa_cons pe_int (pa_cons pe_int (pa_cons (pe_op op_sub pe_int pe_int) pa_nil))))))) (pe_call (ok_law_take T) (hr.mono (by first | decide | omega)) (by rfl) T.m_law_take T.F_law_take.kp T.b_law_take .nil pass0 (pa_cons (pv 0) (pa_cons pe_int pa_nil))) (fun _ _ => rfl)) (pa_cons pe_int pa_nil)))))) pa_nil)))), ?_⟩
    refine ⟨_, rfl, F, k, 3, rfl, by decide, ha, by omega, fun H1 n hn g1 ha1 => ?_⟩
    refine ⟨_, rfl, by omega, by omega, fun D nD => ?_⟩
    rw [show ((n : Int)).toNat = n from Int.toNat_natCast _]
    have hDl : D ≠ F.l := fun e => by
      subst e
      rw [ha1.2.1] at nD
      cases nD
    have gD : Go F.f H1 (upd H1 D (.lst [])) := go_new nD
    refine lc_range (lo := 0) (n := n) (fun i H' => ∃ acc u k', H' D = some (.lst acc) ∧ DpAll K H' acc (u.map unI0) ∧ u.length = i ∧ (∀ x ∈ u, x.1 ∈ uNames ∧ x.2 ∈ uPows) ∧ Go F.f H1 H' ∧ F.at_ H' k' ∧ k' ≤ k + 1 + 2 * i)
      ⟨[], [], k + 1, upd_same, .nil, rfl, fun x h => by simp at h, gD, ha1.new nD, by omega⟩ (fun i H' hi hP => ?_) (fun H' hP => ?_)
    · obtain ⟨acc, u, k', hD, hacc, hu, hok, g', ha', hk'⟩ := hP
      refine ⟨rfl, ?_⟩
      refine ⟨by show 3 ≤ sizeLine; decide, fun l1 n1 => ?_⟩
      have a1 := ha'.new (o := .lst [.str "m", .str "kg", .str "u2"]) n1
      refine ⟨_, rfl, F, k', 3, rfl, by decide, a1, by omega, fun H2 v2 hv2 g2 a2 => ?_⟩
      have hl1 : H2 l1 = some (.lst (uNames.map V.str)) := g2.1 _ _ (a1.ne upd_same) upd_same
      refine .inl ⟨l1, _, _, _, rfl, rfl, SqL.of hl1, menuS hv2, ?_⟩
      refine ⟨_, _, rfl, rfl, _, _, rfl, rfl, by show 6 ≤ sizeLine; decide, fun l2 n2 => ?_⟩
      have a3 := a2.new (o := .lst [.int 1, .int 2, .int (0 - 1), .int 0, .int 9, .int (0 - 9)]) n2
      refine ⟨_, rfl, F, _, 6, rfl, by decide, a3, by omega, fun H3 v3 hv3 g3 a4 => ?_⟩
      have hl2 : H3 l2 = some (.lst (uPows.map V.int)) := g3.1 _ _ (a3.ne upd_same) upd_same
      refine .inl ⟨l2, _, _, _, rfl, rfl, SqL.of hl2, menuI hv3, ?_⟩
      refine ⟨by show 3 ≤ sizeLine; decide, fun t nt => ?_⟩
      have gA : Go F.f H' H3 := ((go_new n1).trans g2).trans ((go_new n2).trans g3)
      have hD3 : H3 D = some (.lst acc) := gA.1 _ _ (ha'.ne hD) hD
      generalize hx : ((uNames.getD v2 "", uPows.getD v3 0) : Str × Int) = x
      have hxo : x.1 ∈ uNames ∧ x.2 ∈ uPows := by
        subst hx
        exact ⟨getD_mem hv2, getD_mem hv3⟩
      have a5 := a4.new (o := .tup [.str (uNames.getD v2 ""), .int (uPows.getD v3 0), .int 0]) nt
      have hD4 := same_upd (o := .tup [.str (uNames.getD v2 ""), .int (uPows.getD v3 0), .int 0]) nt _ _ hD3
      generalize hH4 : upd H3 t (.tup [.str (uNames.getD v2 ""), .int (uPows.getD v3 0), .int 0]) = H4 at a5 hD4
      have gB : Go F.f H' H4 := gA.trans (by rw [← hH4]; exact go_new nt)
      have hacl : acc.length ≤ 2 := by rw [dps_len hacc, List.length_map, hu]; omega
      have hd4 : Dp K H4 (.ref t) (unI0 x) := by
        subst hx
        exact .tup (SqT.of (by rw [← hH4]; exact upd_same)) (.cons (.str _) (.cons (.int _) (.cons (.int _) .nil)))
      refine ⟨acc, hD4, len_ok (by omega), _, u ++ [x], _, upd_same, ?_, by simp [hu], fun y hy => ?_, go_put (g'.trans gB) nD fun _ => a5.ne hD4, a5.put hD4 hDl, by omega⟩
      · rw [List.map_append]
        exact dps_append (dps_keep (sqt_put hD4) _ _ (unI0_no u) (ha'.dps gB (unI0_no u) hacc)) (.cons (dp_keep (sqt_put hD4) _ _ rfl hd4) .nil)
      · rcases List.mem_append.mp hy with h | h
        · exact hok y h
        · have : y = x := by simpa using h
          subst this
          exact hxo
    · obtain ⟨acc, u, k', hD, hacc, hu, hok, g', ha', hk'⟩ := hP
      refine ⟨_, _, rfl, .inl ⟨SqL.of hD, fun t nt => ?_⟩⟩
      have sm := same_upd (o := .tup acc) nt
      exact q _ _ u k' ⟨by omega, hok⟩ ((g1.trans g').trans (go_new nt)) (ha'.same sm) (by omega) (.tup (SqT.of upd_same) (dps_keep (sqt_same sm) _ _ (unI0_no u) hacc))
end
end Tk

namespace Tk
open PySem PySem.Spec PyProof.Rows L2 Ly Lx TL Px Lw
section
variable {P : Program} {w : World} {K : PySem.W.Frag} {mg : Str → Option Value} {base : Heap}
def sp_drawn (K : PySem.W.Frag) (d : Nat) : Sp := fun vs H Q _ => ∃ (F : Fe) (k : Nat) (z : Int), vs = [.ref F.f, .int z] ∧ z = (d : Int) ∧ F.at_ H k ∧ k + cst d < 100000 ∧
  ∀ H' v e k', DrE d e → Go F.f H H' → F.at_ H' k' → k' ≤ k + cst d → Dp K H' v (tr0 e) → Q v H'
def sp_dsub (K : PySem.W.Frag) (d : Nat) : Sp := fun vs H Q E => ∃ d', d = d' + 1 ∧ sp_drawn K d' vs H Q E
theorem scx_law_drawn : FnScope ["feed", "depth", "pick", "name", "units", "number", "head", "k"] ["feed", "depth"] (defScope s_law_drawn) := ⟨rfl, rfl, rfl, by decide +kernel, rfl, by decide +kernel, by decide +kernel⟩
theorem cst_pos : ∀ d, 9 ≤ cst d
  | 0 => Nat.le_refl _
  | d + 1 => by
    show 9 ≤ 3 * cst d + 9
    omega
theorem drawn_step (T : Top w K mg) {d k : Nat} (hk : 2 ≤ k) (hR : FnOk P w K mg base CX0 k T.a_law_drawn T.fd_law_drawn ["feed", "depth"] (sp_dsub K d)) :
    FnOk P w K mg base CX0 (k + 1) T.a_law_drawn T.fd_law_drawn ["feed", "depth"] (sp_drawn K d) := by
  refine T.F_law_drawn.ok scx_law_drawn (fun vs H Q E h => ?_) (fun cdv A outer s H vs Q E hr h => ?_)
  · obtain ⟨F, k, z, rfl, _⟩ := h
    rfl
  · obtain ⟨F, n0, z, rfl, hz, a0, hn0, q⟩ := h
    have hc9 := cst_pos d
    refine ⟨_, (pss_cons (ps_set (i := 2) scx_law_drawn.nd rfl (.inl rfl) (by exact (pe_call (ok_law_take T) (hr.mono (by first | decide | omega)) (by rfl) T.m_law_take T.F_law_take.kp T.b_law_take .nil pass0 (pa_cons (pv 0) (pa_cons pe_int pa_nil)))))
      (pss_cons (ps_set (i := 3) scx_law_drawn.nd rfl (.inl rfl) (by exact (pe_ix ix_seq (pe_lst (pa_cons pe_str (pa_cons pe_str (pa_cons pe_str pa_nil)))) (pe_call (ok_law_take T) (hr.mono (by first | decide | omega)) (by rfl) T.m_law_take T.F_law_take.kp T.b_law_take .nil pass0 (pa_cons (pv 0) (pa_cons pe_int pa_nil))) (fun _ _ => rfl))))
      (pss_cons (ps_if (PW.pt (pw_or (pt_cmpR op_eq (pv 1) pe_int (nomark _)) (pw_or1 (pt_cmpR op_lt (pv 2) pe_int (nomark _)))))
      (pss_cons (ps_set (i := 4) scx_law_drawn.nd rfl (.inl rfl) (by exact (pe_call (ok_law_brackets T) (hr.mono (by first | decide | omega)) (by rfl) T.m_law_brackets T.F_law_brackets.kp T.b_law_brackets .nil pass0 (pa_cons (pv 0) pa_nil))))
      (pss_cons (ps_set (i := 5) scx_law_drawn.nd rfl (.inl rfl) (by exact (pe_ix ix_seq (pe_lst (pa_cons (pe_tup (pa_cons pe_int (pa_cons pe_int pa_nil))) (pa_cons (pe_tup (pa_cons pe_int (pa_cons pe_int pa_nil))) (pa_cons (pe_tup (pa_cons pe_int (pa_cons pe_int pa_nil))) (pa_cons (pe_tup (pa_cons pe_int (pa_cons pe_int pa_nil))) (pa_cons (pe_tup (pa_cons pe_int (pa_cons pe_int pa_nil))) pa_nil)))))) (pe_call (ok_law_take T) (hr.mono (by first | decide | omega)) (by rfl) T.m_law_take T.F_law_take.kp T.b_law_take .nil pass0 (pa_cons (pv 0) (pa_cons pe_int pa_nil))) (fun _ _ => rfl))))
      (pss_one (ps_ret (pe_ix ix_seq (pe_lst (pa_cons (pe_tup (pa_cons pe_str (pa_cons (pv 5) (pa_cons (pv 4) (pa_cons pe_int pa_nil))))) (pa_cons (pe_tup (pa_cons pe_str (pa_cons pe_bl pa_nil))) (pa_cons (pe_tup (pa_cons pe_str (pa_cons pe_bl pa_nil))) (pa_cons (pe_tup (pa_cons pe_str (pa_cons (pv 3) (pa_cons pe_int pa_nil)))) pa_nil))))) (pe_call (ok_law_take T) (hr.mono (by first | decide | omega)) (by rfl) T.m_law_take T.F_law_take.kp T.b_law_take .nil pass0 (pa_cons (pv 0) (pa_cons pe_int pa_nil))) (fun _ _ => rfl))))))
      pss_nil)
      (pss_cons (ps_if (pt_cmpR op_eq (pv 2) pe_int (nomark _))
      (pss_one (ps_ret (pe_tup (pa_cons pe_str (pa_cons (pv 3) (pa_cons (pe_callTy call_tuple_of (by rfl) T.n_tuple bt_tuple (pa_cons (pe_lc (own := [("k", 7)]) (g := gName 7) (tt := tYes) (by rfl) scx_law_drawn.nd (pi_range1 (by rfl) T.n_range (pa_cons (pe_call (ok_law_take T) (hr.mono (by first | decide | omega)) (by rfl) T.m_law_take T.F_law_take.kp T.b_law_take .nil pass0 (pa_cons (pv 0) (pa_cons pe_int pa_nil))) pa_nil)) (blkOk_by (own := [("k", 7)]) (N := ["feed", "depth", "pick", "name", "units", "number", "head", "k"]) (sc := defScope s_law_drawn) (by decide +kernel))
      (fun _ _ _ _ _ => pg_name (i := 7) scx_law_drawn.nd rfl (Or.inl rfl)) (fun _ _ _ _ _ => pts_nil) (fun _ _ _ _ _ => (pe_call hR (hr.mono (by first | decide | omega)) (by rfl) T.m_law_drawn T.F_law_drawn.kp T.b_law_drawn .nil pass0 (pa_cons (pv 0) (pa_cons (pe_op op_sub (pv 1) pe_int) pa_nil))))) pa_nil)) (pa_cons pe_int pa_nil)))))))
      pss_nil)
      (pss_cons (ps_if (pt_cmpR op_eq (pv 2) pe_int (nomark _))
      (pss_one (ps_ret (pe_tup (pa_cons pe_str (pa_cons (pv 3) (pa_cons (pe_call (ok_law_take T) (hr.mono (by first | decide | omega)) (by rfl) T.m_law_take T.F_law_take.kp T.b_law_take .nil pass0 (pa_cons (pv 0) (pa_cons pe_int pa_nil))) (pa_cons (pe_call hR (hr.mono (by first | decide | omega)) (by rfl) T.m_law_drawn T.F_law_drawn.kp T.b_law_drawn .nil pass0 (pa_cons (pv 0) (pa_cons (pe_op op_sub (pv 1) pe_int) pa_nil))) (pa_cons pe_int pa_nil))))))))
      pss_nil)
      (pss_cons (ps_if (pt_cmpR op_eq (pv 2) pe_int (nomark _))
      (pss_one (ps_ret (pe_tup (pa_cons pe_str (pa_cons (pe_call hR (hr.mono (by first | decide | omega)) (by rfl) T.m_law_drawn T.F_law_drawn.kp T.b_law_drawn .nil pass0 (pa_cons (pv 0) (pa_cons (pe_op op_sub (pv 1) pe_int) pa_nil))) (pa_cons (pe_op op_sub (pe_call (ok_law_take T) (hr.mono (by first | decide | omega)) (by rfl) T.m_law_take T.F_law_take.kp T.b_law_take .nil pass0 (pa_cons (pv 0) (pa_cons pe_int pa_nil))) pe_int) (pa_cons pe_int pa_nil)))))))
      pss_nil)
      (pss_cons (ps_if (pt_cmpR op_eq (pv 2) pe_int (nomark _))
      (pss_one (ps_ret (pe_tup (pa_cons pe_str (pa_cons (pe_call hR (hr.mono (by first | decide | omega)) (by rfl) T.m_law_drawn T.F_law_drawn.kp T.b_law_drawn .nil pass0 (pa_cons (pv 0) (pa_cons (pe_op op_sub (pv 1) pe_int) pa_nil))) (pa_cons pe_int pa_nil))))))
      pss_nil)
      (pss_cons (ps_if (pt_cmpR op_eq (pv 2) pe_int (nomark _))
      (pss_one (ps_ret (pe_tup (pa_cons pe_str (pa_cons (pe_call hR (hr.mono (by first | decide | omega)) (by rfl) T.m_law_drawn T.F_law_drawn.kp T.b_law_drawn .nil pass0 (pa_cons (pv 0) (pa_cons (pe_op op_sub (pv 1) pe_int) pa_nil))) (pa_cons (pe_call hR (hr.mono (by first | decide | omega)) (by rfl) T.m_law_drawn T.F_law_drawn.kp T.b_law_drawn .nil pass0 (pa_cons (pv 0) (pa_cons (pe_op op_sub (pv 1) pe_int) pa_nil))) (pa_cons (pe_call hR (hr.mono (by first | decide | omega)) (by rfl) T.m_law_drawn T.F_law_drawn.kp T.b_law_drawn .nil pass0 (pa_cons (pv 0) (pa_cons (pe_op op_sub (pv 1) pe_int) pa_nil))) (pa_cons pe_int pa_nil))))))))
      pss_nil)
      (pss_cons (ps_if (pt_cmpR op_eq (pv 2) pe_int (nomark _))
      (pss_one (ps_ret (pe_tup (pa_cons pe_str (pa_cons (pv 3) (pa_cons (pe_call hR (hr.mono (by first | decide | omega)) (by rfl) T.m_law_drawn T.F_law_drawn.kp T.b_law_drawn .nil pass0 (pa_cons (pv 0) (pa_cons (pe_op op_sub (pv 1) pe_int) pa_nil))) (pa_cons (pe_call hR (hr.mono (by first | decide | omega)) (by rfl) T.m_law_drawn T.F_law_drawn.kp T.b_law_drawn .nil pass0 (pa_cons (pv 0) (pa_cons (pe_op op_sub (pv 1) pe_int) pa_nil))) (pa_cons pe_int pa_nil))))))))
      pss_nil)
      (pss_cons (ps_set (i := 6) scx_law_drawn.nd rfl (.inl rfl) (by exact (pe_ix ix_seq (pe_lst (pa_cons pe_str (pa_cons pe_str (pa_cons pe_str (pa_cons pe_str (pa_cons pe_str (pa_cons pe_str (pa_cons pe_str (pa_cons pe_str (pa_cons pe_str pa_nil)))))))))) (pe_call (ok_law_take T) (hr.mono (by first | decide | omega)) (by rfl) T.m_law_take T.F_law_take.kp T.b_law_take .nil pass0 (pa_cons (pv 0) (pa_cons pe_int pa_nil))) (fun _ _ => rfl))))
      (pss_one (ps_ret (pe_tup (pa_cons (pv 6) (pa_cons (pe_call hR (hr.mono (by first | decide | omega)) (by rfl) T.m_law_drawn T.F_law_drawn.kp T.b_law_drawn .nil pass0 (pa_cons (pv 0) (pa_cons (pe_op op_sub (pv 1) pe_int) pa_nil))) (pa_cons (pe_call hR (hr.mono (by first | decide | omega)) (by rfl) T.m_law_drawn T.F_law_drawn.kp T.b_law_drawn .nil pass0 (pa_cons (pv 0) (pa_cons (pe_op op_sub (pv 1) pe_int) pa_nil))) (pa_cons pe_int pa_nil))))))))))))))))), ?_⟩
    refine ⟨_, rfl, F, n0, 16, rfl, by decide, a0, by omega, fun H1 pk hpk g1 a1 => ?_⟩
    refine ⟨by show 3 ≤ sizeLine; decide, fun l1 m1 => ?_⟩
    have b1 := a1.new (o := .lst [.str "x", .str "y_1", .str "Q"]) m1
    refine ⟨_, rfl, F, _, 3, rfl, by decide, b1, by omega, fun H2 v2 hv2 g2 a2 => ?_⟩
    have hl1 : H2 l1 = some (.lst (dNames.map V.str)) := g2.1 _ _ (b1.ne upd_same) upd_same
    refine .inl ⟨l1, _, _, _, rfl, rfl, SqL.of hl1, menuS hv2, ?_⟩
    have hnm : dNames.getD v2 "" ∈ dNames := getD_mem hv2
    generalize dNames.getD v2 "" = nm at hnm
    have g02 : Go F.f H H2 := (g1.trans (go_new m1)).trans g2
    clear hl1 b1
    refine ⟨_, rfl, rfl, ?_⟩
    rw [dec_int]
    refine ⟨_, rfl, ite2 (fun hc => iteT ?_) (fun hc => ⟨_, rfl, _, _, rfl, rfl, _, rfl, ite2 (fun hp => ?_) (fun hp => ?_)⟩)⟩
    rotate_left 2
    · -- the forms
      have hz0 : ¬ z = 0 := fun e => hc (beq_iff_eq.mpr e)
      obtain ⟨d', rfl⟩ : ∃ d', d = d' + 1 := ⟨d - 1, by omega⟩
      have hcs : cst (d' + 1) = 3 * cst d' + 9 := rfl
      have hc9' := cst_pos d'
      refine ⟨_, rfl, rfl, ?_⟩
      rw [dec_int]
      refine ⟨_, rfl, ite2 (fun hp4 => ?_) (fun hp4 => ?_)⟩
      · refine ⟨_, rfl, _, rfl, F, _, 3, rfl, by decide, a2, by omega, fun H3 n hn g3 a3 => ?_⟩
        refine ⟨_, rfl, by omega, by omega, fun D nD => ?_⟩
        rw [show ((n : Int)).toNat = n from Int.toNat_natCast _]
        have hDl : D ≠ F.l := fun e => by
          subst e
          rw [a3.2.1] at nD
          cases nD
        have gD : Go F.f H3 (upd H3 D (.lst [])) := go_new nD
        refine lc_range (lo := 0) (n := n) (fun i H' => ∃ acc es k', H' D = some (.lst acc) ∧ DpAll K H' acc (es.map tr0) ∧ es.length = i ∧ (∀ e ∈ es, DrE d' e) ∧ Go F.f H3 H' ∧ F.at_ H' k' ∧ k' ≤ n0 + 3 + i * cst d')
          ⟨[], [], _, upd_same, .nil, rfl, fun x h => by simp at h, gD, a3.new nD, by omega⟩ (fun i H' hi hP => ?_) (fun H' hP => ?_)
        · obtain ⟨acc, es, k', hD, hacc, hu, hok, g', ha', hk'⟩ := hP
          have hmul : i * cst d' ≤ 1 * cst d' := Nat.mul_le_mul_right _ (by omega)
          have hsuc : (i + 1) * cst d' = i * cst d' + cst d' := Nat.succ_mul _ _
          refine ⟨rfl, ?_⟩
          refine ⟨_, rfl, _, rfl, _, _, rfl, rfl, d', rfl, F, k', _, rfl, by omega, ha', by omega, fun H4 v e k4 hde g4 a4 hk4 hdp => ?_⟩
          have hD4 : H4 D = some (.lst acc) := g4.1 _ _ (ha'.ne hD) hD
          have hno : noLs (es.map tr0) = true := noLs_of fun d h => by
            obtain ⟨x, _, rfl⟩ := List.mem_map.mp h
            exact tr0_no x
          have hacl : acc.length ≤ 2 := by rw [dps_len hacc, List.length_map, hu]; omega
          refine ⟨acc, hD4, len_ok (by omega), _, es ++ [e], k4, upd_same, ?_, by simp [hu], fun y hy => ?_, go_put (g'.trans g4) nD fun _ => a4.ne hD4, a4.put hD4 hDl, by omega⟩
          · rw [List.map_append]
            exact dps_append (dps_keep (sqt_put hD4) _ _ hno (ha'.dps g4 hno hacc)) (.cons (dp_keep (sqt_put hD4) _ _ (tr0_no e) hdp) .nil)
          · rcases List.mem_append.mp hy with h | h
            · exact hok y h
            · have : y = e := by simpa using h
              subst this
              exact hde
        · obtain ⟨acc, es, k', hD, hacc, hu, hok, g', ha', hk'⟩ := hP
          have hmul : n * cst d' ≤ 2 * cst d' := Nat.mul_le_mul_right _ (by omega)
          have hno : noLs (es.map tr0) = true := noLs_of fun d h => by
            obtain ⟨x, _, rfl⟩ := List.mem_map.mp h
            exact tr0_no x
          refine ⟨_, _, rfl, .inl ⟨SqL.of hD, fun t nt => ?_⟩⟩
          refine ⟨by show 4 ≤ sizeLine; decide, fun t2 nt2 => ?_⟩
          have sm := same_upd (o := .tup acc) nt
          have sm2 := same_upd (o := .tup [.str "call", .str nm, .ref t, .int 0]) nt2
          obtain ⟨e, he, hde⟩ : ∃ e, tr0 e = .tuple [.str "call", .str nm, .tuple (es.map tr0), .int 0] ∧ DrE (d' + 1) e := by
            match es, hu, hok with
            | [], _, _ => exact ⟨.call0 nm, rfl, .call0 hnm⟩
            | [x], _, hok => exact ⟨.call1 nm x, rfl, .call1 hnm (hok x (by simp))⟩
            | [x, y], _, hok => exact ⟨.call2 nm x y, rfl, .call2 hnm (hok x (by simp)) (hok y (by simp))⟩
            | _ :: _ :: _ :: _, h, _ => exact absurd h (by simp; omega)
          refine q _ _ e k' hde (((g02.trans g3).trans g').trans (go_same (sm.trans sm2))) (ha'.same (sm.trans sm2)) (by omega) ?_
          rw [he]
          exact .tup (SqT.of upd_same) (.cons (.str _) (.cons (.str _) (.cons (.tup (SqT.of (sm2 _ _ upd_same)) (dps_keep (sqt_same (sm.trans sm2)) _ _ hno hacc)) (.cons (.int _) .nil))))
      refine ⟨_, rfl, rfl, ?_⟩
      rw [dec_int]
      refine ⟨_, rfl, ite2 (fun hp5 => ?_) (fun hp5 => ?_)⟩
      · refine ⟨_, rfl, _, rfl, F, _, 21, rfl, by decide, a2, by omega, fun H3 v3 hv3 g3 a3 => ?_⟩
        refine ⟨_, rfl, _, rfl, _, _, rfl, rfl, d', rfl, F, _, _, rfl, by omega, a3, by omega, fun G1 dv1 e1 k1 hd1 gg1 aa1 hk1 dp1 => ?_⟩
        refine ⟨by show 5 ≤ sizeLine; decide, fun t nt => ?_⟩
        have sm := same_upd (o := .tup [.str "iterate", .str nm, .int (v3 : Int), dv1, .int 0]) nt
        refine q _ _ (.iter nm v3 e1) k1 (.iter hnm (by omega) hd1) (((g02.trans g3).trans gg1).trans (go_same sm)) (aa1.same sm) (by omega) ?_
        exact .tup (SqT.of upd_same) (.cons (.str _) (.cons (.str _) (.cons (.int _) (.cons (dp_same sm (tr0_no e1) dp1) (.cons (.int _) .nil)))))
      refine ⟨_, rfl, rfl, ?_⟩
      rw [dec_int]
      refine ⟨_, rfl, ite2 (fun hp6 => ?_) (fun hp6 => ?_)⟩
      · refine ⟨_, rfl, _, rfl, _, _, rfl, rfl, d', rfl, F, _, _, rfl, by omega, a2, by omega, fun G1 dv1 e1 k1 hd1 gg1 aa1 hk1 dp1 => ?_⟩
        refine ⟨_, rfl, F, _, 19, rfl, by decide, aa1, by omega, fun H3 v3 hv3 g3 a3 => ?_⟩
        refine ⟨_, _, rfl, rfl, by show 4 ≤ sizeLine; decide, fun t nt => ?_⟩
        have sm := same_upd (o := .tup [.str "power", dv1, .int ((v3 : Int) - 9), .int 0]) nt
        refine q _ _ (.pow e1 ((v3 : Int) - 9)) _ (.pow (by omega) hd1) (((g02.trans gg1).trans g3).trans (go_same sm)) (a3.same sm) (by omega) ?_
        exact .tup (SqT.of upd_same) (.cons (.str _) (.cons (dp_same sm (tr0_no e1) (aa1.dp g3 (tr0_no e1) dp1)) (.cons (.int _) (.cons (.int _) .nil))))
      refine ⟨_, rfl, rfl, ?_⟩
      rw [dec_int]
      refine ⟨_, rfl, ite2 (fun hp7 => ?_) (fun hp7 => ?_)⟩
      · refine ⟨_, rfl, _, rfl, _, _, rfl, rfl, d', rfl, F, _, _, rfl, by omega, a2, by omega, fun G1 dv1 e1 k1 hd1 gg1 aa1 hk1 dp1 => ?_⟩
        refine ⟨by show 3 ≤ sizeLine; decide, fun t nt => ?_⟩
        have sm := same_upd (o := .tup [.str "not", dv1, .int 0]) nt
        refine q _ _ (.no e1) _ (.no hd1) ((g02.trans gg1).trans (go_same sm)) (aa1.same sm) (by omega) ?_
        exact .tup (SqT.of upd_same) (.cons (.str _) (.cons (dp_same sm (tr0_no e1) dp1) (.cons (.int _) .nil)))
      refine ⟨_, rfl, rfl, ?_⟩
      rw [dec_int]
      refine ⟨_, rfl, ite2 (fun hp8 => ?_) (fun hp8 => ?_)⟩
      · refine ⟨_, rfl, _, rfl, _, _, rfl, rfl, d', rfl, F, _, _, rfl, by omega, a2, by omega, fun G1 dv1 e1 k1 hd1 gg1 aa1 hk1 dp1 => ?_⟩
        refine ⟨_, rfl, _, rfl, _, _, rfl, rfl, d', rfl, F, _, _, rfl, by omega, aa1, by omega, fun G2 dv2 e2 k2 hd2 gg2 aa2 hk2 dp2 => ?_⟩
        refine ⟨_, rfl, _, rfl, _, _, rfl, rfl, d', rfl, F, _, _, rfl, by omega, aa2, by omega, fun G3 dv3 e3 k3 hd3 gg3 aa3 hk3 dp3 => ?_⟩
        refine ⟨by show 5 ≤ sizeLine; decide, fun t nt => ?_⟩
        have sm := same_upd (o := .tup [.str "if", dv1, dv2, dv3, .int 0]) nt
        refine q _ _ (.cond e1 e2 e3) _ (.cond hd1 hd2 hd3) ((((g02.trans gg1).trans gg2).trans gg3).trans (go_same sm)) (aa3.same sm) (by omega) ?_
        exact .tup (SqT.of upd_same) (.cons (.str _) (.cons (dp_same sm (tr0_no e1) (aa1.dp (gg2.trans gg3) (tr0_no e1) dp1)) (.cons (dp_same sm (tr0_no e2) (aa2.dp gg3 (tr0_no e2) dp2)) (.cons (dp_same sm (tr0_no e3) dp3) (.cons (.int _) .nil)))))
      refine ⟨_, rfl, rfl, ?_⟩
      rw [dec_int]
      refine ⟨_, rfl, ite2 (fun hp9 => ?_) (fun hp9 => ?_)⟩
      · refine ⟨_, rfl, _, rfl, _, rfl, _, _, rfl, rfl, d', rfl, F, _, _, rfl, by omega, a2, by omega, fun G1 dv1 e1 k1 hd1 gg1 aa1 hk1 dp1 => ?_⟩
        refine ⟨_, rfl, _, rfl, _, _, rfl, rfl, d', rfl, F, _, _, rfl, by omega, aa1, by omega, fun G2 dv2 e2 k2 hd2 gg2 aa2 hk2 dp2 => ?_⟩
        refine ⟨by show 5 ≤ sizeLine; decide, fun t nt => ?_⟩
        have sm := same_upd (o := .tup [.str "let", .str nm, dv1, dv2, .int 0]) nt
        refine q _ _ (.lett nm e1 e2) _ (.lett hnm hd1 hd2) (((g02.trans gg1).trans gg2).trans (go_same sm)) (aa2.same sm) (by omega) ?_
        exact .tup (SqT.of upd_same) (.cons (.str _) (.cons (.str _) (.cons (dp_same sm (tr0_no e1) (aa1.dp gg2 (tr0_no e1) dp1)) (.cons (dp_same sm (tr0_no e2) dp2) (.cons (.int _) .nil)))))
      refine ⟨by show 9 ≤ sizeLine; decide, fun l3 m3 => ?_⟩
      have b3 := a2.new (o := .lst (dHeads.map V.str)) m3
      refine ⟨_, rfl, F, _, 9, rfl, by decide, b3, by omega, fun H3 v3 hv3 g3 a3 => ?_⟩
      have hl3 : H3 l3 = some (.lst (dHeads.map V.str)) := g3.1 _ _ (b3.ne upd_same) upd_same
      refine .inl ⟨l3, _, _, _, rfl, rfl, SqL.of hl3, menuS hv3, ?_⟩
      have hop : ∀ v, v < 9 → dHeads.getD v "" = opName (dSigns.getD v "") := by decide
      have hsg : dSigns.getD v3 "" ∈ dSigns := getD_mem hv3
      rw [hop v3 hv3]
      generalize dSigns.getD v3 "" = sgn at hsg
      refine ⟨_, rfl, _, rfl, _, rfl, _, _, rfl, rfl, d', rfl, F, _, _, rfl, by omega, a3, by omega, fun G1 dv1 e1 k1 hd1 gg1 aa1 hk1 dp1 => ?_⟩
      refine ⟨_, rfl, _, rfl, _, _, rfl, rfl, d', rfl, F, _, _, rfl, by omega, aa1, by omega, fun G2 dv2 e2 k2 hd2 gg2 aa2 hk2 dp2 => ?_⟩
      refine ⟨by show 4 ≤ sizeLine; decide, fun t nt => ?_⟩
      have sm := same_upd (o := .tup [.str (opName sgn), dv1, dv2, .int 0]) nt
      refine q _ _ (.bin sgn e1 e2) _ (.bin hsg hd1 hd2) (((g02.trans ((go_new m3).trans g3)).trans (gg1.trans gg2)).trans (go_same sm)) (aa2.same sm) (by omega) ?_
      exact .tup (SqT.of upd_same) (.cons (.str _) (.cons (dp_same sm (tr0_no e1) (aa1.dp gg2 (tr0_no e1) dp1)) (.cons (dp_same sm (tr0_no e2) dp2) (.cons (.int _) .nil))))
    all_goals

      refine ⟨_, rfl, F, _, rfl, a2, by omega, fun H3 uv u k3 hu g3 a3 hk3 hdu => ?_⟩
      refine ⟨by show 2 ≤ sizeLine; decide, fun t1 x1 => ⟨by show 2 ≤ sizeLine; decide, fun t2 x2 => ⟨by show 2 ≤ sizeLine; decide, fun t3 x3 => ⟨by show 2 ≤ sizeLine; decide, fun t4 x4 => ⟨by show 2 ≤ sizeLine; decide, fun t5 x5 => ⟨by show 5 ≤ sizeLine; decide, fun l2 x6 => ?_⟩⟩⟩⟩⟩⟩
      have s1 : Same H3 (upd H3 t1 (.tup [.int 5, .int 1])) := same_upd x1
      have c1 : (upd H3 t1 (.tup [.int 5, .int 1])) t1 = some _ := upd_same
      generalize upd H3 t1 (.tup [.int 5, .int 1]) = U1 at *
      have s2 : Same U1 (upd U1 t2 (.tup [.int 25, .int 10])) := same_upd x2
      have c2 : (upd U1 t2 (.tup [.int 25, .int 10])) t2 = some _ := upd_same
      generalize upd U1 t2 (.tup [.int 25, .int 10]) = U2 at *
      have s3 : Same U2 (upd U2 t3 (.tup [.int 0, .int 1])) := same_upd x3
      have c3 : (upd U2 t3 (.tup [.int 0, .int 1])) t3 = some _ := upd_same
      generalize upd U2 t3 (.tup [.int 0, .int 1]) = U3 at *
      have s4 : Same U3 (upd U3 t4 (.tup [.int 999999, .int 1])) := same_upd x4
      have c4 : (upd U3 t4 (.tup [.int 999999, .int 1])) t4 = some _ := upd_same
      generalize upd U3 t4 (.tup [.int 999999, .int 1]) = U4 at *
      have s5 : Same U4 (upd U4 t5 (.tup [.int 1234, .int 10000])) := same_upd x5
      have c5 : (upd U4 t5 (.tup [.int 1234, .int 10000])) t5 = some _ := upd_same
      generalize upd U4 t5 (.tup [.int 1234, .int 10000]) = U5 at *
      have s6 : Same U5 (upd U5 l2 (.lst [.ref t1, .ref t2, .ref t3, .ref t4, .ref t5])) := same_upd x6
      have c6 : (upd U5 l2 (.lst [.ref t1, .ref t2, .ref t3, .ref t4, .ref t5])) l2 = some _ := upd_same
      generalize upd U5 l2 (.lst [.ref t1, .ref t2, .ref t3, .ref t4, .ref t5]) = U6 at *
      have s06 : Same H3 U6 := ((((s1.trans s2).trans s3).trans s4).trans s5).trans s6
      have hA : A2 (fun v (p : List Nat × Nat × Nat) => ∃ a, v = .ref a ∧ U6 a = some (.tup [.int (p.2.1 : Int), .int (p.2.2 : Int)])) [.ref t1, .ref t2, .ref t3, .ref t4, .ref t5] dNums :=
        .cons ⟨t1, rfl, s6 _ _ (s5 _ _ (s4 _ _ (s3 _ _ (s2 _ _ c1))))⟩ (.cons ⟨t2, rfl, s6 _ _ (s5 _ _ (s4 _ _ (s3 _ _ c2)))⟩ (.cons ⟨t3, rfl, s6 _ _ (s5 _ _ (s4 _ _ c3))⟩ (.cons ⟨t4, rfl, s6 _ _ (s5 _ _ c4)⟩ (.cons ⟨t5, rfl, s6 _ _ c5⟩ .nil))))
      have a4 := a3.same s06
      refine ⟨_, rfl, F, _, 5, rfl, by decide, a4, by omega, fun H4 v4 hv4 g4 a5 => ?_⟩
      obtain ⟨p, hp⟩ : ∃ p, dNums[v4]? = some p := ⟨_, List.getElem?_eq_getElem (show v4 < dNums.length from hv4)⟩
      obtain ⟨x, hx, ta, rfl, hta⟩ := hA.get hp
      have hpm : p ∈ dNums := List.mem_of_getElem? hp
      refine .inl ⟨l2, _, _, _, rfl, rfl, SqL.of (g4.1 _ _ (a4.ne c6) c6), atI_nat hx, ?_⟩
      have hta4 := g4.1 _ _ (ne_of hta a4.1 (by intro z; cases z)) hta
      have gH4 : Go F.f H3 H4 := (go_same s06).trans g4
      have hdu4 := a3.dp gH4 (unD0_no u) hdu
      clear hA c1 c2 c3 c4 c5 c6 s1 s2 s3 s4 s5 s6 s06 x1 x2 x3 x4 x5 x6 hta
      refine ⟨_, rfl, _, rfl, by show 4 ≤ sizeLine; decide, fun t1 x1 => ⟨by show 2 ≤ sizeLine; decide, fun t2 x2 => ⟨by show 2 ≤ sizeLine; decide, fun t3 x3 => ⟨_, rfl, by show 3 ≤ sizeLine; decide, fun t4 x4 => ⟨by show 4 ≤ sizeLine; decide, fun l3 x6 => ?_⟩⟩⟩⟩⟩
      have s1 : Same H4 (upd H4 t1 (.tup [.str "number", .ref ta, uv, .int 0])) := same_upd x1
      have c1 : (upd H4 t1 (.tup [.str "number", .ref ta, uv, .int 0])) t1 = some _ := upd_same
      generalize upd H4 t1 (.tup [.str "number", .ref ta, uv, .int 0]) = U1 at *
      have s2 : Same U1 (upd U1 t2 (.tup [.str "bool", .bl true])) := same_upd x2
      have c2 : (upd U1 t2 (.tup [.str "bool", .bl true])) t2 = some _ := upd_same
      generalize upd U1 t2 (.tup [.str "bool", .bl true]) = U2 at *
      have s3 : Same U2 (upd U2 t3 (.tup [.str "bool", .bl false])) := same_upd x3
      have c3 : (upd U2 t3 (.tup [.str "bool", .bl false])) t3 = some _ := upd_same
      generalize upd U2 t3 (.tup [.str "bool", .bl false]) = U3 at *
      have s4 : Same U3 (upd U3 t4 (.tup [.str "var", .str nm, .int 0])) := same_upd x4
      have c4 : (upd U3 t4 (.tup [.str "var", .str nm, .int 0])) t4 = some _ := upd_same
      generalize upd U3 t4 (.tup [.str "var", .str nm, .int 0]) = U4 at *
      have s6 : Same U4 (upd U4 l3 (.lst [.ref t1, .ref t2, .ref t3, .ref t4])) := same_upd x6
      have c6 : (upd U4 l3 (.lst [.ref t1, .ref t2, .ref t3, .ref t4])) l3 = some _ := upd_same
      generalize upd U4 l3 (.lst [.ref t1, .ref t2, .ref t3, .ref t4]) = U6 at *
      have s06 : Same H4 U6 := (((s1.trans s2).trans s3).trans s4).trans s6
      have a6 := a5.same s06
      have hB : A2 (fun v (e : Ex) => Dp K U6 v (tr0 e) ∧ DrE d e) [.ref t1, .ref t2, .ref t3, .ref t4] [.num p.1 p.2.1 p.2.2 u, .bl true, .bl false, .var nm] :=
        .cons ⟨.tup (SqT.of (s6 _ _ (s4 _ _ (s3 _ _ (s2 _ _ c1))))) (.cons (.str _) (.cons (.tup (SqT.of (s06 _ _ hta4)) (.cons (.int _) (.cons (.int _) .nil))) (.cons (dp_same s06 (unD0_no u) hdu4) (.cons (.int _) .nil)))), .num hpm hu⟩
        (.cons ⟨.tup (SqT.of (s6 _ _ (s4 _ _ (s3 _ _ c2)))) (.cons (.str _) (.cons (.bl _) .nil)), .bl⟩ (.cons ⟨.tup (SqT.of (s6 _ _ (s4 _ _ c3))) (.cons (.str _) (.cons (.bl _) .nil)), .bl⟩
        (.cons ⟨.tup (SqT.of (s6 _ _ c4)) (.cons (.str _) (.cons (.str _) (.cons (.int _) .nil))), .var hnm⟩ .nil)))
      refine ⟨_, rfl, F, _, 4, rfl, by decide, a6, by omega, fun H5 v5 hv5 g5 a7 => ?_⟩
      obtain ⟨e, he⟩ : ∃ e, ([.num p.1 p.2.1 p.2.2 u, .bl true, .bl false, .var nm] : List Ex)[v5]? = some e := ⟨_, List.getElem?_eq_getElem (show v5 < 4 from hv5)⟩
      obtain ⟨y, hy, hdy, hde⟩ := hB.get he
      refine .inl ⟨l3, _, _, _, rfl, rfl, SqL.of (g5.1 _ _ (a6.ne c6) c6), atI_nat hy, ?_⟩
      exact q H5 y e _ hde (((g02.trans g3).trans gH4).trans ((go_same s06).trans g5)) a7 (by omega) (a6.dp g5 (tr0_no e) hdy)
end
end Tk

namespace Tk
open PySem PySem.Spec PyProof.Rows L2 Ly Lx TL Px Lw
section
variable {P : Program} {w : World} {K : PySem.W.Frag} {mg : Str → Option Value} {base : Heap}
theorem ok_drawn (T : Top w K mg) : ∀ d, FnOk P w K mg base CX0 (d + 3) T.a_law_drawn T.fd_law_drawn ["feed", "depth"] (sp_drawn K d)
  | 0 => drawn_step T (Nat.le_refl 2) ⟨fun vs H Q E h => by
      obtain ⟨d', h, _⟩ := h
      omega, fun A outer s H args us vs Q E _ _ _ _ h => by
      obtain ⟨d', h, _⟩ := h
      omega⟩
  | d + 1 => by
    have ih := ok_drawn T d
    refine drawn_step T (k := d + 3) (by omega) ⟨fun vs H Q E h => ?_, fun A outer s H args us vs Q E r e b v h => ?_⟩
    · obtain ⟨d', h1, h⟩ := h
      cases h1
      exact ih.len _ _ _ _ h
    · obtain ⟨d', h1, h⟩ := h
      cases h1
      exact ih.run A outer s H args us vs Q E r e b v h
theorem pick2 {H : Hp} {uv : V} {u : Un} {v : Nat} (hv : v < 2) (hd : Dp K H uv (unD0 u)) (hu : UnD u) : ∃ x o, ([V.non, uv] : List V)[v]? = some x ∧ Dp K H x (opD0 o) ∧ OpD o := by
  match v, hv with
  | 0, _ => exact ⟨_, none, rfl, .non, fun u h => by cases h⟩
  | 1, _ => exact ⟨_, some u, rfl, hd, fun u' h => by cases h; exact hu⟩
def sp_line (K : PySem.W.Frag) : Sp := fun vs H Q _ => ∃ (F : Fe) (k : Nat), vs = [.ref F.f] ∧ F.at_ H k ∧ k + 1200 < 100000 ∧
  ∀ H' v l k', DrL l → Go F.f H H' → F.at_ H' k' → k' ≤ k + 1200 → Dp K H' v (ln0 l) → Q v H'
theorem scx_law_line : FnScope ["feed", "pick", "parameters", "k"] ["feed"] (defScope s_law_line) := ⟨rfl, rfl, rfl, by decide +kernel, rfl, by decide +kernel, by decide +kernel⟩
theorem ok_law_line (T : Top w K mg) : FnOk P w K mg base CX0 8 T.a_law_line T.fd_law_line ["feed"] (sp_line K) := by
  refine T.F_law_line.ok scx_law_line (fun vs H Q E h => ?_) (fun cdv A outer s H vs Q E hr h => ?_)
  · obtain ⟨F, k, rfl, _⟩ := h
    rfl
  · obtain ⟨F, n0, rfl, a0, hn0, q⟩ := h
    refine ⟨_, (pss_cons (ps_set (i := 1) scx_law_line.nd rfl (.inl rfl) (by exact (pe_call (ok_law_take T) (hr.mono (by first | decide | omega)) (by rfl) T.m_law_take T.F_law_take.kp T.b_law_take .nil pass0 (pa_cons (pv 0) (pa_cons pe_int pa_nil)))))
      (pss_cons (ps_if (pt_cmpR op_eq (pv 1) pe_int (nomark _))
      (pss_one (ps_ret (pe_tup (pa_cons pe_str (pa_cons pe_str (pa_cons pe_int pa_nil))))))
      pss_nil)
      (pss_cons (ps_if (pt_cmpR op_eq (pv 1) pe_int (nomark _))
      (pss_one (ps_ret (pe_tup (pa_cons pe_str (pa_cons pe_str (pa_cons (pe_tup (pa_cons pe_int (pa_cons pe_int pa_nil))) (pa_cons (pe_call (ok_law_brackets T) (hr.mono (by first | decide | omega)) (by rfl) T.m_law_brackets T.F_law_brackets.kp T.b_law_brackets .nil pass0 (pa_cons (pv 0) pa_nil)) (pa_cons pe_int pa_nil))))))))
      pss_nil)
      (pss_cons (ps_if (pt_cmpR op_lt (pv 1) pe_int (nomark _))
      (pss_cons (ps_set (i := 2) scx_law_line.nd rfl (.inl rfl) (by exact (pe_callTy call_tuple_of (by rfl) T.n_tuple bt_tuple (pa_cons (pe_lc (own := [("k", 3)]) (g := gName 3) (tt := tYes) (by rfl) scx_law_line.nd (pi_range1 (by rfl) T.n_range (pa_cons (pe_call (ok_law_take T) (hr.mono (by first | decide | omega)) (by rfl) T.m_law_take T.F_law_take.kp T.b_law_take .nil pass0 (pa_cons (pv 0) (pa_cons pe_int pa_nil))) pa_nil)) (blkOk_by (own := [("k", 3)]) (N := ["feed", "pick", "parameters", "k"]) (sc := defScope s_law_line) (by decide +kernel))
      (fun _ _ _ _ _ => pg_name (i := 3) scx_law_line.nd rfl (Or.inl rfl)) (fun _ _ _ _ _ => pts_nil) (fun _ _ _ _ _ => (pe_tup (pa_cons (pe_ix (show IxR _ (rIx K) from ix_seq) (pe_lst (pa_cons pe_str (pa_cons pe_str pa_nil))) (pv 3) (fun _ _ => rfl)) (pa_cons (pe_ix (show IxR _ (rIx K) from ix_seq) (pe_lst (pa_cons pe_non (pa_cons (pe_call (ok_law_brackets T) (hr.mono (by first | decide | omega)) (by rfl) T.m_law_brackets T.F_law_brackets.kp T.b_law_brackets .nil pass0 (pa_cons (pv 0) pa_nil)) pa_nil))) (pe_call (ok_law_take T) (hr.mono (by first | decide | omega)) (by rfl) T.m_law_take T.F_law_take.kp T.b_law_take .nil pass0 (pa_cons (pv 0) (pa_cons pe_int pa_nil))) (fun _ _ => rfl)) pa_nil))))) pa_nil))))
      (pss_one (ps_ret (pe_tup (pa_cons pe_str (pa_cons pe_str (pa_cons (pv 2) (pa_cons (pe_ix ix_seq (pe_lst (pa_cons pe_non (pa_cons (pe_call (ok_law_brackets T) (hr.mono (by first | decide | omega)) (by rfl) T.m_law_brackets T.F_law_brackets.kp T.b_law_brackets .nil pass0 (pa_cons (pv 0) pa_nil)) pa_nil))) (pe_call (ok_law_take T) (hr.mono (by first | decide | omega)) (by rfl) T.m_law_take T.F_law_take.kp T.b_law_take .nil pass0 (pa_cons (pv 0) (pa_cons pe_int pa_nil))) (fun _ _ => rfl)) (pa_cons (pe_call (ok_drawn T 4) (hr.mono (by first | decide | omega)) (by rfl) T.m_law_drawn T.F_law_drawn.kp T.b_law_drawn .nil pass0 (pa_cons (pv 0) (pa_cons pe_int pa_nil))) (pa_cons pe_int pa_nil))))))))))
      pss_nil)
      (pss_one (ps_ret (pe_tup (pa_cons pe_str (pa_cons (pe_call (ok_drawn T 4) (hr.mono (by first | decide | omega)) (by rfl) T.m_law_drawn T.F_law_drawn.kp T.b_law_drawn .nil pass0 (pa_cons (pv 0) (pa_cons pe_int pa_nil))) (pa_cons (pe_ix ix_seq (pe_lst (pa_cons pe_non (pa_cons (pe_call (ok_law_brackets T) (hr.mono (by first | decide | omega)) (by rfl) T.m_law_brackets T.F_law_brackets.kp T.b_law_brackets .nil pass0 (pa_cons (pv 0) pa_nil)) pa_nil))) (pe_call (ok_law_take T) (hr.mono (by first | decide | omega)) (by rfl) T.m_law_take T.F_law_take.kp T.b_law_take .nil pass0 (pa_cons (pv 0) (pa_cons pe_int pa_nil))) (fun _ _ => rfl)) (pa_cons pe_int pa_nil))))))))))), ?_⟩
    refine ⟨_, rfl, F, n0, 6, rfl, by decide, a0, by omega, fun H1 pk hpk g1 a1 => ?_⟩
    have hc4 : cst 4 = 1089 := rfl
    refine ⟨_, rfl, rfl, ?_⟩
    rw [dec_int]
    refine ⟨_, rfl, ite2 (fun hp => ?_) (fun hp => ?_)⟩
    · refine ⟨by show 3 ≤ sizeLine; decide, fun t nt => ?_⟩
      have sm := same_upd (o := .tup [.str "base", .str "m", .int 0]) nt
      exact q _ _ .base _ trivial (g1.trans (go_same sm)) (a1.same sm) (by omega) (.tup (SqT.of upd_same) (.cons (.str _) (.cons (.str _) (.cons (.int _) .nil))))
    refine ⟨_, rfl, rfl, ?_⟩
    rw [dec_int]
    refine ⟨_, rfl, ite2 (fun hp1 => ?_) (fun hp1 => ?_)⟩
    · refine ⟨by show 2 ≤ sizeLine; decide, fun t1 n1 => ?_⟩
      have sm1 := same_upd (o := .tup [.int 25, .int 10]) n1
      refine ⟨_, rfl, F, _, rfl, a1.same sm1, by omega, fun H2 uv u k2 hu g2 a2 hk2 hdu => ?_⟩
      have ht := g2.1 _ _ (ne_of upd_same (a1.same sm1).1 (by intro z; cases z)) (upd_same (H := H1) (a := t1) (o := .tup [.int 25, .int 10]))
      refine ⟨by show 5 ≤ sizeLine; decide, fun t nt => ?_⟩
      have sm := same_upd (o := .tup [.str "unit", .str "km", .ref t1, uv, .int 0]) nt
      refine q _ _ (.unit u) _ hu (((g1.trans (go_same sm1)).trans g2).trans (go_same sm)) (a2.same sm) (by omega) ?_
      exact .tup (SqT.of upd_same) (.cons (.str _) (.cons (.str _) (.cons (.tup (SqT.of (sm _ _ ht)) (.cons (.int _) (.cons (.int _) .nil))) (.cons (dp_same sm (unD0_no u) hdu) (.cons (.int _) .nil)))))
    refine ⟨_, rfl, _, _, rfl, rfl, _, rfl, ite2 (fun hp2 => ?_) (fun hp2 => ?_)⟩
    · refine ⟨_, rfl, F, _, 3, rfl, by decide, a1, by omega, fun H3 n hn g3 a3 => ?_⟩
      refine ⟨_, rfl, by omega, by omega, fun D nD => ?_⟩
      rw [show ((n : Int)).toNat = n from Int.toNat_natCast _]
      have hDl : D ≠ F.l := fun e => by
        subst e
        rw [a3.2.1] at nD
        cases nD
      have gD : Go F.f H3 (upd H3 D (.lst [])) := go_new nD
      refine lc_range (lo := 0) (n := n) (fun i H' => ∃ acc ps k', H' D = some (.lst acc) ∧ DpAll K H' acc (ps.map pm0) ∧ ps.length = i ∧ (∀ p ∈ ps, p.1 ∈ (["x", "y"] : List Str) ∧ OpD p.2) ∧ Go F.f H3 H' ∧ F.at_ H' k' ∧ k' ≤ n0 + 2 + 6 * i)
        ⟨[], [], _, upd_same, .nil, rfl, fun x h => by simp at h, gD, a3.new nD, by omega⟩ (fun i H' hi hP => ?_) (fun H' hP => ?_)
      · obtain ⟨acc, ps, k', hD, hacc, hu, hok, g', ha', hk'⟩ := hP
        refine ⟨rfl, ?_⟩
        refine ⟨by show 2 ≤ sizeLine; decide, fun l1 n1 => ?_⟩
        have b1 := ha'.new (o := .lst [.str "x", .str "y"]) n1
        refine ⟨_, rfl, .inl ⟨l1, _, _, _, rfl, rfl, SqL.of upd_same, (by rw [Int.zero_add]; exact menuS (l := ["x", "y"]) (v := i) (by show i < 2; omega)), ?_⟩⟩
        have hnm : (["x", "y"] : List Str).getD i "" ∈ (["x", "y"] : List Str) := getD_mem (by show i < 2; omega)
        generalize (["x", "y"] : List Str).getD i "" = nm at hnm
        refine ⟨_, rfl, F, _, rfl, b1, by omega, fun H4 uv u k2 hu2 g2 a2 hk2 hdu => ?_⟩
        refine ⟨by show 2 ≤ sizeLine; decide, fun l2 n2 => ?_⟩
        have sm2 := same_upd (o := .lst [.non, uv]) n2
        have b2 := a2.same sm2
        refine ⟨_, rfl, F, _, 2, rfl, by decide, b2, by omega, fun H5 v5 hv5 g5 a5 => ?_⟩
        have hl2 : H5 l2 = some (.lst [.non, uv]) := g5.1 _ _ (b2.ne upd_same) upd_same
        obtain ⟨x, o, hx, hdx, hox⟩ := pick2 hv5 (b2.dp g5 (unD0_no u) (dp_same sm2 (unD0_no u) hdu)) hu2
        refine .inl ⟨l2, _, _, _, rfl, rfl, SqL.of hl2, atI_nat hx, ?_⟩
        refine ⟨by show 2 ≤ sizeLine; decide, fun t nt => ?_⟩
        have sm := same_upd (o := .tup [.str nm, x]) nt
        have gA : Go F.f H' H5 := ((go_new n1).trans g2).trans ((go_same sm2).trans g5)
        have gB := gA.trans (go_same sm)
        have hD5 : H5 D = some (.lst acc) := gA.1 _ _ (ha'.ne hD) hD
        have hD6 := sm _ _ hD5
        have a6 := a5.same sm
        have hacl : acc.length ≤ 2 := by rw [dps_len hacc, List.length_map, hu]; omega
        have hno := pm0s_no ps
        have hd6 : Dp K (upd H5 t (.tup [.str nm, x])) (.ref t) (pm0 (nm, o)) := .tup (SqT.of upd_same) (.cons (.str _) (.cons (dp_same sm (opD0_no o) hdx) .nil))
        have hnp : noL (pm0 (nm, o)) = true := nlc rfl (nlc (opD0_no o) rfl)
        refine ⟨acc, hD6, len_ok (by omega), _, ps ++ [(nm, o)], _, upd_same, ?_, by simp [hu], fun y hy => ?_, go_put (g'.trans gB) nD fun _ => a6.ne hD6, a6.put hD6 hDl, by omega⟩
        · rw [List.map_append]
          exact dps_append (dps_keep (sqt_put hD6) _ _ hno (ha'.dps gB hno hacc)) (.cons (dp_keep (sqt_put hD6) _ _ hnp hd6) .nil)
        · rcases List.mem_append.mp hy with h | h
          · exact hok y h
          · have : y = (nm, o) := by simpa using h
            subst this
            exact ⟨hnm, hox⟩
      · obtain ⟨acc, ps, k', hD, hacc, hu, hok, g', ha', hk'⟩ := hP
        have hno := pm0s_no ps
        refine ⟨_, _, rfl, .inl ⟨SqL.of hD, fun tp ntp => ?_⟩⟩
        have sm := same_upd (o := .tup acc) ntp
        have hdp : Dp K (upd H' tp (.tup acc)) (.ref tp) (.tuple (ps.map pm0)) := .tup (SqT.of upd_same) (dps_keep (sqt_same sm) _ _ hno hacc)
        have b1 := ha'.same sm
        refine ⟨_, rfl, ?_⟩
        refine ⟨_, rfl, F, _, rfl, b1, by omega, fun H4 uv u k2 hu2 g2 a2 hk2 hdu => ?_⟩
        refine ⟨by show 2 ≤ sizeLine; decide, fun l2 n2 => ?_⟩
        have sm2 := same_upd (o := .lst [.non, uv]) n2
        have b2 := a2.same sm2
        refine ⟨_, rfl, F, _, 2, rfl, by decide, b2, by omega, fun H5 v5 hv5 g5 a5 => ?_⟩
        have hl2 : H5 l2 = some (.lst [.non, uv]) := g5.1 _ _ (b2.ne upd_same) upd_same
        obtain ⟨x, o, hx, hdx, hox⟩ := pick2 hv5 (b2.dp g5 (unD0_no u) (dp_same sm2 (unD0_no u) hdu)) hu2
        refine .inl ⟨l2, _, _, _, rfl, rfl, SqL.of hl2, atI_nat hx, ?_⟩
        refine ⟨_, rfl, F, _, _, rfl, rfl, a5, by omega, fun H6 ev e k6 hde g6 a6 hk6 hde6 => ?_⟩
        refine ⟨by show 6 ≤ sizeLine; decide, fun t nt => ?_⟩
        have sm6 := same_upd (o := .tup [.str "fun", .str "f", .ref tp, x, ev, .int 0]) nt
        have gA : Go F.f (upd H' tp (.tup acc)) H5 := g2.trans ((go_same sm2).trans g5)
        have gAll : Go F.f H H6 := (((g1.trans g3).trans g').trans (go_same sm)).trans (gA.trans g6)
        refine q _ _ (.fn ps o e) _ ⟨⟨by omega, hok⟩, hox, hde⟩ (gAll.trans (go_same sm6)) (a6.same sm6) (by omega) ?_
        exact .tup (SqT.of upd_same) (.cons (.str _) (.cons (.str _) (.cons (dp_same sm6 (show noL (.tuple (ps.map pm0)) = true from hno) (b1.dp (gA.trans g6) (show noL (.tuple (ps.map pm0)) = true from hno) hdp)) (.cons (dp_same sm6 (opD0_no o) (a5.dp g6 (opD0_no o) hdx)) (.cons (dp_same sm6 (tr0_no e) hde6) (.cons (.int _) .nil))))))
    refine ⟨_, rfl, F, _, _, rfl, rfl, a1, by omega, fun H3 ev e k3 hde g3 a3 hk3 hde3 => ?_⟩
    refine ⟨_, rfl, F, _, rfl, a3, by omega, fun H4 uv u k2 hu2 g2 a2 hk2 hdu => ?_⟩
    refine ⟨by show 2 ≤ sizeLine; decide, fun l2 n2 => ?_⟩
    have sm2 := same_upd (o := .lst [.non, uv]) n2
    have b2 := a2.same sm2
    refine ⟨_, rfl, F, _, 2, rfl, by decide, b2, by omega, fun H5 v5 hv5 g5 a5 => ?_⟩
    have hl2 : H5 l2 = some (.lst [.non, uv]) := g5.1 _ _ (b2.ne upd_same) upd_same
    obtain ⟨x, o, hx, hdx, hox⟩ := pick2 hv5 (b2.dp g5 (unD0_no u) (dp_same sm2 (unD0_no u) hdu)) hu2
    refine .inl ⟨l2, _, _, _, rfl, rfl, SqL.of hl2, atI_nat hx, ?_⟩
    refine ⟨by show 4 ≤ sizeLine; decide, fun t nt => ?_⟩
    have sm := same_upd (o := .tup [.str "show", ev, x, .int 0]) nt
    have gA : Go F.f H3 H5 := (g2.trans (go_same sm2)).trans g5
    refine q _ _ (.sh e o) _ ⟨hde, hox⟩ (((g1.trans g3).trans gA).trans (go_same sm)) (a5.same sm) (by omega) ?_
    exact .tup (SqT.of upd_same) (.cons (.str _) (.cons (dp_same sm (tr0_no e) (a3.dp gA (tr0_no e) hde3)) (.cons (dp_same sm (opD0_no o) hdx) (.cons (.int _) .nil))))
end
end Tk

namespace Tk
open PySem PySem.Spec PyProof.Rows L2 Ly Lx TL Px Lw
section
variable {P : Program} {w : World} {K : PySem.W.Frag} {mg : Str → Option Value} {base : Heap}
def sp_number (K : PySem.W.Frag) : Sp := fun vs H Q _ => ∃ (a : Addr) (p : List Nat × Nat × Nat), vs = [.ref a] ∧ SqT K H a [.int (p.2.1 : Int), .int (p.2.2 : Int)] ∧ p ∈ dNums ∧ Q (.str (mk p.1)) H
theorem ok_law_number (T : Top w K mg) : FnOk P w K mg base CX0 1 T.a_law_number T.fd_law_number ["number"] (sp_number K) := by
  refine T.F_law_number.ok sc_law_number (fun vs H Q E h => ?_) (fun cdv A outer s H vs Q E hr h => ?_)
  · obtain ⟨a, p, rfl, _⟩ := h
    rfl
  · obtain ⟨a, p, rfl, hS, hp, q⟩ := h
    refine ⟨_, (pss_cons (ps_set (i := 1) sc_law_number.nd rfl (.inl rfl) (by exact (pe_callTy call_str_int (by rfl) T.n_str bt_str (pa_cons (pe_ix ix_seq (pv 0) pe_int (fun _ _ => rfl)) pa_nil))))
      (pss_cons (ps_set (i := 2) sc_law_number.nd rfl (.inl rfl) (by exact (pe_op op_sub (pe_callB call_len (by rfl) T.n_len bt_len (pa_cons (pe_callTy call_str_int (by rfl) T.n_str bt_str (pa_cons (pe_ix ix_seq (pv 0) pe_int (fun _ _ => rfl)) pa_nil)) pa_nil)) pe_int)))
      (pss_cons (ps_if (pt_cmpR op_eq (pv 2) pe_int (nomark _))
      (pss_one (ps_ret (pv 1)))
      pss_nil)
      (pss_cons (ps_set (i := 1) sc_law_number.nd rfl (.inl rfl) (by exact (pe_op op_plus (pe_op op_timesX pe_str (pe_callB (call_max2 rfl) (by rfl) T.n_max bt_max (pa_cons pe_int (pa_cons (pe_op op_sub (pe_op op_plus (pv 2) pe_int) (pe_callB call_len (by rfl) T.n_len bt_len (pa_cons (pv 1) pa_nil))) pa_nil)))) (pv 1))))
      (pss_one (ps_ret (pe_op op_plus (pe_op op_plus (pe_slice sl_str (pv 1) po_none (po_some (pe_op op_sub (pe_callB call_len (by rfl) T.n_len bt_len (pa_cons (pv 1) pa_nil)) (pv 2)))) pe_str) (pe_slice sl_str (pv 1) (po_some (pe_op op_sub (pe_callB call_len (by rfl) T.n_len bt_len (pa_cons (pv 1) pa_nil)) (pv 2))) po_none)))))))), ?_⟩
    simp only [List.mem_cons, List.not_mem_nil, or_false] at hp
    rcases hp with rfl | rfl | rfl | rfl | rfl
    all_goals
      refine ⟨_, rfl, .inr (.inl ⟨a, _, _, _, rfl, rfl, hS, rfl, _, rfl, by decide, ?_⟩)⟩
      refine ⟨_, rfl, .inr (.inl ⟨a, _, _, _, rfl, rfl, hS, rfl, _, rfl, by decide, _, _, rfl, ⟨by decide, rfl⟩, _, _, rfl, rfl, ?_⟩)⟩
      refine ⟨_, rfl, rfl, ?_⟩
      rw [dec_int]
    · refine ⟨_, rfl, ite2 (fun _ => ⟨_, rfl, ?_⟩) (fun hc => absurd (by decide) hc)⟩
      exact (congrArg (fun z => Q (.str z) H) (show Str.ofString (toString ((5 : Nat) : Int)) = mk (tl ("5" : Str)) from ext_tl (by decide))).mpr q
    · refine ⟨_, rfl, ite2 (fun hc => absurd hc (by decide)) (fun _ => ?_)⟩
      refine ⟨_, rfl, .inl ⟨_, _, rfl, rfl, _, rfl, _, _, rfl, ⟨by decide, rfl⟩, _, _, rfl, rfl, _, _, rfl, .inr ⟨_, 0, rfl, rfl, by decide, by decide, _, rfl, .inr ⟨_, _, rfl, rfl, by decide, ?_⟩⟩⟩⟩
      refine ⟨_, rfl, _, rfl, _, _, rfl, ⟨by decide, rfl⟩, _, rfl, _, _, rfl, rfl, ?_⟩
      refine ⟨_, rfl, _, rfl, by decide, .inr ⟨_, _, rfl, rfl, by decide, _, rfl, _, rfl, _, _, rfl, ⟨by decide, rfl⟩, _, rfl, _, _, rfl, rfl, _, rfl, _, rfl, by decide, .inr ⟨_, _, rfl, rfl, by decide, ?_⟩⟩⟩
      refine (congrArg (fun z => Q (.str z) H) (ext_tl ?_ : _ = mk (tl ("2.5" : Str)))).mpr q
      decide
    · refine ⟨_, rfl, ite2 (fun _ => ⟨_, rfl, ?_⟩) (fun hc => absurd (by decide) hc)⟩
      exact (congrArg (fun z => Q (.str z) H) (show Str.ofString (toString ((0 : Nat) : Int)) = mk (tl ("0" : Str)) from ext_tl (by decide))).mpr q
    · refine ⟨_, rfl, ite2 (fun _ => ⟨_, rfl, ?_⟩) (fun hc => absurd (by decide) hc)⟩
      exact (congrArg (fun z => Q (.str z) H) (show Str.ofString (toString ((999999 : Nat) : Int)) = mk (tl ("999999" : Str)) from ext_tl (by decide))).mpr q
    · refine ⟨_, rfl, ite2 (fun hc => absurd hc (by decide)) (fun _ => ?_)⟩
      refine ⟨_, rfl, .inl ⟨_, _, rfl, rfl, _, rfl, _, _, rfl, ⟨by decide, rfl⟩, _, _, rfl, rfl, _, _, rfl, .inr ⟨_, 1, rfl, rfl, by decide, by decide, _, rfl, .inr ⟨_, _, rfl, rfl, by decide, ?_⟩⟩⟩⟩
      refine ⟨_, rfl, _, rfl, _, _, rfl, ⟨by decide, rfl⟩, _, rfl, _, _, rfl, rfl, ?_⟩
      refine ⟨_, rfl, _, rfl, by decide, .inr ⟨_, _, rfl, rfl, by decide, _, rfl, _, rfl, _, _, rfl, ⟨by decide, rfl⟩, _, rfl, _, _, rfl, rfl, _, rfl, _, rfl, by decide, .inr ⟨_, _, rfl, rfl, by decide, ?_⟩⟩⟩
      refine (congrArg (fun z => Q (.str z) H) (ext_tl ?_ : _ = mk (tl ("0.1234" : Str)))).mpr q
      decide
end
end Tk

namespace Tk
open PySem PySem.Spec PyProof.Rows L2 Ly Lx TL Px Lw
section
variable {K : PySem.W.Frag} {H : Hp} {v : V} {xs : List V} {d : PyData} {ds : List PyData}
theorem dp_tup (h : Dp K H v (.tuple ds)) : ∃ a xs, v = .ref a ∧ SqT K H a xs ∧ DpAll K H xs ds := by
  cases h with
  | tup h1 h2 => exact ⟨_, _, rfl, h1, h2⟩
theorem dp_str {s : Str} (h : Dp K H v (.str s)) : v = .str s := by cases h; rfl
theorem dp_int {s : Int} (h : Dp K H v (.int s)) : v = .int s := by cases h; rfl
theorem dp_bool {s : Bool} (h : Dp K H v (.bool s)) : v = .bl s := by cases h; rfl
theorem dp_none (h : Dp K H v .none) : v = .non := by cases h; rfl
theorem dps_nil (h : DpAll K H xs []) : xs = [] := by cases h; rfl
theorem dps_cons (h : DpAll K H xs (d :: ds)) : ∃ x ys, xs = x :: ys ∧ Dp K H x d ∧ DpAll K H ys ds := by
  cases h with
  | cons h1 h2 => exact ⟨_, _, rfl, h1, h2⟩
end
section
variable {P : Program} {w : World} {K : PySem.W.Frag} {mg : Str → Option Value} {base : Heap}
theorem same_put {H H' : Hp} {D : Addr} {o : HO} (s : Same H H') (n : H D = none) : Same H (upd H' D o) := fun b x e => by
  rw [upd_ne (ne_of_none e n)]
  exact s b x e
theorem log_ok {i : Int} (h : i.natAbs < 1000000) : i.natAbs.log2 < 1920 := by
  by_cases h0 : i.natAbs = 0
  · rw [h0]
    decide
  · have : i.natAbs.log2 < 20 := (Nat.log2_lt h0).mpr (by omega)
    omega
def sp_units (K : PySem.W.Frag) : Sp := fun vs H Q _ => ∃ (v : V) (u : Un), vs = [v] ∧ Dp K H v (unD0 u) ∧ UnD u ∧ ∀ H', Same H H' → Q (.str (unT u)) H'
theorem scx_law_units : FnScope ["product", "name", "power", "at"] ["product"] (defScope s_law_units) := ⟨rfl, rfl, rfl, by decide +kernel, rfl, by decide +kernel, by decide +kernel⟩
theorem ok_law_units (T : Top w K mg) : FnOk P w K mg base CX0 1 T.a_law_units T.fd_law_units ["product"] (sp_units K) := by
  refine T.F_law_units.ok scx_law_units (fun vs H Q E h => ?_) (fun cdv A outer s H vs Q E hr h => ?_)
  · obtain ⟨v, u, rfl, _⟩ := h
    rfl
  · obtain ⟨v, u, rfl, hd, hu, q⟩ := h
    obtain ⟨a, xs, rfl, hS, hxs⟩ := dp_tup hd
    refine ⟨_, (pss_one (ps_ret (pe_op op_plus (pe_op op_plus pe_str (pe_join pe_str (pe_lc (own := [("name", 1), ("power", 2), ("at", 3)]) (g := gTup K 3 (gCons (gName 1) (gCons (gName 2) (gCons (gName 3) gNil)))) (tt := tYes) (by rfl) scx_law_units.nd (pi_tup (pv 0)) (blkOk_by (own := [("name", 1), ("power", 2), ("at", 3)]) (N := ["product", "name", "power", "at"]) (sc := defScope s_law_units) (by decide +kernel))
      (fun _ _ _ _ _ => pg_tup rfl (pgs_cons (pg_name (i := 1) scx_law_units.nd rfl (Or.inl rfl)) (pgs_cons (pg_name (i := 2) scx_law_units.nd rfl (Or.inl rfl)) (pgs_cons (pg_name (i := 3) scx_law_units.nd rfl (Or.inl rfl)) pgs_nil)))) (fun _ _ _ _ _ => pts_nil) (fun _ _ _ _ _ => (pe_op op_plus (pv 1) (pe_ix (show IxR _ (rIx K) from ix_seq) (pe_lst (pa_cons pe_str (pa_cons (pe_op op_plus pe_str (pe_callTy call_str_int (by rfl) T.n_str bt_str (pa_cons (pv 2) pa_nil))) pa_nil))) (pe_callTy call_intX (by rfl) T.n_int bt_int (pa_cons (pe_cmpR op_ne (pv 2) pe_int (nomark _)) pa_nil)) (fun _ _ => rfl))))))) pe_str))), ?_⟩
    have hxl : xs.length = u.length := by rw [dps_len hxs, List.length_map]
    refine ⟨⟨_, rfl⟩, _, rfl, a, rfl, ⟨xs, hS⟩, fun D nD => ?_⟩
    have s0 : Same H (upd H D (.lst [])) := same_upd nD
    refine lc_tup (K := K) (a := a) (xs := xs) (fun i H' => H' D = some (.lst (((u.take i).map itT).map V.str)) ∧ Same H H') ⟨upd_same, s0⟩ (fun i H' _ hP => sqt_same hP.2 _ _ hS) (fun i x H' hx hP => ?_) (fun H' hP => ?_)
    · obtain ⟨hD, sm⟩ := hP
      have hi : i < u.length := by
        have := (List.getElem?_eq_some_iff.mp hx).1
        omega
      obtain ⟨y, hy⟩ : ∃ y, u[i]? = some y := ⟨_, List.getElem?_eq_getElem hi⟩
      have hyo := hu.2 y (List.mem_of_getElem? hy)
      obtain ⟨x', hx', hdx⟩ := dps_get hxs (show (u.map unI0)[i]? = some (unI0 y) by rw [List.getElem?_map, hy]; rfl)
      rw [hx] at hx'
      cases hx'
      obtain ⟨b, ys, rfl, hSb, hys⟩ := dp_tup hdx
      obtain ⟨y0, ys, rfl, h0, hys⟩ := dps_cons hys
      obtain ⟨y1, ys, rfl, h1, hys⟩ := dps_cons hys
      obtain ⟨y2, ys, rfl, h2, hys⟩ := dps_cons hys
      cases dps_nil hys
      cases dp_str h0
      cases dp_int h1
      cases dp_int h2
      refine ⟨b, _, rfl, sqt_same sm _ _ hSb, rfl, _, _, rfl, _, _, rfl, _, _, rfl, rfl, ?_⟩
      refine ⟨rfl, ?_⟩
      have habs := hu.abs y (List.mem_of_getElem? hy)
      refine ⟨_, rfl, _, rfl, _, rfl, log_ok (by omega), ?_⟩
      have hpl : (("^" : Str) ++ Str.ofString (toString y.2)).length ≤ 5 := by
        have : ∀ n ∈ uPows, (("^" : Str) ++ Str.ofString (toString n)).length ≤ 5 := by decide
        exact this _ hyo.2
      have hnl : y.1.length ≤ 5 := by
        have : ∀ n ∈ uNames, n.length ≤ 5 := by decide
        exact this _ hyo.1
      refine .inr ⟨_, _, rfl, rfl, by rw [len_tl, tl_append, List.length_append, ← len_tl, ← len_tl] at hpl; exact sz (by omega), ?_⟩
      refine ⟨by show 2 ≤ sizeLine; decide, fun l nl => ?_⟩
      refine ⟨_, rfl, rfl, .inl (.inr ⟨_, rfl, ?_⟩)⟩
      have eT : itT y = y.1 ++ (if y.2 = 1 then ("" : Str) else ("^" : Str) ++ Str.ofString (toString y.2)) := rfl
      have htk : (u.take (i + 1)).map itT = (u.take i).map itT ++ [itT y] := by
        rw [List.take_succ, hy, List.map_append]
        rfl
      have hD2 := same_upd (o := .lst [.str "", .str (("^" : Str) ++ Str.ofString (toString y.2))]) nl _ _ hD
      have sm2 : Same H (upd H' l (.lst [.str "", .str (("^" : Str) ++ Str.ofString (toString y.2))])) := sm.trans (same_upd nl)
      have fin : ∀ z, z = itT y → ∃ acc, upd H' l (.lst [.str "", .str (("^" : Str) ++ Str.ofString (toString y.2))]) D = some (.lst acc) ∧ acc.length < sizeLine ∧ upd (upd H' l (.lst [.str "", .str (("^" : Str) ++ Str.ofString (toString y.2))])) D (.lst (acc ++ [.str z])) D = some (.lst (((u.take (i + 1)).map itT).map V.str)) ∧
          Same H (upd (upd H' l (.lst [.str "", .str (("^" : Str) ++ Str.ofString (toString y.2))])) D (.lst (acc ++ [.str z]))) := fun z hz => by
        subst hz
        refine ⟨_, hD2, ?_, ?_, same_put sm2 nD⟩
        · rw [List.length_map, List.length_map, List.length_take]
          have := hu.1
          exact len_ok (by omega)
        · rw [upd_same, htk, List.map_append]
          rfl
      rw [dec_int]
      by_cases h1 : y.2 = 1
      · have hb : (y.2 == 1) = true := by rw [h1]; rfl
        rw [hb]
        refine .inl ⟨l, _, _, .str "", rfl, rfl, SqL.of upd_same, rfl, .inr ⟨_, _, rfl, rfl, ?_, fin _ ?_⟩⟩
        · exact sz (by show _ + 0 ≤ _; omega)
        · rw [eT, if_pos h1]
      · have hb : (y.2 == 1) = false := beq_eq_false_iff_ne.mpr h1
        rw [hb]
        refine .inl ⟨l, _, _, .str _, rfl, rfl, SqL.of upd_same, rfl, .inr ⟨_, _, rfl, rfl, ?_, fin _ ?_⟩⟩
        · exact sz (by omega)
        · rw [eT, if_neg h1]
    · obtain ⟨hD, sm⟩ := hP
      rw [List.take_of_length_le (by omega)] at hD
      have hl := unT_len hu
      have hj : (("[" : Str) ++ Txt.join " " (u.map itT)).length + 1 ≤ 13 := by
        unfold unT at hl
        rw [len_tl, tl_append, List.length_append, ← len_tl, ← len_tl] at hl
        exact hl
      refine ⟨_, D, u.map itT, rfl, rfl, .inl (SqL.of hD), ?_, .inr ⟨_, _, rfl, rfl, ?_, .inr ⟨_, _, rfl, rfl, ?_, q _ sm⟩⟩⟩
      · have h1 : ((u.map itT).map (·.length)).sum ≤ 5 * u.length := by
          rw [List.map_map]
          have : ∀ l : Un, (∀ x ∈ l, x.1 ∈ uNames ∧ x.2 ∈ uPows) → (l.map ((·.length) ∘ itT)).sum ≤ 5 * l.length := by
            intro l
            induction l with
            | nil => intro _; exact Nat.le_refl _
            | cons x l ih =>
              intro h
              have h1 := ih fun y hy => h y (List.mem_cons_of_mem _ hy)
              have h2 := itT_len (h x (by simp))
              simp only [List.map_cons, List.sum_cons, List.length_cons, Function.comp]
              omega
          exact this u hu.2
        have := hu.1
        rw [List.length_map]
        show _ + u.length * 1 ≤ _
        omega
      · rw [len_tl, tl_append, List.length_append, ← len_tl, ← len_tl] at hj
        exact sz (by omega)
      · exact sz (by show _ + 1 ≤ _; omega)
end
end Tk

namespace Tk
open PySem PySem.Spec PyProof.Rows L2 Ly Lx TL Px Lw
section
variable {P : Program} {w : World} {K : PySem.W.Frag} {mg : Str → Option Value} {base : Heap}
def sp_text (K : PySem.W.Frag) (d : Nat) : Sp := fun vs H Q _ => ∃ (v : V) (e : Ex), vs = [v] ∧ Dp K H v (tr0 e) ∧ DrE d e ∧ ∀ H', Same H H' → Q (.str (exT e)) H'
def sp_tsub (K : PySem.W.Frag) (d : Nat) : Sp := fun vs H Q E => ∃ d', d = d' + 1 ∧ sp_text K d' vs H Q E
theorem scx_law_text : FnScope ["e", "head", "sign", "one"] ["e"] (defScope s_law_text) := ⟨rfl, rfl, rfl, by decide +kernel, rfl, by decide +kernel, by decide +kernel⟩
abbrev eHeads : List Str := ["number", "bool", "var", "call", "iterate", "power", "not", "if", "let"]
theorem opn_ne : ∀ s ∈ dSigns, ∀ h ∈ eHeads, decide (V.str (opName s) = V.str h) = false := by decide
abbrev signsD : List (Key × V) := [(.inr "add", .str "+"), (.inr "sub", .str "-"), (.inr "mul", .str "*"), (.inr "div", .str "/"), (.inr "lt", .str "<"), (.inr "le", .str "<="), (.inr "eq", .str "=="), (.inr "and", .str "and"), (.inr "or", .str "or")]
theorem signs_get : ∀ s ∈ dSigns, some (V.str s) = valV (mergeK [] signsD) (.inr (opName s)) := by decide
theorem tb_small {d : Nat} (h : d ≤ 4) : tb d ≤ 5000 := by
  match d, h with
  | 0, _ => decide
  | 1, _ => decide
  | 2, _ => decide
  | 3, _ => decide
  | 4, _ => decide
theorem dNames_len {w : Str} (h : w ∈ dNames) : w.length ≤ 3 := by
  have : ∀ w ∈ dNames, w.length ≤ 3 := by decide
  exact this w h
theorem dSigns_len {w : Str} (h : w ∈ dSigns) : w.length ≤ 3 := by
  have : ∀ w ∈ dSigns, w.length ≤ 3 := by decide
  exact this w h
def isCall : Ex → Bool
  | .call0 _ => true
  | .call1 _ _ => true
  | .call2 _ _ _ => true
  | _ => false
theorem call_view {d : Nat} {e : Ex} (h : DrE d e) : (∃ (w : Str) (es : List Ex) (d' : Nat), d = d' + 1 ∧ w ∈ dNames ∧ (∀ x ∈ es, DrE d' x) ∧ es.length ≤ 2 ∧ tr0 e = .tuple [.str "call", .str w, .tuple (es.map tr0), .int 0] ∧ exT e = w ++ "(" ++ Txt.join ", " (es.map exT) ++ ")") ∨ isCall e = false := by
  cases h with
  | @call0 d w hw => exact .inl ⟨w, [], d, rfl, hw, by simp, by simp, rfl, exT_call0 w⟩
  | @call1 d w a hw ha => exact .inl ⟨w, [a], d, rfl, hw, by simpa using ha, by simp, rfl, exT_call1 w a⟩
  | @call2 d w a b hw ha hb => exact .inl ⟨w, [a, b], d, rfl, hw, by simpa using ⟨ha, hb⟩, by simp, rfl, exT_call2 w a b⟩
  | _ => exact .inr rfl
theorem join_le {y : Str} {l : List Str} {m : Nat} (h : ∀ x ∈ l, x.length ≤ m) : (l.map (·.length)).sum + l.length * y.length ≤ l.length * (m + y.length) := by
  induction l with
  | nil => simp
  | cons x l ih =>
    have h1 := ih fun z hz => h z (List.mem_cons_of_mem _ hz)
    have h2 := h x (by simp)
    simp only [List.map_cons, List.sum_cons, List.length_cons, Nat.add_mul, Nat.one_mul] at h1 ⊢
    omega
theorem joinL_len (S : List Nat) : ∀ l : List (List Nat), (joinL S l).length ≤ (l.map (·.length)).sum + l.length * S.length
  | [] => by simp [joinL]
  | [p] => by
    show p.length ≤ p.length + 0 + 1 * S.length
    omega
  | p :: q :: r => by
    have ih := joinL_len S (q :: r)
    show (p ++ (S ++ joinL S (q :: r))).length ≤ _
    simp only [List.length_append, List.map_cons, List.sum_cons, List.length_cons, Nat.add_mul, Nat.one_mul] at ih ⊢
    omega
theorem join_len {y : Str} {l : List Str} : (Txt.join y l).length ≤ (l.map (·.length)).sum + l.length * y.length := by
  have h := joinL_len (tl y) (l.map tl)
  rw [len_tl, tlj]
  have e : ((l.map tl).map (·.length)).sum = (l.map (·.length)).sum := by
    rw [List.map_map]
    have : (fun x : Str => x.length) = ((fun x : List Nat => x.length) ∘ tl) := funext fun x => len_tl x
    rw [this]
  rw [e, List.length_map] at h
  rw [len_tl y]
  exact h
theorem text_step (T : Top w K mg) {d k : Nat} (hd4 : d ≤ 4) (hk : 1 ≤ k) (hR : FnOk P w K mg base CX0 k T.a_law_text T.fd_law_text ["e"] (sp_tsub K d)) :
    FnOk P w K mg base CX0 (k + 1) T.a_law_text T.fd_law_text ["e"] (sp_text K d) := by
  refine T.F_law_text.ok scx_law_text (fun vs H Q E h => ?_) (fun cdv A outer s H vs Q E hr h => ?_)
  · obtain ⟨v, e, rfl, _⟩ := h
    rfl
  · obtain ⟨v, e, rfl, hdp, hde, q⟩ := h
    have hb5 := tb_small hd4
    refine ⟨_, (pss_cons (ps_set (i := 1) scx_law_text.nd rfl (.inl rfl) (by exact (pe_ix ix_seq (pv 0) pe_int (fun _ _ => rfl))))
      (pss_cons (ps_if (pt_cmpR op_eq (pv 1) pe_str (nomark _))
      (pss_one (ps_ret (pe_op op_plus (pe_call (ok_law_number T) (hr.mono (by first | decide | omega)) (by rfl) T.m_law_number T.F_law_number.kp T.b_law_number .nil pass0 (pa_cons (pe_ix ix_seq (pv 0) pe_int (fun _ _ => rfl)) pa_nil)) (pe_ix ix_seq (pe_lst (pa_cons pe_str (pa_cons (pe_op op_plus pe_str (pe_call (ok_law_units T) (hr.mono (by first | decide | omega)) (by rfl) T.m_law_units T.F_law_units.kp T.b_law_units .nil pass0 (pa_cons (pe_ix ix_seq (pv 0) pe_int (fun _ _ => rfl)) pa_nil))) pa_nil))) (pe_callTy call_intX (by rfl) T.n_int bt_int (pa_cons (pe_cmpR op_gt (pe_callB call_len (by rfl) T.n_len bt_len (pa_cons (pe_ix ix_seq (pv 0) pe_int (fun _ _ => rfl)) pa_nil)) pe_int (nomark _)) pa_nil)) (fun _ _ => rfl)))))
      pss_nil)
      (pss_cons (ps_if (pt_cmpR op_eq (pv 1) pe_str (nomark _))
      (pss_one (ps_ret (pe_ix ix_seq (pe_lst (pa_cons pe_str (pa_cons pe_str pa_nil))) (pe_callTy call_intX (by rfl) T.n_int bt_int (pa_cons (pe_ix ix_seq (pv 0) pe_int (fun _ _ => rfl)) pa_nil)) (fun _ _ => rfl))))
      pss_nil)
      (pss_cons (ps_if (pt_cmpR op_eq (pv 1) pe_str (nomark _))
      (pss_one (ps_ret (pe_ix ix_seq (pv 0) pe_int (fun _ _ => rfl))))
      pss_nil)
      (pss_cons (ps_if (pt_cmpR op_eq (pv 1) pe_str (nomark _))
      (pss_one (ps_ret (pe_op op_plus (pe_op op_plus (pe_op op_plus (pe_ix ix_seq (pv 0) pe_int (fun _ _ => rfl)) pe_str) (pe_join pe_str (pe_lc (own := [("one", 3)]) (g := gName 3) (tt := tYes) (by rfl) scx_law_text.nd (pi_tup (pe_ix ix_seq (pv 0) pe_int (fun _ _ => rfl))) (blkOk_by (own := [("one", 3)]) (N := ["e", "head", "sign", "one"]) (sc := defScope s_law_text) (by decide +kernel))
      (fun _ _ _ _ _ => pg_name (i := 3) scx_law_text.nd rfl (Or.inl rfl)) (fun _ _ _ _ _ => pts_nil) (fun _ _ _ _ _ => (pe_call hR (hr.mono (by first | decide | omega)) (by rfl) T.m_law_text T.F_law_text.kp T.b_law_text .nil pass0 (pa_cons (pv 3) pa_nil)))))) pe_str)))
      pss_nil)
      (pss_cons (ps_if (pt_cmpR op_eq (pv 1) pe_str (nomark _))
      (pss_one (ps_ret (pe_op op_plus (pe_op op_plus (pe_op op_plus (pe_op op_plus (pe_op op_plus (pe_op op_plus pe_str (pe_ix ix_seq (pv 0) pe_int (fun _ _ => rfl))) pe_str) (pe_callTy call_str_int (by rfl) T.n_str bt_str (pa_cons (pe_ix ix_seq (pv 0) pe_int (fun _ _ => rfl)) pa_nil))) pe_str) (pe_call hR (hr.mono (by first | decide | omega)) (by rfl) T.m_law_text T.F_law_text.kp T.b_law_text .nil pass0 (pa_cons (pe_ix ix_seq (pv 0) pe_int (fun _ _ => rfl)) pa_nil))) pe_str)))
      pss_nil)
      (pss_cons (ps_if (pt_cmpR op_eq (pv 1) pe_str (nomark _))
      (pss_one (ps_ret (pe_op op_plus (pe_op op_plus (pe_op op_plus pe_str (pe_call hR (hr.mono (by first | decide | omega)) (by rfl) T.m_law_text T.F_law_text.kp T.b_law_text .nil pass0 (pa_cons (pe_ix ix_seq (pv 0) pe_int (fun _ _ => rfl)) pa_nil))) pe_str) (pe_callTy call_str_int (by rfl) T.n_str bt_str (pa_cons (pe_ix ix_seq (pv 0) pe_int (fun _ _ => rfl)) pa_nil)))))
      pss_nil)
      (pss_cons (ps_if (pt_cmpR op_eq (pv 1) pe_str (nomark _))
      (pss_one (ps_ret (pe_op op_plus (pe_op op_plus pe_str (pe_call hR (hr.mono (by first | decide | omega)) (by rfl) T.m_law_text T.F_law_text.kp T.b_law_text .nil pass0 (pa_cons (pe_ix ix_seq (pv 0) pe_int (fun _ _ => rfl)) pa_nil))) pe_str)))
      pss_nil)
      (pss_cons (ps_if (pt_cmpR op_eq (pv 1) pe_str (nomark _))
      (pss_one (ps_ret (pe_op op_plus (pe_op op_plus (pe_op op_plus (pe_op op_plus (pe_op op_plus (pe_op op_plus pe_str (pe_call hR (hr.mono (by first | decide | omega)) (by rfl) T.m_law_text T.F_law_text.kp T.b_law_text .nil pass0 (pa_cons (pe_ix ix_seq (pv 0) pe_int (fun _ _ => rfl)) pa_nil))) pe_str) (pe_call hR (hr.mono (by first | decide | omega)) (by rfl) T.m_law_text T.F_law_text.kp T.b_law_text .nil pass0 (pa_cons (pe_ix ix_seq (pv 0) pe_int (fun _ _ => rfl)) pa_nil))) pe_str) (pe_call hR (hr.mono (by first | decide | omega)) (by rfl) T.m_law_text T.F_law_text.kp T.b_law_text .nil pass0 (pa_cons (pe_ix ix_seq (pv 0) pe_int (fun _ _ => rfl)) pa_nil))) pe_str)))
      pss_nil)
      (pss_cons (ps_if (pt_cmpR op_eq (pv 1) pe_str (nomark _))
      (pss_one (ps_ret (pe_op op_plus (pe_op op_plus (pe_op op_plus (pe_op op_plus (pe_op op_plus (pe_op op_plus pe_str (pe_ix ix_seq (pv 0) pe_int (fun _ _ => rfl))) pe_str) (pe_call hR (hr.mono (by first | decide | omega)) (by rfl) T.m_law_text T.F_law_text.kp T.b_law_text .nil pass0 (pa_cons (pe_ix ix_seq (pv 0) pe_int (fun _ _ => rfl)) pa_nil))) pe_str) (pe_call hR (hr.mono (by first | decide | omega)) (by rfl) T.m_law_text T.F_law_text.kp T.b_law_text .nil pass0 (pa_cons (pe_ix ix_seq (pv 0) pe_int (fun _ _ => rfl)) pa_nil))) pe_str)))
      pss_nil)
      (pss_cons (ps_set (i := 2) scx_law_text.nd rfl (.inl rfl) (by exact (pe_dget (hu_of1 hr) (pe_disp (pps_cons pe_str pe_str (pps_cons pe_str pe_str (pps_cons pe_str pe_str (pps_cons pe_str pe_str (pps_cons pe_str pe_str (pps_cons pe_str pe_str (pps_cons pe_str pe_str (pps_cons pe_str pe_str (pps_cons pe_str pe_str pps_nil))))))))) rfl rfl (by simp) (by decide)) (pv 1) (fun _ _ => rfl))))
      (pss_one (ps_ret (pe_op op_plus (pe_op op_plus (pe_op op_plus (pe_op op_plus (pe_op op_plus (pe_op op_plus pe_str (pe_call hR (hr.mono (by first | decide | omega)) (by rfl) T.m_law_text T.F_law_text.kp T.b_law_text .nil pass0 (pa_cons (pe_ix ix_seq (pv 0) pe_int (fun _ _ => rfl)) pa_nil))) pe_str) (pv 2)) pe_str) (pe_call hR (hr.mono (by first | decide | omega)) (by rfl) T.m_law_text T.F_law_text.kp T.b_law_text .nil pass0 (pa_cons (pe_ix ix_seq (pv 0) pe_int (fun _ _ => rfl)) pa_nil))) pe_str)))))))))))))), ?_⟩
    rcases call_view hde with ⟨w, es, d', rfl, hw, hes, hel, htr, hex⟩ | hnc
    · rw [htr] at hdp
      have hb' : tb d' ≤ 5000 := tb_small (by omega)
      obtain ⟨a, xs, rfl, hS, hxs⟩ := dp_tup hdp
      obtain ⟨y0, xs, rfl, h0, hxs⟩ := dps_cons hxs
      obtain ⟨y1, xs, rfl, h1, hxs⟩ := dps_cons hxs
      obtain ⟨y2, xs, rfl, h2, hxs⟩ := dps_cons hxs
      cases dp_str h0
      cases dp_str h1
      obtain ⟨a2, zs, rfl, hS2, hzs⟩ := dp_tup h2
      have hzl : zs.length = es.length := by rw [dps_len hzs, List.length_map]
      have hwl := dNames_len hw
      refine ⟨_, rfl, .inr (.inl ⟨a, _, _, _, rfl, rfl, hS, at_eq (n := 0) rfl rfl, ?_⟩)⟩
      refine ⟨_, rfl, rfl, ⟨false, by decide, iteF ?_⟩⟩
      refine ⟨_, rfl, rfl, ⟨false, by decide, iteF ?_⟩⟩
      refine ⟨_, rfl, rfl, ⟨false, by decide, iteF ?_⟩⟩
      refine ⟨_, rfl, rfl, ⟨true, by decide, iteT ?_⟩⟩
      refine ⟨_, rfl, .inr (.inl ⟨a, _, _, _, rfl, rfl, hS, at_eq (n := 1) rfl rfl, .inr ⟨_, _, rfl, rfl, sz (by show _ + 1 ≤ _; omega), ⟨_, rfl⟩, _, rfl, .inr (.inl ⟨a, _, _, _, rfl, rfl, hS, at_eq (n := 2) rfl rfl, a2, rfl, ⟨zs, hS2⟩, fun D nD => ?_⟩)⟩⟩)⟩
      refine lc_tup (K := K) (a := a2) (xs := zs) (fun i H' => H' D = some (.lst (((es.take i).map exT).map V.str)) ∧ Same H H') ⟨upd_same, same_upd nD⟩ (fun i H' _ hP => sqt_same hP.2 _ _ hS2) (fun i x H' hx hP => ?_) (fun H' hP => ?_)
      · obtain ⟨hD, sm⟩ := hP
        have hi : i < es.length := by
          have := (List.getElem?_eq_some_iff.mp hx).1
          omega
        obtain ⟨y, hy⟩ : ∃ y, es[i]? = some y := ⟨_, List.getElem?_eq_getElem hi⟩
        obtain ⟨x', hx', hdx⟩ := dps_get hzs (show (es.map tr0)[i]? = some (tr0 y) by rw [List.getElem?_map, hy]; rfl)
        rw [hx] at hx'
        cases hx'
        refine ⟨rfl, ?_⟩
        refine ⟨_, rfl, d', rfl, x, y, rfl, dp_same sm (tr0_no y) hdx, hes y (List.mem_of_getElem? hy), fun H2 s2 => ?_⟩
        refine ⟨_, s2 _ _ hD, ?_, ?_, same_put (sm.trans s2) nD⟩
        · rw [List.length_map, List.length_map, List.length_take]
          exact len_ok (by omega)
        · rw [upd_same, List.take_succ, hy]
          show _ = some (HO.lst (List.map V.str (List.map exT (_ ++ [y]))))
          rw [List.map_append, List.map_append]
          rfl
      · obtain ⟨hD, sm⟩ := hP
        rw [List.take_of_length_le (by omega)] at hD
        have hj : ((es.map exT).map (·.length)).sum + (es.map exT).length * (", " : Str).length ≤ 20000 := by
          have h1 := join_le (y := ", ") (l := es.map exT) (m := 5000) (fun x hx => by
            obtain ⟨z, hz, rfl⟩ := List.mem_map.mp hx
            exact Nat.le_trans (exT_len (hes z hz)) hb')
          have h2 : (es.map exT).length * (5000 + (", " : Str).length) ≤ 2 * 5002 := Nat.mul_le_mul (by rw [List.length_map]; omega) (by decide)
          omega
        have hjl := Nat.le_trans (join_len (y := ", ") (l := es.map exT)) hj
        have hwp : (w ++ ("(" : Str)).length ≤ 4 := by
          rw [sapp_len]
          show _ + 1 ≤ _
          omega
        refine ⟨_, D, es.map exT, rfl, rfl, .inl (SqL.of hD), Nat.le_trans hj (by decide), .inr ⟨_, _, rfl, rfl, sz (by omega), .inr ⟨_, _, rfl, rfl, sz (by rw [sapp_len]; show _ + 1 ≤ _; omega), ?_⟩⟩⟩
        rw [hex] at q
        exact q _ sm
    have hty : ∀ {z : Ex} {d' : Nat}, d = d' + 1 → DrE d' z → (exT z).length ≤ 5000 := fun {z d'} h hz => Nat.le_trans (exT_len hz) (tb_small (by omega))
    cases hde with
    | @num d w t b u hp hu =>
      obtain ⟨a, xs, rfl, hS, hxs⟩ := dp_tup hdp
      obtain ⟨y0, xs, rfl, h0, hxs⟩ := dps_cons hxs
      obtain ⟨y1, xs, rfl, h1, hxs⟩ := dps_cons hxs
      obtain ⟨y2, xs, rfl, h2, hxs⟩ := dps_cons hxs
      cases dp_str h0
      obtain ⟨na, zs, rfl, hSn, hzs⟩ := dp_tup h1
      obtain ⟨z0, zs, rfl, g0, hzs⟩ := dps_cons hzs
      obtain ⟨z1, zs, rfl, g1, hzs⟩ := dps_cons hzs
      cases dps_nil hzs
      cases dp_int g0
      cases dp_int g1
      obtain ⟨ua, us, rfl, hSu, hus⟩ := dp_tup h2
      have hul : us.length = u.length := by rw [dps_len hus, List.length_map]
      have hun := unT_len hu
      have hwl : (mk w).length ≤ 6 := by
        rw [mk_len]
        exact numD_len hp
      have hsp : ((" " : Str) ++ unT u).length ≤ 14 := by
        rw [sapp_len]
        show 1 + _ ≤ _
        omega
      refine ⟨_, rfl, .inr (.inl ⟨a, _, _, _, rfl, rfl, hS, at_eq (n := 0) rfl rfl, ?_⟩)⟩
      refine ⟨_, rfl, rfl, ⟨true, by decide, iteT ?_⟩⟩
      refine ⟨_, rfl, .inr (.inl ⟨a, _, _, _, rfl, rfl, hS, at_eq (n := 1) rfl rfl, na, (w, t, b), rfl, hSn, hp, ?_⟩)⟩
      refine ⟨_, rfl, .inr (.inl ⟨a, _, _, _, rfl, rfl, hS, at_eq (n := 2) rfl rfl, _, u, rfl, h2, hu, fun H1 s1 => ?_⟩)⟩
      refine .inr ⟨_, _, rfl, rfl, sz (by show 1 + _ ≤ _; omega), by show 2 ≤ sizeLine; decide, fun l nl => ?_⟩
      have sl := same_upd (o := .lst [.str "", .str ((" " : Str) ++ unT u)]) nl
      refine ⟨_, rfl, .inr (.inl ⟨a, _, _, _, rfl, rfl, sqt_same (s1.trans sl) _ _ hS, at_eq (n := 2) rfl rfl, _, us.length, rfl, .inr ⟨_, sqt_same (s1.trans sl) _ _ hSu, rfl⟩, _, _, rfl, rfl, .inl (.inr ⟨_, rfl, ?_⟩)⟩)⟩
      have fin : ∀ z, mk w ++ z = exT (.num w t b u) → Q (.str (mk w ++ z)) (upd H1 l (.lst [.str "", .str ((" " : Str) ++ unT u)])) := fun z e => by
        rw [e]
        exact q _ (s1.trans sl)
      rw [exT_num w t b u hu] at fin
      by_cases hu0 : u = []
      · have e : decide ((0 : Int) < (us.length : Int)) = false := by
          rw [hul, hu0]
          decide
        rw [e]
        refine .inl ⟨l, _, _, .str "", rfl, rfl, SqL.of upd_same, rfl, .inr ⟨_, _, rfl, rfl, sz (by show (mk w).length + 0 ≤ _; omega), fin _ ?_⟩⟩
        rw [if_pos hu0]
      · have e : decide ((0 : Int) < (us.length : Int)) = true := by
          have : 0 < u.length := List.length_pos_iff.mpr hu0
          exact decide_eq_true (by omega)
        rw [e]
        refine .inl ⟨l, _, _, .str _, rfl, rfl, SqL.of upd_same, rfl, .inr ⟨_, _, rfl, rfl, sz (by show (mk w).length + _ ≤ _; omega), fin _ ?_⟩⟩
        rw [if_neg hu0]
    | @bl d v =>
      obtain ⟨a, xs, rfl, hS, hxs⟩ := dp_tup hdp
      obtain ⟨y0, xs, rfl, h0, hxs⟩ := dps_cons hxs
      obtain ⟨y1, xs, rfl, h1, hxs⟩ := dps_cons hxs
      cases dp_str h0
      cases dp_bool h1
      refine ⟨_, rfl, .inr (.inl ⟨a, _, _, _, rfl, rfl, hS, at_eq (n := 0) rfl rfl, ?_⟩)⟩
      refine ⟨_, rfl, rfl, ⟨false, by decide, iteF ?_⟩⟩
      refine ⟨_, rfl, rfl, ⟨true, by decide, iteT ?_⟩⟩
      refine ⟨by show 2 ≤ sizeLine; decide, fun l nl => ?_⟩
      have sl := same_upd (o := .lst [.str "false", .str "true"]) nl
      refine ⟨_, rfl, .inr (.inl ⟨a, _, _, _, rfl, rfl, sqt_same sl _ _ hS, at_eq (n := 1) rfl rfl, .inl (.inr ⟨_, rfl, ?_⟩)⟩)⟩
      rw [exT_bl] at q
      cases v
      · exact .inl ⟨l, _, _, .str "false", rfl, rfl, SqL.of upd_same, rfl, q _ sl⟩
      · exact .inl ⟨l, _, _, .str "true", rfl, rfl, SqL.of upd_same, rfl, q _ sl⟩
    | @var d w hw =>
      obtain ⟨a, xs, rfl, hS, hxs⟩ := dp_tup hdp
      obtain ⟨y0, xs, rfl, h0, hxs⟩ := dps_cons hxs
      obtain ⟨y1, xs, rfl, h1, hxs⟩ := dps_cons hxs
      cases dp_str h0
      cases dp_str h1
      refine ⟨_, rfl, .inr (.inl ⟨a, _, _, _, rfl, rfl, hS, at_eq (n := 0) rfl rfl, ?_⟩)⟩
      refine ⟨_, rfl, rfl, ⟨false, by decide, iteF ?_⟩⟩
      refine ⟨_, rfl, rfl, ⟨false, by decide, iteF ?_⟩⟩
      refine ⟨_, rfl, rfl, ⟨true, by decide, iteT ?_⟩⟩
      rw [exT_var] at q
      exact ⟨_, rfl, .inr (.inl ⟨a, _, _, _, rfl, rfl, hS, at_eq (n := 1) rfl rfl, q _ (Same.refl _)⟩)⟩
    | call0 _ => cases hnc
    | call1 _ _ => cases hnc
    | call2 _ _ _ => cases hnc
    | @iter d w n e hw hn he =>
      obtain ⟨a, xs, rfl, hS, hxs⟩ := dp_tup hdp
      obtain ⟨y0, xs, rfl, h0, hxs⟩ := dps_cons hxs
      obtain ⟨y1, xs, rfl, h1, hxs⟩ := dps_cons hxs
      obtain ⟨y2, xs, rfl, h2, hxs⟩ := dps_cons hxs
      obtain ⟨y3, xs, rfl, h3, hxs⟩ := dps_cons hxs
      obtain ⟨y4, xs, rfl, h4, hxs⟩ := dps_cons hxs
      cases dp_str h0
      cases dp_str h1
      cases dp_int h2
      refine ⟨_, rfl, .inr (.inl ⟨a, _, _, _, rfl, rfl, hS, at_eq (n := 0) rfl rfl, ?_⟩)⟩
      refine ⟨_, rfl, rfl, ⟨false, by decide, iteF ?_⟩⟩
      refine ⟨_, rfl, rfl, ⟨false, by decide, iteF ?_⟩⟩
      refine ⟨_, rfl, rfl, ⟨false, by decide, iteF ?_⟩⟩
      refine ⟨_, rfl, rfl, ⟨false, by decide, iteF ?_⟩⟩
      refine ⟨_, rfl, rfl, ⟨true, by decide, iteT ?_⟩⟩
      have hwl := dNames_len hw
      have hel := hty rfl he
      have hnl : (Str.ofString (toString (n : Int))).length ≤ 4 := by
        rw [numS, mk_len]
        have := numL_len (k := 3) (by decide) (n := n) (by omega)
        omega
      have q1 := fun H' s => q H' s
      rw [exT_iter] at q
      have l1 : (("iterate " : Str) ++ w).length ≤ 11 := by
        rw [sapp_len]
        show 8 + _ ≤ _
        omega
      have l2 : (("iterate " : Str) ++ w ++ " ").length ≤ 12 := by
        rw [sapp_len]
        show _ + 1 ≤ _
        omega
      have l3 : (("iterate " : Str) ++ w ++ " " ++ Str.ofString (toString (n : Int))).length ≤ 16 := by
        rw [sapp_len]
        omega
      have l4 : (("iterate " : Str) ++ w ++ " " ++ Str.ofString (toString (n : Int)) ++ " from (").length ≤ 24 := by
        rw [sapp_len]
        show _ + 7 ≤ _
        omega
      have l5 : (("iterate " : Str) ++ w ++ " " ++ Str.ofString (toString (n : Int)) ++ " from (" ++ exT e).length ≤ 5024 := by
        rw [sapp_len]
        omega
      refine ⟨_, rfl, .inr (.inl ⟨a, _, _, _, rfl, rfl, hS, at_eq (n := 1) rfl rfl, .inr ⟨_, _, rfl, rfl, sz (by show 8 + _ ≤ _; omega), .inr ⟨_, _, rfl, rfl, sz (by show _ + 1 ≤ _; omega), ?_⟩⟩⟩)⟩
      refine ⟨_, rfl, .inr (.inl ⟨a, _, _, _, rfl, rfl, hS, at_eq (n := 2) rfl rfl, _, rfl, log_ok (by omega), .inr ⟨_, _, rfl, rfl, sz (by omega), .inr ⟨_, _, rfl, rfl, sz (by show _ + 7 ≤ _; omega), ?_⟩⟩⟩)⟩
      refine ⟨_, rfl, .inr (.inl ⟨a, _, _, _, rfl, rfl, hS, at_eq (n := 3) rfl rfl, _, rfl, y3, e, rfl, h3, he, fun H1 s1 => ?_⟩)⟩
      exact .inr ⟨_, _, rfl, rfl, sz (by omega), .inr ⟨_, _, rfl, rfl, sz (by show _ + 1 ≤ _; omega), q _ s1⟩⟩
    | @pow d e n hn he =>
      obtain ⟨a, xs, rfl, hS, hxs⟩ := dp_tup hdp
      obtain ⟨y0, xs, rfl, h0, hxs⟩ := dps_cons hxs
      obtain ⟨y1, xs, rfl, h1, hxs⟩ := dps_cons hxs
      obtain ⟨y2, xs, rfl, h2, hxs⟩ := dps_cons hxs
      obtain ⟨y3, xs, rfl, h3, hxs⟩ := dps_cons hxs
      cases dp_str h0
      cases dp_int h2
      refine ⟨_, rfl, .inr (.inl ⟨a, _, _, _, rfl, rfl, hS, at_eq (n := 0) rfl rfl, ?_⟩)⟩
      refine ⟨_, rfl, rfl, ⟨false, by decide, iteF ?_⟩⟩
      refine ⟨_, rfl, rfl, ⟨false, by decide, iteF ?_⟩⟩
      refine ⟨_, rfl, rfl, ⟨false, by decide, iteF ?_⟩⟩
      refine ⟨_, rfl, rfl, ⟨false, by decide, iteF ?_⟩⟩
      refine ⟨_, rfl, rfl, ⟨false, by decide, iteF ?_⟩⟩
      refine ⟨_, rfl, rfl, ⟨true, by decide, iteT ?_⟩⟩
      have hel := hty rfl he
      have hnl : (Str.ofString (toString n)).length ≤ 4 := by
        have h1 := pw_text n hn []
        have h2 := pw_len n hn
        rw [h1, List.append_nil, ← len_tl] at h2
        exact h2
      rw [exT_pow e n hn] at q
      have l1 : (("(" : Str) ++ exT e).length ≤ 5001 := by
        rw [sapp_len]
        show 1 + _ ≤ _
        omega
      have l2 : (("(" : Str) ++ exT e ++ ")^").length ≤ 5003 := by
        rw [sapp_len]
        show _ + 2 ≤ _
        omega
      refine ⟨_, rfl, .inr (.inl ⟨a, _, _, _, rfl, rfl, hS, at_eq (n := 1) rfl rfl, _, rfl, y1, e, rfl, h1, he, fun H1 s1 => ?_⟩)⟩
      refine .inr ⟨_, _, rfl, rfl, sz (by show 1 + _ ≤ _; omega), .inr ⟨_, _, rfl, rfl, sz (by show _ + 2 ≤ _; omega), ?_⟩⟩
      exact ⟨_, rfl, .inr (.inl ⟨a, _, _, _, rfl, rfl, sqt_same s1 _ _ hS, at_eq (n := 2) rfl rfl, _, rfl, log_ok (by omega), .inr ⟨_, _, rfl, rfl, sz (by omega), q _ s1⟩⟩)⟩
    | @no d e he =>
      obtain ⟨a, xs, rfl, hS, hxs⟩ := dp_tup hdp
      obtain ⟨y0, xs, rfl, h0, hxs⟩ := dps_cons hxs
      obtain ⟨y1, xs, rfl, h1, hxs⟩ := dps_cons hxs
      obtain ⟨y2, xs, rfl, h2, hxs⟩ := dps_cons hxs
      cases dp_str h0
      refine ⟨_, rfl, .inr (.inl ⟨a, _, _, _, rfl, rfl, hS, at_eq (n := 0) rfl rfl, ?_⟩)⟩
      refine ⟨_, rfl, rfl, ⟨false, by decide, iteF ?_⟩⟩
      refine ⟨_, rfl, rfl, ⟨false, by decide, iteF ?_⟩⟩
      refine ⟨_, rfl, rfl, ⟨false, by decide, iteF ?_⟩⟩
      refine ⟨_, rfl, rfl, ⟨false, by decide, iteF ?_⟩⟩
      refine ⟨_, rfl, rfl, ⟨false, by decide, iteF ?_⟩⟩
      refine ⟨_, rfl, rfl, ⟨false, by decide, iteF ?_⟩⟩
      refine ⟨_, rfl, rfl, ⟨true, by decide, iteT ?_⟩⟩
      have hel := hty rfl he
      rw [exT_no] at q
      have l1 : (("(not (" : Str) ++ exT e).length ≤ 5006 := by
        rw [sapp_len]
        show 6 + _ ≤ _
        omega
      refine ⟨_, rfl, .inr (.inl ⟨a, _, _, _, rfl, rfl, hS, at_eq (n := 1) rfl rfl, _, rfl, y1, e, rfl, h1, he, fun H1 s1 => ?_⟩)⟩
      exact .inr ⟨_, _, rfl, rfl, sz (by show 6 + _ ≤ _; omega), .inr ⟨_, _, rfl, rfl, sz (by show _ + 2 ≤ _; omega), q _ s1⟩⟩
    | @cond d x y z hx hy hz =>
      obtain ⟨a, xs, rfl, hS, hxs⟩ := dp_tup hdp
      obtain ⟨y0, xs, rfl, h0, hxs⟩ := dps_cons hxs
      obtain ⟨y1, xs, rfl, h1, hxs⟩ := dps_cons hxs
      obtain ⟨y2, xs, rfl, h2, hxs⟩ := dps_cons hxs
      obtain ⟨y3, xs, rfl, h3, hxs⟩ := dps_cons hxs
      obtain ⟨y4, xs, rfl, h4, hxs⟩ := dps_cons hxs
      cases dp_str h0
      refine ⟨_, rfl, .inr (.inl ⟨a, _, _, _, rfl, rfl, hS, at_eq (n := 0) rfl rfl, ?_⟩)⟩
      refine ⟨_, rfl, rfl, ⟨false, by decide, iteF ?_⟩⟩
      refine ⟨_, rfl, rfl, ⟨false, by decide, iteF ?_⟩⟩
      refine ⟨_, rfl, rfl, ⟨false, by decide, iteF ?_⟩⟩
      refine ⟨_, rfl, rfl, ⟨false, by decide, iteF ?_⟩⟩
      refine ⟨_, rfl, rfl, ⟨false, by decide, iteF ?_⟩⟩
      refine ⟨_, rfl, rfl, ⟨false, by decide, iteF ?_⟩⟩
      refine ⟨_, rfl, rfl, ⟨false, by decide, iteF ?_⟩⟩
      refine ⟨_, rfl, rfl, ⟨true, by decide, iteT ?_⟩⟩
      have e1 := hty rfl hx
      have e2 := hty rfl hy
      have e3 := hty rfl hz
      rw [exT_cond] at q
      have l1 : (("(if " : Str) ++ exT x).length ≤ 5004 := by
        rw [sapp_len]
        show 4 + _ ≤ _
        omega
      have l2 : (("(if " : Str) ++ exT x ++ " then ").length ≤ 5010 := by
        rw [sapp_len]
        show _ + 6 ≤ _
        omega
      have l3 : (("(if " : Str) ++ exT x ++ " then " ++ exT y).length ≤ 10010 := by
        rw [sapp_len]
        omega
      have l4 : (("(if " : Str) ++ exT x ++ " then " ++ exT y ++ " else ").length ≤ 10016 := by
        rw [sapp_len]
        show _ + 6 ≤ _
        omega
      have l5 : (("(if " : Str) ++ exT x ++ " then " ++ exT y ++ " else " ++ exT z).length ≤ 15016 := by
        rw [sapp_len]
        omega
      refine ⟨_, rfl, .inr (.inl ⟨a, _, _, _, rfl, rfl, hS, at_eq (n := 1) rfl rfl, _, rfl, y1, x, rfl, h1, hx, fun H1 s1 => ?_⟩)⟩
      refine .inr ⟨_, _, rfl, rfl, sz (by show 4 + _ ≤ _; omega), .inr ⟨_, _, rfl, rfl, sz (by show _ + 6 ≤ _; omega), ?_⟩⟩
      refine ⟨_, rfl, .inr (.inl ⟨a, _, _, _, rfl, rfl, sqt_same (s1) _ _ hS, at_eq (n := 2) rfl rfl, _, rfl, y2, y, rfl, dp_same (s1) (tr0_no _) h2, hy, fun H2 s2 => ?_⟩)⟩
      refine .inr ⟨_, _, rfl, rfl, sz (by omega), .inr ⟨_, _, rfl, rfl, sz (by show _ + 6 ≤ _; omega), ?_⟩⟩
      refine ⟨_, rfl, .inr (.inl ⟨a, _, _, _, rfl, rfl, sqt_same (s1.trans s2) _ _ hS, at_eq (n := 3) rfl rfl, _, rfl, y3, z, rfl, dp_same (s1.trans s2) (tr0_no _) h3, hz, fun H3 s3 => ?_⟩)⟩
      exact .inr ⟨_, _, rfl, rfl, sz (by omega), .inr ⟨_, _, rfl, rfl, sz (by show _ + 1 ≤ _; omega), q _ ((s1.trans s2).trans s3)⟩⟩
    | @lett d w x y hw hx hy =>
      obtain ⟨a, xs, rfl, hS, hxs⟩ := dp_tup hdp
      obtain ⟨y0, xs, rfl, h0, hxs⟩ := dps_cons hxs
      obtain ⟨y1, xs, rfl, h1, hxs⟩ := dps_cons hxs
      obtain ⟨y2, xs, rfl, h2, hxs⟩ := dps_cons hxs
      obtain ⟨y3, xs, rfl, h3, hxs⟩ := dps_cons hxs
      obtain ⟨y4, xs, rfl, h4, hxs⟩ := dps_cons hxs
      cases dp_str h0
      cases dp_str h1
      refine ⟨_, rfl, .inr (.inl ⟨a, _, _, _, rfl, rfl, hS, at_eq (n := 0) rfl rfl, ?_⟩)⟩
      refine ⟨_, rfl, rfl, ⟨false, by decide, iteF ?_⟩⟩
      refine ⟨_, rfl, rfl, ⟨false, by decide, iteF ?_⟩⟩
      refine ⟨_, rfl, rfl, ⟨false, by decide, iteF ?_⟩⟩
      refine ⟨_, rfl, rfl, ⟨false, by decide, iteF ?_⟩⟩
      refine ⟨_, rfl, rfl, ⟨false, by decide, iteF ?_⟩⟩
      refine ⟨_, rfl, rfl, ⟨false, by decide, iteF ?_⟩⟩
      refine ⟨_, rfl, rfl, ⟨false, by decide, iteF ?_⟩⟩
      refine ⟨_, rfl, rfl, ⟨false, by decide, iteF ?_⟩⟩
      refine ⟨_, rfl, rfl, ⟨true, by decide, iteT ?_⟩⟩
      have hwl := dNames_len hw
      have e1 := hty rfl hx
      have e2 := hty rfl hy
      rw [exT_lett] at q
      have l1 : (("(let " : Str) ++ w).length ≤ 8 := by
        rw [sapp_len]
        show 5 + _ ≤ _
        omega
      have l2 : (("(let " : Str) ++ w ++ " = ").length ≤ 11 := by
        rw [sapp_len]
        show _ + 3 ≤ _
        omega
      have l3 : (("(let " : Str) ++ w ++ " = " ++ exT x).length ≤ 5011 := by
        rw [sapp_len]
        omega
      have l4 : (("(let " : Str) ++ w ++ " = " ++ exT x ++ " in ").length ≤ 5015 := by
        rw [sapp_len]
        show _ + 4 ≤ _
        omega
      have l5 : (("(let " : Str) ++ w ++ " = " ++ exT x ++ " in " ++ exT y).length ≤ 10015 := by
        rw [sapp_len]
        omega
      refine ⟨_, rfl, .inr (.inl ⟨a, _, _, _, rfl, rfl, hS, at_eq (n := 1) rfl rfl, .inr ⟨_, _, rfl, rfl, sz (by show 5 + _ ≤ _; omega), .inr ⟨_, _, rfl, rfl, sz (by show _ + 3 ≤ _; omega), ?_⟩⟩⟩)⟩
      refine ⟨_, rfl, .inr (.inl ⟨a, _, _, _, rfl, rfl, hS, at_eq (n := 2) rfl rfl, _, rfl, y2, x, rfl, h2, hx, fun H1 s1 => ?_⟩)⟩
      refine .inr ⟨_, _, rfl, rfl, sz (by omega), .inr ⟨_, _, rfl, rfl, sz (by show _ + 4 ≤ _; omega), ?_⟩⟩
      refine ⟨_, rfl, .inr (.inl ⟨a, _, _, _, rfl, rfl, sqt_same (s1) _ _ hS, at_eq (n := 3) rfl rfl, _, rfl, y3, y, rfl, dp_same (s1) (tr0_no _) h3, hy, fun H2 s2 => ?_⟩)⟩
      exact .inr ⟨_, _, rfl, rfl, sz (by omega), .inr ⟨_, _, rfl, rfl, sz (by show _ + 1 ≤ _; omega), q _ (s1.trans s2)⟩⟩
    | @bin d sn x y hs hx hy =>
      obtain ⟨a, xs, rfl, hS, hxs⟩ := dp_tup hdp
      obtain ⟨y0, xs, rfl, h0, hxs⟩ := dps_cons hxs
      obtain ⟨y1, xs, rfl, h1, hxs⟩ := dps_cons hxs
      obtain ⟨y2, xs, rfl, h2, hxs⟩ := dps_cons hxs
      obtain ⟨y3, xs, rfl, h3, hxs⟩ := dps_cons hxs
      cases dp_str h0
      refine ⟨_, rfl, .inr (.inl ⟨a, _, _, _, rfl, rfl, hS, at_eq (n := 0) rfl rfl, ?_⟩)⟩
      refine ⟨_, rfl, rfl, ⟨false, congrArg V.bl (opn_ne sn hs _ (by decide)), iteF ?_⟩⟩
      refine ⟨_, rfl, rfl, ⟨false, congrArg V.bl (opn_ne sn hs _ (by decide)), iteF ?_⟩⟩
      refine ⟨_, rfl, rfl, ⟨false, congrArg V.bl (opn_ne sn hs _ (by decide)), iteF ?_⟩⟩
      refine ⟨_, rfl, rfl, ⟨false, congrArg V.bl (opn_ne sn hs _ (by decide)), iteF ?_⟩⟩
      refine ⟨_, rfl, rfl, ⟨false, congrArg V.bl (opn_ne sn hs _ (by decide)), iteF ?_⟩⟩
      refine ⟨_, rfl, rfl, ⟨false, congrArg V.bl (opn_ne sn hs _ (by decide)), iteF ?_⟩⟩
      refine ⟨_, rfl, rfl, ⟨false, congrArg V.bl (opn_ne sn hs _ (by decide)), iteF ?_⟩⟩
      refine ⟨_, rfl, rfl, ⟨false, congrArg V.bl (opn_ne sn hs _ (by decide)), iteF ?_⟩⟩
      refine ⟨_, rfl, rfl, ⟨false, congrArg V.bl (opn_ne sn hs _ (by decide)), iteF ?_⟩⟩
      have hwl := dSigns_len hs
      have e1 := hty rfl hx
      have e2 := hty rfl hy
      rw [exT_bin] at q
      have l1 : (("((" : Str) ++ exT x).length ≤ 5002 := by
        rw [sapp_len]
        show 2 + _ ≤ _
        omega
      have l2 : (("((" : Str) ++ exT x ++ ") ").length ≤ 5004 := by
        rw [sapp_len]
        show _ + 2 ≤ _
        omega
      have l3 : (("((" : Str) ++ exT x ++ ") " ++ sn).length ≤ 5007 := by
        rw [sapp_len]
        omega
      have l4 : (("((" : Str) ++ exT x ++ ") " ++ sn ++ " (").length ≤ 5009 := by
        rw [sapp_len]
        show _ + 2 ≤ _
        omega
      have l5 : (("((" : Str) ++ exT x ++ ") " ++ sn ++ " (" ++ exT y).length ≤ 10009 := by
        rw [sapp_len]
        omega
      intro p np
      refine ⟨upd_same, signsD, rfl, by decide, ?_⟩
      have t7 : Same H (upd (upd H p (.dK [])) p (.dK (mergeK [] signsD))) := fun b o e => by
        rw [upd_ne (ne_of_none e np), upd_ne (ne_of_none e np)]
        exact e
      have b7 : (upd (upd H p (.dK [])) p (.dK (mergeK [] signsD))) p = some (.dK (mergeK [] signsD)) := upd_same
      generalize upd (upd H p (.dK [])) p (.dK (mergeK [] signsD)) = G at *
      refine ⟨_, rfl, p, .str sn, rfl, .inl ⟨_, .inr (opName sn), .inl b7, rfl, signs_get _ hs⟩, ?_⟩
      refine ⟨_, rfl, .inr (.inl ⟨a, _, _, _, rfl, rfl, sqt_same (t7) _ _ hS, at_eq (n := 1) rfl rfl, _, rfl, y1, x, rfl, dp_same (t7) (tr0_no _) h1, hx, fun H1 s1 => ?_⟩)⟩
      refine .inr ⟨_, _, rfl, rfl, sz (by show 2 + _ ≤ _; omega), .inr ⟨_, _, rfl, rfl, sz (by show _ + 2 ≤ _; omega), ?_⟩⟩
      refine ⟨_, rfl, .inr ⟨_, _, rfl, rfl, sz (by omega), .inr ⟨_, _, rfl, rfl, sz (by show _ + 2 ≤ _; omega), ?_⟩⟩⟩
      refine ⟨_, rfl, .inr (.inl ⟨a, _, _, _, rfl, rfl, sqt_same (t7.trans s1) _ _ hS, at_eq (n := 2) rfl rfl, _, rfl, y2, y, rfl, dp_same (t7.trans s1) (tr0_no _) h2, hy, fun H2 s2 => ?_⟩)⟩
      exact .inr ⟨_, _, rfl, rfl, sz (by omega), .inr ⟨_, _, rfl, rfl, sz (by show _ + 2 ≤ _; omega), q _ ((t7.trans s1).trans s2)⟩⟩
theorem ok_text (T : Top w K mg) : ∀ d, d ≤ 4 → FnOk P w K mg base CX0 (d + 2) T.a_law_text T.fd_law_text ["e"] (sp_text K d)
  | 0, hd => text_step T hd (Nat.le_refl 1) ⟨fun vs H Q E h => by
      obtain ⟨d', h, _⟩ := h
      omega, fun A outer s H args us vs Q E _ _ _ _ h => by
      obtain ⟨d', h, _⟩ := h
      omega⟩
  | d + 1, hd => by
    have ih := ok_text T d (by omega)
    refine text_step T hd (k := d + 2) (by omega) ⟨fun vs H Q E h => ?_, fun A outer s H args us vs Q E r e b v h => ?_⟩
    · obtain ⟨d', h1, h⟩ := h
      cases h1
      exact ih.len _ _ _ _ h
    · obtain ⟨d', h1, h⟩ := h
      cases h1
      exact ih.run A outer s H args us vs Q E r e b v h
end
end Tk

namespace Tk
open PySem PySem.Spec PyProof.Rows L2 Ly Lx TL Px Lw
section
variable {P : Program} {w : World} {K : PySem.W.Frag} {mg : Str → Option Value} {base : Heap}
theorem seq_joinI {c : TT} {t u : TS} {B : TS} {D : Ends} {σ : L2.St} {H : Hp} (J : L2.St → Hp → Prop) (h : ∀ σ H, J σ H → B D σ H) (k : (∀ σ H, J σ H → B D σ H) → tSeq (tIfS c t u) B D σ H) : tSeq (tIfS c t u) B D σ H := k h
theorem nxt_t {D : Ends} {σ : L2.St} {H : Hp} (h : D.nx σ H) : tNext D σ H := h
theorem nxt_g {x : V} {i : Nat} {D : Ends} {σ : L2.St} {H : Hp} (h : D.nx (σ.set i (some x)) H) : gName i x σ H D.nx := h
theorem seq_const {v : V} {i : Nat} {B : TS} {D : Ends} {σ : L2.St} {H : Hp} (h : B D (σ.set i (some v)) H) : tSeq (tAsg (tC v) (gName i)) B D σ H := h
def sp_shown (K : PySem.W.Frag) : Sp := fun vs H Q _ => ∃ (v : V) (l : Ln), vs = [v] ∧ Dp K H v (ln0 l) ∧ DrL l ∧ ∀ H', Same H H' → Q (.str (lnT l)) H'
theorem ok_law_shown (T : Top w K mg) : FnOk P w K mg base CX0 7 T.a_law_shown T.fd_law_shown ["line"] (sp_shown K) := by
  refine T.F_law_shown.ok sc_law_shown (fun vs H Q E h => ?_) (fun cdv A outer s H vs Q E hr h => ?_)
  · obtain ⟨v, l, rfl, _⟩ := h
    rfl
  · obtain ⟨v, l, rfl, hdp, hdl, q⟩ := h
    refine ⟨_, (pss_cons (ps_if (pt_cmpR op_eq (pe_ix ix_seq (pv 0) pe_int (fun _ _ => rfl)) pe_str (nomark _))
      (pss_one (ps_ret pe_str))
      pss_nil)
      (pss_cons (ps_if (pt_cmpR op_eq (pe_ix ix_seq (pv 0) pe_int (fun _ _ => rfl)) pe_str (nomark _))
      (pss_one (ps_ret (pe_op op_plus (pe_op op_plus pe_str (pe_call (ok_law_units T) (hr.mono (by first | decide | omega)) (by rfl) T.m_law_units T.F_law_units.kp T.b_law_units .nil pass0 (pa_cons (pe_ix ix_seq (pv 0) pe_int (fun _ _ => rfl)) pa_nil))) pe_str)))
      pss_nil)
      (pss_cons (ps_set (i := 1) sc_law_shown.nd rfl (.inl rfl) (by exact (pe_ix ix_seq (pe_lst (pa_cons pe_str (pa_cons pe_str pa_nil))) (pe_callTy call_intX (by rfl) T.n_int bt_int (pa_cons (pe_cmpR op_eq (pe_ix ix_seq (pv 0) pe_int (fun _ _ => rfl)) pe_str (nomark _)) pa_nil)) (fun _ _ => rfl))))
      (pss_cons (ps_set (i := 2) sc_law_shown.nd rfl (.inl rfl) (by exact (pe_ix ix_seq (pv 0) pe_int (fun _ _ => rfl))))
      (pss_cons (ps_if (pt_cmpR op_eq (pe_ix ix_seq (pv 0) pe_int (fun _ _ => rfl)) pe_str (nomark _))
      (pss_one (ps_set (i := 2) sc_law_shown.nd rfl (.inl rfl) (by exact (pe_ix ix_seq (pv 0) pe_int (fun _ _ => rfl)))))
      pss_nil)
      (pss_cons (ps_set (i := 3) sc_law_shown.nd rfl (.inl rfl) (by exact pe_str))
      (pss_cons (ps_if (pt_cmp (pc_notN (pv 2)))
      (pss_one (ps_set (i := 3) sc_law_shown.nd rfl (.inl rfl) (by exact (pe_op op_plus (pv 1) (pe_call (ok_law_units T) (hr.mono (by first | decide | omega)) (by rfl) T.m_law_units T.F_law_units.kp T.b_law_units .nil pass0 (pa_cons (pv 2) pa_nil))))))
      pss_nil)
      (pss_cons (ps_if (pt_cmpR op_eq (pe_ix ix_seq (pv 0) pe_int (fun _ _ => rfl)) pe_str (nomark _))
      (pss_one (ps_ret (pe_op op_plus (pe_op op_plus (pe_op op_plus pe_str (pe_call (ok_text T 4 (Nat.le_refl 4)) (hr.mono (by first | decide | omega)) (by rfl) T.m_law_text T.F_law_text.kp T.b_law_text .nil pass0 (pa_cons (pe_ix ix_seq (pv 0) pe_int (fun _ _ => rfl)) pa_nil))) (pv 3)) pe_str)))
      pss_nil)
      (pss_cons (ps_set (i := 4) sc_law_shown.nd rfl (.inl rfl) (by exact (pe_lst pa_nil)))
      (pss_cons (ps_for PassesOwn.never rfl (pi_tup (pe_ix ix_seq (pv 0) pe_int (fun _ _ => rfl))) (pg_tup rfl (pgs_cons (pg_name (i := 5) sc_law_shown.nd rfl (.inl rfl)) (pgs_cons (pg_name (i := 6) sc_law_shown.nd rfl (.inl rfl)) pgs_nil)))
      (pss_one (ps_if (pt_cmp (pc_isN (pv 6)))
      (pss_one (ps_expr (pe_bm PySem.F.plainAttrs_list PySem.F.slot_list_append PySem.F.type_list_append mt_append (pv 4) (pa_cons (pv 5) pa_nil))))
      (pss_one (ps_expr (pe_bm PySem.F.plainAttrs_list PySem.F.slot_list_append PySem.F.type_list_append mt_append (pv 4) (pa_cons (pe_op op_plus (pe_op op_plus (pv 5) pe_str) (pe_call (ok_law_units T) (hr.mono (by first | decide | omega)) (by rfl) T.m_law_units T.F_law_units.kp T.b_law_units .nil pass0 (pa_cons (pv 6) pa_nil))) pa_nil)))))))
      (pss_one (ps_ret (pe_op op_plus (pe_op op_plus (pe_op op_plus (pe_op op_plus (pe_op op_plus (pe_op op_plus pe_str (pe_join pe_str (pv 4))) pe_str) (pv 3)) pe_str) (pe_call (ok_text T 4 (Nat.le_refl 4)) (hr.mono (by first | decide | omega)) (by rfl) T.m_law_text T.F_law_text.kp T.b_law_text .nil pass0 (pa_cons (pe_ix ix_seq (pv 0) pe_int (fun _ _ => rfl)) pa_nil))) pe_str))))))))))))), ?_⟩
    cases l with
    | base =>
      obtain ⟨a, xs, rfl, hS, hxs⟩ := dp_tup hdp
      obtain ⟨y0, xs, rfl, h0, hxs⟩ := dps_cons hxs
      cases dp_str h0
      refine ⟨_, rfl, .inr (.inl ⟨a, _, _, _, rfl, rfl, hS, at_eq (n := 0) rfl rfl, ?_⟩)⟩
      exact ⟨rfl, ⟨true, by decide, iteT (q _ (Same.refl _))⟩⟩
    | unit u =>
      obtain ⟨a, xs, rfl, hS, hxs⟩ := dp_tup hdp
      obtain ⟨y0, xs, rfl, h0, hxs⟩ := dps_cons hxs
      obtain ⟨y1, xs, rfl, h1, hxs⟩ := dps_cons hxs
      obtain ⟨y2, xs, rfl, h2, hxs⟩ := dps_cons hxs
      obtain ⟨y3, xs, rfl, h3, hxs⟩ := dps_cons hxs
      cases dp_str h0
      have hul := unT_len hdl
      refine ⟨_, rfl, .inr (.inl ⟨a, _, _, _, rfl, rfl, hS, at_eq (n := 0) rfl rfl, rfl, ⟨false, by decide, iteF ?_⟩⟩)⟩
      refine ⟨_, rfl, .inr (.inl ⟨a, _, _, _, rfl, rfl, hS, at_eq (n := 0) rfl rfl, rfl, ⟨true, by decide, iteT ?_⟩⟩)⟩
      refine ⟨_, rfl, .inr (.inl ⟨a, _, _, _, rfl, rfl, hS, at_eq (n := 3) rfl rfl, _, u, rfl, h3, hdl, fun H1 s1 => ?_⟩)⟩
      exact .inr ⟨_, _, rfl, rfl, sz (by show 14 + _ ≤ _; omega), .inr ⟨_, _, rfl, rfl, sz (by rw [sapp_len]; show 14 + _ + 1 ≤ _; omega), q _ s1⟩⟩
    | sh e o =>
      obtain ⟨a, xs, rfl, hS, hxs⟩ := dp_tup hdp
      obtain ⟨y0, xs, rfl, h0, hxs⟩ := dps_cons hxs
      obtain ⟨y1, xs, rfl, h1, hxs⟩ := dps_cons hxs
      obtain ⟨y2, xs, rfl, h2, hxs⟩ := dps_cons hxs
      cases dp_str h0
      have hel : (exT e).length ≤ 5000 := Nat.le_trans (exT_len hdl.1) (tb_small (Nat.le_refl 4))
      have hol := tdT_len (m := " in ") hdl.2
      refine ⟨_, rfl, .inr (.inl ⟨a, _, _, _, rfl, rfl, hS, at_eq (n := 0) rfl rfl, rfl, ⟨false, by decide, iteF ?_⟩⟩)⟩
      refine ⟨_, rfl, .inr (.inl ⟨a, _, _, _, rfl, rfl, hS, at_eq (n := 0) rfl rfl, rfl, ⟨false, by decide, iteF ?_⟩⟩)⟩
      refine ⟨by show 2 ≤ sizeLine; decide, fun l nl => ?_⟩
      have sl := same_upd (o := .lst [.str " in ", .str ": "]) nl
      refine ⟨_, rfl, .inr (.inl ⟨a, _, _, _, rfl, rfl, sqt_same sl _ _ hS, at_eq (n := 0) rfl rfl, rfl, .inl (.inr ⟨_, rfl, ?_⟩)⟩)⟩
      refine .inl ⟨l, _, _, .str " in ", rfl, rfl, SqL.of upd_same, rfl, ?_⟩
      generalize upd H l (.lst [.str " in ", .str ": "]) = H1 at *
      have hS1 := sqt_same sl _ _ hS
      refine ⟨_, rfl, .inr (.inl ⟨a, _, _, _, rfl, rfl, hS1, at_eq (n := 2) rfl rfl, ?_⟩)⟩
      refine ⟨_, rfl, .inr (.inl ⟨a, _, _, _, rfl, rfl, hS1, at_eq (n := 0) rfl rfl, rfl, ⟨false, by decide, iteF ?_⟩⟩)⟩
      refine nxt_t ?_
      dsimp only
      refine seq_const ?_
      refine seq_joinI (fun σ' H' => σ' = [some (.ref a), some (.str " in "), some y2, some (.str (tdT " in " o)), none, none, none] ∧ Same H1 H') ?_ (fun fin => ?_)
      · rintro σ' H2 ⟨rfl, s2⟩
        have hS2 := sqt_same s2 _ _ hS1
        have s02 := sl.trans s2
        refine ⟨_, rfl, .inr (.inl ⟨a, _, _, _, rfl, rfl, hS2, at_eq (n := 0) rfl rfl, rfl, ⟨true, by decide, iteT ?_⟩⟩)⟩
        refine ⟨_, rfl, .inr (.inl ⟨a, _, _, _, rfl, rfl, hS2, at_eq (n := 1) rfl rfl, _, e, rfl, dp_same s02 (tr0_no e) h1, hdl.1, fun H3 s3 => ?_⟩)⟩
        have l1 : (("show " : Str) ++ exT e).length ≤ 5005 := by
          rw [sapp_len]
          show 5 + _ ≤ _
          omega
        have hol' : (tdT " in " o).length ≤ 4 + 13 := hol
        have l2 : (("show " : Str) ++ exT e ++ tdT " in " o).length ≤ 5022 := by
          rw [sapp_len]
          omega
        exact .inr ⟨_, _, rfl, rfl, sz (by show 5 + _ ≤ _; omega), _, rfl, .inr ⟨_, _, rfl, rfl, sz (by omega), .inr ⟨_, _, rfl, rfl, sz (by show _ + 1 ≤ _; omega), q _ (s02.trans s3)⟩⟩⟩
      · cases o with
        | none =>
          cases dp_none h2
          refine ⟨_, rfl, ⟨false, by decide, iteF ?_⟩⟩
          exact fin _ _ ⟨rfl, Same.refl _⟩
        | some u =>
          have hul := unT_len (hdl.2 u rfl)
          obtain ⟨ua, us, rfl, hSu, hus⟩ := dp_tup h2
          refine ⟨_, rfl, ⟨true, rfl, iteT ?_⟩⟩
          refine ⟨_, rfl, _, rfl, _, u, rfl, dp_same sl (unD0_no u) h2, hdl.2 u rfl, fun H3 s3 => ?_⟩
          exact .inr ⟨_, _, rfl, rfl, sz (by show 4 + _ ≤ _; omega), fin _ _ ⟨rfl, s3⟩⟩
    | fn ps o e =>
      obtain ⟨a, xs, rfl, hS, hxs⟩ := dp_tup hdp
      obtain ⟨y0, xs, rfl, h0, hxs⟩ := dps_cons hxs
      obtain ⟨y1, xs, rfl, h1, hxs⟩ := dps_cons hxs
      obtain ⟨y2, xs, rfl, h2, hxs⟩ := dps_cons hxs
      obtain ⟨y3, xs, rfl, h3, hxs⟩ := dps_cons hxs
      obtain ⟨y4, xs, rfl, h4, hxs⟩ := dps_cons hxs
      cases dp_str h0
      obtain ⟨⟨hpl, hpo⟩, hdo, hde⟩ := hdl
      have hel : (exT e).length ≤ 5000 := Nat.le_trans (exT_len hde) (tb_small (Nat.le_refl 4))
      have hol : (tdT ": " o).length ≤ 2 + 13 := tdT_len (m := ": ") hdo
      obtain ⟨pa, zs, rfl, hSp, hzs⟩ := dp_tup h2
      have hzl : zs.length = ps.length := by rw [dps_len hzs, List.length_map]
      refine ⟨_, rfl, .inr (.inl ⟨a, _, _, _, rfl, rfl, hS, at_eq (n := 0) rfl rfl, rfl, ⟨false, by decide, iteF ?_⟩⟩)⟩
      refine ⟨_, rfl, .inr (.inl ⟨a, _, _, _, rfl, rfl, hS, at_eq (n := 0) rfl rfl, rfl, ⟨false, by decide, iteF ?_⟩⟩)⟩
      refine ⟨by show 2 ≤ sizeLine; decide, fun l nl => ?_⟩
      have sl := same_upd (o := .lst [.str " in ", .str ": "]) nl
      refine ⟨_, rfl, .inr (.inl ⟨a, _, _, _, rfl, rfl, sqt_same sl _ _ hS, at_eq (n := 0) rfl rfl, rfl, .inl (.inr ⟨_, rfl, ?_⟩)⟩)⟩
      refine .inl ⟨l, _, _, .str ": ", rfl, rfl, SqL.of upd_same, rfl, ?_⟩
      generalize upd H l (.lst [.str " in ", .str ": "]) = H1 at *
      have hS1 := sqt_same sl _ _ hS
      refine ⟨_, rfl, .inr (.inl ⟨a, _, _, _, rfl, rfl, hS1, at_eq (n := 2) rfl rfl, ?_⟩)⟩
      refine ⟨_, rfl, .inr (.inl ⟨a, _, _, _, rfl, rfl, hS1, at_eq (n := 0) rfl rfl, rfl, ⟨true, by decide, iteT ?_⟩⟩)⟩
      refine ⟨_, rfl, .inr (.inl ⟨a, _, _, _, rfl, rfl, hS1, at_eq (n := 3) rfl rfl, ?_⟩)⟩
      refine nxt_g ?_
      dsimp only
      refine seq_const ?_
      refine seq_joinI (fun σ' H' => σ' = [some (.ref a), some (.str ": "), some y3, some (.str (tdT ": " o)), none, none, none] ∧ Same H1 H') ?_ (fun fin => ?_)
      · rintro σ' H2 ⟨rfl, s2⟩
        have hS2 := sqt_same s2 _ _ hS1
        have s02 := sl.trans s2
        refine ⟨_, rfl, .inr (.inl ⟨a, _, _, _, rfl, rfl, hS2, at_eq (n := 0) rfl rfl, rfl, ⟨false, by decide, iteF ?_⟩⟩)⟩
        refine ⟨Nat.zero_le _, fun g ng => ?_⟩
        refine ⟨_, rfl, .inr (.inl ⟨a, _, _, _, rfl, rfl, sqt_same (same_upd ng) _ _ hS2, at_eq (n := 2) rfl rfl, pa, rfl, ⟨zs, sqt_same (s02.trans (same_upd ng)) _ _ hSp⟩, ?_⟩)⟩
        refine for_tup (K := K) (a := pa) (xs := zs) (fun i σ H' => ∃ y5 y6 : Option V, σ = [some (.ref a), some (.str ": "), some y3, some (.str (tdT ": " o)), some (.ref g), y5, y6] ∧ H' g = some (.lst (((ps.take i).map pmT).map V.str)) ∧ Same H2 H')
          ⟨_, _, rfl, upd_same, same_upd ng⟩ ?_ ?_ ?_
        · rintro i σ H' _ ⟨y5, y6, rfl, hg, s3⟩
          exact sqt_same (s02.trans s3) _ _ hSp
        · rintro i x σ H' hx ⟨y5, y6, rfl, hg, s3⟩
          have hi : i < ps.length := by
            have := (List.getElem?_eq_some_iff.mp hx).1
            omega
          obtain ⟨p, hp⟩ : ∃ p, ps[i]? = some p := ⟨_, List.getElem?_eq_getElem hi⟩
          have hpp := hpo p (List.mem_of_getElem? hp)
          obtain ⟨x', hx', hdx⟩ := dps_get hzs (show (ps.map pm0)[i]? = some (pm0 p) by rw [List.getElem?_map, hp]; rfl)
          rw [hx] at hx'
          cases hx'
          obtain ⟨b, us, rfl, hSb, hus⟩ := dp_tup hdx
          obtain ⟨u0, us, rfl, g0, hus⟩ := dps_cons hus
          obtain ⟨u1, us, rfl, g1, hus⟩ := dps_cons hus
          cases dps_nil hus
          cases dp_str g0
          have htk : (ps.take (i + 1)).map pmT = (ps.take i).map pmT ++ [pmT p] := by
            rw [List.take_succ, hp, List.map_append]
            rfl
          have hln : (((ps.take i).map pmT).map V.str).length < sizeLine := by
            rw [List.length_map, List.length_map, List.length_take]
            exact len_ok (by omega)
          have s03 := s02.trans s3
          have hpm := pmT_len hpp
          have hnm : p.1.length ≤ 2 := by
            have h1 : ∀ w ∈ (["x", "y"] : List Str), w.length ≤ 2 := by decide
            exact h1 _ hpp.1
          refine ⟨b, _, rfl, sqt_same s03 _ _ hSb, rfl, _, _, rfl, _, _, rfl, rfl, ?_⟩
          cases ho : p.2 with
          | none =>
            rw [ho] at g1
            cases dp_none g1
            have e1 : pmT p = p.1 := by unfold pmT; rw [ho]
            refine ⟨_, rfl, ⟨true, by decide, iteT ?_⟩⟩
            refine ⟨_, rfl, .inl ⟨rfl, _, SqL.of hg⟩, _, rfl, g, _, _, rfl, rfl, hg, hln, ?_⟩
            refine ⟨_, _, rfl, upd_same.trans ?_, same_put s3 ng⟩
            rw [htk, List.map_append, e1]
            rfl
          | some u =>
            rw [ho] at g1
            have huD := hpp.2 u ho
            have hul := unT_len huD
            obtain ⟨ua, us, rfl, hSu, hus⟩ := dp_tup g1
            have e1 : pmT p = p.1 ++ ": " ++ unT u := by unfold pmT; rw [ho]
            refine ⟨_, rfl, ⟨false, rfl, iteF ?_⟩⟩
            refine ⟨_, rfl, .inl ⟨rfl, _, SqL.of hg⟩, _, rfl, .inr ⟨_, _, rfl, rfl, sz (by show _ + 2 ≤ _; omega), _, rfl, _, u, rfl, dp_same s03 (unD0_no u) g1, huD, fun H4 s4 => ?_⟩⟩
            have hg4 := s4 _ _ hg
            have l1 : (p.1 ++ (": " : Str)).length ≤ 4 := by
              rw [sapp_len]
              show _ + 2 ≤ _
              omega
            refine .inr ⟨_, _, rfl, rfl, sz (by omega), g, _, _, rfl, rfl, hg4, hln, ?_⟩
            refine ⟨_, _, rfl, upd_same.trans ?_, same_put (s3.trans s4) ng⟩
            rw [htk, List.map_append, e1]
            rfl
        · rintro σ H3 ⟨y5, y6, rfl, hg, s3⟩
          rw [List.take_of_length_le (by omega)] at hg
          have s03 := s02.trans s3
          have hj : ((ps.map pmT).map (·.length)).sum + (ps.map pmT).length * (", " : Str).length ≤ 50 := by
            have h1 := join_le (y := ", ") (l := ps.map pmT) (m := 20) (fun x hx => by
              obtain ⟨z, hz, rfl⟩ := List.mem_map.mp hx
              exact pmT_len (hpo z hz))
            have h2 : (ps.map pmT).length * (20 + (", " : Str).length) ≤ 2 * 22 := Nat.mul_le_mul (by rw [List.length_map]; omega) (by decide)
            omega
          have hjl := Nat.le_trans (join_len (y := ", ") (l := ps.map pmT)) hj
          have l1 : (("fun f(" : Str) ++ Txt.join ", " (ps.map pmT)).length ≤ 56 := by
            rw [sapp_len]
            show 6 + _ ≤ _
            omega
          have l2 : (("fun f(" : Str) ++ Txt.join ", " (ps.map pmT) ++ ")").length ≤ 57 := by
            rw [sapp_len]
            show _ + 1 ≤ _
            omega
          have l3 : (("fun f(" : Str) ++ Txt.join ", " (ps.map pmT) ++ ")" ++ tdT ": " o).length ≤ 72 := by
            rw [sapp_len]
            omega
          have l4 : (("fun f(" : Str) ++ Txt.join ", " (ps.map pmT) ++ ")" ++ tdT ": " o ++ " = ").length ≤ 75 := by
            rw [sapp_len]
            show _ + 3 ≤ _
            omega
          have l5 : (("fun f(" : Str) ++ Txt.join ", " (ps.map pmT) ++ ")" ++ tdT ": " o ++ " = " ++ exT e).length ≤ 5075 := by
            rw [sapp_len]
            omega
          refine ⟨⟨_, rfl⟩, _, rfl, _, g, ps.map pmT, rfl, rfl, .inl (SqL.of hg), Nat.le_trans hj (by decide), .inr ⟨_, _, rfl, rfl, sz (by show 6 + _ ≤ _; omega), .inr ⟨_, _, rfl, rfl, sz (by show _ + 1 ≤ _; omega), _, rfl, .inr ⟨_, _, rfl, rfl, sz (by omega), .inr ⟨_, _, rfl, rfl, sz (by show _ + 3 ≤ _; omega), ?_⟩⟩⟩⟩⟩
          refine ⟨_, rfl, .inr (.inl ⟨a, _, _, _, rfl, rfl, sqt_same s03 _ _ hS, at_eq (n := 4) rfl rfl, _, e, rfl, dp_same s03 (tr0_no e) h4, hde, fun H4 s4 => ?_⟩)⟩
          exact .inr ⟨_, _, rfl, rfl, sz (by omega), .inr ⟨_, _, rfl, rfl, sz (by show _ + 1 ≤ _; omega), q _ (s03.trans s4)⟩⟩
      · cases o with
        | none =>
          cases dp_none h3
          refine ⟨_, rfl, ⟨false, by decide, iteF ?_⟩⟩
          exact fin _ _ ⟨rfl, Same.refl _⟩
        | some u =>
          have hul := unT_len (hdo u rfl)
          obtain ⟨ua, us, rfl, hSu, hus⟩ := dp_tup h3
          refine ⟨_, rfl, ⟨true, rfl, iteT ?_⟩⟩
          refine ⟨_, rfl, _, rfl, _, u, rfl, dp_same sl (unD0_no u) h3, hdo u rfl, fun H3 s3 => ?_⟩
          exact .inr ⟨_, _, rfl, rfl, sz (by show 2 + _ ≤ _; omega), fin _ _ ⟨rfl, s3⟩⟩
end
end Tk

namespace Tk
open PySem PySem.Spec PyProof.Rows L2 Ly Lx TL Px Lw
section
variable {K : PySem.W.Frag} {H : Hp} {v : V} {d : PyData}
def tyD : PyData → String
  | .none => "NoneType"
  | .bool _ => "bool"
  | .int _ => "int"
  | .str _ => "str"
  | .tuple _ => "tuple"
  | .list _ => "list"
  | .dict _ => "dict"
theorem ty_tup {a : Addr} {xs : List V} (h : SqT K H a xs) : TyX K H (.ref a) (.type "tuple") := by
  rcases h with (h | ⟨o, h⟩) | ⟨o, its, n, h1, h2, _⟩
  · exact .base (.tup h)
  · exact .fTuple h
  · exact .kTuple h1 h2
theorem ty_of (h : Dp K H v d) (hn : noL d = true) : TyX K H v (.type (tyD d)) := by
  cases h with
  | tup h1 _ => exact ty_tup h1
  | lst _ _ => cases hn
  | non => exact .base .non
  | bl b => exact .base (.bl b)
  | int i => exact .base (.int i)
  | str s => exact .base (.str s)
theorem kb_tup (d : PyData) : kitB (tyD d) "tuple" = some (isT d) := by cases d <;> rfl
theorem kb_str (d : PyData) : kitB (tyD d) "str" = some (isS d) := by cases d <;> rfl
theorem kb_int (d : PyData) : kitB (tyD d) "int" = some (isI d) := by cases d <;> rfl
theorem kb_bool (d : PyData) : kitB (tyD d) "bool" = some (isB d) := by cases d <;> rfl
theorem inV_strs (s : Str) : ∀ ws : List Str, inV (.str s) (ws.map V.str) = ws.any (· == s)
  | [] => rfl
  | w :: ws => by
    have ih := inV_strs s ws
    unfold inV at ih ⊢
    rw [List.map_cons, List.any_cons, ih, List.any_cons]
    rfl
end
theorem noL_mem {ds : List PyData} (h : noLs ds = true) : ∀ d ∈ ds, noL d = true := by
  induction ds with
  | nil => intro d hd; cases hd
  | cons e ds ih =>
    have h' : (noL e && noLs ds) = true := h
    rw [Bool.and_eq_true] at h'
    intro d hd
    rcases List.mem_cons.mp hd with r | r
    · subst r
      exact h'.1
    · exact ih h'.2 d r
theorem noLs_sub {ds es : List PyData} (h : noLs ds = true) (hs : ∀ d ∈ es, d ∈ ds) : noLs es = true := noLs_of fun d hd => noL_mem h d (hs d hd)
theorem fix_no {ds found : List PyData} (h : noLs ds = true) (hf : noLs found = true) : noL (fixD ds found) = true := by
  unfold fixD
  split
  · rfl
  · rename_i d r
    split
    · have hd := noL_mem h d (by simp)
      have hr : noL (r.headD .none) = true := by
        cases r with
        | nil => rfl
        | cons e r => exact noL_mem h e (by simp)
      exact nlc hd (nlc hr (nlc rfl rfl))
    · split
      · exact noLs_append (noLs_sub hf fun d hd => (List.dropLast_subset _ hd)) (nlc rfl rfl)
      · exact hf
mutual
theorem bare_no : ∀ d : PyData, noL d = true → noL (bareD d) = true
  | .tuple ds, h => by
    have hds : noLs ds = true := by simpa [noL] using h
    rw [bareD]
    exact fix_no hds (bareA_no ds hds)
  | .none, h => by simpa [bareD] using h
  | .bool _, h => by simpa [bareD] using h
  | .int _, h => by simpa [bareD] using h
  | .str _, h => by simpa [bareD] using h
  | .list _, h => by simp [noL] at h
  | .dict _, h => by simp [noL] at h
theorem bareA_no : ∀ ds : List PyData, noLs ds = true → noLs (bareA ds) = true
  | [], _ => by simp [bareA, noLs]
  | d :: ds, h => by
    have h' : (noL d && noLs ds) = true := by simpa [noLs] using h
    rw [Bool.and_eq_true] at h'
    rw [bareA]
    exact nlc (bare_no d h'.1) (bareA_no ds h'.2)
end
theorem bares_no {ds : List PyData} (h : noLs ds = true) : noLs (ds.map bareD) = true := by
  rw [← bareA_map]
  exact bareA_no ds h
theorem last_get (d : PyData) (r : List PyData) : (d :: r)[r.length]? = some (lastD (d :: r)) := by
  unfold lastD
  rw [List.getLast?_eq_getElem?, List.length_cons, Nat.add_sub_cancel]
  obtain ⟨x, hx⟩ : ∃ x, (d :: r)[r.length]? = some x := ⟨_, List.getElem?_eq_getElem (by simp)⟩
  rw [hx]
  rfl
theorem dps_take {K : PySem.W.Frag} {H : Hp} : ∀ (k : Nat) {vs : List V} {ds : List PyData}, DpAll K H vs ds → DpAll K H (vs.take k) (ds.take k)
  | 0, vs, ds, _ => by
    rw [List.take_zero, List.take_zero]
    exact .nil
  | k + 1, _, _, .nil => .nil
  | k + 1, _ :: _, _ :: _, .cons h t => .cons h (dps_take k t)
theorem bulk_mem : ∀ {ds : List PyData} {d : PyData}, d ∈ ds → d.bulk ≤ PyData.bulkAll ds
  | e :: ds, d, h => by
    have e1 : PyData.bulkAll (e :: ds) = e.bulk + 1 + PyData.bulkAll ds := by simp [PyData.bulkAll]
    rw [e1]
    rcases List.mem_cons.mp h with r | r
    · subst r
      omega
    · have := bulk_mem r
      omega
theorem bulk_len : ∀ ds : List PyData, ds.length ≤ PyData.bulkAll ds
  | [] => Nat.zero_le _
  | e :: ds => by
    have e1 : PyData.bulkAll (e :: ds) = e.bulk + 1 + PyData.bulkAll ds := by simp [PyData.bulkAll]
    have := bulk_len ds
    rw [e1, List.length_cons]
    omega
theorem depth_mem : ∀ {ds : List PyData} {d : PyData}, d ∈ ds → d.depth ≤ PyData.depthAll ds
  | e :: ds, d, h => by
    have e1 : PyData.depthAll (e :: ds) = max e.depth (PyData.depthAll ds) := by simp [PyData.depthAll]
    rw [e1]
    rcases List.mem_cons.mp h with r | r
    · subst r
      omega
    · have := depth_mem r
      omega
section
variable {P : Program} {w : World} {K : PySem.W.Frag} {mg : Str → Option Value} {base : Heap}
def sp_bare (K : PySem.W.Frag) (n : Nat) : Sp := fun vs H Q _ => ∃ (v : V) (d : PyData), vs = [v] ∧ Dp K H v d ∧ noL d = true ∧ d.depth ≤ n ∧ d.bulk ≤ 1000000 ∧ ∀ H' v', Same H H' → Dp K H' v' (bareD d) → Q v' H'
def sp_bsub (K : PySem.W.Frag) (n : Nat) : Sp := fun vs H Q E => ∃ n', n = n' + 1 ∧ sp_bare K n' vs H Q E
theorem scx_law_bare : FnScope ["tree", "found", "part"] ["tree"] (defScope s_law_bare) := ⟨rfl, rfl, rfl, by decide +kernel, rfl, by decide +kernel, by decide +kernel⟩
theorem bare_step (T : Top w K mg) {n k : Nat} (hk : 1 ≤ k) (hR : FnOk P w K mg base CX0 k T.a_law_bare T.fd_law_bare ["tree"] (sp_bsub K n)) :
    FnOk P w K mg base CX0 (k + 1) T.a_law_bare T.fd_law_bare ["tree"] (sp_bare K n) := by
  refine T.F_law_bare.ok scx_law_bare (fun vs H Q E h => ?_) (fun cdv A outer s H vs Q E hr h => ?_)
  · obtain ⟨v, d, rfl, _⟩ := h
    rfl
  · obtain ⟨v, d, rfl, hd, hn, hdep, hbk, q⟩ := h
    refine ⟨_, (pss_cons (ps_if (PW.pt (pw_or (pt_not (pt_val (pe_callB call_isi (by rfl) T.n_isinstance bt_isinstance (pa_cons (pv 0) (pa_cons (pe_bltn (v := .ty "tuple") (by rfl) T.n_tuple bt_tuple rfl) pa_nil))))) (pw_or1 (pt_cmpR op_eq (pe_callB call_len (by rfl) T.n_len bt_len (pa_cons (pv 0) pa_nil)) pe_int (nomark _)))))
      (pss_one (ps_ret (pv 0)))
      pss_nil)
      (pss_cons (ps_if (PW.pt (pw_and (pt_val (pe_callB call_isi (by rfl) T.n_isinstance bt_isinstance (pa_cons (pe_ix ix_seq (pv 0) pe_int (fun _ _ => rfl)) (pa_cons (pe_bltn (v := .ty "str") (by rfl) T.n_str bt_str rfl) pa_nil)))) (pw_and (pt_cmpR op_eq (pe_callB call_len (by rfl) T.n_len bt_len (pa_cons (pv 0) pa_nil)) pe_int (nomark _)) (pw_and (pt_val (pe_callB call_isi (by rfl) T.n_isinstance bt_isinstance (pa_cons (pe_ix ix_seq (pv 0) pe_int (fun _ _ => rfl)) (pa_cons (pe_bltn (v := .ty "int") (by rfl) T.n_int bt_int rfl) pa_nil)))) (pw_and1 (pt_not (pt_val (pe_callB call_isi (by rfl) T.n_isinstance bt_isinstance (pa_cons (pe_ix ix_seq (pv 0) pe_int (fun _ _ => rfl)) (pa_cons (pe_bltn (v := .ty "bool") (by rfl) T.n_bool bt_bool rfl) pa_nil))))))))))
      (pss_one (ps_ret (pe_tup (pa_cons (pe_ix ix_seq (pv 0) pe_int (fun _ _ => rfl)) (pa_cons (pe_ix ix_seq (pv 0) pe_int (fun _ _ => rfl)) (pa_cons pe_int pa_nil))))))
      pss_nil)
      (pss_cons (ps_set (i := 1) scx_law_bare.nd rfl (.inl rfl) (by exact (pe_callTy call_tuple_of (by rfl) T.n_tuple bt_tuple (pa_cons (pe_lc (own := [("part", 2)]) (g := gName 2) (tt := tYes) (by rfl) scx_law_bare.nd (pi_tup (pv 0)) (blkOk_by (own := [("part", 2)]) (N := ["tree", "found", "part"]) (sc := defScope s_law_bare) (by decide +kernel))
      (fun _ _ _ _ _ => pg_name (i := 2) scx_law_bare.nd rfl (Or.inl rfl)) (fun _ _ _ _ _ => pts_nil) (fun _ _ _ _ _ => (pe_call hR (hr.mono (by first | decide | omega)) (by rfl) T.m_law_bare T.F_law_bare.kp T.b_law_bare .nil pass0 (pa_cons (pv 2) pa_nil)))) pa_nil))))
      (pss_cons (ps_if (PW.pt (pw_and (pt_val (pe_callB call_isi (by rfl) T.n_isinstance bt_isinstance (pa_cons (pe_ix ix_seq (pv 0) pe_int (fun _ _ => rfl)) (pa_cons (pe_bltn (v := .ty "str") (by rfl) T.n_str bt_str rfl) pa_nil)))) (pw_and (pt_cmpR op_notIn_seq (pe_ix ix_seq (pv 0) pe_int (fun _ _ => rfl)) (pe_lst (pa_cons pe_str (pa_cons pe_str (pa_cons pe_str pa_nil)))) (by rfl)) (pw_and1 (pt_val (pe_callB call_isi (by rfl) T.n_isinstance bt_isinstance (pa_cons (pe_ix ix_seq (pv 0) (pe_op op_sub (pe_callB call_len (by rfl) T.n_len bt_len (pa_cons (pv 0) pa_nil)) pe_int) (fun _ _ => rfl)) (pa_cons (pe_bltn (v := .ty "int") (by rfl) T.n_int bt_int rfl) pa_nil))))))))
      (pss_one (ps_ret (pe_op op_catT (pe_slice sl_tup (pv 1) po_none (po_some (pe_op op_sub (pe_callB call_len (by rfl) T.n_len bt_len (pa_cons (pv 1) pa_nil)) pe_int))) (pe_tup (pa_cons pe_int pa_nil)))))
      pss_nil)
      (pss_one (ps_ret (pv 1))))))), ?_⟩
    refine ⟨_, rfl, _, _, _, _, isT d, rfl, .ty _, ty_of hd hn, kit_ty (kb_tup d), ⟨_, rfl, ?_⟩⟩
    cases hT : isT d with
    | false =>
      have hb : bareD d = d := by
        cases d with
        | tuple _ => cases hT
        | _ => simp [bareD]
      rw [hb] at q
      exact iteT ⟨_, rfl, q _ _ (Same.refl _) hd⟩
    | true =>
      cases d with
      | tuple ds =>
        obtain ⟨a, xs, rfl, hS, hxs⟩ := dp_tup hd
        have hds : noLs ds = true := by simpa [noL] using hn
        have hxl : xs.length = ds.length := dps_len hxs
        refine iteF ⟨_, rfl, _, xs.length, rfl, .inr ⟨_, hS, rfl⟩, rfl, ?_⟩
        rw [dec_int]
        cases ds with
        | nil =>
          cases dps_nil hxs
          refine ⟨_, rfl, iteT ⟨_, rfl, q _ _ (Same.refl _) ?_⟩⟩
          rw [bare_nil]
          exact hd
        | cons d0 r =>
          obtain ⟨x0, ys, rfl, hx0, hys⟩ := dps_cons hxs
          have hlen : ((((x0 :: ys).length : Nat) : Int) == 0) = false := by
            rw [List.length_cons]
            exact beq_eq_false_iff_ne.mpr (by omega)
          refine ⟨false, by rw [hlen], iteF (nxt_t ?_)⟩
          dsimp only
          have hn0 : noL d0 = true := noL_mem hds d0 (by simp)
          have at0 : atI (x0 :: ys) 0 = some x0 := at_eq (n := 0) rfl rfl
          -- what is left, if the tree is no pair of a name and a number
          generalize hC1 : (isS d0 && (r.length == 2 && (isI (r.headD .none) && !isB (r.headD .none)))) = C1
          refine seq_joinI (fun σ' H' => σ' = [some (.ref a), none, none] ∧ H' = H ∧ C1 = false) ?_ (fun fin => ?_)
          · rintro σ' H' ⟨rfl, rfl, hc1⟩
            have hfix : bareD (.tuple (d0 :: r)) = if (isS d0 && (!sIn ["bool", "x", "y"] d0 && isI (lastD (d0 :: r)))) = true then .tuple (((d0 :: r).map bareD).dropLast ++ [.int 0]) else .tuple ((d0 :: r).map bareD) := by
              rw [bare_tup]
              show (if _ = true then _ else _) = _
              rw [if_neg (by rw [hC1, hc1]; exact Bool.false_ne_true)]
            rw [hfix] at q
            clear hfix
            have hno := bares_no hds
            refine ⟨_, rfl, a, rfl, ⟨_, hS⟩, fun D nD => ?_⟩
            obtain ⟨n', rfl⟩ : ∃ n', n = n' + 1 := ⟨n - 1, by
              have : (PyData.tuple (d0 :: r)).depth = PyData.depthAll (d0 :: r) + 1 := by simp [PyData.depth]
              omega⟩
            have hdep' : PyData.depthAll (d0 :: r) ≤ n' := by
              have : (PyData.tuple (d0 :: r)).depth = PyData.depthAll (d0 :: r) + 1 := by simp [PyData.depth]
              omega
            have hbk' : PyData.bulkAll (d0 :: r) ≤ 1000000 := by
              have : (PyData.tuple (d0 :: r)).bulk = PyData.bulkAll (d0 :: r) := by simp [PyData.bulk]
              omega
            have hdl := bulk_len (d0 :: r)
            refine lc_tup (K := K) (a := a) (xs := x0 :: ys) (fun i H1 => ∃ acc, H1 D = some (.lst acc) ∧ DpAll K H1 acc (((d0 :: r).take i).map bareD) ∧ Same H' H1) ⟨[], upd_same, .nil, same_upd nD⟩ (fun i H1 _ hP => ?_) (fun i x H1 hx hP => ?_) (fun H1 hP => ?_)
            · obtain ⟨_, _, _, sm⟩ := hP
              exact sqt_same sm _ _ hS
            · obtain ⟨acc, hD, hacc, sm⟩ := hP
              have hi : i < (d0 :: r).length := by
                have := (List.getElem?_eq_some_iff.mp hx).1
                omega
              obtain ⟨y, hy⟩ : ∃ y, (d0 :: r)[i]? = some y := ⟨_, List.getElem?_eq_getElem hi⟩
              obtain ⟨x', hx', hdx⟩ := dps_get hxs hy
              rw [hx] at hx'
              cases hx'
              have hym := List.mem_of_getElem? hy
              have hny := noL_mem hds y hym
              have hacn : noLs (((d0 :: r).take i).map bareD) = true := bares_no (noLs_sub hds fun d h => List.mem_of_mem_take h)
              refine ⟨rfl, ?_⟩
              refine ⟨_, rfl, n', rfl, x, y, rfl, dp_same sm hny hdx, hny, Nat.le_trans (depth_mem hym) hdep', Nat.le_trans (bulk_mem hym) hbk', fun H2 v2 s2 hd2 => ?_⟩
              have hD2 := s2 _ _ hD
              refine ⟨acc, hD2, ?_, acc ++ [v2], upd_same, ?_, same_put (sm.trans s2) nD⟩
              · rw [dps_len hacc, List.length_map, List.length_take]
                exact Nat.lt_of_le_of_lt (Nat.le_trans (Nat.min_le_right _ _) (Nat.le_trans hdl hbk')) (by decide)
              · rw [List.take_succ, hy]
                show DpAll K _ _ (List.map bareD (_ ++ [y]))
                rw [List.map_append]
                exact dps_append (dps_keep (sqt_put hD2) _ _ hacn (dps_keep (sqt_same s2) _ _ hacn hacc)) (.cons (dp_keep (sqt_put hD2) _ _ (bare_no y hny) hd2) .nil)
            · obtain ⟨acc, hD, hacc, sm⟩ := hP
              rw [List.take_of_length_le (by omega)] at hacc
              have hal : acc.length = (d0 :: r).length := by rw [dps_len hacc, List.length_map]
              refine ⟨_, _, rfl, .inl ⟨SqL.of hD, fun t nt => ?_⟩⟩
              have smt := same_upd (o := .tup acc) nt
              have hft : (upd H1 t (.tup acc)) t = some (.tup acc) := upd_same
              have hfd : DpAll K (upd H1 t (.tup acc)) acc ((d0 :: r).map bareD) := dps_keep (sqt_same smt) _ _ hno hacc
              generalize upd H1 t (.tup acc) = H2 at *
              have s2 := sm.trans smt
              have hS2 := sqt_same s2 _ _ hS
              generalize hC2 : (isS d0 && (!sIn ["bool", "x", "y"] d0 && isI (lastD (d0 :: r)))) = C2 at q
              dsimp only [gName]
              refine seq_joinI (fun σ' H' => σ' = [some (.ref a), some (.ref t), none] ∧ Same H2 H' ∧ C2 = false) ?_ (fun fin => ?_)
              · rintro σ' H3 ⟨rfl, s3, hc2⟩
                rw [if_neg (by rw [hc2]; exact Bool.false_ne_true)] at q
                exact ⟨_, rfl, q _ _ (s2.trans s3) (.tup (SqT.of (s3 _ _ hft)) (dps_keep (sqt_same s3) _ _ hno hfd))⟩
              · refine ⟨_, rfl, .inr (.inl ⟨a, _, _, _, rfl, rfl, hS2, at0, ?_⟩)⟩
                refine ⟨_, _, _, _, isS d0, rfl, .ty _, ty_of (dp_same s2 hn0 hx0) hn0, kit_ty (kb_str d0), ⟨_, rfl, ?_⟩⟩
                cases hs0 : isS d0 with
                | false =>
                  refine iteF (nxt_t (fin _ _ ⟨rfl, Same.refl _, ?_⟩))
                  rw [← hC2, hs0]
                  rfl
                | true =>
                  cases d0 with
                  | str s0 =>
                    cases dp_str hx0
                    refine iteT ?_
                    refine ⟨_, rfl, .inr (.inl ⟨a, _, _, _, rfl, rfl, hS2, at0, ?_⟩)⟩
                    refine ⟨by show 3 ≤ sizeLine; decide, fun l nl => ?_⟩
                    have sl := same_upd (o := .lst [.str "bool", .str "x", .str "y"]) nl
                    refine ⟨l, _, rfl, .inl (SqL.of upd_same), rfl, rfl, _, rfl, ?_⟩
                    have hin : inV (.str s0) (([("bool" : Str), "x", "y"] : List Str).map V.str) = (["bool", "x", "y"] : List Str).any (· == s0) := inV_strs _ _
                    have hin2 : sIn ["bool", "x", "y"] (.str s0) = (["bool", "x", "y"] : List Str).any (· == s0) := rfl
                    cases hx3 : (["bool", "x", "y"] : List Str).any (· == s0) with
                    | true =>
                      have hi3 : (if true = true then !inV (.str s0) [.str "bool", .str "x", .str "y"] else inV (.str s0) [.str "bool", .str "x", .str "y"]) = false := by
                        rw [if_pos rfl]
                        show (!inV (.str s0) (([("bool" : Str), "x", "y"] : List Str).map V.str)) = false
                        rw [hin, hx3]
                        rfl
                      rw [hi3]
                      refine iteF (nxt_t (fin _ _ ⟨rfl, sl, ?_⟩))
                      rw [← hC2, hin2, hx3]
                      rfl
                    | false =>
                      have hi3 : (if true = true then !inV (.str s0) [.str "bool", .str "x", .str "y"] else inV (.str s0) [.str "bool", .str "x", .str "y"]) = true := by
                        rw [if_pos rfl]
                        show (!inV (.str s0) (([("bool" : Str), "x", "y"] : List Str).map V.str)) = true
                        rw [hin, hx3]
                        rfl
                      rw [hi3]
                      refine iteT ?_
                      have sH := s2.trans sl
                      have hS3 := sqt_same sl _ _ hS2
                      obtain ⟨xl, hxl2, hdl2⟩ := dps_get hxs (last_get (.str s0) r)
                      have hnl : noL (lastD (.str s0 :: r)) = true := noL_mem hds _ (List.mem_of_getElem? (last_get (.str s0) r))
                      refine ⟨_, rfl, _, rfl, _, _, rfl, .inr ⟨_, hS3, rfl⟩, _, _, rfl, rfl, .inr (.inl ⟨a, _, _, xl, rfl, rfl, hS3, at_eq (n := r.length) (by rw [hxl, List.length_cons]; omega) hxl2, ?_⟩)⟩
                      refine ⟨_, _, _, _, isI (lastD (.str s0 :: r)), rfl, .ty _, ty_of (dp_same sH hnl hdl2) hnl, kit_ty (kb_int _), ⟨_, rfl, ?_⟩⟩
                      have hC2' : C2 = isI (lastD (.str s0 :: r)) := by
                        rw [← hC2, hin2, hx3]
                        rfl
                      cases hil : isI (lastD (.str s0 :: r)) with
                      | false => exact iteF (nxt_t (fin _ _ ⟨rfl, sl, by rw [hC2', hil]⟩))
                      | true =>
                        rw [hC2', hil, if_pos rfl] at q
                        have hrp : 1 ≤ r.length := by
                          cases r with
                          | nil => cases hil
                          | cons _ _ => simp
                        have hal2 : acc.length = r.length + 1 := by rw [hal, List.length_cons]
                        have hft3 := sl _ _ hft
                        generalize upd H2 l (.lst [.str "bool", .str "x", .str "y"]) = H3 at *
                        refine iteT ⟨_, rfl, _, rfl, _, _, rfl, .inr ⟨_, SqT.of hft3, rfl⟩, _, _, rfl, rfl, _, rfl, t, acc, rfl, SqT.of hft3, ?_, fun p np => ?_⟩
                        · rw [show ((acc.length : Int) - 1) = ((r.length : Nat) : Int) by omega, HT.sIx_nat]
                          omega
                        · have ecut : cutV acc none (some ((acc.length : Int) - 1)) = acc.take r.length := by
                            unfold cutV
                            rw [show ((acc.length : Int) - 1) = ((r.length : Nat) : Int) by omega, HT.sIx_nat, HT.sIx_none, List.drop_zero]
                            congr 1
                            omega
                          refine ⟨by show 1 ≤ sizeLine; decide, fun t0 nt0 => ?_⟩
                          have sp := same_upd (o := .tup (cutV acc none (some ((acc.length : Int) - 1)))) np
                          have hp : (upd H3 p (.tup (cutV acc none (some ((acc.length : Int) - 1))))) p = some (.tup (acc.take r.length)) := by rw [upd_same, ecut]
                          generalize upd H3 p (.tup (cutV acc none (some ((acc.length : Int) - 1)))) = H4 at *
                          have s0' := same_upd (o := .tup [.int 0]) nt0
                          have hlt : (acc.take r.length).length = r.length := by rw [List.length_take]; omega
                          refine ⟨p, t0, _, _, rfl, rfl, SqT.of (s0' _ _ hp), SqT.of upd_same, ?_, ?_, (fun h => nomatch h), fun _ f nf => ?_⟩
                          · intro e
                            rw [e] at hlt
                            simp at hlt
                            omega
                          · rw [hlt]
                            rw [List.length_cons] at hdl
                            exact Nat.le_trans (Nat.le_trans hdl hbk') (by decide)
                          · have sf := same_upd (o := .tup (acc.take r.length ++ [.int 0])) nf
                            have sA : Same H2 (upd (upd H4 t0 (.tup [.int 0])) f (.tup (acc.take r.length ++ [.int 0]))) := ((sl.trans sp).trans s0').trans sf
                            refine q _ _ (s2.trans sA) (.tup (SqT.of upd_same) (dps_append ?_ (.cons (.int 0) .nil)))
                            have hdr : ((PyData.str s0 :: r).map bareD).dropLast = ((PyData.str s0 :: r).map bareD).take r.length := by
                              rw [List.dropLast_eq_take, List.length_map, List.length_cons, Nat.add_sub_cancel]
                            rw [hdr]
                            exact dps_take r.length (dps_keep (sqt_same sA) _ _ hno hfd)
                  | _ => cases hs0
          · subst hC1
            have hc : (isS d0 && (r.length == 2 && (isI (r.headD .none) && !isB (r.headD .none)))) = false → _ := fun h => fin _ _ ⟨rfl, rfl, h⟩
            refine ⟨_, rfl, .inr (.inl ⟨a, _, _, _, rfl, rfl, hS, at0, ?_⟩)⟩
            refine ⟨_, _, _, _, isS d0, rfl, .ty _, ty_of hx0 hn0, kit_ty (kb_str d0), ⟨_, rfl, ?_⟩⟩
            cases hs0 : isS d0 with
            | false =>
              refine iteF (nxt_t (hc ?_))
              rw [hs0]
              rfl
            | true =>
              refine iteT ?_
              refine ⟨_, rfl, _, _, rfl, .inr ⟨_, hS, rfl⟩, rfl, ?_⟩
              rw [dec_int]
              have hl3 : ((((x0 :: ys).length : Nat) : Int) == 3) = (r.length == 2) := by
                rw [hxl, List.length_cons, Bool.eq_iff_iff, beq_iff_eq, beq_iff_eq]
                omega
              rw [hl3]
              cases hr2 : (r.length == 2) with
              | false =>
                refine ⟨_, rfl, iteF (nxt_t (hc ?_))⟩
                rw [hr2, hs0]
                rfl
              | true =>
                refine ⟨_, rfl, iteT ?_⟩
                have hrl : r.length = 2 := eq_of_beq hr2
                match r, hrl, hys, hc, q, hds with
                | [r1, r2], _, hys, hc, q, hds =>
                  obtain ⟨x1, zs, rfl, hx1, hzs⟩ := dps_cons hys
                  have hn1 : noL r1 = true := noL_mem hds r1 (by simp)
                  have at1 : atI (x0 :: x1 :: zs) 1 = some x1 := at_eq (n := 1) rfl rfl
                  refine ⟨_, rfl, .inr (.inl ⟨a, _, _, _, rfl, rfl, hS, at1, ?_⟩)⟩
                  refine ⟨_, _, _, _, isI r1, rfl, .ty _, ty_of hx1 hn1, kit_ty (kb_int r1), ⟨_, rfl, ?_⟩⟩
                  cases hi1 : isI r1 with
                  | false =>
                    refine iteF (nxt_t (hc ?_))
                    show (isS d0 && (_ && (isI r1 && _))) = false
                    rw [hi1, hs0]
                    rfl
                  | true =>
                    refine iteT ?_
                    refine ⟨_, rfl, .inr (.inl ⟨a, _, _, _, rfl, rfl, hS, at1, ?_⟩)⟩
                    refine ⟨_, _, _, _, isB r1, rfl, .ty _, ty_of hx1 hn1, kit_ty (kb_bool r1), ⟨_, rfl, ?_⟩⟩
                    cases hb1 : isB r1 with
                    | true =>
                      refine iteF (nxt_t (hc ?_))
                      show (isS d0 && (_ && (isI r1 && !isB r1))) = false
                      rw [hi1, hs0, hb1]
                      rfl
                    | false =>
                      refine iteT ?_
                      have hfix : bareD (.tuple [d0, r1, r2]) = .tuple [d0, r1, .int 0] := by
                        rw [bare_tup]
                        show (if (isS d0 && (_ && (isI r1 && !isB r1))) = true then PyData.tuple [d0, r1, .int 0] else _) = _
                        rw [hi1, hs0, hb1]
                        rfl
                      rw [hfix] at q
                      refine ⟨_, rfl, .inr (.inl ⟨a, _, _, _, rfl, rfl, hS, at0, _, rfl, .inr (.inl ⟨a, _, _, _, rfl, rfl, hS, at1, by show 3 ≤ sizeLine; decide, fun t nt => ?_⟩)⟩)⟩
                      have sm := same_upd (o := .tup [x0, x1, .int 0]) nt
                      exact q _ _ sm (.tup (SqT.of upd_same) (.cons (dp_same sm hn0 hx0) (.cons (dp_same sm hn1 hx1) (.cons (.int _) .nil))))
      | _ => cases hT
end
end Tk

namespace Tk
open PySem PySem.Spec PyProof.Rows L2 Ly Lx TL Px Lw
section
variable {P : Program} {w : World} {K : PySem.W.Frag} {mg : Str → Option Value} {base : Heap}
theorem ok_bare (T : Top w K mg) : ∀ n, FnOk P w K mg base CX0 (n + 2) T.a_law_bare T.fd_law_bare ["tree"] (sp_bare K n)
  | 0 => bare_step T (Nat.le_refl 1) ⟨fun vs H Q E h => by
      obtain ⟨d', h, _⟩ := h
      omega, fun A outer s H args us vs Q E _ _ _ _ h => by
      obtain ⟨d', h, _⟩ := h
      omega⟩
  | n + 1 => by
    have ih := ok_bare T n
    refine bare_step T (k := n + 2) (by omega) ⟨fun vs H Q E h => ?_, fun A outer s H args us vs Q E r e b v h => ?_⟩
    · obtain ⟨d', h1, h⟩ := h
      cases h1
      exact ih.len _ _ _ _ h
    · obtain ⟨d', h1, h⟩ := h
      cases h1
      exact ih.run A outer s H args us vs Q E r e b v h
def sp_marks (K : PySem.W.Frag) (n : Nat) : Sp := fun vs H Q _ => ∃ (z : Str) (v : V) (d : PyData), vs = [.str z, v] ∧ Dp K H v d ∧ noL d = true ∧ d.depth ≤ n ∧ d.bulk ≤ 1000000 ∧ z.length ≤ 100000 ∧ MkD (tl z) d ∧ ∀ H', Same H H' → Q (.bl true) H'
def sp_msub (K : PySem.W.Frag) (n : Nat) : Sp := fun vs H Q E => ∃ n', n = n' + 1 ∧ sp_marks K n' vs H Q E
theorem scx_law_marks : FnScope ["text", "tree", "signs", "at", "part"] ["text", "tree"] (defScope s_law_marks) := ⟨rfl, rfl, rfl, by decide +kernel, rfl, by decide +kernel, by decide +kernel⟩
abbrev msD : List (Key × V) := mSigns.map fun p => (Sum.inr p.1, V.str p.2)
theorem msD_merge : mergeK [] msD = msD := by decide
theorem msD_get (s : Str) (v : V) : ∀ l : List (Str × Str), valV (l.map fun p => ((Sum.inr p.1 : Key), V.str p.2)) (.inr s) = some v → ∃ g, v = .str g ∧ (s, g) ∈ l
  | [], h => by cases h
  | p :: l, h => by
    by_cases e : p.1 = s
    · rw [List.map_cons, valV_pos (show (Sum.inr p.1 : Key) = .inr s by rw [e])] at h
      cases h
      exact ⟨p.2, rfl, by rw [← e]; simp⟩
    · rw [List.map_cons, valV_neg (show ¬ (Sum.inr p.1 : Key) = .inr s by intro h; cases h; exact e rfl)] at h
      obtain ⟨g, h1, h2⟩ := msD_get s v l h
      exact ⟨g, h1, List.mem_cons_of_mem _ h2⟩
theorem inV_trues : ∀ n : Nat, inV (.bl false) (List.replicate n (V.bl true)) = false
  | 0 => rfl
  | n + 1 => by
    have ih := inV_trues n
    unfold inV at ih ⊢
    rw [List.replicate_succ, List.any_cons, ih]
    rfl
theorem flat_trues : ∀ n : Nat, (List.replicate n (V.bl true)).all flatV = true
  | 0 => rfl
  | n + 1 => by
    rw [List.replicate_succ, List.all_cons, flat_trues n]
    rfl
theorem sd_cut {z : Str} {i : Nat} {g : Str} (h : Sd (tl z) i g) (hg : g.length ≠ 0) : cutS z (some (i : Int)) (some ((i : Int) + (g.length : Int))) = g := by
  have hl : i + g.length ≤ z.length := by
    have := congrArg List.length h
    rw [List.length_take, List.length_drop, ← len_tl, ← len_tl] at this
    omega
  have := cut_eq z (i := i) (j := i + g.length) (by omega) hl
  rw [show ((i : Int) + (g.length : Int)) = ((i + g.length : Nat) : Int) by omega, this]
  refine ext_tl ?_
  rw [tl_of, show i + g.length - i = g.length by omega]
  exact h
theorem marks_step (T : Top w K mg) {n k : Nat} (hk : 1 ≤ k) (hR : FnOk P w K mg base CX0 k T.a_law_marks T.fd_law_marks ["text", "tree"] (sp_msub K n)) :
    FnOk P w K mg base CX0 (k + 1) T.a_law_marks T.fd_law_marks ["text", "tree"] (sp_marks K n) := by
  refine T.F_law_marks.ok scx_law_marks (fun vs H Q E h => ?_) (fun cdv A outer s H vs Q E hr h => ?_)
  · obtain ⟨z, v, d, rfl, _⟩ := h
    rfl
  · obtain ⟨z, v, d, rfl, hd, hn, hdep, hbk, hz, hmk, q⟩ := h
    refine ⟨_, (pss_cons (ps_if (PW.pt (pw_or (pt_not (pt_val (pe_callB call_isi (by rfl) T.n_isinstance bt_isinstance (pa_cons (pv 1) (pa_cons (pe_bltn (v := .ty "tuple") (by rfl) T.n_tuple bt_tuple rfl) pa_nil))))) (pw_or1 (pt_cmpR op_eq (pe_callB call_len (by rfl) T.n_len bt_len (pa_cons (pv 1) pa_nil)) pe_int (nomark _)))))
      (pss_one (ps_ret pe_bl))
      pss_nil)
      (pss_cons (ps_set (i := 2) scx_law_marks.nd rfl (.inl rfl) (by exact (pe_disp (pps_cons pe_str pe_str (pps_cons pe_str pe_str (pps_cons pe_str pe_str (pps_cons pe_str pe_str (pps_cons pe_str pe_str (pps_cons pe_str pe_str (pps_cons pe_str pe_str (pps_cons pe_str pe_str pps_nil)))))))) rfl rfl (by simp) (by decide))))
      (pss_cons (ps_if (PW.pt (pw_and (pt_val (pe_callB call_isi (by rfl) T.n_isinstance bt_isinstance (pa_cons (pe_ix ix_seq (pv 1) pe_int (fun _ _ => rfl)) (pa_cons (pe_bltn (v := .ty "str") (by rfl) T.n_str bt_str rfl) pa_nil)))) (pw_and (pt_cmp (pc_din (hu_of1 hr) (pe_ix ix_seq (pv 1) pe_int (fun _ _ => rfl)) (pv 2))) (pw_and1 (pt_cmpR op_eq (pe_callB call_len (by rfl) T.n_len bt_len (pa_cons (pv 1) pa_nil)) pe_int (nomark _))))))
      (pss_one (ps_if (pt_cmpR op_ne (pe_slice sl_str (pv 0) (po_some (pe_ix ix_seq (pv 1) pe_int (fun _ _ => rfl))) (po_some (pe_op op_plus (pe_ix ix_seq (pv 1) pe_int (fun _ _ => rfl)) (pe_callB call_len (by rfl) T.n_len bt_len (pa_cons (pe_dget (hu_of1 hr) (pv 2) (pe_ix ix_seq (pv 1) pe_int (fun _ _ => rfl)) (fun _ _ => rfl)) pa_nil))))) (pe_dget (hu_of1 hr) (pv 2) (pe_ix ix_seq (pv 1) pe_int (fun _ _ => rfl)) (fun _ _ => rfl)) (nomark _))
      (pss_one (ps_ret pe_bl))
      pss_nil))
      pss_nil)
      (pss_cons (ps_if (PW.pt (pw_and (pt_val (pe_callB call_isi (by rfl) T.n_isinstance bt_isinstance (pa_cons (pe_ix ix_seq (pv 1) pe_int (fun _ _ => rfl)) (pa_cons (pe_bltn (v := .ty "str") (by rfl) T.n_str bt_str rfl) pa_nil)))) (pw_and1 (pt_cmpR op_in_seq (pe_ix ix_seq (pv 1) pe_int (fun _ _ => rfl)) (pe_lst (pa_cons pe_str (pa_cons pe_str (pa_cons pe_str (pa_cons pe_str (pa_cons pe_str (pa_cons pe_str (pa_cons pe_str (pa_cons pe_str (pa_cons pe_str (pa_cons pe_str pa_nil))))))))))) (by rfl)))))
      (pss_cons (ps_set (i := 3) scx_law_marks.nd rfl (.inl rfl) (by exact (pe_ix ix_seq (pv 1) (pe_op op_sub (pe_callB call_len (by rfl) T.n_len bt_len (pa_cons (pv 1) pa_nil)) pe_int) (fun _ _ => rfl))))
      (pss_one (ps_if (pt_cmpR op_ne (pe_slice sl_str (pv 0) (po_some (pv 3)) (po_some (pe_op op_plus (pv 3) (pe_callB call_len (by rfl) T.n_len bt_len (pa_cons (pe_ix ix_seq (pv 1) pe_int (fun _ _ => rfl)) pa_nil))))) (pe_ix ix_seq (pv 1) pe_int (fun _ _ => rfl)) (nomark _))
      (pss_one (ps_ret pe_bl))
      pss_nil)))
      pss_nil)
      (pss_one (ps_ret (pe_cmpR op_notIn_seq pe_bl (pe_lc (own := [("part", 4)]) (g := gName 4) (tt := tYes) (by rfl) scx_law_marks.nd (pi_tup (pv 1)) (blkOk_by (own := [("part", 4)]) (N := ["text", "tree", "signs", "at", "part"]) (sc := defScope s_law_marks) (by decide +kernel))
      (fun _ _ _ _ _ => pg_name (i := 4) scx_law_marks.nd rfl (Or.inl rfl)) (fun _ _ _ _ _ => pts_nil) (fun _ _ _ _ _ => (pe_call hR (hr.mono (by first | decide | omega)) (by rfl) T.m_law_marks T.F_law_marks.kp T.b_law_marks .nil pass0 (pa_cons (pv 0) (pa_cons (pv 4) pa_nil))))) (by rfl)))))))), ?_⟩
    refine ⟨_, rfl, _, _, _, _, isT d, rfl, .ty _, ty_of hd hn, kit_ty (kb_tup d), ⟨_, rfl, ?_⟩⟩
    cases hT : isT d with
    | false => exact iteT (q _ (Same.refl _))
    | true =>
      cases d with
      | tuple ds =>
        obtain ⟨a, xs, rfl, hS, hxs⟩ := dp_tup hd
        have hds : noLs ds = true := by simpa [noL] using hn
        have hxl : xs.length = ds.length := dps_len hxs
        refine iteF ⟨_, rfl, _, xs.length, rfl, .inr ⟨_, hS, rfl⟩, rfl, ?_⟩
        rw [dec_int]
        cases ds with
        | nil =>
          cases dps_nil hxs
          exact ⟨_, rfl, iteT (q _ (Same.refl _))⟩
        | cons d0 r =>
          obtain ⟨x0, ys, rfl, hx0, hys⟩ := dps_cons hxs
          have hlen : ((((x0 :: ys).length : Nat) : Int) == 0) = false := by
            rw [List.length_cons]
            exact beq_eq_false_iff_ne.mpr (by omega)
          refine ⟨false, by rw [hlen], iteF (nxt_t ?_)⟩
          dsimp only
          have hn0 : noL d0 = true := noL_mem hds d0 (by simp)
          have at0 : atI (x0 :: ys) 0 = some x0 := at_eq (n := 0) rfl rfl
          obtain ⟨n', rfl⟩ : ∃ n', n = n' + 1 := ⟨n - 1, by
            have : (PyData.tuple (d0 :: r)).depth = PyData.depthAll (d0 :: r) + 1 := by simp [PyData.depth]
            omega⟩
          have hdep' : PyData.depthAll (d0 :: r) ≤ n' := by
            have : (PyData.tuple (d0 :: r)).depth = PyData.depthAll (d0 :: r) + 1 := by simp [PyData.depth]
            omega
          have hbk' : PyData.bulkAll (d0 :: r) ≤ 1000000 := by
            have : (PyData.tuple (d0 :: r)).bulk = PyData.bulkAll (d0 :: r) := by simp [PyData.bulk]
            omega
          have hdl := bulk_len (d0 :: r)
          have hmk2 : HdOk (tl z) (d0 :: r) ∧ MkA (tl z) (d0 :: r) := by
            rw [MkD] at hmk
            exact hmk
          -- signs
          intro p np
          refine ⟨upd_same, msD, rfl, by decide, ?_⟩
          have t7 : Same H (upd (upd H p (.dK [])) p (.dK (mergeK [] msD))) := fun b o e => by
            rw [upd_ne (ne_of_none e np), upd_ne (ne_of_none e np)]
            exact e
          have b7 : (upd (upd H p (.dK [])) p (.dK (mergeK [] msD))) p = some (.dK msD) := by rw [upd_same, msD_merge]
          generalize upd (upd H p (.dK [])) p (.dK (mergeK [] msD)) = G at *
          have hS1 := sqt_same t7 _ _ hS
          dsimp only [gName]
          refine seq_joinI (fun σ' H' => σ' = [some (.str z), some (.ref a), some (.ref p), none, none] ∧ Same G H') ?_ (fun fin => ?_)
          · rintro σ' H1 ⟨rfl, s1⟩
            have hS2 := sqt_same s1 _ _ hS1
            have s01 := t7.trans s1
            refine seq_joinI (fun σ' H' => ∃ y, σ' = [some (.str z), some (.ref a), some (.ref p), y, none] ∧ Same H1 H') ?_ (fun fin => ?_)
            · rintro σ' H2 ⟨y, rfl, s2⟩
              have s02 := s01.trans s2
              have hS3 := sqt_same s02 _ _ hS
              refine ⟨_, rfl, a, rfl, ⟨_, hS3⟩, fun D nD => ?_⟩
              refine lc_tup (K := K) (a := a) (xs := x0 :: ys) (fun i H3 => H3 D = some (.lst (List.replicate i (V.bl true))) ∧ Same H2 H3) ⟨upd_same, same_upd nD⟩ (fun i H3 _ hP => sqt_same hP.2 _ _ hS3) (fun i x H3 hx hP => ?_) (fun H3 hP => ?_)
              · obtain ⟨hD, sm⟩ := hP
                have hi : i < (d0 :: r).length := by
                  have := (List.getElem?_eq_some_iff.mp hx).1
                  omega
                obtain ⟨y, hy⟩ : ∃ y, (d0 :: r)[i]? = some y := ⟨_, List.getElem?_eq_getElem hi⟩
                obtain ⟨x', hx', hdx⟩ := dps_get hxs hy
                rw [hx] at hx'
                cases hx'
                have hym := List.mem_of_getElem? hy
                have hny := noL_mem hds y hym
                refine ⟨rfl, ?_⟩
                refine ⟨_, rfl, _, rfl, n', rfl, z, x, y, rfl, dp_same (s02.trans sm) hny hdx, hny, Nat.le_trans (depth_mem hym) hdep', Nat.le_trans (bulk_mem hym) hbk', hz, mkA_mem hmk2.2 y hym, fun H4 s4 => ?_⟩
                refine ⟨_, s4 _ _ hD, ?_, ?_, same_put (sm.trans s4) nD⟩
                · rw [List.length_replicate]
                  exact Nat.lt_of_lt_of_le hi (Nat.le_trans (Nat.le_trans hdl hbk') (by decide))
                · rw [upd_same, List.replicate_succ']
              · obtain ⟨hD, sm⟩ := hP
                refine ⟨D, _, rfl, .inl (SqL.of hD), rfl, flat_trues _, ?_⟩
                rw [if_pos rfl, inV_trues]
                exact q _ (s02.trans sm)
            · refine ⟨_, rfl, .inr (.inl ⟨a, _, _, _, rfl, rfl, hS2, at0, ?_⟩)⟩
              refine ⟨_, _, _, _, isS d0, rfl, .ty _, ty_of (dp_same s01 hn0 hx0) hn0, kit_ty (kb_str d0), ⟨_, rfl, ?_⟩⟩
              cases hs0 : isS d0 with
              | false => exact iteF (nxt_t (fin _ _ ⟨_, rfl, Same.refl _⟩))
              | true =>
                cases d0 with
                | str s0 =>
                  cases dp_str hx0
                  refine iteT ?_
                  refine ⟨_, rfl, .inr (.inl ⟨a, _, _, _, rfl, rfl, hS2, at0, ?_⟩)⟩
                  refine ⟨by show 10 ≤ sizeLine; decide, fun l nl => ?_⟩
                  have sl := same_upd (o := .lst [.str "if", .str "let", .str "iterate", .str "not", .str "and", .str "or", .str "show", .str "fun", .str "base", .str "unit"]) nl
                  refine ⟨l, _, rfl, .inl (SqL.of upd_same), rfl, rfl, _, rfl, ?_⟩
                  generalize upd H1 l (.lst [.str "if", .str "let", .str "iterate", .str "not", .str "and", .str "or", .str "show", .str "fun", .str "base", .str "unit"]) = H2 at *
                  have hi3 : (if false = true then !inV (.str s0) [.str "if", .str "let", .str "iterate", .str "not", .str "and", .str "or", .str "show", .str "fun", .str "base", .str "unit"] else inV (.str s0) [.str "if", .str "let", .str "iterate", .str "not", .str "and", .str "or", .str "show", .str "fun", .str "base", .str "unit"]) = mWords.any (· == s0) := by
                    rw [if_neg Bool.false_ne_true]
                    exact inV_strs s0 mWords
                  rw [hi3]
                  cases hw : mWords.any (· == s0) with
                  | false => exact iteF (nxt_t (fin _ _ ⟨_, rfl, sl⟩))
                  | true =>
                    have hwm : s0 ∈ mWords := by
                      obtain ⟨y, hy, e⟩ := List.any_eq_true.mp hw
                      rw [← eq_of_beq e]
                      exact hy
                    obtain ⟨i, hlast, hsd⟩ := (hmk2.1 s0 r rfl).2 hwm
                    have hll : lastD (.str s0 :: r) = .int (i : Int) := by
                      unfold lastD
                      rw [hlast]
                      rfl
                    have hS3 := sqt_same sl _ _ hS2
                    obtain ⟨xl, hxl2, hdl2⟩ := dps_get hxs (last_get (.str s0) r)
                    rw [hll] at hdl2
                    cases dp_int hdl2
                    have hs0l : s0.length ≤ 10 ∧ s0.length ≠ 0 := by
                      have : ∀ w ∈ mWords, w.length ≤ 10 ∧ w.length ≠ 0 := by decide
                      exact this _ hwm
                    refine iteT ⟨_, rfl, _, rfl, _, _, rfl, .inr ⟨_, hS3, rfl⟩, _, _, rfl, rfl, .inr (.inl ⟨a, _, _, _, rfl, rfl, hS3, at_eq (n := r.length) (by rw [hxl, List.length_cons]; omega) hxl2, ?_⟩)⟩
                    refine ⟨_, rfl, _, rfl, _, rfl, _, rfl, _, rfl, .inr (.inl ⟨a, _, _, _, rfl, rfl, hS3, at0, _, _, rfl, ⟨sz (by omega), rfl⟩, .inl ⟨_, _, rfl, rfl, _, rfl, _, rfl, sz hz, ?_⟩⟩)⟩
                    refine ⟨_, rfl, .inr (.inl ⟨a, _, _, _, rfl, rfl, hS3, at0, rfl, ?_⟩)⟩
                    rw [sd_cut hsd hs0l.2]
                    refine ⟨false, by simp, iteF (nxt_t (fin _ _ ⟨_, rfl, sl⟩))⟩
                | _ => cases hs0
          · refine ⟨_, rfl, .inr (.inl ⟨a, _, _, _, rfl, rfl, hS1, at0, ?_⟩)⟩
            refine ⟨_, _, _, _, isS d0, rfl, .ty _, ty_of (dp_same t7 hn0 hx0) hn0, kit_ty (kb_str d0), ⟨_, rfl, ?_⟩⟩
            cases hs0 : isS d0 with
            | false => exact iteF (nxt_t (fin _ _ ⟨rfl, Same.refl _⟩))
            | true =>
              cases d0 with
              | str s0 =>
                cases dp_str hx0
                refine iteT ?_
                refine ⟨_, rfl, .inr (.inl ⟨a, _, _, _, rfl, rfl, hS1, at0, ?_⟩)⟩
                refine ⟨_, rfl, p, _, rfl, DGet.k (k := .inr s0) b7, _, rfl, ?_⟩
                rcases hv : valV msD (.inr s0) with _ | v
                · exact iteF (nxt_t (fin _ _ ⟨rfl, Same.refl _⟩))
                · obtain ⟨g, rfl, hg⟩ := msD_get s0 v mSigns hv
                  refine iteT ⟨_, rfl, _, _, rfl, .inr ⟨_, hS1, rfl⟩, rfl, ?_⟩
                  rw [dec_int]
                  by_cases hr3 : r.length = 3
                  · have hr4 : ((((V.str s0 :: ys).length : Nat) : Int) == 4) = true := by
                      rw [hxl, List.length_cons, hr3]
                      rfl
                    rw [hr4]
                    obtain ⟨i, hi, hsd⟩ := (hmk2.1 s0 r rfl).1 g hg hr3
                    obtain ⟨x3, hx3, hd3⟩ := dps_get hxs hi
                    cases dp_int hd3
                    have hgl : g.length ≤ 10 ∧ g.length ≠ 0 := by
                      have : ∀ p ∈ mSigns, p.2.length ≤ 10 ∧ p.2.length ≠ 0 := by decide
                      exact this _ hg
                    have hget : DGet G p (kV (.inr s0)) (some (.str g)) := .inl ⟨msD, .inr s0, .inl b7, rfl, hv.symm⟩
                    refine ⟨_, rfl, iteT ?_⟩
                    refine ⟨_, rfl, _, rfl, .inr (.inl ⟨a, _, _, _, rfl, rfl, hS1, at_eq (n := 3) rfl hx3, _, rfl, ?_⟩)⟩
                    refine ⟨_, rfl, .inr (.inl ⟨a, _, _, _, rfl, rfl, hS1, at_eq (n := 3) rfl hx3, ?_⟩)⟩
                    refine ⟨_, rfl, _, rfl, .inr (.inl ⟨a, _, _, _, rfl, rfl, hS1, at0, p, _, rfl, hget, _, _, rfl, ⟨sz (by omega), rfl⟩, .inl ⟨_, _, rfl, rfl, _, rfl, _, rfl, sz hz, ?_⟩⟩)⟩
                    refine ⟨_, rfl, _, rfl, .inr (.inl ⟨a, _, _, _, rfl, rfl, hS1, at0, p, _, rfl, hget, rfl, ?_⟩)⟩
                    rw [sd_cut hsd hgl.2]
                    exact ⟨false, by simp, iteF (nxt_t (fin _ _ ⟨rfl, Same.refl _⟩))⟩
                  · have hr4 : ((((V.str s0 :: ys).length : Nat) : Int) == 4) = false := by
                      rw [hxl, List.length_cons]
                      exact beq_eq_false_iff_ne.mpr (by omega)
                    rw [hr4]
                    exact ⟨_, rfl, iteF (nxt_t (fin _ _ ⟨rfl, Same.refl _⟩))⟩
              | _ => cases hs0
      | _ => cases hT
end
end Tk

namespace Tk
open PySem PySem.Spec PyProof.Rows L2 Ly Lx TL Px Lw
section
variable {P : Program} {w : World} {K : PySem.W.Frag} {mg : Str → Option Value} {base : Heap}
theorem exm_other {C D : Addr} {b : Bool} (me : PySem.W.exmOne K (.ref C) (.ref C) = some true) (h : PySem.W.subIn K (.ref D) (.ref C) = some b) : PySem.W.exmOne K (.ref D) (.ref C) = some b := by
  unfold PySem.W.exmOne at me ⊢
  split at me
  · rename_i h1
    rw [if_pos h1]
    unfold PySem.W.kitCls at me ⊢
    dsimp only at me ⊢
    split at me
    · rename_i h2
      rw [if_pos h2]
      exact h
    · cases me
  · cases me
theorem ok_marks (T : Top w K mg) : ∀ n, FnOk P w K mg base CX0 (n + 2) T.a_law_marks T.fd_law_marks ["text", "tree"] (sp_marks K n)
  | 0 => marks_step T (Nat.le_refl 1) ⟨fun vs H Q E h => by
      obtain ⟨d', h, _⟩ := h
      omega, fun A outer s H args us vs Q E _ _ _ _ h => by
      obtain ⟨d', h, _⟩ := h
      omega⟩
  | n + 1 => by
    have ih := ok_marks T n
    refine marks_step T (k := n + 2) (by omega) ⟨fun vs H Q E h => ?_, fun A outer s H args us vs Q E r e b v h => ?_⟩
    · obtain ⟨d', h1, h⟩ := h
      cases h1
      exact ih.len _ _ _ _ h
    · obtain ⟨d', h1, h⟩ := h
      cases h1
      exact ih.run A outer s H args us vs Q E r e b v h
/-- what was read -/
def RdOut (K : PySem.W.Frag) (H : Hp) (out : Addr) : Except Er (List PyData) → Prop
  | .ok ls => ∃ l xs, H out = some (.lst [.str "read", .ref l]) ∧ H l = some (.lst xs) ∧ DpAll K H xs ls ∧ noLs ls = true
  | .error (.mal i) => H out = some (.lst [.str "malformed", .int (i : Int)])
  | .error .over => H out = some (.lst [.str "oversized", .str "depth"])
def sp_read (K : PySem.W.Frag) : Sp := fun vs H Q _ => ∃ (z : Str) (ts : List (Tkn × Nat)) (j : Nat), vs = [.str z] ∧ z.length ≤ 12000 ∧ LexTo (skip false (tl z)) ((tl z).drop (skip false (tl z))) ts j [] ∧
  ∀ H' out, Same H H' → RdOut K H' out (parseM ts z.length) → Q (.ref out) H'
theorem okT_law_read (T : Top w K mg) : FnT P w K mg base 344 T.a_law_read T.fd_law_read ["text"] (sp_read K) := by
  refine okT T.F_law_read sc_law_read (fun vs H Q E h => ?_) (fun cdv A outer s H vs Q E hr h => ?_)
  · obtain ⟨z, ts, j, rfl, _⟩ := h
    rfl
  · obtain ⟨z, ts, j, rfl, hz, hlx, q⟩ := h
    refine ⟨_, (pss_one (ps_try_two (i := 1) rfl rfl sc_law_read.nd (L2N.takes_of rfl rfl rfl rfl)
      (fun W pn xe tk _ => (pss_one (ps_ret (pe_lst (pa_cons pe_str (pa_cons (pe_callT (okT_parse T (okT_read_line T (okT_expr T))) (hr.mono (by first | decide | omega)) (by rfl) T.m_parse T.F_parse.kp T.b_parse (fun σ => L2N.passAt tk σ) (by exact (pa_cons (pv 0) pa_nil))) pa_nil))))))
      (.cons ⟨rfl, by decide, .inl T.x_Malformed.gC⟩ (fun a oe cls d pn hz hf => (pss_one (ps_ret (pe_lst (pa_cons pe_str (pa_cons (pe_xf T.x_Malformed.xfc T.x_Malformed.no hz.zc hf (pv 1)) pa_nil))))))
      (.cons ⟨rfl, by decide, .inl T.x_Oversized.gC⟩ (fun a oe cls d pn hz hf => (pss_one (ps_ret (pe_lst (pa_cons pe_str (pa_cons (pe_xf T.x_Oversized.xfc T.x_Oversized.no hz.zc hf (pv 1)) pa_nil))))))
      .nil)))), ?_⟩
    refine ⟨_, rfl, z, ts, j, rfl, hz, hlx, ?_⟩
    cases hp : parseM ts z.length with
    | ok ls =>
      rw [hp] at q
      intro l H' xs s1 nl hl hdp hno
      refine ⟨by show 2 ≤ sizeLine; decide, fun o no => ?_⟩
      have sm := same_upd (o := .lst [.str "read", .ref l]) no
      exact q _ _ (s1.trans sm) ⟨l, xs, upd_same, sm _ _ hl, dps_keep (sqt_same sm) _ _ hno hdp, hno⟩
    | error e =>
      cases e with
      | mal i =>
        rw [hp] at q
        intro d H' s1 nd hd
        refine ⟨true, T.x_Malformed.me, fun _ a na => ?_, fun h => nomatch h⟩
        refine ⟨_, rfl, rfl, rfl, d, _, _, rfl, hd, rfl, by show 2 ≤ sizeLine; decide, fun o no => ?_⟩
        exact q _ _ (s1.trans (same_upd no)) upd_same
      | over =>
        rw [hp] at q
        intro d H' s1 nd hd
        refine ⟨false, exm_other T.x_Malformed.me T.ap_Oversized_Malformed, (fun h => nomatch h), fun _ => ?_⟩
        refine ⟨true, T.x_Oversized.me, fun _ a na => ?_, fun h => nomatch h⟩
        refine ⟨_, rfl, rfl, rfl, d, _, _, rfl, hd, rfl, by show 2 ≤ sizeLine; decide, fun o no => ?_⟩
        exact q _ _ (s1.trans (same_upd no)) upd_same
end
end Tk

namespace Tk
open PySem PySem.Spec PyProof.Rows L2 Ly Lx TL Px Lw
theorem lawT_of {P : Program} {w : World} {K : PySem.W.Frag} {mg : Str → Option Value} {base : Heap} {x qual : Str} {st : Stmt} {f : Addr} {fd : FuncData} {N : List Str} {k : Nat} {sp : Sp} (F : Fun K x qual st f fd) {y : Str} (S : FnScope N [y] (defScope st)) (hb : Binds K fd [y] []) (hr : RoomT (k + 1) callerA)
    (len : ∀ vs H Q E, sp vs H Q E → vs.length = [y].length)
    (body : ∀ (cdv : Value) (s : Shared) (H : Hp) (vs : List V) (Q : VK) (E : XK),
      RoomT k (callerA.deeper (envOfC qual (defScope st) s.heap.objs.size f cdv)) → sp vs H Q E →
      ∃ t, PSs (cxOf (L2N.CX P w) P w K mg base N qual (defScope st) f cdv callerA [] s H E) (defBody st) t ∧
        t { nx := fun _ H' => Q .non H', rt := Q } (start N vs) H) : LawOk P w K mg base f sp := by
  obtain ⟨oc, od, kV, doc, pm, an, cdv, ct, osl, rfl, lk, hcd⟩ := F.ex
  refine ⟨fun s H a Q E e0 h => ?_⟩
  have KX : K.In s.heap := e0.mod.kin.keeps fun b o e => (e0.bs b o e).1
  have lim : s.heap.NoLimit := e0.mod.nolimit.keeps fun b o e => (e0.bs b o e).1
  have bnd := hb s [.ref a] KX rfl
  have kinds : ∀ z ∈ [y].zip ([Value.ref a] ++ []), (defScope st).names.lookup z.1 = some .local ∨
      ((defScope st).names.lookup z.1 = some .cell ∧ ((cellsFrom (s.heap.objs.size + 1) (defScope st).names []).lookup z.1).isSome = true) := by
    intro z hz
    have : z = (y, Value.ref a) := by simpa using hz
    subst this
    rcases S.par y (by simp) with q | q
    · exact .inl q
    · exact .inr ⟨q, PySem.W.cellsFrom_some _ _ _ (.inl q)⟩
  refine codeAny_call_function hr.depth (KX _ _ lk) rfl S.co S.gen rfl (PySem.W.codeRec_of KX hcd) (bnd _ _ _ _ ?_)
  refine wpAny_newFunctionEnv_cells S.kind kinds fun env he s1 z => ?_
  subst he
  refine ⟨lim.keeps z.toInCall.keep, codeAny_func ?_⟩
  obtain ⟨t, ht, hq⟩ := body cdv s H [.ref a] Q E (hr.deeper _) h
  have I := inv_start (CX := L2N.CX P w) (cd := cdv) (qual := qual) (f := f) (E := E) S hr.hd e0 (vs := [.ref a]) (us := [.ref a]) rfl (.cons rfl .nil) z
  refine wpAny_mono (ht.run [] s1 _ H _ I hq) (fun fl s' hs => ?_) fun e s' hs => hs
  cases fl with
  | next =>
    obtain ⟨σ', H', J, q⟩ := hs
    exact ⟨.non, H', J.os, J.bare, J.base, J.hok, rfl, q⟩
  | ret u =>
    obtain ⟨v, σ', H', J, rv, q⟩ := hs
    exact ⟨v, H', J.os, J.bare, J.base, J.hok, rv, q⟩
  | brk =>
    obtain ⟨_, _, _, q⟩ := hs
    exact q.elim
  | cont =>
    obtain ⟨_, _, _, q⟩ := hs
    exact q.elim
theorem scx_law : FnScope ["script", "feed", "lines", "text", "found", "places", "setting", "at", "starts", "deep", "due", "k", "line"] ["script"] (defScope s_law) := ⟨rfl, rfl, rfl, by decide +kernel, rfl, by decide +kernel, by decide +kernel⟩
theorem abs_nat (v : Int) : (if v < 0 then -v else v) = (v.natAbs : Int) := by
  split <;> omega
def sp_law (K : PySem.W.Frag) : Sp := fun vs H Q _ => ∃ (a : Addr) (ns : List Int), vs = [.ref a] ∧ SqL K H a (ns.map V.int) ∧ ns.length ≤ 63 ∧ ∀ H', Q (.bl true) H'
theorem lns_no (ls : List Ln) : noLs (ls.map ln0) = true := noLs_of fun d h => by
  obtain ⟨x, _, rfl⟩ := List.mem_map.mp h
  exact ln0_no x
section
variable {P : Program} {w : World} {K : PySem.W.Frag} {mg : Str → Option Value} {base : Heap}
theorem ok_law (T : Top w K mg) : LawOk P w K mg base T.a_law (sp_law K) := by
  refine lawT_of (k := 400) T.F_law (y := "script") scx_law T.b_law ⟨rfl, by decide, by decide⟩ (fun vs H Q E h => ?_) (fun cdv s H vs Q E hr h => ?_)
  · obtain ⟨a, ns, rfl, _⟩ := h
    rfl
  · obtain ⟨a, ns, rfl, hS, hlen, q⟩ := h
    refine ⟨_, (pss_cons (ps_set (i := 1) scx_law.nd rfl (.inr rfl) (by exact (pe_callT (FnT.of0 (ok_law_feed T)) (hr.mono (by first | decide | omega)) (by rfl) T.m_law_feed T.F_law_feed.kp T.b_law_feed (fun σ => L2N.passAt (L2N.takes_of rfl rfl rfl rfl) σ) (by exact (pa_cons (pe_callT (FnT.of0 (ok_law_cell T)) (hr.mono (by first | decide | omega)) (by rfl) T.m_law_cell T.F_law_cell.kp T.b_law_cell (fun σ => L2N.passAt (L2N.takes_of rfl rfl rfl rfl) σ) (by exact (pa_cons (pv 0) (pa_cons pe_int pa_nil)))) (pa_cons pe_int pa_nil))))))
      (pss_cons (ps_setLc (i := 2) (own := [("k", 11)]) (g := gName 11) (tt := tYes) (by rfl) scx_law.nd rfl rfl (sw_true rfl rfl rfl (by decide +kernel)) (pi_range1 (by rfl) T.n_range (pa_cons (pe_op op_plus pe_int (pe_callT (FnT.of0 (ok_law_take T)) (hr.mono (by first | decide | omega)) (by rfl) T.m_law_take T.F_law_take.kp T.b_law_take (fun σ => L2N.passAt (L2N.takes_of rfl rfl rfl rfl) σ) (by exact (pa_cons (pv 1) (pa_cons pe_int pa_nil))))) pa_nil)) (blkOk_by (own := [("k", 11)]) (N := ["script", "feed", "lines", "text", "found", "places", "setting", "at", "starts", "deep", "due", "k", "line"]) (sc := defScope s_law) (by decide +kernel))
      (fun _ _ _ _ _ => pg_name (i := 11) scx_law.nd rfl (Or.inl rfl)) (fun _ _ _ _ _ => pts_nil) (fun _ _ _ _ _ => (pe_call (ok_law_line T) (RoomT.room (k := 8) (hr.mono (by decide))) (by rfl) T.m_law_line T.F_law_line.kp T.b_law_line .nil pass0 (pa_cons (pv 1) pa_nil))))
      (pss_cons (ps_set (i := 3) scx_law.nd rfl (.inr rfl) (by exact (pe_join pe_str (pe_lc (own := [("line", 12)]) (g := gName 12) (tt := tYes) (by rfl) scx_law.nd (pi_list (pv 2)) (blkOk_by (own := [("line", 12)]) (N := ["script", "feed", "lines", "text", "found", "places", "setting", "at", "starts", "deep", "due", "k", "line"]) (sc := defScope s_law) (by decide +kernel))
      (fun _ _ _ _ _ => pg_name (i := 12) scx_law.nd rfl (Or.inl rfl)) (fun _ _ _ _ _ => pts_nil) (fun _ _ _ _ _ => (pe_call (ok_law_shown T) (RoomT.room (k := 7) (hr.mono (by decide))) (by rfl) T.m_law_shown T.F_law_shown.kp T.b_law_shown .nil pass0 (pa_cons (pv 12) pa_nil)))))))
      (pss_cons (ps_if (pt_cmpR op_gt (pe_callB call_len (by rfl) T.n_len bt_len (pa_cons (pv 3) pa_nil)) pe_int (nomark _))
      (pss_one (ps_ret pe_bl))
      pss_nil)
      (pss_cons (ps_set (i := 4) scx_law.nd rfl (.inl rfl) (by exact (pe_callT (okT_law_read T) (hr.mono (by first | decide | omega)) (by rfl) T.m_law_read T.F_law_read.kp T.b_law_read (fun σ => L2N.passAt (L2N.takes_of rfl rfl rfl rfl) σ) (by exact (pa_cons (pv 3) pa_nil)))))
      (pss_cons (ps_if (PW.pt (pw_or (pt_cmpR op_ne (pe_ix ix_seq (pv 4) pe_int (fun _ _ => rfl)) pe_str (nomark _)) (pw_or1 (pt_cmpR op_ne (pe_callB (call_repr rfl hr.u128) (by rfl) T.n_repr bt_repr (pa_cons (pe_lc (own := [("line", 12)]) (g := gName 12) (tt := tYes) (by rfl) scx_law.nd (pi_list (pe_ix ix_seq (pv 4) pe_int (fun _ _ => rfl))) (blkOk_by (own := [("line", 12)]) (N := ["script", "feed", "lines", "text", "found", "places", "setting", "at", "starts", "deep", "due", "k", "line"]) (sc := defScope s_law) (by decide +kernel))
      (fun _ _ _ _ _ => pg_name (i := 12) scx_law.nd rfl (Or.inl rfl)) (fun _ _ _ _ _ => pts_nil) (fun _ _ _ _ _ => (pe_call (ok_bare T 12) (RoomT.room (k := 14) (hr.mono (by decide))) (by rfl) T.m_law_bare T.F_law_bare.kp T.b_law_bare .nil pass0 (pa_cons (pv 12) pa_nil)))) pa_nil)) (pe_callB (call_repr rfl hr.u128) (by rfl) T.n_repr bt_repr (pa_cons (pv 2) pa_nil)) (nomark _)))))
      (pss_one (ps_ret pe_bl))
      pss_nil)
      (pss_cons (ps_if (pt_cmpR op_in_seq pe_bl (pe_lc (own := [("line", 12)]) (g := gName 12) (tt := tYes) (by rfl) scx_law.nd (pi_list (pe_ix ix_seq (pv 4) pe_int (fun _ _ => rfl))) (blkOk_by (own := [("line", 12)]) (N := ["script", "feed", "lines", "text", "found", "places", "setting", "at", "starts", "deep", "due", "k", "line"]) (sc := defScope s_law) (by decide +kernel))
      (fun _ _ _ _ _ => pg_name (i := 12) scx_law.nd rfl (Or.inl rfl)) (fun _ _ _ _ _ => pts_nil) (fun _ _ _ _ _ => (pe_call (ok_marks T 12) (RoomT.room (k := 14) (hr.mono (by decide))) (by rfl) T.m_law_marks T.F_law_marks.kp T.b_law_marks .nil pass0 (pa_cons (pv 3) (pa_cons (pv 12) pa_nil))))) (by rfl))
      (pss_one (ps_ret pe_bl))
      pss_nil)
      (pss_cons (ps_set (i := 5) scx_law.nd rfl (.inl rfl) (by exact (pe_callT (FnT.of (ok_tokens T)) (hr.mono (by first | decide | omega)) (by rfl) T.m_tokens T.F_tokens.kp T.b_tokens (fun σ => L2N.passAt (L2N.takes_of rfl rfl rfl rfl) σ) (by exact (pa_cons (pv 3) pa_nil)))))
      (pss_cons (ps_set (i := 6) scx_law.nd rfl (.inl rfl) (by exact (pe_callB call_abs (by rfl) T.n_abs bt_abs (pa_cons (pe_callT (FnT.of0 (ok_law_cell T)) (hr.mono (by first | decide | omega)) (by rfl) T.m_law_cell T.F_law_cell.kp T.b_law_cell (fun σ => L2N.passAt (L2N.takes_of rfl rfl rfl rfl) σ) (by exact (pa_cons (pv 0) (pa_cons pe_int pa_nil)))) pa_nil))))
      (pss_cons (ps_set (i := 7) scx_law.nd rfl (.inl rfl) (by exact (pe_ix ix_seq (pe_ix ix_seq (pv 5) (pe_op op_mod (pv 6) (pe_callB call_len (by rfl) T.n_len bt_len (pa_cons (pv 5) pa_nil))) (fun _ _ => rfl)) pe_int (fun _ _ => rfl))))
      (pss_cons (ps_set (i := 8) scx_law.nd rfl (.inl rfl) (by exact (pe_lst (pa_cons pe_str (pa_cons pe_str (pa_cons pe_str (pa_cons pe_str pa_nil)))))))
      (pss_cons (ps_if (PW.pt (pw_and (pt_cmpR (op_notInL hr.u128) (pe_ix ix_seq (pe_ix ix_seq (pv 5) (pe_op op_mod (pv 6) (pe_callB call_len (by rfl) T.n_len bt_len (pa_cons (pv 5) pa_nil))) (fun _ _ => rfl)) pe_int (fun _ _ => rfl)) (pv 8) (by rfl)) (pw_and1 (pt_cmpR (show OpR _ (compareOp .NotEq) (rNeD K) from op_neD hr.u64) (pe_callT (okT_law_read T) (hr.mono (by first | decide | omega)) (by rfl) T.m_law_read T.F_law_read.kp T.b_law_read (fun σ => L2N.passAt (L2N.takes_of rfl rfl rfl rfl) σ) (by exact (pa_cons (pe_op op_plus (pe_op op_plus (pe_slice sl_str (pv 3) po_none (po_some (pv 7))) pe_str) (pe_slice sl_str (pv 3) (po_some (pv 7)) po_none)) pa_nil))) (pe_lst (pa_cons pe_str (pa_cons (pe_op op_plus (pv 7) pe_int) pa_nil))) (nomark _)))))
      (pss_one (ps_ret pe_bl))
      pss_nil)
      (pss_cons (ps_if (pt_cmpR (show OpR _ (compareOp .NotEq) (rNeD K) from op_neD hr.u64) (pe_callT (okT_law_read T) (hr.mono (by first | decide | omega)) (by rfl) T.m_law_read T.F_law_read.kp T.b_law_read (fun σ => L2N.passAt (L2N.takes_of rfl rfl rfl rfl) σ) (by exact (pa_cons (pe_slice sl_str (pv 3) po_none (po_some (pe_op op_sub (pe_callB call_len (by rfl) T.n_len bt_len (pa_cons (pv 3) pa_nil)) pe_int))) pa_nil))) (pe_lst (pa_cons pe_str (pa_cons (pe_op op_sub (pe_callB call_len (by rfl) T.n_len bt_len (pa_cons (pv 3) pa_nil)) pe_int) pa_nil))) (nomark _))
      (pss_one (ps_ret pe_bl))
      pss_nil)
      (pss_cons (ps_set (i := 9) scx_law.nd rfl (.inl rfl) (by exact (pe_op op_plus pe_int (pe_op op_mod (pe_callTy call_intX (by rfl) T.n_int bt_int (pa_cons (pe_op op_fdiv (pv 6) pe_int) pa_nil)) pe_int))))
      (pss_cons (ps_set (i := 10) scx_law.nd rfl (.inl rfl) (by exact (pe_lst (pa_cons pe_str (pa_cons pe_str pa_nil)))))
      (pss_cons (ps_if (pt_cmpR op_lt (pv 9) pe_int (nomark _))
      (pss_one (ps_set (i := 10) scx_law.nd rfl (.inl rfl) (by exact (pe_lst (pa_cons pe_str (pa_cons (pe_lst (pa_cons (pe_tup (pa_cons pe_str (pa_cons (pe_tup (pa_cons pe_str (pa_cons pe_bl pa_nil))) (pa_cons pe_non (pa_cons pe_int pa_nil))))) pa_nil)) pa_nil))))))
      pss_nil)
      (pss_one (ps_ret (pe_cmpR (show OpR _ (compareOp .Eq) (rEqD K) from op_eqD hr.u64) (pe_callT (okT_law_read T) (hr.mono (by first | decide | omega)) (by rfl) T.m_law_read T.F_law_read.kp T.b_law_read (fun σ => L2N.passAt (L2N.takes_of rfl rfl rfl rfl) σ) (by exact (pa_cons (pe_op op_plus (pe_op op_plus (pe_op op_plus (pe_op op_plus pe_str (pe_op op_timesX pe_str (pv 9))) pe_str) (pe_op op_timesX pe_str (pv 9))) pe_str) pa_nil))) (pv 10) (nomark _)))))))))))))))))))), ?_⟩
    refine ⟨_, rfl, a, ns, 0, rfl, hS, _, 60, rfl, by decide, by decide, fun H1 F s1 nf nl a1 => ?_⟩
    -- lines
    refine ⟨_, rfl, F, 0, 4, rfl, by decide, a1, by decide, fun H2 n hn g2 a2 => ?_⟩
    have s2 : Same H H2 := same_go s1 nf g2
    refine .inl ⟨_, _, rfl, rfl, _, rfl, by omega, by omega, fun D nD => ?_⟩
    have e1 : ((1 : Int) + (n : Int)).toNat = n + 1 := by omega
    rw [e1]
    have hDl : D ≠ F.l := fun e => by
      subst e
      rw [a2.2.1] at nD
      cases nD
    have nD0 : H D = none := by
      cases e : H D with
      | none => rfl
      | some o => rw [s2 D o e] at nD; cases nD
    have gD : Go F.f H2 (upd H2 D (.lst [])) := go_new nD
    refine lc_range (lo := 0) (n := n + 1) (fun i H' => ∃ acc ls k', H' D = some (.lst acc) ∧ DpAll K H' acc (ls.map ln0) ∧ ls.length = i ∧ (∀ l ∈ ls, DrL l) ∧ Go F.f H2 H' ∧ F.at_ H' k' ∧ k' ≤ 1 + 1200 * i)
      ⟨[], [], _, upd_same, .nil, rfl, fun x h => by simp at h, gD, a2.new nD, by omega⟩ (fun i H' hi hP => ?_) (fun H' hP => ?_)
    · obtain ⟨acc, ls, k', hD, hacc, hu, hok, g', ha', hk'⟩ := hP
      refine ⟨rfl, ?_⟩
      refine ⟨_, rfl, F, k', rfl, ha', by omega, fun H4 v l k4 hdl g4 a4 hk4 hdp => ?_⟩
      have hD4 : H4 D = some (.lst acc) := g4.1 _ _ (ha'.ne hD) hD
      have hno := lns_no ls
      have hacl : acc.length ≤ 4 := by rw [dps_len hacc, List.length_map, hu]; omega
      refine ⟨acc, hD4, len_ok (by omega), _, ls ++ [l], k4, upd_same, ?_, by simp [hu], fun y hy => ?_, go_put (g'.trans g4) nD fun _ => a4.ne hD4, a4.put hD4 hDl, by omega⟩
      · rw [List.map_append]
        exact dps_append (dps_keep (sqt_put hD4) _ _ hno (ha'.dps g4 hno hacc)) (.cons (dp_keep (sqt_put hD4) _ _ (ln0_no l) hdp) .nil)
      · rcases List.mem_append.mp hy with h | h
        · exact hok y h
        · have : y = l := by simpa using h
          subst this
          exact hdl
    obtain ⟨acc, ls, k', hD, hacc, hu, hok, g', ha', hk'⟩ := hP
    have s3 : Same H H' := same_go s2 (by
      cases e : H F.f with
      | none => rfl
      | some o => rw [nf] at e; cases e) g'
    have hne : ls ≠ [] := fun e => by rw [e] at hu; simp at hu
    have hno := lns_no ls
    have hal : acc.length = ls.length := by rw [dps_len hacc, List.length_map]
    clear hDl gD g' ha' hk' a2 a1 g2 s1 s2 nD
    -- text
    refine ⟨⟨_, rfl⟩, _, rfl, D, rfl, ⟨_, SqL.of hD⟩, fun D2 nD2 => ?_⟩
    refine lc_list (K := K) (a := D) (xs := acc) (fun i H3 => H3 D2 = some (.lst (((ls.take i).map lnT).map V.str)) ∧ Same H' H3) ⟨upd_same, same_upd nD2⟩ (fun i H3 _ hP => SqL.of (hP.2 _ _ hD)) (fun i x H3 hx hP => ?_) (fun H3 hP => ?_)
    · obtain ⟨hD2, sm⟩ := hP
      have hi : i < ls.length := by
        have := (List.getElem?_eq_some_iff.mp hx).1
        omega
      obtain ⟨y, hy⟩ : ∃ y, ls[i]? = some y := ⟨_, List.getElem?_eq_getElem hi⟩
      obtain ⟨x', hx', hdx⟩ := dps_get hacc (show (ls.map ln0)[i]? = some (ln0 y) by rw [List.getElem?_map, hy]; rfl)
      rw [hx] at hx'
      cases hx'
      refine ⟨rfl, ?_⟩
      refine ⟨_, rfl, x, y, rfl, dp_same sm (ln0_no y) hdx, hok y (List.mem_of_getElem? hy), fun H4 s4 => ?_⟩
      refine ⟨_, s4 _ _ hD2, ?_, ?_, same_put (sm.trans s4) nD2⟩
      · rw [List.length_map, List.length_map, List.length_take]
        exact len_ok (by omega)
      · rw [upd_same, List.take_succ, hy]
        show _ = some (HO.lst (List.map V.str (List.map lnT (_ ++ [y]))))
        rw [List.map_append, List.map_append]
        rfl
    obtain ⟨hD2, sm3⟩ := hP
    rw [List.take_of_length_le (by omega)] at hD2
    have hj : ((ls.map lnT).map (·.length)).sum + (ls.map lnT).length * ("\n " : Str).length ≤ 30000 := by
      have h1 := join_le (y := "\n ") (l := ls.map lnT) (m := 6000) (fun x hx => by
        obtain ⟨z, hz, rfl⟩ := List.mem_map.mp hx
        exact lnT_len (hok z hz))
      have h2 : (ls.map lnT).length * (6000 + ("\n " : Str).length) ≤ 4 * 6002 := Nat.mul_le_mul (by rw [List.length_map]; omega) (by decide)
      omega
    have hjl := Nat.le_trans (join_len (y := "\n ") (l := ls.map lnT)) hj
    refine ⟨_, D2, ls.map lnT, rfl, rfl, .inl (SqL.of hD2), Nat.le_trans hj (by decide), ?_⟩
    have hz0 := all_text hne hok
    generalize hz : Txt.join "\n " (ls.map lnT) = z at *
    have s03 := s3.trans sm3
    have hDs := sm3 _ _ hD
    have haccs := dps_keep (sqt_same sm3) _ _ hno hacc
    clear hD2 nD2 sm3 hacc hD s3
    refine ⟨_, rfl, _, _, rfl, ⟨sz (by omega), rfl⟩, _, _, rfl, rfl, _, rfl, ite2 (fun hc => q _) (fun hc => ?_)⟩
    have hz9 : z.length ≤ 9000 := by
      have hc' : ¬ decide ((9000 : Int) < (z.length : Int)) = true := hc
      rw [decide_eq_true_eq] at hc'
      omega
    have hskip : skip false (tl z) = 0 := by
      rw [hz0]
      exact fits_skip (fits_all hok)
    have hlex : LexTo (skip false (tl z)) ((tl z).drop (skip false (tl z))) (allT ls) ((txP (allQ ls)).length + 1) [] := by
      rw [hskip, List.drop_zero, hz0]
      exact lex_allT hok
    have hzl : z.length = (txP (allQ ls)).length + 1 := by
      rw [len_tl, hz0, List.length_append]
      rfl
    refine nxt_t ?_
    dsimp only
    refine ⟨_, rfl, z, allT ls, _, rfl, by omega, hlex, fun H4 fo s4 ho => ?_⟩
    rw [read_all hne hok] at ho
    obtain ⟨fl, fxs, hfo, hfl, hfd, hfn⟩ := ho
    have hfxl : fxs.length = ls.length := by rw [dps_len hfd, allD_len]
    -- as it was drawn
    refine ⟨_, rfl, .inl ⟨fo, _, _, _, rfl, rfl, SqL.of hfo, rfl, rfl, ⟨false, by decide, iteF ?_⟩⟩⟩
    refine ⟨_, rfl, .inl ⟨fo, _, _, _, rfl, rfl, SqL.of hfo, rfl, fl, rfl, ⟨_, SqL.of hfl⟩, fun D3 nD3 => ?_⟩⟩
    refine lc_list (K := K) (a := fl) (xs := fxs) (fun i H5 => ∃ acc2, H5 D3 = some (.lst acc2) ∧ DpAll K H5 acc2 (((allD 0 ls).take i).map bareD) ∧ Same H4 H5) ⟨[], upd_same, .nil, same_upd nD3⟩ (fun i H5 _ hP => ?_) (fun i x H5 hx hP => ?_) (fun H5 hP => ?_)
    · obtain ⟨_, _, _, sm⟩ := hP
      exact SqL.of (sm _ _ hfl)
    · obtain ⟨acc2, hD3, hacc2, sm⟩ := hP
      have hi : i < (allD 0 ls).length := by
        have := (List.getElem?_eq_some_iff.mp hx).1
        rw [allD_len]
        omega
      obtain ⟨y, hy⟩ : ∃ y, (allD 0 ls)[i]? = some y := ⟨_, List.getElem?_eq_getElem hi⟩
      obtain ⟨x', hx', hdx⟩ := dps_get hfd hy
      rw [hx] at hx'
      cases hx'
      have hym := List.mem_of_getElem? hy
      have hny := noL_mem hfn y hym
      have hdb := db_lines ls 0 hok y hym
      have hacn : noLs (((allD 0 ls).take i).map bareD) = true := bares_no (noLs_sub hfn fun d h => List.mem_of_mem_take h)
      refine ⟨rfl, ?_⟩
      refine ⟨_, rfl, x, y, rfl, dp_same sm hny hdx, hny, hdb.dp, Nat.le_trans hdb.bk (by decide), fun H6 v6 s6 hd6 => ?_⟩
      have hD6 := s6 _ _ hD3
      refine ⟨acc2, hD6, ?_, acc2 ++ [v6], upd_same, ?_, same_put (sm.trans s6) nD3⟩
      · rw [dps_len hacc2, List.length_map, List.length_take]
        rw [allD_len] at hi
        exact len_ok (by omega)
      · rw [List.take_succ, hy]
        show DpAll K _ _ (List.map bareD (_ ++ [y]))
        rw [List.map_append]
        exact dps_append (dps_keep (sqt_put hD6) _ _ hacn (dps_keep (sqt_same s6) _ _ hacn hacc2)) (.cons (dp_keep (sqt_put hD6) _ _ (bare_no y hny) hd6) .nil)
    obtain ⟨acc2, hD3, hacc2, sm5⟩ := hP
    rw [List.take_of_length_le (by rw [allD_len]; omega), bare_lines ls 0 hok] at hacc2
    have hsm := (sm_lns hok).lst
    have hshow : (PyData.list (ls.map ln0)).shown.length ≤ sizeLine := by
      have h1 := PyData.shown_le_bulk 20 (by decide) _ hsm.lv
      have h2 := hsm.bk
      have h3 : (20 + 2) * (PyData.list (ls.map ln0)).bulk ≤ 22 * 100000 := Nat.mul_le_mul_left _ (by omega)
      exact Nat.le_trans h1 (Nat.le_trans (show _ + 20 ≤ 22 * 100000 + 20 by omega) (by decide))
    have hdep := Nat.le_trans hsm.dp (show 12 + 1 ≤ 120 by decide)
    have s05 := (s03.trans s4).trans sm5
    refine ⟨D3, _, rfl, .lst (SqL.of hD3) hacc2, hsm.sh, hsm.nd, hdep, hshow, ?_⟩
    refine ⟨_, rfl, D, _, rfl, .lst (SqL.of ((s4.trans sm5) _ _ hDs)) (dps_keep (sqt_same (s4.trans sm5)) _ _ hno haccs), hsm.sh, hsm.nd, hdep, hshow, rfl, ⟨false, by simp, iteF (nxt_t ?_)⟩⟩
    dsimp only
    have hfo5 := sm5 _ _ hfo
    have hfl5 := sm5 _ _ hfl
    have hfd5 := dps_keep (sqt_same sm5) _ _ hfn hfd
    clear hD3 hacc2 nD3 hshow hdep hsm haccs hDs hfo hfl hfd sm5 s4 s03
    -- the marks
    refine ⟨_, rfl, .inl ⟨fo, _, _, _, rfl, rfl, SqL.of hfo5, rfl, fl, rfl, ⟨_, SqL.of hfl5⟩, fun D4 nD4 => ?_⟩⟩
    refine lc_list (K := K) (a := fl) (xs := fxs) (fun i H6 => H6 D4 = some (.lst (List.replicate i (V.bl true))) ∧ Same H5 H6) ⟨upd_same, same_upd nD4⟩ (fun i H6 _ hP => SqL.of (hP.2 _ _ hfl5)) (fun i x H6 hx hP => ?_) (fun H6 hP => ?_)
    · obtain ⟨hD4, sm⟩ := hP
      have hi : i < (allD 0 ls).length := by
        have := (List.getElem?_eq_some_iff.mp hx).1
        rw [allD_len]
        omega
      obtain ⟨y, hy⟩ : ∃ y, (allD 0 ls)[i]? = some y := ⟨_, List.getElem?_eq_getElem hi⟩
      obtain ⟨x', hx', hdx⟩ := dps_get hfd5 hy
      rw [hx] at hx'
      cases hx'
      have hym := List.mem_of_getElem? hy
      have hny := noL_mem hfn y hym
      have hdb := db_lines ls 0 hok y hym
      have hT : Tx (tl z) 0 (allP ls) := ⟨[], [], by rw [hz0, allP_Q hne, txP_append]; simp [txP, sg]; rfl, rfl⟩
      refine ⟨rfl, ?_⟩
      refine ⟨_, rfl, _, rfl, z, x, y, rfl, dp_same sm hny hdx, hny, hdb.dp, Nat.le_trans hdb.bk (by decide), by omega, mk_lines ls 0 hok hT y hym, fun H7 s7 => ?_⟩
      refine ⟨_, s7 _ _ hD4, ?_, ?_, same_put (sm.trans s7) nD4⟩
      · rw [List.length_replicate]
        rw [allD_len] at hi
        exact len_ok (by omega)
      · rw [upd_same, List.replicate_succ']
    obtain ⟨hD4, sm6⟩ := hP
    refine ⟨D4, _, rfl, .inl (SqL.of hD4), rfl, flat_trues _, ?_⟩
    rw [if_neg Bool.false_ne_true, inV_trues]
    refine ⟨_, rfl, iteF (nxt_t ?_)⟩
    dsimp only
    have s06 := s05.trans sm6
    clear hD4 nD4 sm6 s05 hfo5 hfl5 hfd5
    -- the tokens
    refine ⟨_, rfl, z, rfl, by omega, fun h => absurd h (by omega), fun _ => ⟨allT ls, _, [], hlex, .inl rfl, fun _ pl H7 pxs s7 npl hpl hpd => ?_, fun h => absurd rfl h⟩⟩
    have s07 := s06.trans s7
    refine ⟨_, rfl, a, ns, 1, rfl, s07.seq hS, _, rfl, ?_⟩
    rw [abs_nat]
    generalize (ns.getD 1 0).natAbs = st
    have hpxl : pxs.length = (allT ls).length := by rw [dps_len hpd, List.length_map]
    have hpx0 : 0 < pxs.length := by rw [hpxl, allT_len]; omega
    have hpm : st % pxs.length < (allT ls).length := by
      rw [← hpxl]
      exact Nat.mod_lt _ hpx0
    obtain ⟨⟨t, tat⟩, htk⟩ : ∃ y, (allT ls)[st % pxs.length]? = some y := ⟨_, List.getElem?_eq_getElem hpm⟩
    obtain ⟨tv, htv, htd⟩ := dps_get hpd (show ((allT ls).map tokD)[st % pxs.length]? = some (tokD (t, tat)) by rw [List.getElem?_map, htk]; rfl)
    obtain ⟨ta, txs, rfl, htS, htx⟩ := dp_tup htd
    obtain ⟨k0, txs, rfl, hk0, htx⟩ := dps_cons htx
    obtain ⟨k1, txs, rfl, hk1, htx⟩ := dps_cons htx
    obtain ⟨k2, txs, rfl, hk2, htx⟩ := dps_cons htx
    cases dps_nil htx
    cases dp_int hk2
    have htsh := LexTo.shaped hlex (t, tat) (List.mem_of_getElem? htk)
    have hmod : ((st : Nat) : Int) % (pxs.length : Int) = ((st % pxs.length : Nat) : Int) := rfl
    refine ⟨_, rfl, _, rfl, _, rfl, _, _, rfl, .inl ⟨_, SqL.of hpl, rfl⟩, _, _, rfl, rfl, (by show (0 : Int) < (pxs.length : Int); omega), .inl ⟨pl, _, _, _, rfl, rfl, SqL.of hpl, at_eq hmod htv, .inr (.inl ⟨ta, _, _, _, rfl, rfl, htS, at_eq (n := 2) rfl rfl, ?_⟩)⟩⟩
    refine ⟨by show 4 ≤ sizeLine; decide, fun sl nsl => ?_⟩
    have s8 := same_upd (o := .lst [.str "base", .str "unit", .str "fun", .str "show"]) nsl
    have hsl : (upd H7 sl (.lst [.str "base", .str "unit", .str "fun", .str "show"])) sl = some (.lst [.str "base", .str "unit", .str "fun", .str "show"]) := upd_same
    generalize upd H7 sl (.lst [.str "base", .str "unit", .str "fun", .str "show"]) = H8 at *
    have hpl8 := s8 _ _ hpl
    have htS8 := sqt_same s8 _ _ htS
    dsimp only [gName]
    refine seq_joinI (fun σ' _ => σ' = [some (.ref a), some (.ref F.f), some (.ref D), some (.str z), some (.ref fo), some (.ref pl), some (.int (st : Int)), some (.int (tat : Int)), some (.ref sl), none, none, none, none]) ?_ (fun fin => ?_)
    · rintro σ' H9 rfl
      clear hpl8 htS8 hsl s8 hpd hpl s7 npl htv htd hk0 hk1 htS htx hk2 s07 s06
      -- without the last sign
      have hcl : ((z.length : Int) - 1) = (((txP (allQ ls)).length : Nat) : Int) := by omega
      have hcut : cutS z none (some ((z.length : Int) - 1)) = mk (txP (allQ ls)) := by
        rw [hcl, cut_to z (by omega), hz0, List.take_left]
      have hml : (mk (txP (allQ ls))).length = (txP (allQ ls)).length := mk_len _
      have hsk : skip false (txP (allQ ls)) = 0 := by
        cases hQ : allQ ls with
        | nil => rfl
        | cons c P =>
          have := fits_all hok
          rw [hQ] at this
          exact tok_noskip (head_tok this)
      refine ⟨_, rfl, _, rfl, _, _, rfl, ⟨sz (by omega), rfl⟩, _, _, rfl, rfl, _, rfl, _, rfl, sz (by omega), ?_⟩
      rw [hcut]
      refine ⟨mk (txP (allQ ls)), tkP 0 (allQ ls), (txP (allQ ls)).length, rfl, by omega, ?_, fun H10 o10 s10 ho10 => ?_⟩
      · rw [tl_of, hsk, List.drop_zero]
        exact lex_cutT hok
      rw [hml, read_cut hne hok] at ho10
      refine ⟨_, rfl, _, _, rfl, ⟨sz (by omega), rfl⟩, _, _, rfl, rfl, by show 2 ≤ sizeLine; decide, fun l11 nl11 => ?_⟩
      have s11 := same_upd (o := .lst [.str "malformed", .int ((z.length : Int) - 1)]) nl11
      have shm : ∀ i : Int, SeqAt.shaped (.list [.str "malformed", .int i]) = true := fun i => by
        unfold SeqAt.shaped
        simp [PyData.canLay0, PyData.depth, PyData.canLayAll0, PyData.depthAll]
        exact strOk_of (by decide)
      refine ⟨.list [.str "malformed", .int ((z.length : Int) - 1)], .list [.str "malformed", .int ((z.length : Int) - 1)], .lst (SqL.of (s11 _ _ ho10)) (.cons (.str _) (.cons (by rw [hcl]; exact .int _) .nil)), .lst (SqL.of upd_same) (.cons (.str _) (.cons (.int _) .nil)), shm _, shm _, ?_⟩
      rw [SeqAt.eqv_refl _ (SeqAt.canLay_of_shaped (shm _))]
      refine ⟨_, rfl, iteF (nxt_t ?_)⟩
      dsimp only
      -- many parentheses
      refine ⟨_, rfl, _, _, rfl, rfl, ⟨by decide, by decide⟩, .inl (.inl ⟨_, rfl, _, _, rfl, rfl, (by show (0 : Int) < 40; decide), .inl ⟨_, _, rfl, rfl, ?_⟩⟩)⟩
      have hdp : (1 : Int) + (st : Int) / 7 % 40 = ((1 + st / 7 % 40 : Nat) : Int) := by omega
      dsimp only
      rw [hdp]
      have hd40 : 1 + st / 7 % 40 ≤ 40 := by
        have := Nat.mod_lt (st / 7) (show 0 < 40 by decide)
        omega
      generalize 1 + st / 7 % 40 = dp at hd40
      have l1 : (repS "(" dp).length ≤ 40 := by
        rw [repS_len]
        show dp * 1 ≤ 40
        omega
      have l2 : (repS ")" dp).length ≤ 40 := by
        rw [repS_len]
        show dp * 1 ≤ 40
        omega
      have l3 : (("show " : Str) ++ repS "(" dp).length ≤ 45 := by
        rw [sapp_len]
        show 5 + _ ≤ _
        omega
      have l4 : (("show " : Str) ++ repS "(" dp ++ "true").length ≤ 49 := by
        rw [sapp_len]
        show _ + 4 ≤ _
        omega
      have l5 : (("show " : Str) ++ repS "(" dp ++ "true" ++ repS ")" dp).length ≤ 89 := by
        rw [sapp_len]
        omega
      have l6 : (("show " : Str) ++ repS "(" dp ++ "true" ++ repS ")" dp ++ ";").length ≤ 90 := by
        rw [sapp_len]
        show _ + 1 ≤ _
        omega
      have hbt := br_text dp
      have hlex5 : LexTo (skip false (tl (("show " : Str) ++ repS "(" dp ++ "true" ++ repS ")" dp ++ ";"))) ((tl (("show " : Str) ++ repS "(" dp ++ "true" ++ repS ")" dp ++ ";")).drop (skip false (tl (("show " : Str) ++ repS "(" dp ++ "true" ++ repS ")" dp ++ ";")))) (brT dp) ((txP (brP dp)).length + 1) [] := by
        rw [hbt, fits_skip (fits_br dp), List.drop_zero]
        exact lex_br dp
      have n1 : ("(" : Str).length = 1 := rfl
      have n2 : (")" : Str).length = 1 := rfl
      refine ⟨by show 2 ≤ sizeLine; decide, fun l12 nl12 => ?_⟩
      have hl12 : (upd (upd H10 l11 (.lst [.str "malformed", .int ((z.length : Int) - 1)])) l12 (.lst [.str "oversized", .str "depth"])) l12 = some (.lst [.str "oversized", .str "depth"]) := upd_same
      generalize upd (upd H10 l11 (.lst [.str "malformed", .int ((z.length : Int) - 1)])) l12 (.lst [.str "oversized", .str "depth"]) = H12 at *
      refine ⟨_, rfl, _, _, rfl, rfl, _, rfl, ite2 (fun hc24 => ?_) (fun hc24 => ?_)⟩
      · have hd24 : dp < 24 := by
          have hc' : decide ((dp : Int) < 24) = true := hc24
          rw [decide_eq_true_eq] at hc'
          omega
        refine ⟨by show 2 ≤ sizeLine; decide, fun t1 n1 => ⟨by show 4 ≤ sizeLine; decide, fun t2 n2 => ⟨by show 1 ≤ sizeLine; decide, fun t3 n3 => ⟨by show 2 ≤ sizeLine; decide, fun t4 n4 => ?_⟩⟩⟩⟩
        have c1 : (upd H12 t1 (.tup [.str "bool", .bl true])) t1 = some _ := upd_same
        generalize upd H12 t1 (.tup [.str "bool", .bl true]) = U1 at *
        have u2 : Same U1 (upd U1 t2 (.tup [.str "show", .ref t1, .non, .int 0])) := same_upd n2
        have c2 : (upd U1 t2 (.tup [.str "show", .ref t1, .non, .int 0])) t2 = some _ := upd_same
        generalize upd U1 t2 (.tup [.str "show", .ref t1, .non, .int 0]) = U2 at *
        have u3 : Same U2 (upd U2 t3 (.lst [.ref t2])) := same_upd n3
        have c3 : (upd U2 t3 (.lst [.ref t2])) t3 = some _ := upd_same
        generalize upd U2 t3 (.lst [.ref t2]) = U3 at *
        have u4 : Same U3 (upd U3 t4 (.lst [.str "read", .ref t3])) := same_upd n4
        have c4 : (upd U3 t4 (.lst [.str "read", .ref t3])) t4 = some _ := upd_same
        generalize upd U3 t4 (.lst [.str "read", .ref t3]) = U4 at *
        refine ⟨_, rfl, .inr ⟨_, dp, rfl, rfl, by omega, by show 1 * dp ≤ _; omega, .inr ⟨_, _, rfl, rfl, sz (by show 5 + _ ≤ _; omega), .inr ⟨_, _, rfl, rfl, sz (by show _ + 4 ≤ _; omega), _, rfl, .inr ⟨_, dp, rfl, rfl, by omega, by show 1 * dp ≤ _; omega, .inr ⟨_, _, rfl, rfl, sz (by omega), .inr ⟨_, _, rfl, rfl, sz (by show _ + 1 ≤ _; omega), ?_⟩⟩⟩⟩⟩⟩⟩
        refine ⟨_, brT dp, _, rfl, by omega, hlex5, fun H14 o14 s14 ho14 => ?_⟩
        rw [read_deep hd24] at ho14
        obtain ⟨l15, xs15, ho, hl15, hd15, _⟩ := ho14
        have u12 : Same U1 U4 := (u2.trans u3).trans u4
        have hsh : SeqAt.shaped (.list [.str "read", .list [.tuple [.str "show", .tuple [.str "bool", .bool true], .none, .int 0]]]) = true := by
          unfold SeqAt.shaped
          simp [PyData.canLay0, PyData.depth, PyData.canLayAll0, PyData.depthAll]
          exact ⟨strOk_of (by decide), strOk_of (by decide), strOk_of (by decide)⟩
        refine ⟨_, rfl, .list [.str "read", .list [.tuple [.str "show", .tuple [.str "bool", .bool true], .none, .int 0]]], .list [.str "read", .list [.tuple [.str "show", .tuple [.str "bool", .bool true], .none, .int 0]]], .lst (SqL.of ho) (.cons (.str _) (.cons (.lst (SqL.of hl15) hd15) .nil)),
          .lst (SqL.of (s14 _ _ c4)) (.cons (.str _) (.cons (.lst (SqL.of (s14 _ _ (u4 _ _ c3))) (.cons (.tup (SqT.of (s14 _ _ (u4 _ _ (u3 _ _ c2)))) (.cons (.str _) (.cons (.tup (SqT.of (s14 _ _ (u12 _ _ c1))) (.cons (.str _) (.cons (.bl _) .nil))) (.cons .non (.cons (.int _) .nil))))) .nil)) .nil)), hsh, hsh, ?_⟩
        rw [SeqAt.eqv_refl _ (SeqAt.canLay_of_shaped hsh)]
        exact q _
      · have hd24 : 24 ≤ dp := by
          have hc' : ¬ decide ((dp : Int) < 24) = true := hc24
          rw [decide_eq_true_eq] at hc'
          omega
        refine nxt_t ?_
        dsimp only
        refine ⟨_, rfl, .inr ⟨_, dp, rfl, rfl, by omega, by show 1 * dp ≤ _; omega, .inr ⟨_, _, rfl, rfl, sz (by show 5 + _ ≤ _; omega), .inr ⟨_, _, rfl, rfl, sz (by show _ + 4 ≤ _; omega), _, rfl, .inr ⟨_, dp, rfl, rfl, by omega, by show 1 * dp ≤ _; omega, .inr ⟨_, _, rfl, rfl, sz (by omega), .inr ⟨_, _, rfl, rfl, sz (by show _ + 1 ≤ _; omega), ?_⟩⟩⟩⟩⟩⟩⟩
        refine ⟨_, brT dp, _, rfl, by omega, hlex5, fun H14 o14 s14 ho14 => ?_⟩
        rw [read_over hd24] at ho14
        have hsh : SeqAt.shaped (.list [.str "oversized", .str "depth"]) = true := by
          unfold SeqAt.shaped
          simp [PyData.canLay0, PyData.depth, PyData.canLayAll0, PyData.depthAll]
          exact ⟨strOk_of (by decide), strOk_of (by decide)⟩
        refine ⟨_, rfl, .list [.str "oversized", .str "depth"], .list [.str "oversized", .str "depth"], .lst (SqL.of ho14) (.cons (.str _) (.cons (.str _) .nil)), .lst (SqL.of (s14 _ _ hl12)) (.cons (.str _) (.cons (.str _) .nil)), hsh, hsh, ?_⟩
        rw [SeqAt.eqv_refl _ (SeqAt.canLay_of_shaped hsh)]
        exact q _
    · have hv2 : (([("base" : Str), "unit", "fun", "show"] : List Str).map PyData.str).any (fun z => PyData.eqv z (valD t)) = valIn t ["base", "unit", "fun", "show"] := any_in t _
      refine ⟨_, rfl, _, rfl, _, rfl, _, _, rfl, .inl ⟨_, SqL.of hpl8, rfl⟩, _, _, rfl, rfl, (by show (0 : Int) < (pxs.length : Int); omega), .inl ⟨pl, _, _, _, rfl, rfl, SqL.of hpl8, at_eq hmod htv, .inr (.inl ⟨ta, _, _, _, rfl, rfl, htS8, at_eq (n := 1) rfl rfl, ?_⟩)⟩⟩
      refine ⟨_, rfl, valD t, [.str "base", .str "unit", .str "fun", .str "show"], dp_same s8 (noL_val t) hk1, .lst (SqL.of hsl) (.cons (.str _) (.cons (.str _) (.cons (.str _) (.cons (.str _) .nil)))), htsh, shl ["base", "unit", "fun", "show"], ?_⟩
      have hv3 : ([PyData.str "base", .str "unit", .str "fun", .str "show"].any fun z => PyData.eqv z (valD t)) = valIn t ["base", "unit", "fun", "show"] := hv2
      rw [hv3]
      cases hvt : valIn t ["base", "unit", "fun", "show"] with
      | true => exact ⟨_, rfl, iteF (nxt_t (fin _ _ rfl))⟩
      | false =>
        obtain ⟨ts', j', hl', hs', hpm'⟩ := ins_at hne hok htk hvt
        have hat : tat ≤ z.length := by
          obtain ⟨h1, h2⟩ := at_split htk
          have h3 : txP (allQ ls) = txP ((allQ ls).take (st % pxs.length)) ++ txP ((allQ ls).drop (st % pxs.length)) := by rw [← txP_append, List.take_append_drop]
          have h4 := congrArg List.length h3
          rw [List.length_append] at h4
          omega
        have c1 : (cutS z none (some (tat : Int))).length = tat := by
          rw [cut_to z hat, mk_len, List.length_take, ← len_tl]
          omega
        have c2 : (cutS z (some (tat : Int)) none).length = z.length - tat := by
          rw [cut_from z hat, mk_len, List.length_drop, ← len_tl]
        have c3 : (cutS z none (some (tat : Int)) ++ (" base " : Str)).length = tat + 6 := by
          rw [sapp_len, c1]
          rfl
        have c4 : (cutS z none (some (tat : Int)) ++ (" base " : Str) ++ cutS z (some (tat : Int)) none).length = z.length + 6 := by
          rw [sapp_len, c3, c2]
          omega
        have hT : tl (cutS z none (some (tat : Int)) ++ (" base " : Str) ++ cutS z (some (tat : Int)) none) = (txP (allQ ls) ++ [59]).take tat ++ (32 :: (tl "base" ++ (32 :: (txP (allQ ls) ++ [59]).drop tat))) := by
          rw [tl_append, tl_append, cut_to z hat, cut_from z hat, tl_of, tl_of, hz0]
          have e : tl (" base " : Str) = 32 :: (tl "base" ++ [32]) := rfl
          rw [e]
          simp
        refine ⟨_, rfl, iteT ?_⟩
        refine ⟨_, rfl, _, rfl, _, rfl, _, rfl, sz (by omega), .inr ⟨_, _, rfl, rfl, sz (by rw [c1]; show _ + 6 ≤ _; omega), ?_⟩⟩
        refine ⟨_, rfl, _, rfl, _, rfl, _, rfl, sz (by omega), .inr ⟨_, _, rfl, rfl, sz (by rw [c3, c2]; omega), ?_⟩⟩
        refine ⟨_, ts', j', rfl, by omega, ?_, fun H9 o9 s9 ho9 => ?_⟩
        · rw [hT, hs', List.drop_zero]
          exact hl'
        rw [hpm'] at ho9
        refine ⟨_, rfl, .inl ⟨_, _, rfl, rfl, by show 2 ≤ sizeLine; decide, fun l10 nl10 => ?_⟩⟩
        have s10 := same_upd (o := .lst [.str "malformed", .int ((tat : Int) + 1)]) nl10
        have shm : ∀ i : Int, SeqAt.shaped (.list [.str "malformed", .int i]) = true := fun i => by
          unfold SeqAt.shaped
          simp [PyData.canLay0, PyData.depth, PyData.canLayAll0, PyData.depthAll]
          exact strOk_of (by decide)
        refine ⟨.list [.str "malformed", .int ((tat : Int) + 1)], .list [.str "malformed", .int ((tat : Int) + 1)], .lst (SqL.of (s10 _ _ ho9)) (.cons (.str _) (.cons (.int _) .nil)), .lst (SqL.of upd_same) (.cons (.str _) (.cons (.int _) .nil)), shm _, shm _, ?_⟩
        rw [SeqAt.eqv_refl _ (SeqAt.canLay_of_shaped (shm _))]
        exact ⟨_, rfl, iteF (nxt_t (fin _ _ rfl))⟩
end
end Tk

namespace Tk
open PySem PySem.Spec PyProof.Rows L2 Ly
theorem law_end {P : Program} {w : World} {K : PySem.W.Frag} {mg : Str → Option Value} {base : Heap} {fa : Addr} (T : Top w K mg) (hfa : mg "law" = some (.ref fa)) : LawOk P w K mg base fa (sp_law K) := by
  have e := T.m_law.symm.trans hfa
  cases e
  exact ok_law T
end Tk
open PySem PySem.W PyProof.Rows
set_option maxRecDepth 100000 in
set_option maxHeartbeats 0 in
theorem PySem.Challenge.cw_alnage_k01_programs_read_back_holds : PySem.Challenge.rw_alnage_k01_programs_read_back.Holds := by
  w_on; o_law; k_head; (case hw => w_witness2)
  k_fill
  refine Ly.walkG (l := PySem.Challenge.rw_alnage_k01_programs_read_back) (n := 63) (sp := fun w => Tk.sp_law _) rfl (by decide) rfl (fun w h Y => PySem.W.kIn_of Y) ?F (fun _ _ a ns hl _ hS => ⟨a, ns, rfl, hS, hl, fun _ => rfl⟩)
  case F =>
    intro w mg fa h KX G hmg base _ _
    refine' Tk.law_end (Tk.top_mk (w := w) KX G ?atokens ?ltokens ?ctokens ?ktokens ?atoken_start ?ltoken_start ?ctoken_start ?ktoken_start ?acomment_end ?lcomment_end ?ccomment_end ?kcomment_end ?atoken_at ?ltoken_at ?ctoken_at ?ktoken_at ?aname_at ?lname_at ?cname_at ?kname_at ?anumber_at ?lnumber_at ?cnumber_at ?knumber_at ?adigits_behind ?ldigits_behind ?cdigits_behind ?kdigits_behind ?arun_end ?lrun_end ?crun_end ?krun_end ?aparse ?lparse ?cparse ?kparse ?aread_line ?lread_line ?cread_line ?kread_line ?aread_unit ?lread_unit ?cread_unit ?kread_unit ?aread_function ?lread_function ?cread_function ?kread_function ?aread_parameters ?lread_parameters ?cread_parameters ?kread_parameters ?aread_parameter ?lread_parameter ?cread_parameter ?kread_parameter ?aread_told ?lread_told ?cread_told ?kread_told ?aread_show ?lread_show ?cread_show ?kread_show ?aread_product ?lread_product ?cread_product ?kread_product ?aread_power ?lread_power ?cread_power ?kread_power ?adeeper ?ldeeper ?cdeeper ?kdeeper ?aread_expression ?lread_expression ?cread_expression ?kread_expression ?aread_if ?lread_if ?cread_if ?kread_if ?aread_let ?lread_let ?cread_let ?kread_let ?aread_chain ?lread_chain ?cread_chain ?kread_chain ?aread_both ?lread_both ?cread_both ?kread_both ?aread_plain ?lread_plain ?cread_plain ?kread_plain ?aread_terms ?lread_terms ?cread_terms ?kread_terms ?aread_factors ?lread_factors ?cread_factors ?kread_factors ?aread_powers ?lread_powers ?cread_powers ?kread_powers ?aread_primary ?lread_primary ?cread_primary ?kread_primary ?aread_number ?lread_number ?cread_number ?kread_number ?aread_iterate ?lread_iterate ?cread_iterate ?kread_iterate ?aread_arguments ?lread_arguments ?cread_arguments ?kread_arguments ?alaw_cell ?llaw_cell ?claw_cell ?klaw_cell ?alaw_numbers ?llaw_numbers ?claw_numbers ?klaw_numbers ?alaw_feed ?llaw_feed ?claw_feed ?klaw_feed ?alaw_take ?llaw_take ?claw_take ?klaw_take ?alaw_drawn ?llaw_drawn ?claw_drawn ?klaw_drawn ?alaw_brackets ?llaw_brackets ?claw_brackets ?klaw_brackets ?alaw_line ?llaw_line ?claw_line ?klaw_line ?alaw_number ?llaw_number ?claw_number ?klaw_number ?alaw_units ?llaw_units ?claw_units ?klaw_units ?alaw_text ?llaw_text ?claw_text ?klaw_text ?alaw_shown ?llaw_shown ?claw_shown ?klaw_shown ?alaw_bare ?llaw_bare ?claw_bare ?klaw_bare ?alaw_marks ?llaw_marks ?claw_marks ?klaw_marks ?alaw_read ?llaw_read ?claw_read ?klaw_read ?alaw ?llaw ?claw ?klaw ?zabs ?zbool ?zint ?zisinstance ?zlen ?zmax ?zrange ?zrepr ?zstr ?ztuple ?gRESERVED ?lRESERVED ?gLONGEST_TEXT ?gLONGEST_NAME ?gMOST_DIGITS ?gSEPARATORS ?gLETTERS ?gDIGITS ?gNAMING ?gSIGNS ?lSIGNS ?gBOTTOMS ?lBOTTOMS ?gDEEPEST ?gGREATEST_POWER ?gGREATEST_COUNT ?gCOMPARISONS ?lCOMPARISONS ?gOPERATIONS ?lOPERATIONS ?kOPERATIONS ?iOPERATIONS_0 ?iOPERATIONS_1 ?iOPERATIONS_2 ?iOPERATIONS_3 ?iOPERATIONS_4 ?iOPERATIONS_5 ?iOPERATIONS_6 ?iOPERATIONS_7 ?iOPERATIONS_8 ?gMalformed ?xMalformed ?saMalformed ?gaMalformed ?ggMalformed ?noMalformed ?inMalformed ?tiMalformed ?kcMalformed ?exMalformed ?tyMalformed ?hdMalformed ?icMalformed ?suMalformed ?liMalformed ?ciMalformed ?kiMalformed ?gOversized ?xOversized ?saOversized ?gaOversized ?ggOversized ?noOversized ?inOversized ?tiOversized ?kcOversized ?exOversized ?tyOversized ?hdOversized ?icOversized ?suOversized ?liOversized ?ciOversized ?kiOversized ?gReader ?pgReader ?hdReader ?poReader ?saReader ?mkReader ?kcReader ?aReader___init__ ?iReader___init__ ?lReader___init__ ?cReader___init__ ?kReader___init__ ?aReader_ended ?iReader_ended ?lReader_ended ?cReader_ended ?kReader_ended ?aReader_where ?iReader_where ?lReader_where ?cReader_where ?kReader_where ?aReader_sees ?iReader_sees ?lReader_sees ?cReader_sees ?kReader_sees ?aReader_sees_kind ?iReader_sees_kind ?lReader_sees_kind ?cReader_sees_kind ?kReader_sees_kind ?aReader_take ?iReader_take ?lReader_take ?cReader_take ?kReader_take ?aReader_accept ?iReader_accept ?lReader_accept ?cReader_accept ?kReader_accept ?aReader_expect ?iReader_expect ?lReader_expect ?cReader_expect ?kReader_expect ?aReader_expect_kind ?iReader_expect_kind ?lReader_expect_kind ?cReader_expect_kind ?kReader_expect_kind ?aReader_expect_whole ?iReader_expect_whole ?lReader_expect_whole ?cReader_expect_whole ?kReader_expect_whole ?nfReader_found ?nfReader_length ?nfReader_taken ?ap_Oversized_Malformed) hmg
    (case atokens => k_is)
    (case ltokens => k_is)
    (case ctokens => k_is)
    (case ktokens => k_is)
    (case atoken_start => k_is)
    (case ltoken_start => k_is)
    (case ctoken_start => k_is)
    (case ktoken_start => k_is)
    (case acomment_end => k_is)
    (case lcomment_end => k_is)
    (case ccomment_end => k_is)
    (case kcomment_end => k_is)
    (case atoken_at => k_is)
    (case ltoken_at => k_is)
    (case ctoken_at => k_is)
    (case ktoken_at => k_is)
    (case aname_at => k_is)
    (case lname_at => k_is)
    (case cname_at => k_is)
    (case kname_at => k_is)
    (case anumber_at => k_is)
    (case lnumber_at => k_is)
    (case cnumber_at => k_is)
    (case knumber_at => k_is)
    (case adigits_behind => k_is)
    (case ldigits_behind => k_is)
    (case cdigits_behind => k_is)
    (case kdigits_behind => k_is)
    (case arun_end => k_is)
    (case lrun_end => k_is)
    (case crun_end => k_is)
    (case krun_end => k_is)
    (case aparse => k_is)
    (case lparse => k_is)
    (case cparse => k_is)
    (case kparse => k_is)
    (case aread_line => k_is)
    (case lread_line => k_is)
    (case cread_line => k_is)
    (case kread_line => k_is)
    (case aread_unit => k_is)
    (case lread_unit => k_is)
    (case cread_unit => k_is)
    (case kread_unit => k_is)
    (case aread_function => k_is)
    (case lread_function => k_is)
    (case cread_function => k_is)
    (case kread_function => k_is)
    (case aread_parameters => k_is)
    (case lread_parameters => k_is)
    (case cread_parameters => k_is)
    (case kread_parameters => k_is)
    (case aread_parameter => k_is)
    (case lread_parameter => k_is)
    (case cread_parameter => k_is)
    (case kread_parameter => k_is)
    (case aread_told => k_is)
    (case lread_told => k_is)
    (case cread_told => k_is)
    (case kread_told => k_is)
    (case aread_show => k_is)
    (case lread_show => k_is)
    (case cread_show => k_is)
    (case kread_show => k_is)
    (case aread_product => k_is)
    (case lread_product => k_is)
    (case cread_product => k_is)
    (case kread_product => k_is)
    (case aread_power => k_is)
    (case lread_power => k_is)
    (case cread_power => k_is)
    (case kread_power => k_is)
    (case adeeper => k_is)
    (case ldeeper => k_is)
    (case cdeeper => k_is)
    (case kdeeper => k_is)
    (case aread_expression => k_is)
    (case lread_expression => k_is)
    (case cread_expression => k_is)
    (case kread_expression => k_is)
    (case aread_if => k_is)
    (case lread_if => k_is)
    (case cread_if => k_is)
    (case kread_if => k_is)
    (case aread_let => k_is)
    (case lread_let => k_is)
    (case cread_let => k_is)
    (case kread_let => k_is)
    (case aread_chain => k_is)
    (case lread_chain => k_is)
    (case cread_chain => k_is)
    (case kread_chain => k_is)
    (case aread_both => k_is)
    (case lread_both => k_is)
    (case cread_both => k_is)
    (case kread_both => k_is)
    (case aread_plain => k_is)
    (case lread_plain => k_is)
    (case cread_plain => k_is)
    (case kread_plain => k_is)
    (case aread_terms => k_is)
    (case lread_terms => k_is)
    (case cread_terms => k_is)
    (case kread_terms => k_is)
    (case aread_factors => k_is)
    (case lread_factors => k_is)
    (case cread_factors => k_is)
    (case kread_factors => k_is)
    (case aread_powers => k_is)
    (case lread_powers => k_is)
    (case cread_powers => k_is)
    (case kread_powers => k_is)
    (case aread_primary => k_is)
    (case lread_primary => k_is)
    (case cread_primary => k_is)
    (case kread_primary => k_is)
    (case aread_number => k_is)
    (case lread_number => k_is)
    (case cread_number => k_is)
    (case kread_number => k_is)
    (case aread_iterate => k_is)
    (case lread_iterate => k_is)
    (case cread_iterate => k_is)
    (case kread_iterate => k_is)
    (case aread_arguments => k_is)
    (case lread_arguments => k_is)
    (case cread_arguments => k_is)
    (case kread_arguments => k_is)
    (case alaw_cell => k_is)
    (case llaw_cell => k_is)
    (case claw_cell => k_is)
    (case klaw_cell => k_is)
    (case alaw_numbers => k_is)
    (case llaw_numbers => k_is)
    (case claw_numbers => k_is)
    (case klaw_numbers => k_is)
    (case alaw_feed => k_is)
    (case llaw_feed => k_is)
    (case claw_feed => k_is)
    (case klaw_feed => k_is)
    (case alaw_take => k_is)
    (case llaw_take => k_is)
    (case claw_take => k_is)
    (case klaw_take => k_is)
    (case alaw_drawn => k_is)
    (case llaw_drawn => k_is)
    (case claw_drawn => k_is)
    (case klaw_drawn => k_is)
    (case alaw_brackets => k_is)
    (case llaw_brackets => k_is)
    (case claw_brackets => k_is)
    (case klaw_brackets => k_is)
    (case alaw_line => k_is)
    (case llaw_line => k_is)
    (case claw_line => k_is)
    (case klaw_line => k_is)
    (case alaw_number => k_is)
    (case llaw_number => k_is)
    (case claw_number => k_is)
    (case klaw_number => k_is)
    (case alaw_units => k_is)
    (case llaw_units => k_is)
    (case claw_units => k_is)
    (case klaw_units => k_is)
    (case alaw_text => k_is)
    (case llaw_text => k_is)
    (case claw_text => k_is)
    (case klaw_text => k_is)
    (case alaw_shown => k_is)
    (case llaw_shown => k_is)
    (case claw_shown => k_is)
    (case klaw_shown => k_is)
    (case alaw_bare => k_is)
    (case llaw_bare => k_is)
    (case claw_bare => k_is)
    (case klaw_bare => k_is)
    (case alaw_marks => k_is)
    (case llaw_marks => k_is)
    (case claw_marks => k_is)
    (case klaw_marks => k_is)
    (case alaw_read => k_is)
    (case llaw_read => k_is)
    (case claw_read => k_is)
    (case klaw_read => k_is)
    (case alaw => k_is)
    (case llaw => k_is)
    (case claw => k_is)
    (case klaw => k_is)
    (case zabs => k_is)
    (case zbool => k_is)
    (case zint => k_is)
    (case zisinstance => k_is)
    (case zlen => k_is)
    (case zmax => k_is)
    (case zrange => k_is)
    (case zrepr => k_is)
    (case zstr => k_is)
    (case ztuple => k_is)
    (case gRESERVED => k_is)
    (case lRESERVED => k_is)
    (case gLONGEST_TEXT => k_is)
    (case gLONGEST_NAME => k_is)
    (case gMOST_DIGITS => k_is)
    (case gSEPARATORS => k_is)
    (case gLETTERS => k_is)
    (case gDIGITS => k_is)
    (case gNAMING => k_is)
    (case gSIGNS => k_is)
    (case lSIGNS => k_is)
    (case gBOTTOMS => k_is)
    (case lBOTTOMS => k_is)
    (case gDEEPEST => k_is)
    (case gGREATEST_POWER => k_is)
    (case gGREATEST_COUNT => k_is)
    (case gCOMPARISONS => k_is)
    (case lCOMPARISONS => k_is)
    (case gOPERATIONS => k_is)
    (case lOPERATIONS => k_is)
    (case kOPERATIONS => first | exact ⟨⟨_, _, rfl, rfl⟩, ⟨_, _, rfl, rfl⟩, ⟨_, _, rfl, rfl⟩, ⟨_, _, rfl, rfl⟩, ⟨_, _, rfl, rfl⟩, ⟨_, _, rfl, rfl⟩, ⟨_, _, rfl, rfl⟩, ⟨_, _, rfl, rfl⟩, ⟨_, _, rfl, rfl⟩, trivial⟩ | k_is)
    (case iOPERATIONS_0 => k_is)
    (case iOPERATIONS_1 => k_is)
    (case iOPERATIONS_2 => k_is)
    (case iOPERATIONS_3 => k_is)
    (case iOPERATIONS_4 => k_is)
    (case iOPERATIONS_5 => k_is)
    (case iOPERATIONS_6 => k_is)
    (case iOPERATIONS_7 => k_is)
    (case iOPERATIONS_8 => k_is)
    (case gMalformed => k_is)
    (case xMalformed => k_is)
    (case saMalformed => k_is)
    (case gaMalformed => k_is)
    (case ggMalformed => k_is)
    (case noMalformed => k_is)
    (case inMalformed => k_is)
    (case tiMalformed => k_is)
    (case kcMalformed => k_is)
    (case exMalformed => k_is)
    (case tyMalformed => k_is)
    (case hdMalformed => k_is)
    (case icMalformed => k_is)
    (case suMalformed => first | rfl | k_is)
    (case liMalformed => k_is)
    (case ciMalformed => k_is)
    (case kiMalformed => k_is)
    (case gOversized => k_is)
    (case xOversized => k_is)
    (case saOversized => k_is)
    (case gaOversized => k_is)
    (case ggOversized => k_is)
    (case noOversized => k_is)
    (case inOversized => k_is)
    (case tiOversized => k_is)
    (case kcOversized => k_is)
    (case exOversized => k_is)
    (case tyOversized => k_is)
    (case hdOversized => k_is)
    (case icOversized => k_is)
    (case suOversized => first | rfl | k_is)
    (case liOversized => k_is)
    (case ciOversized => k_is)
    (case kiOversized => k_is)
    (case gReader => k_is)
    (case pgReader => k_is)
    (case hdReader => k_is)
    (case poReader => k_is)
    (case saReader => k_is)
    (case mkReader => k_is)
    (case kcReader => k_is)
    (case aReader___init__ => k_is)
    (case iReader___init__ => k_is)
    (case lReader___init__ => k_is)
    (case cReader___init__ => k_is)
    (case kReader___init__ => k_is)
    (case aReader_ended => k_is)
    (case iReader_ended => k_is)
    (case lReader_ended => k_is)
    (case cReader_ended => k_is)
    (case kReader_ended => k_is)
    (case aReader_where => k_is)
    (case iReader_where => k_is)
    (case lReader_where => k_is)
    (case cReader_where => k_is)
    (case kReader_where => k_is)
    (case aReader_sees => k_is)
    (case iReader_sees => k_is)
    (case lReader_sees => k_is)
    (case cReader_sees => k_is)
    (case kReader_sees => k_is)
    (case aReader_sees_kind => k_is)
    (case iReader_sees_kind => k_is)
    (case lReader_sees_kind => k_is)
    (case cReader_sees_kind => k_is)
    (case kReader_sees_kind => k_is)
    (case aReader_take => k_is)
    (case iReader_take => k_is)
    (case lReader_take => k_is)
    (case cReader_take => k_is)
    (case kReader_take => k_is)
    (case aReader_accept => k_is)
    (case iReader_accept => k_is)
    (case lReader_accept => k_is)
    (case cReader_accept => k_is)
    (case kReader_accept => k_is)
    (case aReader_expect => k_is)
    (case iReader_expect => k_is)
    (case lReader_expect => k_is)
    (case cReader_expect => k_is)
    (case kReader_expect => k_is)
    (case aReader_expect_kind => k_is)
    (case iReader_expect_kind => k_is)
    (case lReader_expect_kind => k_is)
    (case cReader_expect_kind => k_is)
    (case kReader_expect_kind => k_is)
    (case aReader_expect_whole => k_is)
    (case iReader_expect_whole => k_is)
    (case lReader_expect_whole => k_is)
    (case cReader_expect_whole => k_is)
    (case kReader_expect_whole => k_is)
    (case nfReader_found => k_is)
    (case nfReader_length => k_is)
    (case nfReader_taken => k_is)
    (case ap_Oversized_Malformed => first | rfl | k_is)
