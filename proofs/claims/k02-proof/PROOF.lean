import PyProof.Rows.All
import Wide.All
import OpenK.AllK
import Wide.FinOn
import PyProof.EqAt
import PyProof.EqKinds
import PyProof.TupleCall
import PyProof.ReprRoads
import HandS.Base
import HandS.Call
import HandS.List
import HandS.Text
import HandS.StrMore
import HandS.Ends
import HandS.Words
import HandS.WordsList
import HandS.Exc
import HandS.ExcOwn
import HandS.ExcCtx
import HandS.ExcInit
import HandS.HotCalls
import HandS.IsInst
import HandS.ExcField
import HandS.TryOnly
import HandS.CallSlots
import HandS.Deep
import HandS.More
import HandS.Comp
import HandS.Dict
import PyProof.ReprBulk
import PySem.Challenge.RW_alnage_k02_chains_and_levels
set_option Elab.async false
set_option linter.all false
set_option maxRecDepth 100000
set_option maxHeartbeats 4000000
namespace Ly
open PySem PySem.Spec PyProof.Rows L2
/-! ### operations on values -/
section
variable {X : Cx}
theorem rep_size (a : Array Nat) : ∀ (n : Nat) (b : Array Nat), ((List.replicate n a).foldl (· ++ ·) b).size = b.size + n * a.size
  | 0, b => by simp
  | n + 1, b => by
    rw [List.replicate_succ, List.foldl_cons, rep_size a n, Array.size_append, Nat.add_one_mul]
    omega
/-- s * n of a text, n written and at least 1 -/
def rMulS : R2 := fun x y H Q => ∃ (a : Str) (n : Nat), x = .str a ∧ y = .int (n : Int) ∧ 2 ≤ n ∧ a.length ≠ 0 ∧
  a.length * n ≤ 100000 ∧ Q (.str ⟨(List.replicate n a.cps).foldl (· ++ ·) #[]⟩) H
theorem op_mulS : OpR X (binaryOp .Mult) rMulS := by
  intro pins s σ H x y v u Q I rx ry h
  obtain ⟨a, n, rfl, rfl, h2, h0, hl, q⟩ := h
  obtain ⟨t, rfl⟩ := rx
  obtain ⟨t', rfl⟩ := ry
  have hn : n ≤ 100000 := by
    have : 1 * n ≤ a.length * n := Nat.mul_le_mul_right n (by omega)
    omega
  have ha : a.length ≤ 100000 := by
    have : a.length * 1 ≤ a.length * n := Nat.mul_le_mul_left _ (by omega)
    omega
  have e1 : ((n : Int) == 1 || a.length == 0) = false := by
    rw [Bool.or_eq_false_iff]
    constructor
    · simp
      omega
    · simpa using h0
  have e2 : (decide ((n : Int) < -(2 ^ 63 : Int)) || decide ((n : Int) ≥ 2 ^ 63)) = false := by
    rw [decide_eq_false (by omega), decide_eq_false (by omega)]
    rfl
  refine PySem.P.mul_str e2 (fun _ _ => ?_) (fun _ _ => ?_) ?_
  · have hq : ((2 : Int) ^ 63 - 1) / (n : Int) ≥ 100000 := by
      refine Int.le_ediv_of_mul_le (by omega) ?_
      have : (100000 : Int) * (n : Int) ≤ 100000 * 100000 := by omega
      omega
    omega
  · have : a.length * (n : Int).toNat ≤ 100000 := by
      simpa using hl
    show decide (a.length * (n : Int).toNat > sizeLine) = false
    rw [sizeLine_eq, decide_eq_false_iff_not]
    omega
  · rw [if_neg (by omega), e1]
    refine ⟨?_, .str _, H, I.tok _, ⟨_, rfl⟩, ?_⟩
    · rw [sizeLine_eq]
      have : (Str.length ⟨(List.replicate (n : Int).toNat a.cps).foldl (· ++ ·) #[]⟩) = 0 + n * a.cps.size := rep_size _ _ _
      have e3 : n * a.cps.size = a.length * n := Nat.mul_comm _ _
      omega
    · exact q

/-- repr(x) of data, where no repr runs yet -/
def rRepr (K : PySem.W.Frag) : List V → Hp → VK → Prop := fun xs H Q => ∃ (a : Addr) (d : PyData), xs = [.ref a] ∧ Dp K H (.ref a) d ∧
  d.showable = true ∧ d.hasDict = false ∧ d.depth ≤ 120 ∧ d.shown.length ≤ sizeLine ∧ Q (.str d.shown) H
theorem call_repr (hg : X.A.guards = some []) (hu : X.A.units + 128 < cLine) : CallR X (.builtin "repr") (rRepr X.K) := by
  intro pins s σ H xs us Q I rx h
  obtain ⟨a, d, rfl, hd, hs, hn, hz, hl, q⟩ := h
  obtain ⟨u, rfl, ru⟩ := vals1 rx
  cases (show u = Value.ref a from ru)
  obtain ⟨as, r⟩ := Dp.reads I d _ _ hd rfl
  refine repr_of_reads' r hs (fun e => ?_) hg (by omega) (fun _ _ e => e) (fun h' t k hk => ?_) hl
  · rw [hn] at e
    cases e
  · exact ⟨.str d.shown, H, I.kept hk, ⟨t, rfl⟩, q⟩
end
end Ly

namespace Ly
open PySem PySem.Spec PyProof.Rows L2
/-! ### an own exception class with one field -/
/-- what is promised of `def __init__(self, f): self.f = f` -/
def spXI (K : PySem.W.Frag) (C : Addr) (f : Str) : Sp := fun vs H Q _ => ∃ (a : Addr) (v : V), vs = [.ref a, v] ∧ OexC K C ∧
  PySem.W.findIn K (.ref C) f = some none ∧ H a = some (exo a C none) ∧
  ∀ d, H d = none → d ≠ a → Q .non (upd (upd H d (exd d [(f, v)])) a (exo a C (some d)))
/-- the reading of X(e), X such a class -/
def tMkX (C : Addr) (f : Str) (ta : TA) : L2.St → Hp → XK → Prop := fun σ H Q => ta σ H fun vs H1 => ∃ v, vs = [v] ∧
  ∀ d, H1 d = none → Q (.ref C) (some d) (upd H1 d (.xd [(f, v)]))
theorem del_back {H : Hp} {a d : Addr} {o u : HO} {fs : List (Str × V)} (hda : d ≠ a) (ha : H a = none) :
    upd (del (upd (upd H d o) a u) a) d (.xd fs) = upd H d (.xd fs) := by
  funext b
  by_cases h1 : b = d
  · subst h1
    rw [upd_same, upd_same]
  · rw [upd_ne h1, upd_ne h1]
    by_cases h2 : b = a
    · subst h2
      rw [del_same, ha]
    · rw [del_ne h2, upd_ne h2, upd_ne h1]
/-- what the written part tells of such a class -/
structure XCls (K : PySem.W.Frag) (mg : Str → Option Value) (x : Str) (C fI : Addr) (f : Str) : Prop where
  oe : OexC K C
  gC : mg x = some (.ref C)
  iC : PySem.W.findIn K (.ref C) "__init__" = some (some (.ref fI))
  tI : PySem.W.typeIn K (.ref fI) = some (.type "function")
  no : PySem.W.findIn K (.ref C) f = some none
  xf : PySem.W.findIn K (.ref C) "__getattribute__" = some (some (.builtin "BaseException.__getattribute__")) ∧
    PySem.W.findIn K (.ref C) "__getattr__" = some none ∧ PySem.W.hasDictIn K C = true
  me : PySem.W.exmOne K (.ref C) (.ref C) = some true
section
variable {X : Cx} {x : Str} {C fI : Addr} {f : Str} {k : Nat} {fd : FuncData} {ps : List Str} {e : Expr} {ta : TA} {p pos : Pos}
theorem pmk_x (T : XCls X.K X.mg x C fI f) (F : FnOk X.prog X.w X.K X.mg X.base CX0 k fI fd ps (spXI X.K C f)) (hr : Room (k + 1) X.A)
    (hb : Binds X.K fd ps []) (ha : PA X [e] ta) (hg : Gl X x := by rfl) (hdb : (x == ("__debug__" : Str)) = false := by decide)
    (he : starEach (e :: []) X.env = (false, eval e X.env) :: starEach [] X.env := by rfl)
    (hpl : (backTo pos (starEach [] X.env)).any (·.1) = false := by rfl) :
    L2N.PMk X (.Call (.Name x p) [e] [] pos) (tMkX C f ta) := by
  intro pins s σ H Q I h
  obtain ⟨nm, q, N, bs, bm, sn, sub, ab, col, dd, k0, k1, k2, k3, k5, hC, hbm⟩ := T.oe.cls
  refine wpAny_Call_Name_kw (ld_glob I hg T.gC ?_ hdb)
  refine PySem.W.callWith_K (h₀ := X.base) I.ok.mod.kin T.oe.kC (thn (ha.run pos pins s σ H _ I h) fun us s1 hh => ?_) he hpl
  obtain ⟨vs, H1, I1, r1, v, rfl, q1⟩ := hh
  refine ⟨I1.kIn, ?_⟩
  obtain ⟨u, rfl, ru⟩ := vals1 r1
  show wpAny _ _ (call (.ref C) [u]) _ _ _
  obtain ⟨hp, g, dr, tk, os⟩ := s1
  -- the new exception's place
  generalize hA : hp.objs.size + 1 = A'
  have hsz : hp.objs.size ≤ A' := by omega
  have fresh : H1 A' = none := I1.hok.fresh hsz
  have keep : ∀ b o, hp.get? b = some o → ((hp.push (PySem.W.kdv_tup [u])).push (PySem.HandSPX.excO C hp.objs.size)).get? b = some o :=
    fun b o e => Heap.get?_push_of_some _ (Heap.get?_push_of_some _ e)
  have hget : ((hp.push (PySem.W.kdv_tup [u])).push (PySem.HandSPX.excO C hp.objs.size)).get? A' = some (PySem.HandSPX.excO C hp.objs.size) := by
    subst hA
    heap_get
  have I2 : Inv X pins σ (upd H1 A' (exo A' C none)) ⟨(hp.push (PySem.W.kdv_tup [u])).push (PySem.HandSPX.excO C hp.objs.size), g, dr, tk, os⟩ :=
    I1.laid (t' := tk) keep hsz (exo_ok hget)
  have hsp : spXI X.K C f [.ref A', v] (upd H1 A' (exo A' C none)) (fun z H2 => z = .non ∧ ∃ d : Addr, H1 d = none ∧ d ≠ A' ∧
      H2 = upd (upd (upd H1 A' (exo A' C none)) d (exd d [(f, v)])) A' (exo A' C (some d))) (fun _ _ _ => False) := by
    refine ⟨A', v, rfl, T.oe, T.no, upd_same, fun d hd hne => ⟨rfl, d, ?_, hne, rfl⟩⟩
    rwa [upd_ne hne] at hd
  have r2 : Vals [V.ref A', v] [Value.ref A', u] := .cons rfl (.cons ru .nil)
  have hl : ([Value.ref A', u] ++ []).length = ps.length := by
    rw [← F.len _ _ _ _ hsp]
    rfl
  have b2 := hb ⟨(hp.push (PySem.W.kdv_tup [u])).push (PySem.HandSPX.excO C hp.objs.size), g, dr, tk, os⟩ [Value.ref A', u] I2.kIn hl
  rw [List.append_nil] at b2
  have hus : [u].length ≤ sizeLine := by
    rw [sizeLine_eq]
    exact (by decide : 1 ≤ 16777216)
  subst hA
  refine wpAny_call (PySem.HandSPX.call_own PySem.F.excBase_ValueError (fun Y => PySem.HandSPX.refsVE_contains Y bm hbm) (I1.kIn _ _ hC)
    (PySem.W.looks_findIn I1.kIn T.iC) (fun self => PySem.W.bind_fn I1.kIn self T.tI) hus
    (codeAny_mono (F.run _ X.stack _ _ ⟨[Value.ref _, u], []⟩ _ _ _ _ (hr.make C [u] []) (I2.env0.make C [u] []) b2 r2 hsp) fun r s' hq' => ?_))
  cases r with
  | error er => exact False.elim hq'
  | ok fl =>
    cases fl with
    | next => exact False.elim hq'
    | brk => exact False.elim hq'
    | cont => exact False.elim hq'
    | ret z =>
      obtain ⟨w', H2, os2, bare2, un2, hok2, rv, ev, d, hd1, hne, rfl⟩ := hq'
      subst ev
      obtain ⟨h2, g2, d2, t2, os'⟩ := s'
      have ea : (upd (upd (upd H1 (hp.objs.size + 1) (exo (hp.objs.size + 1) C none)) d (exd d [(f, v)])) (hp.objs.size + 1) (exo (hp.objs.size + 1) C (some d))) (hp.objs.size + 1) = some (exo (hp.objs.size + 1) C (some d)) := upd_same
      have ed : (upd (upd (upd H1 (hp.objs.size + 1) (exo (hp.objs.size + 1) C none)) d (exd d [(f, v)])) (hp.objs.size + 1) (exo (hp.objs.size + 1) C (some d))) d = some (exd d [(f, v)]) := by
        rw [upd_ne hne, upd_same]
      obtain ⟨t0, G, J, kG, ge, hoe, na⟩ := mk_end0 (d2 := d2) (t2 := t2) I1 hsz keep un2 hok2 os2 bare2 ea ed hd1
      have eH : upd (del (upd (upd (upd H1 (hp.objs.size + 1) (exo (hp.objs.size + 1) C none)) d (exd d [(f, v)])) (hp.objs.size + 1) (exo (hp.objs.size + 1) C (some d))) (hp.objs.size + 1)) d (.xd [(f, v)]) = upd H1 d (.xd [(f, v)]) := by
        funext b
        by_cases h1 : b = d
        · subst h1
          rw [upd_same, upd_same]
        · rw [upd_ne h1, upd_ne h1]
          by_cases h2 : b = hp.objs.size + 1
          · subst h2
            rw [del_same, fresh]
          · rw [del_ne h2, upd_ne h2, upd_ne h1, upd_ne h2]
      rw [eH] at J na
      refine ⟨rv, hp.objs.size + 1, _, _, ⟨G, g2, d2, t2, os'⟩, _, .ref C, some d, rfl, J, kG, ge, hoe, ⟨rfl, rfl, fun vs hv => ?_⟩, rfl, rfl, na, rfl, bare2, raises_own T.oe.exC T.oe.tyC, q1 d hd1⟩
      cases hv
      rfl
/-- raise X(e) -/
def tRaiseX (C : Addr) (f : Str) (W : WX) (ta : TA) : TS := fun _ σ H => tMkX C f ta σ H fun cls d H' => W cls d σ H'
theorem ps_raiseX {W : WX} {pos2 : Pos} (hc : X.calm = true) (tk : L2N.Takes X W) (T : XCls X.K X.mg x C fI f)
    (F : FnOk X.prog X.w X.K X.mg X.base CX0 k fI fd ps (spXI X.K C f)) (hr : Room (k + 1) X.A)
    (hb : Binds X.K fd ps []) (ha : PA X [e] ta) (hg : Gl X x := by rfl) (hdb : (x == ("__debug__" : Str)) = false := by decide)
    (he : starEach (e :: []) X.env = (false, eval e X.env) :: starEach [] X.env := by rfl)
    (hpl : (backTo pos (starEach [] X.env)).any (·.1) = false := by rfl) :
    PS X (.Raise (some (.Call (.Name x p) [e] [] pos)) none pos2) (tRaiseX C f W ta) :=
  L2N.ps_raise hc tk (pmk_x T F hr hb ha hg hdb he hpl)
end
end Ly

namespace Ly
open PySem PySem.Spec PyProof.Rows L2
section
variable {P : Program} {w : World} {K : PySem.W.Frag} {mg : Str → Option Value} {base : Heap} {x qual : Str} {st : Stmt} {f : Addr} {fd : FuncData} {N ps : List Str} {k : Nat} {sp : Sp}
/-! ### defs that may raise (the context of what they raise is None); the same where an exception is handled -/
theorem okN (F : Fun K x qual st f fd) (S : FnScope N ps (defScope st)) (len : ∀ vs H Q E, sp vs H Q E → vs.length = ps.length)
    (body : ∀ (cdv : Value) (A : Around) (outer : List Env) (s : Shared) (H : Hp) (vs : List V) (Q : VK) (E : XK),
      Room k (A.deeper (envOfC qual (defScope st) s.heap.objs.size f cdv)) → sp vs H Q E →
      ∃ t, PSs (cxOf (L2N.CX P w) P w K mg base N qual (defScope st) f cdv A outer s H E) (defBody st) t ∧
        t { nx := fun _ H' => Q .non H', rt := Q } (start N vs) H) :
    FnOk P w K mg base (L2N.CX P w) (k + 1) f fd ps sp := by
  obtain ⟨oc, od, kV, doc, pm, an, cdv, ct, osl, rfl, lk, hcd⟩ := F.ex
  exact fn_of lk hcd S len fun A outer s H vs Q E => body cdv A outer s H vs Q E
theorem okH (F : Fun K x qual st f fd) (S : FnScope N ps (defScope st)) (len : ∀ vs H Q E, sp vs H Q E → vs.length = ps.length)
    (body : ∀ (cdv : Value) (A : Around) (outer : List Env) (s : Shared) (H : Hp) (vs : List V) (Q : VK) (E : XK) (p : Addr × Obj), L2H.Hot1 A p →
      L2H.RoomH k (A.deeper (envOfC qual (defScope st) s.heap.objs.size f cdv)) → sp vs H Q E →
      ∃ t, PSs (L2H.cxH CX0 P w K mg base N qual (defScope st) f cdv A outer s H E p) (defBody st) t ∧
        t { nx := fun _ H' => Q .non H', rt := Q } (start N vs) H) :
    L2H.FnH P w K mg base CX0 (k + 1) f fd ps sp := by
  obtain ⟨oc, od, kV, doc, pm, an, cdv, ct, osl, rfl, lk, hcd⟩ := F.ex
  exact L2H.fn_ofH lk hcd S len fun A outer s H vs Q E p => body cdv A outer s H vs Q E p
/-- the law's own def: it runs once, from the ground (where no repr runs) -/
structure LawOk (P : Program) (w : World) (K : PySem.W.Frag) (mg : Str → Option Value) (base : Heap) (f : Addr) (sp : Sp) : Prop where
  run : ∀ (s : Shared) (H : Hp) (a : Addr) (Q : VK) (E : XK), Env0 P w K mg base callerA [] s H → sp [.ref a] H Q E →
    codeAny (model P w) callerA (.call (.ref f) ⟨[.ref a], []⟩) (CR (L2N.CX P w) [] P w H s Q E) s
theorem law_of (F : Fun K x qual st f fd) {y : Str} (S : FnScope N [y] (defScope st)) (hb : Binds K fd [y] []) (hr : Room (k + 1) callerA)
    (len : ∀ vs H Q E, sp vs H Q E → vs.length = [y].length)
    (body : ∀ (cdv : Value) (s : Shared) (H : Hp) (vs : List V) (Q : VK) (E : XK),
      Room k (callerA.deeper (envOfC qual (defScope st) s.heap.objs.size f cdv)) → sp vs H Q E →
      ∃ t, PSs (cxOf (L2N.CX P w) P w K mg base N qual (defScope st) f cdv callerA [] s H E) (defBody st) t ∧
        t { nx := fun _ H' => Q .non H', rt := Q } (start N vs) H) : LawOk P w K mg base f sp := by
  obtain ⟨oc, od, kV, doc, pm, an, cdv, ct, osl, rfl, lk, hcd⟩ := F.ex
  refine ⟨fun s H a Q E e0 h => ?_⟩
  have KX : K.In s.heap := e0.mod.kin.keeps fun b o e => (e0.bs b o e).1
  have lim : s.heap.NoLimit := e0.mod.nolimit.keeps fun b o e => (e0.bs b o e).1
  have bnd := hb s [.ref a] KX rfl
  have kinds : ∀ z ∈ [y].zip ([Value.ref a] ++ []), (defScope st).names.lookup z.1 = some .local ∨
      ((defScope st).names.lookup z.1 = some .cell ∧ ((cellsFrom (s.heap.objs.size + 1) (defScope st).names []).lookup z.1).isSome = true) := by
    intro z hz
    have : z = (y, Value.ref a) := by simpa using hz
    subst this
    rcases S.par y (by simp) with q | q
    · exact .inl q
    · exact .inr ⟨q, PySem.W.cellsFrom_some _ _ _ (.inl q)⟩
  refine codeAny_call_function hr.depth (KX _ _ lk) rfl S.co S.gen rfl (PySem.W.codeRec_of KX hcd) (bnd _ _ _ _ ?_)
  refine wpAny_newFunctionEnv_cells S.kind kinds fun env he s1 z => ?_
  subst he
  refine ⟨lim.keeps z.toInCall.keep, codeAny_func ?_⟩
  obtain ⟨t, ht, hq⟩ := body cdv s H [.ref a] Q E (hr.deeper _) h
  have I := inv_start (CX := L2N.CX P w) (cd := cdv) (qual := qual) (f := f) (E := E) S hr.hd e0 (vs := [.ref a]) (us := [.ref a]) rfl (.cons rfl .nil) z
  refine wpAny_mono (ht.run [] s1 _ H _ I hq) (fun fl s' hs => ?_) fun e s' hs => hs
  cases fl with
  | next =>
    obtain ⟨σ', H', J, q⟩ := hs
    exact ⟨.non, H', J.os, J.bare, J.base, J.hok, rfl, q⟩
  | ret u =>
    obtain ⟨v, σ', H', J, rv, q⟩ := hs
    exact ⟨v, H', J.os, J.bare, J.base, J.hok, rv, q⟩
  | brk =>
    obtain ⟨_, _, _, q⟩ := hs
    exact q.elim
  | cont =>
    obtain ⟨_, _, _, q⟩ := hs
    exact q.elim
end
end Ly

namespace Ly
open PySem PySem.Spec PyProof.Rows L2
/-! ### the head of a law that is run from the ground -/
section
variable {P : Program} {w : World} {K : PySem.W.Frag} {mg mb : Str → Option Value} {fa a : Addr} {sp : Sp} {t : Shared} {us : List Value} {ns : List Int}
/-- over an abstract heap that tracks nothing but the script -/
theorem ground_run {H : Hp} (KX : K.In t.heap) (gm : t.heap.Ns mainGlobals mg) (gb : t.heap.Ns builtinsNs mb) (hbb : ∀ x : Str, x ≠ "__name__" → mb x = bootBuiltins x)
    (lim : t.heap.NoLimit) (gens : t.gens = #[]) (ha : t.heap.get? a = some { cls := .type "list", data := .seq us.toArray })
    (F : ∀ base : Heap, K.In base → base.Ns mainGlobals mg → LawOk P w K mg base fa sp)
    (only : Only H) (q : sp [.ref a] H (fun v _ => v = .bl true) fun _ _ _ => False) (ok : HOk P w H t.heap) (mine : ∀ b, H b ≠ none → b = a) (apart : H a ≠ none → K.lookup a = none) :
    codeAny (model P w) callerA (.call (.ref fa) ⟨[.ref a], []⟩) (fun r s' => r = .ok (.ret (.bool true)) ∧ OldK t.heap s'.heap ∧ s'.os = t.os ∧ AllBare s'.gens) t := by
  have stays : ∀ {b : Addr} {o : Obj}, t.heap.get? b = some o → b ≠ a → (hidT t.heap H).get? b = some o := fun {b o} e hne => by
    refine hidT_get e ?_
    cases hb : H b with
    | none => rfl
    | some u => exact absurd (mine b (by simp [hb])) hne
  have spaces : ∀ {b : Addr} {m : Str → Option Value}, t.heap.Ns b m → (hidT t.heap H).Ns b m := fun {b m} hs => by
    obtain ⟨o, es, ep, e, d, rest⟩ := hs
    refine ⟨o, es, ep, stays e (fun z => ?_), d, rest⟩
    subst z
    rw [ha] at e
    cases e
    cases d
  have written : K.In (hidT t.heap H) := fun b o e => by
    by_cases hb : H b = none
    · exact hidT_get (KX b o e) hb
    · have := mine b hb
      subst this
      rw [apart hb] at e
      cases e
  have md : Mod K mg (hidT t.heap H) := by
    obtain ⟨mc, l1, l2⟩ := lim
    exact ⟨written, spaces gm, ⟨mb, spaces gb, hbb⟩, ⟨mc, spaces l1, l2⟩⟩
  have e0 : Env0 P w K mg (hidT t.heap H) callerA [] t H :=
    { frames := rfl, mod := md, bs := fun b o e => of_hidT e, bsz := Nat.le_of_eq (hidT_size _ _), funs := trivial, frf := fun b hb => (nomatch hb), hok := ok, bare := .of_eq gens }
  refine codeAny_mono ((F _ written (spaces gm)).run t H a _ _ e0 q) fun r s' hr => ?_
  match r, hr with
  | .error e, hr =>
    obtain ⟨_, _, _, _, _, _, _, _, _, _, _, _, z⟩ := hr
    exact z.elim
  | .ok .next, hr => exact False.elim hr
  | .ok .brk, hr => exact False.elim hr
  | .ok .cont, hr => exact False.elim hr
  | .ok (.ret u), hr =>
    obtain ⟨v, H', os, bare, un, ok', ru, qv⟩ := hr
    cases (show v = .bl true from qv)
    cases (show u = Value.bool true from ru)
    refine ⟨rfl, OldK.of_keep fun b o e => ?_, os, bare⟩
    rcases only b with hb | ⟨ob, xs, hb⟩
    · exact un.keep b o e hb (fun z => nomatch z) (fun z => nomatch z)
    · have e1 := (ok b _ hb).1
      have e2 := (ok' b _ (un.frzs b ob _ hb)).1
      rw [e] at e1
      cases e1
      exact e2
theorem ground_call (KX : K.In t.heap) (gm : t.heap.Ns mainGlobals mg) (gb : t.heap.Ns builtinsNs mb) (hbb : ∀ x : Str, x ≠ "__name__" → mb x = bootBuiltins x)
    (lim : t.heap.NoLimit) (gens : t.gens = #[]) (ha : t.heap.get? a = some { cls := .type "list", data := .seq us.toArray }) (hi : IntsAre us ns) (hl : ns.length ≤ sizeLine)
    (F : ∀ base : Heap, K.In base → base.Ns mainGlobals mg → LawOk P w K mg base fa sp)
    (q : ∀ H : Hp, Only H → SqL K H a (ns.map V.int) → sp [.ref a] H (fun v _ => v = .bl true) fun _ _ _ => False) :
    codeAny (model P w) callerA (.call (.ref fa) ⟨[.ref a], []⟩) (fun r s' => r = .ok (.ret (.bool true)) ∧ OldK t.heap s'.heap ∧ s'.os = t.os ∧ AllBare s'.gens) t := by
  have rv := vals_ints hi
  cases hk : K.lookup a with
  | some o =>
    have e := KX a o hk
    rw [ha] at e
    cases e
    have only : Only fun _ => none := fun _ => .inl rfl
    refine ground_run (H := fun _ => none) KX gm gb hbb lim gens ha F only (q _ only (.inr ?_)) (fun b u z => nomatch z) (fun b z => absurd rfl z) (fun z => absurd rfl z)
    exact ⟨_, us.toArray, _, hk, rfl, rfl, rfl, by rw [List.size_toArray, hi.length]; exact hl, by simpa using rv⟩
  | none =>
    generalize hH : (fun b => if b = a then some (HO.frz { cls := .type "list", data := .seq us.toArray } (.lst (ns.map V.int))) else none : Hp) = H
    have at_a : H a = some (.frz { cls := .type "list", data := .seq us.toArray } (.lst (ns.map V.int))) := by
      subst hH
      exact if_pos rfl
    have off : ∀ b, b ≠ a → H b = none := fun b hb => by
      subst hH
      exact if_neg hb
    have only : Only H := fun b => by
      by_cases hb : b = a
      · exact .inr ⟨_, _, hb ▸ at_a⟩
      · exact .inl (off b hb)
    refine ground_run KX gm gb hbb lim gens ha F only (q H only (.inl (.inr ⟨_, at_a⟩))) (fun b u z => ?_) (fun b z => ?_) (fun _ => hk)
    · by_cases hb : b = a
      · subst hb
        rw [at_a] at z
        cases z
        exact ⟨ha, by rw [List.length_map]; exact hl, us, _, rv, ha⟩
      · rw [off b hb] at z
        cases z
    · exact Decidable.byContradiction fun hb => z (off b hb)
end
theorem walkG {l : PySem.W.OpenLaw} {n : Nat} {q : Program} {loose : List Str} {XP : (Str → Option Value) → Heap → Prop} {YP : World → Heap → Prop} {d : DefRec} {K : Params → PySem.W.Frag} {sp : World → Sp}
    (hn : l.most = some n) (hn2 : n ≤ sizeLine) (hdf : d.params.defaults = []) (hY : ∀ (w : World) (h : Heap), YP w h → (K w.params).In h)
    (F : ∀ (w : World) (mg : Str → Option Value) (fa : Addr) (h : Heap), (K w.params).In h → h.Ns mainGlobals mg → mg d.name = some (.ref fa) →
      ∀ base : Heap, (K w.params).In base → base.Ns mainGlobals mg → LawOk l.prog w (K w.params) mg base fa (sp w))
    (hsp : ∀ (w : World) (H : Hp) (a : Addr) (ns : List Int), ns.length ≤ n → Only H → SqL (K w.params) H a (ns.map V.int) → sp w [.ref a] H (fun v _ => v = .bl true) fun _ _ _ => False) :
    PySem.W.WalkO q loose XP YP l.row.toRowW d [] (fun f vs => PySem.call f vs) := by
  refine Att.attach_call hn hdf fun w s₀ s₁ mg mb fa o pm cd doc a vs ns G Y ho hd hcd hmg hobj hints hlen hg => ?_
  have KX := hY w _ Y
  exact ground_call KX G.T.g G.T.b G.T.builtins G.T.nolimit hg hobj hints (Nat.le_trans hlen hn2) (F w mg fa _ KX G.T.g hmg) fun H hO hS => hsp w H a ns hlen hO hS
end Ly

namespace Ly
open PySem PySem.Spec PyProof.Rows L2
section
variable {X : Cx}
theorem op_plus : OpR X (binaryOp .Add) (fun x y H Q => (rI0 fun i j => .int (i + j)) x y H Q ∨ (∃ i j, x = .str i ∧ y = .str j ∧ i.length + j.length ≤ sizeLine ∧ Q (.str (i ++ j)) H)) := op_add.or op_add_str
theorem op_times : OpR X (binaryOp .Mult) (fun x y H Q => (rI CMul fun i j => .int (i * j)) x y H Q ∨ rMulS x y H Q) := op_mul.or op_mulS
/-- in: one sign in a text, or an item in a list or tuple -/
def rWithin (K : PySem.W.Frag) : R2 := fun x y H Q => (∃ (c : Nat) (z : Str), x = .str ⟨#[c]⟩ ∧ y = .str z ∧ Q (.bl (decide (c ∈ z.cps.toList))) H) ∨ rIn K false x y H Q
theorem op_within : OpR X (compareOp .In) (rWithin X.K) := op_in_sign.or op_in_seq
theorem cr_or {f : Value} {r r' : List V → Hp → VK → Prop} (h : CallR X f r) (h' : CallR X f r') : CallR X f (fun xs H Q => r xs H Q ∨ r' xs H Q) :=
  fun pins s σ H xs us Q I rx q => q.elim (fun q => h pins s σ H xs us Q I rx q) fun q => h' pins s σ H xs us Q I rx q
def rInt : List V → Hp → VK → Prop := fun xs H Q => ((∃ i, xs = [.int i] ∧ Q (.int i) H) ∨ ∃ k, xs = [.bl k] ∧ Q (.int (if k then 1 else 0)) H) ∨
  ∃ (a : Str) (n : Int), xs = [.str a] ∧ PySem.intText? a = some n ∧ a.length ≤ 640 ∧ Q (.int n) H
theorem call_intX : CallR X (.type "int") rInt := cr_or call_int1 call_int_str
end
theorem hu_of64 {A : Around} {k : Nat} (hr : Room k A) : A.units + 64 < cLine := hr.units
theorem hu_of128 {A : Around} {k : Nat} (hr : Room k A) : A.units + 128 < cLine := by
  have := hr.un
  omega
theorem XCls.xfc {K : PySem.W.Frag} {mg : Str → Option Value} {x : Str} {C fI : Addr} {f : Str} (T : XCls K mg x C fI f) : XfC K C := ⟨T.xf.1, T.xf.2.1, T.oe.exC, T.xf.2.2⟩
theorem exm_self {K : PySem.W.Frag} {S : Addr} (h1 : PySem.W.subIn K (.ref S) (.type "BaseException") = some true) (h2 : PySem.W.isClsIn K S = true)
    (h3 : PySem.W.typeIn K (.ref S) = some (.type "type")) (h4 : PySem.W.subIn K (.ref S) (.ref S) = some true) : PySem.W.exmOne K (.ref S) (.ref S) = some true := by
  have h2' : (PySem.W.clsIn K S).isSome = true := h2
  have e1 : (PySem.W.subIn K (.ref S) (.type "BaseException") == some true) = true := by rw [h1]; rfl
  have e3 : (PySem.W.typeIn K (.ref S) == some (.type "type")) = true := by rw [h3]; exact beq_self_eq_true _
  simp only [PySem.W.exmOne, PySem.W.kitCls, e1, if_true, h2', e3, Bool.and_self, h4]
theorem xcls_mk {K : PySem.W.Frag} {mg : Str → Option Value} {x : Str} {C fI : Addr} {f : Str} {nm q : Str} {N : Addr} {bs bm : List Value} {sn : List Str} {sub : List Value} {ab : Bool} {col : Option Bool} {dd : Option Addr} {k0 k1 k2 k3 k5 : Option Value}
    (gC : mg x = some (.ref C)) (xL : K.lookup C = some (excClassObj nm q C N bs bm true sn sub ab col dd k0 k1 k2 k3 k5 "ValueError.__new__")) (rf : PySem.HandSPX.refsVE bm = true)
    (sa : PySem.W.findIn K (.ref C) "__setattr__" = some (some (.builtin "object.__setattr__"))) (ga : PySem.W.findIn K (.ref C) "__getattribute__" = some (some (.builtin "BaseException.__getattribute__")))
    (gg : PySem.W.findIn K (.ref C) "__getattr__" = some none) (no : PySem.W.findIn K (.ref C) f = some none) (iC : PySem.W.findIn K (.ref C) "__init__" = some (some (.ref fI))) (tI : PySem.W.typeIn K (.ref fI) = some (.type "function"))
    (kC : PySem.W.keepIn K (.ref C) = true) (eC : PySem.W.subIn K (.ref C) (.type "BaseException") = some true) (tC : PySem.W.typeIn K (.ref C) = some (.type "type")) (hC : PySem.W.hasDictIn K C = true) (cC : PySem.W.isClsIn K C = true)
    (sC : PySem.W.subIn K (.ref C) (.ref C) = some true) : XCls K mg x C fI f where
  oe := ⟨⟨nm, q, N, bs, bm, sn, sub, ab, col, dd, k0, k1, k2, k3, k5, xL, rf⟩, sa, eC, tC, kC⟩
  gC := gC
  iC := iC
  tI := tI
  no := no
  xf := ⟨ga, gg, hC⟩
  me := exm_self eC cC tC sC
/-- the suite of an except clause is a place where an exception is handled -/
theorem hotc {X : Cx} {a : Addr} {oe : Obj} {cls : Value} {d : Option Addr} {pn : List (Addr × Obj)} (hz : L2N.Zn cls d oe) (hf : ∃ vs, oe.data = .fields vs) : L2H.HotC (X.suite a ((a, oe) :: pn)) := by
  obtain ⟨vs, hd⟩ := hf
  exact ⟨(a, oe), ⟨rfl, vs, hd, hz.2.2 vs hd⟩, List.mem_cons_self⟩
theorem passH {X : Cx} {σ : L2.St} {E : XK} : PassesAt CX0 X σ E := fun _ _ _ _ _ _ c => c.elim
theorem ok_xinit {P : Program} {w : World} {K : PySem.W.Frag} {mg : Str → Option Value} {base : Heap} {qual : Str} {st : Stmt} {f C : Addr} {fd : FuncData} {fl : Str} (F : Fun K "__init__" qual st f fd)
    (S : FnScope (["self", fl] : List Str) (["self", fl] : List Str) (defScope st)) (d : ∀ X : Cx, X.K = K → X.N = (["self", fl] : List Str) → X.env.scope = defScope st → PSs X (defBody st) (tOst K fl (tVar 0) (tVar 1))) :
    FnOk P w K mg base CX0 1 f fd (["self", fl] : List Str) (spXI K C fl) := by
  refine F.ok S (fun vs H Q E h => ?_) (fun cdv A outer s H vs Q E hr h => ?_)
  · obtain ⟨a, v, rfl, _⟩ := h
    rfl
  · obtain ⟨a, v, rfl, T, no, ea, q⟩ := h
    exact ⟨_, d _ rfl rfl rfl, v, rfl, .ref a, rfl, a, C, rfl, T, no, .inl ⟨ea, fun dx n ne => q dx n ne⟩⟩
/-! ### the built-ins by name -/
theorem bt_len : bootBuiltins "len" = some (.builtin "len") := by decide +kernel
theorem bt_min : bootBuiltins "min" = some (.builtin "min") := by decide +kernel
theorem bt_max : bootBuiltins "max" = some (.builtin "max") := by decide +kernel
theorem bt_abs : bootBuiltins "abs" = some (.builtin "abs") := by decide +kernel
theorem bt_repr : bootBuiltins "repr" = some (.builtin "repr") := by decide +kernel
theorem bt_isinstance : bootBuiltins "isinstance" = some (.builtin "isinstance") := by decide +kernel
theorem bt_int : bootBuiltins "int" = some (.type "int") := by decide +kernel
theorem bt_str : bootBuiltins "str" = some (.type "str") := by decide +kernel
theorem bt_list : bootBuiltins "list" = some (.type "list") := by decide +kernel
theorem bt_tuple : bootBuiltins "tuple" = some (.type "tuple") := by decide +kernel
theorem bt_bool : bootBuiltins "bool" = some (.type "bool") := by decide +kernel
theorem bt_range : bootBuiltins "range" = some (.type "range") := by decide +kernel
theorem rmark {k : Nat} {A : Around} (r : Room k A) (h : Option Value) : L2H.RoomH k (A.mark h) := ⟨r.dp, r.un⟩
theorem hu_mark {A : Around} {k : Nat} {h : Option Value} (hr : Room k A) : (A.mark h).units + 64 < cLine := hr.units
/-! ### the same with the written part by name (for suites, whose context holds more than the reading may name) -/
section
variable {X : Cx} {K : PySem.W.Frag}
theorem call_lenK (h : X.K = K) : CallR X (.builtin "len") (fun xs H Q => ∃ x n, xs = [x] ∧ LenV K x H n ∧ Q (.int (n : Nat)) H) := by
  subst h
  exact call_len
theorem ix_seqK (h : X.K = K) : IxR X (rIx K) := by
  subst h
  exact ix_seq
theorem op_withinK (h : X.K = K) : OpR X (compareOp .In) (rWithin K) := by
  subst h
  exact op_within
end
end Ly

/-! ### what the lexer computes, over lists of codes -/
namespace Lx
open PySem TL
def letters : List Nat := tl ("abcdefghijklmnopqrstuvwxyzABCDEFGHIJKLMNOPQRSTUVWXYZ" : Str)
def digits : List Nat := tl ("0123456789" : Str)
def naming : List Nat := tl ("abcdefghijklmnopqrstuvwxyzABCDEFGHIJKLMNOPQRSTUVWXYZ0123456789_" : Str)
def blanks : List Nat := tl (" \t\n" : Str)
def inS (S : List Nat) (c : Nat) : Bool := decide (c ∈ S)
def run (S : List Nat) (l : List Nat) : Nat := (l.takeWhile (inS S)).length
theorem run_nil (S : List Nat) : run S [] = 0 := rfl
theorem run_in {S r : List Nat} {c : Nat} (h : inS S c = true) : run S (c :: r) = run S r + 1 := by
  unfold run
  rw [List.takeWhile_cons_of_pos h]
  rfl
theorem run_out {S r : List Nat} {c : Nat} (h : inS S c = false) : run S (c :: r) = 0 := by
  unfold run
  rw [List.takeWhile_cons_of_neg (by simp [h])]
  rfl
theorem run_le (S l : List Nat) : run S l ≤ l.length := (List.takeWhile_sublist _).length_le
theorem take_run (S l : List Nat) : l.take (run S l) = l.takeWhile (inS S) := by
  induction l with
  | nil => rfl
  | cons c r ih =>
    cases h : inS S c with
    | true => rw [run_in h, List.take_succ_cons, ih, List.takeWhile_cons_of_pos h]
    | false => rw [run_out h, List.takeWhile_cons_of_neg (by simp [h])]; rfl
/-- how many signs are passed over; true: within a comment -/
def skip : Bool → List Nat → Nat
  | _, [] => 0
  | false, c :: r => if c = 35 then skip true r + 1 else if inS blanks c = true then skip false r + 1 else 0
  | true, c :: r => if c = 10 then skip false r + 1 else skip true r + 1
theorem skip_le : ∀ (b : Bool) (l : List Nat), skip b l ≤ l.length
  | _, [] => by simp [skip]
  | false, c :: r => by
    have h1 := skip_le true r
    have h2 := skip_le false r
    unfold skip
    split
    · simp; omega
    · split
      · simp; omega
      · simp
  | true, c :: r => by
    have h1 := skip_le true r
    have h2 := skip_le false r
    unfold skip
    split <;> simp <;> omega
/-- to the end of a comment -/
def toEnd (l : List Nat) : Nat := (l.takeWhile fun c => decide (c ≠ 10)).length
theorem toEnd_le (l : List Nat) : toEnd l ≤ l.length := (List.takeWhile_sublist _).length_le
theorem toEnd_cons {c : Nat} {r : List Nat} (h : c ≠ 10) : toEnd (c :: r) = toEnd r + 1 := by
  unfold toEnd
  rw [List.takeWhile_cons_of_pos (by simp [h])]
  rfl
theorem toEnd_10 (r : List Nat) : toEnd (10 :: r) = 0 := by
  unfold toEnd
  rw [List.takeWhile_cons_of_neg (by simp)]
  rfl
theorem skip_true : ∀ l : List Nat, skip true l = toEnd l + skip false (l.drop (toEnd l))
  | [] => rfl
  | c :: r => by
    by_cases h : c = 10
    · subst h
      rw [toEnd_10]
      simp only [skip, if_true, List.drop_zero, Nat.zero_add]
      have : inS blanks 10 = true := by decide
      rw [this]
      simp
    · rw [toEnd_cons h, List.drop_succ_cons]
      have ih := skip_true r
      simp only [skip, if_neg h]
      omega
theorem skip_hash (r : List Nat) : skip false (35 :: r) = toEnd (35 :: r) + skip false ((35 :: r).drop (toEnd (35 :: r))) := by
  have h := skip_true r
  rw [toEnd_cons (by decide), List.drop_succ_cons]
  simp only [skip, if_true]
  omega
theorem skip_blank {c : Nat} {r : List Nat} (h : inS blanks c = true) : skip false (c :: r) = skip false r + 1 := by
  have h35 : c ≠ 35 := by
    intro e
    subst e
    exact absurd h (by decide)
  simp only [skip, if_neg h35, if_pos h]
theorem skip_stop {c : Nat} {r : List Nat} (h : inS blanks c = false) (h35 : c ≠ 35) : skip false (c :: r) = 0 := by
  simp [skip, h35, h]
/-- a token, without its place -/
inductive Tkn where
  | word (w : Str)
  | name (w : Str)
  | num (t b : Nat)
  | sign (w : Str)
def resV : List L2.V := [.str "and", .str "base", .str "else", .str "false", .str "from", .str "fun", .str "if", .str "in", .str "iterate", .str "let", .str "not", .str "or", .str "show", .str "then", .str "true", .str "unit"]
def sgns : List Str := ["<=", "==", "=", "<", "+", "-", "*", "/", "^", ",", ";", ":", "(", ")", "[", "]"]
def isRes (w : Str) : Bool := L2.inV (.str w) resV
def mk (l : List Nat) : Str := ⟨l.toArray⟩
theorem tl_of (l : List Nat) : tl (mk l) = l := rfl
theorem mk_len (l : List Nat) : (mk l).length = l.length := by
  rw [len_tl, tl_of]
def nmAt (l : List Nat) : Option (Tkn × Nat) :=
  if isRes (mk (l.take (run naming l))) = true then some (.word (mk (l.take (run naming l))), run naming l)
  else if 16 < run naming l then none else some (.name (mk (l.take (run naming l))), run naming l)
def fracAt (l : List Nat) : List Nat := match l with
  | [] => []
  | c :: r => if c = 46 then r.takeWhile (inS digits) else []
theorem fracAt_cons (c : Nat) (r : List Nat) : fracAt (c :: r) = if c = 46 then r.takeWhile (inS digits) else [] := rfl
theorem fracAt_le (l : List Nat) : (fracAt l).length ≤ l.length := by
  cases l with
  | nil => exact Nat.le_refl _
  | cons c r =>
    rw [fracAt_cons]
    split
    · have := (List.takeWhile_sublist (inS digits) (l := r)).length_le
      simp
      omega
    · simp
theorem fracAt_lt {l : List Nat} (h : fracAt l ≠ []) : (fracAt l).length + 1 ≤ l.length := by
  cases l with
  | nil => exact absurd rfl h
  | cons c r =>
    rw [fracAt_cons] at h ⊢
    split at h
    · rename_i hc
      rw [if_pos hc]
      have := (List.takeWhile_sublist (inS digits) (l := r)).length_le
      simp
      omega
    · exact absurd rfl h
theorem fracAt_digs (l : List Nat) : ∀ c ∈ fracAt l, inS digits c = true := by
  cases l with
  | nil => intro c hc; cases hc
  | cons a r =>
    intro c hc
    rw [fracAt_cons] at hc
    split at hc
    · exact List.all_eq_true.mp (List.all_takeWhile (l := r)) c hc
    · cases hc
theorem all_digs {S : List Nat} (h : ∀ c ∈ S, inS digits c = true) : NumText.AllDigits S := fun c hc => by
  have h1 : c ∈ digits := of_decide_eq_true (h c hc)
  have h2 : ∀ c ∈ digits, 48 ≤ c ∧ c ≤ 57 := by decide
  exact h2 c h1
def numEnd (l : List Nat) : Nat := if fracAt (l.drop (run digits l)) = [] then run digits l else run digits l + 1 + (fracAt (l.drop (run digits l))).length
def headIn (S l : List Nat) : Bool := match l with
  | [] => false
  | c :: _ => inS S c
def nrAt (l : List Nat) : Option (Tkn × Nat) :=
  if 6 < run digits l ∨ 5 ≤ (fracAt (l.drop (run digits l))).length then none
  else if headIn naming (l.drop (numEnd l)) = true then none
  else some (.num (NumText.digitsVal (l.take (run digits l) ++ fracAt (l.drop (run digits l)))) (10 ^ (fracAt (l.drop (run digits l))).length), numEnd l)
def sgAt (l : List Nat) : Option (Tkn × Nat) := (sgns.find? fun s => (tl s).isPrefixOf l).map fun s => (.sign s, s.length)
def tokAt (l : List Nat) : Option (Tkn × Nat) := match l with
  | [] => none
  | c :: _ => if inS letters c = true then nmAt l else if inS digits c = true then nrAt l else sgAt l
theorem tokAt_cons (c : Nat) (r : List Nat) : tokAt (c :: r) = if inS letters c = true then nmAt (c :: r) else if inS digits c = true then nrAt (c :: r) else sgAt (c :: r) := rfl
/-- from a token's start to a token's start, by these tokens -/
inductive LexTo : Nat → List Nat → List (Tkn × Nat) → Nat → List Nat → Prop
  | refl {i : Nat} {l : List Nat} : LexTo i l [] i l
  | step {i j n : Nat} {l l' : List Nat} {t : Tkn} {ts : List (Tkn × Nat)} : tokAt l = some (t, n) →
      LexTo (i + n + skip false (l.drop n)) ((l.drop n).drop (skip false (l.drop n))) ts j l' → LexTo i l ((t, i) :: ts) j l'
theorem LexTo.trans {i j k : Nat} {l l' l'' : List Nat} {ts us : List (Tkn × Nat)} (h : LexTo i l ts j l') (h' : LexTo j l' us k l'') : LexTo i l (ts ++ us) k l'' := by
  induction h with
  | refl => exact h'
  | step e _ ih => exact .step e (ih h')
/-! ### progress -/
theorem letter_naming {c : Nat} (h : inS letters c = true) : inS naming c = true := by
  have h1 : c ∈ letters := of_decide_eq_true h
  have h2 : ∀ c ∈ letters, inS naming c = true := by decide
  exact h2 c h1
theorem numEnd_ge (l : List Nat) : run digits l ≤ numEnd l := by
  unfold numEnd
  split <;> omega
theorem tokAt_pos {l : List Nat} {t : Tkn} {n : Nat} (h : tokAt l = some (t, n)) : 1 ≤ n ∧ n ≤ l.length := by
  cases l with
  | nil => cases h
  | cons c r =>
    simp only [tokAt] at h
    split at h
    · rename_i hc
      have h1 : run naming (c :: r) = run naming r + 1 := run_in (letter_naming hc)
      have h2 := run_le naming (c :: r)
      unfold nmAt at h
      split at h
      · cases h
        omega
      · split at h
        · cases h
        · cases h
          omega
    · split at h
      · rename_i hc
        have h1 : run digits (c :: r) = run digits r + 1 := run_in hc
        have h2 := run_le digits (c :: r)
        have h3 := numEnd_ge (c :: r)
        unfold nrAt at h
        split at h
        · cases h
        · split at h
          · cases h
          · cases h
            refine ⟨by omega, ?_⟩
            unfold numEnd
            split
            · exact h2
            · rename_i hne
              have h4 : (fracAt ((c :: r).drop (run digits (c :: r)))).length + 1 ≤ ((c :: r).drop (run digits (c :: r))).length := by
                generalize (c :: r).drop (run digits (c :: r)) = m at hne
                cases m with
                | nil => exact absurd rfl hne
                | cons d q =>
                  by_cases hd : d = 46
                  · have := (List.takeWhile_sublist (inS digits) (l := q)).length_le
                    simp only [fracAt, if_pos hd, List.length_cons]
                    omega
                  · exact absurd (by simp only [fracAt, if_neg hd]) hne
              rw [List.length_drop] at h4
              omega
      · unfold sgAt at h
        cases e : sgns.find? fun s => (tl s).isPrefixOf (c :: r) with
        | none => rw [e] at h; cases h
        | some s =>
          rw [e] at h
          cases h
          have hm := List.mem_of_find?_eq_some e
          have hp := List.find?_some e
          have hl : ∀ s ∈ sgns, 1 ≤ s.length := by decide
          refine ⟨hl s hm, ?_⟩
          have := (List.isPrefixOf_iff_prefix.mp hp).length_le
          rw [← len_tl] at this
          exact this
/-! ### the text's own functions -/
theorem find_nl (z : Str) {i : Nat} (h : i ≤ z.length) : Txt.find3 z "\n" (i : Int) = if i + toEnd ((tl z).drop i) < z.length then ((i + toEnd ((tl z).drop i) : Nat) : Int) else -1 := by
  have hf : PySem.Txt.find3 z "\n" (i : Int) = (match Builtin.Str.occurrences z "\n" i z.length 1 with | k :: _ => (k : Int) | [] => -1) := by
    unfold PySem.Txt.find3
    have : fromIndex z.length (i : Int) = i := by
      unfold fromIndex
      rw [if_neg (by omega)]
      omega
    rw [this]
    split <;> rename_i h1 <;> split <;> rename_i h2 <;> rw [h1] at h2 <;> simp_all
  have at_ : ∀ k, StrLaws.At z "\n" z.length k ↔ (tl z)[k]? = some 10 := fun k => StrLaws.subAt_one z 10 k
  have hz : z.length = (tl z).length := len_tl z
  have inside : ∀ k, k < toEnd ((tl z).drop i) → (tl z)[i + k]? ≠ some 10 := fun k hk e => by
    have h1 : ((tl z).drop i)[k]? = some 10 := by rw [List.getElem?_drop]; exact e
    have h2 : (((tl z).drop i).takeWhile fun c => decide (c ≠ 10))[k]? = some 10 := by
      have := List.takeWhile_prefix (fun c => decide (c ≠ 10)) (l := (tl z).drop i)
      obtain ⟨t, ht⟩ := this
      rw [← ht, List.getElem?_append_left hk] at h1
      exact h1
    have h3 := List.all_takeWhile (p := fun c => decide (c ≠ 10)) (l := (tl z).drop i)
    have h4 := List.all_eq_true.mp h3 10 (List.mem_of_getElem? h2)
    simp at h4
  have stop : i + toEnd ((tl z).drop i) < z.length → (tl z)[i + toEnd ((tl z).drop i)]? = some 10 := fun hlt => by
    have key : ∀ l : List Nat, toEnd l < l.length → l[toEnd l]? = some 10 := by
      intro l
      induction l with
      | nil => intro h; simp [toEnd] at h
      | cons c r ih =>
        intro h
        by_cases hc : c = 10
        · subst hc
          rw [toEnd_10]
          rfl
        · rw [toEnd_cons hc] at h ⊢
          rw [List.getElem?_cons_succ]
          exact ih (by simpa using h)
    have := key ((tl z).drop i) (by rw [List.length_drop]; omega)
    rw [List.getElem?_drop] at this
    exact this
  rw [hf]
  rcases StrLaws.occ_head_from z "\n" i 1 (Nat.le_refl 1) with ⟨e, hn⟩ | ⟨k, r, e, h1, h2, h3⟩
  · rw [e, if_neg fun hlt => ?_]
    exact hn _ (Nat.le_add_right _ _) ((at_ _).mpr (stop hlt))
  · rw [e]
    have hk := (at_ k).mp h2
    have hkl : k < z.length := by
      rw [hz]
      exact (List.getElem?_eq_some_iff.mp hk).1
    have g1 : i + toEnd ((tl z).drop i) ≤ k := Nat.le_of_not_lt fun hlt => inside (k - i) (by omega) (by rw [Nat.add_sub_cancel' h1]; exact hk)
    have g2 : k ≤ i + toEnd ((tl z).drop i) := Nat.le_of_not_lt fun hlt => h3 _ (Nat.le_add_right _ _) hlt ((at_ _).mpr (stop (by omega)))
    have : k = i + toEnd ((tl z).drop i) := by omega
    rw [if_pos (by omega), this]
theorem starts_eq (z s : Str) {i : Nat} (h : i ≤ z.length) : Txt.startswith3 z s (i : Int) = (tl s).isPrefixOf ((tl z).drop i) := by
  have hz : z.length = (tl z).length := len_tl z
  have hs : s.length = (tl s).length := len_tl s
  have e : fromIndex z.length (i : Int) = i := by
    unfold fromIndex
    rw [if_neg (by omega)]
    omega
  unfold Txt.startswith3
  rw [e, StrLaws.subAt_eq, hs]
  rw [Bool.eq_iff_iff, Bool.and_eq_true, decide_eq_true_eq, List.isPrefixOf_iff_prefix, beq_iff_eq]
  constructor
  · rintro ⟨_, e⟩
    refine ⟨((tl z).drop i).drop (tl s).length, ?_⟩
    have h5 := List.take_append_drop (tl s).length ((tl z).drop i)
    have e' : List.take (tl s).length ((tl z).drop i) = tl s := e
    rw [e'] at h5
    exact h5
  · rintro ⟨t, e⟩
    refine ⟨?_, ?_⟩
    · have := congrArg List.length e
      rw [List.length_append, List.length_drop] at this
      omega
    · rw [← e]
      exact List.take_left
theorem cut_eq (z : Str) {i j : Nat} (h : i ≤ j) (hj : j ≤ z.length) : L2.cutS z (some (i : Int)) (some (j : Int)) = mk (((tl z).drop i).take (j - i)) := by
  unfold L2.cutS
  rw [HT.sIx_nat, HT.sIx_nat, Nat.min_eq_left hj, Nat.min_eq_left (Nat.le_trans h hj)]
  rfl
end Lx
namespace Lx
open PySem PySem.Spec PyProof.Rows L2 Ly
/-! ### data that stays as the heap goes on -/
mutual
/-- no list in it -/
def noL : PyData → Bool
  | .list _ => false
  | .tuple ds => noLs ds
  | .dict _ => false
  | _ => true
def noLs : List PyData → Bool
  | [] => true
  | d :: ds => noL d && noLs ds
end
section
variable {K : PySem.W.Frag} {H H' : Hp}
mutual
theorem dp_keep (hT : ∀ a xs, SqT K H a xs → SqT K H' a xs) : ∀ (d : PyData) (v : V), noL d = true → Dp K H v d → Dp K H' v d
  | .none, _, _, h => by cases h; exact .non
  | .bool b, _, _, h => by cases h; exact .bl b
  | .int i, _, _, h => by cases h; exact .int i
  | .str x, _, _, h => by cases h; exact .str x
  | .list ds, _, n, _ => by simp [noL] at n
  | .dict ds, _, _, h => by cases h
  | .tuple ds, _, n, h => by
    cases h with
    | tup hs ha => exact .tup (hT _ _ hs) (dps_keep hT ds _ (by simpa [noL] using n) ha)
theorem dps_keep (hT : ∀ a xs, SqT K H a xs → SqT K H' a xs) : ∀ (ds : List PyData) (vs : List V), noLs ds = true → DpAll K H vs ds → DpAll K H' vs ds
  | [], _, _, h => by cases h; exact .nil
  | d :: ds, _, n, h => by
    have n' : noL d = true ∧ noLs ds = true := by simpa [noLs] using n
    cases h with
    | cons h1 h2 => exact .cons (dp_keep hT d _ n'.1 h1) (dps_keep hT ds _ n'.2 h2)
end
theorem sqt_same (e : Same H H') (a : Addr) (xs : List V) (h : SqT K H a xs) : SqT K H' a xs := by
  rcases h with (h | ⟨o, h⟩) | h
  · exact .inl (.inl (e _ _ h))
  · exact .inl (.inr ⟨o, e _ _ h⟩)
  · exact .inr h
theorem sqt_upd {l : Addr} {ys zs : List V} (hl : H l = some (.lst ys)) (a : Addr) (xs : List V) (h : SqT K H a xs) : SqT K (upd H l (.lst zs)) a xs := by
  rcases h with (h | ⟨o, h⟩) | h
  · refine .inl (.inl ?_)
    rw [upd_ne (ne_of h hl (by intro z; cases z))]
    exact h
  · refine .inl (.inr ⟨o, ?_⟩)
    rw [upd_ne (ne_of h hl (by intro z; cases z))]
    exact h
  · exact .inr h
theorem dps_append : ∀ {vs ws : List V} {ds es : List PyData}, DpAll K H vs ds → DpAll K H ws es → DpAll K H (vs ++ ws) (ds ++ es)
  | _, _, _, _, .nil, h => h
  | _, _, _, _, .cons a r, h => .cons a (dps_append r h)
theorem dps_len : ∀ {vs : List V} {ds : List PyData}, DpAll K H vs ds → vs.length = ds.length
  | _, _, .nil => rfl
  | _, _, .cons _ r => by rw [List.length_cons, List.length_cons, dps_len r]
end

end Lx

/-! ### calls that are counted one by one (for deep recursions); all of them may raise -/
namespace Ly
open PySem PySem.Spec PyProof.Rows L2
structure RoomT (k : Nat) (A : Around) : Prop where
  hd : A.handled = none
  dp : A.depth + k + 12 < recursionLimit
  un : A.units + 3 * k + 220 < cLine
theorem RoomT.mono {j k : Nat} {A : Around} (r : RoomT k A) (h : j ≤ k) : RoomT j A := ⟨r.hd, by have := r.dp; omega, by have := r.un; omega⟩
theorem RoomT.deeper {k : Nat} {A : Around} (r : RoomT (k + 1) A) (env : Env) : RoomT k (A.deeper env) :=
  ⟨r.hd, by have := r.dp; show A.depth + 1 + k + 12 < _; omega, by have := r.un; show A.units + 3 + 3 * k + 220 < _; omega⟩
theorem RoomT.make {k : Nat} {A : Around} (r : RoomT (k + 1) A) (C : Addr) (us : List Value) (kw : List (Str × Value)) : RoomT k (A.under (.builtin "type.__call__" ⟨.ref C :: us, kw⟩)) :=
  ⟨r.hd, by have := r.dp; rw [make_depth]; omega, by have := r.un; rw [make_units]; omega⟩
theorem RoomT.room {k : Nat} {A : Around} (r : RoomT (6 * k) A) : Room k A := ⟨r.hd, by have := r.dp; omega, by have := r.un; omega⟩
theorem RoomT.depth {k : Nat} {A : Around} (r : RoomT k A) : A.depth < recursionLimit := by have := r.dp; omega
theorem RoomT.u64 {k : Nat} {A : Around} (r : RoomT k A) : A.units + 64 < cLine := by have := r.un; omega
theorem RoomT.u128 {k : Nat} {A : Around} (r : RoomT k A) : A.units + 128 < cLine := by have := r.un; omega
theorem RoomT.hu {k : Nat} {A : Around} (r : RoomT k A) : A.units + 1 < cLine := by have := r.un; omega
structure FnT (P : Program) (w : World) (K : PySem.W.Frag) (mg : Str → Option Value) (base : Heap) (k : Nat) (f : Addr) (fd : FuncData) (ps : List Str) (sp : Sp) : Prop where
  len : ∀ vs H Q E, sp vs H Q E → vs.length = ps.length
  run : ∀ (A : Around) (outer : List Env) (s : Shared) (H : Hp) (args : Args) (us : List Value) (vs : List V) (Q : VK) (E : XK), RoomT k A → Env0 P w K mg base A outer s H →
    BindsTo s fd args (ps.zip us) → Vals vs us → sp vs H Q E → codeAny (model P w) A (.call (.ref f) args) (CR (L2N.CX P w) outer P w H s Q E) s
section
variable {P : Program} {w : World} {K : PySem.W.Frag} {mg : Str → Option Value} {base : Heap} {x qual : Str} {st : Stmt} {f : Addr} {fd : FuncData} {N ps : List Str} {k j : Nat} {sp sp' : Sp}
theorem FnT.mono (F : FnT P w K mg base j f fd ps sp) (h : j ≤ k) : FnT P w K mg base k f fd ps sp :=
  ⟨F.len, fun A outer s H args us vs Q E hr => F.run A outer s H args us vs Q E (hr.mono h)⟩
theorem FnT.imp (F : FnT P w K mg base k f fd ps sp) (h : ∀ vs H Q E, sp' vs H Q E → sp vs H Q E) : FnT P w K mg base k f fd ps sp' :=
  ⟨fun vs H Q E q => F.len vs H Q E (h _ _ _ _ q), fun A outer s H args us vs Q E hr he hb hv hs => F.run A outer s H args us vs Q E hr he hb hv (h _ _ _ _ hs)⟩
theorem FnT.of (F : FnOk P w K mg base (L2N.CX P w) k f fd ps sp) : FnT P w K mg base (6 * k) f fd ps sp :=
  ⟨F.len, fun A outer s H args us vs Q E hr => F.run A outer s H args us vs Q E hr.room⟩
theorem FnT.of0 (F : FnOk P w K mg base CX0 k f fd ps sp) : FnT P w K mg base (6 * k) f fd ps sp :=
  ⟨F.len, fun A outer s H args us vs Q E hr he hb hv hs => codeAny_mono (F.run A outer s H args us vs Q E hr.room he hb hv hs) fun r s' q => by
    cases r with
    | error e => exact False.elim q
    | ok fl => cases fl <;> exact q⟩
/-- a promise that nobody asks for -/
theorem FnT.none (h : ∀ vs H Q E, ¬ sp vs H Q E) : FnT P w K mg base k f fd ps sp :=
  ⟨fun vs H Q E q => (h _ _ _ _ q).elim, fun A outer s H args us vs Q E _ _ _ _ q => (h _ _ _ _ q).elim⟩
theorem okT (F : Fun K x qual st f fd) (S : FnScope N ps (defScope st)) (len : ∀ vs H Q E, sp vs H Q E → vs.length = ps.length)
    (body : ∀ (cdv : Value) (A : Around) (outer : List Env) (s : Shared) (H : Hp) (vs : List V) (Q : VK) (E : XK),
      RoomT k (A.deeper (envOfC qual (defScope st) s.heap.objs.size f cdv)) → sp vs H Q E →
      ∃ t, PSs (cxOf (L2N.CX P w) P w K mg base N qual (defScope st) f cdv A outer s H E) (defBody st) t ∧
        t { nx := fun _ H' => Q .non H', rt := Q } (start N vs) H) : FnT P w K mg base (k + 1) f fd ps sp := by
  obtain ⟨oc, od, kV, doc, pm, an, cdv, ct, osl, rfl, lk, hcd⟩ := F.ex
  refine ⟨len, fun A outer s H args us vs Q E hr e0 bnd rv hsp => ?_⟩
  have hl := len _ _ _ _ hsp
  have KX : K.In s.heap := e0.mod.kin.keeps fun b o e => (e0.bs b o e).1
  have lim : s.heap.NoLimit := e0.mod.nolimit.keeps fun b o e => (e0.bs b o e).1
  have kinds : ∀ z ∈ ps.zip us, (defScope st).names.lookup z.1 = some .local ∨
      ((defScope st).names.lookup z.1 = some .cell ∧ ((cellsFrom (s.heap.objs.size + 1) (defScope st).names []).lookup z.1).isSome = true) := by
    rintro ⟨n, v⟩ hz
    rcases S.par n (List.of_mem_zip hz).1 with q | q
    · exact .inl q
    · exact .inr ⟨q, PySem.W.cellsFrom_some _ _ _ (.inl q)⟩
  refine codeAny_call_function hr.depth (KX _ _ lk) rfl S.co S.gen rfl (PySem.W.codeRec_of KX hcd) (bnd _ _ _ _ ?_)
  refine wpAny_newFunctionEnv_cells S.kind kinds fun env he s1 z => ?_
  subst he
  refine ⟨lim.keeps z.toInCall.keep, codeAny_func ?_⟩
  obtain ⟨t, ht, hq⟩ := body cdv A outer s H vs Q E (hr.deeper _) hsp
  have I := inv_start (CX := L2N.CX P w) (cd := cdv) (qual := qual) (f := f) (E := E) S hr.hd e0 hl rv z
  refine wpAny_mono (ht.run [] s1 _ H _ I hq) (fun fl s' hs => ?_) fun e s' hs => hs
  cases fl with
  | next =>
    obtain ⟨σ', H', J, q⟩ := hs
    exact ⟨.non, H', J.os, J.bare, J.base, J.hok, rfl, q⟩
  | ret u =>
    obtain ⟨v, σ', H', J, rv, q⟩ := hs
    exact ⟨v, H', J.os, J.bare, J.base, J.hok, rv, q⟩
  | brk =>
    obtain ⟨_, _, _, q⟩ := hs
    exact q.elim
  | cont =>
    obtain ⟨_, _, _, q⟩ := hs
    exact q.elim
end
section
variable {X : Cx} {k : Nat} {f C : Addr} {fd : FuncData} {ps : List Str} {sp : Sp} {x m : Str} {p pos apos : Pos} {e o : Expr} {es : List Expr} {ta : TE} {t : TA}
theorem run_T {pins : List (Addr × Obj)} {σ : L2.St} {H : Hp} {s : Shared} {Q : VK} {us : List Value} {vs : List V} {E : L2.St → XK} (F : FnT X.prog X.w X.K X.mg X.base k f fd ps sp) (hr : RoomT k X.A) (hb : Binds X.K fd ps [])
    (hx : PassesAt (L2N.CX X.prog X.w) X σ (E σ)) (I : Inv X pins σ H s) (r : Vals vs us) (h : sp vs H Q (E σ)) : wpAny (model X.prog X.w) X.A (call (.ref f) us) (EP X pins σ Q) X.xe s := by
  have hl : (us ++ []).length = ps.length := by
    rw [List.append_nil, ← r.length]
    exact F.len _ _ _ _ h
  have b := hb s us I.kIn hl
  rw [List.append_nil] at b
  refine wpAny_call (codeAny_mono (F.run X.A X.stack s H ⟨us, []⟩ us vs Q (E σ) hr I.env0 b r h) fun r s' hq => ?_)
  match r, hq with
  | .error e, hq => exact hx pins H s e s' I hq
  | .ok (.ret u), hq => exact I.after hq
  | .ok .next, hq => exact False.elim hq
  | .ok .brk, hq => exact False.elim hq
  | .ok .cont, hq => exact False.elim hq
theorem pe_callT {E : L2.St → XK} (F : FnT X.prog X.w X.K X.mg X.base k f fd ps sp) (hr : RoomT k X.A) (hg : Gl X x) (hm : X.mg x = some (.ref f)) (hk : PySem.W.keepIn X.K (.ref f) = true) (hb : Binds X.K fd ps [])
    (hx : ∀ σ, PassesAt (L2N.CX X.prog X.w) X σ (E σ)) (ha : PA X (e :: es) t) (hdb : (x == ("__debug__" : Str)) = false := by decide)
    (he : starEach (e :: es) X.env = (false, eval e X.env) :: starEach es X.env := by rfl) (hpl : (backTo pos (starEach es X.env)).any (·.1) = false := by rfl) :
    PE X (.Call (.Name x p) (e :: es) [] pos) (tCallS sp E t) := by
  refine ⟨fun pins s σ H Q I h => wpAny_Call_Name_kw (ld_glob I hg hm ?_ hdb)⟩
  refine PySem.W.callWith_K (h₀ := X.base) I.ok.mod.kin hk (thn (ha.run pos pins s σ H _ I h) fun us s1 h1 => ?_) he hpl
  obtain ⟨vs, H1, I1, r, q⟩ := h1
  exact ⟨I1.kIn, run_T F hr hb (hx σ) I1 r q⟩
/-- the call of a def that a local name holds -/
def tCallN (i : Nat) (f : Addr) (sp : Sp) (E : L2.St → XK) (t : TA) : TE := fun σ H Q => σ[i]? = some (some (.ref f)) ∧ t σ H fun vs H1 => sp vs H1 Q (E σ)
theorem pe_callN {E : L2.St → XK} {i : Nat} (F : FnT X.prog X.w X.K X.mg X.base k f fd ps sp) (hr : RoomT k X.A) (hk : PySem.W.keepIn X.K (.ref f) = true) (hb : Binds X.K fd ps [])
    (hx : ∀ σ, PassesAt (L2N.CX X.prog X.w) X σ (E σ)) (ha : PA X (e :: es) t) (hN : X.N[i]? = some x := by rfl) (hv : Vis X.env.scope x := by first | exact Or.inl rfl | exact Or.inr (Or.inl rfl))
    (hdb : (x == ("__debug__" : Str)) = false := by decide) (hcd : (x == ("__classdict__" : Str)) = false := by decide)
    (he : starEach (e :: es) X.env = (false, eval e X.env) :: starEach es X.env := by rfl) (hpl : (backTo pos (starEach es X.env)).any (·.1) = false := by rfl) :
    PE X (.Call (.Name x p) (e :: es) [] pos) (tCallN i f sp E t) := by
  refine ⟨fun pins s σ H Q I h => ?_⟩
  obtain ⟨hs, ht⟩ := h
  refine wpAny_Call_Name_kw (thn ((pe_var (pos := p) hN hv hdb hcd).run pins s σ H (fun v H1 => v = .ref f ∧ H1 = H) I ⟨.ref f, hs, rfl, rfl⟩) fun u s1 h1 => ?_)
  obtain ⟨v, H1, I1, r1, rfl, rfl⟩ := h1
  cases r1
  refine PySem.W.callWith_K (h₀ := X.base) I.ok.mod.kin hk (thn (ha.run pos pins s1 σ _ _ I1 ht) fun us s2 h2 => ?_) he hpl
  obtain ⟨vs, H2, I2, r, q⟩ := h2
  exact ⟨I2.kIn, run_T F hr hb (hx σ) I2 r q⟩
def tMethT (C : Addr) (m : Str) (sp : Sp) (E : L2.St → XK) (ta : TE) (t : TA) : TE := fun σ H Q => ta σ H fun x H1 => ∃ a dx fs, x = .ref a ∧ H1 a = some (.ins C dx fs) ∧ fs.lookup m = none ∧ t σ H1 fun vs H2 => sp (x :: vs) H2 Q (E σ)
theorem pe_methT {E : L2.St → XK} {pl : Sem Bool} (he : PE X o ta) (c : Cls X.K C) (hm : Meth X.K C m f) (F : FnT X.prog X.w X.K X.mg X.base k f fd ps sp) (hr : RoomT k X.A) (hb : Binds X.K fd ps [])
    (hx : ∀ σ, PassesAt (L2N.CX X.prog X.w) X σ (E σ)) (ha : PA X (e :: es) t)
    (hst : starEach (e :: es) X.env = (false, eval e X.env) :: starEach es X.env := by rfl) (hpl : (backTo pos (starEach es X.env)).any (·.1) = false := by rfl)
    (ht : eval (.Call (.Attribute o m apos) (e :: es) [] pos) X.env = (do
      let ov ← eval o X.env
      standAt apos.atName
      let (f, first) ← holding [ov] (getMethod ov m pl)
      callWith pos f first (backTo pos (starEach (e :: es) X.env)) (backToKw pos (keywordEach [] X.env))) := by rfl) :
    PE X (.Call (.Attribute o m apos) (e :: es) [] pos) (tMethT C m sp E ta t) := by
  refine ⟨fun pins s σ H Q I h => PySem.W.methodCall_KW (pl := pl) (thn (he.run pins s σ H _ I h) fun u s1 h1 => ?_) ht⟩
  obtain ⟨x, H1, I1, rx, a, dx, fs, rfl, ea, l, q⟩ := h1
  cases (show u = Value.ref a from rx)
  refine getmeth_ok I1 ea c hm l ?_
  refine PySem.W.callWith_K (first := [.ref a]) (h₀ := X.base) I.ok.mod.kin hm.kp (thn (ha.run pos pins s1 σ H1 _ I1 q) fun us s2 h2 => ?_) hst hpl
  obtain ⟨vs, H2, I2, r, q2⟩ := h2
  exact ⟨I2.kIn, run_T (us := .ref a :: us) (vs := .ref a :: vs) F hr hb (hx σ) I2 (.cons rfl r) q2⟩
theorem pe_meth0T {E : L2.St → XK} {pl : Sem Bool} (he : PE X o ta) (c : Cls X.K C) (hm : Meth X.K C m f) (F : FnT X.prog X.w X.K X.mg X.base k f fd ps sp) (hr : RoomT k X.A) (hb : Binds X.K fd ps [])
    (hx : ∀ σ, PassesAt (L2N.CX X.prog X.w) X σ (E σ))
    (ht : eval (.Call (.Attribute o m apos) [] [] pos) X.env = (do
      let ov ← eval o X.env
      standAt apos.atName
      let (f, first) ← holding [ov] (getMethod ov m pl)
      callWith pos f first (backTo pos (starEach [] X.env)) (backToKw pos (keywordEach [] X.env))) := by rfl) :
    PE X (.Call (.Attribute o m apos) [] [] pos) (tMethT C m sp E ta tNil) := by
  refine ⟨fun pins s σ H Q I h => PySem.W.methodCall_KW (pl := pl) (thn (he.run pins s σ H _ I h) fun u s1 h1 => ?_) ht⟩
  obtain ⟨x, H1, I1, rx, a, dx, fs, rfl, ea, l, q⟩ := h1
  cases (show u = Value.ref a from rx)
  refine getmeth_ok I1 ea c hm l ?_
  exact PySem.W.callWith_K0 (first := [.ref a]) I1.kIn hm.kp (run_T (us := [.ref a]) (vs := [.ref a]) F hr hb (hx σ) I1 (.cons rfl .nil) q)
/-- C(e, ..) of an own class -/
def tMakeT (C : Addr) (sp : Sp) (E : L2.St → XK) (t : TA) : TE := fun σ H Q => t σ H fun vs H1 => ∀ x dx, H1 x = none → H1 dx = none → dx ≠ x →
  sp (.ref x :: vs) (upd (upd H1 dx (.own x)) x (.ins C dx [])) (fun v H2 => v = .non ∧ Q (.ref x) H2) (E σ)
theorem pe_makeT {E : L2.St → XK} (M : Mk X.K C f) (F : FnT X.prog X.w X.K X.mg X.base k f fd ps sp) (hr : RoomT (k + 1) X.A) (hg : Gl X x) (hm : X.mg x = some (.ref C)) (hb : Binds X.K fd ps [])
    (hx : ∀ σ, PassesAt (L2N.CX X.prog X.w) X σ (E σ)) (ha : PA X (e :: es) t) (hdb : (x == ("__debug__" : Str)) = false := by decide)
    (he : starEach (e :: es) X.env = (false, eval e X.env) :: starEach es X.env := by rfl) (hpl : (backTo pos (starEach es X.env)).any (·.1) = false := by rfl) :
    PE X (.Call (.Name x p) (e :: es) [] pos) (tMakeT C sp E t) := by
  refine ⟨fun pins s σ H Q I h => wpAny_Call_Name_kw (ld_glob I hg hm ?_ hdb)⟩
  refine PySem.W.callWith_K (h₀ := X.base) I.ok.mod.kin M.kp (thn (ha.run pos pins s σ H _ I h) fun us s1 h1 => ?_) he hpl
  obtain ⟨vs, H1, I1, r, q⟩ := h1
  refine ⟨I1.kIn, ?_⟩
  have hq := q (s1.heap.objs.size + 1) s1.heap.objs.size (I1.hok.fresh (Nat.le_succ _)) (I1.hok.fresh (Nat.le_refl _)) (Nat.ne_of_lt (Nat.lt_succ_self _))
  have I2 := Inv.made (C := C) I1
  have r2 : Vals (V.ref (s1.heap.objs.size + 1) :: vs) (Value.ref (s1.heap.objs.size + 1) :: us) := .cons rfl r
  have hl : ((Value.ref (s1.heap.objs.size + 1) :: us) ++ []).length = ps.length := by
    rw [List.append_nil, ← r2.length]
    exact F.len _ _ _ _ hq
  have b := hb _ (Value.ref (s1.heap.objs.size + 1) :: us) I2.kIn hl
  rw [List.append_nil] at b
  show wpAny _ _ (call (.ref C) us) _ _ _
  refine wpAny_call (make_map (f := f) I1.kIn M.makes M.init (beq_iff_eq.mp M.fn) (codeAny_mono (F.run _ X.stack _ _ ⟨Value.ref (s1.heap.objs.size + 1) :: us, []⟩ _ _ _ _ (hr.make C us []) (I2.env0.make C us []) b r2 hq) fun r s' hq' => ?_))
  match r, hq' with
  | .error e, hq' => exact hx σ pins _ _ e s' I2 hq'
  | .ok .next, hq' => exact False.elim hq'
  | .ok .brk, hq' => exact False.elim hq'
  | .ok .cont, hq' => exact False.elim hq'
  | .ok (.ret u), hq' =>
    obtain ⟨v, H', I3, rv, rfl, q3⟩ := I2.after hq'
    exact ⟨rv, .ref _, H', I3, rfl, q3⟩
end
theorem same_new {H : Hp} {p : Addr} {o : HO} (h : H p = none) : Same H (upd H p o) := fun b x e => by
  rw [upd_ne (ne_of_none e h)]
  exact e
end Ly

/-! ### tokens as data; what is the same over the laws -/
namespace Px
open PySem PySem.Spec PyProof.Rows L2 Ly Lx TL
theorem sz {n : Nat} (h : n ≤ 100000) : n ≤ sizeLine := Nat.le_trans h (by decide)
def kindOf : Tkn → Str
  | .word _ => "word"
  | .name _ => "name"
  | .num _ _ => "number"
  | .sign _ => "sign"
def valD : Tkn → PyData
  | .word w => .str w
  | .name w => .str w
  | .num t b => .tuple [.int t, .int b]
  | .sign w => .str w
def tokD (t : Tkn × Nat) : PyData := .tuple [.str (kindOf t.1), valD t.1, .int (t.2 : Int)]
/-- an error of the parser -/
inductive Er where
  | mal (i : Nat)
  | over
abbrev Res := Except Er (PyData × Nat)
def bindR (r : Res) (g : PyData → Nat → Res) : Res := match r with
  | .ok (d, k) => g d k
  | .error e => .error e
section
variable (all : List (Tkn × Nat)) (n : Nat)
def wh (k : Nat) : Nat := match all[k]? with
  | some t => t.2
  | none => n
def valIn (t : Tkn) (vals : List Str) : Bool := match t with
  | .word w => vals.any (· == w)
  | .name w => vals.any (· == w)
  | .num _ _ => false
  | .sign w => vals.any (· == w)
def seesB (vals : List Str) (k : Nat) : Bool := match all[k]? with
  | some t => valIn t.1 vals
  | none => false
def kindB (kd : Str) (k : Nat) : Bool := match all[k]? with
  | some t => kindOf t.1 == kd
  | none => false
def tvAt (k : Nat) : PyData := match all[k]? with
  | some t => valD t.1
  | none => .none
def strAt (k : Nat) : Str := match all[k]? with
  | some (.word w, _) => w
  | some (.name w, _) => w
  | some (.sign w, _) => w
  | _ => ""
def expectS (v : Str) (k : Nat) : Res := if seesB all [v] k = true then .ok (.none, k + 1) else .error (.mal (wh all n k))
def expectKind (kd : Str) (k : Nat) : Res := if kindB all kd k = true then .ok (tvAt all k, k + 1) else .error (.mal (wh all n k))
def expectWhole (g : Nat) (k : Nat) : Res := match all[k]? with
  | some (.num t b, at_) => if b ≠ 1 ∨ g < t then .error (.mal at_) else .ok (.int (t : Int), k + 1)
  | _ => .error (.mal (wh all n k))
def negD : PyData → PyData
  | .int i => .int (-i)
  | d => d
def powerM (k : Nat) : Res := if seesB all ["-"] k = true then bindR (expectWhole all n 9 (k + 1)) fun d k => .ok (negD d, k) else expectWhole all n 9 k
def productL : Nat → List PyData → Nat → Res
  | 0, _, _ => .error .over
  | f + 1, acc, k => if seesB all ["]"] k = true then .ok (.tuple acc, k + 1) else
      bindR (expectKind all n "name" k) fun nm k1 => bindR (if seesB all ["^"] k1 = true then powerM all n (k1 + 1) else .ok (.int 1, k1)) fun p k2 =>
        productL f (acc ++ [.tuple [nm, p, .int (wh all n k : Int)]]) k2
def productM (k : Nat) : Res := bindR (expectS all n "[" k) fun _ k => productL all n (all.length + 1) [] k
def numberM (at_ k : Nat) : Res := bindR (if seesB all ["["] (k + 1) = true then productM all n (k + 1) else .ok (.tuple [], k + 1)) fun p k2 =>
  .ok (.tuple [.str "number", tvAt all k, p, .int (at_ : Int)], k2)
def opName (w : Str) : Str := if w = "<" then "lt" else if w = "<=" then "le" else if w = "==" then "eq" else if w = "+" then "add" else if w = "-" then "sub" else if w = "*" then "mul" else if w = "/" then "div" else w
def node (op : Str) (a b : PyData) (at_ : Nat) : PyData := .tuple [.str op, a, b, .int (at_ : Int)]
/-- parts with operators between them -/
def chainL (ops : List Str) (f : Nat → Nat → Res) : Nat → PyData → Nat → Res
  | 0, _, _ => .error .over
  | m + 1, e, k => if seesB all ops k = true then bindR (f m (k + 1)) fun b k2 => chainL ops f m (node (opName (strAt all k)) e b (wh all n k)) k2 else .ok (e, k)
def chainM (ops : List Str) (f : Nat → Nat → Res) (m k : Nat) : Res := bindR (f m k) fun e k => chainL all n ops f m e k
def argsL (E : Nat → Res) : Nat → List PyData → Nat → Res
  | 0, _, _ => .error .over
  | f + 1, acc, k => if seesB all [","] k = true then bindR (E (k + 1)) fun a k2 => argsL E f (acc ++ [a]) k2 else bindR (expectS all n ")" k) fun _ k => .ok (.tuple acc, k)
def argsM (E : Nat → Res) (k : Nat) : Res := if seesB all [")"] k = true then .ok (.tuple [], k + 1) else bindR (E k) fun a k2 => argsL all n E (all.length + 1) [a] k2
def iterateM (P : Nat → Res) (at_ k : Nat) : Res := bindR (expectKind all n "name" k) fun nm k => bindR (expectWhole all n 20 k) fun c k => bindR (expectS all n "from" k) fun _ k => bindR (P k) fun e k =>
  .ok (.tuple [.str "iterate", nm, c, e, .int (at_ : Int)], k)
def ifM (E : Nat → Res) (at_ k : Nat) : Res := bindR (E k) fun a k => bindR (expectS all n "then" k) fun _ k => bindR (E k) fun b k => bindR (expectS all n "else" k) fun _ k => bindR (E k) fun c k =>
  .ok (.tuple [.str "if", a, b, c, .int (at_ : Int)], k)
def letM (E : Nat → Res) (at_ k : Nat) : Res := bindR (expectKind all n "name" k) fun nm k => bindR (expectS all n "=" k) fun _ k => bindR (E k) fun a k => bindR (expectS all n "in" k) fun _ k => bindR (E k) fun b k =>
  .ok (.tuple [.str "let", nm, a, b, .int (at_ : Int)], k)
section
variable (E : Nat → Nat → Res)
def primM : Nat → Nat → Res
  | 0, _ => .error .over
  | m + 1, k => if kindB all "number" k = true then numberM all n (wh all n k) k
    else if seesB all ["true"] k = true then .ok (.tuple [.str "bool", .bool true], k + 1)
    else if seesB all ["false"] k = true then .ok (.tuple [.str "bool", .bool false], k + 1)
    else if seesB all ["("] k = true then bindR (E m (k + 1)) fun e k => bindR (expectS all n ")" k) fun _ k => .ok (e, k)
    else if seesB all ["iterate"] k = true then iterateM all n (primM m) (wh all n k) (k + 1)
    else bindR (expectKind all n "name" k) fun nm k1 => if seesB all ["("] k1 = true then bindR (argsM all n (E m) (k1 + 1)) fun a k2 => .ok (.tuple [.str "call", nm, a, .int (wh all n k : Int)], k2)
      else .ok (.tuple [.str "var", nm, .int (wh all n k : Int)], k1)
def powL : Nat → PyData → Nat → Res
  | 0, _, _ => .error .over
  | m + 1, e, k => if seesB all ["^"] k = true then (if m = 0 then .error .over else bindR (powerM all n (k + 1)) fun p k2 => powL m (.tuple [.str "power", e, p, .int (wh all n k : Int)]) k2) else .ok (e, k)
def powersM (m k : Nat) : Res := bindR (primM all n E m k) fun e k => powL all n m e k
def factorsM (m k : Nat) : Res := chainM all n ["*", "/"] (powersM all n E) m k
def termsM (m k : Nat) : Res := chainM all n ["+", "-"] (factorsM all n E) m k
def plainM : Nat → Nat → Res
  | 0, _ => .error .over
  | m + 1, k => if seesB all ["not"] k = true then bindR (plainM m (k + 1)) fun e k2 => .ok (.tuple [.str "not", e, .int (wh all n k : Int)], k2)
    else bindR (termsM all n E (m + 1) k) fun l k1 => if seesB all ["<", "<=", "=="] k1 = true then bindR (termsM all n E m (k1 + 1)) fun r k2 => .ok (node (opName (strAt all k1)) l r (wh all n k1), k2) else .ok (l, k1)
def bothM (m k : Nat) : Res := chainM all n ["and"] (plainM all n E) m k
def exprM : Nat → Nat → Res
  | 0, _ => .error .over
  | m + 1, k => if seesB all ["if"] k = true then ifM all n (E m) (wh all n k) (k + 1)
    else if seesB all ["let"] k = true then letM all n (E m) (wh all n k) (k + 1)
    else chainM all n ["or"] (bothM all n E) (m + 1) k
end
/-- an expression, with q for the calls within -/
def exprN : Nat → Nat → Nat → Res
  | 0 => fun _ _ => .error .over
  | q + 1 => exprM all n (exprN q)
def exprTop (k : Nat) : Res := exprN all n 24 24 k
def toldM (k : Nat) : Res := if seesB all [":"] k = true then productM all n (k + 1) else .ok (.none, k)
def paramM (k : Nat) : Res := bindR (expectKind all n "name" k) fun nm k => bindR (toldM all n k) fun p k => .ok (.tuple [nm, p], k)
def paramsL : Nat → List PyData → Nat → Res
  | 0, _, _ => .error .over
  | f + 1, acc, k => if seesB all [","] k = true then bindR (paramM all n (k + 1)) fun a k2 => paramsL f (acc ++ [a]) k2 else bindR (expectS all n ")" k) fun _ k => .ok (.tuple acc, k)
def paramsM (k : Nat) : Res := if seesB all [")"] k = true then .ok (.tuple [], k + 1) else bindR (paramM all n k) fun a k2 => paramsL all n (all.length + 1) [a] k2
def funM (at_ k : Nat) : Res := bindR (expectKind all n "name" k) fun nm k => bindR (expectS all n "(" k) fun _ k => bindR (paramsM all n k) fun ps k => bindR (toldM all n k) fun p k => bindR (expectS all n "=" k) fun _ k => bindR (exprTop all n k) fun e k =>
  .ok (.tuple [.str "fun", nm, ps, p, e, .int (at_ : Int)], k)
def unitM (at_ k : Nat) : Res := bindR (expectKind all n "name" k) fun nm k => bindR (expectS all n "=" k) fun _ k => bindR (expectKind all n "number" k) fun v k => bindR (productM all n k) fun p k =>
  .ok (.tuple [.str "unit", nm, v, p, .int (at_ : Int)], k)
def showM (at_ k : Nat) : Res := bindR (exprTop all n k) fun e k => bindR (if seesB all ["in"] k = true then productM all n (k + 1) else .ok (.none, k)) fun p k => .ok (.tuple [.str "show", e, p, .int (at_ : Int)], k)
def baseM (at_ k : Nat) : Res := bindR (expectKind all n "name" k) fun nm k => .ok (.tuple [.str "base", nm, .int (at_ : Int)], k)
def lineM (k : Nat) : Res :=
  bindR (if seesB all ["base"] k = true then baseM all n (wh all n k) (k + 1) else if seesB all ["unit"] k = true then unitM all n (wh all n k) (k + 1)
    else if seesB all ["fun"] k = true then funM all n (wh all n k) (k + 1) else bindR (expectS all n "show" k) fun _ k1 => showM all n (wh all n k) k1) fun l k => bindR (expectS all n ";" k) fun _ k => .ok (l, k)
def linesL : Nat → List PyData → Nat → Except Er (List PyData)
  | 0, _, _ => .error .over
  | f + 1, acc, k => if k = all.length then .ok acc else match lineM all n k with
    | .ok (l, k2) => linesL f (acc ++ [l]) k2
    | .error e => .error e
def parseM : Except Er (List PyData) := linesL all n (all.length + 1) [] 0
end
/-! ### the reader's state -/
structure RS where
  r : Addr
  dx : Addr
  l : Addr
  xs : List V
  n : Nat
  all : List (Tkn × Nat)
  ok : ∀ t ∈ all, SeqAt.shaped (valD t.1) = true
/-- the reader stands behind k tokens -/
def RS.at_ (R : RS) (K : PySem.W.Frag) (C : Addr) (H : Hp) (k : Nat) : Prop :=
  H R.r = some (.ins C R.dx [("found", .ref R.l), ("length", .int (R.n : Int)), ("taken", .int (k : Int))]) ∧ H R.l = some (.lst R.xs) ∧ DpAll K H R.xs (R.all.map tokD) ∧ k ≤ R.all.length ∧ R.all.length ≤ 100000
/-- nothing that was tracked has changed, but the reader -/
def Go (r : Addr) (H H' : Hp) : Prop := (∀ b o, b ≠ r → H b = some o → H' b = some o) ∧ (H r ≠ none → H' r ≠ none)
theorem Go.refl (r : Addr) (H : Hp) : Go r H H := ⟨fun _ _ _ e => e, fun e => e⟩
theorem Go.trans {r : Addr} {H H1 H2 : Hp} (a : Go r H H1) (b : Go r H1 H2) : Go r H H2 := ⟨fun c o hc e => b.1 c o hc (a.1 c o hc e), fun e => b.2 (a.2 e)⟩
theorem Go.free {r : Addr} {H H' : Hp} (a : Go r H H') {d : Addr} (h : H' d = none) : H d = none := by
  by_cases hd : d = r
  · subst hd
    cases e : H d with
    | none => rfl
    | some o => exact absurd h (a.2 (by rw [e]; simp))
  · cases e : H d with
    | none => rfl
    | some o =>
      rw [a.1 d o hd e] at h
      cases h
theorem go_same {r : Addr} {H H' : Hp} (s : Same H H') : Go r H H' := ⟨fun b o _ e => s b o e, fun h => by
  cases e : H r with
  | none => exact absurd e h
  | some o => rw [s r o e]; simp⟩
theorem go_new {r p : Addr} {H : Hp} {o : HO} (h : H p = none) : Go r H (upd H p o) := go_same fun b x e => by
  rw [upd_ne (ne_of_none e h)]
  exact e
theorem go_upd {r : Addr} {H : Hp} {o : HO} : Go r H (upd H r o) := ⟨fun b x hb e => by rw [upd_ne hb]; exact e, fun _ => by rw [upd_same]; simp⟩
section
variable {K : PySem.W.Frag} {H H' : Hp} {R : RS} {C : Addr} {k : Nat}
theorem sqt_go {r : Addr} (g : Go r H H') (hr : ∃ C dx fs, H r = some (.ins C dx fs)) (a : Addr) (xs : List V) (h : SqT K H a xs) : SqT K H' a xs := by
  obtain ⟨C, dx, fs, hr⟩ := hr
  rcases h with (h | ⟨o, h⟩) | h
  · exact .inl (.inl (g.1 _ _ (ne_of h hr (by intro z; cases z)) h))
  · exact .inl (.inr ⟨o, g.1 _ _ (ne_of h hr (by intro z; cases z)) h⟩)
  · exact .inr h
theorem RS.at_.ins (h : R.at_ K C H k) : ∃ C dx fs, H R.r = some (.ins C dx fs) := ⟨_, _, _, h.1⟩
theorem RS.at_.le (h : R.at_ K C H k) : k ≤ R.all.length := h.2.2.2.1
theorem noL_val (t : Tkn) : noL (valD t) = true := by cases t <;> rfl
theorem noL_tok (t : Tkn × Nat) : noL (tokD t) = true := by
  show (true && (noL (valD t.1) && (true && true))) = true
  rw [noL_val]
  rfl
theorem noL_toks : ∀ ts : List (Tkn × Nat), noLs (ts.map tokD) = true
  | [] => rfl
  | t :: ts => by
    show (noL (tokD t) && noLs (ts.map tokD)) = true
    rw [noL_tok, noL_toks ts]
    rfl
theorem RS.at_.lst_ne (h : R.at_ K C H k) : R.l ≠ R.r := ne_of h.2.1 h.1 (by intro z; cases z)
/-- the reader is where it was, as the heap goes on -/
theorem RS.at_.go (h : R.at_ K C H k) (g : Go R.r H H') {k' : Nat} (hr : H' R.r = some (.ins C R.dx [("found", .ref R.l), ("length", .int (R.n : Int)), ("taken", .int (k' : Int))])) (hk : k' ≤ R.all.length) : R.at_ K C H' k' :=
  ⟨hr, g.1 _ _ h.lst_ne h.2.1, dps_keep (sqt_go g h.ins) _ _ (noL_toks _) h.2.2.1, hk, h.2.2.2.2⟩
theorem RS.at_.same (h : R.at_ K C H k) (s : Same H H') : R.at_ K C H' k := h.go (go_same s) (s _ _ h.1) h.le
end
/-! ### what a def of the parser hands back -/
def ErrG (R : RS) (C : Addr) (f : Str) (v : V) (H : Hp) (E : XK) : Prop := ∀ d H', Go R.r H H' → H d = none → H' d = some (.xd [(f, v)]) → E (.ref C) (some d) H'
/-- the classes: the reader's, Malformed, Oversized -/
structure Cl where
  rd : Addr
  mal : Addr
  ov : Addr
def Out (K : PySem.W.Frag) (c : Cl) (R : RS) (k0 : Nat) (H : Hp) (res : Res) (Q : VK) (E : XK) : Prop := match res with
  | .ok (d, k) => k0 ≤ k → ∀ H' v, Go R.r H H' → R.at_ K c.rd H' k → Dp K H' v d → noL d = true → Q v H'
  | .error (.mal i) => ErrG R c.mal "at" (.int (i : Int)) H E
  | .error .over => ErrG R c.ov "limit" (.str "depth") H E
section
variable {K : PySem.W.Frag} {c : Cl} {R : RS} {k0 k : Nat} {H H' : Hp} {res : Res} {Q Q' : VK} {E : XK}
theorem ErrG.go {C : Addr} {f : Str} {v : V} (h : ErrG R C f v H E) (g : Go R.r H H') : ErrG R C f v H' E := fun d H2 g2 hd h2 => h d H2 (g.trans g2) (g.free hd) h2
theorem Out.go (h : Out K c R k0 H res Q E) (g : Go R.r H H') : Out K c R k0 H' res Q E := by
  match res, h with
  | .ok (d, k), h => exact fun hk H2 v g2 => h hk H2 v (g.trans g2)
  | .error (.mal i), h => exact ErrG.go h g
  | .error .over, h => exact ErrG.go h g
/-- a step of a def: the callee's result, then the rest -/
theorem Out.step {r : Res} {g : PyData → Nat → Res} (h : Out K c R k0 H (bindR r g) Q E)
    (q : ∀ d k1 H' v, r = .ok (d, k1) → k ≤ k1 → Go R.r H H' → R.at_ K c.rd H' k1 → Dp K H' v d → noL d = true → Out K c R k0 H' (g d k1) Q E → Q' v H') : Out K c R k H r Q' E := by
  match r, h, q with
  | .ok (d, k1), h, q => exact fun hk H' v g ha hd hn => q d k1 H' v rfl hk g ha hd hn (Out.go h g)
  | .error (.mal i), h, _ => exact h
  | .error .over, h, _ => exact h
theorem Out.last (h : Out K c R k0 H res Q E) (hk : k0 ≤ k) : Out K c R k H res Q E := by
  match res, h with
  | .ok (d, k2), h => exact fun hk2 H2 v => h (Nat.le_trans hk hk2) H2 v
  | .error (.mal i), h => exact h
  | .error .over, h => exact h
theorem Out.ret {d : PyData} {v : V} (h : Out K c R k0 H (.ok (d, k)) Q E) (hk : k0 ≤ k) (g : Go R.r H H') (ha : R.at_ K c.rd H' k) (hd : Dp K H' v d) (hn : noL d = true) : Q v H' := h hk H' v g ha hd hn
theorem dp_go {r : Addr} (g : Go r H H') (hr : ∃ C dx fs, H r = some (.ins C dx fs)) {d : PyData} {v : V} (hn : noL d = true) (h : Dp K H v d) : Dp K H' v d := dp_keep (sqt_go g hr) _ _ hn h
theorem dp_same (s : Same H H') {d : PyData} {v : V} (hn : noL d = true) (h : Dp K H v d) : Dp K H' v d := dp_keep (sqt_same s) _ _ hn h
end
/-! ### in, in a tuple of data -/
def rInTD (K : PySem.W.Frag) : R2 := fun x y H Q => ∃ d ds, Dp K H x d ∧ Dp K H y (.tuple ds) ∧ SeqAt.shaped d = true ∧ SeqAt.shaped (.tuple ds) = true ∧ Q (.bl (ds.any fun z => PyData.eqv z d)) H
theorem op_inTD {X : Cx} (hu : X.A.units + 128 < cLine) : OpR X (compareOp .In) (rInTD X.K) := by
  intro pins s σ H x y v u Q I rx ry h
  obtain ⟨d, ds, hd, he, sd, se, q⟩ := h
  obtain ⟨as, r1⟩ := Dp.reads I d x v hd rx
  obtain ⟨bs, r2⟩ := Dp.reads I (.tuple ds) y u he ry
  exact SeqAt.in_tuple_reads r2 r1 (SeqAt.canLay_of_shaped se) (SeqAt.canLay_of_shaped sd) (room_in_shaped sd (by omega)) ⟨.bl _, H, I, rfl, q⟩
theorem any_in (t : Tkn) : ∀ vals : List Str, ((vals.map PyData.str).any fun z => PyData.eqv z (valD t)) = valIn t vals
  | [] => by cases t <;> rfl
  | w :: vals => by
    have ih := any_in t vals
    rw [List.map_cons, List.any_cons, ih]
    cases t <;> simp [valD, valIn, PyData.eqv]
theorem dps_get {K : PySem.W.Frag} {H : Hp} : ∀ {xs : List V} {ds : List PyData} {j : Nat} {d : PyData}, DpAll K H xs ds → ds[j]? = some d → ∃ v, xs[j]? = some v ∧ Dp K H v d
  | _, _, _, _, .nil, e => by simp at e
  | v :: _, _ :: _, 0, d, .cons h _, e => by
    have e' := Option.some.inj e
    subst e'
    exact ⟨v, rfl, h⟩
  | _ :: _, _ :: _, j + 1, d, .cons _ t, e => by
    obtain ⟨v, h1, h2⟩ := dps_get (j := j) (d := d) t (by simpa using e)
    exact ⟨v, by simpa using h1, h2⟩
/-! ### written texts are plain data -/
def cpsOk (x : Str) : Bool := x.cps.toList.all fun c => decide (c < 0x110000)
theorem strOk_of {x : Str} (h : cpsOk x = true) : PyData.strOk x = true := by
  unfold PyData.strOk
  rw [← Array.all_toList]
  exact h
theorem strs_ok : ∀ ws : List Str, ws.all cpsOk = true → PyData.canLayAll0 (ws.map PyData.str) = true ∧ PyData.depthAll (ws.map PyData.str) = 0
  | [], _ => by simp [PyData.canLayAll0, PyData.depthAll]
  | w :: ws, h => by
    rw [List.all_cons, Bool.and_eq_true] at h
    obtain ⟨h1, h2⟩ := strs_ok ws h.2
    simp [PyData.canLayAll0, PyData.depthAll, PyData.canLay0, PyData.depth, h1, h2, strOk_of h.1]
theorem shs (ws : List Str) (h : ws.all cpsOk = true := by decide) : SeqAt.shaped (.tuple (ws.map PyData.str)) = true := by
  obtain ⟨h1, h2⟩ := strs_ok ws h
  unfold SeqAt.shaped
  simp [PyData.canLay0, PyData.depth, h1, h2]
theorem sh1 (x : Str) (h : [x].all cpsOk = true := by decide) : SeqAt.shaped (.tuple [.str x]) = true := shs [x] h
end Px

namespace Tk
open PySem PySem.Spec PyProof.Rows L2 Ly
def topS (i : Nat) : Stmt := PySem.Challenge.pw_alnage_k02_chains_and_levels.main.body.getD i (.Pass ⟨0, 0, 0, 0⟩)
abbrev s_Malformed___init__ : Stmt := inClass (topS 2) 0
theorem sc_Malformed___init__ : FnScope ["self", "at"] ["self", "at"] (defScope s_Malformed___init__) := ⟨rfl, rfl, rfl, by decide +kernel, rfl, by decide +kernel, by decide +kernel⟩
abbrev s_Oversized___init__ : Stmt := inClass (topS 3) 0
theorem sc_Oversized___init__ : FnScope ["self", "limit"] ["self", "limit"] (defScope s_Oversized___init__) := ⟨rfl, rfl, rfl, by decide +kernel, rfl, by decide +kernel, by decide +kernel⟩
abbrev s_tokens : Stmt := topS 15
theorem sc_tokens : FnScope ["text", "found", "at", "kind", "value", "end"] ["text"] (defScope s_tokens) := ⟨rfl, rfl, rfl, by decide +kernel, rfl, by decide +kernel, by decide +kernel⟩
abbrev s_token_start : Stmt := topS 16
theorem sc_token_start : FnScope ["text", "at"] ["text", "at"] (defScope s_token_start) := ⟨rfl, rfl, rfl, by decide +kernel, rfl, by decide +kernel, by decide +kernel⟩
abbrev s_comment_end : Stmt := topS 17
theorem sc_comment_end : FnScope ["text", "at", "newline"] ["text", "at"] (defScope s_comment_end) := ⟨rfl, rfl, rfl, by decide +kernel, rfl, by decide +kernel, by decide +kernel⟩
abbrev s_token_at : Stmt := topS 18
theorem sc_token_at : FnScope ["text", "at", "sign"] ["text", "at"] (defScope s_token_at) := ⟨rfl, rfl, rfl, by decide +kernel, rfl, by decide +kernel, by decide +kernel⟩
abbrev s_name_at : Stmt := topS 19
theorem sc_name_at : FnScope ["text", "at", "end", "name"] ["text", "at"] (defScope s_name_at) := ⟨rfl, rfl, rfl, by decide +kernel, rfl, by decide +kernel, by decide +kernel⟩
abbrev s_number_at : Stmt := topS 20
theorem sc_number_at : FnScope ["text", "at", "point", "whole", "part", "end"] ["text", "at"] (defScope s_number_at) := ⟨rfl, rfl, rfl, by decide +kernel, rfl, by decide +kernel, by decide +kernel⟩
abbrev s_digits_behind : Stmt := topS 21
theorem sc_digits_behind : FnScope ["text", "point"] ["text", "point"] (defScope s_digits_behind) := ⟨rfl, rfl, rfl, by decide +kernel, rfl, by decide +kernel, by decide +kernel⟩
abbrev s_run_end : Stmt := topS 22
theorem sc_run_end : FnScope ["text", "at", "characters"] ["text", "at", "characters"] (defScope s_run_end) := ⟨rfl, rfl, rfl, by decide +kernel, rfl, by decide +kernel, by decide +kernel⟩
abbrev s_Reader___init__ : Stmt := inClass (topS 24) 0
theorem sc_Reader___init__ : FnScope ["self", "found", "length"] ["self", "found", "length"] (defScope s_Reader___init__) := ⟨rfl, rfl, rfl, by decide +kernel, rfl, by decide +kernel, by decide +kernel⟩
abbrev s_Reader_ended : Stmt := inClass (topS 24) 1
theorem sc_Reader_ended : FnScope ["self"] ["self"] (defScope s_Reader_ended) := ⟨rfl, rfl, rfl, by decide +kernel, rfl, by decide +kernel, by decide +kernel⟩
abbrev s_Reader_where : Stmt := inClass (topS 24) 2
theorem sc_Reader_where : FnScope ["self"] ["self"] (defScope s_Reader_where) := ⟨rfl, rfl, rfl, by decide +kernel, rfl, by decide +kernel, by decide +kernel⟩
abbrev s_Reader_sees : Stmt := inClass (topS 24) 3
theorem sc_Reader_sees : FnScope ["self", "values"] ["self", "values"] (defScope s_Reader_sees) := ⟨rfl, rfl, rfl, by decide +kernel, rfl, by decide +kernel, by decide +kernel⟩
abbrev s_Reader_sees_kind : Stmt := inClass (topS 24) 4
theorem sc_Reader_sees_kind : FnScope ["self", "kind"] ["self", "kind"] (defScope s_Reader_sees_kind) := ⟨rfl, rfl, rfl, by decide +kernel, rfl, by decide +kernel, by decide +kernel⟩
abbrev s_Reader_take : Stmt := inClass (topS 24) 5
theorem sc_Reader_take : FnScope ["self", "value"] ["self"] (defScope s_Reader_take) := ⟨rfl, rfl, rfl, by decide +kernel, rfl, by decide +kernel, by decide +kernel⟩
abbrev s_Reader_accept : Stmt := inClass (topS 24) 6
theorem sc_Reader_accept : FnScope ["self", "value"] ["self", "value"] (defScope s_Reader_accept) := ⟨rfl, rfl, rfl, by decide +kernel, rfl, by decide +kernel, by decide +kernel⟩
abbrev s_Reader_expect : Stmt := inClass (topS 24) 7
theorem sc_Reader_expect : FnScope ["self", "value"] ["self", "value"] (defScope s_Reader_expect) := ⟨rfl, rfl, rfl, by decide +kernel, rfl, by decide +kernel, by decide +kernel⟩
abbrev s_Reader_expect_kind : Stmt := inClass (topS 24) 8
theorem sc_Reader_expect_kind : FnScope ["self", "kind"] ["self", "kind"] (defScope s_Reader_expect_kind) := ⟨rfl, rfl, rfl, by decide +kernel, rfl, by decide +kernel, by decide +kernel⟩
abbrev s_Reader_expect_whole : Stmt := inClass (topS 24) 9
theorem sc_Reader_expect_whole : FnScope ["self", "greatest", "at", "top", "bottom"] ["self", "greatest"] (defScope s_Reader_expect_whole) := ⟨rfl, rfl, rfl, by decide +kernel, rfl, by decide +kernel, by decide +kernel⟩
abbrev s_parse : Stmt := topS 31
theorem sc_parse : FnScope ["text", "reader", "lines"] ["text"] (defScope s_parse) := ⟨rfl, rfl, rfl, by decide +kernel, rfl, by decide +kernel, by decide +kernel⟩
abbrev s_read_line : Stmt := topS 32
theorem sc_read_line : FnScope ["reader", "at", "line"] ["reader"] (defScope s_read_line) := ⟨rfl, rfl, rfl, by decide +kernel, rfl, by decide +kernel, by decide +kernel⟩
abbrev s_read_unit : Stmt := topS 33
theorem sc_read_unit : FnScope ["reader", "at", "name", "number"] ["reader", "at"] (defScope s_read_unit) := ⟨rfl, rfl, rfl, by decide +kernel, rfl, by decide +kernel, by decide +kernel⟩
abbrev s_read_function : Stmt := topS 34
theorem sc_read_function : FnScope ["reader", "at", "name", "parameters", "product"] ["reader", "at"] (defScope s_read_function) := ⟨rfl, rfl, rfl, by decide +kernel, rfl, by decide +kernel, by decide +kernel⟩
abbrev s_read_parameters : Stmt := topS 35
theorem sc_read_parameters : FnScope ["reader", "parameters"] ["reader"] (defScope s_read_parameters) := ⟨rfl, rfl, rfl, by decide +kernel, rfl, by decide +kernel, by decide +kernel⟩
abbrev s_read_parameter : Stmt := topS 36
theorem sc_read_parameter : FnScope ["reader", "name"] ["reader"] (defScope s_read_parameter) := ⟨rfl, rfl, rfl, by decide +kernel, rfl, by decide +kernel, by decide +kernel⟩
abbrev s_read_told : Stmt := topS 37
theorem sc_read_told : FnScope ["reader"] ["reader"] (defScope s_read_told) := ⟨rfl, rfl, rfl, by decide +kernel, rfl, by decide +kernel, by decide +kernel⟩
abbrev s_read_show : Stmt := topS 38
theorem sc_read_show : FnScope ["reader", "at", "e", "product"] ["reader", "at"] (defScope s_read_show) := ⟨rfl, rfl, rfl, by decide +kernel, rfl, by decide +kernel, by decide +kernel⟩
abbrev s_read_product : Stmt := topS 39
theorem sc_read_product : FnScope ["reader", "parts", "at", "name", "power"] ["reader"] (defScope s_read_product) := ⟨rfl, rfl, rfl, by decide +kernel, rfl, by decide +kernel, by decide +kernel⟩
abbrev s_read_power : Stmt := topS 40
theorem sc_read_power : FnScope ["reader"] ["reader"] (defScope s_read_power) := ⟨rfl, rfl, rfl, by decide +kernel, rfl, by decide +kernel, by decide +kernel⟩
abbrev s_deeper : Stmt := topS 41
theorem sc_deeper : FnScope ["level"] ["level"] (defScope s_deeper) := ⟨rfl, rfl, rfl, by decide +kernel, rfl, by decide +kernel, by decide +kernel⟩
abbrev s_read_expression : Stmt := topS 42
theorem sc_read_expression : FnScope ["reader", "level", "at"] ["reader", "level"] (defScope s_read_expression) := ⟨rfl, rfl, rfl, by decide +kernel, rfl, by decide +kernel, by decide +kernel⟩
abbrev s_read_if : Stmt := topS 43
theorem sc_read_if : FnScope ["reader", "level", "at", "test", "first", "second"] ["reader", "level", "at"] (defScope s_read_if) := ⟨rfl, rfl, rfl, by decide +kernel, rfl, by decide +kernel, by decide +kernel⟩
abbrev s_read_let : Stmt := topS 44
theorem sc_read_let : FnScope ["reader", "level", "at", "name", "bound", "body"] ["reader", "level", "at"] (defScope s_read_let) := ⟨rfl, rfl, rfl, by decide +kernel, rfl, by decide +kernel, by decide +kernel⟩
abbrev s_read_chain : Stmt := topS 45
theorem sc_read_chain : FnScope ["reader", "level", "operators", "read_part", "e", "at", "operation"] ["reader", "level", "operators", "read_part"] (defScope s_read_chain) := ⟨rfl, rfl, rfl, by decide +kernel, rfl, by decide +kernel, by decide +kernel⟩
abbrev s_read_both : Stmt := topS 46
theorem sc_read_both : FnScope ["reader", "level"] ["reader", "level"] (defScope s_read_both) := ⟨rfl, rfl, rfl, by decide +kernel, rfl, by decide +kernel, by decide +kernel⟩
abbrev s_read_plain : Stmt := topS 47
theorem sc_read_plain : FnScope ["reader", "level", "at", "left", "operation"] ["reader", "level"] (defScope s_read_plain) := ⟨rfl, rfl, rfl, by decide +kernel, rfl, by decide +kernel, by decide +kernel⟩
abbrev s_read_terms : Stmt := topS 48
theorem sc_read_terms : FnScope ["reader", "level"] ["reader", "level"] (defScope s_read_terms) := ⟨rfl, rfl, rfl, by decide +kernel, rfl, by decide +kernel, by decide +kernel⟩
abbrev s_read_factors : Stmt := topS 49
theorem sc_read_factors : FnScope ["reader", "level"] ["reader", "level"] (defScope s_read_factors) := ⟨rfl, rfl, rfl, by decide +kernel, rfl, by decide +kernel, by decide +kernel⟩
abbrev s_read_powers : Stmt := topS 50
theorem sc_read_powers : FnScope ["reader", "level", "e", "at"] ["reader", "level"] (defScope s_read_powers) := ⟨rfl, rfl, rfl, by decide +kernel, rfl, by decide +kernel, by decide +kernel⟩
abbrev s_read_primary : Stmt := topS 51
theorem sc_read_primary : FnScope ["reader", "level", "at", "e", "name"] ["reader", "level"] (defScope s_read_primary) := ⟨rfl, rfl, rfl, by decide +kernel, rfl, by decide +kernel, by decide +kernel⟩
abbrev s_read_number : Stmt := topS 52
theorem sc_read_number : FnScope ["reader", "at", "number", "product"] ["reader", "at"] (defScope s_read_number) := ⟨rfl, rfl, rfl, by decide +kernel, rfl, by decide +kernel, by decide +kernel⟩
abbrev s_read_iterate : Stmt := topS 53
theorem sc_read_iterate : FnScope ["reader", "level", "at", "name", "count"] ["reader", "level", "at"] (defScope s_read_iterate) := ⟨rfl, rfl, rfl, by decide +kernel, rfl, by decide +kernel, by decide +kernel⟩
abbrev s_read_arguments : Stmt := topS 54
theorem sc_read_arguments : FnScope ["reader", "level", "arguments"] ["reader", "level"] (defScope s_read_arguments) := ⟨rfl, rfl, rfl, by decide +kernel, rfl, by decide +kernel, by decide +kernel⟩
abbrev s_law_cell : Stmt := topS 56
theorem sc_law_cell : FnScope ["script", "k"] ["script", "k"] (defScope s_law_cell) := ⟨rfl, rfl, rfl, by decide +kernel, rfl, by decide +kernel, by decide +kernel⟩
abbrev s_law_group : Stmt := topS 57
theorem sc_law_group : FnScope ["parts", "signs", "wanted", "groups", "found", "k", "last"] ["parts", "signs", "wanted"] (defScope s_law_group) := ⟨rfl, rfl, rfl, by decide +kernel, rfl, by decide +kernel, by decide +kernel⟩
abbrev s_law_tree : Stmt := topS 58
theorem sc_law_tree : FnScope ["parts", "signs", "level", "levels", "heads", "groups", "found", "trees", "tree", "k"] ["parts", "signs", "level"] (defScope s_law_tree) := ⟨rfl, rfl, rfl, by decide +kernel, rfl, by decide +kernel, by decide +kernel⟩
abbrev s_law : Stmt := topS 59
theorem sc_law : FnScope ["script", "text", "parts", "signs", "compared", "k", "cell", "sign", "at", "pick", "tree", "shown", "lines"] ["script"] (defScope s_law) := ⟨rfl, rfl, rfl, by decide +kernel, rfl, by decide +kernel, by decide +kernel⟩
/-- what the top has written -/
structure Top (w : World) (K : PySem.W.Frag) (mg : Str → Option Value) where
  a_tokens : Addr
  fd_tokens : FuncData
  F_tokens : Fun K "tokens" "tokens" s_tokens a_tokens fd_tokens
  m_tokens : mg "tokens" = some (.ref a_tokens)
  a_token_start : Addr
  fd_token_start : FuncData
  F_token_start : Fun K "token_start" "token_start" s_token_start a_token_start fd_token_start
  m_token_start : mg "token_start" = some (.ref a_token_start)
  a_comment_end : Addr
  fd_comment_end : FuncData
  F_comment_end : Fun K "comment_end" "comment_end" s_comment_end a_comment_end fd_comment_end
  m_comment_end : mg "comment_end" = some (.ref a_comment_end)
  a_token_at : Addr
  fd_token_at : FuncData
  F_token_at : Fun K "token_at" "token_at" s_token_at a_token_at fd_token_at
  m_token_at : mg "token_at" = some (.ref a_token_at)
  a_name_at : Addr
  fd_name_at : FuncData
  F_name_at : Fun K "name_at" "name_at" s_name_at a_name_at fd_name_at
  m_name_at : mg "name_at" = some (.ref a_name_at)
  a_number_at : Addr
  fd_number_at : FuncData
  F_number_at : Fun K "number_at" "number_at" s_number_at a_number_at fd_number_at
  m_number_at : mg "number_at" = some (.ref a_number_at)
  a_digits_behind : Addr
  fd_digits_behind : FuncData
  F_digits_behind : Fun K "digits_behind" "digits_behind" s_digits_behind a_digits_behind fd_digits_behind
  m_digits_behind : mg "digits_behind" = some (.ref a_digits_behind)
  a_run_end : Addr
  fd_run_end : FuncData
  F_run_end : Fun K "run_end" "run_end" s_run_end a_run_end fd_run_end
  m_run_end : mg "run_end" = some (.ref a_run_end)
  a_parse : Addr
  fd_parse : FuncData
  F_parse : Fun K "parse" "parse" s_parse a_parse fd_parse
  m_parse : mg "parse" = some (.ref a_parse)
  a_read_line : Addr
  fd_read_line : FuncData
  F_read_line : Fun K "read_line" "read_line" s_read_line a_read_line fd_read_line
  m_read_line : mg "read_line" = some (.ref a_read_line)
  a_read_unit : Addr
  fd_read_unit : FuncData
  F_read_unit : Fun K "read_unit" "read_unit" s_read_unit a_read_unit fd_read_unit
  m_read_unit : mg "read_unit" = some (.ref a_read_unit)
  a_read_function : Addr
  fd_read_function : FuncData
  F_read_function : Fun K "read_function" "read_function" s_read_function a_read_function fd_read_function
  m_read_function : mg "read_function" = some (.ref a_read_function)
  a_read_parameters : Addr
  fd_read_parameters : FuncData
  F_read_parameters : Fun K "read_parameters" "read_parameters" s_read_parameters a_read_parameters fd_read_parameters
  m_read_parameters : mg "read_parameters" = some (.ref a_read_parameters)
  a_read_parameter : Addr
  fd_read_parameter : FuncData
  F_read_parameter : Fun K "read_parameter" "read_parameter" s_read_parameter a_read_parameter fd_read_parameter
  m_read_parameter : mg "read_parameter" = some (.ref a_read_parameter)
  a_read_told : Addr
  fd_read_told : FuncData
  F_read_told : Fun K "read_told" "read_told" s_read_told a_read_told fd_read_told
  m_read_told : mg "read_told" = some (.ref a_read_told)
  a_read_show : Addr
  fd_read_show : FuncData
  F_read_show : Fun K "read_show" "read_show" s_read_show a_read_show fd_read_show
  m_read_show : mg "read_show" = some (.ref a_read_show)
  a_read_product : Addr
  fd_read_product : FuncData
  F_read_product : Fun K "read_product" "read_product" s_read_product a_read_product fd_read_product
  m_read_product : mg "read_product" = some (.ref a_read_product)
  a_read_power : Addr
  fd_read_power : FuncData
  F_read_power : Fun K "read_power" "read_power" s_read_power a_read_power fd_read_power
  m_read_power : mg "read_power" = some (.ref a_read_power)
  a_deeper : Addr
  fd_deeper : FuncData
  F_deeper : Fun K "deeper" "deeper" s_deeper a_deeper fd_deeper
  m_deeper : mg "deeper" = some (.ref a_deeper)
  a_read_expression : Addr
  fd_read_expression : FuncData
  F_read_expression : Fun K "read_expression" "read_expression" s_read_expression a_read_expression fd_read_expression
  m_read_expression : mg "read_expression" = some (.ref a_read_expression)
  a_read_if : Addr
  fd_read_if : FuncData
  F_read_if : Fun K "read_if" "read_if" s_read_if a_read_if fd_read_if
  m_read_if : mg "read_if" = some (.ref a_read_if)
  a_read_let : Addr
  fd_read_let : FuncData
  F_read_let : Fun K "read_let" "read_let" s_read_let a_read_let fd_read_let
  m_read_let : mg "read_let" = some (.ref a_read_let)
  a_read_chain : Addr
  fd_read_chain : FuncData
  F_read_chain : Fun K "read_chain" "read_chain" s_read_chain a_read_chain fd_read_chain
  m_read_chain : mg "read_chain" = some (.ref a_read_chain)
  a_read_both : Addr
  fd_read_both : FuncData
  F_read_both : Fun K "read_both" "read_both" s_read_both a_read_both fd_read_both
  m_read_both : mg "read_both" = some (.ref a_read_both)
  a_read_plain : Addr
  fd_read_plain : FuncData
  F_read_plain : Fun K "read_plain" "read_plain" s_read_plain a_read_plain fd_read_plain
  m_read_plain : mg "read_plain" = some (.ref a_read_plain)
  a_read_terms : Addr
  fd_read_terms : FuncData
  F_read_terms : Fun K "read_terms" "read_terms" s_read_terms a_read_terms fd_read_terms
  m_read_terms : mg "read_terms" = some (.ref a_read_terms)
  a_read_factors : Addr
  fd_read_factors : FuncData
  F_read_factors : Fun K "read_factors" "read_factors" s_read_factors a_read_factors fd_read_factors
  m_read_factors : mg "read_factors" = some (.ref a_read_factors)
  a_read_powers : Addr
  fd_read_powers : FuncData
  F_read_powers : Fun K "read_powers" "read_powers" s_read_powers a_read_powers fd_read_powers
  m_read_powers : mg "read_powers" = some (.ref a_read_powers)
  a_read_primary : Addr
  fd_read_primary : FuncData
  F_read_primary : Fun K "read_primary" "read_primary" s_read_primary a_read_primary fd_read_primary
  m_read_primary : mg "read_primary" = some (.ref a_read_primary)
  a_read_number : Addr
  fd_read_number : FuncData
  F_read_number : Fun K "read_number" "read_number" s_read_number a_read_number fd_read_number
  m_read_number : mg "read_number" = some (.ref a_read_number)
  a_read_iterate : Addr
  fd_read_iterate : FuncData
  F_read_iterate : Fun K "read_iterate" "read_iterate" s_read_iterate a_read_iterate fd_read_iterate
  m_read_iterate : mg "read_iterate" = some (.ref a_read_iterate)
  a_read_arguments : Addr
  fd_read_arguments : FuncData
  F_read_arguments : Fun K "read_arguments" "read_arguments" s_read_arguments a_read_arguments fd_read_arguments
  m_read_arguments : mg "read_arguments" = some (.ref a_read_arguments)
  a_law_cell : Addr
  fd_law_cell : FuncData
  F_law_cell : Fun K "_law_cell" "_law_cell" s_law_cell a_law_cell fd_law_cell
  m_law_cell : mg "_law_cell" = some (.ref a_law_cell)
  a_law_group : Addr
  fd_law_group : FuncData
  F_law_group : Fun K "_law_group" "_law_group" s_law_group a_law_group fd_law_group
  m_law_group : mg "_law_group" = some (.ref a_law_group)
  a_law_tree : Addr
  fd_law_tree : FuncData
  F_law_tree : Fun K "_law_tree" "_law_tree" s_law_tree a_law_tree fd_law_tree
  m_law_tree : mg "_law_tree" = some (.ref a_law_tree)
  a_law : Addr
  fd_law : FuncData
  F_law : Fun K "law" "law" s_law a_law fd_law
  m_law : mg "law" = some (.ref a_law)
  n_abs : mg "abs" = none
  n_int : mg "int" = none
  n_len : mg "len" = none
  n_min : mg "min" = none
  n_range : mg "range" = none
  n_repr : mg "repr" = none
  n_str : mg "str" = none
  n_tuple : mg "tuple" = none
  a_RESERVED : Addr
  c_RESERVED : mg "RESERVED" = some (.ref a_RESERVED)
  s_RESERVED : ∀ H : Hp, SqT K H a_RESERVED [.str "and", .str "base", .str "else", .str "false", .str "from", .str "fun", .str "if", .str "in", .str "iterate", .str "let", .str "not", .str "or", .str "show", .str "then", .str "true", .str "unit"]
  u_LONGEST_TEXT : Value
  c_LONGEST_TEXT : mg "LONGEST_TEXT" = some u_LONGEST_TEXT
  r_LONGEST_TEXT : RelV (.int 12000) u_LONGEST_TEXT
  u_LONGEST_NAME : Value
  c_LONGEST_NAME : mg "LONGEST_NAME" = some u_LONGEST_NAME
  r_LONGEST_NAME : RelV (.int 16) u_LONGEST_NAME
  u_MOST_DIGITS : Value
  c_MOST_DIGITS : mg "MOST_DIGITS" = some u_MOST_DIGITS
  r_MOST_DIGITS : RelV (.int 6) u_MOST_DIGITS
  u_SEPARATORS : Value
  c_SEPARATORS : mg "SEPARATORS" = some u_SEPARATORS
  r_SEPARATORS : RelV (.str " \t\n") u_SEPARATORS
  u_LETTERS : Value
  c_LETTERS : mg "LETTERS" = some u_LETTERS
  r_LETTERS : RelV (.str "abcdefghijklmnopqrstuvwxyzABCDEFGHIJKLMNOPQRSTUVWXYZ") u_LETTERS
  u_DIGITS : Value
  c_DIGITS : mg "DIGITS" = some u_DIGITS
  r_DIGITS : RelV (.str "0123456789") u_DIGITS
  u_NAMING : Value
  c_NAMING : mg "NAMING" = some u_NAMING
  r_NAMING : RelV (.str "abcdefghijklmnopqrstuvwxyzABCDEFGHIJKLMNOPQRSTUVWXYZ0123456789_") u_NAMING
  a_SIGNS : Addr
  c_SIGNS : mg "SIGNS" = some (.ref a_SIGNS)
  s_SIGNS : ∀ H : Hp, SqT K H a_SIGNS [.str "<=", .str "==", .str "=", .str "<", .str "+", .str "-", .str "*", .str "/", .str "^", .str ",", .str ";", .str ":", .str "(", .str ")", .str "[", .str "]"]
  a_BOTTOMS : Addr
  c_BOTTOMS : mg "BOTTOMS" = some (.ref a_BOTTOMS)
  s_BOTTOMS : ∀ H : Hp, SqT K H a_BOTTOMS [.int 1, .int 10, .int 100, .int 1000, .int 10000]
  u_DEEPEST : Value
  c_DEEPEST : mg "DEEPEST" = some u_DEEPEST
  r_DEEPEST : RelV (.int 24) u_DEEPEST
  u_GREATEST_POWER : Value
  c_GREATEST_POWER : mg "GREATEST_POWER" = some u_GREATEST_POWER
  r_GREATEST_POWER : RelV (.int 9) u_GREATEST_POWER
  u_GREATEST_COUNT : Value
  c_GREATEST_COUNT : mg "GREATEST_COUNT" = some u_GREATEST_COUNT
  r_GREATEST_COUNT : RelV (.int 20) u_GREATEST_COUNT
  a_COMPARISONS : Addr
  c_COMPARISONS : mg "COMPARISONS" = some (.ref a_COMPARISONS)
  s_COMPARISONS : ∀ H : Hp, SqT K H a_COMPARISONS [.str "<", .str "<=", .str "=="]
  a_OPERATIONS : Addr
  c_OPERATIONS : mg "OPERATIONS" = some (.ref a_OPERATIONS)
  d_OPERATIONS_0 : KDct K w a_OPERATIONS "or" (.str "or")
  d_OPERATIONS_1 : KDct K w a_OPERATIONS "and" (.str "and")
  d_OPERATIONS_2 : KDct K w a_OPERATIONS "<" (.str "lt")
  d_OPERATIONS_3 : KDct K w a_OPERATIONS "<=" (.str "le")
  d_OPERATIONS_4 : KDct K w a_OPERATIONS "==" (.str "eq")
  d_OPERATIONS_5 : KDct K w a_OPERATIONS "+" (.str "add")
  d_OPERATIONS_6 : KDct K w a_OPERATIONS "-" (.str "sub")
  d_OPERATIONS_7 : KDct K w a_OPERATIONS "*" (.str "mul")
  d_OPERATIONS_8 : KDct K w a_OPERATIONS "/" (.str "div")
  a_Malformed : Addr
  i_Malformed : Addr
  fd_Malformed___init__ : FuncData
  F_Malformed___init__ : Fun K "__init__" "Malformed.__init__" s_Malformed___init__ i_Malformed fd_Malformed___init__
  x_Malformed : XCls K mg "Malformed" a_Malformed i_Malformed "at"
  a_Oversized : Addr
  i_Oversized : Addr
  fd_Oversized___init__ : FuncData
  F_Oversized___init__ : Fun K "__init__" "Oversized.__init__" s_Oversized___init__ i_Oversized fd_Oversized___init__
  x_Oversized : XCls K mg "Oversized" a_Oversized i_Oversized "limit"
  a_Reader : Addr
  m_Reader : mg "Reader" = some (.ref a_Reader)
  cl_Reader : Cls K a_Reader
  a_Reader___init__ : Addr
  fd_Reader___init__ : FuncData
  F_Reader___init__ : Fun K "__init__" "Reader.__init__" s_Reader___init__ a_Reader___init__ fd_Reader___init__
  mk_Reader : Mk K a_Reader a_Reader___init__
  a_Reader_ended : Addr
  fd_Reader_ended : FuncData
  F_Reader_ended : Fun K "ended" "Reader.ended" s_Reader_ended a_Reader_ended fd_Reader_ended
  M_Reader_ended : Meth K a_Reader "ended" a_Reader_ended
  a_Reader_where : Addr
  fd_Reader_where : FuncData
  F_Reader_where : Fun K "where" "Reader.where" s_Reader_where a_Reader_where fd_Reader_where
  M_Reader_where : Meth K a_Reader "where" a_Reader_where
  a_Reader_sees : Addr
  fd_Reader_sees : FuncData
  F_Reader_sees : Fun K "sees" "Reader.sees" s_Reader_sees a_Reader_sees fd_Reader_sees
  M_Reader_sees : Meth K a_Reader "sees" a_Reader_sees
  a_Reader_sees_kind : Addr
  fd_Reader_sees_kind : FuncData
  F_Reader_sees_kind : Fun K "sees_kind" "Reader.sees_kind" s_Reader_sees_kind a_Reader_sees_kind fd_Reader_sees_kind
  M_Reader_sees_kind : Meth K a_Reader "sees_kind" a_Reader_sees_kind
  a_Reader_take : Addr
  fd_Reader_take : FuncData
  F_Reader_take : Fun K "take" "Reader.take" s_Reader_take a_Reader_take fd_Reader_take
  M_Reader_take : Meth K a_Reader "take" a_Reader_take
  a_Reader_accept : Addr
  fd_Reader_accept : FuncData
  F_Reader_accept : Fun K "accept" "Reader.accept" s_Reader_accept a_Reader_accept fd_Reader_accept
  M_Reader_accept : Meth K a_Reader "accept" a_Reader_accept
  a_Reader_expect : Addr
  fd_Reader_expect : FuncData
  F_Reader_expect : Fun K "expect" "Reader.expect" s_Reader_expect a_Reader_expect fd_Reader_expect
  M_Reader_expect : Meth K a_Reader "expect" a_Reader_expect
  a_Reader_expect_kind : Addr
  fd_Reader_expect_kind : FuncData
  F_Reader_expect_kind : Fun K "expect_kind" "Reader.expect_kind" s_Reader_expect_kind a_Reader_expect_kind fd_Reader_expect_kind
  M_Reader_expect_kind : Meth K a_Reader "expect_kind" a_Reader_expect_kind
  a_Reader_expect_whole : Addr
  fd_Reader_expect_whole : FuncData
  F_Reader_expect_whole : Fun K "expect_whole" "Reader.expect_whole" s_Reader_expect_whole a_Reader_expect_whole fd_Reader_expect_whole
  M_Reader_expect_whole : Meth K a_Reader "expect_whole" a_Reader_expect_whole
  nF_Reader_found : NoAttr K a_Reader "found"
  nF_Reader_length : NoAttr K a_Reader "length"
  nF_Reader_taken : NoAttr K a_Reader "taken"
/-- .. out of what the head tells -/
def top_mk {w : World} {K : PySem.W.Frag} {h : Heap} {mg : Str → Option Value} (X : K.In h) (G : h.Ns mainGlobals mg)
    {f_tokens f_token_start f_comment_end f_token_at f_name_at f_number_at f_digits_behind f_run_end f_parse f_read_line f_read_unit f_read_function f_read_parameters f_read_parameter f_read_told f_read_show f_read_product f_read_power f_deeper f_read_expression f_read_if f_read_let f_read_chain f_read_both f_read_plain f_read_terms f_read_factors f_read_powers f_read_primary f_read_number f_read_iterate f_read_arguments f_law_cell f_law_group f_law_tree f_law : Addr}
    {oc_Malformed___init__ kV_Malformed___init__ dc_Malformed___init__ pm_Malformed___init__ cd_Malformed___init__ ct_Malformed___init__ : Value} {od_Malformed___init__ an_Malformed___init__ : Option Addr} {sl_Malformed___init__ : Array (Option Value)}
    {oc_Oversized___init__ kV_Oversized___init__ dc_Oversized___init__ pm_Oversized___init__ cd_Oversized___init__ ct_Oversized___init__ : Value} {od_Oversized___init__ an_Oversized___init__ : Option Addr} {sl_Oversized___init__ : Array (Option Value)}
    {oc_tokens kV_tokens dc_tokens pm_tokens cd_tokens ct_tokens : Value} {od_tokens an_tokens : Option Addr} {sl_tokens : Array (Option Value)}
    {oc_token_start kV_token_start dc_token_start pm_token_start cd_token_start ct_token_start : Value} {od_token_start an_token_start : Option Addr} {sl_token_start : Array (Option Value)}
    {oc_comment_end kV_comment_end dc_comment_end pm_comment_end cd_comment_end ct_comment_end : Value} {od_comment_end an_comment_end : Option Addr} {sl_comment_end : Array (Option Value)}
    {oc_token_at kV_token_at dc_token_at pm_token_at cd_token_at ct_token_at : Value} {od_token_at an_token_at : Option Addr} {sl_token_at : Array (Option Value)}
    {oc_name_at kV_name_at dc_name_at pm_name_at cd_name_at ct_name_at : Value} {od_name_at an_name_at : Option Addr} {sl_name_at : Array (Option Value)}
    {oc_number_at kV_number_at dc_number_at pm_number_at cd_number_at ct_number_at : Value} {od_number_at an_number_at : Option Addr} {sl_number_at : Array (Option Value)}
    {oc_digits_behind kV_digits_behind dc_digits_behind pm_digits_behind cd_digits_behind ct_digits_behind : Value} {od_digits_behind an_digits_behind : Option Addr} {sl_digits_behind : Array (Option Value)}
    {oc_run_end kV_run_end dc_run_end pm_run_end cd_run_end ct_run_end : Value} {od_run_end an_run_end : Option Addr} {sl_run_end : Array (Option Value)}
    {oc_Reader___init__ kV_Reader___init__ dc_Reader___init__ pm_Reader___init__ cd_Reader___init__ ct_Reader___init__ : Value} {od_Reader___init__ an_Reader___init__ : Option Addr} {sl_Reader___init__ : Array (Option Value)}
    {oc_Reader_ended kV_Reader_ended dc_Reader_ended pm_Reader_ended cd_Reader_ended ct_Reader_ended : Value} {od_Reader_ended an_Reader_ended : Option Addr} {sl_Reader_ended : Array (Option Value)}
    {oc_Reader_where kV_Reader_where dc_Reader_where pm_Reader_where cd_Reader_where ct_Reader_where : Value} {od_Reader_where an_Reader_where : Option Addr} {sl_Reader_where : Array (Option Value)}
    {oc_Reader_sees kV_Reader_sees dc_Reader_sees pm_Reader_sees cd_Reader_sees ct_Reader_sees : Value} {od_Reader_sees an_Reader_sees : Option Addr} {sl_Reader_sees : Array (Option Value)}
    {oc_Reader_sees_kind kV_Reader_sees_kind dc_Reader_sees_kind pm_Reader_sees_kind cd_Reader_sees_kind ct_Reader_sees_kind : Value} {od_Reader_sees_kind an_Reader_sees_kind : Option Addr} {sl_Reader_sees_kind : Array (Option Value)}
    {oc_Reader_take kV_Reader_take dc_Reader_take pm_Reader_take cd_Reader_take ct_Reader_take : Value} {od_Reader_take an_Reader_take : Option Addr} {sl_Reader_take : Array (Option Value)}
    {oc_Reader_accept kV_Reader_accept dc_Reader_accept pm_Reader_accept cd_Reader_accept ct_Reader_accept : Value} {od_Reader_accept an_Reader_accept : Option Addr} {sl_Reader_accept : Array (Option Value)}
    {oc_Reader_expect kV_Reader_expect dc_Reader_expect pm_Reader_expect cd_Reader_expect ct_Reader_expect : Value} {od_Reader_expect an_Reader_expect : Option Addr} {sl_Reader_expect : Array (Option Value)}
    {oc_Reader_expect_kind kV_Reader_expect_kind dc_Reader_expect_kind pm_Reader_expect_kind cd_Reader_expect_kind ct_Reader_expect_kind : Value} {od_Reader_expect_kind an_Reader_expect_kind : Option Addr} {sl_Reader_expect_kind : Array (Option Value)}
    {oc_Reader_expect_whole kV_Reader_expect_whole dc_Reader_expect_whole pm_Reader_expect_whole cd_Reader_expect_whole ct_Reader_expect_whole : Value} {od_Reader_expect_whole an_Reader_expect_whole : Option Addr} {sl_Reader_expect_whole : Array (Option Value)}
    {oc_parse kV_parse dc_parse pm_parse cd_parse ct_parse : Value} {od_parse an_parse : Option Addr} {sl_parse : Array (Option Value)}
    {oc_read_line kV_read_line dc_read_line pm_read_line cd_read_line ct_read_line : Value} {od_read_line an_read_line : Option Addr} {sl_read_line : Array (Option Value)}
    {oc_read_unit kV_read_unit dc_read_unit pm_read_unit cd_read_unit ct_read_unit : Value} {od_read_unit an_read_unit : Option Addr} {sl_read_unit : Array (Option Value)}
    {oc_read_function kV_read_function dc_read_function pm_read_function cd_read_function ct_read_function : Value} {od_read_function an_read_function : Option Addr} {sl_read_function : Array (Option Value)}
    {oc_read_parameters kV_read_parameters dc_read_parameters pm_read_parameters cd_read_parameters ct_read_parameters : Value} {od_read_parameters an_read_parameters : Option Addr} {sl_read_parameters : Array (Option Value)}
    {oc_read_parameter kV_read_parameter dc_read_parameter pm_read_parameter cd_read_parameter ct_read_parameter : Value} {od_read_parameter an_read_parameter : Option Addr} {sl_read_parameter : Array (Option Value)}
    {oc_read_told kV_read_told dc_read_told pm_read_told cd_read_told ct_read_told : Value} {od_read_told an_read_told : Option Addr} {sl_read_told : Array (Option Value)}
    {oc_read_show kV_read_show dc_read_show pm_read_show cd_read_show ct_read_show : Value} {od_read_show an_read_show : Option Addr} {sl_read_show : Array (Option Value)}
    {oc_read_product kV_read_product dc_read_product pm_read_product cd_read_product ct_read_product : Value} {od_read_product an_read_product : Option Addr} {sl_read_product : Array (Option Value)}
    {oc_read_power kV_read_power dc_read_power pm_read_power cd_read_power ct_read_power : Value} {od_read_power an_read_power : Option Addr} {sl_read_power : Array (Option Value)}
    {oc_deeper kV_deeper dc_deeper pm_deeper cd_deeper ct_deeper : Value} {od_deeper an_deeper : Option Addr} {sl_deeper : Array (Option Value)}
    {oc_read_expression kV_read_expression dc_read_expression pm_read_expression cd_read_expression ct_read_expression : Value} {od_read_expression an_read_expression : Option Addr} {sl_read_expression : Array (Option Value)}
    {oc_read_if kV_read_if dc_read_if pm_read_if cd_read_if ct_read_if : Value} {od_read_if an_read_if : Option Addr} {sl_read_if : Array (Option Value)}
    {oc_read_let kV_read_let dc_read_let pm_read_let cd_read_let ct_read_let : Value} {od_read_let an_read_let : Option Addr} {sl_read_let : Array (Option Value)}
    {oc_read_chain kV_read_chain dc_read_chain pm_read_chain cd_read_chain ct_read_chain : Value} {od_read_chain an_read_chain : Option Addr} {sl_read_chain : Array (Option Value)}
    {oc_read_both kV_read_both dc_read_both pm_read_both cd_read_both ct_read_both : Value} {od_read_both an_read_both : Option Addr} {sl_read_both : Array (Option Value)}
    {oc_read_plain kV_read_plain dc_read_plain pm_read_plain cd_read_plain ct_read_plain : Value} {od_read_plain an_read_plain : Option Addr} {sl_read_plain : Array (Option Value)}
    {oc_read_terms kV_read_terms dc_read_terms pm_read_terms cd_read_terms ct_read_terms : Value} {od_read_terms an_read_terms : Option Addr} {sl_read_terms : Array (Option Value)}
    {oc_read_factors kV_read_factors dc_read_factors pm_read_factors cd_read_factors ct_read_factors : Value} {od_read_factors an_read_factors : Option Addr} {sl_read_factors : Array (Option Value)}
    {oc_read_powers kV_read_powers dc_read_powers pm_read_powers cd_read_powers ct_read_powers : Value} {od_read_powers an_read_powers : Option Addr} {sl_read_powers : Array (Option Value)}
    {oc_read_primary kV_read_primary dc_read_primary pm_read_primary cd_read_primary ct_read_primary : Value} {od_read_primary an_read_primary : Option Addr} {sl_read_primary : Array (Option Value)}
    {oc_read_number kV_read_number dc_read_number pm_read_number cd_read_number ct_read_number : Value} {od_read_number an_read_number : Option Addr} {sl_read_number : Array (Option Value)}
    {oc_read_iterate kV_read_iterate dc_read_iterate pm_read_iterate cd_read_iterate ct_read_iterate : Value} {od_read_iterate an_read_iterate : Option Addr} {sl_read_iterate : Array (Option Value)}
    {oc_read_arguments kV_read_arguments dc_read_arguments pm_read_arguments cd_read_arguments ct_read_arguments : Value} {od_read_arguments an_read_arguments : Option Addr} {sl_read_arguments : Array (Option Value)}
    {oc_law_cell kV_law_cell dc_law_cell pm_law_cell cd_law_cell ct_law_cell : Value} {od_law_cell an_law_cell : Option Addr} {sl_law_cell : Array (Option Value)}
    {oc_law_group kV_law_group dc_law_group pm_law_group cd_law_group ct_law_group : Value} {od_law_group an_law_group : Option Addr} {sl_law_group : Array (Option Value)}
    {oc_law_tree kV_law_tree dc_law_tree pm_law_tree cd_law_tree ct_law_tree : Value} {od_law_tree an_law_tree : Option Addr} {sl_law_tree : Array (Option Value)}
    {oc_law kV_law dc_law pm_law cd_law ct_law : Value} {od_law an_law : Option Addr} {sl_law : Array (Option Value)}
    {k_RESERVED_0 k_RESERVED_1 k_RESERVED_2 k_RESERVED_3 k_RESERVED_4 k_RESERVED_5 k_RESERVED_6 k_RESERVED_7 k_RESERVED_8 k_RESERVED_9 k_RESERVED_10 k_RESERVED_11 k_RESERVED_12 k_RESERVED_13 k_RESERVED_14 k_RESERVED_15 : Tok}
    {t_RESERVED : Addr} {td_RESERVED : Option Addr} {tn_RESERVED : Nat} {ts_RESERVED : Array (Option Value)}
    {k_LONGEST_TEXT : Tok}
    {k_LONGEST_NAME : Tok}
    {k_MOST_DIGITS : Tok}
    {k_SEPARATORS : Tok}
    {k_LETTERS : Tok}
    {k_DIGITS : Tok}
    {k_NAMING : Tok}
    {k_SIGNS_0 k_SIGNS_1 k_SIGNS_2 k_SIGNS_3 k_SIGNS_4 k_SIGNS_5 k_SIGNS_6 k_SIGNS_7 k_SIGNS_8 k_SIGNS_9 k_SIGNS_10 k_SIGNS_11 k_SIGNS_12 k_SIGNS_13 k_SIGNS_14 k_SIGNS_15 : Tok}
    {t_SIGNS : Addr} {td_SIGNS : Option Addr} {tn_SIGNS : Nat} {ts_SIGNS : Array (Option Value)}
    {k_BOTTOMS_0 k_BOTTOMS_1 k_BOTTOMS_2 k_BOTTOMS_3 k_BOTTOMS_4 : Tok}
    {t_BOTTOMS : Addr} {td_BOTTOMS : Option Addr} {tn_BOTTOMS : Nat} {ts_BOTTOMS : Array (Option Value)}
    {k_DEEPEST : Tok}
    {k_GREATEST_POWER : Tok}
    {k_GREATEST_COUNT : Tok}
    {k_COMPARISONS_0 k_COMPARISONS_1 k_COMPARISONS_2 : Tok}
    {t_COMPARISONS : Addr} {td_COMPARISONS : Option Addr} {tn_COMPARISONS : Nat} {ts_COMPARISONS : Array (Option Value)}
    {t_OPERATIONS : Addr} {te_OPERATIONS : Array DictEntry} {tn_OPERATIONS : Nat}
    {k_OPERATIONS_0 : Tok}
    {k_OPERATIONS_1 : Tok}
    {k_OPERATIONS_2 : Tok}
    {k_OPERATIONS_3 : Tok}
    {k_OPERATIONS_4 : Tok}
    {k_OPERATIONS_5 : Tok}
    {k_OPERATIONS_6 : Tok}
    {k_OPERATIONS_7 : Tok}
    {k_OPERATIONS_8 : Tok}
    {C_Malformed I_Malformed : Addr} {xn_Malformed xq_Malformed : Str} {xN_Malformed : Addr} {xb_Malformed : List Value} {xsn_Malformed : List Str} {xsu_Malformed : List Value} {xa_Malformed : Bool} {xc_Malformed : Option Bool} {xd_Malformed : Option Addr} {xk0_Malformed xk1_Malformed xk2_Malformed xk3_Malformed xk5_Malformed : Option Value}
    {R_Malformed_0 : Addr}
    {C_Oversized I_Oversized : Addr} {xn_Oversized xq_Oversized : Str} {xN_Oversized : Addr} {xb_Oversized : List Value} {xsn_Oversized : List Str} {xsu_Oversized : List Value} {xa_Oversized : Bool} {xc_Oversized : Option Bool} {xd_Oversized : Option Addr} {xk0_Oversized xk1_Oversized xk2_Oversized xk3_Oversized xk5_Oversized : Option Value}
    {R_Oversized_0 : Addr}
    {C_Reader : Addr}
    {f_Reader___init__ : Addr}
    {f_Reader_ended : Addr}
    {f_Reader_where : Addr}
    {f_Reader_sees : Addr}
    {f_Reader_sees_kind : Addr}
    {f_Reader_take : Addr}
    {f_Reader_accept : Addr}
    {f_Reader_expect : Addr}
    {f_Reader_expect_kind : Addr}
    {f_Reader_expect_whole : Addr}
    (atokens : PySem.W.nsIn K mainGlobals "tokens" = some (some (.ref f_tokens)))
    (ltokens : K.lookup f_tokens = some ⟨oc_tokens, od_tokens, .func (PySem.W.fnOf "tokens" "tokens" (defArgs s_tokens) (defBody s_tokens) (defScope s_tokens) .none kV_tokens dc_tokens pm_tokens an_tokens cd_tokens ct_tokens), sl_tokens⟩)
    (ctokens : PySem.W.codeIn K cd_tokens "tokens" = true)
    (ktokens : PySem.W.keepIn K (.ref f_tokens) = true)
    (atoken_start : PySem.W.nsIn K mainGlobals "token_start" = some (some (.ref f_token_start)))
    (ltoken_start : K.lookup f_token_start = some ⟨oc_token_start, od_token_start, .func (PySem.W.fnOf "token_start" "token_start" (defArgs s_token_start) (defBody s_token_start) (defScope s_token_start) .none kV_token_start dc_token_start pm_token_start an_token_start cd_token_start ct_token_start), sl_token_start⟩)
    (ctoken_start : PySem.W.codeIn K cd_token_start "token_start" = true)
    (ktoken_start : PySem.W.keepIn K (.ref f_token_start) = true)
    (acomment_end : PySem.W.nsIn K mainGlobals "comment_end" = some (some (.ref f_comment_end)))
    (lcomment_end : K.lookup f_comment_end = some ⟨oc_comment_end, od_comment_end, .func (PySem.W.fnOf "comment_end" "comment_end" (defArgs s_comment_end) (defBody s_comment_end) (defScope s_comment_end) .none kV_comment_end dc_comment_end pm_comment_end an_comment_end cd_comment_end ct_comment_end), sl_comment_end⟩)
    (ccomment_end : PySem.W.codeIn K cd_comment_end "comment_end" = true)
    (kcomment_end : PySem.W.keepIn K (.ref f_comment_end) = true)
    (atoken_at : PySem.W.nsIn K mainGlobals "token_at" = some (some (.ref f_token_at)))
    (ltoken_at : K.lookup f_token_at = some ⟨oc_token_at, od_token_at, .func (PySem.W.fnOf "token_at" "token_at" (defArgs s_token_at) (defBody s_token_at) (defScope s_token_at) .none kV_token_at dc_token_at pm_token_at an_token_at cd_token_at ct_token_at), sl_token_at⟩)
    (ctoken_at : PySem.W.codeIn K cd_token_at "token_at" = true)
    (ktoken_at : PySem.W.keepIn K (.ref f_token_at) = true)
    (aname_at : PySem.W.nsIn K mainGlobals "name_at" = some (some (.ref f_name_at)))
    (lname_at : K.lookup f_name_at = some ⟨oc_name_at, od_name_at, .func (PySem.W.fnOf "name_at" "name_at" (defArgs s_name_at) (defBody s_name_at) (defScope s_name_at) .none kV_name_at dc_name_at pm_name_at an_name_at cd_name_at ct_name_at), sl_name_at⟩)
    (cname_at : PySem.W.codeIn K cd_name_at "name_at" = true)
    (kname_at : PySem.W.keepIn K (.ref f_name_at) = true)
    (anumber_at : PySem.W.nsIn K mainGlobals "number_at" = some (some (.ref f_number_at)))
    (lnumber_at : K.lookup f_number_at = some ⟨oc_number_at, od_number_at, .func (PySem.W.fnOf "number_at" "number_at" (defArgs s_number_at) (defBody s_number_at) (defScope s_number_at) .none kV_number_at dc_number_at pm_number_at an_number_at cd_number_at ct_number_at), sl_number_at⟩)
    (cnumber_at : PySem.W.codeIn K cd_number_at "number_at" = true)
    (knumber_at : PySem.W.keepIn K (.ref f_number_at) = true)
    (adigits_behind : PySem.W.nsIn K mainGlobals "digits_behind" = some (some (.ref f_digits_behind)))
    (ldigits_behind : K.lookup f_digits_behind = some ⟨oc_digits_behind, od_digits_behind, .func (PySem.W.fnOf "digits_behind" "digits_behind" (defArgs s_digits_behind) (defBody s_digits_behind) (defScope s_digits_behind) .none kV_digits_behind dc_digits_behind pm_digits_behind an_digits_behind cd_digits_behind ct_digits_behind), sl_digits_behind⟩)
    (cdigits_behind : PySem.W.codeIn K cd_digits_behind "digits_behind" = true)
    (kdigits_behind : PySem.W.keepIn K (.ref f_digits_behind) = true)
    (arun_end : PySem.W.nsIn K mainGlobals "run_end" = some (some (.ref f_run_end)))
    (lrun_end : K.lookup f_run_end = some ⟨oc_run_end, od_run_end, .func (PySem.W.fnOf "run_end" "run_end" (defArgs s_run_end) (defBody s_run_end) (defScope s_run_end) .none kV_run_end dc_run_end pm_run_end an_run_end cd_run_end ct_run_end), sl_run_end⟩)
    (crun_end : PySem.W.codeIn K cd_run_end "run_end" = true)
    (krun_end : PySem.W.keepIn K (.ref f_run_end) = true)
    (aparse : PySem.W.nsIn K mainGlobals "parse" = some (some (.ref f_parse)))
    (lparse : K.lookup f_parse = some ⟨oc_parse, od_parse, .func (PySem.W.fnOf "parse" "parse" (defArgs s_parse) (defBody s_parse) (defScope s_parse) .none kV_parse dc_parse pm_parse an_parse cd_parse ct_parse), sl_parse⟩)
    (cparse : PySem.W.codeIn K cd_parse "parse" = true)
    (kparse : PySem.W.keepIn K (.ref f_parse) = true)
    (aread_line : PySem.W.nsIn K mainGlobals "read_line" = some (some (.ref f_read_line)))
    (lread_line : K.lookup f_read_line = some ⟨oc_read_line, od_read_line, .func (PySem.W.fnOf "read_line" "read_line" (defArgs s_read_line) (defBody s_read_line) (defScope s_read_line) .none kV_read_line dc_read_line pm_read_line an_read_line cd_read_line ct_read_line), sl_read_line⟩)
    (cread_line : PySem.W.codeIn K cd_read_line "read_line" = true)
    (kread_line : PySem.W.keepIn K (.ref f_read_line) = true)
    (aread_unit : PySem.W.nsIn K mainGlobals "read_unit" = some (some (.ref f_read_unit)))
    (lread_unit : K.lookup f_read_unit = some ⟨oc_read_unit, od_read_unit, .func (PySem.W.fnOf "read_unit" "read_unit" (defArgs s_read_unit) (defBody s_read_unit) (defScope s_read_unit) .none kV_read_unit dc_read_unit pm_read_unit an_read_unit cd_read_unit ct_read_unit), sl_read_unit⟩)
    (cread_unit : PySem.W.codeIn K cd_read_unit "read_unit" = true)
    (kread_unit : PySem.W.keepIn K (.ref f_read_unit) = true)
    (aread_function : PySem.W.nsIn K mainGlobals "read_function" = some (some (.ref f_read_function)))
    (lread_function : K.lookup f_read_function = some ⟨oc_read_function, od_read_function, .func (PySem.W.fnOf "read_function" "read_function" (defArgs s_read_function) (defBody s_read_function) (defScope s_read_function) .none kV_read_function dc_read_function pm_read_function an_read_function cd_read_function ct_read_function), sl_read_function⟩)
    (cread_function : PySem.W.codeIn K cd_read_function "read_function" = true)
    (kread_function : PySem.W.keepIn K (.ref f_read_function) = true)
    (aread_parameters : PySem.W.nsIn K mainGlobals "read_parameters" = some (some (.ref f_read_parameters)))
    (lread_parameters : K.lookup f_read_parameters = some ⟨oc_read_parameters, od_read_parameters, .func (PySem.W.fnOf "read_parameters" "read_parameters" (defArgs s_read_parameters) (defBody s_read_parameters) (defScope s_read_parameters) .none kV_read_parameters dc_read_parameters pm_read_parameters an_read_parameters cd_read_parameters ct_read_parameters), sl_read_parameters⟩)
    (cread_parameters : PySem.W.codeIn K cd_read_parameters "read_parameters" = true)
    (kread_parameters : PySem.W.keepIn K (.ref f_read_parameters) = true)
    (aread_parameter : PySem.W.nsIn K mainGlobals "read_parameter" = some (some (.ref f_read_parameter)))
    (lread_parameter : K.lookup f_read_parameter = some ⟨oc_read_parameter, od_read_parameter, .func (PySem.W.fnOf "read_parameter" "read_parameter" (defArgs s_read_parameter) (defBody s_read_parameter) (defScope s_read_parameter) .none kV_read_parameter dc_read_parameter pm_read_parameter an_read_parameter cd_read_parameter ct_read_parameter), sl_read_parameter⟩)
    (cread_parameter : PySem.W.codeIn K cd_read_parameter "read_parameter" = true)
    (kread_parameter : PySem.W.keepIn K (.ref f_read_parameter) = true)
    (aread_told : PySem.W.nsIn K mainGlobals "read_told" = some (some (.ref f_read_told)))
    (lread_told : K.lookup f_read_told = some ⟨oc_read_told, od_read_told, .func (PySem.W.fnOf "read_told" "read_told" (defArgs s_read_told) (defBody s_read_told) (defScope s_read_told) .none kV_read_told dc_read_told pm_read_told an_read_told cd_read_told ct_read_told), sl_read_told⟩)
    (cread_told : PySem.W.codeIn K cd_read_told "read_told" = true)
    (kread_told : PySem.W.keepIn K (.ref f_read_told) = true)
    (aread_show : PySem.W.nsIn K mainGlobals "read_show" = some (some (.ref f_read_show)))
    (lread_show : K.lookup f_read_show = some ⟨oc_read_show, od_read_show, .func (PySem.W.fnOf "read_show" "read_show" (defArgs s_read_show) (defBody s_read_show) (defScope s_read_show) .none kV_read_show dc_read_show pm_read_show an_read_show cd_read_show ct_read_show), sl_read_show⟩)
    (cread_show : PySem.W.codeIn K cd_read_show "read_show" = true)
    (kread_show : PySem.W.keepIn K (.ref f_read_show) = true)
    (aread_product : PySem.W.nsIn K mainGlobals "read_product" = some (some (.ref f_read_product)))
    (lread_product : K.lookup f_read_product = some ⟨oc_read_product, od_read_product, .func (PySem.W.fnOf "read_product" "read_product" (defArgs s_read_product) (defBody s_read_product) (defScope s_read_product) .none kV_read_product dc_read_product pm_read_product an_read_product cd_read_product ct_read_product), sl_read_product⟩)
    (cread_product : PySem.W.codeIn K cd_read_product "read_product" = true)
    (kread_product : PySem.W.keepIn K (.ref f_read_product) = true)
    (aread_power : PySem.W.nsIn K mainGlobals "read_power" = some (some (.ref f_read_power)))
    (lread_power : K.lookup f_read_power = some ⟨oc_read_power, od_read_power, .func (PySem.W.fnOf "read_power" "read_power" (defArgs s_read_power) (defBody s_read_power) (defScope s_read_power) .none kV_read_power dc_read_power pm_read_power an_read_power cd_read_power ct_read_power), sl_read_power⟩)
    (cread_power : PySem.W.codeIn K cd_read_power "read_power" = true)
    (kread_power : PySem.W.keepIn K (.ref f_read_power) = true)
    (adeeper : PySem.W.nsIn K mainGlobals "deeper" = some (some (.ref f_deeper)))
    (ldeeper : K.lookup f_deeper = some ⟨oc_deeper, od_deeper, .func (PySem.W.fnOf "deeper" "deeper" (defArgs s_deeper) (defBody s_deeper) (defScope s_deeper) .none kV_deeper dc_deeper pm_deeper an_deeper cd_deeper ct_deeper), sl_deeper⟩)
    (cdeeper : PySem.W.codeIn K cd_deeper "deeper" = true)
    (kdeeper : PySem.W.keepIn K (.ref f_deeper) = true)
    (aread_expression : PySem.W.nsIn K mainGlobals "read_expression" = some (some (.ref f_read_expression)))
    (lread_expression : K.lookup f_read_expression = some ⟨oc_read_expression, od_read_expression, .func (PySem.W.fnOf "read_expression" "read_expression" (defArgs s_read_expression) (defBody s_read_expression) (defScope s_read_expression) .none kV_read_expression dc_read_expression pm_read_expression an_read_expression cd_read_expression ct_read_expression), sl_read_expression⟩)
    (cread_expression : PySem.W.codeIn K cd_read_expression "read_expression" = true)
    (kread_expression : PySem.W.keepIn K (.ref f_read_expression) = true)
    (aread_if : PySem.W.nsIn K mainGlobals "read_if" = some (some (.ref f_read_if)))
    (lread_if : K.lookup f_read_if = some ⟨oc_read_if, od_read_if, .func (PySem.W.fnOf "read_if" "read_if" (defArgs s_read_if) (defBody s_read_if) (defScope s_read_if) .none kV_read_if dc_read_if pm_read_if an_read_if cd_read_if ct_read_if), sl_read_if⟩)
    (cread_if : PySem.W.codeIn K cd_read_if "read_if" = true)
    (kread_if : PySem.W.keepIn K (.ref f_read_if) = true)
    (aread_let : PySem.W.nsIn K mainGlobals "read_let" = some (some (.ref f_read_let)))
    (lread_let : K.lookup f_read_let = some ⟨oc_read_let, od_read_let, .func (PySem.W.fnOf "read_let" "read_let" (defArgs s_read_let) (defBody s_read_let) (defScope s_read_let) .none kV_read_let dc_read_let pm_read_let an_read_let cd_read_let ct_read_let), sl_read_let⟩)
    (cread_let : PySem.W.codeIn K cd_read_let "read_let" = true)
    (kread_let : PySem.W.keepIn K (.ref f_read_let) = true)
    (aread_chain : PySem.W.nsIn K mainGlobals "read_chain" = some (some (.ref f_read_chain)))
    (lread_chain : K.lookup f_read_chain = some ⟨oc_read_chain, od_read_chain, .func (PySem.W.fnOf "read_chain" "read_chain" (defArgs s_read_chain) (defBody s_read_chain) (defScope s_read_chain) .none kV_read_chain dc_read_chain pm_read_chain an_read_chain cd_read_chain ct_read_chain), sl_read_chain⟩)
    (cread_chain : PySem.W.codeIn K cd_read_chain "read_chain" = true)
    (kread_chain : PySem.W.keepIn K (.ref f_read_chain) = true)
    (aread_both : PySem.W.nsIn K mainGlobals "read_both" = some (some (.ref f_read_both)))
    (lread_both : K.lookup f_read_both = some ⟨oc_read_both, od_read_both, .func (PySem.W.fnOf "read_both" "read_both" (defArgs s_read_both) (defBody s_read_both) (defScope s_read_both) .none kV_read_both dc_read_both pm_read_both an_read_both cd_read_both ct_read_both), sl_read_both⟩)
    (cread_both : PySem.W.codeIn K cd_read_both "read_both" = true)
    (kread_both : PySem.W.keepIn K (.ref f_read_both) = true)
    (aread_plain : PySem.W.nsIn K mainGlobals "read_plain" = some (some (.ref f_read_plain)))
    (lread_plain : K.lookup f_read_plain = some ⟨oc_read_plain, od_read_plain, .func (PySem.W.fnOf "read_plain" "read_plain" (defArgs s_read_plain) (defBody s_read_plain) (defScope s_read_plain) .none kV_read_plain dc_read_plain pm_read_plain an_read_plain cd_read_plain ct_read_plain), sl_read_plain⟩)
    (cread_plain : PySem.W.codeIn K cd_read_plain "read_plain" = true)
    (kread_plain : PySem.W.keepIn K (.ref f_read_plain) = true)
    (aread_terms : PySem.W.nsIn K mainGlobals "read_terms" = some (some (.ref f_read_terms)))
    (lread_terms : K.lookup f_read_terms = some ⟨oc_read_terms, od_read_terms, .func (PySem.W.fnOf "read_terms" "read_terms" (defArgs s_read_terms) (defBody s_read_terms) (defScope s_read_terms) .none kV_read_terms dc_read_terms pm_read_terms an_read_terms cd_read_terms ct_read_terms), sl_read_terms⟩)
    (cread_terms : PySem.W.codeIn K cd_read_terms "read_terms" = true)
    (kread_terms : PySem.W.keepIn K (.ref f_read_terms) = true)
    (aread_factors : PySem.W.nsIn K mainGlobals "read_factors" = some (some (.ref f_read_factors)))
    (lread_factors : K.lookup f_read_factors = some ⟨oc_read_factors, od_read_factors, .func (PySem.W.fnOf "read_factors" "read_factors" (defArgs s_read_factors) (defBody s_read_factors) (defScope s_read_factors) .none kV_read_factors dc_read_factors pm_read_factors an_read_factors cd_read_factors ct_read_factors), sl_read_factors⟩)
    (cread_factors : PySem.W.codeIn K cd_read_factors "read_factors" = true)
    (kread_factors : PySem.W.keepIn K (.ref f_read_factors) = true)
    (aread_powers : PySem.W.nsIn K mainGlobals "read_powers" = some (some (.ref f_read_powers)))
    (lread_powers : K.lookup f_read_powers = some ⟨oc_read_powers, od_read_powers, .func (PySem.W.fnOf "read_powers" "read_powers" (defArgs s_read_powers) (defBody s_read_powers) (defScope s_read_powers) .none kV_read_powers dc_read_powers pm_read_powers an_read_powers cd_read_powers ct_read_powers), sl_read_powers⟩)
    (cread_powers : PySem.W.codeIn K cd_read_powers "read_powers" = true)
    (kread_powers : PySem.W.keepIn K (.ref f_read_powers) = true)
    (aread_primary : PySem.W.nsIn K mainGlobals "read_primary" = some (some (.ref f_read_primary)))
    (lread_primary : K.lookup f_read_primary = some ⟨oc_read_primary, od_read_primary, .func (PySem.W.fnOf "read_primary" "read_primary" (defArgs s_read_primary) (defBody s_read_primary) (defScope s_read_primary) .none kV_read_primary dc_read_primary pm_read_primary an_read_primary cd_read_primary ct_read_primary), sl_read_primary⟩)
    (cread_primary : PySem.W.codeIn K cd_read_primary "read_primary" = true)
    (kread_primary : PySem.W.keepIn K (.ref f_read_primary) = true)
    (aread_number : PySem.W.nsIn K mainGlobals "read_number" = some (some (.ref f_read_number)))
    (lread_number : K.lookup f_read_number = some ⟨oc_read_number, od_read_number, .func (PySem.W.fnOf "read_number" "read_number" (defArgs s_read_number) (defBody s_read_number) (defScope s_read_number) .none kV_read_number dc_read_number pm_read_number an_read_number cd_read_number ct_read_number), sl_read_number⟩)
    (cread_number : PySem.W.codeIn K cd_read_number "read_number" = true)
    (kread_number : PySem.W.keepIn K (.ref f_read_number) = true)
    (aread_iterate : PySem.W.nsIn K mainGlobals "read_iterate" = some (some (.ref f_read_iterate)))
    (lread_iterate : K.lookup f_read_iterate = some ⟨oc_read_iterate, od_read_iterate, .func (PySem.W.fnOf "read_iterate" "read_iterate" (defArgs s_read_iterate) (defBody s_read_iterate) (defScope s_read_iterate) .none kV_read_iterate dc_read_iterate pm_read_iterate an_read_iterate cd_read_iterate ct_read_iterate), sl_read_iterate⟩)
    (cread_iterate : PySem.W.codeIn K cd_read_iterate "read_iterate" = true)
    (kread_iterate : PySem.W.keepIn K (.ref f_read_iterate) = true)
    (aread_arguments : PySem.W.nsIn K mainGlobals "read_arguments" = some (some (.ref f_read_arguments)))
    (lread_arguments : K.lookup f_read_arguments = some ⟨oc_read_arguments, od_read_arguments, .func (PySem.W.fnOf "read_arguments" "read_arguments" (defArgs s_read_arguments) (defBody s_read_arguments) (defScope s_read_arguments) .none kV_read_arguments dc_read_arguments pm_read_arguments an_read_arguments cd_read_arguments ct_read_arguments), sl_read_arguments⟩)
    (cread_arguments : PySem.W.codeIn K cd_read_arguments "read_arguments" = true)
    (kread_arguments : PySem.W.keepIn K (.ref f_read_arguments) = true)
    (alaw_cell : PySem.W.nsIn K mainGlobals "_law_cell" = some (some (.ref f_law_cell)))
    (llaw_cell : K.lookup f_law_cell = some ⟨oc_law_cell, od_law_cell, .func (PySem.W.fnOf "_law_cell" "_law_cell" (defArgs s_law_cell) (defBody s_law_cell) (defScope s_law_cell) .none kV_law_cell dc_law_cell pm_law_cell an_law_cell cd_law_cell ct_law_cell), sl_law_cell⟩)
    (claw_cell : PySem.W.codeIn K cd_law_cell "_law_cell" = true)
    (klaw_cell : PySem.W.keepIn K (.ref f_law_cell) = true)
    (alaw_group : PySem.W.nsIn K mainGlobals "_law_group" = some (some (.ref f_law_group)))
    (llaw_group : K.lookup f_law_group = some ⟨oc_law_group, od_law_group, .func (PySem.W.fnOf "_law_group" "_law_group" (defArgs s_law_group) (defBody s_law_group) (defScope s_law_group) .none kV_law_group dc_law_group pm_law_group an_law_group cd_law_group ct_law_group), sl_law_group⟩)
    (claw_group : PySem.W.codeIn K cd_law_group "_law_group" = true)
    (klaw_group : PySem.W.keepIn K (.ref f_law_group) = true)
    (alaw_tree : PySem.W.nsIn K mainGlobals "_law_tree" = some (some (.ref f_law_tree)))
    (llaw_tree : K.lookup f_law_tree = some ⟨oc_law_tree, od_law_tree, .func (PySem.W.fnOf "_law_tree" "_law_tree" (defArgs s_law_tree) (defBody s_law_tree) (defScope s_law_tree) .none kV_law_tree dc_law_tree pm_law_tree an_law_tree cd_law_tree ct_law_tree), sl_law_tree⟩)
    (claw_tree : PySem.W.codeIn K cd_law_tree "_law_tree" = true)
    (klaw_tree : PySem.W.keepIn K (.ref f_law_tree) = true)
    (alaw : PySem.W.nsIn K mainGlobals "law" = some (some (.ref f_law)))
    (llaw : K.lookup f_law = some ⟨oc_law, od_law, .func (PySem.W.fnOf "law" "law" (defArgs s_law) (defBody s_law) (defScope s_law) .none kV_law dc_law pm_law an_law cd_law ct_law), sl_law⟩)
    (claw : PySem.W.codeIn K cd_law "law" = true)
    (klaw : PySem.W.keepIn K (.ref f_law) = true)
    (zabs : PySem.W.nsIn K mainGlobals "abs" = some none)
    (zint : PySem.W.nsIn K mainGlobals "int" = some none)
    (zlen : PySem.W.nsIn K mainGlobals "len" = some none)
    (zmin : PySem.W.nsIn K mainGlobals "min" = some none)
    (zrange : PySem.W.nsIn K mainGlobals "range" = some none)
    (zrepr : PySem.W.nsIn K mainGlobals "repr" = some none)
    (zstr : PySem.W.nsIn K mainGlobals "str" = some none)
    (ztuple : PySem.W.nsIn K mainGlobals "tuple" = some none)
    (gRESERVED : PySem.W.nsIn K mainGlobals "RESERVED" = some (some (.ref t_RESERVED)))
    (lRESERVED : K.lookup t_RESERVED = some ⟨.type "tuple", td_RESERVED, .seq #[.str "and" k_RESERVED_0, .str "base" k_RESERVED_1, .str "else" k_RESERVED_2, .str "false" k_RESERVED_3, .str "from" k_RESERVED_4, .str "fun" k_RESERVED_5, .str "if" k_RESERVED_6, .str "in" k_RESERVED_7, .str "iterate" k_RESERVED_8, .str "let" k_RESERVED_9, .str "not" k_RESERVED_10, .str "or" k_RESERVED_11, .str "show" k_RESERVED_12, .str "then" k_RESERVED_13, .str "true" k_RESERVED_14, .str "unit" k_RESERVED_15] tn_RESERVED, ts_RESERVED⟩)
    (gLONGEST_TEXT : PySem.W.nsIn K mainGlobals "LONGEST_TEXT" = some (some (.int 12000 k_LONGEST_TEXT)))
    (gLONGEST_NAME : PySem.W.nsIn K mainGlobals "LONGEST_NAME" = some (some (.int 16 k_LONGEST_NAME)))
    (gMOST_DIGITS : PySem.W.nsIn K mainGlobals "MOST_DIGITS" = some (some (.int 6 k_MOST_DIGITS)))
    (gSEPARATORS : PySem.W.nsIn K mainGlobals "SEPARATORS" = some (some (.str " \t\n" k_SEPARATORS)))
    (gLETTERS : PySem.W.nsIn K mainGlobals "LETTERS" = some (some (.str "abcdefghijklmnopqrstuvwxyzABCDEFGHIJKLMNOPQRSTUVWXYZ" k_LETTERS)))
    (gDIGITS : PySem.W.nsIn K mainGlobals "DIGITS" = some (some (.str "0123456789" k_DIGITS)))
    (gNAMING : PySem.W.nsIn K mainGlobals "NAMING" = some (some (.str "abcdefghijklmnopqrstuvwxyzABCDEFGHIJKLMNOPQRSTUVWXYZ0123456789_" k_NAMING)))
    (gSIGNS : PySem.W.nsIn K mainGlobals "SIGNS" = some (some (.ref t_SIGNS)))
    (lSIGNS : K.lookup t_SIGNS = some ⟨.type "tuple", td_SIGNS, .seq #[.str "<=" k_SIGNS_0, .str "==" k_SIGNS_1, .str "=" k_SIGNS_2, .str "<" k_SIGNS_3, .str "+" k_SIGNS_4, .str "-" k_SIGNS_5, .str "*" k_SIGNS_6, .str "/" k_SIGNS_7, .str "^" k_SIGNS_8, .str "," k_SIGNS_9, .str ";" k_SIGNS_10, .str ":" k_SIGNS_11, .str "(" k_SIGNS_12, .str ")" k_SIGNS_13, .str "[" k_SIGNS_14, .str "]" k_SIGNS_15] tn_SIGNS, ts_SIGNS⟩)
    (gBOTTOMS : PySem.W.nsIn K mainGlobals "BOTTOMS" = some (some (.ref t_BOTTOMS)))
    (lBOTTOMS : K.lookup t_BOTTOMS = some ⟨.type "tuple", td_BOTTOMS, .seq #[.int 1 k_BOTTOMS_0, .int 10 k_BOTTOMS_1, .int 100 k_BOTTOMS_2, .int 1000 k_BOTTOMS_3, .int 10000 k_BOTTOMS_4] tn_BOTTOMS, ts_BOTTOMS⟩)
    (gDEEPEST : PySem.W.nsIn K mainGlobals "DEEPEST" = some (some (.int 24 k_DEEPEST)))
    (gGREATEST_POWER : PySem.W.nsIn K mainGlobals "GREATEST_POWER" = some (some (.int 9 k_GREATEST_POWER)))
    (gGREATEST_COUNT : PySem.W.nsIn K mainGlobals "GREATEST_COUNT" = some (some (.int 20 k_GREATEST_COUNT)))
    (gCOMPARISONS : PySem.W.nsIn K mainGlobals "COMPARISONS" = some (some (.ref t_COMPARISONS)))
    (lCOMPARISONS : K.lookup t_COMPARISONS = some ⟨.type "tuple", td_COMPARISONS, .seq #[.str "<" k_COMPARISONS_0, .str "<=" k_COMPARISONS_1, .str "==" k_COMPARISONS_2] tn_COMPARISONS, ts_COMPARISONS⟩)
    (gOPERATIONS : PySem.W.nsIn K mainGlobals "OPERATIONS" = some (some (.ref t_OPERATIONS)))
    (lOPERATIONS : K.lookup t_OPERATIONS = some ⟨.type "dict", none, .dict te_OPERATIONS tn_OPERATIONS, #[]⟩)
    (kOPERATIONS : PySem.W.KeysLit w.params te_OPERATIONS.toList)
    (iOPERATIONS_0 : PySem.W.nsIn K t_OPERATIONS "or" = some (some (.str "or" k_OPERATIONS_0)))
    (iOPERATIONS_1 : PySem.W.nsIn K t_OPERATIONS "and" = some (some (.str "and" k_OPERATIONS_1)))
    (iOPERATIONS_2 : PySem.W.nsIn K t_OPERATIONS "<" = some (some (.str "lt" k_OPERATIONS_2)))
    (iOPERATIONS_3 : PySem.W.nsIn K t_OPERATIONS "<=" = some (some (.str "le" k_OPERATIONS_3)))
    (iOPERATIONS_4 : PySem.W.nsIn K t_OPERATIONS "==" = some (some (.str "eq" k_OPERATIONS_4)))
    (iOPERATIONS_5 : PySem.W.nsIn K t_OPERATIONS "+" = some (some (.str "add" k_OPERATIONS_5)))
    (iOPERATIONS_6 : PySem.W.nsIn K t_OPERATIONS "-" = some (some (.str "sub" k_OPERATIONS_6)))
    (iOPERATIONS_7 : PySem.W.nsIn K t_OPERATIONS "*" = some (some (.str "mul" k_OPERATIONS_7)))
    (iOPERATIONS_8 : PySem.W.nsIn K t_OPERATIONS "/" = some (some (.str "div" k_OPERATIONS_8)))
    (gMalformed : PySem.W.nsIn K mainGlobals "Malformed" = some (some (.ref C_Malformed)))
    (xMalformed : K.lookup C_Malformed = some (excClassObj xn_Malformed xq_Malformed C_Malformed xN_Malformed xb_Malformed [.ref R_Malformed_0, .type "ValueError", .type "Exception", .type "BaseException", .type "object"] true xsn_Malformed xsu_Malformed xa_Malformed xc_Malformed xd_Malformed xk0_Malformed xk1_Malformed xk2_Malformed xk3_Malformed xk5_Malformed "ValueError.__new__"))
    (saMalformed : PySem.W.findIn K (.ref C_Malformed) "__setattr__" = some (some (.builtin "object.__setattr__")))
    (gaMalformed : PySem.W.findIn K (.ref C_Malformed) "__getattribute__" = some (some (.builtin "BaseException.__getattribute__")))
    (ggMalformed : PySem.W.findIn K (.ref C_Malformed) "__getattr__" = some none)
    (noMalformed : PySem.W.findIn K (.ref C_Malformed) "at" = some none)
    (inMalformed : PySem.W.findIn K (.ref C_Malformed) "__init__" = some (some (.ref I_Malformed)))
    (tiMalformed : PySem.W.typeIn K (.ref I_Malformed) = some (.type "function"))
    (kcMalformed : PySem.W.keepIn K (.ref C_Malformed) = true)
    (exMalformed : PySem.W.subIn K (.ref C_Malformed) (.type "BaseException") = some true)
    (tyMalformed : PySem.W.typeIn K (.ref C_Malformed) = some (.type "type"))
    (hdMalformed : PySem.W.hasDictIn K C_Malformed = true)
    (icMalformed : PySem.W.isClsIn K C_Malformed = true)
    (suMalformed : PySem.W.subIn K (.ref C_Malformed) (.ref C_Malformed) = some true)
    (liMalformed : K.lookup I_Malformed = some ⟨oc_Malformed___init__, od_Malformed___init__, .func (PySem.W.fnOf "__init__" "Malformed.__init__" (defArgs s_Malformed___init__) (defBody s_Malformed___init__) (defScope s_Malformed___init__) .none kV_Malformed___init__ dc_Malformed___init__ pm_Malformed___init__ an_Malformed___init__ cd_Malformed___init__ ct_Malformed___init__), sl_Malformed___init__⟩)
    (ciMalformed : PySem.W.codeIn K cd_Malformed___init__ "Malformed.__init__" = true)
    (kiMalformed : PySem.W.keepIn K (.ref I_Malformed) = true)
    (gOversized : PySem.W.nsIn K mainGlobals "Oversized" = some (some (.ref C_Oversized)))
    (xOversized : K.lookup C_Oversized = some (excClassObj xn_Oversized xq_Oversized C_Oversized xN_Oversized xb_Oversized [.ref R_Oversized_0, .type "ValueError", .type "Exception", .type "BaseException", .type "object"] true xsn_Oversized xsu_Oversized xa_Oversized xc_Oversized xd_Oversized xk0_Oversized xk1_Oversized xk2_Oversized xk3_Oversized xk5_Oversized "ValueError.__new__"))
    (saOversized : PySem.W.findIn K (.ref C_Oversized) "__setattr__" = some (some (.builtin "object.__setattr__")))
    (gaOversized : PySem.W.findIn K (.ref C_Oversized) "__getattribute__" = some (some (.builtin "BaseException.__getattribute__")))
    (ggOversized : PySem.W.findIn K (.ref C_Oversized) "__getattr__" = some none)
    (noOversized : PySem.W.findIn K (.ref C_Oversized) "limit" = some none)
    (inOversized : PySem.W.findIn K (.ref C_Oversized) "__init__" = some (some (.ref I_Oversized)))
    (tiOversized : PySem.W.typeIn K (.ref I_Oversized) = some (.type "function"))
    (kcOversized : PySem.W.keepIn K (.ref C_Oversized) = true)
    (exOversized : PySem.W.subIn K (.ref C_Oversized) (.type "BaseException") = some true)
    (tyOversized : PySem.W.typeIn K (.ref C_Oversized) = some (.type "type"))
    (hdOversized : PySem.W.hasDictIn K C_Oversized = true)
    (icOversized : PySem.W.isClsIn K C_Oversized = true)
    (suOversized : PySem.W.subIn K (.ref C_Oversized) (.ref C_Oversized) = some true)
    (liOversized : K.lookup I_Oversized = some ⟨oc_Oversized___init__, od_Oversized___init__, .func (PySem.W.fnOf "__init__" "Oversized.__init__" (defArgs s_Oversized___init__) (defBody s_Oversized___init__) (defScope s_Oversized___init__) .none kV_Oversized___init__ dc_Oversized___init__ pm_Oversized___init__ an_Oversized___init__ cd_Oversized___init__ ct_Oversized___init__), sl_Oversized___init__⟩)
    (ciOversized : PySem.W.codeIn K cd_Oversized___init__ "Oversized.__init__" = true)
    (kiOversized : PySem.W.keepIn K (.ref I_Oversized) = true)
    (gReader : PySem.W.nsIn K mainGlobals "Reader" = some (some (.ref C_Reader)))
    (pgReader : PySem.W.plainGet K C_Reader Str.empty = true)
    (hdReader : PySem.W.hasDictIn K C_Reader = true)
    (poReader : PySem.W.plainOver K C_Reader = true)
    (saReader : PySem.W.findIn K (.ref C_Reader) "__setattr__" = some (some (.builtin "object.__setattr__")))
    (mkReader : PySem.W.makesIn K C_Reader = true)
    (kcReader : PySem.W.keepIn K (.ref C_Reader) = true)
    (aReader___init__ : PySem.W.findIn K (.ref C_Reader) "__init__" = some (some (.ref f_Reader___init__)))
    (iReader___init__ : PySem.W.isFn K (.ref f_Reader___init__) = true)
    (lReader___init__ : K.lookup f_Reader___init__ = some ⟨oc_Reader___init__, od_Reader___init__, .func (PySem.W.fnOf "__init__" "Reader.__init__" (defArgs s_Reader___init__) (defBody s_Reader___init__) (defScope s_Reader___init__) .none kV_Reader___init__ dc_Reader___init__ pm_Reader___init__ an_Reader___init__ cd_Reader___init__ ct_Reader___init__), sl_Reader___init__⟩)
    (cReader___init__ : PySem.W.codeIn K cd_Reader___init__ "Reader.__init__" = true)
    (kReader___init__ : PySem.W.keepIn K (.ref f_Reader___init__) = true)
    (aReader_ended : PySem.W.findIn K (.ref C_Reader) "ended" = some (some (.ref f_Reader_ended)))
    (iReader_ended : PySem.W.isFn K (.ref f_Reader_ended) = true)
    (lReader_ended : K.lookup f_Reader_ended = some ⟨oc_Reader_ended, od_Reader_ended, .func (PySem.W.fnOf "ended" "Reader.ended" (defArgs s_Reader_ended) (defBody s_Reader_ended) (defScope s_Reader_ended) .none kV_Reader_ended dc_Reader_ended pm_Reader_ended an_Reader_ended cd_Reader_ended ct_Reader_ended), sl_Reader_ended⟩)
    (cReader_ended : PySem.W.codeIn K cd_Reader_ended "Reader.ended" = true)
    (kReader_ended : PySem.W.keepIn K (.ref f_Reader_ended) = true)
    (aReader_where : PySem.W.findIn K (.ref C_Reader) "where" = some (some (.ref f_Reader_where)))
    (iReader_where : PySem.W.isFn K (.ref f_Reader_where) = true)
    (lReader_where : K.lookup f_Reader_where = some ⟨oc_Reader_where, od_Reader_where, .func (PySem.W.fnOf "where" "Reader.where" (defArgs s_Reader_where) (defBody s_Reader_where) (defScope s_Reader_where) .none kV_Reader_where dc_Reader_where pm_Reader_where an_Reader_where cd_Reader_where ct_Reader_where), sl_Reader_where⟩)
    (cReader_where : PySem.W.codeIn K cd_Reader_where "Reader.where" = true)
    (kReader_where : PySem.W.keepIn K (.ref f_Reader_where) = true)
    (aReader_sees : PySem.W.findIn K (.ref C_Reader) "sees" = some (some (.ref f_Reader_sees)))
    (iReader_sees : PySem.W.isFn K (.ref f_Reader_sees) = true)
    (lReader_sees : K.lookup f_Reader_sees = some ⟨oc_Reader_sees, od_Reader_sees, .func (PySem.W.fnOf "sees" "Reader.sees" (defArgs s_Reader_sees) (defBody s_Reader_sees) (defScope s_Reader_sees) .none kV_Reader_sees dc_Reader_sees pm_Reader_sees an_Reader_sees cd_Reader_sees ct_Reader_sees), sl_Reader_sees⟩)
    (cReader_sees : PySem.W.codeIn K cd_Reader_sees "Reader.sees" = true)
    (kReader_sees : PySem.W.keepIn K (.ref f_Reader_sees) = true)
    (aReader_sees_kind : PySem.W.findIn K (.ref C_Reader) "sees_kind" = some (some (.ref f_Reader_sees_kind)))
    (iReader_sees_kind : PySem.W.isFn K (.ref f_Reader_sees_kind) = true)
    (lReader_sees_kind : K.lookup f_Reader_sees_kind = some ⟨oc_Reader_sees_kind, od_Reader_sees_kind, .func (PySem.W.fnOf "sees_kind" "Reader.sees_kind" (defArgs s_Reader_sees_kind) (defBody s_Reader_sees_kind) (defScope s_Reader_sees_kind) .none kV_Reader_sees_kind dc_Reader_sees_kind pm_Reader_sees_kind an_Reader_sees_kind cd_Reader_sees_kind ct_Reader_sees_kind), sl_Reader_sees_kind⟩)
    (cReader_sees_kind : PySem.W.codeIn K cd_Reader_sees_kind "Reader.sees_kind" = true)
    (kReader_sees_kind : PySem.W.keepIn K (.ref f_Reader_sees_kind) = true)
    (aReader_take : PySem.W.findIn K (.ref C_Reader) "take" = some (some (.ref f_Reader_take)))
    (iReader_take : PySem.W.isFn K (.ref f_Reader_take) = true)
    (lReader_take : K.lookup f_Reader_take = some ⟨oc_Reader_take, od_Reader_take, .func (PySem.W.fnOf "take" "Reader.take" (defArgs s_Reader_take) (defBody s_Reader_take) (defScope s_Reader_take) .none kV_Reader_take dc_Reader_take pm_Reader_take an_Reader_take cd_Reader_take ct_Reader_take), sl_Reader_take⟩)
    (cReader_take : PySem.W.codeIn K cd_Reader_take "Reader.take" = true)
    (kReader_take : PySem.W.keepIn K (.ref f_Reader_take) = true)
    (aReader_accept : PySem.W.findIn K (.ref C_Reader) "accept" = some (some (.ref f_Reader_accept)))
    (iReader_accept : PySem.W.isFn K (.ref f_Reader_accept) = true)
    (lReader_accept : K.lookup f_Reader_accept = some ⟨oc_Reader_accept, od_Reader_accept, .func (PySem.W.fnOf "accept" "Reader.accept" (defArgs s_Reader_accept) (defBody s_Reader_accept) (defScope s_Reader_accept) .none kV_Reader_accept dc_Reader_accept pm_Reader_accept an_Reader_accept cd_Reader_accept ct_Reader_accept), sl_Reader_accept⟩)
    (cReader_accept : PySem.W.codeIn K cd_Reader_accept "Reader.accept" = true)
    (kReader_accept : PySem.W.keepIn K (.ref f_Reader_accept) = true)
    (aReader_expect : PySem.W.findIn K (.ref C_Reader) "expect" = some (some (.ref f_Reader_expect)))
    (iReader_expect : PySem.W.isFn K (.ref f_Reader_expect) = true)
    (lReader_expect : K.lookup f_Reader_expect = some ⟨oc_Reader_expect, od_Reader_expect, .func (PySem.W.fnOf "expect" "Reader.expect" (defArgs s_Reader_expect) (defBody s_Reader_expect) (defScope s_Reader_expect) .none kV_Reader_expect dc_Reader_expect pm_Reader_expect an_Reader_expect cd_Reader_expect ct_Reader_expect), sl_Reader_expect⟩)
    (cReader_expect : PySem.W.codeIn K cd_Reader_expect "Reader.expect" = true)
    (kReader_expect : PySem.W.keepIn K (.ref f_Reader_expect) = true)
    (aReader_expect_kind : PySem.W.findIn K (.ref C_Reader) "expect_kind" = some (some (.ref f_Reader_expect_kind)))
    (iReader_expect_kind : PySem.W.isFn K (.ref f_Reader_expect_kind) = true)
    (lReader_expect_kind : K.lookup f_Reader_expect_kind = some ⟨oc_Reader_expect_kind, od_Reader_expect_kind, .func (PySem.W.fnOf "expect_kind" "Reader.expect_kind" (defArgs s_Reader_expect_kind) (defBody s_Reader_expect_kind) (defScope s_Reader_expect_kind) .none kV_Reader_expect_kind dc_Reader_expect_kind pm_Reader_expect_kind an_Reader_expect_kind cd_Reader_expect_kind ct_Reader_expect_kind), sl_Reader_expect_kind⟩)
    (cReader_expect_kind : PySem.W.codeIn K cd_Reader_expect_kind "Reader.expect_kind" = true)
    (kReader_expect_kind : PySem.W.keepIn K (.ref f_Reader_expect_kind) = true)
    (aReader_expect_whole : PySem.W.findIn K (.ref C_Reader) "expect_whole" = some (some (.ref f_Reader_expect_whole)))
    (iReader_expect_whole : PySem.W.isFn K (.ref f_Reader_expect_whole) = true)
    (lReader_expect_whole : K.lookup f_Reader_expect_whole = some ⟨oc_Reader_expect_whole, od_Reader_expect_whole, .func (PySem.W.fnOf "expect_whole" "Reader.expect_whole" (defArgs s_Reader_expect_whole) (defBody s_Reader_expect_whole) (defScope s_Reader_expect_whole) .none kV_Reader_expect_whole dc_Reader_expect_whole pm_Reader_expect_whole an_Reader_expect_whole cd_Reader_expect_whole ct_Reader_expect_whole), sl_Reader_expect_whole⟩)
    (cReader_expect_whole : PySem.W.codeIn K cd_Reader_expect_whole "Reader.expect_whole" = true)
    (kReader_expect_whole : PySem.W.keepIn K (.ref f_Reader_expect_whole) = true)
    (nfReader_found : PySem.W.findIn K (.ref C_Reader) "found" = some none)
    (nfReader_length : PySem.W.findIn K (.ref C_Reader) "length" = some none)
    (nfReader_taken : PySem.W.findIn K (.ref C_Reader) "taken" = some none)
    : Top w K mg where
  a_tokens := f_tokens
  fd_tokens := _
  F_tokens := fun_mk (st := s_tokens) ltokens ctokens ktokens
  m_tokens := PySem.W.mg_of X G atokens
  a_token_start := f_token_start
  fd_token_start := _
  F_token_start := fun_mk (st := s_token_start) ltoken_start ctoken_start ktoken_start
  m_token_start := PySem.W.mg_of X G atoken_start
  a_comment_end := f_comment_end
  fd_comment_end := _
  F_comment_end := fun_mk (st := s_comment_end) lcomment_end ccomment_end kcomment_end
  m_comment_end := PySem.W.mg_of X G acomment_end
  a_token_at := f_token_at
  fd_token_at := _
  F_token_at := fun_mk (st := s_token_at) ltoken_at ctoken_at ktoken_at
  m_token_at := PySem.W.mg_of X G atoken_at
  a_name_at := f_name_at
  fd_name_at := _
  F_name_at := fun_mk (st := s_name_at) lname_at cname_at kname_at
  m_name_at := PySem.W.mg_of X G aname_at
  a_number_at := f_number_at
  fd_number_at := _
  F_number_at := fun_mk (st := s_number_at) lnumber_at cnumber_at knumber_at
  m_number_at := PySem.W.mg_of X G anumber_at
  a_digits_behind := f_digits_behind
  fd_digits_behind := _
  F_digits_behind := fun_mk (st := s_digits_behind) ldigits_behind cdigits_behind kdigits_behind
  m_digits_behind := PySem.W.mg_of X G adigits_behind
  a_run_end := f_run_end
  fd_run_end := _
  F_run_end := fun_mk (st := s_run_end) lrun_end crun_end krun_end
  m_run_end := PySem.W.mg_of X G arun_end
  a_parse := f_parse
  fd_parse := _
  F_parse := fun_mk (st := s_parse) lparse cparse kparse
  m_parse := PySem.W.mg_of X G aparse
  a_read_line := f_read_line
  fd_read_line := _
  F_read_line := fun_mk (st := s_read_line) lread_line cread_line kread_line
  m_read_line := PySem.W.mg_of X G aread_line
  a_read_unit := f_read_unit
  fd_read_unit := _
  F_read_unit := fun_mk (st := s_read_unit) lread_unit cread_unit kread_unit
  m_read_unit := PySem.W.mg_of X G aread_unit
  a_read_function := f_read_function
  fd_read_function := _
  F_read_function := fun_mk (st := s_read_function) lread_function cread_function kread_function
  m_read_function := PySem.W.mg_of X G aread_function
  a_read_parameters := f_read_parameters
  fd_read_parameters := _
  F_read_parameters := fun_mk (st := s_read_parameters) lread_parameters cread_parameters kread_parameters
  m_read_parameters := PySem.W.mg_of X G aread_parameters
  a_read_parameter := f_read_parameter
  fd_read_parameter := _
  F_read_parameter := fun_mk (st := s_read_parameter) lread_parameter cread_parameter kread_parameter
  m_read_parameter := PySem.W.mg_of X G aread_parameter
  a_read_told := f_read_told
  fd_read_told := _
  F_read_told := fun_mk (st := s_read_told) lread_told cread_told kread_told
  m_read_told := PySem.W.mg_of X G aread_told
  a_read_show := f_read_show
  fd_read_show := _
  F_read_show := fun_mk (st := s_read_show) lread_show cread_show kread_show
  m_read_show := PySem.W.mg_of X G aread_show
  a_read_product := f_read_product
  fd_read_product := _
  F_read_product := fun_mk (st := s_read_product) lread_product cread_product kread_product
  m_read_product := PySem.W.mg_of X G aread_product
  a_read_power := f_read_power
  fd_read_power := _
  F_read_power := fun_mk (st := s_read_power) lread_power cread_power kread_power
  m_read_power := PySem.W.mg_of X G aread_power
  a_deeper := f_deeper
  fd_deeper := _
  F_deeper := fun_mk (st := s_deeper) ldeeper cdeeper kdeeper
  m_deeper := PySem.W.mg_of X G adeeper
  a_read_expression := f_read_expression
  fd_read_expression := _
  F_read_expression := fun_mk (st := s_read_expression) lread_expression cread_expression kread_expression
  m_read_expression := PySem.W.mg_of X G aread_expression
  a_read_if := f_read_if
  fd_read_if := _
  F_read_if := fun_mk (st := s_read_if) lread_if cread_if kread_if
  m_read_if := PySem.W.mg_of X G aread_if
  a_read_let := f_read_let
  fd_read_let := _
  F_read_let := fun_mk (st := s_read_let) lread_let cread_let kread_let
  m_read_let := PySem.W.mg_of X G aread_let
  a_read_chain := f_read_chain
  fd_read_chain := _
  F_read_chain := fun_mk (st := s_read_chain) lread_chain cread_chain kread_chain
  m_read_chain := PySem.W.mg_of X G aread_chain
  a_read_both := f_read_both
  fd_read_both := _
  F_read_both := fun_mk (st := s_read_both) lread_both cread_both kread_both
  m_read_both := PySem.W.mg_of X G aread_both
  a_read_plain := f_read_plain
  fd_read_plain := _
  F_read_plain := fun_mk (st := s_read_plain) lread_plain cread_plain kread_plain
  m_read_plain := PySem.W.mg_of X G aread_plain
  a_read_terms := f_read_terms
  fd_read_terms := _
  F_read_terms := fun_mk (st := s_read_terms) lread_terms cread_terms kread_terms
  m_read_terms := PySem.W.mg_of X G aread_terms
  a_read_factors := f_read_factors
  fd_read_factors := _
  F_read_factors := fun_mk (st := s_read_factors) lread_factors cread_factors kread_factors
  m_read_factors := PySem.W.mg_of X G aread_factors
  a_read_powers := f_read_powers
  fd_read_powers := _
  F_read_powers := fun_mk (st := s_read_powers) lread_powers cread_powers kread_powers
  m_read_powers := PySem.W.mg_of X G aread_powers
  a_read_primary := f_read_primary
  fd_read_primary := _
  F_read_primary := fun_mk (st := s_read_primary) lread_primary cread_primary kread_primary
  m_read_primary := PySem.W.mg_of X G aread_primary
  a_read_number := f_read_number
  fd_read_number := _
  F_read_number := fun_mk (st := s_read_number) lread_number cread_number kread_number
  m_read_number := PySem.W.mg_of X G aread_number
  a_read_iterate := f_read_iterate
  fd_read_iterate := _
  F_read_iterate := fun_mk (st := s_read_iterate) lread_iterate cread_iterate kread_iterate
  m_read_iterate := PySem.W.mg_of X G aread_iterate
  a_read_arguments := f_read_arguments
  fd_read_arguments := _
  F_read_arguments := fun_mk (st := s_read_arguments) lread_arguments cread_arguments kread_arguments
  m_read_arguments := PySem.W.mg_of X G aread_arguments
  a_law_cell := f_law_cell
  fd_law_cell := _
  F_law_cell := fun_mk (st := s_law_cell) llaw_cell claw_cell klaw_cell
  m_law_cell := PySem.W.mg_of X G alaw_cell
  a_law_group := f_law_group
  fd_law_group := _
  F_law_group := fun_mk (st := s_law_group) llaw_group claw_group klaw_group
  m_law_group := PySem.W.mg_of X G alaw_group
  a_law_tree := f_law_tree
  fd_law_tree := _
  F_law_tree := fun_mk (st := s_law_tree) llaw_tree claw_tree klaw_tree
  m_law_tree := PySem.W.mg_of X G alaw_tree
  a_law := f_law
  fd_law := _
  F_law := fun_mk (st := s_law) llaw claw klaw
  m_law := PySem.W.mg_of X G alaw
  n_abs := PySem.W.mg_none_of X G zabs
  n_int := PySem.W.mg_none_of X G zint
  n_len := PySem.W.mg_none_of X G zlen
  n_min := PySem.W.mg_none_of X G zmin
  n_range := PySem.W.mg_none_of X G zrange
  n_repr := PySem.W.mg_none_of X G zrepr
  n_str := PySem.W.mg_none_of X G zstr
  n_tuple := PySem.W.mg_none_of X G ztuple
  a_RESERVED := t_RESERVED
  c_RESERVED := PySem.W.mg_of X G gRESERVED
  s_RESERVED := fun H => .inr ⟨_, _, _, lRESERVED, rfl, rfl, by rw [sizeLine_eq]; exact Nat.le_of_ble_eq_true rfl, .cons ⟨_, rfl⟩ (.cons ⟨_, rfl⟩ (.cons ⟨_, rfl⟩ (.cons ⟨_, rfl⟩ (.cons ⟨_, rfl⟩ (.cons ⟨_, rfl⟩ (.cons ⟨_, rfl⟩ (.cons ⟨_, rfl⟩ (.cons ⟨_, rfl⟩ (.cons ⟨_, rfl⟩ (.cons ⟨_, rfl⟩ (.cons ⟨_, rfl⟩ (.cons ⟨_, rfl⟩ (.cons ⟨_, rfl⟩ (.cons ⟨_, rfl⟩ (.cons ⟨_, rfl⟩ (.nil))))))))))))))))⟩
  u_LONGEST_TEXT := _
  c_LONGEST_TEXT := PySem.W.mg_of X G gLONGEST_TEXT
  r_LONGEST_TEXT := ⟨_, rfl⟩
  u_LONGEST_NAME := _
  c_LONGEST_NAME := PySem.W.mg_of X G gLONGEST_NAME
  r_LONGEST_NAME := ⟨_, rfl⟩
  u_MOST_DIGITS := _
  c_MOST_DIGITS := PySem.W.mg_of X G gMOST_DIGITS
  r_MOST_DIGITS := ⟨_, rfl⟩
  u_SEPARATORS := _
  c_SEPARATORS := PySem.W.mg_of X G gSEPARATORS
  r_SEPARATORS := ⟨_, rfl⟩
  u_LETTERS := _
  c_LETTERS := PySem.W.mg_of X G gLETTERS
  r_LETTERS := ⟨_, rfl⟩
  u_DIGITS := _
  c_DIGITS := PySem.W.mg_of X G gDIGITS
  r_DIGITS := ⟨_, rfl⟩
  u_NAMING := _
  c_NAMING := PySem.W.mg_of X G gNAMING
  r_NAMING := ⟨_, rfl⟩
  a_SIGNS := t_SIGNS
  c_SIGNS := PySem.W.mg_of X G gSIGNS
  s_SIGNS := fun H => .inr ⟨_, _, _, lSIGNS, rfl, rfl, by rw [sizeLine_eq]; exact Nat.le_of_ble_eq_true rfl, .cons ⟨_, rfl⟩ (.cons ⟨_, rfl⟩ (.cons ⟨_, rfl⟩ (.cons ⟨_, rfl⟩ (.cons ⟨_, rfl⟩ (.cons ⟨_, rfl⟩ (.cons ⟨_, rfl⟩ (.cons ⟨_, rfl⟩ (.cons ⟨_, rfl⟩ (.cons ⟨_, rfl⟩ (.cons ⟨_, rfl⟩ (.cons ⟨_, rfl⟩ (.cons ⟨_, rfl⟩ (.cons ⟨_, rfl⟩ (.cons ⟨_, rfl⟩ (.cons ⟨_, rfl⟩ (.nil))))))))))))))))⟩
  a_BOTTOMS := t_BOTTOMS
  c_BOTTOMS := PySem.W.mg_of X G gBOTTOMS
  s_BOTTOMS := fun H => .inr ⟨_, _, _, lBOTTOMS, rfl, rfl, by rw [sizeLine_eq]; exact Nat.le_of_ble_eq_true rfl, .cons ⟨_, rfl⟩ (.cons ⟨_, rfl⟩ (.cons ⟨_, rfl⟩ (.cons ⟨_, rfl⟩ (.cons ⟨_, rfl⟩ (.nil)))))⟩
  u_DEEPEST := _
  c_DEEPEST := PySem.W.mg_of X G gDEEPEST
  r_DEEPEST := ⟨_, rfl⟩
  u_GREATEST_POWER := _
  c_GREATEST_POWER := PySem.W.mg_of X G gGREATEST_POWER
  r_GREATEST_POWER := ⟨_, rfl⟩
  u_GREATEST_COUNT := _
  c_GREATEST_COUNT := PySem.W.mg_of X G gGREATEST_COUNT
  r_GREATEST_COUNT := ⟨_, rfl⟩
  a_COMPARISONS := t_COMPARISONS
  c_COMPARISONS := PySem.W.mg_of X G gCOMPARISONS
  s_COMPARISONS := fun H => .inr ⟨_, _, _, lCOMPARISONS, rfl, rfl, by rw [sizeLine_eq]; exact Nat.le_of_ble_eq_true rfl, .cons ⟨_, rfl⟩ (.cons ⟨_, rfl⟩ (.cons ⟨_, rfl⟩ (.nil)))⟩
  a_OPERATIONS := t_OPERATIONS
  c_OPERATIONS := PySem.W.mg_of X G gOPERATIONS
  d_OPERATIONS_0 := ⟨_, _, _, lOPERATIONS, kOPERATIONS, iOPERATIONS_0, ⟨_, rfl⟩⟩
  d_OPERATIONS_1 := ⟨_, _, _, lOPERATIONS, kOPERATIONS, iOPERATIONS_1, ⟨_, rfl⟩⟩
  d_OPERATIONS_2 := ⟨_, _, _, lOPERATIONS, kOPERATIONS, iOPERATIONS_2, ⟨_, rfl⟩⟩
  d_OPERATIONS_3 := ⟨_, _, _, lOPERATIONS, kOPERATIONS, iOPERATIONS_3, ⟨_, rfl⟩⟩
  d_OPERATIONS_4 := ⟨_, _, _, lOPERATIONS, kOPERATIONS, iOPERATIONS_4, ⟨_, rfl⟩⟩
  d_OPERATIONS_5 := ⟨_, _, _, lOPERATIONS, kOPERATIONS, iOPERATIONS_5, ⟨_, rfl⟩⟩
  d_OPERATIONS_6 := ⟨_, _, _, lOPERATIONS, kOPERATIONS, iOPERATIONS_6, ⟨_, rfl⟩⟩
  d_OPERATIONS_7 := ⟨_, _, _, lOPERATIONS, kOPERATIONS, iOPERATIONS_7, ⟨_, rfl⟩⟩
  d_OPERATIONS_8 := ⟨_, _, _, lOPERATIONS, kOPERATIONS, iOPERATIONS_8, ⟨_, rfl⟩⟩
  a_Malformed := C_Malformed
  i_Malformed := I_Malformed
  fd_Malformed___init__ := _
  F_Malformed___init__ := fun_mk (st := s_Malformed___init__) liMalformed ciMalformed kiMalformed
  x_Malformed := xcls_mk (PySem.W.mg_of X G gMalformed) xMalformed rfl saMalformed gaMalformed ggMalformed noMalformed inMalformed tiMalformed kcMalformed exMalformed tyMalformed hdMalformed icMalformed suMalformed
  a_Oversized := C_Oversized
  i_Oversized := I_Oversized
  fd_Oversized___init__ := _
  F_Oversized___init__ := fun_mk (st := s_Oversized___init__) liOversized ciOversized kiOversized
  x_Oversized := xcls_mk (PySem.W.mg_of X G gOversized) xOversized rfl saOversized gaOversized ggOversized noOversized inOversized tiOversized kcOversized exOversized tyOversized hdOversized icOversized suOversized
  a_Reader := C_Reader
  m_Reader := PySem.W.mg_of X G gReader
  cl_Reader := ⟨pgReader, hdReader, poReader, saReader⟩
  a_Reader___init__ := f_Reader___init__
  fd_Reader___init__ := _
  F_Reader___init__ := fun_mk (st := s_Reader___init__) lReader___init__ cReader___init__ kReader___init__
  mk_Reader := ⟨mkReader, aReader___init__, iReader___init__, kcReader⟩
  a_Reader_ended := f_Reader_ended
  fd_Reader_ended := _
  F_Reader_ended := fun_mk (st := s_Reader_ended) lReader_ended cReader_ended kReader_ended
  M_Reader_ended := ⟨aReader_ended, iReader_ended, kReader_ended⟩
  a_Reader_where := f_Reader_where
  fd_Reader_where := _
  F_Reader_where := fun_mk (st := s_Reader_where) lReader_where cReader_where kReader_where
  M_Reader_where := ⟨aReader_where, iReader_where, kReader_where⟩
  a_Reader_sees := f_Reader_sees
  fd_Reader_sees := _
  F_Reader_sees := fun_mk (st := s_Reader_sees) lReader_sees cReader_sees kReader_sees
  M_Reader_sees := ⟨aReader_sees, iReader_sees, kReader_sees⟩
  a_Reader_sees_kind := f_Reader_sees_kind
  fd_Reader_sees_kind := _
  F_Reader_sees_kind := fun_mk (st := s_Reader_sees_kind) lReader_sees_kind cReader_sees_kind kReader_sees_kind
  M_Reader_sees_kind := ⟨aReader_sees_kind, iReader_sees_kind, kReader_sees_kind⟩
  a_Reader_take := f_Reader_take
  fd_Reader_take := _
  F_Reader_take := fun_mk (st := s_Reader_take) lReader_take cReader_take kReader_take
  M_Reader_take := ⟨aReader_take, iReader_take, kReader_take⟩
  a_Reader_accept := f_Reader_accept
  fd_Reader_accept := _
  F_Reader_accept := fun_mk (st := s_Reader_accept) lReader_accept cReader_accept kReader_accept
  M_Reader_accept := ⟨aReader_accept, iReader_accept, kReader_accept⟩
  a_Reader_expect := f_Reader_expect
  fd_Reader_expect := _
  F_Reader_expect := fun_mk (st := s_Reader_expect) lReader_expect cReader_expect kReader_expect
  M_Reader_expect := ⟨aReader_expect, iReader_expect, kReader_expect⟩
  a_Reader_expect_kind := f_Reader_expect_kind
  fd_Reader_expect_kind := _
  F_Reader_expect_kind := fun_mk (st := s_Reader_expect_kind) lReader_expect_kind cReader_expect_kind kReader_expect_kind
  M_Reader_expect_kind := ⟨aReader_expect_kind, iReader_expect_kind, kReader_expect_kind⟩
  a_Reader_expect_whole := f_Reader_expect_whole
  fd_Reader_expect_whole := _
  F_Reader_expect_whole := fun_mk (st := s_Reader_expect_whole) lReader_expect_whole cReader_expect_whole kReader_expect_whole
  M_Reader_expect_whole := ⟨aReader_expect_whole, iReader_expect_whole, kReader_expect_whole⟩
  nF_Reader_found := nfReader_found
  nF_Reader_length := nfReader_length
  nF_Reader_taken := nfReader_taken
theorem Top.b_Malformed_init {w : World} {K : PySem.W.Frag} {mg : Str → Option Value} (T : Top w K mg) : Binds K T.fd_Malformed___init__ ["self", "at"] [] := T.F_Malformed___init__.binds fun _ _ _ _ _ _ us hl => match us, hl with | [_, _], _ => rfl
theorem Top.b_Oversized_init {w : World} {K : PySem.W.Frag} {mg : Str → Option Value} (T : Top w K mg) : Binds K T.fd_Oversized___init__ ["self", "limit"] [] := T.F_Oversized___init__.binds fun _ _ _ _ _ _ us hl => match us, hl with | [_, _], _ => rfl
theorem Top.b_tokens {w : World} {K : PySem.W.Frag} {mg : Str → Option Value} (T : Top w K mg) : Binds K T.fd_tokens ["text"] [] := T.F_tokens.binds fun _ _ _ _ _ _ us hl => match us, hl with | [_], _ => rfl
theorem Top.b_token_start {w : World} {K : PySem.W.Frag} {mg : Str → Option Value} (T : Top w K mg) : Binds K T.fd_token_start ["text", "at"] [] := T.F_token_start.binds fun _ _ _ _ _ _ us hl => match us, hl with | [_, _], _ => rfl
theorem Top.b_comment_end {w : World} {K : PySem.W.Frag} {mg : Str → Option Value} (T : Top w K mg) : Binds K T.fd_comment_end ["text", "at"] [] := T.F_comment_end.binds fun _ _ _ _ _ _ us hl => match us, hl with | [_, _], _ => rfl
theorem Top.b_token_at {w : World} {K : PySem.W.Frag} {mg : Str → Option Value} (T : Top w K mg) : Binds K T.fd_token_at ["text", "at"] [] := T.F_token_at.binds fun _ _ _ _ _ _ us hl => match us, hl with | [_, _], _ => rfl
theorem Top.b_name_at {w : World} {K : PySem.W.Frag} {mg : Str → Option Value} (T : Top w K mg) : Binds K T.fd_name_at ["text", "at"] [] := T.F_name_at.binds fun _ _ _ _ _ _ us hl => match us, hl with | [_, _], _ => rfl
theorem Top.b_number_at {w : World} {K : PySem.W.Frag} {mg : Str → Option Value} (T : Top w K mg) : Binds K T.fd_number_at ["text", "at"] [] := T.F_number_at.binds fun _ _ _ _ _ _ us hl => match us, hl with | [_, _], _ => rfl
theorem Top.b_digits_behind {w : World} {K : PySem.W.Frag} {mg : Str → Option Value} (T : Top w K mg) : Binds K T.fd_digits_behind ["text", "point"] [] := T.F_digits_behind.binds fun _ _ _ _ _ _ us hl => match us, hl with | [_, _], _ => rfl
theorem Top.b_run_end {w : World} {K : PySem.W.Frag} {mg : Str → Option Value} (T : Top w K mg) : Binds K T.fd_run_end ["text", "at", "characters"] [] := T.F_run_end.binds fun _ _ _ _ _ _ us hl => match us, hl with | [_, _, _], _ => rfl
theorem Top.b_Reader___init__ {w : World} {K : PySem.W.Frag} {mg : Str → Option Value} (T : Top w K mg) : Binds K T.fd_Reader___init__ ["self", "found", "length"] [] := T.F_Reader___init__.binds fun _ _ _ _ _ _ us hl => match us, hl with | [_, _, _], _ => rfl
theorem Top.b_Reader_ended {w : World} {K : PySem.W.Frag} {mg : Str → Option Value} (T : Top w K mg) : Binds K T.fd_Reader_ended ["self"] [] := T.F_Reader_ended.binds fun _ _ _ _ _ _ us hl => match us, hl with | [_], _ => rfl
theorem Top.b_Reader_where {w : World} {K : PySem.W.Frag} {mg : Str → Option Value} (T : Top w K mg) : Binds K T.fd_Reader_where ["self"] [] := T.F_Reader_where.binds fun _ _ _ _ _ _ us hl => match us, hl with | [_], _ => rfl
theorem Top.b_Reader_sees {w : World} {K : PySem.W.Frag} {mg : Str → Option Value} (T : Top w K mg) : Binds K T.fd_Reader_sees ["self", "values"] [] := T.F_Reader_sees.binds fun _ _ _ _ _ _ us hl => match us, hl with | [_, _], _ => rfl
theorem Top.b_Reader_sees_kind {w : World} {K : PySem.W.Frag} {mg : Str → Option Value} (T : Top w K mg) : Binds K T.fd_Reader_sees_kind ["self", "kind"] [] := T.F_Reader_sees_kind.binds fun _ _ _ _ _ _ us hl => match us, hl with | [_, _], _ => rfl
theorem Top.b_Reader_take {w : World} {K : PySem.W.Frag} {mg : Str → Option Value} (T : Top w K mg) : Binds K T.fd_Reader_take ["self"] [] := T.F_Reader_take.binds fun _ _ _ _ _ _ us hl => match us, hl with | [_], _ => rfl
theorem Top.b_Reader_accept {w : World} {K : PySem.W.Frag} {mg : Str → Option Value} (T : Top w K mg) : Binds K T.fd_Reader_accept ["self", "value"] [] := T.F_Reader_accept.binds fun _ _ _ _ _ _ us hl => match us, hl with | [_, _], _ => rfl
theorem Top.b_Reader_expect {w : World} {K : PySem.W.Frag} {mg : Str → Option Value} (T : Top w K mg) : Binds K T.fd_Reader_expect ["self", "value"] [] := T.F_Reader_expect.binds fun _ _ _ _ _ _ us hl => match us, hl with | [_, _], _ => rfl
theorem Top.b_Reader_expect_kind {w : World} {K : PySem.W.Frag} {mg : Str → Option Value} (T : Top w K mg) : Binds K T.fd_Reader_expect_kind ["self", "kind"] [] := T.F_Reader_expect_kind.binds fun _ _ _ _ _ _ us hl => match us, hl with | [_, _], _ => rfl
theorem Top.b_Reader_expect_whole {w : World} {K : PySem.W.Frag} {mg : Str → Option Value} (T : Top w K mg) : Binds K T.fd_Reader_expect_whole ["self", "greatest"] [] := T.F_Reader_expect_whole.binds fun _ _ _ _ _ _ us hl => match us, hl with | [_, _], _ => rfl
theorem Top.b_parse {w : World} {K : PySem.W.Frag} {mg : Str → Option Value} (T : Top w K mg) : Binds K T.fd_parse ["text"] [] := T.F_parse.binds fun _ _ _ _ _ _ us hl => match us, hl with | [_], _ => rfl
theorem Top.b_read_line {w : World} {K : PySem.W.Frag} {mg : Str → Option Value} (T : Top w K mg) : Binds K T.fd_read_line ["reader"] [] := T.F_read_line.binds fun _ _ _ _ _ _ us hl => match us, hl with | [_], _ => rfl
theorem Top.b_read_unit {w : World} {K : PySem.W.Frag} {mg : Str → Option Value} (T : Top w K mg) : Binds K T.fd_read_unit ["reader", "at"] [] := T.F_read_unit.binds fun _ _ _ _ _ _ us hl => match us, hl with | [_, _], _ => rfl
theorem Top.b_read_function {w : World} {K : PySem.W.Frag} {mg : Str → Option Value} (T : Top w K mg) : Binds K T.fd_read_function ["reader", "at"] [] := T.F_read_function.binds fun _ _ _ _ _ _ us hl => match us, hl with | [_, _], _ => rfl
theorem Top.b_read_parameters {w : World} {K : PySem.W.Frag} {mg : Str → Option Value} (T : Top w K mg) : Binds K T.fd_read_parameters ["reader"] [] := T.F_read_parameters.binds fun _ _ _ _ _ _ us hl => match us, hl with | [_], _ => rfl
theorem Top.b_read_parameter {w : World} {K : PySem.W.Frag} {mg : Str → Option Value} (T : Top w K mg) : Binds K T.fd_read_parameter ["reader"] [] := T.F_read_parameter.binds fun _ _ _ _ _ _ us hl => match us, hl with | [_], _ => rfl
theorem Top.b_read_told {w : World} {K : PySem.W.Frag} {mg : Str → Option Value} (T : Top w K mg) : Binds K T.fd_read_told ["reader"] [] := T.F_read_told.binds fun _ _ _ _ _ _ us hl => match us, hl with | [_], _ => rfl
theorem Top.b_read_show {w : World} {K : PySem.W.Frag} {mg : Str → Option Value} (T : Top w K mg) : Binds K T.fd_read_show ["reader", "at"] [] := T.F_read_show.binds fun _ _ _ _ _ _ us hl => match us, hl with | [_, _], _ => rfl
theorem Top.b_read_product {w : World} {K : PySem.W.Frag} {mg : Str → Option Value} (T : Top w K mg) : Binds K T.fd_read_product ["reader"] [] := T.F_read_product.binds fun _ _ _ _ _ _ us hl => match us, hl with | [_], _ => rfl
theorem Top.b_read_power {w : World} {K : PySem.W.Frag} {mg : Str → Option Value} (T : Top w K mg) : Binds K T.fd_read_power ["reader"] [] := T.F_read_power.binds fun _ _ _ _ _ _ us hl => match us, hl with | [_], _ => rfl
theorem Top.b_deeper {w : World} {K : PySem.W.Frag} {mg : Str → Option Value} (T : Top w K mg) : Binds K T.fd_deeper ["level"] [] := T.F_deeper.binds fun _ _ _ _ _ _ us hl => match us, hl with | [_], _ => rfl
theorem Top.b_read_expression {w : World} {K : PySem.W.Frag} {mg : Str → Option Value} (T : Top w K mg) : Binds K T.fd_read_expression ["reader", "level"] [] := T.F_read_expression.binds fun _ _ _ _ _ _ us hl => match us, hl with | [_, _], _ => rfl
theorem Top.b_read_if {w : World} {K : PySem.W.Frag} {mg : Str → Option Value} (T : Top w K mg) : Binds K T.fd_read_if ["reader", "level", "at"] [] := T.F_read_if.binds fun _ _ _ _ _ _ us hl => match us, hl with | [_, _, _], _ => rfl
theorem Top.b_read_let {w : World} {K : PySem.W.Frag} {mg : Str → Option Value} (T : Top w K mg) : Binds K T.fd_read_let ["reader", "level", "at"] [] := T.F_read_let.binds fun _ _ _ _ _ _ us hl => match us, hl with | [_, _, _], _ => rfl
theorem Top.b_read_chain {w : World} {K : PySem.W.Frag} {mg : Str → Option Value} (T : Top w K mg) : Binds K T.fd_read_chain ["reader", "level", "operators", "read_part"] [] := T.F_read_chain.binds fun _ _ _ _ _ _ us hl => match us, hl with | [_, _, _, _], _ => rfl
theorem Top.b_read_both {w : World} {K : PySem.W.Frag} {mg : Str → Option Value} (T : Top w K mg) : Binds K T.fd_read_both ["reader", "level"] [] := T.F_read_both.binds fun _ _ _ _ _ _ us hl => match us, hl with | [_, _], _ => rfl
theorem Top.b_read_plain {w : World} {K : PySem.W.Frag} {mg : Str → Option Value} (T : Top w K mg) : Binds K T.fd_read_plain ["reader", "level"] [] := T.F_read_plain.binds fun _ _ _ _ _ _ us hl => match us, hl with | [_, _], _ => rfl
theorem Top.b_read_terms {w : World} {K : PySem.W.Frag} {mg : Str → Option Value} (T : Top w K mg) : Binds K T.fd_read_terms ["reader", "level"] [] := T.F_read_terms.binds fun _ _ _ _ _ _ us hl => match us, hl with | [_, _], _ => rfl
theorem Top.b_read_factors {w : World} {K : PySem.W.Frag} {mg : Str → Option Value} (T : Top w K mg) : Binds K T.fd_read_factors ["reader", "level"] [] := T.F_read_factors.binds fun _ _ _ _ _ _ us hl => match us, hl with | [_, _], _ => rfl
theorem Top.b_read_powers {w : World} {K : PySem.W.Frag} {mg : Str → Option Value} (T : Top w K mg) : Binds K T.fd_read_powers ["reader", "level"] [] := T.F_read_powers.binds fun _ _ _ _ _ _ us hl => match us, hl with | [_, _], _ => rfl
theorem Top.b_read_primary {w : World} {K : PySem.W.Frag} {mg : Str → Option Value} (T : Top w K mg) : Binds K T.fd_read_primary ["reader", "level"] [] := T.F_read_primary.binds fun _ _ _ _ _ _ us hl => match us, hl with | [_, _], _ => rfl
theorem Top.b_read_number {w : World} {K : PySem.W.Frag} {mg : Str → Option Value} (T : Top w K mg) : Binds K T.fd_read_number ["reader", "at"] [] := T.F_read_number.binds fun _ _ _ _ _ _ us hl => match us, hl with | [_, _], _ => rfl
theorem Top.b_read_iterate {w : World} {K : PySem.W.Frag} {mg : Str → Option Value} (T : Top w K mg) : Binds K T.fd_read_iterate ["reader", "level", "at"] [] := T.F_read_iterate.binds fun _ _ _ _ _ _ us hl => match us, hl with | [_, _, _], _ => rfl
theorem Top.b_read_arguments {w : World} {K : PySem.W.Frag} {mg : Str → Option Value} (T : Top w K mg) : Binds K T.fd_read_arguments ["reader", "level"] [] := T.F_read_arguments.binds fun _ _ _ _ _ _ us hl => match us, hl with | [_, _], _ => rfl
theorem Top.b_law_cell {w : World} {K : PySem.W.Frag} {mg : Str → Option Value} (T : Top w K mg) : Binds K T.fd_law_cell ["script", "k"] [] := T.F_law_cell.binds fun _ _ _ _ _ _ us hl => match us, hl with | [_, _], _ => rfl
theorem Top.b_law_group {w : World} {K : PySem.W.Frag} {mg : Str → Option Value} (T : Top w K mg) : Binds K T.fd_law_group ["parts", "signs", "wanted"] [] := T.F_law_group.binds fun _ _ _ _ _ _ us hl => match us, hl with | [_, _, _], _ => rfl
theorem Top.b_law_tree {w : World} {K : PySem.W.Frag} {mg : Str → Option Value} (T : Top w K mg) : Binds K T.fd_law_tree ["parts", "signs", "level"] [] := T.F_law_tree.binds fun _ _ _ _ _ _ us hl => match us, hl with | [_, _, _], _ => rfl
theorem Top.b_law {w : World} {K : PySem.W.Frag} {mg : Str → Option Value} (T : Top w K mg) : Binds K T.fd_law ["script"] [] := T.F_law.binds fun _ _ _ _ _ _ us hl => match us, hl with | [_], _ => rfl
end Tk

namespace Tk
open PySem PySem.Spec PyProof.Rows L2 Ly Lx TL Px
theorem ok_Malformed_init {P : Program} {w : World} {K : PySem.W.Frag} {mg : Str → Option Value} {base : Heap} (T : Top w K mg) : FnOk P w K mg base CX0 1 T.i_Malformed T.fd_Malformed___init__ ["self", "at"] (spXI K T.a_Malformed "at") := by
  refine T.F_Malformed___init__.ok sc_Malformed___init__ (fun vs H Q E h => ?_) (fun cdv A outer s H vs Q E hr h => ?_)
  · obtain ⟨a, v, rfl, _⟩ := h
    rfl
  · obtain ⟨a, v, rfl, C, no, ea, q⟩ := h
    exact ⟨_, (pss_one (ps_ost (pv 0) (pv 1))), v, rfl, .ref a, rfl, a, _, rfl, C, no, .inl ⟨ea, fun dx n ne => q dx n ne⟩⟩
theorem ok_Oversized_init {P : Program} {w : World} {K : PySem.W.Frag} {mg : Str → Option Value} {base : Heap} (T : Top w K mg) : FnOk P w K mg base CX0 1 T.i_Oversized T.fd_Oversized___init__ ["self", "limit"] (spXI K T.a_Oversized "limit") := by
  refine T.F_Oversized___init__.ok sc_Oversized___init__ (fun vs H Q E h => ?_) (fun cdv A outer s H vs Q E hr h => ?_)
  · obtain ⟨a, v, rfl, _⟩ := h
    rfl
  · obtain ⟨a, v, rfl, C, no, ea, q⟩ := h
    exact ⟨_, (pss_one (ps_ost (pv 0) (pv 1))), v, rfl, .ref a, rfl, a, _, rfl, C, no, .inl ⟨ea, fun dx n ne => q dx n ne⟩⟩
/-! ### the reader's methods -/
def clOf {w : World} {K : PySem.W.Frag} {mg : Str → Option Value} (T : Top w K mg) : Cl := ⟨T.a_Reader, T.a_Malformed, T.a_Oversized⟩
section
variable {P : Program} {w : World} {K : PySem.W.Frag} {mg : Str → Option Value} {base : Heap}
/-- a method that looks only, or a step of the reader: self at R.r, k tokens taken -/
def spLook (K : PySem.W.Frag) (c : Cl) (f : List (Tkn × Nat) → Nat → Nat → V) : Sp := fun vs H Q _ => ∃ (R : RS) (k : Nat), vs = [.ref R.r] ∧ R.at_ K c.rd H k ∧ Q (f R.all R.n k) H
theorem okT_Reader_ended (T : Top w K mg) : FnT P w K mg base 1 T.a_Reader_ended T.fd_Reader_ended ["self"] (spLook K (clOf T) fun all _ k => .bl (decide (k = all.length))) := by
  refine okT T.F_Reader_ended sc_Reader_ended (fun vs H Q E h => ?_) (fun cdv A outer s H vs Q E hr h => ?_)
  · obtain ⟨R, k, rfl, _⟩ := h
    rfl
  · obtain ⟨R, k, rfl, ha, q⟩ := h
    refine ⟨_, (pss_one (ps_ret (pe_cmpR op_eq (pe_fld (pv 0) rfl) (pe_callB call_len (by rfl) T.n_len bt_len (pa_cons (pe_fld (pv 0) rfl) pa_nil)) (nomark _)))), ?_⟩
    have hl : R.xs.length = R.all.length := by rw [dps_len ha.2.2.1, List.length_map]
    refine ⟨_, rfl, _, _, _, _, _, rfl, ha.1, T.cl_Reader, T.nF_Reader_taken, rfl, _, rfl, _, _, _, _, _, rfl, ha.1, T.cl_Reader, T.nF_Reader_found, rfl, _, R.all.length, rfl, .inl ⟨_, SqL.of ha.2.1, hl.symm⟩, rfl, ?_⟩
    rw [dec_int]
    have e : ((k : Int) == (R.all.length : Int)) = decide (k = R.all.length) := by
      by_cases h : k = R.all.length
      · rw [h, decide_eq_true rfl]
        exact beq_self_eq_true _
      · rw [decide_eq_false h]
        exact beq_eq_false_iff_ne.mpr fun z => h (by omega)
    rw [e]
    exact q
/-- the item at the place -/
theorem tok_at {R : RS} {C : Addr} {H : Hp} {k : Nat} (ha : R.at_ K C H k) (h : k < R.all.length) : ∃ a v, R.all[k]? = some R.all[k] ∧ R.xs[k]? = some (.ref a) ∧ SqT K H a [.str (kindOf R.all[k].1), v, .int (R.all[k].2 : Int)] ∧ Dp K H v (valD R.all[k].1) := by
  have e1 := List.getElem?_eq_getElem h
  obtain ⟨v, hv, hd⟩ := dps_get (j := k) ha.2.2.1 (by rw [List.getElem?_map, e1]; rfl)
  cases hd with
  | tup hs hall =>
    cases hall with
    | cons h1 h2 =>
      cases h2 with
      | cons h3 h4 =>
        cases h4 with
        | cons h5 h6 =>
          cases h1
          cases h5
          cases h6
          exact ⟨_, _, e1, hv, hs, h3⟩
end
end Tk

namespace Tk
open PySem PySem.Spec PyProof.Rows L2 Ly Lx TL Px
section
variable {P : Program} {w : World} {K : PySem.W.Frag} {mg : Str → Option Value} {base : Heap}
theorem okT_Reader_where (T : Top w K mg) : FnT P w K mg base 2 T.a_Reader_where T.fd_Reader_where ["self"] (spLook K (clOf T) fun all n k => .int (wh all n k : Int)) := by
  refine okT T.F_Reader_where sc_Reader_where (fun vs H Q E h => ?_) (fun cdv A outer s H vs Q E hr h => ?_)
  · obtain ⟨R, k, rfl, _⟩ := h
    rfl
  · obtain ⟨R, k, rfl, ha, q⟩ := h
    have q : Q (.int (wh R.all R.n k : Int)) H := q
    refine ⟨_, (pss_cons (ps_if (pt_val (pe_meth0T (pv 0) T.cl_Reader T.M_Reader_ended (okT_Reader_ended T) (hr.mono (by first | decide | omega)) T.b_Reader_ended (fun σ => L2N.passAt (L2N.takes_of rfl rfl rfl rfl) σ)))
      (pss_one (ps_ret (pe_fld (pv 0) rfl)))
      pss_nil)
      (pss_one (ps_ret (pe_ix ix_seq (pe_ix ix_seq (pe_fld (pv 0) rfl) (pe_fld (pv 0) rfl) (fun _ _ => rfl)) pe_int (fun _ _ => rfl))))), ?_⟩
    refine ⟨_, rfl, R.r, _, _, rfl, ha.1, rfl, R, k, rfl, ha, _, rfl, ite2 (fun hc => ?_) (fun hc => ?_)⟩
    · have hk : k = R.all.length := of_decide_eq_true hc
      have e : wh R.all R.n k = R.n := by
        unfold wh
        rw [List.getElem?_eq_none (by omega)]
      rw [e] at q
      exact ⟨_, rfl, _, _, _, _, _, rfl, ha.1, T.cl_Reader, T.nF_Reader_length, rfl, q⟩
    · have hk : k < R.all.length := by
        have h1 := of_decide_eq_false (Bool.eq_false_iff.mpr hc)
        have h2 := ha.le
        omega
      obtain ⟨a, v, e1, hv, hs, hd⟩ := tok_at ha hk
      have e : wh R.all R.n k = R.all[k].2 := by
        unfold wh
        rw [e1]
      rw [e] at q
      exact ⟨_, rfl, _, _, _, _, _, rfl, ha.1, T.cl_Reader, T.nF_Reader_found, rfl, _, rfl, _, _, _, _, _, rfl, ha.1, T.cl_Reader, T.nF_Reader_taken, rfl,
        .inl ⟨R.l, _, _, _, rfl, rfl, SqL.of ha.2.1, atI_nat hv, .inr (.inl ⟨a, _, _, _, rfl, rfl, hs, rfl, q⟩)⟩⟩
def spSees (K : PySem.W.Frag) (c : Cl) : Sp := fun vs H Q _ => ∃ (R : RS) (k : Nat) (p : Addr) (ws : List Str), vs = [.ref R.r, .ref p] ∧ R.at_ K c.rd H k ∧ SqT K H p (ws.map V.str) ∧ SeqAt.shaped (.tuple (ws.map PyData.str)) = true ∧ Q (.bl (seesB R.all ws k)) H
theorem dp_strs {H : Hp} : ∀ ws : List Str, DpAll K H (ws.map V.str) (ws.map PyData.str)
  | [] => .nil
  | w :: ws => .cons (.str w) (dp_strs ws)
theorem okT_Reader_sees (T : Top w K mg) : FnT P w K mg base 2 T.a_Reader_sees T.fd_Reader_sees ["self", "values"] (spSees K (clOf T)) := by
  refine okT T.F_Reader_sees sc_Reader_sees (fun vs H Q E h => ?_) (fun cdv A outer s H vs Q E hr h => ?_)
  · obtain ⟨R, k, p, ws, rfl, _⟩ := h
    rfl
  · obtain ⟨R, k, p, ws, rfl, ha, hp, hsh, q⟩ := h
    refine ⟨_, (pss_one (ps_ret (pe_and (pe_not (pe_meth0T (pv 0) T.cl_Reader T.M_Reader_ended (okT_Reader_ended T) (hr.mono (by first | decide | omega)) T.b_Reader_ended (fun σ => L2N.passAt (L2N.takes_of rfl rfl rfl rfl) σ))) (pe_one (pe_cmpR (op_inTD hr.u128) (pe_ix ix_seq (pe_ix ix_seq (pe_fld (pv 0) rfl) (pe_fld (pv 0) rfl) (fun _ _ => rfl)) pe_int (fun _ _ => rfl)) (pv 1) (by rfl)))))), ?_⟩
    refine ⟨_, rfl, R.r, _, _, rfl, ha.1, rfl, R, k, rfl, ha, _, rfl, _, rfl, ?_⟩
    by_cases hk : k = R.all.length
    · have e : seesB R.all ws k = false := by
        unfold seesB
        rw [List.getElem?_eq_none (by omega)]
      rw [decide_eq_true hk]
      rw [e] at q
      exact iteF q
    · have hk' : k < R.all.length := by
        have h2 := ha.le
        omega
      obtain ⟨a, v, e1, hv, hs, hd⟩ := tok_at ha hk'
      have e : seesB R.all ws k = valIn R.all[k].1 ws := by
        unfold seesB
        rw [e1]
      rw [decide_eq_false hk]
      rw [e, ← any_in] at q
      exact iteT ⟨_, rfl, _, _, _, _, _, rfl, ha.1, T.cl_Reader, T.nF_Reader_found, rfl, _, rfl, _, _, _, _, _, rfl, ha.1, T.cl_Reader, T.nF_Reader_taken, rfl,
        .inl ⟨R.l, _, _, _, rfl, rfl, SqL.of ha.2.1, atI_nat hv, .inr (.inl ⟨a, _, _, _, rfl, rfl, hs, rfl, _, rfl, _, _, hd, .tup hp (dp_strs ws), R.ok _ (List.getElem_mem hk'), hsh, q⟩)⟩⟩
def spKind (K : PySem.W.Frag) (c : Cl) : Sp := fun vs H Q _ => ∃ (R : RS) (k : Nat) (kd : Str), vs = [.ref R.r, .str kd] ∧ R.at_ K c.rd H k ∧ Q (.bl (kindB R.all kd k)) H
theorem okT_Reader_sees_kind (T : Top w K mg) : FnT P w K mg base 2 T.a_Reader_sees_kind T.fd_Reader_sees_kind ["self", "kind"] (spKind K (clOf T)) := by
  refine okT T.F_Reader_sees_kind sc_Reader_sees_kind (fun vs H Q E h => ?_) (fun cdv A outer s H vs Q E hr h => ?_)
  · obtain ⟨R, k, kd, rfl, _⟩ := h
    rfl
  · obtain ⟨R, k, kd, rfl, ha, q⟩ := h
    refine ⟨_, (pss_one (ps_ret (pe_and (pe_not (pe_meth0T (pv 0) T.cl_Reader T.M_Reader_ended (okT_Reader_ended T) (hr.mono (by first | decide | omega)) T.b_Reader_ended (fun σ => L2N.passAt (L2N.takes_of rfl rfl rfl rfl) σ))) (pe_one (pe_cmpR op_eq (pe_ix ix_seq (pe_ix ix_seq (pe_fld (pv 0) rfl) (pe_fld (pv 0) rfl) (fun _ _ => rfl)) pe_int (fun _ _ => rfl)) (pv 1) (nomark _)))))), ?_⟩
    refine ⟨_, rfl, R.r, _, _, rfl, ha.1, rfl, R, k, rfl, ha, _, rfl, _, rfl, ?_⟩
    by_cases hk : k = R.all.length
    · have e : kindB R.all kd k = false := by
        unfold kindB
        rw [List.getElem?_eq_none (by omega)]
      rw [decide_eq_true hk]
      rw [e] at q
      exact iteF q
    · have hk' : k < R.all.length := by
        have h2 := ha.le
        omega
      obtain ⟨a, v, e1, hv, hs, hd⟩ := tok_at ha hk'
      have e : kindB R.all kd k = (kindOf R.all[k].1 == kd) := by
        unfold kindB
        rw [e1]
      rw [decide_eq_false hk]
      rw [e] at q
      refine iteT ⟨_, rfl, _, _, _, _, _, rfl, ha.1, T.cl_Reader, T.nF_Reader_found, rfl, _, rfl, _, _, _, _, _, rfl, ha.1, T.cl_Reader, T.nF_Reader_taken, rfl,
        .inl ⟨R.l, _, _, _, rfl, rfl, SqL.of ha.2.1, atI_nat hv, .inr (.inl ⟨a, _, _, _, rfl, rfl, hs, rfl, _, rfl, rfl, ?_⟩)⟩⟩
      rw [dec_str]
      exact q
/-- taking a token -/
theorem take_at {R : RS} {c : Cl} {H : Hp} {k : Nat} (ha : R.at_ K c.rd H k) (h : k < R.all.length) {fs : List (Str × V)}
    (hf : fs = putF "taken" (.int ((k : Int) + 1)) [("found", .ref R.l), ("length", .int (R.n : Int)), ("taken", .int (k : Int))]) :
    Go R.r H (upd H R.r (.ins c.rd R.dx fs)) ∧ R.at_ K c.rd (upd H R.r (.ins c.rd R.dx fs)) (k + 1) := by
  refine ⟨go_upd, ha.go go_upd ?_ h⟩
  subst hf
  rw [upd_same]
  rfl
def spTake (K : PySem.W.Frag) (c : Cl) : Sp := fun vs H Q _ => ∃ (R : RS) (k : Nat), vs = [.ref R.r] ∧ R.at_ K c.rd H k ∧ k < R.all.length ∧
  ∀ H' v, Go R.r H H' → R.at_ K c.rd H' (k + 1) → Dp K H' v (tvAt R.all k) → (∀ x, tvAt R.all k = .str x → v = .str x) → Q v H'
theorem okT_Reader_take (T : Top w K mg) : FnT P w K mg base 1 T.a_Reader_take T.fd_Reader_take ["self"] (spTake K (clOf T)) := by
  refine okT T.F_Reader_take sc_Reader_take (fun vs H Q E h => ?_) (fun cdv A outer s H vs Q E hr h => ?_)
  · obtain ⟨R, k, rfl, _⟩ := h
    rfl
  · obtain ⟨R, k, rfl, ha, hk, q⟩ := h
    refine ⟨_, (pss_cons (ps_set (i := 1) sc_Reader_take.nd rfl (.inl rfl) (by exact (pe_ix ix_seq (pe_ix ix_seq (pe_fld (pv 0) rfl) (pe_fld (pv 0) rfl) (fun _ _ => rfl)) pe_int (fun _ _ => rfl))))
      (pss_cons (ps_fldaug (pv 0) pe_int in_add)
      (pss_one (ps_ret (pv 1))))), ?_⟩
    obtain ⟨a, v, e1, hv, hs, hd⟩ := tok_at ha hk
    have e : tvAt R.all k = valD R.all[k].1 := by
      unfold tvAt
      rw [e1]
    refine ⟨_, rfl, _, _, _, _, _, rfl, ha.1, T.cl_Reader, T.nF_Reader_found, rfl, _, rfl, _, _, _, _, _, rfl, ha.1, T.cl_Reader, T.nF_Reader_taken, rfl,
        .inl ⟨R.l, _, _, _, rfl, rfl, SqL.of ha.2.1, atI_nat hv, .inr (.inl ⟨a, _, _, _, rfl, rfl, hs, rfl, ?_⟩)⟩⟩
    obtain ⟨g, ha'⟩ := take_at ha hk rfl
    refine ⟨_, rfl, _, _, _, _, _, rfl, ha.1, T.cl_Reader, T.nF_Reader_taken, rfl, _, _, rfl, rfl, _, _, ha.1, by show 3 < 1000; decide, _, rfl, ?_⟩
    refine q _ _ g ha' (by rw [e]; exact dp_go g ha.ins (noL_val _) hd) fun x hx => ?_
    rw [e] at hx
    rw [hx] at hd
    cases hd
    rfl
def spAcc (K : PySem.W.Frag) (c : Cl) : Sp := fun vs H Q _ => ∃ (R : RS) (k : Nat) (x : Str), vs = [.ref R.r, .str x] ∧ R.at_ K c.rd H k ∧ SeqAt.shaped (.tuple [.str x]) = true ∧
  (seesB R.all [x] k = true → ∀ H', Go R.r H H' → R.at_ K c.rd H' (k + 1) → Q (.bl true) H') ∧ (seesB R.all [x] k = false → ∀ H', Go R.r H H' → R.at_ K c.rd H' k → Q (.bl false) H')
theorem sees_lt {all : List (Tkn × Nat)} {ws : List Str} {k : Nat} (h : seesB all ws k = true) : k < all.length := by
  unfold seesB at h
  cases e : all[k]? with
  | none => rw [e] at h; cases h
  | some t => exact (List.getElem?_eq_some_iff.mp e).1
theorem kind_lt {all : List (Tkn × Nat)} {kd : Str} {k : Nat} (h : kindB all kd k = true) : k < all.length := by
  unfold kindB at h
  cases e : all[k]? with
  | none => rw [e] at h; cases h
  | some t => exact (List.getElem?_eq_some_iff.mp e).1
theorem okT_Reader_accept (T : Top w K mg) : FnT P w K mg base 3 T.a_Reader_accept T.fd_Reader_accept ["self", "value"] (spAcc K (clOf T)) := by
  refine okT T.F_Reader_accept sc_Reader_accept (fun vs H Q E h => ?_) (fun cdv A outer s H vs Q E hr h => ?_)
  · obtain ⟨R, k, x, rfl, _⟩ := h
    rfl
  · obtain ⟨R, k, x, rfl, ha, hsh, qt, qf⟩ := h
    refine ⟨_, (pss_cons (ps_if (pt_not (pt_val (pe_methT (pv 0) T.cl_Reader T.M_Reader_sees (okT_Reader_sees T) (hr.mono (by first | decide | omega)) T.b_Reader_sees (fun σ => L2N.passAt (L2N.takes_of rfl rfl rfl rfl) σ) (by exact (pa_cons (pe_tup (pa_cons (pv 1) pa_nil)) pa_nil)))))
      (pss_one (ps_ret pe_bl))
      pss_nil)
      (pss_cons (ps_fldaug (pv 0) pe_int in_add)
      (pss_one (ps_ret pe_bl)))), ?_⟩
    refine ⟨_, rfl, R.r, _, _, rfl, ha.1, rfl, _, rfl, by show 1 ≤ sizeLine; decide, fun p np => ?_⟩
    have hs := Ly.same_new (o := .tup [.str x]) np
    have ha1 := ha.same hs
    refine ⟨R, k, p, [x], rfl, ha1, SqT.of upd_same, hsh, _, rfl, ite2 (fun hc => ?_) (fun hc => ?_)⟩
    · have hc' : seesB R.all [x] k = false := by simpa using hc
      exact qf hc' _ (go_same hs) ha1
    · have hc' : seesB R.all [x] k = true := by simpa using hc
      obtain ⟨g, ha'⟩ := take_at ha1 (sees_lt hc') rfl
      exact ⟨_, rfl, _, _, _, _, _, rfl, ha1.1, T.cl_Reader, T.nF_Reader_taken, rfl, _, _, rfl, rfl, _, _, ha1.1, by show 3 < 1000; decide, qt hc' _ ((go_same hs).trans g) ha'⟩
def spOutS (K : PySem.W.Frag) (c : Cl) (f : Str → List (Tkn × Nat) → Nat → Nat → Res) : Sp := fun vs H Q E => ∃ (R : RS) (k : Nat) (x : Str), vs = [.ref R.r, .str x] ∧ R.at_ K c.rd H k ∧ SeqAt.shaped (.tuple [.str x]) = true ∧ Out K c R k H (f x R.all R.n k) Q E
def spOutI (K : PySem.W.Frag) (c : Cl) (f : Nat → List (Tkn × Nat) → Nat → Nat → Res) : Sp := fun vs H Q E => ∃ (R : RS) (k g : Nat), vs = [.ref R.r, .int (g : Int)] ∧ R.at_ K c.rd H k ∧ Out K c R k H (f g R.all R.n k) Q E
theorem err_new {R : RS} {C : Addr} {f : Str} {v : V} {H : Hp} {E : XK} (h : ErrG R C f v H E) {d : Addr} (hd : H d = none) : E (.ref C) (some d) (upd H d (.xd [(f, v)])) := h d _ (go_new hd) hd upd_same
theorem okT_Reader_expect (T : Top w K mg) : FnT P w K mg base 15 T.a_Reader_expect T.fd_Reader_expect ["self", "value"] (spOutS K (clOf T) fun x all n k => expectS all n x k) := by
  refine okT T.F_Reader_expect sc_Reader_expect (fun vs H Q E h => ?_) (fun cdv A outer s H vs Q E hr h => ?_)
  · obtain ⟨R, k, x, rfl, _⟩ := h
    rfl
  · obtain ⟨R, k, x, rfl, ha, hsh, q⟩ := h
    refine ⟨_, (pss_one (ps_if (pt_not (pt_val (pe_methT (pv 0) T.cl_Reader T.M_Reader_accept (okT_Reader_accept T) (hr.mono (by first | decide | omega)) T.b_Reader_accept (fun σ => L2N.passAt (L2N.takes_of rfl rfl rfl rfl) σ) (by exact (pa_cons (pv 1) pa_nil)))))
      (pss_one (ps_raiseX rfl (L2N.takes_of rfl rfl rfl rfl) T.x_Malformed (ok_Malformed_init T) (RoomT.room (k := 2) (hr.mono (by first | decide | omega))) T.b_Malformed_init (pa_cons (pe_meth0T (pv 0) T.cl_Reader T.M_Reader_where (okT_Reader_where T) (hr.mono (by first | decide | omega)) T.b_Reader_where (fun σ => L2N.passAt (L2N.takes_of rfl rfl rfl rfl) σ)) pa_nil)))
      pss_nil)), ?_⟩
    have q : Out K (clOf T) R k H (expectS R.all R.n x k) Q E := q
    unfold expectS at q
    refine ⟨_, rfl, R.r, _, _, rfl, ha.1, rfl, _, rfl, R, k, x, rfl, ha, hsh, fun hs H' g ha' => ⟨_, rfl, ?_⟩, fun hs H' g ha' => ⟨_, rfl, ?_⟩⟩
    · rw [if_pos hs] at q
      exact iteF (q (Nat.le_succ k) H' .non g ha' .non rfl)
    · rw [if_neg (by rw [hs]; exact Bool.false_ne_true)] at q
      refine iteT ⟨_, rfl, R.r, _, _, rfl, ha'.1, rfl, R, k, rfl, ha', _, rfl, fun d hd => ?_⟩
      exact err_new (ErrG.go q g) hd
theorem okT_Reader_expect_kind (T : Top w K mg) : FnT P w K mg base 15 T.a_Reader_expect_kind T.fd_Reader_expect_kind ["self", "kind"] (spOutS K (clOf T) fun x all n k => expectKind all n x k) := by
  refine okT T.F_Reader_expect_kind sc_Reader_expect_kind (fun vs H Q E h => ?_) (fun cdv A outer s H vs Q E hr h => ?_)
  · obtain ⟨R, k, x, rfl, _⟩ := h
    rfl
  · obtain ⟨R, k, x, rfl, ha, hsh, q⟩ := h
    refine ⟨_, (pss_cons (ps_if (pt_not (pt_val (pe_methT (pv 0) T.cl_Reader T.M_Reader_sees_kind (okT_Reader_sees_kind T) (hr.mono (by first | decide | omega)) T.b_Reader_sees_kind (fun σ => L2N.passAt (L2N.takes_of rfl rfl rfl rfl) σ) (by exact (pa_cons (pv 1) pa_nil)))))
      (pss_one (ps_raiseX rfl (L2N.takes_of rfl rfl rfl rfl) T.x_Malformed (ok_Malformed_init T) (RoomT.room (k := 2) (hr.mono (by first | decide | omega))) T.b_Malformed_init (pa_cons (pe_meth0T (pv 0) T.cl_Reader T.M_Reader_where (okT_Reader_where T) (hr.mono (by first | decide | omega)) T.b_Reader_where (fun σ => L2N.passAt (L2N.takes_of rfl rfl rfl rfl) σ)) pa_nil)))
      pss_nil)
      (pss_one (ps_ret (pe_meth0T (pv 0) T.cl_Reader T.M_Reader_take (okT_Reader_take T) (hr.mono (by first | decide | omega)) T.b_Reader_take (fun σ => L2N.passAt (L2N.takes_of rfl rfl rfl rfl) σ))))), ?_⟩
    have q : Out K (clOf T) R k H (expectKind R.all R.n x k) Q E := q
    unfold expectKind at q
    refine ⟨_, rfl, R.r, _, _, rfl, ha.1, rfl, _, rfl, R, k, x, rfl, ha, _, rfl, ?_⟩
    cases hs : kindB R.all x k with
    | true =>
      rw [if_pos hs] at q
      refine iteF ⟨_, rfl, R.r, _, _, rfl, ha.1, rfl, R, k, rfl, ha, kind_lt hs, fun H' v g ha' hd hx => ?_⟩
      refine q (Nat.le_succ k) H' v g ha' hd ?_
      unfold tvAt
      cases R.all[k]? with
      | none => rfl
      | some t => exact noL_val _
    | false =>
      rw [if_neg (by rw [hs]; exact Bool.false_ne_true)] at q
      refine iteT ⟨_, rfl, R.r, _, _, rfl, ha.1, rfl, R, k, rfl, ha, _, rfl, fun d hd => ?_⟩
      exact err_new q hd
theorem okT_Reader_expect_whole (T : Top w K mg) : FnT P w K mg base 16 T.a_Reader_expect_whole T.fd_Reader_expect_whole ["self", "greatest"] (spOutI K (clOf T) fun g all n k => expectWhole all n g k) := by
  refine okT T.F_Reader_expect_whole sc_Reader_expect_whole (fun vs H Q E h => ?_) (fun cdv A outer s H vs Q E hr h => ?_)
  · obtain ⟨R, k, g, rfl, _⟩ := h
    rfl
  · obtain ⟨R, k, g, rfl, ha, q⟩ := h
    refine ⟨_, (pss_cons (ps_set (i := 2) sc_Reader_expect_whole.nd rfl (.inl rfl) (by exact (pe_meth0T (pv 0) T.cl_Reader T.M_Reader_where (okT_Reader_where T) (hr.mono (by first | decide | omega)) T.b_Reader_where (fun σ => L2N.passAt (L2N.takes_of rfl rfl rfl rfl) σ))))
      (pss_cons (ps_asg (pe_methT (pv 0) T.cl_Reader T.M_Reader_expect_kind (okT_Reader_expect_kind T) (hr.mono (by first | decide | omega)) T.b_Reader_expect_kind (fun σ => L2N.passAt (L2N.takes_of rfl rfl rfl rfl) σ) (by exact (pa_cons pe_str pa_nil))) (pg_tup rfl (pgs_cons (pg_name (i := 3) sc_Reader_expect_whole.nd rfl (.inl rfl)) (pgs_cons (pg_name (i := 4) sc_Reader_expect_whole.nd rfl (.inl rfl)) pgs_nil))))
      (pss_cons (ps_if (PW.pt (pw_or (pt_cmpR op_ne (pv 4) pe_int (nomark _)) (pw_or1 (pt_cmpR op_gt (pv 3) (pv 1) (nomark _)))))
      (pss_one (ps_raiseX rfl (L2N.takes_of rfl rfl rfl rfl) T.x_Malformed (ok_Malformed_init T) (RoomT.room (k := 2) (hr.mono (by first | decide | omega))) T.b_Malformed_init (pa_cons (pv 2) pa_nil)))
      pss_nil)
      (pss_one (ps_ret (pv 3)))))), ?_⟩
    have q : Out K (clOf T) R k H (expectWhole R.all R.n g k) Q E := q
    have hkey : kindB R.all "number" k = false → expectWhole R.all R.n g k = .error (.mal (wh R.all R.n k)) := fun h => by
      unfold kindB at h
      unfold expectWhole
      cases e : R.all[k]? with
      | none => rfl
      | some t =>
        rw [e] at h
        obtain ⟨t, i⟩ := t
        cases t with
        | num a b =>
          have h' : (("number" : Str) == "number") = false := h
          exact absurd h' (by decide)
        | word _ => rfl
        | name _ => rfl
        | sign _ => rfl
    refine ⟨_, rfl, R.r, _, _, rfl, ha.1, rfl, R, k, rfl, ha, ?_⟩
    refine ⟨_, rfl, R.r, _, _, rfl, ha.1, rfl, R, k, "number", rfl, ha, sh1 _, ?_⟩
    show Out K (clOf T) R k H (expectKind R.all R.n "number" k) _ _
    unfold expectKind
    cases hs : kindB R.all "number" k with
    | false =>
      rw [if_neg Bool.false_ne_true]
      rw [hkey hs] at q
      exact q
    | true =>
      rw [if_pos rfl]
      have hk := kind_lt hs
      obtain ⟨t, i, e⟩ : ∃ t i, R.all[k]? = some (t, i) := ⟨_, _, List.getElem?_eq_getElem hk⟩
      unfold kindB at hs
      rw [e] at hs
      cases t with
      | word _ => exact absurd (show (("word" : Str) == "number") = true from hs) (by decide)
      | name _ => exact absurd (show (("name" : Str) == "number") = true from hs) (by decide)
      | sign _ => exact absurd (show (("sign" : Str) == "number") = true from hs) (by decide)
      | num a b =>
        unfold expectWhole at q
        rw [e] at q
        dsimp only at q
        have ew : wh R.all R.n k = i := by
          unfold wh
          rw [e]
        rw [← ew] at q
        have ev : tvAt R.all k = .tuple [.int (a : Int), .int (b : Int)] := by
          unfold tvAt
          rw [e]
          rfl
        intro hk1 H' v g1 ha' hd hn
        rw [ev] at hd
        cases hd with
        | tup hst hal =>
          cases hal with
          | cons h1 h2 =>
            cases h2 with
            | cons h3 h4 =>
              cases h4
              cases h1
              cases h3
              rename_i p
              refine ⟨p, _, rfl, hst, rfl, _, _, rfl, _, _, rfl, rfl, ?_⟩
              refine ⟨_, rfl, rfl, ?_⟩
              rw [dec_int]
              refine ⟨_, rfl, ite2 (fun hb => iteT ?_) (fun hb => ?_)⟩
              · have hb' : b ≠ 1 := by
                  intro z
                  subst z
                  exact absurd hb (by decide)
                rw [if_pos (.inl hb')] at q
                refine ⟨_, rfl, _, rfl, fun d hd => ?_⟩
                exact err_new (ErrG.go q g1) hd
              · have hb' : b = 1 := by
                  have : ((b : Int) == 1) = true := by simpa using hb
                  have := beq_iff_eq.mp this
                  omega
                refine ⟨_, rfl, _, rfl, _, _, rfl, rfl, _, rfl, ite2 (fun hg => ?_) (fun hg => ?_)⟩
                · have hg' : g < a := by
                    have := of_decide_eq_true hg
                    omega
                  rw [if_pos (.inr hg')] at q
                  refine ⟨_, rfl, _, rfl, fun d hd => ?_⟩
                  exact err_new (ErrG.go q g1) hd
                · have hg' : ¬ g < a := by
                    have := of_decide_eq_false (Bool.eq_false_iff.mpr hg)
                    omega
                  rw [if_neg (by rintro (z | z) <;> omega)] at q
                  exact ⟨_, rfl, q hk1 H' _ g1 ha' (.int _) rfl⟩
end
end Tk

namespace Tk
open PySem PySem.Spec PyProof.Rows L2 Ly Lx TL Px
/-! ### lists that are filled; deeper, powers, products, numbers -/
section
variable {P : Program} {w : World} {K : PySem.W.Frag} {mg : Str → Option Value} {base : Heap}
theorem noLs_append : ∀ {ds es : List PyData}, noLs ds = true → noLs es = true → noLs (ds ++ es) = true
  | [], _, _, h => h
  | d :: ds, es, h1, h2 => by
    have h1' : (noL d && noLs ds) = true := h1
    rw [Bool.and_eq_true] at h1'
    show (noL d && noLs (ds ++ es)) = true
    rw [h1'.1, noLs_append h1'.2 h2]
    rfl
theorem noLs_one {d : PyData} (h : noL d = true) : noLs [d] = true := by
  show (noL d && true) = true
  rw [h]
  rfl
/-- a list that the def has made is filled -/
structure Fl (K : PySem.W.Frag) (R : RS) (H0 H : Hp) (l : Addr) (xs : List V) (ds : List PyData) : Prop where
  fr : H0 l = none
  nr : l ≠ R.r
  nl : l ≠ R.l
  go : Go R.r H0 H
  is : H l = some (.lst xs)
  dp : DpAll K H xs ds
  no : noLs ds = true
theorem Fl.new {R : RS} {C l : Addr} {H0 H : Hp} {k : Nat} (ha : R.at_ K C H k) (g : Go R.r H0 H) (n : H l = none) : Fl K R H0 (upd H l (.lst [])) l [] [] ∧ R.at_ K C (upd H l (.lst [])) k :=
  ⟨⟨g.free n, fun e => absurd (show some _ = none from ha.1.symm.trans (e ▸ n)) (by simp), fun e => absurd (show some _ = none from ha.2.1.symm.trans (e ▸ n)) (by simp), g.trans (go_new n), upd_same, .nil, rfl⟩, ha.same (Ly.same_new n)⟩
theorem Fl.step {R : RS} {C l : Addr} {H0 H H' : Hp} {k : Nat} {xs : List V} {ds : List PyData} (L : Fl K R H0 H l xs ds) (ha : R.at_ K C H k) (g : Go R.r H H') : Fl K R H0 H' l xs ds :=
  ⟨L.fr, L.nr, L.nl, L.go.trans g, g.1 _ _ L.nr L.is, dps_keep (sqt_go g ha.ins) _ _ L.no L.dp, L.no⟩
theorem Fl.app {R : RS} {C l : Addr} {H0 H : Hp} {k : Nat} {xs : List V} {ds : List PyData} {v : V} {d : PyData} (L : Fl K R H0 H l xs ds) (ha : R.at_ K C H k) (hd : Dp K H v d) (hn : noL d = true) :
    Fl K R H0 (upd H l (.lst (xs ++ [v]))) l (xs ++ [v]) (ds ++ [d]) ∧ R.at_ K C (upd H l (.lst (xs ++ [v]))) k := by
  refine ⟨⟨L.fr, L.nr, L.nl, ⟨fun b o hb e => ?_, fun h => ?_⟩, upd_same, ?_, noLs_append L.no (noLs_one hn)⟩, ?_, ?_, dps_keep (sqt_upd L.is) _ _ (noL_toks _) ha.2.2.1, ha.2.2.2.1, ha.2.2.2.2⟩
  · rw [upd_ne (ne_of_none e L.fr)]
    exact L.go.1 b o hb e
  · rw [upd_ne L.nr.symm]
    exact L.go.2 h
  · exact dps_append (dps_keep (sqt_upd L.is) _ _ L.no L.dp) (.cons (dp_keep (sqt_upd L.is) _ _ hn hd) .nil)
  · rw [upd_ne L.nr.symm]
    exact ha.1
  · rw [upd_ne L.nl.symm]
    exact ha.2.1
theorem Fl.end_ {R : RS} {C l t : Addr} {H0 H : Hp} {k : Nat} {xs : List V} {ds : List PyData} (L : Fl K R H0 H l xs ds) (ha : R.at_ K C H k) (n : H t = none) :
    Go R.r H0 (upd H t (.tup xs)) ∧ R.at_ K C (upd H t (.tup xs)) k ∧ Dp K (upd H t (.tup xs)) (.ref t) (.tuple ds) ∧ noL (.tuple ds) = true :=
  ⟨L.go.trans (go_new n), ha.same (Ly.same_new n), .tup (SqT.of upd_same) (dps_keep (sqt_same (Ly.same_new n)) _ _ L.no L.dp), L.no⟩
theorem Fl.len {R : RS} {l : Addr} {H0 H : Hp} {xs : List V} {ds : List PyData} (L : Fl K R H0 H l xs ds) : xs.length = ds.length := dps_len L.dp
/-- the call of deeper -/
def spDeep (c : Cl) : Sp := fun vs H Q E => ∃ l j : Nat, vs = [.int (l : Int)] ∧ l + (j + 1) = 25 ∧ (j = 0 → ∀ d, H d = none → E (.ref c.ov) (some d) (upd H d (.xd [("limit", .str "depth")]))) ∧ (1 ≤ j → Q (.int ((l + 1 : Nat) : Int)) H)
theorem okT_deeper (T : Top w K mg) : FnT P w K mg base 15 T.a_deeper T.fd_deeper ["level"] (spDeep (clOf T)) := by
  refine okT T.F_deeper sc_deeper (fun vs H Q E h => ?_) (fun cdv A outer s H vs Q E hr h => ?_)
  · obtain ⟨l, j, rfl, _⟩ := h
    rfl
  · obtain ⟨l, j, rfl, hl, q0, q1⟩ := h
    refine ⟨_, (pss_cons (ps_if (pt_cmpR op_eq (pv 0) (pe_glob (by rfl) T.c_DEEPEST T.r_DEEPEST) (nomark _))
      (pss_one (ps_raiseX rfl (L2N.takes_of rfl rfl rfl rfl) T.x_Oversized (ok_Oversized_init T) (RoomT.room (k := 2) (hr.mono (by first | decide | omega))) T.b_Oversized_init (pa_cons pe_str pa_nil)))
      pss_nil)
      (pss_one (ps_ret (pe_op op_plus (pv 0) pe_int)))), ?_⟩
    refine ⟨_, rfl, rfl, ?_⟩
    rw [dec_int]
    refine ⟨_, rfl, ite2 (fun hc => ?_) (fun hc => ?_)⟩
    · have : (l : Int) = 24 := eq_of_beq hc
      have : j = 0 := by omega
      exact ⟨_, rfl, fun d hd => q0 this d hd⟩
    · have : ¬ (l : Int) = 24 := fun h => hc (beq_iff_eq.mpr h)
      exact ⟨_, rfl, .inl ⟨_, _, rfl, rfl, q1 (by omega)⟩⟩
/-- a def of the reader alone -/
def spOut0 (K : PySem.W.Frag) (c : Cl) (f : List (Tkn × Nat) → Nat → Nat → Res) : Sp := fun vs H Q E => ∃ (R : RS) (k : Nat), vs = [.ref R.r] ∧ R.at_ K c.rd H k ∧ Out K c R k H (f R.all R.n k) Q E
theorem whole_int {all : List (Tkn × Nat)} {n g k k1 : Nat} {d : PyData} (h : expectWhole all n g k = .ok (d, k1)) : ∃ t : Nat, d = .int (t : Int) := by
  unfold expectWhole at h
  split at h
  · split at h
    · cases h
    · cases h
      exact ⟨_, rfl⟩
  · cases h
theorem okT_read_power (T : Top w K mg) : FnT P w K mg base 17 T.a_read_power T.fd_read_power ["reader"] (spOut0 K (clOf T) powerM) := by
  refine okT T.F_read_power sc_read_power (fun vs H Q E h => ?_) (fun cdv A outer s H vs Q E hr h => ?_)
  · obtain ⟨R, k, rfl, _⟩ := h
    rfl
  · obtain ⟨R, k, rfl, ha, q⟩ := h
    refine ⟨_, (pss_cons (ps_if (pt_val (pe_methT (pv 0) T.cl_Reader T.M_Reader_accept (okT_Reader_accept T) (hr.mono (by first | decide | omega)) T.b_Reader_accept (fun σ => L2N.passAt (L2N.takes_of rfl rfl rfl rfl) σ) (by exact (pa_cons pe_str pa_nil))))
      (pss_one (ps_ret (pe_un un_neg (pe_methT (pv 0) T.cl_Reader T.M_Reader_expect_whole (okT_Reader_expect_whole T) (hr.mono (by first | decide | omega)) T.b_Reader_expect_whole (fun σ => L2N.passAt (L2N.takes_of rfl rfl rfl rfl) σ) (by exact (pa_cons (pe_glob (by rfl) T.c_GREATEST_POWER T.r_GREATEST_POWER) pa_nil))))))
      pss_nil)
      (pss_one (ps_ret (pe_methT (pv 0) T.cl_Reader T.M_Reader_expect_whole (okT_Reader_expect_whole T) (hr.mono (by first | decide | omega)) T.b_Reader_expect_whole (fun σ => L2N.passAt (L2N.takes_of rfl rfl rfl rfl) σ) (by exact (pa_cons (pe_glob (by rfl) T.c_GREATEST_POWER T.r_GREATEST_POWER) pa_nil)))))), ?_⟩
    unfold powerM at q
    refine ⟨_, rfl, R.r, _, _, rfl, ha.1, rfl, R, k, "-", rfl, ha, sh1 _, fun hs H' g ha' => ⟨_, rfl, iteT ?_⟩, fun hs H' g ha' => ⟨_, rfl, iteF ?_⟩⟩
    · rw [if_pos hs] at q
      refine ⟨_, rfl, R.r, _, _, rfl, ha'.1, rfl, R, k + 1, 9, rfl, ha', ?_⟩
      refine Out.step (Out.go q g) fun d k1 H2 v hr1 hk g2 ha2 hd hn q2 => ?_
      obtain ⟨t, rfl⟩ := whole_int hr1
      cases hd
      exact ⟨_, rfl, Out.ret q2 (by omega) (Go.refl _ _) ha2 (.int _) rfl⟩
    · rw [if_neg (by rw [hs]; exact Bool.false_ne_true)] at q
      refine ⟨_, rfl, R.r, _, _, rfl, ha'.1, rfl, R, k, 9, rfl, ha', Out.go q g⟩
end
end Tk

namespace Tk
open PySem PySem.Spec PyProof.Rows L2 Ly Lx TL Px
/-! ### products -/
section
variable {P : Program} {w : World} {K : PySem.W.Frag} {mg : Str → Option Value} {base : Heap}
theorem kind_noL {all : List (Tkn × Nat)} {n k k1 : Nat} {x : Str} {d : PyData} (h : expectKind all n x k = .ok (d, k1)) : d = tvAt all k ∧ k1 = k + 1 ∧ kindB all x k = true := by
  unfold expectKind at h
  split at h
  · rename_i hb
    cases h
    exact ⟨rfl, rfl, hb⟩
  · cases h
theorem Out.step0 {c : Cl} {R : RS} {k0 k : Nat} {H0 H : Hp} {Q Q' : VK} {E : XK} {r : Res} {g : PyData → Nat → Res} (h : Out K c R k0 H0 (bindR r g) Q E) (g0 : Go R.r H0 H)
    (q : ∀ d k1 H' v, r = .ok (d, k1) → k ≤ k1 → Go R.r H H' → R.at_ K c.rd H' k1 → Dp K H' v d → noL d = true → Out K c R k0 H0 (g d k1) Q E → Q' v H') : Out K c R k H r Q' E := by
  match r, h, q with
  | .ok (d, k1), h, q => exact fun hk H' v g ha hd hn => q d k1 H' v rfl hk g ha hd hn h
  | .error (.mal i), h, _ => exact ErrG.go h g0
  | .error .over, h, _ => exact ErrG.go h g0
theorem okT_read_product (T : Top w K mg) : FnT P w K mg base 19 T.a_read_product T.fd_read_product ["reader"] (spOut0 K (clOf T) productM) := by
  refine okT T.F_read_product sc_read_product (fun vs H Q E h => ?_) (fun cdv A outer s H vs Q E hr h => ?_)
  · obtain ⟨R, k, rfl, _⟩ := h
    rfl
  · obtain ⟨R, k, rfl, ha, q⟩ := h
    refine ⟨_, (pss_cons (ps_expr (pe_methT (pv 0) T.cl_Reader T.M_Reader_expect (okT_Reader_expect T) (hr.mono (by first | decide | omega)) T.b_Reader_expect (fun σ => L2N.passAt (L2N.takes_of rfl rfl rfl rfl) σ) (by exact (pa_cons pe_str pa_nil))))
      (pss_cons (ps_set (i := 1) sc_read_product.nd rfl (.inl rfl) (by exact (pe_lst pa_nil)))
      (pss_cons (ps_while (passes_of rfl) (pt_not (pt_val (pe_methT (pv 0) T.cl_Reader T.M_Reader_accept (okT_Reader_accept T) (hr.mono (by first | decide | omega)) T.b_Reader_accept (fun σ => L2N.passAt (L2N.takes_of rfl rfl rfl rfl) σ) (by exact (pa_cons pe_str pa_nil)))))
      (pss_cons (ps_set (i := 2) sc_read_product.nd rfl (.inl rfl) (by exact (pe_meth0T (pv 0) T.cl_Reader T.M_Reader_where (okT_Reader_where T) (hr.mono (by first | decide | omega)) T.b_Reader_where (fun σ => L2N.passAt (L2N.takes_of rfl rfl rfl rfl) σ))))
      (pss_cons (ps_set (i := 3) sc_read_product.nd rfl (.inl rfl) (by exact (pe_methT (pv 0) T.cl_Reader T.M_Reader_expect_kind (okT_Reader_expect_kind T) (hr.mono (by first | decide | omega)) T.b_Reader_expect_kind (fun σ => L2N.passAt (L2N.takes_of rfl rfl rfl rfl) σ) (by exact (pa_cons pe_str pa_nil)))))
      (pss_cons (ps_set (i := 4) sc_read_product.nd rfl (.inl rfl) (by exact (pe_ifExp (pt_val (pe_methT (pv 0) T.cl_Reader T.M_Reader_accept (okT_Reader_accept T) (hr.mono (by first | decide | omega)) T.b_Reader_accept (fun σ => L2N.passAt (L2N.takes_of rfl rfl rfl rfl) σ) (by exact (pa_cons pe_str pa_nil)))) (pe_callT (okT_read_power T) (hr.mono (by first | decide | omega)) (by rfl) T.m_read_power T.F_read_power.kp T.b_read_power (fun σ => L2N.passAt (L2N.takes_of rfl rfl rfl rfl) σ) (by exact (pa_cons (pv 0) pa_nil))) pe_int)))
      (pss_one (ps_expr (pe_bm PySem.F.plainAttrs_list PySem.F.slot_list_append PySem.F.type_list_append mt_append (pv 1) (pa_cons (pe_tup (pa_cons (pv 3) (pa_cons (pv 4) (pa_cons (pv 2) pa_nil)))) pa_nil))))))))
      (pss_one (ps_ret (pe_callTy call_tuple_of (by rfl) T.n_tuple bt_tuple (pa_cons (pv 1) pa_nil))))))), ?_⟩
    unfold productM at q
    refine ⟨_, rfl, R.r, _, _, rfl, ha.1, rfl, R, k, "[", rfl, ha, sh1 _, ?_⟩
    refine Out.step q fun d0 k1 H1 v0 hr0 hk1 g1 ha1 _ _ q1 => ?_
    clear q
    refine ⟨Nat.zero_le _, fun l nl => ?_⟩
    obtain ⟨L0, ha1'⟩ := Fl.new ha1 (Go.refl R.r H1) nl
    refine ⟨fun m σ H' => ∃ (k' : Nat) (xs : List V) (ds : List PyData) (y2 y3 y4 : Option V), σ = [some (.ref R.r), some (.ref l), y2, y3, y4] ∧ k1 ≤ k' ∧ xs.length ≤ k' ∧ R.all.length + 1 ≤ m + k' ∧
      R.at_ K (clOf T).rd H' k' ∧ Fl K R H1 H' l xs ds ∧ Out K (clOf T) R k H1 (productL R.all R.n m ds k') Q E,
      ⟨R.all.length + 1, k1, [], [], none, none, none, rfl, Nat.le_refl _, Nat.zero_le _, by omega, ha1', L0, q1⟩, ?_⟩
    clear q1 ha1' L0
    rintro m σ H2 ⟨k2, xs, ds, y2, y3, y4, rfl, hk2, hx, hm, ha2, L, q⟩
    have hle := ha2.le
    obtain ⟨f, rfl⟩ : ∃ f, m = f + 1 := ⟨m - 1, by omega⟩
    unfold productL at q
    refine ⟨_, rfl, R.r, _, _, rfl, ha2.1, rfl, R, k2, "]", rfl, ha2, sh1 _, fun hs H3 g3 ha3 => ⟨_, rfl, iteF ?_⟩, fun hs H3 g3 ha3 => ⟨_, rfl, iteT ?_⟩⟩
    · rw [if_pos hs] at q
      have L3 := L.step ha2 g3
      refine ⟨_, rfl, l, xs, rfl, .inl ⟨SqL.of L3.is, fun t nt => ?_⟩⟩
      obtain ⟨ge, hae, hde, hne⟩ := L3.end_ ha3 nt
      exact Out.ret q (by omega) ge hae hde hne
    · rw [if_neg (by rw [hs]; exact Bool.false_ne_true)] at q
      have L3 := L.step ha2 g3
      refine ⟨fun σ' H' => ∃ (k' : Nat) (xs' : List V) (ds' : List PyData) (y2 y3 y4 : Option V), σ' = [some (.ref R.r), some (.ref l), y2, y3, y4] ∧ k1 ≤ k' ∧ xs'.length ≤ k' ∧ R.all.length + 1 ≤ f + k' ∧
        R.at_ K (clOf T).rd H' k' ∧ Fl K R H1 H' l xs' ds' ∧ Out K (clOf T) R k H1 (productL R.all R.n f ds' k') Q E, fun σ' H' hN => ⟨f, by omega, hN⟩, ?_⟩
      -- at, name
      refine ⟨_, rfl, R.r, _, _, rfl, ha3.1, rfl, R, k2, rfl, ha3, ?_⟩
      refine ⟨_, rfl, R.r, _, _, rfl, ha3.1, rfl, R, k2, "name", rfl, ha3, sh1 _, ?_⟩
      refine Out.step0 q L3.go fun nm k4 H4 v4 hr4 hk4 g4 ha4 hd4 hn4 q4 => ?_
      have L4 := L3.step ha3 g4
      obtain ⟨_, hk24, _⟩ := kind_noL hr4
      clear q
      -- power
      refine ⟨_, rfl, R.r, _, _, rfl, ha4.1, rfl, R, k4, "^", rfl, ha4, sh1 _, fun hs5 H5 g5 ha5 => ⟨_, rfl, iteT ?_⟩, fun hs5 H5 g5 ha5 => ⟨_, rfl, iteF ?_⟩⟩
      · rw [if_pos hs5] at q4
        refine ⟨_, rfl, R, k4 + 1, rfl, ha5, ?_⟩
        refine Out.step0 q4 (L4.step ha4 g5).go fun d6 k6 H6 v6 hr6 hk6 g6 ha6 hd6 hn6 q6 => ?_
        have L6 := (L4.step ha4 g5).step ha5 g6
        have g46 := g5.trans g6
        have q7 : Out K (clOf T) R k H1 (productL R.all R.n f (ds ++ [.tuple [nm, d6, .int (wh R.all R.n k2 : Int)]]) k6) Q E := q6
        refine ⟨_, rfl, .inl ⟨rfl, _, .inl (.inl L6.is)⟩, _, rfl, _, rfl, _, rfl, by show 3 ≤ sizeLine; decide, fun p np => ?_⟩
        have L7 := L6.step ha6 (go_new (o := .tup [v4, v6, .int (wh R.all R.n k2 : Int)]) np)
        have ha7 := ha6.same (Ly.same_new (o := .tup [v4, v6, .int (wh R.all R.n k2 : Int)]) np)
        have sm := Ly.same_new (o := .tup [v4, v6, .int (wh R.all R.n k2 : Int)]) np
        have d7 : Dp K (upd H6 p (.tup [v4, v6, .int (wh R.all R.n k2 : Int)])) (.ref p) (.tuple [nm, d6, .int (wh R.all R.n k2 : Int)]) :=
          .tup (SqT.of upd_same) (.cons (dp_same sm hn4 (dp_go g46 ha4.ins hn4 hd4)) (.cons (dp_same sm hn6 hd6) (.cons (.int _) .nil)))
        have n7 : noL (.tuple [nm, d6, .int (wh R.all R.n k2 : Int)]) = true := by
          show (noL nm && (noL d6 && (true && true))) = true
          rw [hn4, hn6]
          rfl
        obtain ⟨L8, ha8⟩ := L7.app ha7 d7 n7
        refine ⟨l, xs, _, rfl, rfl, L7.is, Nat.lt_of_le_of_lt hx (Nat.lt_of_le_of_lt hle (Nat.lt_of_le_of_lt ha.2.2.2.2 (by decide))), ?_⟩
        exact ⟨k6, _, _, _, _, _, rfl, by omega, by rw [List.length_append]; simp; omega, by omega, ha8, L8, q7⟩
      · rw [if_neg (by rw [hs5]; exact Bool.false_ne_true)] at q4
        have L6 := L4.step ha4 g5
        have g46 := g5
        have ha6 := ha5
        have hd6 : Dp K H5 (.int 1) (.int 1) := .int 1
        have hn6 : noL (.int 1) = true := rfl
        have q7 : Out K (clOf T) R k H1 (productL R.all R.n f (ds ++ [.tuple [nm, .int 1, .int (wh R.all R.n k2 : Int)]]) k4) Q E := q4
        refine ⟨_, rfl, .inl ⟨rfl, _, .inl (.inl L6.is)⟩, _, rfl, _, rfl, _, rfl, by show 3 ≤ sizeLine; decide, fun p np => ?_⟩
        have L7 := L6.step ha6 (go_new (o := .tup [v4, .int 1, .int (wh R.all R.n k2 : Int)]) np)
        have ha7 := ha6.same (Ly.same_new (o := .tup [v4, .int 1, .int (wh R.all R.n k2 : Int)]) np)
        have sm := Ly.same_new (o := .tup [v4, .int 1, .int (wh R.all R.n k2 : Int)]) np
        have d7 : Dp K (upd H5 p (.tup [v4, .int 1, .int (wh R.all R.n k2 : Int)])) (.ref p) (.tuple [nm, .int 1, .int (wh R.all R.n k2 : Int)]) :=
          .tup (SqT.of upd_same) (.cons (dp_same sm hn4 (dp_go g46 ha4.ins hn4 hd4)) (.cons (dp_same sm hn6 hd6) (.cons (.int _) .nil)))
        have n7 : noL (.tuple [nm, .int 1, .int (wh R.all R.n k2 : Int)]) = true := by
          show (noL nm && (noL (.int 1) && (true && true))) = true
          rw [hn4, hn6]
          rfl
        obtain ⟨L8, ha8⟩ := L7.app ha7 d7 n7
        refine ⟨l, xs, _, rfl, rfl, L7.is, Nat.lt_of_le_of_lt hx (Nat.lt_of_le_of_lt hle (Nat.lt_of_le_of_lt ha.2.2.2.2 (by decide))), ?_⟩
        exact ⟨k4, _, _, _, _, _, rfl, by omega, by rw [List.length_append]; simp; omega, by omega, ha8, L8, q7⟩
end
end Tk

namespace Tk
open PySem PySem.Spec PyProof.Rows L2 Ly Lx TL Px
/-! ### numbers, parameters, units -/
section
variable {P : Program} {w : World} {K : PySem.W.Frag} {mg : Str → Option Value} {base : Heap}
theorem noLs_cons {d : PyData} {ds : List PyData} (h : noL d = true) (t : noLs ds = true) : noLs (d :: ds) = true := by
  show (noL d && noLs ds) = true
  rw [h, t]
  rfl
/-- a def ends with a tuple -/
theorem Out.tup {c : Cl} {R : RS} {k0 k : Nat} {H H' : Hp} {Q : VK} {E : XK} {vs : List V} {ds : List PyData} {p : Addr} (q : Out K c R k0 H (.ok (.tuple ds, k)) Q E) (hk : k0 ≤ k) (g : Go R.r H H') (ha : R.at_ K c.rd H' k)
    (hd : DpAll K H' vs ds) (hn : noLs ds = true) (np : H' p = none) : Q (.ref p) (upd H' p (.tup vs)) :=
  Out.ret q hk (g.trans (go_new np)) (ha.same (Ly.same_new np)) (.tup (SqT.of upd_same) (dps_keep (sqt_same (Ly.same_new np)) _ _ hn hd)) hn
/-- the callee's result is the def's, in another place -/
theorem Out.pass {c : Cl} {R : RS} {k0 k : Nat} {H : Hp} {Q : VK} {E : XK} {res : Res} (h : Out K c R k0 H res Q E) (hk : k0 ≤ k) : Out K c R k H res Q E := Out.last h hk
theorem noL_at {all : List (Tkn × Nat)} {k : Nat} : noL (tvAt all k) = true := by
  unfold tvAt
  cases all[k]? with
  | none => rfl
  | some t => exact noL_val _
theorem okT_read_told (T : Top w K mg) : FnT P w K mg base 20 T.a_read_told T.fd_read_told ["reader"] (spOut0 K (clOf T) toldM) := by
  refine okT T.F_read_told sc_read_told (fun vs H Q E h => ?_) (fun cdv A outer s H vs Q E hr h => ?_)
  · obtain ⟨R, k, rfl, _⟩ := h
    rfl
  · obtain ⟨R, k, rfl, ha, q⟩ := h
    refine ⟨_, (pss_one (ps_ret (pe_ifExp (pt_val (pe_methT (pv 0) T.cl_Reader T.M_Reader_accept (okT_Reader_accept T) (hr.mono (by first | decide | omega)) T.b_Reader_accept (fun σ => L2N.passAt (L2N.takes_of rfl rfl rfl rfl) σ) (by exact (pa_cons pe_str pa_nil)))) (pe_callT (okT_read_product T) (hr.mono (by first | decide | omega)) (by rfl) T.m_read_product T.F_read_product.kp T.b_read_product (fun σ => L2N.passAt (L2N.takes_of rfl rfl rfl rfl) σ) (by exact (pa_cons (pv 0) pa_nil))) pe_non))), ?_⟩
    unfold toldM at q
    refine ⟨_, rfl, R.r, _, _, rfl, ha.1, rfl, R, k, ":", rfl, ha, sh1 _, fun hs H1 g1 ha1 => ⟨_, rfl, iteT ?_⟩, fun hs H1 g1 ha1 => ⟨_, rfl, iteF ?_⟩⟩
    · rw [if_pos hs] at q
      exact ⟨_, rfl, R, k + 1, rfl, ha1, Out.pass (Out.go q g1) (by omega)⟩
    · rw [if_neg (by rw [hs]; exact Bool.false_ne_true)] at q
      exact Out.ret q (Nat.le_refl _) g1 ha1 .non rfl
def spNum (K : PySem.W.Frag) (c : Cl) : Sp := fun vs H Q E => ∃ (R : RS) (k a : Nat), vs = [.ref R.r, .int (a : Int)] ∧ R.at_ K c.rd H k ∧ kindB R.all "number" k = true ∧ Out K c R k H (numberM R.all R.n a k) Q E
theorem okT_read_number (T : Top w K mg) : FnT P w K mg base 20 T.a_read_number T.fd_read_number ["reader", "at"] (spNum K (clOf T)) := by
  refine okT T.F_read_number sc_read_number (fun vs H Q E h => ?_) (fun cdv A outer s H vs Q E hr h => ?_)
  · obtain ⟨R, k, a, rfl, _⟩ := h
    rfl
  · obtain ⟨R, k, a, rfl, ha, hkd, q⟩ := h
    refine ⟨_, (pss_cons (ps_set (i := 2) sc_read_number.nd rfl (.inl rfl) (by exact (pe_meth0T (pv 0) T.cl_Reader T.M_Reader_take (okT_Reader_take T) (hr.mono (by first | decide | omega)) T.b_Reader_take (fun σ => L2N.passAt (L2N.takes_of rfl rfl rfl rfl) σ))))
      (pss_cons (ps_set (i := 3) sc_read_number.nd rfl (.inl rfl) (by exact (pe_ifExp (pt_val (pe_methT (pv 0) T.cl_Reader T.M_Reader_sees (okT_Reader_sees T) (hr.mono (by first | decide | omega)) T.b_Reader_sees (fun σ => L2N.passAt (L2N.takes_of rfl rfl rfl rfl) σ) (by exact (pa_cons (pe_tup (pa_cons pe_str pa_nil)) pa_nil)))) (pe_callT (okT_read_product T) (hr.mono (by first | decide | omega)) (by rfl) T.m_read_product T.F_read_product.kp T.b_read_product (fun σ => L2N.passAt (L2N.takes_of rfl rfl rfl rfl) σ) (by exact (pa_cons (pv 0) pa_nil))) (pe_tup pa_nil))))
      (pss_one (ps_ret (pe_tup (pa_cons pe_str (pa_cons (pv 2) (pa_cons (pv 3) (pa_cons (pv 1) pa_nil))))))))), ?_⟩
    unfold numberM at q
    refine ⟨_, rfl, R.r, _, _, rfl, ha.1, rfl, R, k, rfl, ha, kind_lt hkd, fun H1 v1 g1 ha1 hd1 _ => ?_⟩
    refine ⟨_, rfl, R.r, _, _, rfl, ha1.1, rfl, by show 1 ≤ sizeLine; decide, fun p np => ?_⟩
    have hs := Ly.same_new (o := .tup [.str "["]) np
    have ha2 := ha1.same hs
    have g2 := g1.trans (go_same hs)
    have hd2 := dp_same hs noL_at hd1
    refine ⟨R, k + 1, p, ["["], rfl, ha2, SqT.of upd_same, sh1 _, ⟨_, rfl, ite2 (fun hc => ?_) (fun hc => ?_)⟩⟩
    · rw [if_pos hc] at q
      refine ⟨_, rfl, R, k + 1, rfl, ha2, ?_⟩
      refine Out.step (Out.go q g2) fun d3 k3 H3 v3 hr3 hk3 g3 ha3 hd3 hn3 q3 => ?_
      refine ⟨_, rfl, _, rfl, _, rfl, by show 4 ≤ sizeLine; decide, fun p np => ?_⟩
      exact Out.tup q3 (by omega) (Go.refl _ _) ha3 (.cons (.str _) (.cons (dp_go g3 ha2.ins noL_at hd2) (.cons hd3 (.cons (.int _) .nil)))) (noLs_cons rfl (noLs_cons noL_at (noLs_cons hn3 rfl))) np
    · rw [if_neg hc] at q
      refine ⟨by show 0 ≤ sizeLine; decide, fun p2 np2 => ?_⟩
      have hs3 := Ly.same_new (o := .tup []) np2
      refine ⟨_, rfl, _, rfl, _, rfl, by show 4 ≤ sizeLine; decide, fun p np => ?_⟩
      exact Out.tup (k := k + 1) q (by omega) (g2.trans (go_same hs3)) (ha2.same hs3) (.cons (.str _) (.cons (dp_same hs3 noL_at hd2) (.cons (.tup (SqT.of upd_same) .nil) (.cons (.int _) .nil)))) (noLs_cons rfl (noLs_cons noL_at rfl)) np
theorem okT_read_parameter (T : Top w K mg) : FnT P w K mg base 21 T.a_read_parameter T.fd_read_parameter ["reader"] (spOut0 K (clOf T) paramM) := by
  refine okT T.F_read_parameter sc_read_parameter (fun vs H Q E h => ?_) (fun cdv A outer s H vs Q E hr h => ?_)
  · obtain ⟨R, k, rfl, _⟩ := h
    rfl
  · obtain ⟨R, k, rfl, ha, q⟩ := h
    refine ⟨_, (pss_cons (ps_set (i := 1) sc_read_parameter.nd rfl (.inl rfl) (by exact (pe_methT (pv 0) T.cl_Reader T.M_Reader_expect_kind (okT_Reader_expect_kind T) (hr.mono (by first | decide | omega)) T.b_Reader_expect_kind (fun σ => L2N.passAt (L2N.takes_of rfl rfl rfl rfl) σ) (by exact (pa_cons pe_str pa_nil)))))
      (pss_one (ps_ret (pe_tup (pa_cons (pv 1) (pa_cons (pe_callT (okT_read_told T) (hr.mono (by first | decide | omega)) (by rfl) T.m_read_told T.F_read_told.kp T.b_read_told (fun σ => L2N.passAt (L2N.takes_of rfl rfl rfl rfl) σ) (by exact (pa_cons (pv 0) pa_nil))) pa_nil)))))), ?_⟩
    unfold paramM at q
    refine ⟨_, rfl, R.r, _, _, rfl, ha.1, rfl, R, k, "name", rfl, ha, sh1 _, ?_⟩
    refine Out.step q fun d1 k1 H1 v1 hr1 hk1 g1 ha1 hd1 hn1 q1 => ?_
    refine ⟨_, rfl, _, rfl, R, k1, rfl, ha1, ?_⟩
    refine Out.step q1 fun d2 k2 H2 v2 hr2 hk2 g2 ha2 hd2 hn2 q2 => ?_
    refine ⟨by show 2 ≤ sizeLine; decide, fun p np => ?_⟩
    exact Out.tup q2 (by omega) (Go.refl _ _) ha2 (.cons (dp_go g2 ha1.ins hn1 hd1) (.cons hd2 .nil)) (noLs_cons hn1 (noLs_cons hn2 rfl)) np
def spOutA (K : PySem.W.Frag) (c : Cl) (f : List (Tkn × Nat) → Nat → Nat → Nat → Res) : Sp := fun vs H Q E => ∃ (R : RS) (k a : Nat), vs = [.ref R.r, .int (a : Int)] ∧ R.at_ K c.rd H k ∧ Out K c R k H (f R.all R.n a k) Q E
theorem okT_read_unit (T : Top w K mg) : FnT P w K mg base 21 T.a_read_unit T.fd_read_unit ["reader", "at"] (spOutA K (clOf T) unitM) := by
  refine okT T.F_read_unit sc_read_unit (fun vs H Q E h => ?_) (fun cdv A outer s H vs Q E hr h => ?_)
  · obtain ⟨R, k, a, rfl, _⟩ := h
    rfl
  · obtain ⟨R, k, a, rfl, ha, q⟩ := h
    refine ⟨_, (pss_cons (ps_set (i := 2) sc_read_unit.nd rfl (.inl rfl) (by exact (pe_methT (pv 0) T.cl_Reader T.M_Reader_expect_kind (okT_Reader_expect_kind T) (hr.mono (by first | decide | omega)) T.b_Reader_expect_kind (fun σ => L2N.passAt (L2N.takes_of rfl rfl rfl rfl) σ) (by exact (pa_cons pe_str pa_nil)))))
      (pss_cons (ps_expr (pe_methT (pv 0) T.cl_Reader T.M_Reader_expect (okT_Reader_expect T) (hr.mono (by first | decide | omega)) T.b_Reader_expect (fun σ => L2N.passAt (L2N.takes_of rfl rfl rfl rfl) σ) (by exact (pa_cons pe_str pa_nil))))
      (pss_cons (ps_set (i := 3) sc_read_unit.nd rfl (.inl rfl) (by exact (pe_methT (pv 0) T.cl_Reader T.M_Reader_expect_kind (okT_Reader_expect_kind T) (hr.mono (by first | decide | omega)) T.b_Reader_expect_kind (fun σ => L2N.passAt (L2N.takes_of rfl rfl rfl rfl) σ) (by exact (pa_cons pe_str pa_nil)))))
      (pss_one (ps_ret (pe_tup (pa_cons pe_str (pa_cons (pv 2) (pa_cons (pv 3) (pa_cons (pe_callT (okT_read_product T) (hr.mono (by first | decide | omega)) (by rfl) T.m_read_product T.F_read_product.kp T.b_read_product (fun σ => L2N.passAt (L2N.takes_of rfl rfl rfl rfl) σ) (by exact (pa_cons (pv 0) pa_nil))) (pa_cons (pv 1) pa_nil))))))))))), ?_⟩
    unfold unitM at q
    refine ⟨_, rfl, R.r, _, _, rfl, ha.1, rfl, R, k, "name", rfl, ha, sh1 _, ?_⟩
    refine Out.step q fun d1 k1 H1 v1 hr1 hk1 g1 ha1 hd1 hn1 q1 => ?_
    refine ⟨_, rfl, R.r, _, _, rfl, ha1.1, rfl, R, k1, "=", rfl, ha1, sh1 _, ?_⟩
    refine Out.step q1 fun d2 k2 H2 v2 hr2 hk2 g2 ha2 hd2 hn2 q2 => ?_
    refine ⟨_, rfl, R.r, _, _, rfl, ha2.1, rfl, R, k2, "number", rfl, ha2, sh1 _, ?_⟩
    refine Out.step q2 fun d3 k3 H3 v3 hr3 hk3 g3 ha3 hd3 hn3 q3 => ?_
    refine ⟨_, rfl, _, rfl, _, rfl, R, k3, rfl, ha3, ?_⟩
    refine Out.step q3 fun d4 k4 H4 v4 hr4 hk4 g4 ha4 hd4 hn4 q4 => ?_
    refine ⟨_, rfl, by show 5 ≤ sizeLine; decide, fun p np => ?_⟩
    exact Out.tup q4 (by omega) (Go.refl _ _) ha4 (.cons (.str _) (.cons (dp_go ((g2.trans g3).trans g4) ha1.ins hn1 hd1) (.cons (dp_go g4 ha3.ins hn3 hd3) (.cons hd4 (.cons (.int _) .nil)))))
      (noLs_cons rfl (noLs_cons hn1 (noLs_cons hn3 (noLs_cons hn4 rfl)))) np
end
end Tk

namespace Tk
open PySem PySem.Spec PyProof.Rows L2 Ly Lx TL Px
/-! ### parameters -/
section
variable {P : Program} {w : World} {K : PySem.W.Frag} {mg : Str → Option Value} {base : Heap}
theorem len_ok {n : Nat} (h : n ≤ 100000) : n < sizeLine := Nat.lt_of_le_of_lt h (by decide)
theorem okT_read_parameters (T : Top w K mg) : FnT P w K mg base 22 T.a_read_parameters T.fd_read_parameters ["reader"] (spOut0 K (clOf T) paramsM) := by
  refine okT T.F_read_parameters sc_read_parameters (fun vs H Q E h => ?_) (fun cdv A outer s H vs Q E hr h => ?_)
  · obtain ⟨R, k, rfl, _⟩ := h
    rfl
  · obtain ⟨R, k, rfl, ha, q⟩ := h
    refine ⟨_, (pss_cons (ps_set (i := 1) sc_read_parameters.nd rfl (.inl rfl) (by exact (pe_lst pa_nil)))
      (pss_cons (ps_if (pt_not (pt_val (pe_methT (pv 0) T.cl_Reader T.M_Reader_accept (okT_Reader_accept T) (hr.mono (by first | decide | omega)) T.b_Reader_accept (fun σ => L2N.passAt (L2N.takes_of rfl rfl rfl rfl) σ) (by exact (pa_cons pe_str pa_nil)))))
      (pss_cons (ps_expr (pe_bm PySem.F.plainAttrs_list PySem.F.slot_list_append PySem.F.type_list_append mt_append (pv 1) (pa_cons (pe_callT (okT_read_parameter T) (hr.mono (by first | decide | omega)) (by rfl) T.m_read_parameter T.F_read_parameter.kp T.b_read_parameter (fun σ => L2N.passAt (L2N.takes_of rfl rfl rfl rfl) σ) (by exact (pa_cons (pv 0) pa_nil))) pa_nil)))
      (pss_cons (ps_while (passes_of rfl) (pt_val (pe_methT (pv 0) T.cl_Reader T.M_Reader_accept (okT_Reader_accept T) (hr.mono (by first | decide | omega)) T.b_Reader_accept (fun σ => L2N.passAt (L2N.takes_of rfl rfl rfl rfl) σ) (by exact (pa_cons pe_str pa_nil))))
      (pss_one (ps_expr (pe_bm PySem.F.plainAttrs_list PySem.F.slot_list_append PySem.F.type_list_append mt_append (pv 1) (pa_cons (pe_callT (okT_read_parameter T) (hr.mono (by first | decide | omega)) (by rfl) T.m_read_parameter T.F_read_parameter.kp T.b_read_parameter (fun σ => L2N.passAt (L2N.takes_of rfl rfl rfl rfl) σ) (by exact (pa_cons (pv 0) pa_nil))) pa_nil)))))
      (pss_one (ps_expr (pe_methT (pv 0) T.cl_Reader T.M_Reader_expect (okT_Reader_expect T) (hr.mono (by first | decide | omega)) T.b_Reader_expect (fun σ => L2N.passAt (L2N.takes_of rfl rfl rfl rfl) σ) (by exact (pa_cons pe_str pa_nil)))))))
      pss_nil)
      (pss_one (ps_ret (pe_callTy call_tuple_of (by rfl) T.n_tuple bt_tuple (pa_cons (pv 1) pa_nil)))))), ?_⟩
    unfold paramsM at q
    refine ⟨Nat.zero_le _, fun l nl => ?_⟩
    obtain ⟨L0, ha0⟩ := Fl.new ha (Go.refl R.r H) nl
    refine ⟨_, rfl, R.r, _, _, rfl, ha0.1, rfl, R, k, ")", rfl, ha0, sh1 _, fun hs H1 g1 ha1 => ⟨_, rfl, iteF ?_⟩, fun hs H1 g1 ha1 => ⟨_, rfl, iteT ?_⟩⟩
    · rw [if_pos hs] at q
      have L1 := L0.step ha0 g1
      refine ⟨_, rfl, l, [], rfl, .inl ⟨SqL.of L1.is, fun t nt => ?_⟩⟩
      obtain ⟨ge, hae, hde, hne⟩ := L1.end_ ha1 nt
      exact Out.ret q (by omega) ge hae hde hne
    · rw [if_neg (by rw [hs]; exact Bool.false_ne_true)] at q
      have L1 := L0.step ha0 g1
      refine ⟨_, rfl, .inl ⟨rfl, _, .inl (.inl L1.is)⟩, _, rfl, R, k, rfl, ha1, ?_⟩
      refine Out.step0 q L1.go fun d2 k2 H2 v2 hr2 hk2 g2 ha2 hd2 hn2 q2 => ?_
      clear q
      have L2 := L1.step ha1 g2
      refine ⟨l, [], v2, rfl, rfl, L2.is, len_ok (Nat.zero_le _), ?_⟩
      obtain ⟨L3, ha3⟩ := L2.app ha2 hd2 hn2
      refine ⟨fun m σ H' => ∃ (k' : Nat) (xs : List V) (ds : List PyData), σ = [some (.ref R.r), some (.ref l)] ∧ k ≤ k' ∧ xs.length ≤ k' + 1 ∧ R.all.length + 1 ≤ m + k' ∧
        R.at_ K (clOf T).rd H' k' ∧ Fl K R H H' l xs ds ∧ Out K (clOf T) R k H (paramsL R.all R.n m ds k') Q E,
        ⟨R.all.length + 1, k2, [] ++ [v2], [] ++ [d2], rfl, hk2, (by simp), by omega, ha3, L3, q2⟩, ?_⟩
      clear q2 L3 ha3 L2 L1 L0 ha0 ha1 ha2 hd2
      rintro m σ H3 ⟨k3, xs, ds, rfl, hk3, hx, hm, ha3, L3, q⟩
      have hle := ha3.le
      obtain ⟨f, rfl⟩ : ∃ f, m = f + 1 := ⟨m - 1, by omega⟩
      unfold paramsL at q
      refine ⟨_, rfl, R.r, _, _, rfl, ha3.1, rfl, R, k3, ",", rfl, ha3, sh1 _, fun hs4 H4 g4 ha4 => ⟨_, rfl, iteT ?_⟩, fun hs4 H4 g4 ha4 => ⟨_, rfl, iteF ?_⟩⟩
      · rw [if_pos hs4] at q
        have L4 := L3.step ha3 g4
        refine ⟨fun σ' H' => ∃ (k' : Nat) (xs : List V) (ds : List PyData), σ' = [some (.ref R.r), some (.ref l)] ∧ k ≤ k' ∧ xs.length ≤ k' + 1 ∧ R.all.length + 1 ≤ f + k' ∧
          R.at_ K (clOf T).rd H' k' ∧ Fl K R H H' l xs ds ∧ Out K (clOf T) R k H (paramsL R.all R.n f ds k') Q E, fun σ' H' hN => ⟨f, by omega, hN⟩, ?_⟩
        refine ⟨_, rfl, .inl ⟨rfl, _, .inl (.inl L4.is)⟩, _, rfl, R, k3 + 1, rfl, ha4, ?_⟩
        refine Out.step0 q L4.go fun d5 k5 H5 v5 hr5 hk5 g5 ha5 hd5 hn5 q5 => ?_
        have L5 := L4.step ha4 g5
        have hle5 := ha5.le
        refine ⟨l, xs, v5, rfl, rfl, L5.is, len_ok (by have := ha.2.2.2.2; omega), ?_⟩
        obtain ⟨L6, ha6⟩ := L5.app ha5 hd5 hn5
        exact ⟨k5, _, _, rfl, by omega, by rw [List.length_append]; simp; omega, by omega, ha6, L6, q5⟩
      · rw [if_neg (by rw [hs4]; exact Bool.false_ne_true)] at q
        have L4 := L3.step ha3 g4
        refine ⟨_, rfl, R.r, _, _, rfl, ha4.1, rfl, R, k3, ")", rfl, ha4, sh1 _, ?_⟩
        refine Out.step0 q L4.go fun d5 k5 H5 v5 hr5 hk5 g5 ha5 hd5 hn5 q5 => ?_
        have L5 := L4.step ha4 g5
        refine ⟨_, rfl, l, xs, rfl, .inl ⟨SqL.of L5.is, fun t nt => ?_⟩⟩
        obtain ⟨ge, hae, hde, hne⟩ := L5.end_ ha5 nt
        exact Out.ret q5 (by omega) ge hae hde hne
end
end Tk

namespace Tk
open PySem PySem.Spec PyProof.Rows L2 Ly Lx TL Px
/-! ### chains -/
section
variable {P : Program} {w : World} {K : PySem.W.Frag} {mg : Str → Option Value} {base : Heap}
/-- a def that reads on a level: j levels are left, this one with them -/
def spLv (K : PySem.W.Frag) (c : Cl) (f : List (Tkn × Nat) → Nat → Nat → Nat → Res) (j : Nat) : Sp := fun vs H Q E => ∃ (R : RS) (k l : Nat), vs = [.ref R.r, .int (l : Int)] ∧ 1 ≤ j ∧ l + j = 25 ∧ R.at_ K c.rd H k ∧ Out K c R k H (f R.all R.n j k) Q E
def spLe (K : PySem.W.Frag) (c : Cl) (f : List (Tkn × Nat) → Nat → Nat → Nat → Res) (m : Nat) : Sp := fun vs H Q E => ∃ j, j ≤ m ∧ spLv K c f j vs H Q E
theorem FnT.le {f : List (Tkn × Nat) → Nat → Nat → Nat → Res} {c : Cl} {fP : Addr} {fdP : FuncData} {r : Nat → Nat} {m : Nat} (hr : ∀ j, j ≤ m → r j ≤ r m) (h : ∀ j, j ≤ m → FnT P w K mg base (r j) fP fdP ["reader", "level"] (spLv K c f j)) :
    FnT P w K mg base (r m) fP fdP ["reader", "level"] (spLe K c f m) :=
  ⟨fun vs H Q E ⟨j, hj, q⟩ => (h j hj).len _ _ _ _ q, fun A outer s H args us vs Q E rr e0 hb hv ⟨j, hj, q⟩ => (h j hj).run A outer s H args us vs Q E (rr.mono (hr j hj)) e0 hb hv q⟩
theorem sees_str {all : List (Tkn × Nat)} {ws : List Str} {k : Nat} (h : seesB all ws k = true) : tvAt all k = .str (Px.strAt all k) ∧ Px.strAt all k ∈ ws := by
  unfold seesB at h
  unfold tvAt Px.strAt
  cases e : all[k]? with
  | none => rw [e] at h; cases h
  | some t =>
    rw [e] at h
    obtain ⟨t, i⟩ := t
    cases t with
    | word x => exact ⟨rfl, by have h' : (ws.any (· == x)) = true := h; obtain ⟨y, hy, e⟩ := List.any_eq_true.mp h'; have := eq_of_beq e; subst this; exact hy⟩
    | name x => exact ⟨rfl, by have h' : (ws.any (· == x)) = true := h; obtain ⟨y, hy, e⟩ := List.any_eq_true.mp h'; have := eq_of_beq e; subst this; exact hy⟩
    | num a b => exact absurd (show false = true from h) (by decide)
    | sign x => exact ⟨rfl, by have h' : (ws.any (· == x)) = true := h; obtain ⟨y, hy, e⟩ := List.any_eq_true.mp h'; have := eq_of_beq e; subst this; exact hy⟩
abbrev opers : List Str := ["or", "and", "<", "<=", "==", "+", "-", "*", "/"]
/-- what the dict of the operations holds -/
theorem opD (T : Top w K mg) {x : Str} (h : x ∈ opers) : KDct K w T.a_OPERATIONS x (.str (opName x)) := by
  simp only [List.mem_cons, List.not_mem_nil, or_false] at h
  rcases h with h | h | h | h | h | h | h | h | h
  · subst h; exact T.d_OPERATIONS_0
  · subst h; exact T.d_OPERATIONS_1
  · subst h; exact T.d_OPERATIONS_2
  · subst h; exact T.d_OPERATIONS_3
  · subst h; exact T.d_OPERATIONS_4
  · subst h; exact T.d_OPERATIONS_5
  · subst h; exact T.d_OPERATIONS_6
  · subst h; exact T.d_OPERATIONS_7
  · subst h; exact T.d_OPERATIONS_8
def spCh (K : PySem.W.Frag) (c : Cl) (fP : Addr) (ops : List Str) (f : List (Tkn × Nat) → Nat → Nat → Nat → Res) (m : Nat) : Sp := fun vs H Q E => ∃ (R : RS) (k l j : Nat) (p : Addr), vs = [.ref R.r, .int (l : Int), .ref p, .ref fP] ∧ j ≤ m ∧ 1 ≤ j ∧ l + j = 25 ∧
  R.at_ K c.rd H k ∧ SqT K H p (ops.map V.str) ∧ Out K c R k H (chainM R.all R.n ops (f R.all R.n) j k) Q E
theorem node_no {op : Str} {a b : PyData} {i : Nat} (ha : noL a = true) (hb : noL b = true) : noLs [.str op, a, b, .int (i : Int)] = true := noLs_cons rfl (noLs_cons ha (noLs_cons hb rfl))
theorem okT_read_chain (T : Top w K mg) {fP : Addr} {fdP : FuncData} {r m : Nat} {f : List (Tkn × Nat) → Nat → Nat → Nat → Res} {ops : List Str} (hf0 : ∀ all n k, f all n 0 k = .error .over)
    (hP : FnT P w K mg base r fP fdP ["reader", "level"] (spLe K (clOf T) f m)) (hk : PySem.W.keepIn K (.ref fP) = true) (hb : Binds K fdP ["reader", "level"] []) (h16 : 16 ≤ r)
    (hsh : SeqAt.shaped (.tuple (ops.map PyData.str)) = true) (hops : ∀ x ∈ ops, x ∈ opers) :
    FnT P w K mg base (r + 1) T.a_read_chain T.fd_read_chain ["reader", "level", "operators", "read_part"] (spCh K (clOf T) fP ops f m) := by
  refine okT T.F_read_chain sc_read_chain (fun vs H Q E h => ?_) (fun cdv A outer s H vs Q E hr h => ?_)
  · obtain ⟨R, k, l, j, p, rfl, _⟩ := h
    rfl
  · obtain ⟨R, k, l, j, p, rfl, hjm, hj, hl, ha, hp, q⟩ := h
    refine ⟨_, (pss_cons (ps_set (i := 4) sc_read_chain.nd rfl (.inl rfl) (by exact (pe_callN (i := 3) hP (hr.mono (by first | decide | omega)) hk hb (fun σ => L2N.passAt (L2N.takes_of rfl rfl rfl rfl) σ) (by exact (pa_cons (pv 0) (pa_cons (pv 1) pa_nil))))))
      (pss_cons (ps_while (passes_of rfl) (pt_val (pe_methT (pv 0) T.cl_Reader T.M_Reader_sees (okT_Reader_sees T) (hr.mono (by first | decide | omega)) T.b_Reader_sees (fun σ => L2N.passAt (L2N.takes_of rfl rfl rfl rfl) σ) (by exact (pa_cons (pv 2) pa_nil))))
      (pss_cons (ps_set (i := 5) sc_read_chain.nd rfl (.inl rfl) (by exact (pe_meth0T (pv 0) T.cl_Reader T.M_Reader_where (okT_Reader_where T) (hr.mono (by first | decide | omega)) T.b_Reader_where (fun σ => L2N.passAt (L2N.takes_of rfl rfl rfl rfl) σ))))
      (pss_cons (ps_set (i := 6) sc_read_chain.nd rfl (.inl rfl) (by exact (pe_ix ix_kdict (pe_glob (v := .ref T.a_OPERATIONS) (by rfl) T.c_OPERATIONS rfl) (pe_meth0T (pv 0) T.cl_Reader T.M_Reader_take (okT_Reader_take T) (hr.mono (by first | decide | omega)) T.b_Reader_take (fun σ => L2N.passAt (L2N.takes_of rfl rfl rfl rfl) σ)) (fun _ _ => rfl))))
      (pss_cons (ps_set (i := 1) sc_read_chain.nd rfl (.inl rfl) (by exact (pe_callT (okT_deeper T) (hr.mono (by first | decide | omega)) (by rfl) T.m_deeper T.F_deeper.kp T.b_deeper (fun σ => L2N.passAt (L2N.takes_of rfl rfl rfl rfl) σ) (by exact (pa_cons (pv 1) pa_nil)))))
      (pss_one (ps_set (i := 4) sc_read_chain.nd rfl (.inl rfl) (by exact (pe_tup (pa_cons (pv 6) (pa_cons (pv 4) (pa_cons (pe_callN (i := 3) hP (hr.mono (by first | decide | omega)) hk hb (fun σ => L2N.passAt (L2N.takes_of rfl rfl rfl rfl) σ) (by exact (pa_cons (pv 0) (pa_cons (pv 1) pa_nil)))) (pa_cons (pv 5) pa_nil))))))))))))
      (pss_one (ps_ret (pv 4))))), ?_⟩
    unfold chainM at q
    refine ⟨rfl, _, rfl, _, rfl, j, hjm, R, k, l, rfl, hj, hl, ha, ?_⟩
    refine Out.step0 q (Go.refl _ _) fun d1 k1 H1 v1 hr1 hk1 g1 ha1 hd1 hn1 q1 => ?_
    clear q
    refine ⟨fun m' σ H' => ∃ (k' l' : Nat) (v : V) (d : PyData) (y5 y6 : Option V), σ = [some (.ref R.r), some (.int (l' : Int)), some (.ref p), some (.ref fP), some v, y5, y6] ∧ k ≤ k' ∧ 1 ≤ m' ∧ m' ≤ m ∧ l' + m' = 25 ∧
      R.at_ K (clOf T).rd H' k' ∧ Go R.r H H' ∧ Dp K H' v d ∧ noL d = true ∧ Out K (clOf T) R k H (chainL R.all R.n ops (f R.all R.n) m' d k') Q E,
      ⟨j, k1, l, v1, d1, none, none, rfl, hk1, hj, hjm, hl, ha1, g1, hd1, hn1, q1⟩, ?_⟩
    clear q1 hd1 ha1 g1
    rintro m2 σ H2 ⟨k2, l2, v2, d2, y5, y6, rfl, hk2, h1m, hm2, hl2, ha2, g2, hd2, hn2, q⟩
    obtain ⟨m3, rfl⟩ : ∃ m3, m2 = m3 + 1 := ⟨m2 - 1, by omega⟩
    unfold chainL at q
    refine ⟨_, rfl, R.r, _, _, rfl, ha2.1, rfl, _, rfl, R, k2, p, ops, rfl, ha2, sqt_go g2 ha.ins _ _ hp, hsh, ⟨_, rfl, ite2 (fun hs => ?_) (fun hs => ?_)⟩⟩
    · rw [if_pos hs] at q
      obtain ⟨es, hin⟩ := sees_str hs
      refine ⟨fun σ' H' => ∃ (k' l' : Nat) (v : V) (d : PyData) (y5 y6 : Option V), σ' = [some (.ref R.r), some (.int (l' : Int)), some (.ref p), some (.ref fP), some v, y5, y6] ∧ k ≤ k' ∧ 1 ≤ m3 ∧ m3 ≤ m ∧ l' + m3 = 25 ∧
        R.at_ K (clOf T).rd H' k' ∧ Go R.r H H' ∧ Dp K H' v d ∧ noL d = true ∧ Out K (clOf T) R k H (chainL R.all R.n ops (f R.all R.n) m3 d k') Q E, fun σ' H' hN => ⟨m3, by omega, hN⟩, ?_⟩
      refine ⟨_, rfl, R.r, _, _, rfl, ha2.1, rfl, R, k2, rfl, ha2, ?_⟩
      refine ⟨_, rfl, R.r, _, _, rfl, ha2.1, rfl, R, k2, rfl, ha2, sees_lt hs, fun H3 v3 g3 ha3 hd3 hx3 => ?_⟩
      obtain rfl := hx3 _ es
      refine ⟨_, _, _, rfl, rfl, opD T (hops _ hin), ?_⟩
      refine ⟨_, rfl, l2, m3, rfl, hl2, fun h0 dd hdd => ?_, fun h1 => ?_⟩
      · subst h0
        rw [hf0] at q
        exact err_new (ErrG.go q (g2.trans g3)) hdd
      · refine ⟨_, rfl, _, rfl, rfl, _, rfl, _, rfl, m3, by omega, R, k2 + 1, l2 + 1, rfl, h1, by omega, ha3, ?_⟩
        refine Out.step0 q (g2.trans g3) fun d4 k4 H4 v4 hr4 hk4 g4 ha4 hd4 hn4 q4 => ?_
        have hd24 := dp_go (g3.trans g4) ha2.ins hn2 hd2
        refine ⟨_, rfl, by show 4 ≤ sizeLine; decide, fun t nt => ?_⟩
        have sm := Ly.same_new (o := .tup [.str (opName (Px.strAt R.all k2)), v2, v4, .int (wh R.all R.n k2 : Int)]) nt
        refine ⟨k4, l2 + 1, _, node (opName (Px.strAt R.all k2)) d2 d4 (wh R.all R.n k2), _, _, rfl, by omega, h1, by omega, by omega, ha4.same sm, ((g2.trans g3).trans g4).trans (go_new nt), ?_, (show noL (.tuple _) = true from node_no hn2 hn4), q4⟩
        exact .tup (SqT.of upd_same) (dps_keep (sqt_same sm) _ _ (node_no hn2 hn4) (.cons (.str _) (.cons hd24 (.cons hd4 (.cons (.int _) .nil)))))
    · rw [if_neg hs] at q
      exact ⟨_, rfl, Out.ret q (by omega) g2 ha2 hd2 hn2⟩
end
end Tk

namespace Tk
open PySem PySem.Spec PyProof.Rows L2 Ly Lx TL Px
/-! ### primaries -/
section
variable {P : Program} {w : World} {K : PySem.W.Frag} {mg : Str → Option Value} {base : Heap}
abbrev Lv := List (Tkn × Nat) → Nat → Nat → Nat → Res
def primF (E : Lv) : Lv := fun all n j k => primM all n (E all n) j k
def spIt (K : PySem.W.Frag) (c : Cl) (E : Lv) (j : Nat) : Sp := fun vs H Q X => ∃ (R : RS) (k l a : Nat), vs = [.ref R.r, .int (l : Int), .int (a : Int)] ∧ l + (j + 1) = 25 ∧ R.at_ K c.rd H k ∧ Out K c R k H (iterateM R.all R.n (primF E R.all R.n j) a k) Q X
theorem okT_read_iterate (T : Top w K mg) {E : Lv} {r j : Nat} (hI : FnT P w K mg base r T.a_read_primary T.fd_read_primary ["reader", "level"] (spLv K (clOf T) (primF E) j)) (h16 : 16 ≤ r) :
    FnT P w K mg base (r + 1) T.a_read_iterate T.fd_read_iterate ["reader", "level", "at"] (spIt K (clOf T) E j) := by
  refine okT T.F_read_iterate sc_read_iterate (fun vs H Q X h => ?_) (fun cdv A outer s H vs Q X hr h => ?_)
  · obtain ⟨R, k, l, a, rfl, _⟩ := h
    rfl
  · obtain ⟨R, k, l, a, rfl, hl, ha, q⟩ := h
    refine ⟨_, (pss_cons (ps_set (i := 3) sc_read_iterate.nd rfl (.inl rfl) (by exact (pe_methT (pv 0) T.cl_Reader T.M_Reader_expect_kind (okT_Reader_expect_kind T) (hr.mono (by first | decide | omega)) T.b_Reader_expect_kind (fun σ => L2N.passAt (L2N.takes_of rfl rfl rfl rfl) σ) (by exact (pa_cons pe_str pa_nil)))))
      (pss_cons (ps_set (i := 4) sc_read_iterate.nd rfl (.inl rfl) (by exact (pe_methT (pv 0) T.cl_Reader T.M_Reader_expect_whole (okT_Reader_expect_whole T) (hr.mono (by first | decide | omega)) T.b_Reader_expect_whole (fun σ => L2N.passAt (L2N.takes_of rfl rfl rfl rfl) σ) (by exact (pa_cons (pe_glob (by rfl) T.c_GREATEST_COUNT T.r_GREATEST_COUNT) pa_nil)))))
      (pss_cons (ps_expr (pe_methT (pv 0) T.cl_Reader T.M_Reader_expect (okT_Reader_expect T) (hr.mono (by first | decide | omega)) T.b_Reader_expect (fun σ => L2N.passAt (L2N.takes_of rfl rfl rfl rfl) σ) (by exact (pa_cons pe_str pa_nil))))
      (pss_one (ps_ret (pe_tup (pa_cons pe_str (pa_cons (pv 3) (pa_cons (pv 4) (pa_cons (pe_callT hI (hr.mono (by first | decide | omega)) (by rfl) T.m_read_primary T.F_read_primary.kp T.b_read_primary (fun σ => L2N.passAt (L2N.takes_of rfl rfl rfl rfl) σ) (by exact (pa_cons (pv 0) (pa_cons (pe_callT (okT_deeper T) (hr.mono (by first | decide | omega)) (by rfl) T.m_deeper T.F_deeper.kp T.b_deeper (fun σ => L2N.passAt (L2N.takes_of rfl rfl rfl rfl) σ) (by exact (pa_cons (pv 1) pa_nil))) pa_nil)))) (pa_cons (pv 2) pa_nil))))))))))), ?_⟩
    unfold iterateM at q
    refine ⟨_, rfl, R.r, _, _, rfl, ha.1, rfl, R, k, "name", rfl, ha, sh1 _, ?_⟩
    refine Out.step q fun d1 k1 H1 v1 hr1 hk1 g1 ha1 hd1 hn1 q1 => ?_
    refine ⟨_, rfl, R.r, _, _, rfl, ha1.1, rfl, R, k1, 20, rfl, ha1, ?_⟩
    refine Out.step q1 fun d2 k2 H2 v2 hr2 hk2 g2 ha2 hd2 hn2 q2 => ?_
    refine ⟨_, rfl, R.r, _, _, rfl, ha2.1, rfl, R, k2, "from", rfl, ha2, sh1 _, ?_⟩
    refine Out.step q2 fun d3 k3 H3 v3 hr3 hk3 g3 ha3 hd3 hn3 q3 => ?_
    refine ⟨_, rfl, _, rfl, _, rfl, _, rfl, l, j, rfl, hl, fun h0 dd hdd => ?_, fun h1 => ?_⟩
    · subst h0
      exact err_new q3 hdd
    · refine ⟨R, k3, l + 1, rfl, h1, by omega, ha3, ?_⟩
      refine Out.step q3 fun d4 k4 H4 v4 hr4 hk4 g4 ha4 hd4 hn4 q4 => ?_
      refine ⟨_, rfl, by show 5 ≤ sizeLine; decide, fun p np => ?_⟩
      exact Out.tup q4 (by omega) (Go.refl _ _) ha4 (.cons (.str _) (.cons (dp_go ((g2.trans g3).trans g4) ha1.ins hn1 hd1) (.cons (dp_go (g3.trans g4) ha2.ins hn2 hd2) (.cons hd4 (.cons (.int _) .nil)))))
        (noLs_cons rfl (noLs_cons hn1 (noLs_cons hn2 (noLs_cons hn4 rfl)))) np
def spAr (K : PySem.W.Frag) (c : Cl) (E : Lv) (j : Nat) : Sp := fun vs H Q X => ∃ (R : RS) (k l : Nat), vs = [.ref R.r, .int (l : Int)] ∧ l + (j + 1) = 25 ∧ R.at_ K c.rd H k ∧ E R.all R.n 0 = (fun _ => .error .over) ∧ Out K c R k H (argsM R.all R.n (E R.all R.n j) k) Q X
theorem okT_read_arguments (T : Top w K mg) {E : Lv} {r j : Nat} (hX : FnT P w K mg base r T.a_read_expression T.fd_read_expression ["reader", "level"] (spLv K (clOf T) E j)) (h16 : 16 ≤ r) :
    FnT P w K mg base (r + 1) T.a_read_arguments T.fd_read_arguments ["reader", "level"] (spAr K (clOf T) E j) := by
  refine okT T.F_read_arguments sc_read_arguments (fun vs H Q X h => ?_) (fun cdv A outer s H vs Q X hr h => ?_)
  · obtain ⟨R, k, l, rfl, _⟩ := h
    rfl
  · obtain ⟨R, k, le, rfl, hlv, ha, hE0, q⟩ := h
    refine ⟨_, (pss_cons (ps_set (i := 2) sc_read_arguments.nd rfl (.inl rfl) (by exact (pe_lst pa_nil)))
      (pss_cons (ps_if (pt_not (pt_val (pe_methT (pv 0) T.cl_Reader T.M_Reader_accept (okT_Reader_accept T) (hr.mono (by first | decide | omega)) T.b_Reader_accept (fun σ => L2N.passAt (L2N.takes_of rfl rfl rfl rfl) σ) (by exact (pa_cons pe_str pa_nil)))))
      (pss_cons (ps_expr (pe_bm PySem.F.plainAttrs_list PySem.F.slot_list_append PySem.F.type_list_append mt_append (pv 2) (pa_cons (pe_callT hX (hr.mono (by first | decide | omega)) (by rfl) T.m_read_expression T.F_read_expression.kp T.b_read_expression (fun σ => L2N.passAt (L2N.takes_of rfl rfl rfl rfl) σ) (by exact (pa_cons (pv 0) (pa_cons (pe_callT (okT_deeper T) (hr.mono (by first | decide | omega)) (by rfl) T.m_deeper T.F_deeper.kp T.b_deeper (fun σ => L2N.passAt (L2N.takes_of rfl rfl rfl rfl) σ) (by exact (pa_cons (pv 1) pa_nil))) pa_nil)))) pa_nil)))
      (pss_cons (ps_while (passes_of rfl) (pt_val (pe_methT (pv 0) T.cl_Reader T.M_Reader_accept (okT_Reader_accept T) (hr.mono (by first | decide | omega)) T.b_Reader_accept (fun σ => L2N.passAt (L2N.takes_of rfl rfl rfl rfl) σ) (by exact (pa_cons pe_str pa_nil))))
      (pss_one (ps_expr (pe_bm PySem.F.plainAttrs_list PySem.F.slot_list_append PySem.F.type_list_append mt_append (pv 2) (pa_cons (pe_callT hX (hr.mono (by first | decide | omega)) (by rfl) T.m_read_expression T.F_read_expression.kp T.b_read_expression (fun σ => L2N.passAt (L2N.takes_of rfl rfl rfl rfl) σ) (by exact (pa_cons (pv 0) (pa_cons (pe_callT (okT_deeper T) (hr.mono (by first | decide | omega)) (by rfl) T.m_deeper T.F_deeper.kp T.b_deeper (fun σ => L2N.passAt (L2N.takes_of rfl rfl rfl rfl) σ) (by exact (pa_cons (pv 1) pa_nil))) pa_nil)))) pa_nil)))))
      (pss_one (ps_expr (pe_methT (pv 0) T.cl_Reader T.M_Reader_expect (okT_Reader_expect T) (hr.mono (by first | decide | omega)) T.b_Reader_expect (fun σ => L2N.passAt (L2N.takes_of rfl rfl rfl rfl) σ) (by exact (pa_cons pe_str pa_nil)))))))
      pss_nil)
      (pss_one (ps_ret (pe_callTy call_tuple_of (by rfl) T.n_tuple bt_tuple (pa_cons (pv 2) pa_nil)))))), ?_⟩
    unfold argsM at q
    refine ⟨Nat.zero_le _, fun l nl => ?_⟩
    obtain ⟨L0, ha0⟩ := Fl.new ha (Go.refl R.r H) nl
    refine ⟨_, rfl, R.r, _, _, rfl, ha0.1, rfl, R, k, ")", rfl, ha0, sh1 _, fun hs H1 g1 ha1 => ⟨_, rfl, iteF ?_⟩, fun hs H1 g1 ha1 => ⟨_, rfl, iteT ?_⟩⟩
    · rw [if_pos hs] at q
      have L1 := L0.step ha0 g1
      refine ⟨_, rfl, l, [], rfl, .inl ⟨SqL.of L1.is, fun t nt => ?_⟩⟩
      obtain ⟨ge, hae, hde, hne⟩ := L1.end_ ha1 nt
      exact Out.ret q (by omega) ge hae hde hne
    · rw [if_neg (by rw [hs]; exact Bool.false_ne_true)] at q
      have L1 := L0.step ha0 g1
      refine ⟨_, rfl, .inl ⟨rfl, _, .inl (.inl L1.is)⟩, _, rfl, _, rfl, le, j, rfl, hlv, fun h0 dd hdd => ?_, fun h1 => ?_⟩
      · subst h0
        rw [hE0] at q
        exact err_new (ErrG.go q L1.go) hdd
      refine ⟨R, k, le + 1, rfl, h1, by omega, ha1, ?_⟩
      refine Out.step0 q L1.go fun d2 k2 H2 v2 hr2 hk2 g2 ha2 hd2 hn2 q2 => ?_
      clear q
      have L2 := L1.step ha1 g2
      refine ⟨l, [], v2, rfl, rfl, L2.is, len_ok (Nat.zero_le _), ?_⟩
      obtain ⟨L3, ha3⟩ := L2.app ha2 hd2 hn2
      refine ⟨fun m σ H' => ∃ (k' : Nat) (xs : List V) (ds : List PyData), σ = [some (.ref R.r), some (.int (le : Int)), some (.ref l)] ∧ k ≤ k' ∧ xs.length ≤ k' + 1 ∧ R.all.length + 1 ≤ m + k' ∧
        R.at_ K (clOf T).rd H' k' ∧ Fl K R H H' l xs ds ∧ Out K (clOf T) R k H (argsL R.all R.n (E R.all R.n j) m ds k') Q X,
        ⟨R.all.length + 1, k2, [] ++ [v2], [] ++ [d2], rfl, hk2, (by simp), by omega, ha3, L3, q2⟩, ?_⟩
      clear q2 L3 ha3 L2 L1 L0 ha0 ha1 ha2 hd2
      rintro m σ H3 ⟨k3, xs, ds, rfl, hk3, hx, hm, ha3, L3, q⟩
      have hle := ha3.le
      obtain ⟨f, rfl⟩ : ∃ f, m = f + 1 := ⟨m - 1, by omega⟩
      unfold argsL at q
      refine ⟨_, rfl, R.r, _, _, rfl, ha3.1, rfl, R, k3, ",", rfl, ha3, sh1 _, fun hs4 H4 g4 ha4 => ⟨_, rfl, iteT ?_⟩, fun hs4 H4 g4 ha4 => ⟨_, rfl, iteF ?_⟩⟩
      · rw [if_pos hs4] at q
        have L4 := L3.step ha3 g4
        refine ⟨fun σ' H' => ∃ (k' : Nat) (xs : List V) (ds : List PyData), σ' = [some (.ref R.r), some (.int (le : Int)), some (.ref l)] ∧ k ≤ k' ∧ xs.length ≤ k' + 1 ∧ R.all.length + 1 ≤ f + k' ∧
          R.at_ K (clOf T).rd H' k' ∧ Fl K R H H' l xs ds ∧ Out K (clOf T) R k H (argsL R.all R.n (E R.all R.n j) f ds k') Q X, fun σ' H' hN => ⟨f, by omega, hN⟩, ?_⟩
        refine ⟨_, rfl, .inl ⟨rfl, _, .inl (.inl L4.is)⟩, _, rfl, _, rfl, le, j, rfl, hlv, fun h0 dd hdd => ?_, fun h1 => ?_⟩
        · omega
        refine ⟨R, k3 + 1, le + 1, rfl, h1, by omega, ha4, ?_⟩
        refine Out.step0 q L4.go fun d5 k5 H5 v5 hr5 hk5 g5 ha5 hd5 hn5 q5 => ?_
        have L5 := L4.step ha4 g5
        have hle5 := ha5.le
        refine ⟨l, xs, v5, rfl, rfl, L5.is, len_ok (by have := ha.2.2.2.2; omega), ?_⟩
        obtain ⟨L6, ha6⟩ := L5.app ha5 hd5 hn5
        exact ⟨k5, _, _, rfl, by omega, by rw [List.length_append]; simp; omega, by omega, ha6, L6, q5⟩
      · rw [if_neg (by rw [hs4]; exact Bool.false_ne_true)] at q
        have L4 := L3.step ha3 g4
        refine ⟨_, rfl, R.r, _, _, rfl, ha4.1, rfl, R, k3, ")", rfl, ha4, sh1 _, ?_⟩
        refine Out.step0 q L4.go fun d5 k5 H5 v5 hr5 hk5 g5 ha5 hd5 hn5 q5 => ?_
        have L5 := L4.step ha4 g5
        refine ⟨_, rfl, l, xs, rfl, .inl ⟨SqL.of L5.is, fun t nt => ?_⟩⟩
        obtain ⟨ge, hae, hde, hne⟩ := L5.end_ ha5 nt
        exact Out.ret q5 (by omega) ge hae hde hne
end
end Tk

namespace Tk
open PySem PySem.Spec PyProof.Rows L2 Ly Lx TL Px
/-! ### primaries, powers, if, let -/
section
variable {P : Program} {w : World} {K : PySem.W.Frag} {mg : Str → Option Value} {base : Heap}
theorem okT_read_primary (T : Top w K mg) {E : Lv} (hE0 : ∀ all n, E all n 0 = fun _ => .error .over) : ∀ j, (∀ i, i < j → FnT P w K mg base (13 * i + 28) T.a_read_expression T.fd_read_expression ["reader", "level"] (spLv K (clOf T) E i)) →
    FnT P w K mg base (13 * j + 18) T.a_read_primary T.fd_read_primary ["reader", "level"] (spLv K (clOf T) (primF E) j)
  | 0, _ => FnT.none fun vs H Q X h => by
    obtain ⟨R, k, l, _, h, _⟩ := h
    omega
  | j + 1, hE => by
    have hI := okT_read_primary T hE0 j fun i hi => hE i (by omega)
    have hX := hE j (by omega)
    refine FnT.mono (j := 13 * j + 30 + 1) ?_ (by omega)
    refine okT T.F_read_primary sc_read_primary (fun vs H Q X h => ?_) (fun cdv A outer s H vs Q X hr h => ?_)
    · obtain ⟨R, k, l, rfl, _⟩ := h
      rfl
    · obtain ⟨R, k, l, rfl, _, hl, ha, q⟩ := h
      refine ⟨_, (pss_cons (ps_set (i := 2) sc_read_primary.nd rfl (.inl rfl) (by exact (pe_meth0T (pv 0) T.cl_Reader T.M_Reader_where (okT_Reader_where T) (hr.mono (by first | decide | omega)) T.b_Reader_where (fun σ => L2N.passAt (L2N.takes_of rfl rfl rfl rfl) σ))))
      (pss_cons (ps_if (pt_val (pe_methT (pv 0) T.cl_Reader T.M_Reader_sees_kind (okT_Reader_sees_kind T) (hr.mono (by first | decide | omega)) T.b_Reader_sees_kind (fun σ => L2N.passAt (L2N.takes_of rfl rfl rfl rfl) σ) (by exact (pa_cons pe_str pa_nil))))
      (pss_one (ps_ret (pe_callT (okT_read_number T) (hr.mono (by first | decide | omega)) (by rfl) T.m_read_number T.F_read_number.kp T.b_read_number (fun σ => L2N.passAt (L2N.takes_of rfl rfl rfl rfl) σ) (by exact (pa_cons (pv 0) (pa_cons (pv 2) pa_nil))))))
      pss_nil)
      (pss_cons (ps_if (pt_val (pe_methT (pv 0) T.cl_Reader T.M_Reader_accept (okT_Reader_accept T) (hr.mono (by first | decide | omega)) T.b_Reader_accept (fun σ => L2N.passAt (L2N.takes_of rfl rfl rfl rfl) σ) (by exact (pa_cons pe_str pa_nil))))
      (pss_one (ps_ret (pe_tup (pa_cons pe_str (pa_cons pe_bl pa_nil)))))
      pss_nil)
      (pss_cons (ps_if (pt_val (pe_methT (pv 0) T.cl_Reader T.M_Reader_accept (okT_Reader_accept T) (hr.mono (by first | decide | omega)) T.b_Reader_accept (fun σ => L2N.passAt (L2N.takes_of rfl rfl rfl rfl) σ) (by exact (pa_cons pe_str pa_nil))))
      (pss_one (ps_ret (pe_tup (pa_cons pe_str (pa_cons pe_bl pa_nil)))))
      pss_nil)
      (pss_cons (ps_if (pt_val (pe_methT (pv 0) T.cl_Reader T.M_Reader_accept (okT_Reader_accept T) (hr.mono (by first | decide | omega)) T.b_Reader_accept (fun σ => L2N.passAt (L2N.takes_of rfl rfl rfl rfl) σ) (by exact (pa_cons pe_str pa_nil))))
      (pss_cons (ps_set (i := 3) sc_read_primary.nd rfl (.inl rfl) (by exact (pe_callT hX (hr.mono (by first | decide | omega)) (by rfl) T.m_read_expression T.F_read_expression.kp T.b_read_expression (fun σ => L2N.passAt (L2N.takes_of rfl rfl rfl rfl) σ) (by exact (pa_cons (pv 0) (pa_cons (pe_callT (okT_deeper T) (hr.mono (by first | decide | omega)) (by rfl) T.m_deeper T.F_deeper.kp T.b_deeper (fun σ => L2N.passAt (L2N.takes_of rfl rfl rfl rfl) σ) (by exact (pa_cons (pv 1) pa_nil))) pa_nil))))))
      (pss_cons (ps_expr (pe_methT (pv 0) T.cl_Reader T.M_Reader_expect (okT_Reader_expect T) (hr.mono (by first | decide | omega)) T.b_Reader_expect (fun σ => L2N.passAt (L2N.takes_of rfl rfl rfl rfl) σ) (by exact (pa_cons pe_str pa_nil))))
      (pss_one (ps_ret (pv 3)))))
      pss_nil)
      (pss_cons (ps_if (pt_val (pe_methT (pv 0) T.cl_Reader T.M_Reader_accept (okT_Reader_accept T) (hr.mono (by first | decide | omega)) T.b_Reader_accept (fun σ => L2N.passAt (L2N.takes_of rfl rfl rfl rfl) σ) (by exact (pa_cons pe_str pa_nil))))
      (pss_one (ps_ret (pe_callT (okT_read_iterate T hI (by omega)) (hr.mono (by first | decide | omega)) (by rfl) T.m_read_iterate T.F_read_iterate.kp T.b_read_iterate (fun σ => L2N.passAt (L2N.takes_of rfl rfl rfl rfl) σ) (by exact (pa_cons (pv 0) (pa_cons (pv 1) (pa_cons (pv 2) pa_nil)))))))
      pss_nil)
      (pss_cons (ps_set (i := 4) sc_read_primary.nd rfl (.inl rfl) (by exact (pe_methT (pv 0) T.cl_Reader T.M_Reader_expect_kind (okT_Reader_expect_kind T) (hr.mono (by first | decide | omega)) T.b_Reader_expect_kind (fun σ => L2N.passAt (L2N.takes_of rfl rfl rfl rfl) σ) (by exact (pa_cons pe_str pa_nil)))))
      (pss_cons (ps_if (pt_val (pe_methT (pv 0) T.cl_Reader T.M_Reader_accept (okT_Reader_accept T) (hr.mono (by first | decide | omega)) T.b_Reader_accept (fun σ => L2N.passAt (L2N.takes_of rfl rfl rfl rfl) σ) (by exact (pa_cons pe_str pa_nil))))
      (pss_one (ps_ret (pe_tup (pa_cons pe_str (pa_cons (pv 4) (pa_cons (pe_callT (okT_read_arguments T hX (by omega)) (hr.mono (by first | decide | omega)) (by rfl) T.m_read_arguments T.F_read_arguments.kp T.b_read_arguments (fun σ => L2N.passAt (L2N.takes_of rfl rfl rfl rfl) σ) (by exact (pa_cons (pv 0) (pa_cons (pv 1) pa_nil)))) (pa_cons (pv 2) pa_nil)))))))
      pss_nil)
      (pss_one (ps_ret (pe_tup (pa_cons pe_str (pa_cons (pv 4) (pa_cons (pv 2) pa_nil)))))))))))))), ?_⟩
      have q : Out K (clOf T) R k H (primM R.all R.n (E R.all R.n) (j + 1) k) Q X := q
      unfold primM at q
      refine ⟨_, rfl, R.r, _, _, rfl, ha.1, rfl, R, k, rfl, ha, ?_⟩
      refine ⟨_, rfl, R.r, _, _, rfl, ha.1, rfl, R, k, "number", rfl, ha, ⟨_, rfl, ite2 (fun hs => ?_) (fun hs => ?_)⟩⟩
      · rw [if_pos hs] at q
        exact ⟨_, rfl, _, rfl, R, k, _, rfl, ha, hs, q⟩
      rw [if_neg hs] at q
      refine ⟨_, rfl, R.r, _, _, rfl, ha.1, rfl, R, k, "true", rfl, ha, sh1 _, fun hs1 H1 g1 ha1 => ⟨_, rfl, iteT ?_⟩, fun hs1 H1 g1 ha1 => ⟨_, rfl, iteF ?_⟩⟩
      · rw [if_pos hs1] at q
        refine ⟨by show 2 ≤ sizeLine; decide, fun p np => ?_⟩
        exact Out.tup q (by omega) g1 ha1 (.cons (.str _) (.cons (.bl _) .nil)) rfl np
      rw [if_neg (by rw [hs1]; exact Bool.false_ne_true)] at q
      refine ⟨_, rfl, R.r, _, _, rfl, ha1.1, rfl, R, k, "false", rfl, ha1, sh1 _, fun hs2 H2 g2 ha2 => ⟨_, rfl, iteT ?_⟩, fun hs2 H2 g2 ha2 => ⟨_, rfl, iteF ?_⟩⟩
      · rw [if_pos hs2] at q
        refine ⟨by show 2 ≤ sizeLine; decide, fun p np => ?_⟩
        exact Out.tup q (by omega) (g1.trans g2) ha2 (.cons (.str _) (.cons (.bl _) .nil)) rfl np
      rw [if_neg (by rw [hs2]; exact Bool.false_ne_true)] at q
      have g02 := g1.trans g2
      refine ⟨_, rfl, R.r, _, _, rfl, ha2.1, rfl, R, k, "(", rfl, ha2, sh1 _, fun hs3 H3 g3 ha3 => ⟨_, rfl, iteT ?_⟩, fun hs3 H3 g3 ha3 => ⟨_, rfl, iteF ?_⟩⟩
      · rw [if_pos hs3] at q
        have g03 := g02.trans g3
        refine ⟨_, rfl, _, rfl, l, j, rfl, hl, fun h0 dd hdd => ?_, fun h1 => ?_⟩
        · subst h0
          rw [hE0] at q
          exact err_new (ErrG.go q g03) hdd
        refine ⟨R, k + 1, l + 1, rfl, h1, by omega, ha3, ?_⟩
        refine Out.step0 q g03 fun d4 k4 H4 v4 hr4 hk4 g4 ha4 hd4 hn4 q4 => ?_
        refine ⟨_, rfl, R.r, _, _, rfl, ha4.1, rfl, R, k4, ")", rfl, ha4, sh1 _, ?_⟩
        refine Out.step0 q4 (g03.trans g4) fun d5 k5 H5 v5 hr5 hk5 g5 ha5 hd5 hn5 q5 => ?_
        exact ⟨_, rfl, Out.ret q5 (by omega) ((g03.trans g4).trans g5) ha5 (dp_go g5 ha4.ins hn4 hd4) hn4⟩
      rw [if_neg (by rw [hs3]; exact Bool.false_ne_true)] at q
      have g03 := g02.trans g3
      refine ⟨_, rfl, R.r, _, _, rfl, ha3.1, rfl, R, k, "iterate", rfl, ha3, sh1 _, fun hs4 H4 g4 ha4 => ⟨_, rfl, iteT ?_⟩, fun hs4 H4 g4 ha4 => ⟨_, rfl, iteF ?_⟩⟩
      · rw [if_pos hs4] at q
        exact ⟨_, rfl, _, rfl, _, rfl, R, k + 1, l, _, rfl, hl, ha4, Out.pass (Out.go q (g03.trans g4)) (by omega)⟩
      rw [if_neg (by rw [hs4]; exact Bool.false_ne_true)] at q
      have g04 := g03.trans g4
      refine ⟨_, rfl, R.r, _, _, rfl, ha4.1, rfl, R, k, "name", rfl, ha4, sh1 _, ?_⟩
      refine Out.step0 q g04 fun d5 k5 H5 v5 hr5 hk5 g5 ha5 hd5 hn5 q5 => ?_
      have g05 := g04.trans g5
      refine ⟨_, rfl, R.r, _, _, rfl, ha5.1, rfl, R, k5, "(", rfl, ha5, sh1 _, fun hs6 H6 g6 ha6 => ⟨_, rfl, iteT ?_⟩, fun hs6 H6 g6 ha6 => ⟨_, rfl, iteF ?_⟩⟩
      · rw [if_pos hs6] at q5
        have g06 := g05.trans g6
        have hd6 := dp_go g6 ha5.ins hn5 hd5
        refine ⟨_, rfl, _, rfl, _, rfl, R, k5 + 1, l, rfl, hl, ha6, hE0 _ _, ?_⟩
        refine Out.step0 q5 g06 fun d7 k7 H7 v7 hr7 hk7 g7 ha7 hd7 hn7 q7 => ?_
        refine ⟨_, rfl, by show 4 ≤ sizeLine; decide, fun p np => ?_⟩
        exact Out.tup q7 (by omega) (g06.trans g7) ha7 (.cons (.str _) (.cons (dp_go g7 ha6.ins hn5 hd6) (.cons hd7 (.cons (.int _) .nil)))) (noLs_cons rfl (noLs_cons hn5 (noLs_cons hn7 rfl))) np
      · rw [if_neg (by rw [hs6]; exact Bool.false_ne_true)] at q5
        refine ⟨_, rfl, _, rfl, by show 3 ≤ sizeLine; decide, fun p np => ?_⟩
        exact Out.tup q5 (by omega) (g05.trans g6) ha6 (.cons (.str _) (.cons (dp_go g6 ha5.ins hn5 hd5) (.cons (.int _) .nil))) (noLs_cons rfl (noLs_cons hn5 rfl)) np
def powersF (E : Lv) : Lv := fun all n j k => powersM all n (E all n) j k
theorem okT_read_powers (T : Top w K mg) {E : Lv} {r j : Nat} (hI : FnT P w K mg base r T.a_read_primary T.fd_read_primary ["reader", "level"] (spLv K (clOf T) (primF E) j)) (h17 : 17 ≤ r) :
    FnT P w K mg base (r + 1) T.a_read_powers T.fd_read_powers ["reader", "level"] (spLv K (clOf T) (powersF E) j) := by
  refine okT T.F_read_powers sc_read_powers (fun vs H Q X h => ?_) (fun cdv A outer s H vs Q X hr h => ?_)
  · obtain ⟨R, k, l, rfl, _⟩ := h
    rfl
  · obtain ⟨R, k, l, rfl, hj, hl, ha, q⟩ := h
    refine ⟨_, (pss_cons (ps_set (i := 2) sc_read_powers.nd rfl (.inl rfl) (by exact (pe_callT hI (hr.mono (by first | decide | omega)) (by rfl) T.m_read_primary T.F_read_primary.kp T.b_read_primary (fun σ => L2N.passAt (L2N.takes_of rfl rfl rfl rfl) σ) (by exact (pa_cons (pv 0) (pa_cons (pv 1) pa_nil))))))
      (pss_cons (ps_while (passes_of rfl) (pt_val (pe_methT (pv 0) T.cl_Reader T.M_Reader_sees (okT_Reader_sees T) (hr.mono (by first | decide | omega)) T.b_Reader_sees (fun σ => L2N.passAt (L2N.takes_of rfl rfl rfl rfl) σ) (by exact (pa_cons (pe_tup (pa_cons pe_str pa_nil)) pa_nil))))
      (pss_cons (ps_set (i := 3) sc_read_powers.nd rfl (.inl rfl) (by exact (pe_meth0T (pv 0) T.cl_Reader T.M_Reader_where (okT_Reader_where T) (hr.mono (by first | decide | omega)) T.b_Reader_where (fun σ => L2N.passAt (L2N.takes_of rfl rfl rfl rfl) σ))))
      (pss_cons (ps_expr (pe_methT (pv 0) T.cl_Reader T.M_Reader_expect (okT_Reader_expect T) (hr.mono (by first | decide | omega)) T.b_Reader_expect (fun σ => L2N.passAt (L2N.takes_of rfl rfl rfl rfl) σ) (by exact (pa_cons pe_str pa_nil))))
      (pss_cons (ps_set (i := 1) sc_read_powers.nd rfl (.inl rfl) (by exact (pe_callT (okT_deeper T) (hr.mono (by first | decide | omega)) (by rfl) T.m_deeper T.F_deeper.kp T.b_deeper (fun σ => L2N.passAt (L2N.takes_of rfl rfl rfl rfl) σ) (by exact (pa_cons (pv 1) pa_nil)))))
      (pss_one (ps_set (i := 2) sc_read_powers.nd rfl (.inl rfl) (by exact (pe_tup (pa_cons pe_str (pa_cons (pv 2) (pa_cons (pe_callT (okT_read_power T) (hr.mono (by first | decide | omega)) (by rfl) T.m_read_power T.F_read_power.kp T.b_read_power (fun σ => L2N.passAt (L2N.takes_of rfl rfl rfl rfl) σ) (by exact (pa_cons (pv 0) pa_nil))) (pa_cons (pv 3) pa_nil))))))))))))
      (pss_one (ps_ret (pv 2))))), ?_⟩
    have q : Out K (clOf T) R k H (powersM R.all R.n (E R.all R.n) j k) Q X := q
    unfold powersM at q
    refine ⟨_, rfl, _, rfl, R, k, l, rfl, hj, hl, ha, ?_⟩
    refine Out.step0 q (Go.refl _ _) fun d1 k1 H1 v1 hr1 hk1 g1 ha1 hd1 hn1 q1 => ?_
    clear q
    refine ⟨fun m' σ H' => ∃ (k' l' : Nat) (v : V) (d : PyData) (y3 : Option V), σ = [some (.ref R.r), some (.int (l' : Int)), some v, y3] ∧ k ≤ k' ∧ 1 ≤ m' ∧ l' + m' = 25 ∧
      R.at_ K (clOf T).rd H' k' ∧ Go R.r H H' ∧ Dp K H' v d ∧ noL d = true ∧ Out K (clOf T) R k H (powL R.all R.n m' d k') Q X,
      ⟨j, k1, l, v1, d1, none, rfl, hk1, hj, hl, ha1, g1, hd1, hn1, q1⟩, ?_⟩
    clear q1 hd1 ha1 g1
    rintro m2 σ H2 ⟨k2, l2, v2, d2, y3, rfl, hk2, h1m, hl2, ha2, g2, hd2, hn2, q⟩
    obtain ⟨m3, rfl⟩ : ∃ m3, m2 = m3 + 1 := ⟨m2 - 1, by omega⟩
    unfold powL at q
    refine ⟨_, rfl, R.r, _, _, rfl, ha2.1, rfl, by show 1 ≤ sizeLine; decide, fun p np => ?_⟩
    have hs0 := Ly.same_new (o := .tup [.str "^"]) np
    have ha3 := ha2.same hs0
    have g3 := g2.trans (go_same hs0)
    have hd3 := dp_same hs0 hn2 hd2
    refine ⟨R, k2, p, ["^"], rfl, ha3, SqT.of upd_same, sh1 _, ⟨_, rfl, ite2 (fun hs => ?_) (fun hs => ?_)⟩⟩
    · rw [if_pos hs] at q
      refine ⟨fun σ' H' => ∃ (k' l' : Nat) (v : V) (d : PyData) (y3 : Option V), σ' = [some (.ref R.r), some (.int (l' : Int)), some v, y3] ∧ k ≤ k' ∧ 1 ≤ m3 ∧ l' + m3 = 25 ∧
        R.at_ K (clOf T).rd H' k' ∧ Go R.r H H' ∧ Dp K H' v d ∧ noL d = true ∧ Out K (clOf T) R k H (powL R.all R.n m3 d k') Q X, fun σ' H' hN => ⟨m3, by omega, hN⟩, ?_⟩
      refine ⟨_, rfl, R.r, _, _, rfl, ha3.1, rfl, R, k2, rfl, ha3, ?_⟩
      refine ⟨_, rfl, R.r, _, _, rfl, ha3.1, rfl, R, k2, "^", rfl, ha3, sh1 _, ?_⟩
      show Out K (clOf T) R k2 _ (expectS R.all R.n "^" k2) _ _
      unfold expectS
      rw [if_pos hs]
      intro hk4 H4 v4 g4 ha4 hd4 hn4
      refine ⟨_, rfl, l2, m3, rfl, hl2, fun h0 dd hdd => ?_, fun h1 => ?_⟩
      · rw [if_pos h0] at q
        exact err_new (ErrG.go q (g3.trans g4)) hdd
      · rw [if_neg (by omega)] at q
        refine ⟨_, rfl, _, rfl, R, k2 + 1, rfl, ha4, ?_⟩
        refine Out.step0 q (g3.trans g4) fun d5 k5 H5 v5 hr5 hk5 g5 ha5 hd5 hn5 q5 => ?_
        have hd35 := dp_go (g4.trans g5) ha3.ins hn2 hd3
        refine ⟨_, rfl, by show 4 ≤ sizeLine; decide, fun t nt => ?_⟩
        have sm := Ly.same_new (o := .tup [.str "power", v2, v5, .int (wh R.all R.n k2 : Int)]) nt
        refine ⟨k5, l2 + 1, _, .tuple [.str "power", d2, d5, .int (wh R.all R.n k2 : Int)], _, rfl, by omega, h1, by omega, ha5.same sm, ((g3.trans g4).trans g5).trans (go_new nt), ?_, (show noL (.tuple _) = true from node_no hn2 hn5), q5⟩
        exact .tup (SqT.of upd_same) (dps_keep (sqt_same sm) _ _ (node_no hn2 hn5) (.cons (.str _) (.cons hd35 (.cons hd5 (.cons (.int _) .nil)))))
    · rw [if_neg hs] at q
      exact ⟨_, rfl, Out.ret q (by omega) g3 ha3 hd3 hn2⟩
def spIf (K : PySem.W.Frag) (c : Cl) (f : List (Tkn × Nat) → Nat → (Nat → Res) → Nat → Nat → Res) (E : Lv) (j : Nat) : Sp := fun vs H Q X => ∃ (R : RS) (k l a : Nat), vs = [.ref R.r, .int (l : Int), .int (a : Int)] ∧ l + (j + 1) = 25 ∧ R.at_ K c.rd H k ∧ E R.all R.n 0 = (fun _ => .error .over) ∧ Out K c R k H (f R.all R.n (E R.all R.n j) a k) Q X
theorem okT_read_if (T : Top w K mg) {E : Lv} {r j : Nat} (hX : FnT P w K mg base r T.a_read_expression T.fd_read_expression ["reader", "level"] (spLv K (clOf T) E j)) (h16 : 16 ≤ r) :
    FnT P w K mg base (r + 1) T.a_read_if T.fd_read_if ["reader", "level", "at"] (spIf K (clOf T) ifM E j) := by
  refine okT T.F_read_if sc_read_if (fun vs H Q X h => ?_) (fun cdv A outer s H vs Q X hr h => ?_)
  · obtain ⟨R, k, l, a, rfl, _⟩ := h
    rfl
  · obtain ⟨R, k, l, a, rfl, hl, ha, hE0, q⟩ := h
    refine ⟨_, (pss_cons (ps_set (i := 3) sc_read_if.nd rfl (.inl rfl) (by exact (pe_callT hX (hr.mono (by first | decide | omega)) (by rfl) T.m_read_expression T.F_read_expression.kp T.b_read_expression (fun σ => L2N.passAt (L2N.takes_of rfl rfl rfl rfl) σ) (by exact (pa_cons (pv 0) (pa_cons (pe_callT (okT_deeper T) (hr.mono (by first | decide | omega)) (by rfl) T.m_deeper T.F_deeper.kp T.b_deeper (fun σ => L2N.passAt (L2N.takes_of rfl rfl rfl rfl) σ) (by exact (pa_cons (pv 1) pa_nil))) pa_nil))))))
      (pss_cons (ps_expr (pe_methT (pv 0) T.cl_Reader T.M_Reader_expect (okT_Reader_expect T) (hr.mono (by first | decide | omega)) T.b_Reader_expect (fun σ => L2N.passAt (L2N.takes_of rfl rfl rfl rfl) σ) (by exact (pa_cons pe_str pa_nil))))
      (pss_cons (ps_set (i := 4) sc_read_if.nd rfl (.inl rfl) (by exact (pe_callT hX (hr.mono (by first | decide | omega)) (by rfl) T.m_read_expression T.F_read_expression.kp T.b_read_expression (fun σ => L2N.passAt (L2N.takes_of rfl rfl rfl rfl) σ) (by exact (pa_cons (pv 0) (pa_cons (pe_callT (okT_deeper T) (hr.mono (by first | decide | omega)) (by rfl) T.m_deeper T.F_deeper.kp T.b_deeper (fun σ => L2N.passAt (L2N.takes_of rfl rfl rfl rfl) σ) (by exact (pa_cons (pv 1) pa_nil))) pa_nil))))))
      (pss_cons (ps_expr (pe_methT (pv 0) T.cl_Reader T.M_Reader_expect (okT_Reader_expect T) (hr.mono (by first | decide | omega)) T.b_Reader_expect (fun σ => L2N.passAt (L2N.takes_of rfl rfl rfl rfl) σ) (by exact (pa_cons pe_str pa_nil))))
      (pss_cons (ps_set (i := 5) sc_read_if.nd rfl (.inl rfl) (by exact (pe_callT hX (hr.mono (by first | decide | omega)) (by rfl) T.m_read_expression T.F_read_expression.kp T.b_read_expression (fun σ => L2N.passAt (L2N.takes_of rfl rfl rfl rfl) σ) (by exact (pa_cons (pv 0) (pa_cons (pe_callT (okT_deeper T) (hr.mono (by first | decide | omega)) (by rfl) T.m_deeper T.F_deeper.kp T.b_deeper (fun σ => L2N.passAt (L2N.takes_of rfl rfl rfl rfl) σ) (by exact (pa_cons (pv 1) pa_nil))) pa_nil))))))
      (pss_one (ps_ret (pe_tup (pa_cons pe_str (pa_cons (pv 3) (pa_cons (pv 4) (pa_cons (pv 5) (pa_cons (pv 2) pa_nil))))))))))))), ?_⟩
    unfold ifM at q
    refine ⟨_, rfl, _, rfl, l, j, rfl, hl, fun h0 dd hdd => ?_, fun h1 => ?_⟩
    · subst h0
      rw [hE0] at q
      exact err_new q hdd
    refine ⟨R, k, l + 1, rfl, h1, by omega, ha, ?_⟩
    refine Out.step q fun d1 k1 H1 v1 hr1 hk1 g1 ha1 hd1 hn1 q1 => ?_
    refine ⟨_, rfl, R.r, _, _, rfl, ha1.1, rfl, R, k1, "then", rfl, ha1, sh1 _, ?_⟩
    refine Out.step q1 fun d2 k2 H2 v2 hr2 hk2 g2 ha2 hd2 hn2 q2 => ?_
    refine ⟨_, rfl, _, rfl, l, j, rfl, hl, fun h0 dd hdd => absurd h0 (by omega), fun h1 => ?_⟩
    refine ⟨R, k2, l + 1, rfl, h1, by omega, ha2, ?_⟩
    refine Out.step q2 fun d3 k3 H3 v3 hr3 hk3 g3 ha3 hd3 hn3 q3 => ?_
    refine ⟨_, rfl, R.r, _, _, rfl, ha3.1, rfl, R, k3, "else", rfl, ha3, sh1 _, ?_⟩
    refine Out.step q3 fun d4 k4 H4 v4 hr4 hk4 g4 ha4 hd4 hn4 q4 => ?_
    refine ⟨_, rfl, _, rfl, l, j, rfl, hl, fun h0 dd hdd => absurd h0 (by omega), fun h1 => ?_⟩
    refine ⟨R, k4, l + 1, rfl, h1, by omega, ha4, ?_⟩
    refine Out.step q4 fun d5 k5 H5 v5 hr5 hk5 g5 ha5 hd5 hn5 q5 => ?_
    refine ⟨_, rfl, _, rfl, _, rfl, _, rfl, by show 5 ≤ sizeLine; decide, fun p np => ?_⟩
    exact Out.tup q5 (by omega) (Go.refl _ _) ha5 (.cons (.str _) (.cons (dp_go (((g2.trans g3).trans g4).trans g5) ha1.ins hn1 hd1) (.cons (dp_go (g4.trans g5) ha3.ins hn3 hd3) (.cons hd5 (.cons (.int _) .nil)))))
      (noLs_cons rfl (noLs_cons hn1 (noLs_cons hn3 (noLs_cons hn5 rfl)))) np
theorem okT_read_let (T : Top w K mg) {E : Lv} {r j : Nat} (hX : FnT P w K mg base r T.a_read_expression T.fd_read_expression ["reader", "level"] (spLv K (clOf T) E j)) (h16 : 16 ≤ r) :
    FnT P w K mg base (r + 1) T.a_read_let T.fd_read_let ["reader", "level", "at"] (spIf K (clOf T) letM E j) := by
  refine okT T.F_read_let sc_read_let (fun vs H Q X h => ?_) (fun cdv A outer s H vs Q X hr h => ?_)
  · obtain ⟨R, k, l, a, rfl, _⟩ := h
    rfl
  · obtain ⟨R, k, l, a, rfl, hl, ha, hE0, q⟩ := h
    refine ⟨_, (pss_cons (ps_set (i := 3) sc_read_let.nd rfl (.inl rfl) (by exact (pe_methT (pv 0) T.cl_Reader T.M_Reader_expect_kind (okT_Reader_expect_kind T) (hr.mono (by first | decide | omega)) T.b_Reader_expect_kind (fun σ => L2N.passAt (L2N.takes_of rfl rfl rfl rfl) σ) (by exact (pa_cons pe_str pa_nil)))))
      (pss_cons (ps_expr (pe_methT (pv 0) T.cl_Reader T.M_Reader_expect (okT_Reader_expect T) (hr.mono (by first | decide | omega)) T.b_Reader_expect (fun σ => L2N.passAt (L2N.takes_of rfl rfl rfl rfl) σ) (by exact (pa_cons pe_str pa_nil))))
      (pss_cons (ps_set (i := 4) sc_read_let.nd rfl (.inl rfl) (by exact (pe_callT hX (hr.mono (by first | decide | omega)) (by rfl) T.m_read_expression T.F_read_expression.kp T.b_read_expression (fun σ => L2N.passAt (L2N.takes_of rfl rfl rfl rfl) σ) (by exact (pa_cons (pv 0) (pa_cons (pe_callT (okT_deeper T) (hr.mono (by first | decide | omega)) (by rfl) T.m_deeper T.F_deeper.kp T.b_deeper (fun σ => L2N.passAt (L2N.takes_of rfl rfl rfl rfl) σ) (by exact (pa_cons (pv 1) pa_nil))) pa_nil))))))
      (pss_cons (ps_expr (pe_methT (pv 0) T.cl_Reader T.M_Reader_expect (okT_Reader_expect T) (hr.mono (by first | decide | omega)) T.b_Reader_expect (fun σ => L2N.passAt (L2N.takes_of rfl rfl rfl rfl) σ) (by exact (pa_cons pe_str pa_nil))))
      (pss_cons (ps_set (i := 5) sc_read_let.nd rfl (.inl rfl) (by exact (pe_callT hX (hr.mono (by first | decide | omega)) (by rfl) T.m_read_expression T.F_read_expression.kp T.b_read_expression (fun σ => L2N.passAt (L2N.takes_of rfl rfl rfl rfl) σ) (by exact (pa_cons (pv 0) (pa_cons (pe_callT (okT_deeper T) (hr.mono (by first | decide | omega)) (by rfl) T.m_deeper T.F_deeper.kp T.b_deeper (fun σ => L2N.passAt (L2N.takes_of rfl rfl rfl rfl) σ) (by exact (pa_cons (pv 1) pa_nil))) pa_nil))))))
      (pss_one (ps_ret (pe_tup (pa_cons pe_str (pa_cons (pv 3) (pa_cons (pv 4) (pa_cons (pv 5) (pa_cons (pv 2) pa_nil))))))))))))), ?_⟩
    unfold letM at q
    refine ⟨_, rfl, R.r, _, _, rfl, ha.1, rfl, R, k, "name", rfl, ha, sh1 _, ?_⟩
    refine Out.step q fun d1 k1 H1 v1 hr1 hk1 g1 ha1 hd1 hn1 q1 => ?_
    refine ⟨_, rfl, R.r, _, _, rfl, ha1.1, rfl, R, k1, "=", rfl, ha1, sh1 _, ?_⟩
    refine Out.step q1 fun d2 k2 H2 v2 hr2 hk2 g2 ha2 hd2 hn2 q2 => ?_
    refine ⟨_, rfl, _, rfl, l, j, rfl, hl, fun h0 dd hdd => ?_, fun h1 => ?_⟩
    · subst h0
      rw [hE0] at q2
      exact err_new q2 hdd
    refine ⟨R, k2, l + 1, rfl, h1, by omega, ha2, ?_⟩
    refine Out.step q2 fun d3 k3 H3 v3 hr3 hk3 g3 ha3 hd3 hn3 q3 => ?_
    refine ⟨_, rfl, R.r, _, _, rfl, ha3.1, rfl, R, k3, "in", rfl, ha3, sh1 _, ?_⟩
    refine Out.step q3 fun d4 k4 H4 v4 hr4 hk4 g4 ha4 hd4 hn4 q4 => ?_
    refine ⟨_, rfl, _, rfl, l, j, rfl, hl, fun h0 dd hdd => absurd h0 (by omega), fun h1 => ?_⟩
    refine ⟨R, k4, l + 1, rfl, h1, by omega, ha4, ?_⟩
    refine Out.step q4 fun d5 k5 H5 v5 hr5 hk5 g5 ha5 hd5 hn5 q5 => ?_
    refine ⟨_, rfl, _, rfl, _, rfl, _, rfl, by show 5 ≤ sizeLine; decide, fun p np => ?_⟩
    exact Out.tup q5 (by omega) (Go.refl _ _) ha5 (.cons (.str _) (.cons (dp_go (((g2.trans g3).trans g4).trans g5) ha1.ins hn1 hd1) (.cons (dp_go (g4.trans g5) ha3.ins hn3 hd3) (.cons hd5 (.cons (.int _) .nil)))))
      (noLs_cons rfl (noLs_cons hn1 (noLs_cons hn3 (noLs_cons hn5 rfl)))) np
end
end Tk

namespace Tk
open PySem PySem.Spec PyProof.Rows L2 Ly Lx TL Px
/-! ### the levels of an expression -/
section
variable {P : Program} {w : World} {K : PySem.W.Frag} {mg : Str → Option Value} {base : Heap}
def factorsF (E : Lv) : Lv := fun all n j k => factorsM all n (E all n) j k
def termsF (E : Lv) : Lv := fun all n j k => termsM all n (E all n) j k
def plainF (E : Lv) : Lv := fun all n j k => plainM all n (E all n) j k
def bothF (E : Lv) : Lv := fun all n j k => bothM all n (E all n) j k
def exprF (E : Lv) : Lv := fun all n j k => exprM all n (E all n) j k
theorem okT_read_factors (T : Top w K mg) {E : Lv} {r j : Nat} (hC : FnT P w K mg base r T.a_read_chain T.fd_read_chain ["reader", "level", "operators", "read_part"] (spCh K (clOf T) T.a_read_powers ["*", "/"] (powersF E) j)) :
    FnT P w K mg base (r + 1) T.a_read_factors T.fd_read_factors ["reader", "level"] (spLv K (clOf T) (factorsF E) j) := by
  refine okT T.F_read_factors sc_read_factors (fun vs H Q X h => ?_) (fun cdv A outer s H vs Q X hr h => ?_)
  · obtain ⟨R, k, l, rfl, _⟩ := h
    rfl
  · obtain ⟨R, k, l, rfl, hj, hl, ha, q⟩ := h
    refine ⟨_, (pss_one (ps_ret (pe_callT hC (hr.mono (by first | decide | omega)) (by rfl) T.m_read_chain T.F_read_chain.kp T.b_read_chain (fun σ => L2N.passAt (L2N.takes_of rfl rfl rfl rfl) σ) (by exact (pa_cons (pv 0) (pa_cons (pv 1) (pa_cons (pe_tup (pa_cons pe_str (pa_cons pe_str pa_nil))) (pa_cons (pe_glob (v := .ref T.a_read_powers) (by rfl) T.m_read_powers rfl) pa_nil)))))))), ?_⟩
    refine ⟨_, rfl, _, rfl, by show 2 ≤ sizeLine; decide, fun p np => ?_⟩
    have sm := Ly.same_new (o := .tup [.str "*", .str "/"]) np
    exact ⟨R, k, l, j, p, rfl, Nat.le_refl _, hj, hl, ha.same sm, SqT.of upd_same, Out.go q (go_same sm)⟩
theorem okT_read_terms (T : Top w K mg) {E : Lv} {r j : Nat} (hC : FnT P w K mg base r T.a_read_chain T.fd_read_chain ["reader", "level", "operators", "read_part"] (spCh K (clOf T) T.a_read_factors ["+", "-"] (factorsF E) j)) :
    FnT P w K mg base (r + 1) T.a_read_terms T.fd_read_terms ["reader", "level"] (spLv K (clOf T) (termsF E) j) := by
  refine okT T.F_read_terms sc_read_terms (fun vs H Q X h => ?_) (fun cdv A outer s H vs Q X hr h => ?_)
  · obtain ⟨R, k, l, rfl, _⟩ := h
    rfl
  · obtain ⟨R, k, l, rfl, hj, hl, ha, q⟩ := h
    refine ⟨_, (pss_one (ps_ret (pe_callT hC (hr.mono (by first | decide | omega)) (by rfl) T.m_read_chain T.F_read_chain.kp T.b_read_chain (fun σ => L2N.passAt (L2N.takes_of rfl rfl rfl rfl) σ) (by exact (pa_cons (pv 0) (pa_cons (pv 1) (pa_cons (pe_tup (pa_cons pe_str (pa_cons pe_str pa_nil))) (pa_cons (pe_glob (v := .ref T.a_read_factors) (by rfl) T.m_read_factors rfl) pa_nil)))))))), ?_⟩
    refine ⟨_, rfl, _, rfl, by show 2 ≤ sizeLine; decide, fun p np => ?_⟩
    have sm := Ly.same_new (o := .tup [.str "+", .str "-"]) np
    exact ⟨R, k, l, j, p, rfl, Nat.le_refl _, hj, hl, ha.same sm, SqT.of upd_same, Out.go q (go_same sm)⟩
theorem okT_read_both (T : Top w K mg) {E : Lv} {r j : Nat} (hC : FnT P w K mg base r T.a_read_chain T.fd_read_chain ["reader", "level", "operators", "read_part"] (spCh K (clOf T) T.a_read_plain ["and"] (plainF E) j)) :
    FnT P w K mg base (r + 1) T.a_read_both T.fd_read_both ["reader", "level"] (spLv K (clOf T) (bothF E) j) := by
  refine okT T.F_read_both sc_read_both (fun vs H Q X h => ?_) (fun cdv A outer s H vs Q X hr h => ?_)
  · obtain ⟨R, k, l, rfl, _⟩ := h
    rfl
  · obtain ⟨R, k, l, rfl, hj, hl, ha, q⟩ := h
    refine ⟨_, (pss_one (ps_ret (pe_callT hC (hr.mono (by first | decide | omega)) (by rfl) T.m_read_chain T.F_read_chain.kp T.b_read_chain (fun σ => L2N.passAt (L2N.takes_of rfl rfl rfl rfl) σ) (by exact (pa_cons (pv 0) (pa_cons (pv 1) (pa_cons (pe_tup (pa_cons pe_str pa_nil)) (pa_cons (pe_glob (v := .ref T.a_read_plain) (by rfl) T.m_read_plain rfl) pa_nil)))))))), ?_⟩
    refine ⟨_, rfl, _, rfl, by show 1 ≤ sizeLine; decide, fun p np => ?_⟩
    have sm := Ly.same_new (o := .tup [.str "and"]) np
    exact ⟨R, k, l, j, p, rfl, Nat.le_refl _, hj, hl, ha.same sm, SqT.of upd_same, Out.go q (go_same sm)⟩
theorem okT_read_plain (T : Top w K mg) {E : Lv} : ∀ j, (∀ i, i ≤ j → FnT P w K mg base (13 * i + 23) T.a_read_terms T.fd_read_terms ["reader", "level"] (spLv K (clOf T) (termsF E) i)) →
    FnT P w K mg base (13 * j + 24) T.a_read_plain T.fd_read_plain ["reader", "level"] (spLv K (clOf T) (plainF E) j)
  | 0, _ => FnT.none fun vs H Q X h => by
    obtain ⟨R, k, l, _, h, _⟩ := h
    omega
  | j + 1, hT => by
    have hN := okT_read_plain T j fun i hi => hT i (by omega)
    have hS := FnT.le (r := fun i => 13 * i + 23) (m := j + 1) (fun i hi => by omega) hT
    refine okT T.F_read_plain sc_read_plain (fun vs H Q X h => ?_) (fun cdv A outer s H vs Q X hr h => ?_)
    · obtain ⟨R, k, l, rfl, _⟩ := h
      rfl
    · obtain ⟨R, k, l, rfl, hj, hl, ha, q⟩ := h
      refine ⟨_, (pss_cons (ps_set (i := 2) sc_read_plain.nd rfl (.inl rfl) (by exact (pe_meth0T (pv 0) T.cl_Reader T.M_Reader_where (okT_Reader_where T) (hr.mono (by first | decide | omega)) T.b_Reader_where (fun σ => L2N.passAt (L2N.takes_of rfl rfl rfl rfl) σ))))
      (pss_cons (ps_if (pt_val (pe_methT (pv 0) T.cl_Reader T.M_Reader_accept (okT_Reader_accept T) (hr.mono (by first | decide | omega)) T.b_Reader_accept (fun σ => L2N.passAt (L2N.takes_of rfl rfl rfl rfl) σ) (by exact (pa_cons pe_str pa_nil))))
      (pss_one (ps_ret (pe_tup (pa_cons pe_str (pa_cons (pe_callT hN (hr.mono (by first | decide | omega)) (by rfl) T.m_read_plain T.F_read_plain.kp T.b_read_plain (fun σ => L2N.passAt (L2N.takes_of rfl rfl rfl rfl) σ) (by exact (pa_cons (pv 0) (pa_cons (pe_callT (okT_deeper T) (hr.mono (by first | decide | omega)) (by rfl) T.m_deeper T.F_deeper.kp T.b_deeper (fun σ => L2N.passAt (L2N.takes_of rfl rfl rfl rfl) σ) (by exact (pa_cons (pv 1) pa_nil))) pa_nil)))) (pa_cons (pv 2) pa_nil))))))
      pss_nil)
      (pss_cons (ps_set (i := 3) sc_read_plain.nd rfl (.inl rfl) (by exact (pe_callT hS (hr.mono (by first | decide | omega)) (by rfl) T.m_read_terms T.F_read_terms.kp T.b_read_terms (fun σ => L2N.passAt (L2N.takes_of rfl rfl rfl rfl) σ) (by exact (pa_cons (pv 0) (pa_cons (pv 1) pa_nil))))))
      (pss_cons (ps_if (pt_not (pt_val (pe_methT (pv 0) T.cl_Reader T.M_Reader_sees (okT_Reader_sees T) (hr.mono (by first | decide | omega)) T.b_Reader_sees (fun σ => L2N.passAt (L2N.takes_of rfl rfl rfl rfl) σ) (by exact (pa_cons (pe_glob (v := .ref T.a_COMPARISONS) (by rfl) T.c_COMPARISONS rfl) pa_nil)))))
      (pss_one (ps_ret (pv 3)))
      pss_nil)
      (pss_cons (ps_set (i := 2) sc_read_plain.nd rfl (.inl rfl) (by exact (pe_meth0T (pv 0) T.cl_Reader T.M_Reader_where (okT_Reader_where T) (hr.mono (by first | decide | omega)) T.b_Reader_where (fun σ => L2N.passAt (L2N.takes_of rfl rfl rfl rfl) σ))))
      (pss_cons (ps_set (i := 4) sc_read_plain.nd rfl (.inl rfl) (by exact (pe_ix ix_kdict (pe_glob (v := .ref T.a_OPERATIONS) (by rfl) T.c_OPERATIONS rfl) (pe_meth0T (pv 0) T.cl_Reader T.M_Reader_take (okT_Reader_take T) (hr.mono (by first | decide | omega)) T.b_Reader_take (fun σ => L2N.passAt (L2N.takes_of rfl rfl rfl rfl) σ)) (fun _ _ => rfl))))
      (pss_one (ps_ret (pe_tup (pa_cons (pv 4) (pa_cons (pv 3) (pa_cons (pe_callT hS (hr.mono (by first | decide | omega)) (by rfl) T.m_read_terms T.F_read_terms.kp T.b_read_terms (fun σ => L2N.passAt (L2N.takes_of rfl rfl rfl rfl) σ) (by exact (pa_cons (pv 0) (pa_cons (pe_callT (okT_deeper T) (hr.mono (by first | decide | omega)) (by rfl) T.m_deeper T.F_deeper.kp T.b_deeper (fun σ => L2N.passAt (L2N.takes_of rfl rfl rfl rfl) σ) (by exact (pa_cons (pv 1) pa_nil))) pa_nil)))) (pa_cons (pv 2) pa_nil))))))))))))), ?_⟩
      have q : Out K (clOf T) R k H (plainM R.all R.n (E R.all R.n) (j + 1) k) Q X := q
      unfold plainM at q
      refine ⟨_, rfl, R.r, _, _, rfl, ha.1, rfl, R, k, rfl, ha, ?_⟩
      refine ⟨_, rfl, R.r, _, _, rfl, ha.1, rfl, R, k, "not", rfl, ha, sh1 _, fun hs1 H1 g1 ha1 => ⟨_, rfl, iteT ?_⟩, fun hs1 H1 g1 ha1 => ⟨_, rfl, iteF ?_⟩⟩
      · rw [if_pos hs1] at q
        refine ⟨_, rfl, _, rfl, l, j, rfl, hl, fun h0 dd hdd => ?_, fun h1 => ?_⟩
        · subst h0
          exact err_new (ErrG.go (show ErrG _ _ _ _ _ _ from q) g1) hdd
        refine ⟨R, k + 1, l + 1, rfl, h1, by omega, ha1, ?_⟩
        refine Out.step0 q g1 fun d2 k2 H2 v2 hr2 hk2 g2 ha2 hd2 hn2 q2 => ?_
        refine ⟨_, rfl, by show 3 ≤ sizeLine; decide, fun p np => ?_⟩
        exact Out.tup q2 (by omega) (g1.trans g2) ha2 (.cons (.str _) (.cons hd2 (.cons (.int _) .nil))) (noLs_cons rfl (noLs_cons hn2 rfl)) np
      rw [if_neg (by rw [hs1]; exact Bool.false_ne_true)] at q
      refine ⟨_, rfl, _, rfl, j + 1, Nat.le_refl _, R, k, l, rfl, by omega, hl, ha1, ?_⟩
      refine Out.step0 q g1 fun d2 k2 H2 v2 hr2 hk2 g2 ha2 hd2 hn2 q2 => ?_
      refine ⟨_, rfl, R.r, _, _, rfl, ha2.1, rfl, R, k2, T.a_COMPARISONS, ["<", "<=", "=="], rfl, ha2, T.s_COMPARISONS _, shs _, ⟨_, rfl, ite2 (fun hs3 => ?_) (fun hs3 => ?_)⟩⟩
      · have hs3 : ¬ seesB R.all ["<", "<=", "=="] k2 = true := by simpa using hs3
        rw [if_neg hs3] at q2
        exact ⟨_, rfl, Out.ret q2 (by omega) (g1.trans g2) ha2 hd2 hn2⟩
      · have hs3 : seesB R.all ["<", "<=", "=="] k2 = true := by simpa using hs3
        rw [if_pos hs3] at q2
        obtain ⟨es, hin⟩ := sees_str hs3
        refine ⟨_, rfl, R.r, _, _, rfl, ha2.1, rfl, R, k2, rfl, ha2, ?_⟩
        refine ⟨_, rfl, R.r, _, _, rfl, ha2.1, rfl, R, k2, rfl, ha2, sees_lt hs3, fun H3 v3 g3 ha3 hd3 hx3 => ?_⟩
        obtain rfl := hx3 _ es
        have hop : Px.strAt R.all k2 ∈ opers := by
          simp only [List.mem_cons, List.not_mem_nil, or_false] at hin ⊢
          rcases hin with h | h | h
          · exact .inr (.inr (.inl h))
          · exact .inr (.inr (.inr (.inl h)))
          · exact .inr (.inr (.inr (.inr (.inl h))))
        refine ⟨_, _, _, rfl, rfl, opD T hop, ?_⟩
        have g03 := (g1.trans g2).trans g3
        refine ⟨_, rfl, _, rfl, _, rfl, _, rfl, l, j, rfl, hl, fun h0 dd hdd => ?_, fun h1 => ?_⟩
        · subst h0
          exact err_new (ErrG.go (show ErrG _ _ _ _ _ _ from q2) g03) hdd
        refine ⟨j, by omega, R, k2 + 1, l + 1, rfl, h1, by omega, ha3, ?_⟩
        refine Out.step0 q2 g03 fun d4 k4 H4 v4 hr4 hk4 g4 ha4 hd4 hn4 q4 => ?_
        refine ⟨_, rfl, by show 4 ≤ sizeLine; decide, fun p np => ?_⟩
        exact Out.tup q4 (by omega) (g03.trans g4) ha4 (.cons (.str _) (.cons (dp_go (g3.trans g4) ha2.ins hn2 hd2) (.cons hd4 (.cons (.int _) .nil)))) (node_no hn2 hn4) np
theorem okT_read_expression (T : Top w K mg) {E : Lv} (hE0 : ∀ all n, E all n 0 = fun _ => .error .over) {r j : Nat} (hX : FnT P w K mg base r T.a_read_expression T.fd_read_expression ["reader", "level"] (spLv K (clOf T) E j)) {r2 : Nat}
    (hC : FnT P w K mg base r2 T.a_read_chain T.fd_read_chain ["reader", "level", "operators", "read_part"] (spCh K (clOf T) T.a_read_both ["or"] (bothF E) (j + 1))) (h16 : 16 ≤ r) (hr2 : r + 1 ≤ r2) :
    FnT P w K mg base (r2 + 1) T.a_read_expression T.fd_read_expression ["reader", "level"] (spLv K (clOf T) (exprF E) (j + 1)) := by
  refine okT T.F_read_expression sc_read_expression (fun vs H Q X h => ?_) (fun cdv A outer s H vs Q X hr h => ?_)
  · obtain ⟨R, k, l, rfl, _⟩ := h
    rfl
  · obtain ⟨R, k, l, rfl, hj, hl, ha, q⟩ := h
    refine ⟨_, (pss_cons (ps_set (i := 2) sc_read_expression.nd rfl (.inl rfl) (by exact (pe_meth0T (pv 0) T.cl_Reader T.M_Reader_where (okT_Reader_where T) (hr.mono (by first | decide | omega)) T.b_Reader_where (fun σ => L2N.passAt (L2N.takes_of rfl rfl rfl rfl) σ))))
      (pss_cons (ps_if (pt_val (pe_methT (pv 0) T.cl_Reader T.M_Reader_accept (okT_Reader_accept T) (hr.mono (by first | decide | omega)) T.b_Reader_accept (fun σ => L2N.passAt (L2N.takes_of rfl rfl rfl rfl) σ) (by exact (pa_cons pe_str pa_nil))))
      (pss_one (ps_ret (pe_callT (okT_read_if T hX (by omega)) (hr.mono (by first | decide | omega)) (by rfl) T.m_read_if T.F_read_if.kp T.b_read_if (fun σ => L2N.passAt (L2N.takes_of rfl rfl rfl rfl) σ) (by exact (pa_cons (pv 0) (pa_cons (pv 1) (pa_cons (pv 2) pa_nil)))))))
      pss_nil)
      (pss_cons (ps_if (pt_val (pe_methT (pv 0) T.cl_Reader T.M_Reader_accept (okT_Reader_accept T) (hr.mono (by first | decide | omega)) T.b_Reader_accept (fun σ => L2N.passAt (L2N.takes_of rfl rfl rfl rfl) σ) (by exact (pa_cons pe_str pa_nil))))
      (pss_one (ps_ret (pe_callT (okT_read_let T hX (by omega)) (hr.mono (by first | decide | omega)) (by rfl) T.m_read_let T.F_read_let.kp T.b_read_let (fun σ => L2N.passAt (L2N.takes_of rfl rfl rfl rfl) σ) (by exact (pa_cons (pv 0) (pa_cons (pv 1) (pa_cons (pv 2) pa_nil)))))))
      pss_nil)
      (pss_one (ps_ret (pe_callT hC (hr.mono (by first | decide | omega)) (by rfl) T.m_read_chain T.F_read_chain.kp T.b_read_chain (fun σ => L2N.passAt (L2N.takes_of rfl rfl rfl rfl) σ) (by exact (pa_cons (pv 0) (pa_cons (pv 1) (pa_cons (pe_tup (pa_cons pe_str pa_nil)) (pa_cons (pe_glob (v := .ref T.a_read_both) (by rfl) T.m_read_both rfl) pa_nil))))))))))), ?_⟩
    have q : Out K (clOf T) R k H (exprM R.all R.n (E R.all R.n) (j + 1) k) Q X := q
    unfold exprM at q
    dsimp only at q
    refine ⟨_, rfl, R.r, _, _, rfl, ha.1, rfl, R, k, rfl, ha, ?_⟩
    refine ⟨_, rfl, R.r, _, _, rfl, ha.1, rfl, R, k, "if", rfl, ha, sh1 _, fun hs1 H1 g1 ha1 => ⟨_, rfl, iteT ?_⟩, fun hs1 H1 g1 ha1 => ⟨_, rfl, iteF ?_⟩⟩
    · rw [if_pos hs1] at q
      exact ⟨_, rfl, _, rfl, _, rfl, R, k + 1, l, _, rfl, hl, ha1, hE0 _ _, Out.pass (Out.go q g1) (by omega)⟩
    rw [if_neg (by rw [hs1]; exact Bool.false_ne_true)] at q
    refine ⟨_, rfl, R.r, _, _, rfl, ha1.1, rfl, R, k, "let", rfl, ha1, sh1 _, fun hs2 H2 g2 ha2 => ⟨_, rfl, iteT ?_⟩, fun hs2 H2 g2 ha2 => ⟨_, rfl, iteF ?_⟩⟩
    · rw [if_pos hs2] at q
      exact ⟨_, rfl, _, rfl, _, rfl, R, k + 1, l, _, rfl, hl, ha2, hE0 _ _, Out.pass (Out.go q (g1.trans g2)) (by omega)⟩
    rw [if_neg (by rw [hs2]; exact Bool.false_ne_true)] at q
    refine ⟨_, rfl, _, rfl, by show 1 ≤ sizeLine; decide, fun p np => ?_⟩
    have sm := Ly.same_new (o := .tup [.str "or"]) np
    exact ⟨R, k, l, j + 1, p, rfl, Nat.le_refl _, hj, hl, ha2.same sm, SqT.of upd_same, Out.go q ((g1.trans g2).trans (go_same sm))⟩
end
end Tk

namespace Tk
open PySem PySem.Spec PyProof.Rows L2 Ly Lx TL Px
/-! ### the tie; lines; parse -/
section
variable {P : Program} {w : World} {K : PySem.W.Frag} {mg : Str → Option Value} {base : Heap}
theorem okT_level (T : Top w K mg) {E : Lv} (hE0 : ∀ all n, E all n 0 = fun _ => .error .over) {j : Nat} (hE : ∀ i, i < j + 1 → FnT P w K mg base (13 * i + 28) T.a_read_expression T.fd_read_expression ["reader", "level"] (spLv K (clOf T) E i)) :
    FnT P w K mg base (13 * (j + 1) + 28) T.a_read_expression T.fd_read_expression ["reader", "level"] (spLv K (clOf T) (exprF E) (j + 1)) := by
  have h1 : ∀ i, i ≤ j + 1 → FnT P w K mg base (13 * i + 19) T.a_read_powers T.fd_read_powers ["reader", "level"] (spLv K (clOf T) (powersF E) i) := fun i hi =>
    okT_read_powers T (okT_read_primary T hE0 i fun i' hi' => hE i' (by omega)) (by omega)
  have h2 : ∀ i, i ≤ j + 1 → FnT P w K mg base (13 * i + 21) T.a_read_factors T.fd_read_factors ["reader", "level"] (spLv K (clOf T) (factorsF E) i) := fun i hi =>
    okT_read_factors T (okT_read_chain T (fun _ _ _ => rfl) (FnT.le (r := fun i => 13 * i + 19) (fun _ h => by omega) fun i' hi' => h1 i' (by omega)) T.F_read_powers.kp T.b_read_powers (by omega) (shs _) (by decide))
  have h3 : ∀ i, i ≤ j + 1 → FnT P w K mg base (13 * i + 23) T.a_read_terms T.fd_read_terms ["reader", "level"] (spLv K (clOf T) (termsF E) i) := fun i hi =>
    okT_read_terms T (okT_read_chain T (fun _ _ _ => rfl) (FnT.le (r := fun i => 13 * i + 21) (fun _ h => by omega) fun i' hi' => h2 i' (by omega)) T.F_read_factors.kp T.b_read_factors (by omega) (shs _) (by decide))
  have h4 : ∀ i, i ≤ j + 1 → FnT P w K mg base (13 * i + 24) T.a_read_plain T.fd_read_plain ["reader", "level"] (spLv K (clOf T) (plainF E) i) := fun i hi =>
    okT_read_plain T i fun i' hi' => h3 i' (by omega)
  have h5 : ∀ i, i ≤ j + 1 → FnT P w K mg base (13 * i + 26) T.a_read_both T.fd_read_both ["reader", "level"] (spLv K (clOf T) (bothF E) i) := fun i hi =>
    okT_read_both T (okT_read_chain T (fun _ _ _ => rfl) (FnT.le (r := fun i => 13 * i + 24) (fun _ h => by omega) fun i' hi' => h4 i' (by omega)) T.F_read_plain.kp T.b_read_plain (by omega) (shs _) (by decide))
  exact okT_read_expression T hE0 (hE j (by omega)) (okT_read_chain T (fun _ _ _ => rfl) (FnT.le (r := fun i => 13 * i + 26) (fun _ h => by omega) fun i' hi' => h5 i' (by omega)) T.F_read_both.kp T.b_read_both (by omega) (shs _) (by decide)) (by omega) (by omega)
def exprNF (q : Nat) : Lv := fun all n j k => exprN all n q j k
theorem exprNF0 : ∀ q all n, exprNF q all n 0 = fun _ => .error .over
  | 0, _, _ => rfl
  | q + 1, _, _ => rfl
theorem okT_exprN (T : Top w K mg) : ∀ q j, j ≤ q → FnT P w K mg base (13 * j + 28) T.a_read_expression T.fd_read_expression ["reader", "level"] (spLv K (clOf T) (exprNF q) j)
  | _, 0, _ => FnT.none fun vs H Q X h => by
    obtain ⟨R, k, l, _, h, _⟩ := h
    omega
  | 0, j + 1, h => absurd h (by omega)
  | q + 1, j + 1, h => okT_level T (exprNF0 q) fun i hi => okT_exprN T q i (by omega)
theorem okT_expr (T : Top w K mg) : FnT P w K mg base 340 T.a_read_expression T.fd_read_expression ["reader", "level"] (spLv K (clOf T) (exprNF 24) 24) := okT_exprN T 24 24 (Nat.le_refl _)
theorem okT_read_function (T : Top w K mg) (hX : FnT P w K mg base 340 T.a_read_expression T.fd_read_expression ["reader", "level"] (spLv K (clOf T) (exprNF 24) 24)) :
    FnT P w K mg base 341 T.a_read_function T.fd_read_function ["reader", "at"] (spOutA K (clOf T) funM) := by
  refine okT T.F_read_function sc_read_function (fun vs H Q E h => ?_) (fun cdv A outer s H vs Q E hr h => ?_)
  · obtain ⟨R, k, a, rfl, _⟩ := h
    rfl
  · obtain ⟨R, k, a, rfl, ha, q⟩ := h
    refine ⟨_, (pss_cons (ps_set (i := 2) sc_read_function.nd rfl (.inl rfl) (by exact (pe_methT (pv 0) T.cl_Reader T.M_Reader_expect_kind (okT_Reader_expect_kind T) (hr.mono (by first | decide | omega)) T.b_Reader_expect_kind (fun σ => L2N.passAt (L2N.takes_of rfl rfl rfl rfl) σ) (by exact (pa_cons pe_str pa_nil)))))
      (pss_cons (ps_expr (pe_methT (pv 0) T.cl_Reader T.M_Reader_expect (okT_Reader_expect T) (hr.mono (by first | decide | omega)) T.b_Reader_expect (fun σ => L2N.passAt (L2N.takes_of rfl rfl rfl rfl) σ) (by exact (pa_cons pe_str pa_nil))))
      (pss_cons (ps_set (i := 3) sc_read_function.nd rfl (.inl rfl) (by exact (pe_callT (okT_read_parameters T) (hr.mono (by first | decide | omega)) (by rfl) T.m_read_parameters T.F_read_parameters.kp T.b_read_parameters (fun σ => L2N.passAt (L2N.takes_of rfl rfl rfl rfl) σ) (by exact (pa_cons (pv 0) pa_nil)))))
      (pss_cons (ps_set (i := 4) sc_read_function.nd rfl (.inl rfl) (by exact (pe_callT (okT_read_told T) (hr.mono (by first | decide | omega)) (by rfl) T.m_read_told T.F_read_told.kp T.b_read_told (fun σ => L2N.passAt (L2N.takes_of rfl rfl rfl rfl) σ) (by exact (pa_cons (pv 0) pa_nil)))))
      (pss_cons (ps_expr (pe_methT (pv 0) T.cl_Reader T.M_Reader_expect (okT_Reader_expect T) (hr.mono (by first | decide | omega)) T.b_Reader_expect (fun σ => L2N.passAt (L2N.takes_of rfl rfl rfl rfl) σ) (by exact (pa_cons pe_str pa_nil))))
      (pss_one (ps_ret (pe_tup (pa_cons pe_str (pa_cons (pv 2) (pa_cons (pv 3) (pa_cons (pv 4) (pa_cons (pe_callT hX (hr.mono (by first | decide | omega)) (by rfl) T.m_read_expression T.F_read_expression.kp T.b_read_expression (fun σ => L2N.passAt (L2N.takes_of rfl rfl rfl rfl) σ) (by exact (pa_cons (pv 0) (pa_cons pe_int pa_nil)))) (pa_cons (pv 1) pa_nil)))))))))))))), ?_⟩
    unfold funM at q
    refine ⟨_, rfl, R.r, _, _, rfl, ha.1, rfl, R, k, "name", rfl, ha, sh1 _, ?_⟩
    refine Out.step q fun d1 k1 H1 v1 hr1 hk1 g1 ha1 hd1 hn1 q1 => ?_
    refine ⟨_, rfl, R.r, _, _, rfl, ha1.1, rfl, R, k1, "(", rfl, ha1, sh1 _, ?_⟩
    refine Out.step q1 fun d2 k2 H2 v2 hr2 hk2 g2 ha2 hd2 hn2 q2 => ?_
    refine ⟨_, rfl, R, k2, rfl, ha2, ?_⟩
    refine Out.step q2 fun d3 k3 H3 v3 hr3 hk3 g3 ha3 hd3 hn3 q3 => ?_
    refine ⟨_, rfl, R, k3, rfl, ha3, ?_⟩
    refine Out.step q3 fun d4 k4 H4 v4 hr4 hk4 g4 ha4 hd4 hn4 q4 => ?_
    refine ⟨_, rfl, R.r, _, _, rfl, ha4.1, rfl, R, k4, "=", rfl, ha4, sh1 _, ?_⟩
    refine Out.step q4 fun d5 k5 H5 v5 hr5 hk5 g5 ha5 hd5 hn5 q5 => ?_
    refine ⟨_, rfl, _, rfl, _, rfl, _, rfl, R, k5, 1, rfl, by omega, by omega, ha5, ?_⟩
    refine Out.step q5 fun d6 k6 H6 v6 hr6 hk6 g6 ha6 hd6 hn6 q6 => ?_
    refine ⟨_, rfl, by show 6 ≤ sizeLine; decide, fun p np => ?_⟩
    have g36 := (g4.trans g5).trans g6
    exact Out.tup q6 (by omega) (Go.refl _ _) ha6 (.cons (.str _) (.cons (dp_go ((g2.trans g3).trans g36) ha1.ins hn1 hd1) (.cons (dp_go g36 ha3.ins hn3 hd3) (.cons (dp_go (g5.trans g6) ha4.ins hn4 hd4) (.cons hd6 (.cons (.int _) .nil))))))
      (noLs_cons rfl (noLs_cons hn1 (noLs_cons hn3 (noLs_cons hn4 (noLs_cons hn6 rfl))))) np
theorem okT_read_show (T : Top w K mg) (hX : FnT P w K mg base 340 T.a_read_expression T.fd_read_expression ["reader", "level"] (spLv K (clOf T) (exprNF 24) 24)) :
    FnT P w K mg base 341 T.a_read_show T.fd_read_show ["reader", "at"] (spOutA K (clOf T) showM) := by
  refine okT T.F_read_show sc_read_show (fun vs H Q E h => ?_) (fun cdv A outer s H vs Q E hr h => ?_)
  · obtain ⟨R, k, a, rfl, _⟩ := h
    rfl
  · obtain ⟨R, k, a, rfl, ha, q⟩ := h
    refine ⟨_, (pss_cons (ps_set (i := 2) sc_read_show.nd rfl (.inl rfl) (by exact (pe_callT hX (hr.mono (by first | decide | omega)) (by rfl) T.m_read_expression T.F_read_expression.kp T.b_read_expression (fun σ => L2N.passAt (L2N.takes_of rfl rfl rfl rfl) σ) (by exact (pa_cons (pv 0) (pa_cons pe_int pa_nil))))))
      (pss_cons (ps_set (i := 3) sc_read_show.nd rfl (.inl rfl) (by exact (pe_ifExp (pt_val (pe_methT (pv 0) T.cl_Reader T.M_Reader_accept (okT_Reader_accept T) (hr.mono (by first | decide | omega)) T.b_Reader_accept (fun σ => L2N.passAt (L2N.takes_of rfl rfl rfl rfl) σ) (by exact (pa_cons pe_str pa_nil)))) (pe_callT (okT_read_product T) (hr.mono (by first | decide | omega)) (by rfl) T.m_read_product T.F_read_product.kp T.b_read_product (fun σ => L2N.passAt (L2N.takes_of rfl rfl rfl rfl) σ) (by exact (pa_cons (pv 0) pa_nil))) pe_non)))
      (pss_one (ps_ret (pe_tup (pa_cons pe_str (pa_cons (pv 2) (pa_cons (pv 3) (pa_cons (pv 1) pa_nil))))))))), ?_⟩
    unfold showM at q
    refine ⟨_, rfl, R, k, 1, rfl, by omega, by omega, ha, ?_⟩
    refine Out.step q fun d1 k1 H1 v1 hr1 hk1 g1 ha1 hd1 hn1 q1 => ?_
    refine ⟨_, rfl, R.r, _, _, rfl, ha1.1, rfl, R, k1, "in", rfl, ha1, sh1 _, fun hs H2 g2 ha2 => ⟨_, rfl, iteT ?_⟩, fun hs H2 g2 ha2 => ⟨_, rfl, iteF ?_⟩⟩
    · rw [if_pos hs] at q1
      refine ⟨_, rfl, R, k1 + 1, rfl, ha2, ?_⟩
      refine Out.step0 q1 g2 fun d3 k3 H3 v3 hr3 hk3 g3 ha3 hd3 hn3 q3 => ?_
      refine ⟨_, rfl, _, rfl, _, rfl, by show 4 ≤ sizeLine; decide, fun p np => ?_⟩
      exact Out.tup q3 (by omega) (g2.trans g3) ha3 (.cons (.str _) (.cons (dp_go (g2.trans g3) ha1.ins hn1 hd1) (.cons hd3 (.cons (.int _) .nil)))) (node_no hn1 hn3) np
    · rw [if_neg (by rw [hs]; exact Bool.false_ne_true)] at q1
      refine ⟨_, rfl, _, rfl, _, rfl, by show 4 ≤ sizeLine; decide, fun p np => ?_⟩
      exact Out.tup (k := k1) q1 (by omega) g2 ha2 (.cons (.str _) (.cons (dp_go g2 ha1.ins hn1 hd1) (.cons .non (.cons (.int _) .nil)))) (node_no hn1 rfl) np
end
end Tk

namespace Tk
open PySem PySem.Spec PyProof.Rows L2 Ly Lx TL Px
/-! ### the lexer's defs keep their promises -/
theorem chr_eq (c d : Nat) : decide (V.str ⟨#[c]⟩ = V.str ⟨#[d]⟩) = decide (c = d) := by
  by_cases h : c = d
  · subst h
    simp
  · rw [decide_eq_false h, decide_eq_false]
    intro e
    have h1 : (⟨#[c]⟩ : Str) = ⟨#[d]⟩ := V.str.inj e
    have h2 : #[c] = #[d] := congrArg Str.cps h1
    exact h (by simpa using h2)
/-- a token is handed back, its end at e -/
def TokRes (K : PySem.W.Frag) (H : Hp) (t : Tkn) (e : Nat) (Q : VK) : Prop := ∀ p H' val, Same H H' → H p = none →
  H' p = some (.tup [.str (kindOf t), val, .int (e : Int)]) → Dp K H' val (valD t) → Q (.ref p) H'
/-- an error of the class at C with this field is let out -/
def ErrRes (C : Addr) (f : Str) (v : V) (H : Hp) (E : XK) : Prop := ∀ d H', Same H H' → H d = none → H' d = some (.xd [(f, v)]) → E (.ref C) (some d) H'
theorem same_upd {H : Hp} {p : Addr} {o : HO} (h : H p = none) : Same H (upd H p o) := fun b x e => by
  rw [upd_ne (ne_of_none e h)]
  exact e
theorem err_of {C : Addr} {f : Str} {v : V} {H : Hp} {E : XK} (h : ErrRes C f v H E) {d : Addr} (hd : H d = none) : E (.ref C) (some d) (upd H d (.xd [(f, v)])) :=
  h d _ (same_upd hd) hd upd_same
def sp_run_end : Sp := fun vs H Q _ => ∃ (z c : Str) (i : Nat), vs = [.str z, .int (i : Int), .str c] ∧ z.length ≤ 100000 ∧ i ≤ z.length ∧ Q (.int ((i + run (tl c) ((tl z).drop i) : Nat) : Int)) H
def sp_comment_end : Sp := fun vs H Q _ => ∃ (z : Str) (i : Nat), vs = [.str z, .int (i : Int)] ∧ z.length ≤ 100000 ∧ i ≤ z.length ∧ Q (.int ((i + toEnd ((tl z).drop i) : Nat) : Int)) H
def sp_token_start : Sp := fun vs H Q _ => ∃ (z : Str) (i : Nat), vs = [.str z, .int (i : Int)] ∧ z.length ≤ 100000 ∧ i ≤ z.length ∧ Q (.int ((i + skip false ((tl z).drop i) : Nat) : Int)) H
def sp_digits_behind : Sp := fun vs H Q _ => ∃ (z : Str) (i : Nat), vs = [.str z, .int (i : Int)] ∧ z.length ≤ 100000 ∧ i ≤ z.length ∧ Q (.str (mk (fracAt ((tl z).drop i)))) H
def sp_tok (f : List Nat → Option (Tkn × Nat)) (K : PySem.W.Frag) (C : Addr) : Sp := fun vs H Q E => ∃ (z : Str) (i : Nat), vs = [.str z, .int (i : Int)] ∧ z.length ≤ 100000 ∧ i < z.length ∧
  (∀ t n, f ((tl z).drop i) = some (t, n) → TokRes K H t (i + n) Q) ∧ (f ((tl z).drop i) = none → ErrRes C "at" (.int (i : Int)) H E)
theorem drop_at {z : Str} {j : Nat} (h : j < z.length) : ∃ x, (tl z)[j]? = some x ∧ (tl z).drop j = x :: (tl z).drop (j + 1) := by
  rw [len_tl] at h
  exact ⟨(tl z)[j], List.getElem?_eq_getElem h, List.drop_eq_getElem_cons h⟩
theorem drop_end {z : Str} {j : Nat} (h : z.length ≤ j) : (tl z).drop j = [] := List.drop_eq_nil_of_le (by rw [← len_tl]; exact h)
theorem drop_len (z : Str) (j : Nat) : ((tl z).drop j).length = z.length - j := by rw [List.length_drop, ← len_tl]
section
variable {P : Program} {w : World} {K : PySem.W.Frag} {mg : Str → Option Value} {base : Heap}
theorem ok_run_end (T : Top w K mg) : FnOk P w K mg base CX0 1 T.a_run_end T.fd_run_end ["text", "at", "characters"] sp_run_end := by
  refine T.F_run_end.ok sc_run_end (fun vs H Q E h => ?_) (fun cdv A outer s H vs Q E hr h => ?_)
  · obtain ⟨z, c, i, rfl, _⟩ := h
    rfl
  · obtain ⟨z, c, i, rfl, hz, hi, q⟩ := h
    refine ⟨_, (pss_cons (ps_while PassesOwn.never (PW.pt (pw_and (pt_cmpR op_lt (pv 1) (pe_callB call_len (by rfl) T.n_len bt_len (pa_cons (pv 0) pa_nil)) (nomark _)) (pw_and1 (pt_cmpR op_within (pe_ix ix_seq (pv 0) (pv 1) (fun _ _ => rfl)) (pv 2) (by rfl)))))
      (pss_one (ps_aug (i := 1) sc_run_end.nd rfl (.inl rfl) pe_int ip_add)))
      (pss_one (ps_ret (pv 1)))), ?_⟩
    refine ⟨fun m σ H' => ∃ j : Nat, σ = [some (.str z), some (.int (j : Int)), some (.str c)] ∧ H' = H ∧ j ≤ z.length ∧ m = z.length - j ∧
      j + run (tl c) ((tl z).drop j) = i + run (tl c) ((tl z).drop i), ⟨_, i, rfl, rfl, hi, rfl, rfl⟩, ?_⟩
    rintro m σ H1 ⟨j, rfl, rfl, hj, rfl, ej⟩
    refine ⟨_, rfl, _, rfl, _, z.length, rfl, ⟨sz hz, rfl⟩, _, _, rfl, rfl, _, rfl, ite2 (fun hc => ?_) (fun hc => ?_)⟩
    · have hlt : j < z.length := by simpa using hc
      obtain ⟨x, hx, hd⟩ := drop_at hlt
      rw [hd] at ej
      refine ⟨_, rfl, _, rfl, .inr (.inr ⟨z, (j : Int), x, rfl, rfl, sz hz, atI_nat hx, _, rfl, .inl ⟨x, c, rfl, rfl, _, rfl, ite2 (fun hc' => ?_) (fun hc' => ?_)⟩⟩)⟩
      · rw [run_in (S := tl c) hc'] at ej
        refine ⟨fun σ' H' => ∃ j' : Nat, σ' = [some (.str z), some (.int (j' : Int)), some (.str c)] ∧ H' = H1 ∧ j' = j + 1, fun σ' H' ⟨j', e1, e2, e3⟩ => ?_, ?_⟩
        · subst e3
          exact ⟨_, by omega, j + 1, e1, e2, hlt, rfl, by omega⟩
        · exact ⟨_, rfl, _, _, rfl, rfl, j + 1, rfl, rfl, rfl⟩
      · rw [run_out (S := tl c) (Bool.eq_false_iff.mpr hc')] at ej
        refine ⟨_, rfl, ?_⟩
        have e : j = i + run (tl c) ((tl z).drop i) := by omega
        rw [e]
        exact q
    · have hlt : j = z.length := by
        have : ¬ j < z.length := by simpa using hc
        omega
      rw [drop_end (Nat.le_of_eq hlt.symm), run_nil] at ej
      refine ⟨_, rfl, ?_⟩
      have e : j = i + run (tl c) ((tl z).drop i) := by omega
      rw [e]
      exact q
theorem ok_comment_end (T : Top w K mg) : FnOk P w K mg base CX0 1 T.a_comment_end T.fd_comment_end ["text", "at"] sp_comment_end := by
  refine T.F_comment_end.ok sc_comment_end (fun vs H Q E h => ?_) (fun cdv A outer s H vs Q E hr h => ?_)
  · obtain ⟨z, i, rfl, _⟩ := h
    rfl
  · obtain ⟨z, i, rfl, hz, hi, q⟩ := h
    refine ⟨_, (pss_cons (ps_set (i := 2) sc_comment_end.nd rfl (.inl rfl) (by exact (pe_bm PySem.F.plainAttrs_str PySem.F.slot_str_find PySem.F.type_str_find mt_find3 (pv 0) (pa_cons pe_str (pa_cons (pv 1) pa_nil)))))
      (pss_one (ps_ret (pe_ifExp (pt_cmpR op_lt (pv 2) pe_int (nomark _)) (pe_callB call_len (by rfl) T.n_len bt_len (pa_cons (pv 0) pa_nil)) (pv 2))))), ?_⟩
    refine ⟨_, rfl, rfl, _, rfl, z, "\n", (i : Int), rfl, rfl, ?_⟩
    rw [find_nl z hi]
    have hle := toEnd_le ((tl z).drop i)
    rw [drop_len] at hle
    by_cases h : i + toEnd ((tl z).drop i) < z.length
    · rw [if_pos h]
      refine ⟨_, rfl, _, _, rfl, rfl, _, rfl, ?_⟩
      rw [decide_eq_false (by omega)]
      exact iteF ⟨_, rfl, q⟩
    · rw [if_neg h]
      refine ⟨_, rfl, _, _, rfl, rfl, _, rfl, iteT ⟨_, rfl, _, z.length, rfl, ⟨sz hz, rfl⟩, ?_⟩⟩
      have e : i + toEnd ((tl z).drop i) = z.length := by omega
      rw [e] at q
      exact q
theorem ok_token_start (T : Top w K mg) : FnOk P w K mg base CX0 2 T.a_token_start T.fd_token_start ["text", "at"] sp_token_start := by
  refine T.F_token_start.ok sc_token_start (fun vs H Q E h => ?_) (fun cdv A outer s H vs Q E hr h => ?_)
  · obtain ⟨z, i, rfl, _⟩ := h
    rfl
  · obtain ⟨z, i, rfl, hz, hi, q⟩ := h
    refine ⟨_, (pss_cons (ps_while PassesOwn.never (pt_cmpR op_lt (pv 1) (pe_callB call_len (by rfl) T.n_len bt_len (pa_cons (pv 0) pa_nil)) (nomark _))
      (pss_one (ps_if (pt_cmpR op_eq (pe_ix ix_seq (pv 0) (pv 1) (fun _ _ => rfl)) pe_str (nomark _))
      (pss_one (ps_set (i := 1) sc_token_start.nd rfl (.inl rfl) (by exact (pe_call (ok_comment_end T) (hr.mono (by decide)) (by rfl) T.m_comment_end T.F_comment_end.kp T.b_comment_end .nil pass0 (pa_cons (pv 0) (pa_cons (pv 1) pa_nil))))))
      (pss_one (ps_if (pt_cmpR op_within (pe_ix ix_seq (pv 0) (pv 1) (fun _ _ => rfl)) (pe_glob (by rfl) T.c_SEPARATORS T.r_SEPARATORS) (by rfl))
      (pss_one (ps_aug (i := 1) sc_token_start.nd rfl (.inl rfl) pe_int ip_add))
      (pss_one (ps_ret (pv 1))))))))
      (pss_one (ps_ret (pv 1)))), ?_⟩
    refine ⟨fun m σ H' => ∃ j : Nat, σ = [some (.str z), some (.int (j : Int))] ∧ H' = H ∧ j ≤ z.length ∧ m = z.length - j ∧
      j + skip false ((tl z).drop j) = i + skip false ((tl z).drop i), ⟨_, i, rfl, rfl, hi, rfl, rfl⟩, ?_⟩
    rintro m σ H1 ⟨j, rfl, rfl, hj, rfl, ej⟩
    refine ⟨_, rfl, _, rfl, _, z.length, rfl, ⟨sz hz, rfl⟩, _, _, rfl, rfl, _, rfl, ite2 (fun hc => ?_) (fun hc => ?_)⟩
    · have hlt : j < z.length := by simpa using hc
      obtain ⟨x, hx, hd⟩ := drop_at hlt
      refine ⟨fun σ' H' => ∃ j' : Nat, σ' = [some (.str z), some (.int (j' : Int))] ∧ H' = H1 ∧ j < j' ∧ j' ≤ z.length ∧ j' + skip false ((tl z).drop j') = i + skip false ((tl z).drop i), fun σ' H' ⟨j', e1, e2, e3, e4, e5⟩ => ?_, ?_⟩
      · exact ⟨_, by omega, j', e1, e2, e4, rfl, e5⟩
      refine ⟨_, rfl, _, rfl, .inr (.inr ⟨z, (j : Int), x, rfl, rfl, sz hz, atI_nat hx, rfl, ?_⟩)⟩
      rw [show decide (V.str ⟨#[x]⟩ = V.str "#") = decide (x = 35) from chr_eq x 35]
      refine ⟨_, rfl, ite2 (fun hc' => ?_) (fun hc' => ?_)⟩
      · have h35 : x = 35 := of_decide_eq_true hc'
        subst h35
        rw [hd] at ej
        rw [skip_hash, ← hd, List.drop_drop] at ej
        have hle := toEnd_le ((tl z).drop j)
        rw [drop_len] at hle
        have hpos : toEnd ((tl z).drop j) = toEnd ((tl z).drop (j + 1)) + 1 := by
          rw [hd, toEnd_cons (by decide)]
        refine ⟨_, rfl, _, rfl, z, j, rfl, hz, hj, j + toEnd ((tl z).drop j), rfl, rfl, by omega, by omega, by omega⟩
      · have h35 : x ≠ 35 := of_decide_eq_false (Bool.eq_false_iff.mpr hc')
        refine ⟨_, rfl, _, rfl, .inr (.inr ⟨z, (j : Int), x, rfl, rfl, sz hz, atI_nat hx, ?_⟩)⟩
        obtain ⟨u, hu, hT⟩ : ∃ y, T.u_SEPARATORS = y ∧ y = T.u_SEPARATORS := ⟨_, rfl, rfl⟩
        refine .inl ⟨x, " \t\n", rfl, rfl, _, rfl, ite2 (fun hb => ?_) (fun hb => ?_)⟩
        · rw [hd, skip_blank hb] at ej
          exact ⟨_, rfl, _, _, rfl, rfl, j + 1, rfl, rfl, by omega, hlt, by omega⟩
        · rw [hd, skip_stop (Bool.eq_false_iff.mpr hb) h35] at ej
          refine ⟨_, rfl, ?_⟩
          have e : j = i + skip false ((tl z).drop i) := by omega
          rw [e]
          exact q
    · have hlt : j = z.length := by
        have : ¬ j < z.length := by simpa using hc
        omega
      rw [drop_end (Nat.le_of_eq hlt.symm)] at ej
      refine ⟨_, rfl, ?_⟩
      have e : j = i + skip false ((tl z).drop i) := by
        simp only [skip] at ej
        omega
      rw [e]
      exact q
theorem ok_digits_behind (T : Top w K mg) : FnOk P w K mg base CX0 2 T.a_digits_behind T.fd_digits_behind ["text", "point"] sp_digits_behind := by
  refine T.F_digits_behind.ok sc_digits_behind (fun vs H Q E h => ?_) (fun cdv A outer s H vs Q E hr h => ?_)
  · obtain ⟨z, i, rfl, _⟩ := h
    rfl
  · obtain ⟨z, i, rfl, hz, hi, q⟩ := h
    refine ⟨_, (pss_cons (ps_if (pt_not (pt_val (pe_bm PySem.F.plainAttrs_str PySem.F.slot_str_startswith PySem.F.type_str_startswith mt_startswith3 (pv 0) (pa_cons pe_str (pa_cons (pv 1) pa_nil)))))
      (pss_one (ps_ret pe_str))
      pss_nil)
      (pss_one (ps_ret (pe_slice sl_str (pv 0) (po_some (pe_op op_plus (pv 1) pe_int)) (po_some (pe_call (ok_run_end T) (hr.mono (by decide)) (by rfl) T.m_run_end T.F_run_end.kp T.b_run_end .nil pass0 (pa_cons (pv 0) (pa_cons (pe_op op_plus (pv 1) pe_int) (pa_cons (pe_glob (by rfl) T.c_DIGITS T.r_DIGITS) pa_nil))))))))), ?_⟩
    refine ⟨_, rfl, rfl, _, rfl, z, ".", (i : Int), rfl, rfl, _, rfl, ?_⟩
    rw [starts_eq z "." hi]
    cases e : (tl z).drop i with
    | nil =>
      rw [e] at q
      exact iteT q
    | cons x r =>
      rw [e] at q
      have hp : (tl (Str.ofString ".")).isPrefixOf (x :: r) = decide (x = 46) := by
        show (List.isPrefixOf [46] (x :: r)) = _
        simp only [List.isPrefixOf, Bool.and_true]
        by_cases hx : x = 46
        · subst hx; rfl
        · rw [decide_eq_false hx]
          exact beq_eq_false_iff_ne.mpr (Ne.symm hx)
      rw [hp]
      have hlt : i < z.length := by
        have := drop_len z i
        rw [e] at this
        simp at this
        omega
      have e1 : (tl z).drop (i + 1) = r := by
        have := drop_at hlt
        obtain ⟨y, _, h2⟩ := this
        rw [e] at h2
        exact (List.cons.inj h2).2.symm
      by_cases hx : x = 46
      · rw [decide_eq_true hx]
        refine iteF ?_
        have hle := run_le digits r
        have hl : r.length = z.length - (i + 1) := by rw [← e1, drop_len]
        refine ⟨_, rfl, _, rfl, .inl ⟨_, _, rfl, rfl, (i : Int) + 1, rfl, _, rfl, _, rfl, .inl ⟨_, _, rfl, rfl, z, _, i + 1, rfl, hz, hlt, _, rfl, z, rfl, sz hz, ?_⟩⟩⟩
        have e2 : cutS z (some ((i : Int) + 1)) (some ((i + 1 + run digits ((tl z).drop (i + 1)) : Nat) : Int)) = mk (fracAt (x :: r)) := by
          have := cut_eq z (i := i + 1) (j := i + 1 + run digits ((tl z).drop (i + 1))) (by omega) (by rw [e1]; omega)
          rw [show ((i : Int) + 1) = ((i + 1 : Nat) : Int) from rfl, this, Nat.add_sub_cancel_left, e1, take_run]
          simp only [fracAt, if_pos hx]
        rw [show tl (Str.ofString "0123456789") = digits from rfl, e2]
        exact q
      · rw [decide_eq_false hx]
        refine iteT ?_
        simp only [fracAt, if_neg hx] at q
        exact q
end
end Tk

namespace Tk
open PySem PySem.Spec PyProof.Rows L2 Ly Lx TL Px
section
variable {P : Program} {w : World} {K : PySem.W.Frag} {mg : Str → Option Value} {base : Heap}
theorem find_of {α : Type} {p : α → Bool} : ∀ {l : List α} {k : Nat} {s : α}, l[k]? = some s → p s = true → (∀ j, j < k → ∀ s', l[j]? = some s' → p s' = false) → l.find? p = some s
  | [], k, s, h, _, _ => by simp at h
  | a :: l, 0, s, h, hp, _ => by
    have e : a = s := by simpa using h
    subst e
    rw [List.find?_cons_of_pos hp]
  | a :: l, k + 1, s, h, hp, hn => by
    rw [List.find?_cons_of_neg (by rw [hn 0 (by omega) a rfl]; exact Bool.false_ne_true)]
    exact find_of (l := l) (k := k) (by simpa using h) hp fun j hj s' hs => hn (j + 1) (by omega) s' (by simpa using hs)
theorem ok_name_at (T : Top w K mg) : FnOk P w K mg base (L2N.CX P w) 4 T.a_name_at T.fd_name_at ["text", "at"] (sp_tok nmAt K T.a_Malformed) := by
  refine okN T.F_name_at sc_name_at (fun vs H Q E h => ?_) (fun cdv A outer s H vs Q E hr h => ?_)
  · obtain ⟨z, i, rfl, _⟩ := h
    rfl
  · obtain ⟨z, i, rfl, hz, hi, hok, her⟩ := h
    refine ⟨_, (pss_cons (ps_set (i := 2) sc_name_at.nd rfl (.inl rfl) (by exact (pe_call (ok_run_end T) (hr.mono (by decide)) (by rfl) T.m_run_end T.F_run_end.kp T.b_run_end .nil pass0 (pa_cons (pv 0) (pa_cons (pv 1) (pa_cons (pe_glob (by rfl) T.c_NAMING T.r_NAMING) pa_nil))))))
      (pss_cons (ps_set (i := 3) sc_name_at.nd rfl (.inl rfl) (by exact (pe_slice sl_str (pv 0) (po_some (pv 1)) (po_some (pv 2)))))
      (pss_cons (ps_if (pt_cmpR op_within (pv 3) (pe_glob (v := .ref T.a_RESERVED) (by rfl) T.c_RESERVED rfl) (by rfl))
      (pss_one (ps_ret (pe_tup (pa_cons pe_str (pa_cons (pv 3) (pa_cons (pv 2) pa_nil))))))
      pss_nil)
      (pss_cons (ps_if (pt_cmpR op_gt (pe_callB call_len (by rfl) T.n_len bt_len (pa_cons (pv 3) pa_nil)) (pe_glob (by rfl) T.c_LONGEST_NAME T.r_LONGEST_NAME) (nomark _))
      (pss_one (ps_raiseX rfl (L2N.takes_of rfl rfl rfl rfl) T.x_Malformed (ok_Malformed_init T) (hr.mono (by decide)) T.b_Malformed_init (pa_cons (pv 1) pa_nil)))
      pss_nil)
      (pss_one (ps_ret (pe_tup (pa_cons pe_str (pa_cons (pv 3) (pa_cons (pv 2) pa_nil)))))))))), ?_⟩
    have hle := run_le naming ((tl z).drop i)
    rw [drop_len] at hle
    refine ⟨_, rfl, _, rfl, z, _, i, rfl, hz, Nat.le_of_lt hi, ?_⟩
    refine ⟨_, rfl, _, rfl, _, rfl, _, rfl, _, rfl, z, rfl, sz hz, ?_⟩
    rw [show tl (Str.ofString "abcdefghijklmnopqrstuvwxyzABCDEFGHIJKLMNOPQRSTUVWXYZ0123456789_") = naming from rfl]
    rw [cut_eq z (Nat.le_add_right _ _) (by omega), Nat.add_sub_cancel_left]
    refine ⟨_, rfl, .inr ⟨T.a_RESERVED, _, rfl, .inr (T.s_RESERVED _), rfl, rfl, _, rfl, ite2 (fun hc => ?_) (fun hc => ?_)⟩⟩
    · have hres : isRes (mk (((tl z).drop i).take (run naming ((tl z).drop i)))) = true := hc
      refine ⟨_, rfl, _, rfl, by show 3 ≤ sizeLine; decide, fun p hp => ?_⟩
      exact hok (.word _) _ (by unfold nmAt; rw [if_pos hres]) p _ _ (same_upd hp) hp upd_same (.str _)
    · have hres : ¬ isRes (mk (((tl z).drop i).take (run naming ((tl z).drop i)))) = true := hc
      have hln : (mk (((tl z).drop i).take (run naming ((tl z).drop i)))).length = run naming ((tl z).drop i) := by
        rw [mk_len, List.length_take, drop_len]
        omega
      refine ⟨_, rfl, _, run naming ((tl z).drop i), rfl, ⟨by rw [hln]; exact sz (by omega), hln.symm⟩, _, _, rfl, rfl, _, rfl, ite2 (fun hc' => ?_) (fun hc' => ?_)⟩
      · have h16 : 16 < run naming ((tl z).drop i) := by
          have := of_decide_eq_true hc'
          omega
        refine ⟨_, rfl, _, rfl, fun d hd => err_of (her ?_) hd⟩
        unfold nmAt
        rw [if_neg hres, if_pos h16]
      · have h16 : ¬ 16 < run naming ((tl z).drop i) := by
          have := of_decide_eq_false (Bool.eq_false_iff.mpr hc')
          omega
        refine ⟨_, rfl, _, rfl, by show 3 ≤ sizeLine; decide, fun p hp => ?_⟩
        exact hok (.name _) _ (by unfold nmAt; rw [if_neg hres, if_neg h16]) p _ _ (same_upd hp) hp upd_same (.str _)
theorem ok_number_at (T : Top w K mg) : FnOk P w K mg base (L2N.CX P w) 4 T.a_number_at T.fd_number_at ["text", "at"]
    (fun vs H Q E => sp_tok nrAt K T.a_Malformed vs H Q E ∧ ∃ (z : Str) (i : Nat), vs = [.str z, .int (i : Int)] ∧ 1 ≤ run digits ((tl z).drop i)) := by
  refine okN T.F_number_at sc_number_at (fun vs H Q E h => ?_) (fun cdv A outer s H vs Q E hr h => ?_)
  · obtain ⟨⟨z, i, rfl, _⟩, _⟩ := h
    rfl
  · obtain ⟨⟨z, i, rfl, hz, hi, hok, her⟩, z', i', e, h1⟩ := h
    have ez : z = z' := by
      injection e with e1 _
      injection e1
    have ei : i = i' := by
      injection e with _ e2
      injection e2 with e3 _
      injection e3 with e4
      omega
    subst ez ei
    refine ⟨_, (pss_cons (ps_set (i := 2) sc_number_at.nd rfl (.inl rfl) (by exact (pe_call (ok_run_end T) (hr.mono (by decide)) (by rfl) T.m_run_end T.F_run_end.kp T.b_run_end .nil pass0 (pa_cons (pv 0) (pa_cons (pv 1) (pa_cons (pe_glob (by rfl) T.c_DIGITS T.r_DIGITS) pa_nil))))))
      (pss_cons (ps_set (i := 3) sc_number_at.nd rfl (.inl rfl) (by exact (pe_slice sl_str (pv 0) (po_some (pv 1)) (po_some (pv 2)))))
      (pss_cons (ps_set (i := 4) sc_number_at.nd rfl (.inl rfl) (by exact (pe_call (ok_digits_behind T) (hr.mono (by decide)) (by rfl) T.m_digits_behind T.F_digits_behind.kp T.b_digits_behind .nil pass0 (pa_cons (pv 0) (pa_cons (pv 2) pa_nil)))))
      (pss_cons (ps_set (i := 5) sc_number_at.nd rfl (.inl rfl) (by exact (pe_ifExp (pt_truth (pv 4) (by intro _; rfl)) (pe_op op_plus (pe_op op_plus (pv 2) pe_int) (pe_callB call_len (by rfl) T.n_len bt_len (pa_cons (pv 4) pa_nil))) (pv 2))))
      (pss_cons (ps_if (PW.pt (pw_or (pt_cmpR op_gt (pe_callB call_len (by rfl) T.n_len bt_len (pa_cons (pv 3) pa_nil)) (pe_glob (by rfl) T.c_MOST_DIGITS T.r_MOST_DIGITS) (nomark _)) (pw_or1 (pt_cmpR op_ge (pe_callB call_len (by rfl) T.n_len bt_len (pa_cons (pv 4) pa_nil)) (pe_callB call_len (by rfl) T.n_len bt_len (pa_cons (pe_glob (v := .ref T.a_BOTTOMS) (by rfl) T.c_BOTTOMS rfl) pa_nil)) (nomark _)))))
      (pss_one (ps_raiseX rfl (L2N.takes_of rfl rfl rfl rfl) T.x_Malformed (ok_Malformed_init T) (hr.mono (by decide)) T.b_Malformed_init (pa_cons (pv 1) pa_nil)))
      pss_nil)
      (pss_cons (ps_if (PW.pt (pw_and (pt_cmpR op_lt (pv 5) (pe_callB call_len (by rfl) T.n_len bt_len (pa_cons (pv 0) pa_nil)) (nomark _)) (pw_and1 (pt_cmpR op_within (pe_ix ix_seq (pv 0) (pv 5) (fun _ _ => rfl)) (pe_glob (by rfl) T.c_NAMING T.r_NAMING) (by rfl)))))
      (pss_one (ps_raiseX rfl (L2N.takes_of rfl rfl rfl rfl) T.x_Malformed (ok_Malformed_init T) (hr.mono (by decide)) T.b_Malformed_init (pa_cons (pv 1) pa_nil)))
      pss_nil)
      (pss_one (ps_ret (pe_tup (pa_cons pe_str (pa_cons (pe_tup (pa_cons (pe_callTy call_intX (by rfl) T.n_int bt_int (pa_cons (pe_op op_plus (pv 3) (pv 4)) pa_nil)) (pa_cons (pe_ix ix_seq (pe_glob (v := .ref T.a_BOTTOMS) (by rfl) T.c_BOTTOMS rfl) (pe_callB call_len (by rfl) T.n_len bt_len (pa_cons (pv 4) pa_nil)) (fun _ _ => rfl)) pa_nil))) (pa_cons (pv 5) pa_nil)))))))))))), ?_⟩
    have hle := run_le digits ((tl z).drop i)
    rw [drop_len] at hle
    generalize hp : run digits ((tl z).drop i) = p at *
    have hdd : (tl z).drop (i + p) = ((tl z).drop i).drop p := by rw [List.drop_drop]
    refine ⟨_, rfl, _, rfl, z, _, i, rfl, hz, Nat.le_of_lt hi, ?_⟩
    rw [show tl (Str.ofString "0123456789") = digits from rfl, hp]
    refine ⟨_, rfl, _, rfl, _, rfl, _, rfl, _, rfl, z, rfl, sz hz, ?_⟩
    rw [cut_eq z (Nat.le_add_right _ _) (by omega), Nat.add_sub_cancel_left]
    refine ⟨_, rfl, _, rfl, z, i + p, rfl, hz, by omega, ?_⟩
    rw [hdd]
    generalize hF : fracAt (((tl z).drop i).drop p) = F at *
    have hFl : F ≠ [] → F.length + 1 ≤ z.length - (i + p) := fun hne => by
      have := fracAt_lt (l := ((tl z).drop i).drop p) (by rw [hF]; exact hne)
      rw [hF, List.length_drop, drop_len] at this
      omega
    have hFz : F.length ≤ 100000 := by
      have := fracAt_le (((tl z).drop i).drop p)
      rw [hF, List.length_drop, drop_len] at this
      omega
    have hE : numEnd ((tl z).drop i) = if F = [] then p else p + 1 + F.length := by
      unfold numEnd
      rw [hp, hF]
    have hEz : i + numEnd ((tl z).drop i) ≤ z.length := by
      rw [hE]
      split
      · omega
      · rename_i hne
        have := hFl hne
        omega
    have hW : (((tl z).drop i).take p).length = p := by
      rw [List.length_take, drop_len]
      omega
    have hnone : 6 < p ∨ 5 ≤ F.length → nrAt ((tl z).drop i) = none := fun hb => by
      unfold nrAt
      rw [hp, hF, if_pos hb]
    -- end = point + 1 + len(part) if part else point
    refine ⟨_, rfl, (!decide (F = [])), ⟨by rw [mk_len]; exact sz hFz, ?_⟩, ite2 (fun hb => ?yes) (fun hb => ?no)⟩
    · rw [mk_len]
      cases F with
      | nil => rfl
      | cons a r =>
        rw [decide_eq_false (by simp)]
        simp only [List.length_cons, Bool.not_false]
        symm
        rw [bne_iff_ne]
        omega
    case' yes =>
      have hne : F ≠ [] := by simpa using hb
      refine ⟨_, rfl, .inl ⟨_, _, rfl, rfl, _, rfl, _, F.length, rfl, ⟨by rw [mk_len]; exact sz hFz, (mk_len F).symm⟩, .inl ⟨_, _, rfl, rfl, ?_⟩⟩⟩
      dsimp only
      rw [show ((i + p : Nat) : Int) + 1 + (F.length : Int) = ((i + numEnd ((tl z).drop i) : Nat) : Int) by rw [hE, if_neg hne]; omega]
    case' no =>
      have hne : F = [] := by simpa using hb
      refine ⟨_, rfl, ?_⟩
      rw [show ((i + p : Nat) : Int) = ((i + numEnd ((tl z).drop i) : Nat) : Int) by rw [hE, if_pos hne]]
    all_goals
      refine ⟨_, rfl, _, p, rfl, ⟨by rw [mk_len, hW]; exact sz (by omega), by rw [mk_len, hW]⟩, _, _, rfl, rfl, _, rfl, ite2 (fun h6 => iteT ?_) (fun h6 => ?_)⟩
      · exact ⟨_, rfl, _, rfl, fun d hd => err_of (her (hnone (.inl (by have := of_decide_eq_true h6; omega)))) hd⟩
      have h6' : ¬ 6 < p := by
        have := of_decide_eq_false (Bool.eq_false_iff.mpr h6)
        omega
      refine ⟨_, rfl, _, F.length, rfl, ⟨by rw [mk_len]; exact sz hFz, (mk_len F).symm⟩, _, 5, rfl, .inr ⟨_, T.s_BOTTOMS _, rfl⟩, _, _, rfl, rfl, _, rfl, ite2 (fun h5 => ?_) (fun h5 => ?_)⟩
      · exact ⟨_, rfl, _, rfl, fun d hd => err_of (her (hnone (.inr (by have := of_decide_eq_true h5; omega)))) hd⟩
      have h5' : F.length < 5 := by
        have := of_decide_eq_false (Bool.eq_false_iff.mpr h5)
        omega
      have hnb : ¬ (6 < p ∨ 5 ≤ F.length) := by omega
      have hbit : headIn naming (((tl z).drop i).drop (numEnd ((tl z).drop i))) = true → nrAt ((tl z).drop i) = none := fun hh => by
        unfold nrAt
        rw [hp, hF, if_neg hnb, if_pos hh]
      have hgood : headIn naming (((tl z).drop i).drop (numEnd ((tl z).drop i))) = false →
          nrAt ((tl z).drop i) = some (.num (NumText.digitsVal (((tl z).drop i).take p ++ F)) (10 ^ F.length), numEnd ((tl z).drop i)) := fun hh => by
        unfold nrAt
        rw [hp, hF, if_neg hnb, if_neg (by rw [hh]; exact Bool.false_ne_true)]
      have hint : PySem.intText? (mk (((tl z).drop i).take p) ++ mk F) = some ((NumText.digitsVal (((tl z).drop i).take p ++ F) : Nat) : Int) := by
        have e1 : (mk (((tl z).drop i).take p) ++ mk F).cps.toList = ((tl z).drop i).take p ++ F := tl_append _ _
        have h2 := intText_digits (x := mk (((tl z).drop i).take p) ++ mk F) (by
          rw [e1]
          refine all_digs fun c hc => ?_
          rcases List.mem_append.mp hc with hc | hc
          · rw [← hp, take_run] at hc
            exact List.all_eq_true.mp (List.all_takeWhile (l := (tl z).drop i)) c hc
          · rw [← hF] at hc
            exact fracAt_digs _ c hc) (by
          rw [e1]
          intro e
          have := congrArg List.length e
          rw [List.length_append, hW] at this
          simp at this
          omega) (by
          rw [len_tl, show tl (mk (((tl z).drop i).take p) ++ mk F) = _ from e1, List.length_append, hW]
          omega)
        rw [e1] at h2
        exact h2
      have hsum : (mk (((tl z).drop i).take p)).length + (mk F).length ≤ sizeLine := by
        rw [mk_len, mk_len, hW]
        exact sz (by omega)
      have hbot : atI [V.int 1, V.int 10, V.int 100, V.int 1000, V.int 10000] ((F.length : Nat) : Int) = some (.int ((10 ^ F.length : Nat) : Int)) := by
        rcases (by omega : F.length = 0 ∨ F.length = 1 ∨ F.length = 2 ∨ F.length = 3 ∨ F.length = 4) with e | e | e | e | e <;> rw [e] <;> rfl
      have fin : headIn naming (((tl z).drop i).drop (numEnd ((tl z).drop i))) = false → ∀ b, H b = none → ∀ q, upd H b (.tup [.int ((NumText.digitsVal (((tl z).drop i).take p ++ F) : Nat) : Int), .int ((10 ^ F.length : Nat) : Int)]) q = none →
          Q (.ref q) (upd (upd H b (.tup [.int ((NumText.digitsVal (((tl z).drop i).take p ++ F) : Nat) : Int), .int ((10 ^ F.length : Nat) : Int)])) q (.tup [.str "number", .ref b, .int ((i + numEnd ((tl z).drop i) : Nat) : Int)])) := fun hh b hb q hq => by
        have hs1 := same_upd (o := .tup [.int ((NumText.digitsVal (((tl z).drop i).take p ++ F) : Nat) : Int), .int ((10 ^ F.length : Nat) : Int)]) hb
        have hs2 := same_upd (o := .tup [.str "number", .ref b, .int ((i + numEnd ((tl z).drop i) : Nat) : Int)]) hq
        refine hok _ _ (hgood hh) q _ _ (hs1.trans hs2) (hs1.free hq) upd_same ?_
        exact .tup (.inl (.inl (hs2 _ _ upd_same))) (.cons (.int _) (.cons (.int _) .nil))
      by_cases hend : i + numEnd ((tl z).drop i) < z.length
      · obtain ⟨x, hx, hd⟩ := drop_at hend
        have hd' : ((tl z).drop i).drop (numEnd ((tl z).drop i)) = x :: (tl z).drop (i + numEnd ((tl z).drop i) + 1) := by
          rw [List.drop_drop]
          exact hd
        refine ⟨_, rfl, _, rfl, _, z.length, rfl, ⟨sz hz, rfl⟩, _, _, rfl, rfl, _, rfl, ?_⟩
        rw [decide_eq_true (by omega)]
        refine iteT ⟨_, rfl, _, rfl, .inr (.inr ⟨z, _, x, rfl, rfl, sz hz, atI_nat hx, .inl ⟨x, _, rfl, rfl, _, rfl, ite2 (fun hc => ?_) (fun hc => ?_)⟩⟩)⟩
        · exact ⟨_, rfl, _, rfl, fun d hd2 => err_of (her (hbit (by rw [hd']; exact hc))) hd2⟩
        · refine ⟨_, rfl, _, rfl, .inr ⟨_, _, rfl, rfl, hsum, .inr ⟨_, _, rfl, hint, by rw [len_tl, tl_append, List.length_append, tl_of, tl_of, hW]; omega, _, rfl, _, F.length, rfl, ⟨by rw [mk_len]; exact sz hFz, (mk_len F).symm⟩,
            .inr (.inl ⟨T.a_BOTTOMS, _, _, _, rfl, rfl, T.s_BOTTOMS _, hbot, by show 2 ≤ sizeLine; decide, fun b hb' => ⟨_, rfl, by show 3 ≤ sizeLine; decide, fun q hq => ?_⟩⟩)⟩⟩⟩
          exact fin (by rw [hd']; exact Bool.eq_false_iff.mpr hc) b hb' q hq
      · have hd' : ((tl z).drop i).drop (numEnd ((tl z).drop i)) = [] := by
          rw [List.drop_drop]
          exact drop_end (by omega)
        refine ⟨_, rfl, _, rfl, _, z.length, rfl, ⟨sz hz, rfl⟩, _, _, rfl, rfl, _, rfl, ?_⟩
        rw [decide_eq_false (by omega)]
        refine iteF (iteF ⟨_, rfl, _, rfl, .inr ⟨_, _, rfl, rfl, hsum, .inr ⟨_, _, rfl, hint, by rw [len_tl, tl_append, List.length_append, tl_of, tl_of, hW]; omega, _, rfl, _, F.length, rfl, ⟨by rw [mk_len]; exact sz hFz, (mk_len F).symm⟩,
            .inr (.inl ⟨T.a_BOTTOMS, _, _, _, rfl, rfl, T.s_BOTTOMS _, hbot, by show 2 ≤ sizeLine; decide, fun b hb' => ⟨_, rfl, by show 3 ≤ sizeLine; decide, fun q hq => ?_⟩⟩)⟩⟩⟩)
        exact fin (by rw [hd']; rfl) b hb' q hq
end
end Tk

namespace Tk
open PySem PySem.Spec PyProof.Rows L2 Ly Lx TL Px
section
variable {P : Program} {w : World} {K : PySem.W.Frag} {mg : Str → Option Value} {base : Heap}
theorem ok_token_at (T : Top w K mg) : FnOk P w K mg base (L2N.CX P w) 5 T.a_token_at T.fd_token_at ["text", "at"] (sp_tok tokAt K T.a_Malformed) := by
  refine okN T.F_token_at sc_token_at (fun vs H Q E h => ?_) (fun cdv A outer s H vs Q E hr h => ?_)
  · obtain ⟨z, i, rfl, _⟩ := h
    rfl
  · obtain ⟨z, i, rfl, hz, hi, hok, her⟩ := h
    refine ⟨_, (pss_cons (ps_if (pt_cmpR op_within (pe_ix ix_seq (pv 0) (pv 1) (fun _ _ => rfl)) (pe_glob (by rfl) T.c_LETTERS T.r_LETTERS) (by rfl))
      (pss_one (ps_ret (pe_call (ok_name_at T) (hr.mono (by decide)) (by rfl) T.m_name_at T.F_name_at.kp T.b_name_at .nil (L2N.passes_call (L2N.takes_of rfl rfl rfl rfl) (fun _ _ _ _ h => h)) (pa_cons (pv 0) (pa_cons (pv 1) pa_nil)))))
      pss_nil)
      (pss_cons (ps_if (pt_cmpR op_within (pe_ix ix_seq (pv 0) (pv 1) (fun _ _ => rfl)) (pe_glob (by rfl) T.c_DIGITS T.r_DIGITS) (by rfl))
      (pss_one (ps_ret (pe_call (ok_number_at T) (hr.mono (by decide)) (by rfl) T.m_number_at T.F_number_at.kp T.b_number_at .nil (L2N.passes_call (L2N.takes_of rfl rfl rfl rfl) (fun _ _ _ _ h => h)) (pa_cons (pv 0) (pa_cons (pv 1) pa_nil)))))
      pss_nil)
      (pss_cons (ps_for (passes_of rfl) rfl (pi_tup (pe_glob (v := .ref T.a_SIGNS) (by rfl) T.c_SIGNS rfl)) (pg_name (i := 2) sc_token_at.nd rfl (.inl rfl))
      (pss_one (ps_if (pt_val (pe_bm PySem.F.plainAttrs_str PySem.F.slot_str_startswith PySem.F.type_str_startswith mt_startswith3 (pv 0) (pa_cons (pv 2) (pa_cons (pv 1) pa_nil))))
      (pss_one (ps_ret (pe_tup (pa_cons pe_str (pa_cons (pv 2) (pa_cons (pe_op op_plus (pv 1) (pe_callB call_len (by rfl) T.n_len bt_len (pa_cons (pv 2) pa_nil))) pa_nil))))))
      pss_nil)))
      (pss_one (ps_raiseX rfl (L2N.takes_of rfl rfl rfl rfl) T.x_Malformed (ok_Malformed_init T) (hr.mono (by decide)) T.b_Malformed_init (pa_cons (pv 1) pa_nil)))))), ?_⟩
    obtain ⟨x, hx, hd⟩ := drop_at hi
    refine ⟨_, rfl, _, rfl, .inr (.inr ⟨z, _, x, rfl, rfl, sz hz, atI_nat hx, .inl ⟨x, _, rfl, rfl, _, rfl, ite2 (fun h1 => ?_) (fun h1 => ?_)⟩⟩)⟩
    · have h1' : inS letters x = true := h1
      have et : tokAt ((tl z).drop i) = nmAt ((tl z).drop i) := by
        rw [hd, tokAt_cons, if_pos h1']
      rw [et] at hok her
      exact ⟨_, rfl, _, rfl, z, i, rfl, hz, hi, hok, her⟩
    have h1' : ¬ inS letters x = true := h1
    refine ⟨_, rfl, _, rfl, .inr (.inr ⟨z, _, x, rfl, rfl, sz hz, atI_nat hx, .inl ⟨x, _, rfl, rfl, _, rfl, ite2 (fun h2 => ?_) (fun h2 => ?_)⟩⟩)⟩
    · have h2' : inS digits x = true := h2
      have et : tokAt ((tl z).drop i) = nrAt ((tl z).drop i) := by
        rw [hd, tokAt_cons, if_neg h1', if_pos h2']
      rw [et] at hok her
      refine ⟨_, rfl, _, rfl, ⟨z, i, rfl, hz, hi, hok, her⟩, z, i, rfl, ?_⟩
      rw [hd, run_in h2']
      omega
    have h2' : ¬ inS digits x = true := h2
    have et : tokAt ((tl z).drop i) = sgAt ((tl z).drop i) := by
      rw [hd, tokAt_cons, if_neg h1', if_neg h2']
    rw [et] at hok her
    refine ⟨_, rfl, ⟨_, T.s_SIGNS _⟩, for_tup (K := K) (a := T.a_SIGNS) (xs := sgns.map V.str) (fun k σ H' => ∃ y, σ = [some (.str z), some (.int (i : Int)), y] ∧ H' = H ∧
      ∀ j, j < k → ∀ s, sgns[j]? = some s → (tl s).isPrefixOf ((tl z).drop i) = false) ⟨none, rfl, rfl, fun j hj => absurd hj (Nat.not_lt_zero j)⟩ (fun k σ H' _ _ => T.s_SIGNS H') ?_ ?_⟩
    · rintro k v σ H1 hk ⟨y, rfl, rfl, hno⟩
      rw [List.getElem?_map] at hk
      cases hs : sgns[k]? with
      | none => rw [hs] at hk; cases hk
      | some sg =>
        rw [hs] at hk
        have ev : v = .str sg := (Option.some.inj hk).symm
        subst ev
        have hsl : sg.length ≤ 2 := by
          have : ∀ s ∈ sgns, s.length ≤ 2 := by decide
          exact this sg (List.mem_of_getElem? hs)
        refine ⟨_, rfl, rfl, _, rfl, _, rfl, z, sg, (i : Int), rfl, rfl, ?_⟩
        rw [starts_eq z sg (Nat.le_of_lt hi)]
        refine ⟨_, rfl, ite2 (fun hp => ?_) (fun hp => ?_)⟩
        · refine ⟨_, rfl, _, rfl, _, rfl, _, sg.length, rfl, ⟨sz (by omega), rfl⟩, .inl ⟨_, _, rfl, rfl, by show 3 ≤ sizeLine; decide, fun p hp' => ?_⟩⟩
          have e : sgAt ((tl z).drop i) = some (.sign sg, sg.length) := by
            unfold sgAt
            rw [find_of hs hp hno]
            rfl
          exact hok (.sign sg) _ e p _ _ (same_upd hp') hp' upd_same (.str _)
        · refine ⟨_, rfl, rfl, fun j hj s hs' => ?_⟩
          by_cases hjk : j = k
          · subst hjk
            rw [hs] at hs'
            cases hs'
            exact Bool.eq_false_iff.mpr hp
          · exact hno j (by omega) s hs'
    · rintro σ H1 ⟨y, rfl, rfl, hno⟩
      refine ⟨_, rfl, _, rfl, fun d hd2 => err_of (her ?_) hd2⟩
      unfold sgAt
      rw [List.find?_eq_none.mpr fun s hs => ?_]
      · rfl
      · obtain ⟨j, hj⟩ := List.getElem?_of_mem hs
        have hlt : j < (sgns.map V.str).length := by
          rw [List.length_map]
          exact (List.getElem?_eq_some_iff.mp hj).1
        rw [hno j hlt s hj]
        exact Bool.false_ne_true
/-- what tokens(text) is promised for any text: how far it reads, what then -/
def sp_tokens (K : PySem.W.Frag) (CM CO : Addr) : Sp := fun vs H Q E => ∃ z : Str, vs = [.str z] ∧ z.length ≤ 100000 ∧
  (12000 < z.length → ErrRes CO "limit" (.str "text") H E) ∧
  (z.length ≤ 12000 → ∃ ts j l', LexTo (skip false (tl z)) ((tl z).drop (skip false (tl z))) ts j l' ∧ (l' = [] ∨ tokAt l' = none) ∧
    (l' = [] → ∀ p H' xs, Same H H' → H p = none → H' p = some (.lst xs) → DpAll K H' xs (ts.map tokD) → Q (.ref p) H') ∧
    (l' ≠ [] → ErrRes CM "at" (.int (j : Int)) H E))
theorem ok_tokens (T : Top w K mg) : FnOk P w K mg base (L2N.CX P w) 6 T.a_tokens T.fd_tokens ["text"] (sp_tokens K T.a_Malformed T.a_Oversized) := by
  refine okN T.F_tokens sc_tokens (fun vs H Q E h => ?_) (fun cdv A outer s H vs Q E hr h => ?_)
  · obtain ⟨z, rfl, _⟩ := h
    rfl
  · obtain ⟨z, rfl, hz, hbig, hsmall⟩ := h
    refine ⟨_, (pss_cons (ps_if (pt_cmpR op_gt (pe_callB call_len (by rfl) T.n_len bt_len (pa_cons (pv 0) pa_nil)) (pe_glob (by rfl) T.c_LONGEST_TEXT T.r_LONGEST_TEXT) (nomark _))
      (pss_one (ps_raiseX rfl (L2N.takes_of rfl rfl rfl rfl) T.x_Oversized (ok_Oversized_init T) (hr.mono (by decide)) T.b_Oversized_init (pa_cons pe_str pa_nil)))
      pss_nil)
      (pss_cons (ps_set (i := 1) sc_tokens.nd rfl (.inl rfl) (by exact (pe_lst pa_nil)))
      (pss_cons (ps_set (i := 2) sc_tokens.nd rfl (.inl rfl) (by exact (pe_call (ok_token_start T) (hr.mono (by decide)) (by rfl) T.m_token_start T.F_token_start.kp T.b_token_start .nil pass0 (pa_cons (pv 0) (pa_cons pe_int pa_nil)))))
      (pss_cons (ps_while (passes_of rfl) (pt_cmpR op_lt (pv 2) (pe_callB call_len (by rfl) T.n_len bt_len (pa_cons (pv 0) pa_nil)) (nomark _))
      (pss_cons (ps_asg (pe_call (ok_token_at T) (hr.mono (by decide)) (by rfl) T.m_token_at T.F_token_at.kp T.b_token_at .nil (L2N.passes_call (L2N.takes_of rfl rfl rfl rfl) (fun _ _ _ _ h => h)) (pa_cons (pv 0) (pa_cons (pv 2) pa_nil))) (pg_tup rfl (pgs_cons (pg_name (i := 3) sc_tokens.nd rfl (.inl rfl)) (pgs_cons (pg_name (i := 4) sc_tokens.nd rfl (.inl rfl)) (pgs_cons (pg_name (i := 5) sc_tokens.nd rfl (.inl rfl)) pgs_nil)))))
      (pss_cons (ps_expr (pe_bm PySem.F.plainAttrs_list PySem.F.slot_list_append PySem.F.type_list_append mt_append (pv 1) (pa_cons (pe_tup (pa_cons (pv 3) (pa_cons (pv 4) (pa_cons (pv 2) pa_nil)))) pa_nil)))
      (pss_one (ps_set (i := 2) sc_tokens.nd rfl (.inl rfl) (by exact (pe_call (ok_token_start T) (hr.mono (by decide)) (by rfl) T.m_token_start T.F_token_start.kp T.b_token_start .nil pass0 (pa_cons (pv 0) (pa_cons (pv 5) pa_nil)))))))))
      (pss_one (ps_ret (pv 1))))))), ?_⟩
    refine ⟨_, rfl, _, z.length, rfl, ⟨sz hz, rfl⟩, _, _, rfl, rfl, _, rfl, ite2 (fun hc => ?_) (fun hc => ?_)⟩
    · have : 12000 < z.length := by
        have := of_decide_eq_true hc
        omega
      exact ⟨_, rfl, fun d hd => err_of (hbig this) hd⟩
    have h12 : z.length ≤ 12000 := by
      have := of_decide_eq_false (Bool.eq_false_iff.mpr hc)
      omega
    obtain ⟨ts, je, le, hlex, hstop, hgood, hbad⟩ := hsmall h12
    refine ⟨Nat.zero_le _, fun l nl => ?_⟩
    refine ⟨_, rfl, z, 0, rfl, hz, Nat.zero_le _, ?_⟩
    rw [Nat.zero_add, List.drop_zero]
    have hsk := skip_le false (tl z)
    rw [← len_tl] at hsk
    refine ⟨fun m σ H' => ∃ (a : Nat) (done rest : List (Tkn × Nat)) (xs : List V) (y3 y4 y5 : Option V), σ = [some (.str z), some (.ref l), some (.int (a : Int)), y3, y4, y5] ∧ a ≤ z.length ∧ m = z.length - a ∧
      Same H H' ∧ H' l = some (.lst xs) ∧ DpAll K H' xs (done.map tokD) ∧ done.length ≤ a ∧ ts = done ++ rest ∧ LexTo a ((tl z).drop a) rest je le,
      ⟨_, skip false (tl z), [], ts, [], none, none, none, rfl, hsk, rfl, same_upd nl, upd_same, .nil, Nat.zero_le _, rfl, hlex⟩, ?_⟩
    rintro m σ H1 ⟨a, done, rest, xs, y3, y4, y5, rfl, ha, rfl, hs, hl, hdp, hdl, ets, hlx⟩
    refine ⟨_, rfl, _, rfl, _, z.length, rfl, ⟨sz hz, rfl⟩, _, _, rfl, rfl, _, rfl, ite2 (fun hc => ?_) (fun hc => ?_)⟩
    · have hlt : a < z.length := by simpa using hc
      obtain ⟨x, hx, hd⟩ := drop_at hlt
      refine ⟨fun σ' H' => ∃ (a' : Nat) (done' rest' : List (Tkn × Nat)) (xs' : List V) (y3 y4 y5 : Option V), σ' = [some (.str z), some (.ref l), some (.int (a' : Int)), y3, y4, y5] ∧ a < a' ∧ a' ≤ z.length ∧
        Same H H' ∧ H' l = some (.lst xs') ∧ DpAll K H' xs' (done'.map tokD) ∧ done'.length ≤ a' ∧ ts = done' ++ rest' ∧ LexTo a' ((tl z).drop a') rest' je le, fun σ' H' hN => ?_, ?_⟩
      · obtain ⟨a', d', r', xs', z3, z4, z5, e1, e2, e3, e4, e5, e6, e7, e8, e9⟩ := hN
        exact ⟨_, by omega, a', d', r', xs', z3, z4, z5, e1, e3, rfl, e4, e5, e6, e7, e8, e9⟩
      -- kind, value, end = token_at(text, at)
      refine ⟨_, rfl, _, rfl, z, a, rfl, hz, hlt, fun t n ht => ?_, fun hn => ?_⟩
      · intro p H2 val hs2 np hp hval
        have hpos := tokAt_pos ht
        rw [drop_len] at hpos
        refine ⟨p, _, rfl, .inl (.inl hp), rfl, _, _, rfl, _, _, rfl, _, _, rfl, rfl, ?_⟩
        -- found.append((kind, value, at))
        have hl2 : H2 l = some (.lst xs) := hs2 _ _ hl
        refine ⟨_, rfl, .inl ⟨rfl, _, .inl (.inl hl2)⟩, _, rfl, _, rfl, _, rfl, by show 3 ≤ sizeLine; decide, fun q nq => ?_⟩
        have hlq : (upd H2 q (.tup [.str (kindOf t), val, .int (a : Int)])) l = some (.lst xs) := same_upd nq _ _ hl2
        refine ⟨l, xs, _, rfl, rfl, hlq, ?_, ?_⟩
        · rw [dps_len hdp, List.length_map]
          exact Nat.lt_of_le_of_lt (Nat.le_trans hdl ha) (Nat.lt_of_le_of_lt hz (by decide))
        -- at = token_start(text, end)
        refine ⟨_, rfl, _, rfl, z, a + n, rfl, hz, by omega, ?_⟩
        have hsk2 := skip_le false ((tl z).drop (a + n))
        rw [drop_len] at hsk2
        generalize hH3 : upd (upd H2 q (.tup [.str (kindOf t), val, .int (a : Int)])) l (.lst (xs ++ [.ref q])) = H3
        have s13 : ∀ b o, H b = some o → H3 b = some o := fun b o e => by
          subst hH3
          rw [upd_ne (ne_of_none e nl)]
          exact same_upd nq _ _ (hs2 _ _ (hs _ _ e))
        have tt : ∀ a' ys, SqT K H1 a' ys → SqT K H3 a' ys := fun a' ys h => by
          subst hH3
          exact sqt_upd hlq a' ys (sqt_same (same_upd nq) a' ys (sqt_same hs2 a' ys h))
        have tt2 : ∀ a' ys, SqT K H2 a' ys → SqT K H3 a' ys := fun a' ys h => by
          subst hH3
          exact sqt_upd hlq a' ys (sqt_same (same_upd nq) a' ys h)
        have hq3 : H3 q = some (.tup [.str (kindOf t), val, .int (a : Int)]) := by
          subst hH3
          rw [upd_ne (ne_of upd_same hlq (by intro z; cases z)), upd_same]
        have dnew : Dp K H3 (.ref q) (tokD (t, a)) := .tup (.inl (.inl hq3)) (.cons (.str _) (.cons (dp_keep tt2 _ _ (noL_val t) hval) (.cons (.int _) .nil)))
        cases hlx with
        | refl => 
          rcases hstop with e | e
          · rw [hd] at e
            cases e
          · rw [e] at ht
            cases ht
        | step e r =>
          rw [ht] at e
          cases e
          rename_i ts'
          refine ⟨a + n + skip false ((tl z).drop (a + n)), done ++ [(t, a)], ts', _, _, _, _, rfl, by omega, by omega, s13, by subst hH3; exact upd_same, ?_, ?_, ?_, ?_⟩
          · rw [List.map_append]
            exact dps_append (dps_keep tt _ _ (noL_toks done) hdp) (.cons dnew .nil)
          · rw [List.length_append]
            simp
            omega
          · rw [ets, List.append_assoc]
            rfl
          · rw [List.drop_drop, List.drop_drop] at r
            exact r
      · -- no token stands there
        cases hlx with
        | refl =>
          intro d H' h1 h2 h3
          exact hbad (by rw [hd]; simp) d H' (hs.trans h1) (hs.free h2) h3
        | step e _ =>
          rw [hn] at e
          cases e
    · have hend : a = z.length := by
        have : ¬ a < z.length := by simpa using hc
        omega
      rw [drop_end (Nat.le_of_eq hend.symm)] at hlx
      refine ⟨_, rfl, ?_⟩
      cases hlx with
      | refl =>
        rw [List.append_nil] at ets
        subst ets
        exact hgood rfl l H1 xs hs nl hl hdp
      | step e _ => cases e
end
end Tk

namespace Tk
open PySem PySem.Spec PyProof.Rows L2 Ly Lx TL Px
/-! ### lines -/
section
variable {P : Program} {w : World} {K : PySem.W.Frag} {mg : Str → Option Value} {base : Heap}
theorem bindR_assoc (r : Res) (f g : PyData → Nat → Res) : bindR (bindR r f) g = bindR r fun d k => bindR (f d k) g := by
  match r with
  | .ok (d, k) => rfl
  | .error e => rfl
theorem expS_to {all : List (Tkn × Nat)} {n k k1 : Nat} {x : Str} {d : PyData} (h : expectS all n x k = .ok (d, k1)) : k1 = k + 1 := by
  unfold expectS at h
  split at h
  · cases h
    rfl
  · cases h
def spLine (K : PySem.W.Frag) (c : Cl) : Sp := fun vs H Q E => ∃ (R : RS) (k : Nat), vs = [.ref R.r] ∧ R.at_ K c.rd H k ∧ Out K c R (k + 1) H (lineM R.all R.n k) Q E
theorem okT_read_line (T : Top w K mg) (hX : FnT P w K mg base 340 T.a_read_expression T.fd_read_expression ["reader", "level"] (spLv K (clOf T) (exprNF 24) 24)) :
    FnT P w K mg base 342 T.a_read_line T.fd_read_line ["reader"] (spLine K (clOf T)) := by
  refine okT T.F_read_line sc_read_line (fun vs H Q E h => ?_) (fun cdv A outer s H vs Q E hr h => ?_)
  · obtain ⟨R, k, rfl, _⟩ := h
    rfl
  · obtain ⟨R, k, rfl, ha, q⟩ := h
    refine ⟨_, (pss_cons (ps_set (i := 1) sc_read_line.nd rfl (.inl rfl) (by exact (pe_meth0T (pv 0) T.cl_Reader T.M_Reader_where (okT_Reader_where T) (hr.mono (by first | decide | omega)) T.b_Reader_where (fun σ => L2N.passAt (L2N.takes_of rfl rfl rfl rfl) σ))))
      (pss_cons (ps_if (pt_val (pe_methT (pv 0) T.cl_Reader T.M_Reader_accept (okT_Reader_accept T) (hr.mono (by first | decide | omega)) T.b_Reader_accept (fun σ => L2N.passAt (L2N.takes_of rfl rfl rfl rfl) σ) (by exact (pa_cons pe_str pa_nil))))
      (pss_one (ps_set (i := 2) sc_read_line.nd rfl (.inl rfl) (by exact (pe_tup (pa_cons pe_str (pa_cons (pe_methT (pv 0) T.cl_Reader T.M_Reader_expect_kind (okT_Reader_expect_kind T) (hr.mono (by first | decide | omega)) T.b_Reader_expect_kind (fun σ => L2N.passAt (L2N.takes_of rfl rfl rfl rfl) σ) (by exact (pa_cons pe_str pa_nil))) (pa_cons (pv 1) pa_nil)))))))
      (pss_one (ps_if (pt_val (pe_methT (pv 0) T.cl_Reader T.M_Reader_accept (okT_Reader_accept T) (hr.mono (by first | decide | omega)) T.b_Reader_accept (fun σ => L2N.passAt (L2N.takes_of rfl rfl rfl rfl) σ) (by exact (pa_cons pe_str pa_nil))))
      (pss_one (ps_set (i := 2) sc_read_line.nd rfl (.inl rfl) (by exact (pe_callT (okT_read_unit T) (hr.mono (by first | decide | omega)) (by rfl) T.m_read_unit T.F_read_unit.kp T.b_read_unit (fun σ => L2N.passAt (L2N.takes_of rfl rfl rfl rfl) σ) (by exact (pa_cons (pv 0) (pa_cons (pv 1) pa_nil)))))))
      (pss_one (ps_if (pt_val (pe_methT (pv 0) T.cl_Reader T.M_Reader_accept (okT_Reader_accept T) (hr.mono (by first | decide | omega)) T.b_Reader_accept (fun σ => L2N.passAt (L2N.takes_of rfl rfl rfl rfl) σ) (by exact (pa_cons pe_str pa_nil))))
      (pss_one (ps_set (i := 2) sc_read_line.nd rfl (.inl rfl) (by exact (pe_callT (okT_read_function T hX) (hr.mono (by first | decide | omega)) (by rfl) T.m_read_function T.F_read_function.kp T.b_read_function (fun σ => L2N.passAt (L2N.takes_of rfl rfl rfl rfl) σ) (by exact (pa_cons (pv 0) (pa_cons (pv 1) pa_nil)))))))
      (pss_cons (ps_expr (pe_methT (pv 0) T.cl_Reader T.M_Reader_expect (okT_Reader_expect T) (hr.mono (by first | decide | omega)) T.b_Reader_expect (fun σ => L2N.passAt (L2N.takes_of rfl rfl rfl rfl) σ) (by exact (pa_cons pe_str pa_nil))))
      (pss_one (ps_set (i := 2) sc_read_line.nd rfl (.inl rfl) (by exact (pe_callT (okT_read_show T hX) (hr.mono (by first | decide | omega)) (by rfl) T.m_read_show T.F_read_show.kp T.b_read_show (fun σ => L2N.passAt (L2N.takes_of rfl rfl rfl rfl) σ) (by exact (pa_cons (pv 0) (pa_cons (pv 1) pa_nil)))))))))))))
      (pss_cons (ps_expr (pe_methT (pv 0) T.cl_Reader T.M_Reader_expect (okT_Reader_expect T) (hr.mono (by first | decide | omega)) T.b_Reader_expect (fun σ => L2N.passAt (L2N.takes_of rfl rfl rfl rfl) σ) (by exact (pa_cons pe_str pa_nil))))
      (pss_one (ps_ret (pv 2)))))), ?_⟩
    unfold lineM at q
    refine ⟨_, rfl, R.r, _, _, rfl, ha.1, rfl, R, k, rfl, ha, ?_⟩
    refine ⟨_, rfl, R.r, _, _, rfl, ha.1, rfl, R, k, "base", rfl, ha, sh1 _, fun hs1 H1 g1 ha1 => ⟨_, rfl, iteT ?_⟩, fun hs1 H1 g1 ha1 => ⟨_, rfl, iteF ?_⟩⟩
    · rw [if_pos hs1] at q
      unfold baseM at q
      rw [bindR_assoc] at q
      refine ⟨_, rfl, R.r, _, _, rfl, ha1.1, rfl, R, k + 1, "name", rfl, ha1, sh1 _, ?_⟩
      refine Out.step0 q g1 fun d2 k2 H2 v2 hr2 hk2 g2 ha2 hd2 hn2 q2 => ?_
      refine ⟨_, rfl, by show 3 ≤ sizeLine; decide, fun p np => ?_⟩
      have sm := Ly.same_new (o := .tup [.str "base", v2, .int (wh R.all R.n k : Int)]) np
      have ha3 := ha2.same sm
      have g3 := (g1.trans g2).trans (go_same sm)
      have hn3 : noL (.tuple [.str "base", d2, .int (wh R.all R.n k : Int)]) = true := noLs_cons rfl (noLs_cons hn2 rfl)
      have hd3 : Dp K (upd H2 p (.tup [.str "base", v2, .int (wh R.all R.n k : Int)])) (.ref p) (.tuple [.str "base", d2, .int (wh R.all R.n k : Int)]) :=
        .tup (SqT.of upd_same) (.cons (.str _) (.cons (dp_same sm hn2 hd2) (.cons (.int _) .nil)))
      refine ⟨_, rfl, R.r, _, _, rfl, ha3.1, rfl, R, k2, ";", rfl, ha3, sh1 _, ?_⟩
      refine Out.step0 q2 g3 fun d4 k4 H4 v4 hr4 hk4 g4 ha4 hd4 hn4 q4 => ?_
      have := expS_to hr4
      exact ⟨_, rfl, Out.ret q4 (by omega) (g3.trans g4) ha4 (dp_go g4 ha3.ins hn3 hd3) hn3⟩
    rw [if_neg (by rw [hs1]; exact Bool.false_ne_true)] at q
    refine ⟨_, rfl, R.r, _, _, rfl, ha1.1, rfl, R, k, "unit", rfl, ha1, sh1 _, fun hs2 H2 g2 ha2 => ⟨_, rfl, iteT ?_⟩, fun hs2 H2 g2 ha2 => ⟨_, rfl, iteF ?_⟩⟩
    · rw [if_pos hs2] at q
      refine ⟨_, rfl, _, rfl, R, k + 1, _, rfl, ha2, ?_⟩
      refine Out.step0 q (g1.trans g2) fun d3 k3 H3 v3 hr3 hk3 g3 ha3 hd3 hn3 q3 => ?_
      refine ⟨_, rfl, R.r, _, _, rfl, ha3.1, rfl, R, k3, ";", rfl, ha3, sh1 _, ?_⟩
      refine Out.step0 q3 ((g1.trans g2).trans g3) fun d4 k4 H4 v4 hr4 hk4 g4 ha4 hd4 hn4 q4 => ?_
      have := expS_to hr4
      exact ⟨_, rfl, Out.ret q4 (by omega) (((g1.trans g2).trans g3).trans g4) ha4 (dp_go g4 ha3.ins hn3 hd3) hn3⟩
    rw [if_neg (by rw [hs2]; exact Bool.false_ne_true)] at q
    have g02 := g1.trans g2
    refine ⟨_, rfl, R.r, _, _, rfl, ha2.1, rfl, R, k, "fun", rfl, ha2, sh1 _, fun hs3 H3 g3 ha3 => ⟨_, rfl, iteT ?_⟩, fun hs3 H3 g3 ha3 => ⟨_, rfl, iteF ?_⟩⟩
    · rw [if_pos hs3] at q
      refine ⟨_, rfl, _, rfl, R, k + 1, _, rfl, ha3, ?_⟩
      refine Out.step0 q (g02.trans g3) fun d4 k4 H4 v4 hr4 hk4 g4 ha4 hd4 hn4 q4 => ?_
      refine ⟨_, rfl, R.r, _, _, rfl, ha4.1, rfl, R, k4, ";", rfl, ha4, sh1 _, ?_⟩
      refine Out.step0 q4 ((g02.trans g3).trans g4) fun d5 k5 H5 v5 hr5 hk5 g5 ha5 hd5 hn5 q5 => ?_
      have := expS_to hr5
      exact ⟨_, rfl, Out.ret q5 (by omega) (((g02.trans g3).trans g4).trans g5) ha5 (dp_go g5 ha4.ins hn4 hd4) hn4⟩
    rw [if_neg (by rw [hs3]; exact Bool.false_ne_true), bindR_assoc] at q
    have g03 := g02.trans g3
    refine ⟨_, rfl, R.r, _, _, rfl, ha3.1, rfl, R, k, "show", rfl, ha3, sh1 _, ?_⟩
    refine Out.step0 q g03 fun d4 k4 H4 v4 hr4 hk4 g4 ha4 hd4 hn4 q4 => ?_
    refine ⟨_, rfl, _, rfl, R, k4, _, rfl, ha4, ?_⟩
    refine Out.step0 q4 (g03.trans g4) fun d5 k5 H5 v5 hr5 hk5 g5 ha5 hd5 hn5 q5 => ?_
    refine ⟨_, rfl, R.r, _, _, rfl, ha5.1, rfl, R, k5, ";", rfl, ha5, sh1 _, ?_⟩
    refine Out.step0 q5 ((g03.trans g4).trans g5) fun d6 k6 H6 v6 hr6 hk6 g6 ha6 hd6 hn6 q6 => ?_
    have := expS_to hr6
    exact ⟨_, rfl, Out.ret q6 (by omega) (((g03.trans g4).trans g5).trans g6) ha6 (dp_go g6 ha5.ins hn5 hd5) hn5⟩
/-- the reader is made -/
def spInit (C : Addr) : Sp := fun vs H Q _ => ∃ (x dx l : Addr) (n : Nat), vs = [.ref x, .ref l, .int (n : Int)] ∧ H x = some (.ins C dx []) ∧
  Q .non (upd (upd (upd H x (.ins C dx [("found", .ref l)])) x (.ins C dx [("found", .ref l), ("length", .int (n : Int))])) x (.ins C dx [("found", .ref l), ("length", .int (n : Int)), ("taken", .int 0)]))
theorem okT_Reader___init__ (T : Top w K mg) : FnT P w K mg base 1 T.a_Reader___init__ T.fd_Reader___init__ ["self", "found", "length"] (spInit T.a_Reader) := by
  refine okT T.F_Reader___init__ sc_Reader___init__ (fun vs H Q E h => ?_) (fun cdv A outer s H vs Q E hr h => ?_)
  · obtain ⟨x, dx, l, n, rfl, _⟩ := h
    rfl
  · obtain ⟨x, dx, l, n, rfl, hx, q⟩ := h
    refine ⟨_, (pss_cons (ps_fld (pv 0) (pv 1) rfl)
      (pss_cons (ps_fld (pv 0) (pv 2) rfl)
      (pss_one (ps_fld (pv 0) pe_int rfl)))), ?_⟩
    refine ⟨_, rfl, _, rfl, x, _, dx, [], rfl, hx, T.cl_Reader, T.nF_Reader_found, by show 0 < 1000; decide, ?_⟩
    refine ⟨_, rfl, _, rfl, x, _, dx, _, rfl, upd_same, T.cl_Reader, T.nF_Reader_length, by show 1 < 1000; decide, ?_⟩
    exact ⟨_, rfl, x, _, dx, _, rfl, upd_same, T.cl_Reader, T.nF_Reader_taken, by show 2 < 1000; decide, q⟩
end
end Tk

namespace Tk
open PySem PySem.Spec PyProof.Rows L2 Ly Lx TL Px
/-! ### parse -/
section
variable {P : Program} {w : World} {K : PySem.W.Frag} {mg : Str → Option Value} {base : Heap}
theorem LexTo.cnt {i j : Nat} {l l' : List Nat} {ts : List (Tkn × Nat)} (h : LexTo i l ts j l') : ts.length + l'.length ≤ l.length := by
  induction h with
  | refl => simp
  | step e _ ih =>
    have h1 := tokAt_pos e
    simp only [List.length_drop] at ih
    simp only [List.length_cons]
    omega
theorem shS {x : Str} (h : cpsOk x = true) : SeqAt.shaped (.str x) = true := by
  unfold SeqAt.shaped
  simp [PyData.canLay0, PyData.depth, strOk_of h]
theorem shN (t b : Nat) : SeqAt.shaped (.tuple [.int (t : Int), .int (b : Int)]) = true := by
  unfold SeqAt.shaped
  simp [PyData.canLay0, PyData.depth, PyData.canLayAll0, PyData.depthAll]
theorem naming_small {c : Nat} (h : inS naming c = true) : c < 0x110000 := by
  have h1 : ∀ c ∈ naming, c < 0x110000 := by decide
  exact h1 c (of_decide_eq_true h)
theorem cps_naming (l : List Nat) : cpsOk (mk (l.take (run naming l))) = true := by
  rw [take_run]
  show (l.takeWhile (inS naming)).all _ = true
  rw [List.all_eq_true]
  intro c hc
  have : inS naming c = true := by
    have := List.all_takeWhile (p := inS naming) (l := l)
    exact List.all_eq_true.mp this c hc
  exact decide_eq_true (naming_small this)
theorem tok_shaped {l : List Nat} {t : Tkn} {n : Nat} (h : tokAt l = some (t, n)) : SeqAt.shaped (valD t) = true := by
  cases l with
  | nil => cases h
  | cons c r =>
    rw [tokAt_cons] at h
    split at h
    · unfold nmAt at h
      split at h
      · cases h
        exact shS (cps_naming _)
      · split at h
        · cases h
        · cases h
          exact shS (cps_naming _)
    · split at h
      · unfold nrAt at h
        split at h
        · cases h
        · split at h
          · cases h
          · cases h
            exact shN _ _
      · unfold sgAt at h
        cases e : sgns.find? fun s => (tl s).isPrefixOf (c :: r) with
        | none => rw [e] at h; cases h
        | some s =>
          rw [e] at h
          cases h
          have hm := List.mem_of_find?_eq_some e
          have : ∀ s ∈ sgns, cpsOk s = true := by decide
          exact shS (this _ hm)
theorem LexTo.shaped {i j : Nat} {l l' : List Nat} {ts : List (Tkn × Nat)} (h : LexTo i l ts j l') : ∀ t ∈ ts, SeqAt.shaped (valD t.1) = true := by
  induction h with
  | refl => simp
  | step e _ ih =>
    intro t ht
    rcases List.mem_cons.mp ht with h | h
    · subst h
      exact tok_shaped e
    · exact ih t h
def ParOut (K : PySem.W.Frag) (CM CO : Addr) (res : Except Er (List PyData)) (H : Hp) (Q : VK) (E : XK) : Prop := match res with
  | .ok ls => ∀ l H' xs, Same H H' → H l = none → H' l = some (.lst xs) → DpAll K H' xs ls → noLs ls = true → Q (.ref l) H'
  | .error (.mal i) => ErrRes CM "at" (.int (i : Int)) H E
  | .error .over => ErrRes CO "limit" (.str "depth") H E
def sp_parse (K : PySem.W.Frag) (CM CO : Addr) : Sp := fun vs H Q E => ∃ (z : Str) (ts : List (Tkn × Nat)) (j : Nat), vs = [.str z] ∧ z.length ≤ 12000 ∧ LexTo (skip false (tl z)) ((tl z).drop (skip false (tl z))) ts j [] ∧
  ParOut K CM CO (parseM ts z.length) H Q E
theorem same_go {r : Addr} {H H1 H2 : Hp} (s : Same H H1) (h : H r = none) (g : Go r H1 H2) : Same H H2 := fun b o e => g.1 b o (fun hb => by subst hb; rw [h] at e; cases e) (s b o e)
theorem ErrRes.toG {R : RS} {C : Addr} {f : Str} {v : V} {H H1 : Hp} {E : XK} (h : ErrRes C f v H E) (s : Same H H1) (hr : H R.r = none) : ErrG R C f v H1 E := fun d H2 g hd e =>
  h d H2 (same_go s hr g) (by
    cases e0 : H d with
    | none => rfl
    | some o => rw [s d o e0] at hd; cases hd) e
theorem okT_parse (T : Top w K mg) (hL : FnT P w K mg base 342 T.a_read_line T.fd_read_line ["reader"] (spLine K (clOf T))) : FnT P w K mg base 343 T.a_parse T.fd_parse ["text"] (sp_parse K T.a_Malformed T.a_Oversized) := by
  refine okT T.F_parse sc_parse (fun vs H Q E h => ?_) (fun cdv A outer s H vs Q E hr h => ?_)
  · obtain ⟨z, ts, j, rfl, _⟩ := h
    rfl
  · obtain ⟨z, ts, j, rfl, hz, hlx, q⟩ := h
    refine ⟨_, (pss_cons (ps_set (i := 1) sc_parse.nd rfl (.inl rfl) (by exact (pe_makeT T.mk_Reader (okT_Reader___init__ T) (hr.mono (by first | decide | omega)) (by rfl) T.m_Reader T.b_Reader___init__ (fun σ => L2N.passAt (L2N.takes_of rfl rfl rfl rfl) σ) (by exact (pa_cons (pe_callT (FnT.of (ok_tokens T)) (hr.mono (by first | decide | omega)) (by rfl) T.m_tokens T.F_tokens.kp T.b_tokens (fun σ => L2N.passAt (L2N.takes_of rfl rfl rfl rfl) σ) (by exact (pa_cons (pv 0) pa_nil))) (pa_cons (pe_callB call_len (by rfl) T.n_len bt_len (pa_cons (pv 0) pa_nil)) pa_nil))))))
      (pss_cons (ps_set (i := 2) sc_parse.nd rfl (.inl rfl) (by exact (pe_lst pa_nil)))
      (pss_cons (ps_while (passes_of rfl) (pt_not (pt_val (pe_meth0T (pv 1) T.cl_Reader T.M_Reader_ended (okT_Reader_ended T) (hr.mono (by first | decide | omega)) T.b_Reader_ended (fun σ => L2N.passAt (L2N.takes_of rfl rfl rfl rfl) σ))))
      (pss_one (ps_expr (pe_bm PySem.F.plainAttrs_list PySem.F.slot_list_append PySem.F.type_list_append mt_append (pv 2) (pa_cons (pe_callT hL (hr.mono (by first | decide | omega)) (by rfl) T.m_read_line T.F_read_line.kp T.b_read_line (fun σ => L2N.passAt (L2N.takes_of rfl rfl rfl rfl) σ) (by exact (pa_cons (pv 1) pa_nil))) pa_nil)))))
      (pss_one (ps_ret (pv 2)))))), ?_⟩
    have hcnt := LexTo.cnt hlx
    rw [drop_len] at hcnt
    refine ⟨_, rfl, z, rfl, by omega, fun h => absurd h (by omega), fun _ => ⟨ts, j, [], hlx, .inl rfl, fun _ p H1 xs s1 np hp hdp => ?_, fun h => absurd rfl h⟩⟩
    refine ⟨_, rfl, _, z.length, rfl, ⟨sz (by omega), rfl⟩, fun r dx nr ndx hne => ?_⟩
    have hpr : p ≠ r := fun e => by subst e; rw [hp] at nr; cases nr
    have hpd : p ≠ dx := fun e => by subst e; rw [hp] at ndx; cases ndx
    refine ⟨r, dx, p, z.length, rfl, upd_same, rfl, ?_⟩
    generalize hH2 : upd (upd (upd (upd (upd H1 dx (.own r)) r (.ins T.a_Reader dx [])) r (.ins T.a_Reader dx [("found", .ref p)])) r (.ins T.a_Reader dx [("found", .ref p), ("length", .int (z.length : Int))])) r
      (.ins T.a_Reader dx [("found", .ref p), ("length", .int (z.length : Int)), ("taken", .int 0)]) = H2
    have s12 : Same H1 H2 := fun b o e => by
      subst hH2
      have h1 : b ≠ r := fun h => by subst h; rw [nr] at e; cases e
      have h2 : b ≠ dx := fun h => by subst h; rw [ndx] at e; cases e
      rw [upd_ne h1, upd_ne h1, upd_ne h1, upd_ne h1, upd_ne h2]
      exact e
    have hr2 : H2 r = some (.ins T.a_Reader dx [("found", .ref p), ("length", .int (z.length : Int)), ("taken", .int 0)]) := by
      subst hH2
      exact upd_same
    have s02 : Same H H2 := fun b o e => s12 b o (s1 b o e)
    have hr0 : H r = none := by
      cases e : H r with
      | none => rfl
      | some o => rw [s1 r o e] at nr; cases nr
    let R : RS := ⟨r, dx, p, xs, z.length, ts, LexTo.shaped hlx⟩
    have ha2 : R.at_ K (clOf T).rd H2 0 := ⟨hr2, s12 _ _ hp, dps_keep (sqt_same s12) _ _ (noL_toks _) hdp, Nat.zero_le _, by show ts.length ≤ 100000; omega⟩
    refine ⟨Nat.zero_le _, fun l nl => ?_⟩
    obtain ⟨L0, ha3⟩ := Fl.new ha2 (Go.refl R.r H2) nl
    have hl0 : H l = none := by
      cases e : H l with
      | none => rfl
      | some o => rw [s02 l o e] at nl; cases nl
    unfold parseM at q
    refine ⟨fun m σ H' => ∃ (k : Nat) (ys : List V) (ds : List PyData), σ = [some (.str z), some (.ref r), some (.ref l)] ∧ ys.length ≤ k ∧ ts.length + 1 ≤ m + k ∧ R.at_ K (clOf T).rd H' k ∧ Fl K R H2 H' l ys ds ∧
      ParOut K T.a_Malformed T.a_Oversized (linesL ts z.length m ds k) H Q E, ⟨ts.length + 1, 0, [], [], rfl, Nat.zero_le _, by omega, ha3, L0, q⟩, ?_⟩
    clear q
    rintro m σ H3 ⟨k, ys, ds, rfl, hys, hm, ha, L, q⟩
    have hle : k ≤ ts.length := ha.le
    obtain ⟨f, rfl⟩ : ∃ f, m = f + 1 := ⟨m - 1, by omega⟩
    unfold linesL at q
    refine ⟨_, rfl, r, _, _, rfl, ha.1, rfl, R, k, rfl, ha, ⟨_, rfl, ite2 (fun hc => ?_) (fun hc => ?_)⟩⟩
    · have hk : ¬ k = ts.length := by
        have hc' : decide (k = ts.length) = false := by simpa using hc
        exact of_decide_eq_false hc'
      rw [if_neg hk] at q
      have s03 := same_go s02 hr0 L.go
      refine ⟨fun σ' H' => ∃ (k : Nat) (ys : List V) (ds : List PyData), σ' = [some (.str z), some (.ref r), some (.ref l)] ∧ ys.length ≤ k ∧ ts.length + 1 ≤ f + k ∧ R.at_ K (clOf T).rd H' k ∧ Fl K R H2 H' l ys ds ∧
        ParOut K T.a_Malformed T.a_Oversized (linesL ts z.length f ds k) H Q E, fun σ' H' hN => ⟨f, by omega, hN⟩, ?_⟩
      refine ⟨_, rfl, .inl ⟨rfl, _, .inl (.inl L.is)⟩, _, rfl, R, k, rfl, ha, ?_⟩
      show Out K (clOf T) R (k + 1) H3 (lineM ts z.length k) _ _
      cases el : lineM ts z.length k with
      | ok dk =>
        obtain ⟨d, k4⟩ := dk
        rw [el] at q
        intro hk4 H4 v4 g4 ha4 hd4 hn4
        have L4 := L.step ha g4
        obtain ⟨L5, ha5⟩ := L4.app ha4 hd4 hn4
        refine ⟨l, ys, v4, rfl, rfl, L4.is, len_ok (by omega), ?_⟩
        exact ⟨k4, _, _, rfl, by rw [List.length_append]; simp; omega, by omega, ha5, L5, q⟩
      | error e =>
        rw [el] at q
        cases e with
        | mal i => exact ErrRes.toG q s03 hr0
        | over => exact ErrRes.toG q s03 hr0
    · have hk : k = ts.length := by
        have hc' : decide (k = ts.length) = true := by simpa using hc
        exact of_decide_eq_true hc'
      rw [if_pos hk] at q
      have s03 := same_go s02 hr0 L.go
      exact ⟨_, rfl, q l H3 ys s03 hl0 L.is L.dp L.no⟩
end
end Tk

/-! ### how the reader's chains group operands -/
namespace Px
open PySem PySem.Spec PyProof.Rows L2 Ly Lx TL
def sgTok (s : Str) : Tkn := if s = "or" ∨ s = "and" then .word s else .sign s
theorem sgTok_in (s : Str) (ws : List Str) : valIn (sgTok s) ws = ws.any (· == s) := by
  unfold sgTok
  split <;> rfl
/-- an operator with its index, and the operand behind it: its tree, its tokens -/
structure It where
  s : Str
  i : Nat
  d : PyData
  ts : List (Tkn × Nat)
def flat : List It → List (Tkn × Nat)
  | [] => []
  | t :: l => (sgTok t.s, t.i) :: t.ts ++ flat l
theorem flat_append : ∀ a b : List It, flat (a ++ b) = flat a ++ flat b
  | [], _ => rfl
  | t :: a, b => by
    show (sgTok t.s, t.i) :: t.ts ++ flat (a ++ b) = _
    rw [flat_append a b]
    simp [flat]
/-- what stands before the first of these operators, and each of them with what follows it -/
def dec (ws : List Str) : List It → List It × List (It × List It)
  | [] => ([], [])
  | t :: l => if ws.any (· == t.s) = true then ([], (t, (dec ws l).1) :: (dec ws l).2) else (t :: (dec ws l).1, (dec ws l).2)
def flatG : List (It × List It) → List It
  | [] => []
  | (t, g) :: l => t :: g ++ flatG l
theorem dec_flat (ws : List Str) : ∀ L, (dec ws L).1 ++ flatG (dec ws L).2 = L
  | [] => rfl
  | t :: l => by
    have ih := dec_flat ws l
    unfold dec
    split
    · show t :: ((dec ws l).1 ++ flatG (dec ws l).2) = _
      rw [ih]
    · show t :: ((dec ws l).1 ++ flatG (dec ws l).2) = _
      rw [ih]
theorem dec_pre (ws : List Str) : ∀ L, ∀ t ∈ (dec ws L).1, ws.any (· == t.s) = false
  | [], t, h => by simp [dec] at h
  | t :: l, u, h => by
    unfold dec at h
    split at h
    · simp at h
    · rename_i hn
      rcases List.mem_cons.mp h with e | e
      · subst e
        exact Bool.eq_false_iff.mpr hn
      · exact dec_pre ws l u e
theorem dec_grp (ws : List Str) : ∀ L, ∀ p ∈ (dec ws L).2, ws.any (· == p.1.s) = true ∧ ∀ t ∈ p.2, ws.any (· == t.s) = false
  | [], t, h => by simp [dec] at h
  | t :: l, p, h => by
    unfold dec at h
    split at h
    · rename_i hy
      rcases List.mem_cons.mp h with e | e
      · subst e
        exact ⟨hy, dec_pre ws l⟩
      · exact dec_grp ws l p e
    · exact dec_grp ws l p h
theorem mem_flatG : ∀ {G : List (It × List It)} {p : It × List It}, p ∈ G → p.1 ∈ flatG G ∧ ∀ t ∈ p.2, t ∈ flatG G
  | q :: G, p, h => by
    rcases List.mem_cons.mp h with e | e
    · subst e
      exact ⟨by simp [flatG], fun t ht => by simp [flatG, ht]⟩
    · obtain ⟨h1, h2⟩ := mem_flatG e
      exact ⟨by simp [flatG, h1], fun t ht => by simp [flatG, h2 t ht]⟩
/-- the tree that the levels give -/
def treeM : List (List Str) → PyData → List It → PyData
  | [], d, _ => d
  | ws :: lv, d, L => (dec ws L).2.foldl (fun e p => node (opName p.1.s) e (treeM lv p.1.d p.2) p.1.i) (treeM lv d (dec ws L).1)
section
variable (all : List (Tkn × Nat)) (n : Nat)
def At (k : Nat) (ts : List (Tkn × Nat)) : Prop := all.drop k = ts
variable {all n}
theorem At.get {k : Nat} {t : Tkn × Nat} {ts : List (Tkn × Nat)} (h : At all k (t :: ts)) : all[k]? = some t := by
  have h' : all.drop k = t :: ts := h
  have := congrArg List.head? h'
  rw [List.head?_drop] at this
  exact this
theorem At.app {k : Nat} {as bs : List (Tkn × Nat)} (h : At all k (as ++ bs)) : At all (k + as.length) bs := by
  have h' : all.drop k = as ++ bs := h
  show all.drop (k + as.length) = bs
  rw [← List.drop_drop, h', List.drop_left]
theorem At.next {k : Nat} {t : Tkn × Nat} {ts : List (Tkn × Nat)} (h : At all k (t :: ts)) : At all (k + 1) ts := At.app (as := [t]) h
theorem At.sees {k : Nat} {t : Tkn × Nat} {ts : List (Tkn × Nat)} (h : At all k (t :: ts)) (ws : List Str) : seesB all ws k = valIn t.1 ws := by
  unfold seesB
  rw [h.get]
theorem At.kind {k : Nat} {t : Tkn × Nat} {ts : List (Tkn × Nat)} (h : At all k (t :: ts)) (kd : Str) : kindB all kd k = (kindOf t.1 == kd) := by
  unfold kindB
  rw [h.get]
theorem At.wh {k : Nat} {t : Tkn × Nat} {ts : List (Tkn × Nat)} (h : At all k (t :: ts)) : wh all n k = t.2 := by
  unfold Px.wh
  rw [h.get]
theorem At.tv {k : Nat} {t : Tkn × Nat} {ts : List (Tkn × Nat)} (h : At all k (t :: ts)) : tvAt all k = valD t.1 := by
  unfold tvAt
  rw [h.get]
theorem At.str {k : Nat} {s : Str} {i : Nat} {ts : List (Tkn × Nat)} (h : At all k ((sgTok s, i) :: ts)) : Px.strAt all k = s := by
  unfold Px.strAt
  rw [h.get]
  unfold sgTok
  split <;> rename_i e
  · split at e <;> cases e <;> rfl
  · split at e <;> cases e <;> rfl
  · split at e <;> cases e <;> rfl
  · exfalso
    rename_i h1 h2 h3
    split at e <;> simp_all
/-- the next token is there, and none of these -/
def Hd (ws : List Str) (ts : List (Tkn × Nat)) : Prop := ∃ t r, ts = t :: r ∧ valIn t.1 ws = false
theorem valIn_append (t : Tkn) (a b : List Str) : valIn t (a ++ b) = (valIn t a || valIn t b) := by
  cases t <;> simp [valIn, List.any_append]
theorem Hd.left {a b : List Str} {ts : List (Tkn × Nat)} (h : Hd (a ++ b) ts) : Hd a ts := by
  obtain ⟨t, r, e, h⟩ := h
  rw [valIn_append, Bool.or_eq_false_iff] at h
  exact ⟨t, r, e, h.1⟩
theorem Hd.right {a b : List Str} {ts : List (Tkn × Nat)} (h : Hd (a ++ b) ts) : Hd b ts := by
  obtain ⟨t, r, e, h⟩ := h
  rw [valIn_append, Bool.or_eq_false_iff] at h
  exact ⟨t, r, e, h.2⟩
theorem Hd.sees {ws : List Str} {ts : List (Tkn × Nat)} {k : Nat} (h : Hd ws ts) (a : At all k ts) : seesB all ws k = false := by
  obtain ⟨t, r, e, h⟩ := h
  subst e
  rw [a.sees, h]
def avoid (lv : List (List Str)) : List Str := lv.flatten ++ (["^", "(", "["] : List Str)
/-- an operand -/
def Good (E : Nat → Nat → Res) (B : Nat) (d : PyData) (ts : List (Tkn × Nat)) : Prop :=
  (∃ t r, ts = t :: r ∧ valIn t.1 ["not", "if", "let"] = false) ∧
  ∀ (m k : Nat) (rest : List (Tkn × Nat)), B ≤ m → At all k (ts ++ rest) → Hd ["^", "(", "["] rest → powersM all n E m k = .ok (d, k + ts.length)
/-- a def that reads the levels lv -/
def Lev (E : Nat → Nat → Res) (B : Nat) (C : List It → Prop) (lv : List (List Str)) (f : Nat → Nat → Res) : Prop :=
  ∀ (m k : Nat) (d : PyData) (ts : List (Tkn × Nat)) (L : List It) (rest : List (Tkn × Nat)), At all k (ts ++ flat L ++ rest) → (∀ t ∈ L, (lv.flatten).any (· == t.s) = true) →
    Good (all := all) (n := n) E B d ts → (∀ t ∈ L, Good (all := all) (n := n) E B t.d t.ts) → L.length + B ≤ m → Hd (avoid lv) rest → C L → f m k = .ok (treeM lv d L, k + (ts.length + (flat L).length))
theorem lev_nil {E : Nat → Nat → Res} {B : Nat} {C : List It → Prop} : Lev (all := all) (n := n) E B C [] (powersM all n E) := by
  intro m k d ts L rest hat hL hg _ hB hd _
  cases L with
  | cons t L => exact absurd (hL t List.mem_cons_self) (by simp)
  | nil =>
    have := hg.2 m k rest (by simpa using hB) (by simpa [flat] using hat) hd
    simpa [flat, treeM] using this
theorem hd_flatG {E : Nat → Nat → Res} {ops : List Str} {lv : List (List Str)} {G : List (It × List It)} {rest : List (Tkn × Nat)} (hG : ∀ p ∈ G, ops.any (· == p.1.s) = true) (hdis : ∀ s ∈ ops, (avoid lv).any (· == s) = false)
    (hr : Hd (avoid (ops :: lv)) rest) : Hd (avoid lv) (flat (flatG G) ++ rest) := by
  cases G with
  | nil =>
    have : avoid (ops :: lv) = ops ++ avoid lv := by simp [avoid]
    rw [this] at hr
    exact hr.right
  | cons p G =>
    obtain ⟨t, g⟩ := p
    refine ⟨(sgTok t.s, t.i), _, rfl, ?_⟩
    show valIn (sgTok t.s) _ = false
    rw [sgTok_in]
    have h1 := hG _ List.mem_cons_self
    obtain ⟨s, hs, e⟩ := List.any_eq_true.mp h1
    have := eq_of_beq e
    subst this
    exact hdis _ hs
theorem chainL_lev {E : Nat → Nat → Res} {B : Nat} {C : List It → Prop} {ops : List Str} {lv : List (List Str)} {f : Nat → Nat → Res} (hf : Lev (all := all) (n := n) E B C lv f) (hdis : ∀ s ∈ ops, (avoid lv).any (· == s) = false) (hB : 1 ≤ B) :
    ∀ (G : List (It × List It)) (m k : Nat) (e : PyData) (rest : List (Tkn × Nat)), At all k (flat (flatG G) ++ rest) → (∀ p ∈ G, ops.any (· == p.1.s) = true ∧ C p.2 ∧ (∀ t ∈ p.2, (lv.flatten).any (· == t.s) = true)) →
      (∀ t ∈ flatG G, Good (all := all) (n := n) E B t.d t.ts) → (flatG G).length + B ≤ m → Hd (avoid (ops :: lv)) rest →
      chainL all n ops f m e k = .ok (G.foldl (fun e p => node (opName p.1.s) e (treeM lv p.1.d p.2) p.1.i) e, k + (flat (flatG G)).length)
  | [], m, k, e, rest, hat, _, _, hm, hr => by
    obtain ⟨m', rfl⟩ : ∃ m', m = m' + 1 := ⟨m - 1, by omega⟩
    have : avoid (ops :: lv) = ops ++ avoid lv := by simp [avoid]
    rw [this] at hr
    have hs := hr.left.sees (k := k) hat
    unfold chainL
    rw [if_neg (by rw [hs]; exact Bool.false_ne_true)]
    rfl
  | (t, g) :: G, m, k, e, rest, hat, hG, hgood, hm, hr => by
    have hlen : (flatG ((t, g) :: G)).length = 1 + g.length + (flatG G).length := by
      show (t :: g ++ flatG G).length = _
      rw [List.length_append, List.length_cons]
      omega
    rw [hlen] at hm
    obtain ⟨m', rfl⟩ : ∃ m', m = m' + 1 := ⟨m - 1, by omega⟩
    obtain ⟨h1, hc, hg⟩ := hG _ List.mem_cons_self
    have efl : flat (flatG ((t, g) :: G)) = (sgTok t.s, t.i) :: (t.ts ++ flat g) ++ flat (flatG G) := by
      show flat (t :: g ++ flatG G) = _
      rw [flat_append]
      simp [flat]
    rw [efl] at hat
    have hat' : At all k ((sgTok t.s, t.i) :: (t.ts ++ flat g ++ (flat (flatG G) ++ rest))) := by simpa using hat
    have hs : seesB all ops k = true := by
      rw [hat'.sees]
      show valIn (sgTok t.s) ops = true
      rw [sgTok_in]
      exact h1
    have hgo := hgood t (by show t ∈ t :: g ++ flatG G; simp)
    have hr2 := hd_flatG (E := E) (fun p hp => (hG p (List.mem_cons_of_mem _ hp)).1) hdis hr
    have hp := hf m' (k + 1) t.d t.ts g (flat (flatG G) ++ rest) hat'.next hg hgo (fun u hu => hgood u (by show u ∈ t :: g ++ flatG G; simp [hu])) (by omega) hr2 hc
    have hat2 : At all (k + 1 + (t.ts.length + (flat g).length)) (flat (flatG G) ++ rest) := by
      have := At.app hat'.next
      rw [List.length_append] at this
      exact this
    have ih := chainL_lev hf hdis hB G m' (k + 1 + (t.ts.length + (flat g).length)) (node (opName t.s) e (treeM lv t.d g) t.i) rest hat2 (fun p hp => hG p (List.mem_cons_of_mem _ hp))
      (fun u hu => hgood u (by show u ∈ t :: g ++ flatG G; simp [hu])) (by omega) hr
    unfold chainL
    rw [if_pos hs, hp]
    show chainL all n ops f m' (node (opName (Px.strAt all k)) e (treeM lv t.d g) (wh all n k)) _ = _
    rw [hat'.str, hat'.wh, ih, efl]
    simp only [List.foldl_cons, List.length_append, List.length_cons]
    congr 2
    omega
theorem chain_lev {E : Nat → Nat → Res} {B : Nat} {C C' : List It → Prop} {ops : List Str} {lv : List (List Str)} {f : Nat → Nat → Res} (hf : Lev (all := all) (n := n) E B C lv f) (hdis : ∀ s ∈ ops, (avoid lv).any (· == s) = false) (hB : 1 ≤ B)
    (hC : ∀ L, (∀ t ∈ L, ((ops :: lv).flatten).any (· == t.s) = true) → C' L → C (dec ops L).1 ∧ ∀ p ∈ (dec ops L).2, C p.2) : Lev (all := all) (n := n) E B C' (ops :: lv) (chainM all n ops f) := by
  intro m k d ts L rest hat hL hg hgood hm hr hCL
  obtain ⟨hC1, hC2⟩ := hC L hL hCL
  have ef := dec_flat ops L
  have deep : ∀ t ∈ L, ops.any (· == t.s) = false → (lv.flatten).any (· == t.s) = true := fun t ht h => by
    have := hL t ht
    rw [List.flatten_cons, List.any_append, h, Bool.false_or] at this
    exact this
  have mp : ∀ t ∈ (dec ops L).1, t ∈ L := fun t ht => by rw [← ef]; exact List.mem_append_left _ ht
  have mg : ∀ t ∈ flatG (dec ops L).2, t ∈ L := fun t ht => by rw [← ef]; exact List.mem_append_right _ ht
  have hlen : (dec ops L).1.length + (flatG (dec ops L).2).length = L.length := by rw [← List.length_append, ef]
  have hfl : flat L = flat (dec ops L).1 ++ flat (flatG (dec ops L).2) := by rw [← flat_append, ef]
  rw [hfl] at hat
  have hat1 : At all k (ts ++ flat (dec ops L).1 ++ (flat (flatG (dec ops L).2) ++ rest)) := by simpa using hat
  have hr2 := hd_flatG (E := E) (fun p hp => (dec_grp ops L p hp).1) hdis hr
  have h1 := hf m k d ts (dec ops L).1 _ hat1 (fun t ht => deep t (mp t ht) (dec_pre ops L t ht)) hg (fun t ht => hgood t (mp t ht)) (by omega) hr2 hC1
  have hat2 : At all (k + (ts.length + (flat (dec ops L).1).length)) (flat (flatG (dec ops L).2) ++ rest) := by
    have := At.app hat1
    rw [List.length_append] at this
    exact this
  have h2 := chainL_lev hf hdis hB (dec ops L).2 m _ (treeM lv d (dec ops L).1) rest hat2
    (fun p hp => ⟨(dec_grp ops L p hp).1, hC2 p hp, fun t ht => deep t (mg t ((mem_flatG hp).2 t ht)) ((dec_grp ops L p hp).2 t ht)⟩) (fun t ht => hgood t (mg t ht)) (by omega) hr
  unfold chainM
  rw [h1]
  show chainL all n ops f m (treeM lv d (dec ops L).1) _ = _
  rw [h2, hfl]
  simp only [treeM, List.length_append]
  congr 2
  omega
end
end Px

/-! ### the levels, the operands -/
namespace Px
open PySem PySem.Spec PyProof.Rows L2 Ly Lx TL
abbrev cmps : List Str := ["<", "<=", "=="]
def lv5 : List (List Str) := []
def lv4 : List (List Str) := ["*", "/"] :: lv5
def lv3 : List (List Str) := ["+", "-"] :: lv4
def lv2 : List (List Str) := cmps :: lv3
def lv1 : List (List Str) := ["and"] :: lv2
def lv0 : List (List Str) := ["or"] :: lv1
/-- at most one comparison between words -/
def one : Bool → List It → Bool
  | _, [] => true
  | c, t :: l => if cmps.any (· == t.s) = true then !c && one true l else if (["or", "and"] : List Str).any (· == t.s) = true then one false l else one c l
theorem one_weak : ∀ (l : List It), one true l = true → one false l = true
  | [], _ => rfl
  | t :: l, h => by
    unfold one at h ⊢
    split
    · rename_i e
      rw [if_pos e] at h
      simp at h
    · rename_i e
      rw [if_neg e] at h
      split
      · rename_i e2
        rw [if_pos e2] at h
        exact h
      · rename_i e2
        rw [if_neg e2] at h
        exact one_weak l h
theorem one_dec {ops : List Str} (ho : ∀ s ∈ ops, s = "or" ∨ s = "and") : ∀ (l : List It) (c : Bool), one c l = true → one c (dec ops l).1 = true ∧ ∀ p ∈ (dec ops l).2, one false p.2 = true
  | [], c, _ => ⟨rfl, fun p h => by simp [dec] at h⟩
  | t :: l, c, h => by
    unfold dec
    split
    · rename_i hw
      obtain ⟨s, hs, e⟩ := List.any_eq_true.mp hw
      have := eq_of_beq e
      subst this
      have hcm : cmps.any (· == t.s) = false := by
        rcases ho _ hs with e | e <;> rw [e] <;> decide
      have how : (["or", "and"] : List Str).any (· == t.s) = true := by
        rcases ho _ hs with e | e <;> rw [e] <;> decide
      unfold one at h
      rw [if_neg (by rw [hcm]; exact Bool.false_ne_true), if_pos how] at h
      obtain ⟨h1, h2⟩ := one_dec ho l false h
      refine ⟨rfl, fun p hp => ?_⟩
      rcases List.mem_cons.mp hp with e | e
      · subst e
        exact h1
      · exact h2 p e
    · unfold one at h
      split at h
      · rename_i e
        rw [Bool.and_eq_true] at h
        obtain ⟨h1, h2⟩ := one_dec ho l true h.2
        refine ⟨?_, h2⟩
        show one c (t :: (dec ops l).1) = true
        unfold one
        rw [if_pos e, h.1, h1]
        rfl
      · rename_i e
        split at h
        · rename_i e2
          obtain ⟨h1, h2⟩ := one_dec ho l false h
          refine ⟨?_, h2⟩
          show one c (t :: (dec ops l).1) = true
          unfold one
          rw [if_neg e, if_pos e2, h1]
        · rename_i e2
          obtain ⟨h1, h2⟩ := one_dec ho l c h
          refine ⟨?_, h2⟩
          show one c (t :: (dec ops l).1) = true
          unfold one
          rw [if_neg e, if_neg e2, h1]
/-- where no word stands, at most one comparison is found -/
theorem one_cmp : ∀ (l : List It) (c : Bool), one c l = true → (∀ t ∈ l, (["or", "and"] : List Str).any (· == t.s) = false) → (dec cmps l).2.length + (if c = true then 1 else 0) ≤ 1
  | [], c, _, _ => by
    cases c <;> simp [dec]
  | t :: l, c, h, hw => by
    have hw' := hw t List.mem_cons_self
    unfold one at h
    unfold dec
    split
    · rename_i e
      rw [if_pos e, Bool.and_eq_true] at h
      have := one_cmp l true h.2 fun u hu => hw u (List.mem_cons_of_mem _ hu)
      simp only [if_true] at this
      have hc : c = false := by simpa using h.1
      subst hc
      simp only [List.length_cons]
      have : (dec cmps l).2.length = 0 := by omega
      rw [this]
      decide
    · rename_i e
      rw [if_neg e, if_neg (by rw [hw']; exact Bool.false_ne_true)] at h
      exact one_cmp l c h fun u hu => hw u (List.mem_cons_of_mem _ hu)
section
variable {all : List (Tkn × Nat)} {n : Nat} {E : Nat → Nat → Res} {B : Nat}
theorem lev_factors (hB : 1 ≤ B) : Lev (all := all) (n := n) E B (fun _ => True) lv4 (factorsM all n E) :=
  chain_lev (C := fun _ => True) lev_nil (by decide) hB fun _ _ _ => ⟨trivial, fun _ _ => trivial⟩
theorem lev_terms (hB : 1 ≤ B) : Lev (all := all) (n := n) E B (fun _ => True) lv3 (termsM all n E) :=
  chain_lev (C := fun _ => True) (lev_factors hB) (by decide) hB fun _ _ _ => ⟨trivial, fun _ _ => trivial⟩
theorem lev_plain (hB : 1 ≤ B) : Lev (all := all) (n := n) E B (fun l => one false l = true) lv2 (plainM all n E) := by
  intro m k d ts L rest hat hL hg hgood hm hr hC
  obtain ⟨m', rfl⟩ : ∃ m', m = m' + 1 := ⟨m - 1, by omega⟩
  have hno : ∀ t ∈ L, (["or", "and"] : List Str).any (· == t.s) = false := fun t ht => by
    have h1 := hL t ht
    obtain ⟨s, hs, e⟩ := List.any_eq_true.mp h1
    have := eq_of_beq e
    subst this
    have : ∀ s ∈ lv2.flatten, (["or", "and"] : List Str).any (· == s) = false := by decide
    exact this _ hs
  have hc := one_cmp L false hC hno
  have hdis : ∀ s ∈ cmps, (avoid lv3).any (· == s) = false := by decide
  have ef := dec_flat cmps L
  have deep : ∀ t ∈ L, cmps.any (· == t.s) = false → (lv3.flatten).any (· == t.s) = true := fun t ht h => by
    have := hL t ht
    rw [show lv2 = cmps :: lv3 from rfl, List.flatten_cons, List.any_append, h, Bool.false_or] at this
    exact this
  have mp : ∀ t ∈ (dec cmps L).1, t ∈ L := fun t ht => by rw [← ef]; exact List.mem_append_left _ ht
  have mg : ∀ t ∈ flatG (dec cmps L).2, t ∈ L := fun t ht => by rw [← ef]; exact List.mem_append_right _ ht
  have hlen : (dec cmps L).1.length + (flatG (dec cmps L).2).length = L.length := by rw [← List.length_append, ef]
  have hfl : flat L = flat (dec cmps L).1 ++ flat (flatG (dec cmps L).2) := by rw [← flat_append, ef]
  obtain ⟨⟨t0, r0, e0, h0⟩, hgo⟩ := hg
  have hat0 : At all k (t0 :: (r0 ++ flat L ++ rest)) := by
    subst e0
    simpa using hat
  have hnot : seesB all ["not"] k = false := by
    rw [hat0.sees]
    rw [show (["not", "if", "let"] : List Str) = (["not"] : List Str) ++ (["if", "let"] : List Str) from rfl, valIn_append, Bool.or_eq_false_iff] at h0
    exact h0.1
  rw [hfl] at hat
  have hat1 : At all k (ts ++ flat (dec cmps L).1 ++ (flat (flatG (dec cmps L).2) ++ rest)) := by simpa using hat
  have hr2 := hd_flatG (E := E) (fun p hp => (dec_grp cmps L p hp).1) hdis hr
  have h1 := lev_terms hB (m' + 1) k d ts (dec cmps L).1 _ hat1 (fun t ht => deep t (mp t ht) (dec_pre cmps L t ht)) ⟨⟨t0, r0, e0, h0⟩, hgo⟩ (fun t ht => hgood t (mp t ht)) (by omega) hr2 trivial
  have hat2 : At all (k + (ts.length + (flat (dec cmps L).1).length)) (flat (flatG (dec cmps L).2) ++ rest) := by
    have := At.app hat1
    rw [List.length_append] at this
    exact this
  unfold plainM
  rw [if_neg (by rw [hnot]; exact Bool.false_ne_true), h1]
  show (if seesB all ["<", "<=", "=="] (k + (ts.length + (flat (dec cmps L).1).length)) = true then _ else _) = _
  cases hG : (dec cmps L).2 with
  | nil =>
    rw [hG] at hat2
    have hs : seesB all cmps (k + (ts.length + (flat (dec cmps L).1).length)) = false := by
      have : avoid lv2 = cmps ++ avoid lv3 := by simp [avoid, lv2]
      rw [this] at hr
      exact hr.left.sees hat2
    rw [if_neg (by rw [hs]; exact Bool.false_ne_true)]
    rw [hfl, hG]
    simp only [treeM, lv2, hG, List.foldl_nil, flatG, flat, List.append_nil]
  | cons p G =>
    obtain ⟨t, g⟩ := p
    have hnil : G = [] := by
      rw [hG] at hc
      simp only [List.length_cons] at hc
      exact List.eq_nil_of_length_eq_zero (by omega)
    subst hnil
    have hdg := dec_grp cmps L (t, g) (by rw [hG]; simp)
    have e1 : flat (flatG [(t, g)]) = (sgTok t.s, t.i) :: (t.ts ++ flat g) := by
      show flat (t :: g ++ []) = _
      rw [List.append_nil]
      rfl
    rw [hG, e1] at hat2
    have hs : seesB all cmps (k + (ts.length + (flat (dec cmps L).1).length)) = true := by
      rw [At.sees hat2]
      show valIn (sgTok t.s) _ = true
      rw [sgTok_in]
      exact hdg.1
    rw [if_pos hs]
    have mg' : ∀ u ∈ t :: g, u ∈ L := fun u hu => mg u (by rw [hG]; show u ∈ t :: g ++ []; simpa using hu)
    have hr3 : Hd (avoid lv3) rest := by
      have : avoid lv2 = cmps ++ avoid lv3 := by simp [avoid, lv2]
      rw [this] at hr
      exact hr.right
    have hl2 : (dec cmps L).1.length + (1 + g.length) = L.length := by
      rw [hG] at hlen
      simp [flatG] at hlen
      omega
    have h2 := lev_terms hB m' _ t.d t.ts g rest (show At all _ (t.ts ++ flat g ++ rest) from by simpa using (At.next hat2)) (fun u hu => deep u (mg' u (List.mem_cons_of_mem _ hu)) (hdg.2 u hu)) (hgood t (mg' t List.mem_cons_self))
      (fun u hu => hgood u (mg' u (List.mem_cons_of_mem _ hu))) (by omega) hr3 trivial
    rw [h2]
    show Except.ok _ = _
    rw [At.str (by simpa using hat2), At.wh hat2, hfl, hG, e1]
    simp only [treeM, lv2, hG, List.foldl_cons, List.foldl_nil, List.length_append, List.length_cons]
    congr 2
    omega
theorem lev_both (hB : 1 ≤ B) : Lev (all := all) (n := n) E B (fun l => one false l = true) lv1 (bothM all n E) :=
  chain_lev (lev_plain hB) (by decide) hB fun L _ h => one_dec (by decide) L false h
theorem lev_or (hB : 1 ≤ B) : Lev (all := all) (n := n) E B (fun l => one false l = true) lv0 (chainM all n ["or"] (bothM all n E)) :=
  chain_lev (lev_both hB) (by decide) hB fun L _ h => one_dec (by decide) L false h
theorem lev_expr (hB : 1 ≤ B) : Lev (all := all) (n := n) E B (fun l => one false l = true) lv0 (exprM all n E) := by
  intro m k d ts L rest hat hL hg hgood hm hr hC
  obtain ⟨m', rfl⟩ : ∃ m', m = m' + 1 := ⟨m - 1, by omega⟩
  obtain ⟨⟨t0, r0, e0, h0⟩, hgo⟩ := hg
  have hat0 : At all k (t0 :: (r0 ++ flat L ++ rest)) := by
    subst e0
    simpa using hat
  have h0' := h0
  rw [show (["not", "if", "let"] : List Str) = (["not"] : List Str) ++ ((["if"] : List Str) ++ (["let"] : List Str)) from rfl, valIn_append, valIn_append, Bool.or_eq_false_iff, Bool.or_eq_false_iff] at h0
  have h1 := lev_or hB (m' + 1) k d ts L rest hat hL ⟨⟨t0, r0, e0, h0'⟩, hgo⟩ hgood hm hr hC
  unfold exprM
  dsimp only
  rw [if_neg (by rw [hat0.sees, h0.2.1]; exact Bool.false_ne_true), if_neg (by rw [hat0.sees, h0.2.2]; exact Bool.false_ne_true), h1]
end
end Px

/-! ### the law's operands -/
namespace Px
open PySem PySem.Spec PyProof.Rows L2 Ly Lx TL
def varD (w : Str) (i : Nat) : PyData := .tuple [.str "var", .str w, .int (i : Int)]
def opPick (c : Nat) : Nat := c / 20 % 4
def opVal (c : Nat) : Nat := c / 80 % 1000
def opD (c i : Nat) : PyData :=
  if opPick c = 1 then .tuple [.str "number", .tuple [.int (opVal c : Int), .int ((1 : Nat) : Int)], .tuple [], .int (i : Int)]
  else if opPick c = 2 then .tuple [.str "call", .str "f", .tuple [varD "y" (i + 2)], .int (i : Int)]
  else if opPick c = 3 then .tuple [.str "power", .tuple [.str "power", varD "x" i, .int ((2 : Nat) : Int), .int ((i + 1 : Nat) : Int)], .int (-3), .int ((i + 3 : Nat) : Int)]
  else varD "x" i
def opT (c i : Nat) : List (Tkn × Nat) :=
  if opPick c = 1 then [(.num (opVal c) 1, i)]
  else if opPick c = 2 then [(.name "f", i), (.sign "(", i + 1), (.name "y", i + 2), (.sign ")", i + 3)]
  else if opPick c = 3 then [(.name "x", i), (.sign "^", i + 1), (.num 2 1, i + 2), (.sign "^", i + 3), (.sign "-", i + 4), (.num 3 1, i + 5)]
  else [(.name "x", i)]
section
variable {all : List (Tkn × Nat)} {n : Nat} {E : Nat → Nat → Res}
theorem powL_end {m k : Nat} {e : PyData} {rest : List (Tkn × Nat)} (hat : At all k rest) (hr : Hd ["^", "(", "["] rest) (hm : 1 ≤ m) : powL all n m e k = .ok (e, k) := by
  obtain ⟨m', rfl⟩ : ∃ m', m = m' + 1 := ⟨m - 1, by omega⟩
  have h1 : Hd ((["^"] : List Str) ++ (["(", "["] : List Str)) rest := hr
  unfold powL
  rw [if_neg (by rw [h1.left.sees hat]; exact Bool.false_ne_true)]
theorem prim_name {m k i : Nat} {w : Str} {rest : List (Tkn × Nat)} (hw : (["true", "false", "(", "iterate"] : List Str).any (· == w) = false) (hat : At all k ((.name w, i) :: rest)) :
    primM all n E (m + 1) k = if seesB all ["("] (k + 1) = true then bindR (argsM all n (E m) (k + 2)) fun a k2 => .ok (.tuple [.str "call", .str w, a, .int (i : Int)], k2) else .ok (varD w i, k + 1) := by
  have hs : ∀ v : Str, v ∈ (["true", "false", "(", "iterate"] : List Str) → seesB all [v] k = false := fun v hv => by
    rw [hat.sees]
    show ([v].any (· == w)) = false
    have := List.any_eq_false.mp hw v hv
    simpa using this
  unfold primM
  rw [if_neg (by rw [hat.kind]; exact (by decide : ¬ (("name" : Str) == "number") = true)), if_neg (by rw [hs "true" (by decide)]; exact Bool.false_ne_true), if_neg (by rw [hs "false" (by decide)]; exact Bool.false_ne_true),
    if_neg (by rw [hs "(" (by decide)]; exact Bool.false_ne_true), if_neg (by rw [hs "iterate" (by decide)]; exact Bool.false_ne_true)]
  unfold expectKind
  rw [if_pos (by rw [hat.kind]; exact (by decide : (("name" : Str) == "name") = true)), hat.tv, hat.wh]
  rfl
theorem good_var {B i : Nat} {w : Str} (hB : 1 ≤ B) (hw : (["true", "false", "(", "iterate", "not", "if", "let"] : List Str).any (· == w) = false) : Good (all := all) (n := n) E B (varD w i) [(.name w, i)] := by
  have hw' : ((["true", "false", "(", "iterate"] : List Str) ++ (["not", "if", "let"] : List Str)).any (· == w) = false := hw
  rw [List.any_append, Bool.or_eq_false_iff] at hw'
  refine ⟨⟨_, _, rfl, hw'.2⟩, fun m k rest hm hat hr => ?_⟩
  obtain ⟨m', rfl⟩ : ∃ m', m = m' + 1 := ⟨m - 1, by omega⟩
  have hat2 : At all (k + 1) rest := At.next hat
  have h1 : Hd ((["^"] : List Str) ++ ((["("] : List Str) ++ (["["] : List Str))) rest := hr
  unfold powersM
  rw [prim_name hw'.1 hat, if_neg (by rw [h1.right.left.sees hat2]; exact Bool.false_ne_true)]
  exact powL_end hat2 hr (by omega)
theorem good_num {B i v : Nat} (hB : 1 ≤ B) : Good (all := all) (n := n) E B (.tuple [.str "number", .tuple [.int (v : Int), .int ((1 : Nat) : Int)], .tuple [], .int (i : Int)]) [(.num v 1, i)] := by
  refine ⟨⟨_, _, rfl, rfl⟩, fun m k rest hm hat hr => ?_⟩
  obtain ⟨m', rfl⟩ : ∃ m', m = m' + 1 := ⟨m - 1, by omega⟩
  have hat2 : At all (k + 1) rest := At.next hat
  have h1 : Hd ((["^"] : List Str) ++ ((["("] : List Str) ++ (["["] : List Str))) rest := hr
  unfold powersM primM
  rw [if_pos (by rw [At.kind hat]; exact (by decide : (("number" : Str) == "number") = true))]
  unfold numberM
  rw [if_neg (by rw [h1.right.right.sees hat2]; exact Bool.false_ne_true), At.tv hat, At.wh hat]
  exact powL_end hat2 hr (by omega)
theorem one_expr {m k i : Nat} {w : Str} {rest : List (Tkn × Nat)} (hm : 1 ≤ m) (hw : (["true", "false", "(", "iterate", "not", "if", "let"] : List Str).any (· == w) = false) (hat : At all k ((.name w, i) :: (.sign ")", i + 1) :: rest)) :
    exprM all n E m k = .ok (varD w i, k + 1) := by
  have := lev_expr (all := all) (n := n) (E := E) (B := 1) (Nat.le_refl _) m k (varD w i) [(.name w, i)] [] ((.sign ")", i + 1) :: rest) hat (fun t ht => by simp at ht) (good_var (Nat.le_refl _) hw) (fun t ht => by simp at ht) (by simpa using hm)
    ⟨_, _, rfl, by dsimp only; decide⟩ rfl
  exact this
theorem good_call {B i : Nat} {E' : Nat → Nat → Res} (hB : 2 ≤ B) : Good (all := all) (n := n) (exprM all n E') B (.tuple [.str "call", .str "f", .tuple [varD "y" (i + 2)], .int (i : Int)]) [(.name "f", i), (.sign "(", i + 1), (.name "y", i + 2), (.sign ")", i + 3)] := by
  refine ⟨⟨_, _, rfl, by dsimp only; decide⟩, fun m k rest hm hat hr => ?_⟩
  obtain ⟨m', rfl⟩ : ∃ m', m = m' + 1 := ⟨m - 1, by omega⟩
  have hat1 : At all (k + 1) ((.sign "(", i + 1) :: (.name "y", i + 2) :: (.sign ")", i + 3) :: rest) := At.next hat
  have hat2 := hat1.next
  have hat3 := hat2.next
  have hat4 := hat3.next
  unfold powersM
  rw [prim_name (by decide) hat, if_pos (by rw [hat1.sees]; dsimp only; decide)]
  unfold argsM
  rw [if_neg (by rw [hat2.sees]; dsimp only; decide), one_expr (by omega) (by decide) hat2]
  show bindR (bindR (argsL all n (exprM all n E' m') (all.length + 1) [varD "y" (i + 2)] (k + 1 + 1 + 1)) _) _ = _
  unfold argsL
  rw [if_neg (by rw [hat3.sees]; dsimp only; decide)]
  unfold expectS
  rw [if_pos (by rw [hat3.sees]; dsimp only; decide)]
  exact powL_end hat4 hr (by omega)
theorem good_pow {B i : Nat} (hB : 4 ≤ B) : Good (all := all) (n := n) E B (.tuple [.str "power", .tuple [.str "power", varD "x" i, .int ((2 : Nat) : Int), .int ((i + 1 : Nat) : Int)], .int (-3), .int ((i + 3 : Nat) : Int)])
    [(.name "x", i), (.sign "^", i + 1), (.num 2 1, i + 2), (.sign "^", i + 3), (.sign "-", i + 4), (.num 3 1, i + 5)] := by
  refine ⟨⟨_, _, rfl, by dsimp only; decide⟩, fun m k rest hm hat hr => ?_⟩
  obtain ⟨m', rfl⟩ : ∃ m', m = m' + 1 + 1 + 1 := ⟨m - 3, by omega⟩
  have hat1 : At all (k + 1) ((.sign "^", i + 1) :: (.num 2 1, i + 2) :: (.sign "^", i + 3) :: (.sign "-", i + 4) :: (.num 3 1, i + 5) :: rest) := At.next hat
  have hat2 := hat1.next
  have hat3 := hat2.next
  have hat4 := hat3.next
  have hat5 := hat4.next
  have hat6 := hat5.next
  have hp1 : powerM all n (k + 1 + 1) = .ok (.int ((2 : Nat) : Int), k + 1 + 1 + 1) := by
    unfold powerM
    rw [if_neg (by rw [hat2.sees]; dsimp only; decide)]
    unfold expectWhole
    rw [hat2.get]
    dsimp only
    rw [if_neg (by decide)]
  have hp2 : powerM all n (k + 1 + 1 + 1 + 1) = .ok (.int (-3), k + 1 + 1 + 1 + 1 + 1 + 1) := by
    unfold powerM
    rw [if_pos (by rw [hat4.sees]; dsimp only; decide)]
    unfold expectWhole
    rw [hat5.get]
    dsimp only
    rw [if_neg (by decide)]
    rfl
  unfold powersM
  rw [prim_name (by decide) hat, if_neg (by rw [hat1.sees]; dsimp only; decide)]
  show powL all n (m' + 1 + 1 + 1) (varD "x" i) (k + 1) = _
  unfold powL
  rw [if_pos (by rw [hat1.sees]; dsimp only; decide), if_neg (by omega), hp1, hat1.wh]
  show powL all n (m' + 1 + 1) _ (k + 1 + 1 + 1) = _
  unfold powL
  rw [if_pos (by rw [hat3.sees]; dsimp only; decide), if_neg (by omega), hp2, hat3.wh]
  exact powL_end hat6 hr (by omega)
theorem good_op {c i : Nat} {E' : Nat → Nat → Res} : Good (all := all) (n := n) (exprM all n E') 4 (opD c i) (opT c i) := by
  unfold opD opT
  by_cases h1 : opPick c = 1
  · rw [if_pos h1, if_pos h1]
    exact good_num (by decide)
  rw [if_neg h1, if_neg h1]
  by_cases h2 : opPick c = 2
  · rw [if_pos h2, if_pos h2]
    exact good_call (by decide)
  rw [if_neg h2, if_neg h2]
  by_cases h3 : opPick c = 3
  · rw [if_pos h3, if_pos h3]
    exact good_pow (by decide)
  rw [if_neg h3, if_neg h3]
  exact good_var (by decide) (by decide)
end
end Px

/-! ### the drawn tokens -/
namespace Lw
open PySem TL Lx
def res : List Str := ["and", "base", "else", "false", "from", "fun", "if", "in", "iterate", "let", "not", "or", "show", "then", "true", "unit"]
def parts : List Str := ["", "0", "5", "25", "007", "1234"]
def zers : List Str := ["", "0", "00"]
def seps : List Str := [" ", "\n", "\t", "  ", " # == fun\n", "\n\n"]
def wchars (rest : Nat) : Nat → List Nat
  | 0 => []
  | k + 1 => wchars rest k ++ [naming.getD (rest / (3 + k) % 63) 0]
def wordL (c : Nat) : List Nat := letters.getD (c % 52) 0 :: wchars (c / 52) (c / 52 % 16)
def wholeN (r : Nat) : Nat := if r / 7 % 2 = 0 then r % 10 else r % 1000000
def zw (r : Nat) : List Nat := tl (zers.getD (r / 84 % 3) "") ++ numL (wholeN r)
def numShown (r : Nat) : List Nat := (zw r).drop ((zw r).length - min 6 (zw r).length)
def prt (r : Nat) : Str := parts.getD (r / 14 % 6) ""
def numText (ds ps : List Nat) : List Nat := ds ++ (if ps = [] then [] else 46 :: ps)
def tkOf (c : Nat) : Tkn × Str :=
  if c % 5 = 0 then (.word (res.getD (c / 5 % 16) ""), res.getD (c / 5 % 16) "")
  else if c % 5 = 1 then (if isRes (mk (wordL (c / 5))) = true then .word (mk (wordL (c / 5))) else .name (mk (wordL (c / 5))), mk (wordL (c / 5)))
  else if c % 5 < 4 then (.num (NumText.digitsVal (numShown (c / 5) ++ tl (prt (c / 5)))) (10 ^ (tl (prt (c / 5))).length), mk (numText (numShown (c / 5)) (tl (prt (c / 5)))))
  else (.sign (sgns.getD (c / 5 % 16) ""), sgns.getD (c / 5 % 16) "")
def sepOf (c : Nat) : Str := seps.getD (c / 3 % 6) ""
theorem run_app {S w r : List Nat} {s : Nat} (h : ∀ c ∈ w, inS S c = true) (hs : inS S s = false) : run S (w ++ s :: r) = w.length := by
  induction w with
  | nil => exact run_out hs
  | cons c w ih =>
    rw [List.cons_append, run_in (h c List.mem_cons_self), ih fun d hd => h d (List.mem_cons_of_mem _ hd)]
    rfl
theorem blank_cases {s : Nat} (h : inS blanks s = true) : s = 32 ∨ s = 9 ∨ s = 10 := by
  have h1 : s ∈ blanks := of_decide_eq_true h
  have h2 : blanks = [32, 9, 10] := rfl
  rw [h2] at h1
  simpa using h1
theorem blank_naming {s : Nat} (h : inS blanks s = true) : inS naming s = false := by
  rcases blank_cases h with rfl | rfl | rfl <;> decide
theorem digit_naming {c : Nat} (h : inS digits c = true) : inS naming c = true := by
  have h1 : c ∈ digits := of_decide_eq_true h
  have h2 : ∀ c ∈ digits, inS naming c = true := by decide
  exact h2 c h1
theorem digit_letter {c : Nat} (h : inS digits c = true) : inS letters c = false := by
  have h1 : c ∈ digits := of_decide_eq_true h
  have h2 : ∀ c ∈ digits, inS letters c = false := by decide
  exact h2 c h1
/-- a word or name, then a sign that belongs to none -/
theorem tok_word {c s : Nat} {w r : List Nat} (hc : inS letters c = true) (hw : ∀ d ∈ w, inS naming d = true) (hs : inS naming s = false) (hl : isRes (mk (c :: w)) = true ∨ w.length < 16) :
    tokAt (c :: w ++ s :: r) = some (if isRes (mk (c :: w)) = true then .word (mk (c :: w)) else .name (mk (c :: w)), (c :: w).length) := by
  have hrun : run naming (c :: w ++ s :: r) = (c :: w).length := run_app (fun d hd => by
    rcases List.mem_cons.mp hd with rfl | hd
    · exact letter_naming hc
    · exact hw d hd) hs
  have htake : (c :: w ++ s :: r).take (c :: w).length = c :: w := List.take_left
  rw [List.cons_append, tokAt_cons, if_pos hc, ← List.cons_append]
  unfold nmAt
  rw [hrun, htake]
  by_cases hr : isRes (mk (c :: w)) = true
  · rw [if_pos hr, if_pos hr]
  · rw [if_neg hr, if_neg hr, if_neg]
    rcases hl with h | h
    · exact absurd h hr
    · rw [List.length_cons]
      omega
theorem tok_num {c s : Nat} {w ps r : List Nat} (hc : inS digits c = true) (hw : ∀ d ∈ w, inS digits d = true) (hp : ∀ d ∈ ps, inS digits d = true) (hs : inS naming s = false) (h46 : s ≠ 46)
    (hl : w.length < 6) (hl2 : ps.length < 5) : tokAt (numText (c :: w) ps ++ s :: r) = some (.num (NumText.digitsVal (c :: w ++ ps)) (10 ^ ps.length), (numText (c :: w) ps).length) := by
  have hsd : inS digits s = false := by
    cases h : inS digits s with
    | false => rfl
    | true => rw [digit_naming h] at hs; cases hs
  have hall : ∀ d ∈ c :: w, inS digits d = true := fun d hd => by
    rcases List.mem_cons.mp hd with rfl | hd
    · exact hc
    · exact hw d hd
  have htl : ∃ t, numText (c :: w) ps ++ s :: r = (c :: w) ++ t ∧ headIn digits t = false ∧ fracAt t = ps ∧ (t = (if ps = [] then s :: r else 46 :: (ps ++ s :: r))) := by
    unfold numText
    by_cases h : ps = []
    · subst h
      refine ⟨s :: r, by simp, hsd, ?_, by simp⟩
      rw [fracAt_cons, if_neg h46]
    · refine ⟨46 :: (ps ++ s :: r), by simp [h], (by decide : inS digits 46 = false), ?_, by simp [h]⟩
      rw [fracAt_cons, if_pos rfl]
      have := take_run digits (ps ++ s :: r)
      rw [run_app hp hsd, List.take_left] at this
      exact this.symm
  obtain ⟨t, e, hh, hf, ht⟩ := htl
  have hrun : run digits ((c :: w) ++ t) = (c :: w).length := by
    cases t with
    | nil => cases hps : ps <;> simp [hps] at ht
    | cons d q => exact run_app hall hh
  have htake : ((c :: w) ++ t).take (c :: w).length = c :: w := List.take_left
  have hdrop : ((c :: w) ++ t).drop (c :: w).length = t := List.drop_left
  have hne : numEnd ((c :: w) ++ t) = (numText (c :: w) ps).length := by
    unfold numEnd numText
    rw [hrun, hdrop, hf]
    by_cases h : ps = []
    · rw [if_pos h, if_pos h, List.append_nil]
    · rw [if_neg h, if_neg h, List.length_append, List.length_cons, List.length_cons]
      omega
  have hrest : ((c :: w) ++ t).drop (numText (c :: w) ps).length = s :: r := by
    rw [← e]
    exact List.drop_left
  rw [e, List.cons_append, tokAt_cons, if_neg (by rw [digit_letter hc]; exact Bool.false_ne_true), if_pos hc, ← List.cons_append]
  unfold nrAt
  rw [hrun, hdrop, hf, hne, hrest, htake, if_neg, if_neg]
  · show ¬ inS naming s = true
    rw [hs]
    exact Bool.false_ne_true
  · rw [List.length_cons]
    omega
theorem tok_sign {s : Nat} {r : List Nat} (hs : inS blanks s = true) : ∀ sg ∈ sgns, tokAt (tl sg ++ s :: r) = some (.sign sg, sg.length) := by
  rcases blank_cases hs with rfl | rfl | rfl <;> intro sg h <;> simp only [sgns, List.mem_cons, List.not_mem_nil, or_false] at h <;>
    rcases h with rfl | rfl | rfl | rfl | rfl | rfl | rfl | rfl | rfl | rfl | rfl | rfl | rfl | rfl | rfl | rfl <;> rfl
theorem getD_mem {α : Type} {l : List α} {i : Nat} {d : α} (h : i < l.length) : l.getD i d ∈ l := by
  rw [List.getD_eq_getElem?_getD, List.getElem?_eq_getElem h]
  exact List.getElem_mem h
theorem wchars_naming (r : Nat) : ∀ (k : Nat), ∀ c ∈ wchars r k, inS naming c = true
  | 0, c, h => by cases h
  | k + 1, c, h => by
    rcases List.mem_append.mp h with h | h
    · exact wchars_naming r k c h
    · have e : c = naming.getD (r / (3 + k) % 63) 0 := by simpa using h
      rw [e]
      exact decide_eq_true (getD_mem (by
        have : naming.length = 63 := rfl
        rw [this]
        exact Nat.mod_lt _ (by decide)))
theorem wchars_len (r : Nat) : ∀ k : Nat, (wchars r k).length = k
  | 0 => rfl
  | k + 1 => by
    rw [wchars, List.length_append, wchars_len r k]
    rfl
theorem letter_at (c : Nat) : inS letters (letters.getD (c % 52) 0) = true := decide_eq_true (getD_mem (by
  have : letters.length = 52 := rfl
  rw [this]
  exact Nat.mod_lt _ (by decide)))
theorem wholeN_lt (r : Nat) : wholeN r < 1000000 := by
  unfold wholeN
  split <;> omega
theorem dig_of {S : List Nat} (h : NumText.AllDigits S) : ∀ c ∈ S, inS digits c = true := fun c hc => by
  obtain ⟨h1, h2⟩ := h c hc
  have h3 : ∀ c, c < 58 → 48 ≤ c → inS digits c = true := by decide
  exact h3 c (by omega) h1
theorem zw_digs (r : Nat) : ∀ c ∈ zw r, inS digits c = true := fun c hc => by
  rcases List.mem_append.mp hc with h | h
  · have hz : zers.getD (r / 84 % 3) "" ∈ zers := getD_mem (Nat.mod_lt _ (by decide))
    have h2 : ∀ z ∈ zers, ∀ c ∈ tl z, inS digits c = true := by decide
    exact h2 _ hz c h
  · exact dig_of (numL_digits _) c h
theorem zw_pos (r : Nat) : 1 ≤ (zw r).length := by
  unfold zw
  rw [List.length_append]
  have := List.length_pos_iff.mpr (numL_ne (wholeN r))
  omega
theorem zw_len (r : Nat) : (zw r).length ≤ 8 := by
  unfold zw
  rw [List.length_append]
  have h1 := numL_len (k := 6) (by decide) (wholeN_lt r)
  have hz : zers.getD (r / 84 % 3) "" ∈ zers := getD_mem (Nat.mod_lt _ (by decide))
  have h2 : ∀ z ∈ zers, (tl z).length ≤ 2 := by decide
  have := h2 _ hz
  omega
theorem numShown_len (r : Nat) : 1 ≤ (numShown r).length ∧ (numShown r).length ≤ 6 := by
  unfold numShown
  rw [List.length_drop]
  have := zw_pos r
  omega
theorem numShown_digs (r : Nat) : ∀ c ∈ numShown r, inS digits c = true := fun c hc => zw_digs r c (List.mem_of_mem_drop hc)
theorem part_mem (r : Nat) : prt r ∈ parts := getD_mem (Nat.mod_lt _ (by decide))
theorem part_digs (r : Nat) : ∀ c ∈ tl (prt r), inS digits c = true := by
  have h : ∀ p ∈ parts, ∀ c ∈ tl p, inS digits c = true := by decide
  exact h _ (part_mem r)
theorem part_len (r : Nat) : (tl (prt r)).length < 5 := by
  have h : ∀ p ∈ parts, (tl p).length < 5 := by decide
  exact h _ (part_mem r)
/-- a drawn token is read back -/
theorem tok_drawn (c : Nat) {s : Nat} (r : List Nat) (hs : inS blanks s = true) : tokAt (tl (tkOf c).2 ++ s :: r) = some ((tkOf c).1, (tkOf c).2.length) := by
  have hn := blank_naming hs
  unfold tkOf
  split
  · have hm : res.getD (c / 5 % 16) "" ∈ res := getD_mem (Nat.mod_lt _ (by decide))
    generalize res.getD (c / 5 % 16) "" = w at hm
    have key : ∀ w ∈ res, ∃ a q, tl w = a :: q ∧ inS letters a = true ∧ (∀ d ∈ q, inS naming d = true) ∧ isRes w = true := by
      intro w hw
      simp only [res, List.mem_cons, List.not_mem_nil, or_false] at hw
      rcases hw with rfl | rfl | rfl | rfl | rfl | rfl | rfl | rfl | rfl | rfl | rfl | rfl | rfl | rfl | rfl | rfl <;> exact ⟨_, _, rfl, by decide, by decide, by decide⟩
    obtain ⟨a, q, e, h1, h2, h3⟩ := key w hm
    have ew : mk (a :: q) = w := by rw [← e]; exact mk_tl w
    have := tok_word (r := r) h1 h2 hn (.inl (by rw [ew]; exact h3))
    rw [ew, if_pos h3, ← e, ← len_tl] at this
    exact this
  · split
    · have := tok_word (c := letters.getD (c / 5 % 52) 0) (w := wchars (c / 5 / 52) (c / 5 / 52 % 16)) (r := r) (letter_at _) (wchars_naming _ _) hn (.inr (by rw [wchars_len]; exact Nat.mod_lt _ (by decide)))
      rw [← mk_len] at this
      exact this
    · split
      · have h1 := numShown_len (c / 5)
        have h2 := numShown_digs (c / 5)
        generalize numShown (c / 5) = ds at h1 h2
        cases ds with
        | nil => simp at h1
        | cons a q =>
          have := tok_num (r := r) (h2 a List.mem_cons_self) (fun d hd => h2 d (List.mem_cons_of_mem _ hd)) (part_digs (c / 5)) hn (by rintro rfl; exact absurd hs (by decide)) (by have := h1.2; simp at this; omega) (part_len (c / 5))
          rw [← mk_len] at this
          exact this
      · exact tok_sign hs _ (getD_mem (Nat.mod_lt _ (by decide)))
theorem tok_noskip {l : List Nat} {t : Tkn} {n : Nat} (h : tokAt l = some (t, n)) : skip false l = 0 := by
  cases l with
  | nil => cases h
  | cons c r =>
    have key : inS blanks c = false ∧ c ≠ 35 := by
      rw [tokAt_cons] at h
      split at h
      · rename_i hc
        have h1 : c ∈ letters := of_decide_eq_true hc
        have h2 : ∀ c ∈ letters, inS blanks c = false ∧ c ≠ 35 := by decide
        exact h2 c h1
      · split at h
        · rename_i hc
          have h1 : c ∈ digits := of_decide_eq_true hc
          have h2 : ∀ c ∈ digits, inS blanks c = false ∧ c ≠ 35 := by decide
          exact h2 c h1
        · unfold sgAt at h
          cases e : sgns.find? fun s => (tl s).isPrefixOf (c :: r) with
          | none => rw [e] at h; cases h
          | some s =>
            have hm := List.mem_of_find?_eq_some e
            have hp := List.find?_some e
            have h2 : ∀ s ∈ sgns, ∃ a q, tl s = a :: q ∧ inS blanks a = false ∧ a ≠ 35 := by
              intro s hs
              simp only [sgns, List.mem_cons, List.not_mem_nil, or_false] at hs
              rcases hs with rfl | rfl | rfl | rfl | rfl | rfl | rfl | rfl | rfl | rfl | rfl | rfl | rfl | rfl | rfl | rfl <;> exact ⟨_, _, rfl, by decide, by decide⟩
            obtain ⟨a, q, ea, h3, h4⟩ := h2 s hm
            rw [ea, List.isPrefixOf_cons₂, Bool.and_eq_true, beq_iff_eq] at hp
            rw [← hp.1]
            exact ⟨h3, h4⟩
    exact skip_stop key.1 key.2
theorem sep_skip (c : Nat) (l : List Nat) : skip false (tl (sepOf c) ++ l) = (sepOf c).length + skip false l ∧ ∃ s r, tl (sepOf c) = s :: r ∧ inS blanks s = true := by
  have hm : sepOf c ∈ seps := getD_mem (Nat.mod_lt _ (by decide))
  have key : ∀ s ∈ seps, skip false (tl s ++ l) = s.length + skip false l ∧ ∃ a r, tl s = a :: r ∧ inS blanks a = true := by
    intro s hs
    rw [Nat.add_comm]
    simp only [seps, List.mem_cons, List.not_mem_nil, or_false] at hs
    rcases hs with rfl | rfl | rfl | rfl | rfl | rfl <;> exact ⟨rfl, _, _, rfl, by decide⟩
  exact key _ hm
def piece (c : Nat) : List Nat := tl (tkOf c).2 ++ tl (sepOf c)
def txt (cs : List Nat) : List Nat := (cs.map piece).flatten
def dueFrom : Nat → List Nat → List (Tkn × Nat)
  | _, [] => []
  | off, c :: cs => ((tkOf c).1, off) :: dueFrom (off + (piece c).length) cs
theorem txt_snoc (cs : List Nat) (c : Nat) : txt (cs ++ [c]) = txt cs ++ piece c := by simp [txt]
theorem due_snoc : ∀ (cs : List Nat) (off c : Nat), dueFrom off (cs ++ [c]) = dueFrom off cs ++ [((tkOf c).1, off + (txt cs).length)]
  | [], off, c => by simp [dueFrom, txt]
  | a :: cs, off, c => by
    rw [List.cons_append, dueFrom, dueFrom, due_snoc cs]
    have : (txt (a :: cs)).length = (piece a).length + (txt cs).length := by simp [txt]
    rw [this, Nat.add_assoc]
    rfl
theorem due_len : ∀ (cs : List Nat) (off : Nat), (dueFrom off cs).length = cs.length
  | [], _ => rfl
  | c :: cs, off => by rw [dueFrom, List.length_cons, List.length_cons, due_len cs]
theorem lex_txt : ∀ (cs : List Nat) (off : Nat) (tail : List Nat), skip false tail = 0 →
    LexTo off (txt cs ++ tail) (dueFrom off cs) (off + (txt cs).length) tail ∧ skip false (txt cs ++ tail) = 0
  | [], off, tail, h => ⟨.refl, h⟩
  | c :: cs, off, tail, h => by
    obtain ⟨ih, hs⟩ := lex_txt cs (off + (piece c).length) tail h
    obtain ⟨hsk, s, r, es, hb⟩ := sep_skip c (txt cs ++ tail)
    have e0 : txt (c :: cs) ++ tail = tl (tkOf c).2 ++ (tl (sepOf c) ++ (txt cs ++ tail)) := by simp [txt, piece]
    have e1 : tokAt (txt (c :: cs) ++ tail) = some ((tkOf c).1, (tkOf c).2.length) := by
      rw [e0, es, List.cons_append]
      exact tok_drawn c _ hb
    have e2 : (txt (c :: cs) ++ tail).drop (tkOf c).2.length = tl (sepOf c) ++ (txt cs ++ tail) := by
      rw [e0, len_tl]
      exact List.drop_left
    refine ⟨.step e1 ?_, tok_noskip e1⟩
    rw [e2, hsk, hs, Nat.add_zero]
    have e3 : (tl (sepOf c) ++ (txt cs ++ tail)).drop (sepOf c).length = txt cs ++ tail := by
      rw [len_tl]
      exact List.drop_left
    rw [e3]
    have e4 : off + (tkOf c).2.length + (sepOf c).length = off + (piece c).length := by
      unfold piece
      rw [List.length_append, ← len_tl, ← len_tl]
      omega
    have e5 : off + (txt (c :: cs)).length = off + (piece c).length + (txt cs).length := by simp [txt]; omega
    rw [e4, e5]
    exact ih
theorem shown_len (c : Nat) : 1 ≤ (tkOf c).2.length ∧ (tkOf c).2.length ≤ 16 := by
  unfold tkOf
  split
  · have hm : res.getD (c / 5 % 16) "" ∈ res := getD_mem (Nat.mod_lt _ (by decide))
    have h : ∀ w ∈ res, 1 ≤ w.length ∧ w.length ≤ 16 := by decide
    exact h _ hm
  · split
    · show 1 ≤ (mk _).length ∧ (mk _).length ≤ 16
      rw [mk_len, wordL, List.length_cons, wchars_len]
      have := Nat.mod_lt (c / 5 / 52) (show 16 > 0 by decide)
      omega
    · split
      · show 1 ≤ (mk _).length ∧ (mk _).length ≤ 16
        rw [mk_len, numText, List.length_append]
        have h1 := numShown_len (c / 5)
        have h2 := part_len (c / 5)
        split
        · rw [List.length_nil]
          omega
        · rw [List.length_cons]
          omega
      · have hm : sgns.getD (c / 5 % 16) "" ∈ sgns := getD_mem (Nat.mod_lt _ (by decide))
        have h : ∀ w ∈ sgns, 1 ≤ w.length ∧ w.length ≤ 16 := by decide
        exact h _ hm
theorem piece_len (c : Nat) : (piece c).length ≤ 26 := by
  unfold piece
  rw [List.length_append, ← len_tl, ← len_tl]
  have h1 := shown_len c
  have hm : sepOf c ∈ seps := getD_mem (Nat.mod_lt _ (by decide))
  have h : ∀ w ∈ seps, w.length ≤ 10 := by decide
  have := h _ hm
  omega
theorem txt_len : ∀ cs : List Nat, (txt cs).length ≤ 26 * cs.length
  | [] => Nat.le_refl _
  | c :: cs => by
    have h1 := txt_len cs
    have h2 := piece_len c
    have : (txt (c :: cs)).length = (piece c).length + (txt cs).length := by simp [txt]
    rw [this, List.length_cons]
    omega
def bads : List Str := ["@", "1234567", "1.23456", "7a", "1.5x", "aaaaaaaaaaaaaaaaa", "!", ".", ".5", "{", "1_", "$"]
theorem bad_tok : ∀ b ∈ bads, tokAt (tl b ++ tl (" x" : Str)) = none ∧ skip false (tl b ++ tl (" x" : Str)) = 0 ∧ b.length ≤ 17 := by
  intro b hb
  simp only [bads, List.mem_cons, List.not_mem_nil, or_false] at hb
  rcases hb with rfl | rfl | rfl | rfl | rfl | rfl | rfl | rfl | rfl | rfl | rfl | rfl <;> exact ⟨by rfl, by rfl, by decide⟩
end Lw

/-! ### the law's text: its tokens, its tree -/
namespace Px
open PySem PySem.Spec PyProof.Rows L2 Ly Lx TL Lw
abbrev drawn : List Str := ["or", "and", "<", "<=", "==", "+", "-", "*", "/", "+"]
abbrev wordsS : List Str := ["or", "and"]
def sgOf (cmp : Bool) (c : Nat) : Str := if (cmp && cmps.any (· == drawn.getD (c % 10) "")) = true then "*" else drawn.getD (c % 10) ""
def nextC (cmp : Bool) (s : Str) : Bool := cmps.any (· == s) || (cmp && !(wordsS.any (· == s)))
def sepK (c : Nat) : Str := if c / 10 % 2 = 0 then " " else "\n "
def opL (c : Nat) : List Nat := if opPick c = 1 then numL (opVal c) else if opPick c = 2 then tl ("f(y)" : Str) else if opPick c = 3 then tl ("x^2^-3" : Str) else tl ("x" : Str)
def txR : Bool → List Nat → List Nat
  | _, [] => []
  | cmp, c :: cs => tl (sepK c) ++ (tl (sgOf cmp c) ++ (32 :: (opL c ++ txR (nextC cmp (sgOf cmp c)) cs)))
def its : Nat → Bool → List Nat → List It
  | _, _, [] => []
  | off, cmp, c :: cs => ⟨sgOf cmp c, off + (sepK c).length, opD c (off + (sepK c).length + (sgOf cmp c).length + 1), opT c (off + (sepK c).length + (sgOf cmp c).length + 1)⟩ ::
      its (off + (sepK c).length + (sgOf cmp c).length + 1 + (opL c).length) (nextC cmp (sgOf cmp c)) cs
theorem sgOf_mem (cmp : Bool) (c : Nat) : sgOf cmp c ∈ (["or", "and", "<", "<=", "==", "+", "-", "*", "/"] : List Str) := by
  unfold sgOf
  split
  · decide
  · have h : drawn.getD (c % 10) "" ∈ drawn := getD_mem (Nat.mod_lt _ (by decide))
    have h2 : ∀ s ∈ drawn, s ∈ (["or", "and", "<", "<=", "==", "+", "-", "*", "/"] : List Str) := by decide
    exact h2 _ h
theorem its_one : ∀ (cs : List Nat) (off : Nat) (cmp : Bool), one cmp (its off cmp cs) = true
  | [], _, _ => rfl
  | c :: cs, off, cmp => by
    unfold its one
    dsimp only
    have ih := its_one cs (off + (sepK c).length + (sgOf cmp c).length + 1 + (opL c).length) (nextC cmp (sgOf cmp c))
    by_cases h1 : cmps.any (· == sgOf cmp c) = true
    · rw [if_pos h1]
      have hn : nextC cmp (sgOf cmp c) = true := by
        unfold nextC
        rw [h1]
        rfl
      rw [hn] at ih ⊢
      rw [ih]
      cases cmp with
      | false => rfl
      | true =>
        exfalso
        unfold sgOf at h1
        split at h1
        · exact absurd h1 (by decide)
        · rename_i h2
          simp only [Bool.true_and] at h2
          exact h2 h1
    · rw [if_neg h1]
      have h1' := Bool.eq_false_iff.mpr h1
      by_cases h2 : wordsS.any (· == sgOf cmp c) = true
      · rw [if_pos h2]
        have hn : nextC cmp (sgOf cmp c) = false := by
          unfold nextC
          rw [h1', h2]
          cases cmp <;> rfl
        rw [hn] at ih ⊢
        exact ih
      · rw [if_neg h2]
        have h2' := Bool.eq_false_iff.mpr h2
        have hn : nextC cmp (sgOf cmp c) = cmp := by
          unfold nextC
          rw [h1', h2']
          cases cmp <;> rfl
        rw [hn] at ih ⊢
        exact ih
theorem its_len : ∀ (cs : List Nat) (off : Nat) (cmp : Bool), (its off cmp cs).length = cs.length
  | [], _, _ => rfl
  | c :: cs, off, cmp => by
    unfold its
    rw [List.length_cons, its_len cs, List.length_cons]
theorem its_mem : ∀ (cs : List Nat) (off : Nat) (cmp : Bool), ∀ t ∈ its off cmp cs, t.s ∈ (["or", "and", "<", "<=", "==", "+", "-", "*", "/"] : List Str) ∧ ∃ c i, t.d = opD c i ∧ t.ts = opT c i
  | [], _, _, t, h => by simp [its] at h
  | c :: cs, off, cmp, t, h => by
    unfold its at h
    rcases List.mem_cons.mp h with e | e
    · subst e
      exact ⟨sgOf_mem cmp c, _, _, rfl, rfl⟩
    · exact its_mem cs _ _ t e
/-! #### lexing -/
theorem lex_step {i j n : Nat} {l l2 l' : List Nat} {t : Tkn} {ts : List (Tkn × Nat)} (e : tokAt l = some (t, n)) (hd : l.drop n = l2) (hs : skip false l2 = 0) (h : LexTo (i + n) l2 ts j l') : LexTo i l ((t, i) :: ts) j l' := by
  subst hd
  refine .step e ?_
  rw [hs]
  exact h
theorem lex_last {i n : Nat} {l l2 : List Nat} {t : Tkn} (e : tokAt l = some (t, n)) (hd : l.drop n = l2) : LexTo i l [(t, i)] (i + n + skip false l2) (l2.drop (skip false l2)) := by
  subst hd
  exact .step e .refl
abbrev Ends (x : Nat) : Prop := x = 32 ∨ x = 10 ∨ x = 59
theorem ends_naming {x : Nat} (h : Ends x) : inS naming x = false := by
  rcases h with e | e | e <;> subst e <;> decide
theorem tok_x {s : Nat} {r : List Nat} (hs : inS naming s = false) : tokAt (120 :: s :: r) = some (.name "x", 1) := by
  have := tok_word (c := 120) (w := []) (r := r) (by decide) (by simp) hs (.inr (by decide))
  rw [if_neg (by decide)] at this
  exact this
theorem tok_f {s : Nat} {r : List Nat} (hs : inS naming s = false) : tokAt (102 :: s :: r) = some (.name "f", 1) := by
  have := tok_word (c := 102) (w := []) (r := r) (by decide) (by simp) hs (.inr (by decide))
  rw [if_neg (by decide)] at this
  exact this
theorem tok_y {s : Nat} {r : List Nat} (hs : inS naming s = false) : tokAt (121 :: s :: r) = some (.name "y", 1) := by
  have := tok_word (c := 121) (w := []) (r := r) (by decide) (by simp) hs (.inr (by decide))
  rw [if_neg (by decide)] at this
  exact this
theorem tok_whole {v s : Nat} {r : List Nat} (hv : v < 1000) (hs : inS naming s = false) (h46 : s ≠ 46) : tokAt (numL v ++ s :: r) = some (.num v 1, (numL v).length) := by
  have h1 := numL_len (k := 3) (by decide) (n := v) (by omega)
  have h2 := numL_ne v
  have h3 := dig_of (numL_digits v)
  have h4 := numL_val v
  revert h1 h2 h3 h4
  cases numL v with
  | nil => intro _ h; exact absurd rfl h
  | cons c w =>
    intro h1 _ h3 h4
    have := tok_num (c := c) (w := w) (ps := []) (r := r) (h3 c List.mem_cons_self) (fun d hd => h3 d (List.mem_cons_of_mem _ hd)) (by simp) hs h46 (by simp at h1; omega) (by decide)
    rw [List.append_nil, h4] at this
    unfold numText at this
    rw [if_pos rfl, List.append_nil] at this
    exact this
theorem opVal_lt (c : Nat) : opVal c < 1000 := Nat.mod_lt _ (by decide)
theorem lex_op (c i : Nat) {x : Nat} (r : List Nat) (hx : Ends x) : skip false (opL c ++ x :: r) = 0 ∧ LexTo i (opL c ++ x :: r) (opT c i) (i + (opL c).length + skip false (x :: r)) ((x :: r).drop (skip false (x :: r))) := by
  have hn := ends_naming hx
  have h46 : x ≠ 46 := by rcases hx with e | e | e <;> omega
  unfold opL opT
  by_cases h1 : opPick c = 1
  · rw [if_pos h1, if_pos h1]
    have e := tok_whole (r := r) (opVal_lt c) hn h46
    exact ⟨tok_noskip e, lex_last e (List.drop_left)⟩
  rw [if_neg h1, if_neg h1]
  by_cases h2 : opPick c = 2
  · rw [if_pos h2, if_pos h2]
    show skip false (102 :: 40 :: 121 :: 41 :: x :: r) = 0 ∧ LexTo i (102 :: 40 :: 121 :: 41 :: x :: r) _ (i + 4 + _) _
    have e1 := tok_f (s := 40) (r := 121 :: 41 :: x :: r) (by decide)
    have e2 : tokAt (40 :: 121 :: 41 :: x :: r) = some (.sign "(", 1) := rfl
    have e3 := tok_y (s := 41) (r := x :: r) (by decide)
    have e4 : tokAt (41 :: x :: r) = some (.sign ")", 1) := rfl
    exact ⟨tok_noskip e1, lex_step e1 rfl (tok_noskip e2) (lex_step e2 rfl (tok_noskip e3) (lex_step e3 rfl (tok_noskip e4) (lex_last e4 rfl)))⟩
  rw [if_neg h2, if_neg h2]
  by_cases h3 : opPick c = 3
  · rw [if_pos h3, if_pos h3]
    show skip false (120 :: 94 :: 50 :: 94 :: 45 :: 51 :: x :: r) = 0 ∧ LexTo i (120 :: 94 :: 50 :: 94 :: 45 :: 51 :: x :: r) _ (i + 6 + _) _
    have e1 := tok_x (s := 94) (r := 50 :: 94 :: 45 :: 51 :: x :: r) (by decide)
    have e2 : tokAt (94 :: 50 :: 94 :: 45 :: 51 :: x :: r) = some (.sign "^", 1) := rfl
    have e3 : tokAt (50 :: 94 :: 45 :: 51 :: x :: r) = some (.num 2 1, 1) := tok_whole (v := 2) (s := 94) (r := 45 :: 51 :: x :: r) (by decide) (by decide) (by decide)
    have e4 : tokAt (94 :: 45 :: 51 :: x :: r) = some (.sign "^", 1) := rfl
    have e5 : tokAt (45 :: 51 :: x :: r) = some (.sign "-", 1) := rfl
    have e6 : tokAt (51 :: x :: r) = some (.num 3 1, 1) := tok_whole (v := 3) (r := r) (by decide) hn h46
    exact ⟨tok_noskip e1, lex_step e1 rfl (tok_noskip e2) (lex_step e2 rfl (tok_noskip e3) (lex_step e3 rfl (tok_noskip e4) (lex_step e4 rfl (tok_noskip e5) (lex_step e5 rfl (tok_noskip e6) (lex_last e6 rfl)))))⟩
  rw [if_neg h3, if_neg h3]
  have e1 := tok_x (r := r) hn
  exact ⟨tok_noskip e1, lex_last e1 rfl⟩
theorem tok_sg (r : List Nat) : ∀ s ∈ (["or", "and", "<", "<=", "==", "+", "-", "*", "/"] : List Str), tokAt (tl s ++ 32 :: r) = some (sgTok s, s.length) := by
  intro s h
  simp only [List.mem_cons, List.not_mem_nil, or_false] at h
  rcases h with rfl | rfl | rfl | rfl | rfl | rfl | rfl | rfl | rfl
  · have := tok_word (c := 111) (w := [114]) (s := 32) (r := r) (by decide) (by decide) (by decide) (.inr (by decide))
    rw [if_pos (by decide)] at this
    exact this
  · have := tok_word (c := 97) (w := [110, 100]) (s := 32) (r := r) (by decide) (by decide) (by decide) (.inr (by decide))
    rw [if_pos (by decide)] at this
    exact this
  all_goals rfl
theorem sepK_skip (c : Nat) {l : List Nat} (h : skip false l = 0) : skip false (tl (sepK c) ++ l) = (sepK c).length ∧ ∃ x r, tl (sepK c) ++ l = x :: r ∧ Ends x := by
  unfold sepK
  split
  · refine ⟨?_, 32, l, rfl, .inl rfl⟩
    show skip false (32 :: l) = 1
    rw [skip_blank (by decide), h]
  · refine ⟨?_, 10, 32 :: l, rfl, .inr (.inl rfl)⟩
    show skip false (10 :: 32 :: l) = 2
    rw [skip_blank (by decide), skip_blank (by decide), h]
theorem lex_rest : ∀ (cs : List Nat) (off : Nat) (cmp : Bool), (∃ x r, txR cmp cs ++ [59] = x :: r ∧ Ends x) ∧
    LexTo (off + skip false (txR cmp cs ++ [59])) ((txR cmp cs ++ [59]).drop (skip false (txR cmp cs ++ [59]))) (flat (its off cmp cs) ++ [(.sign ";", off + (txR cmp cs).length)]) (off + (txR cmp cs).length + 1) []
  | [], off, cmp => ⟨⟨59, [], rfl, .inr (.inr rfl)⟩, by
    have h := lex_last (i := off) (l := [59]) (l2 := []) (t := .sign ";") (n := 1) rfl rfl
    exact h⟩
  | c :: cs, off, cmp => by
    obtain ⟨⟨x, r, ex, hx⟩, ih⟩ := lex_rest cs (off + (sepK c).length + (sgOf cmp c).length + 1 + (opL c).length) (nextC cmp (sgOf cmp c))
    have eT : txR cmp (c :: cs) ++ [59] = tl (sepK c) ++ (tl (sgOf cmp c) ++ (32 :: (opL c ++ (txR (nextC cmp (sgOf cmp c)) cs ++ [59])))) := by
      simp [txR]
    have eL : (txR cmp (c :: cs)).length = (sepK c).length + (sgOf cmp c).length + 1 + (opL c).length + (txR (nextC cmp (sgOf cmp c)) cs).length := by
      show (tl (sepK c) ++ (tl (sgOf cmp c) ++ (32 :: (opL c ++ txR (nextC cmp (sgOf cmp c)) cs)))).length = _
      rw [List.length_append, List.length_append, List.length_cons, List.length_append, ← len_tl, ← len_tl]
      omega
    rw [eT, eL, ex]
    have et := tok_sg (opL c ++ x :: r) (sgOf cmp c) (sgOf_mem cmp c)
    obtain ⟨hk, hh⟩ := sepK_skip c (tok_noskip et)
    refine ⟨hh, ?_⟩
    rw [hk]
    have ed : (tl (sepK c) ++ (tl (sgOf cmp c) ++ 32 :: (opL c ++ x :: r))).drop (sepK c).length = tl (sgOf cmp c) ++ 32 :: (opL c ++ x :: r) := by
      rw [len_tl, List.drop_left]
    rw [ed]
    obtain ⟨ho1, ho2⟩ := lex_op c (off + (sepK c).length + (sgOf cmp c).length + 1) r hx
    have ed2 : (tl (sgOf cmp c) ++ 32 :: (opL c ++ x :: r)).drop (sgOf cmp c).length = 32 :: (opL c ++ x :: r) := by
      rw [len_tl, List.drop_left]
    have hsk : skip false (32 :: (opL c ++ x :: r)) = 1 := by
      rw [skip_blank (by decide), ho1]
    rw [ex] at ih
    have h3 := LexTo.trans ho2 ih
    have h4 : LexTo (off + (sepK c).length) (tl (sgOf cmp c) ++ 32 :: (opL c ++ x :: r)) ((sgTok (sgOf cmp c), off + (sepK c).length) :: (opT c (off + (sepK c).length + (sgOf cmp c).length + 1) ++
        (flat (its (off + (sepK c).length + (sgOf cmp c).length + 1 + (opL c).length) (nextC cmp (sgOf cmp c)) cs) ++ [(.sign ";", off + (sepK c).length + (sgOf cmp c).length + 1 + (opL c).length + (txR (nextC cmp (sgOf cmp c)) cs).length)])))
        (off + (sepK c).length + (sgOf cmp c).length + 1 + (opL c).length + (txR (nextC cmp (sgOf cmp c)) cs).length + 1) [] := by
      refine .step et ?_
      rw [ed2, hsk]
      exact h3
    have e5 : flat (its off cmp (c :: cs)) = (sgTok (sgOf cmp c), off + (sepK c).length) :: opT c (off + (sepK c).length + (sgOf cmp c).length + 1) ++
        flat (its (off + (sepK c).length + (sgOf cmp c).length + 1 + (opL c).length) (nextC cmp (sgOf cmp c)) cs) := rfl
    rw [e5]
    have e6 : off + ((sepK c).length + (sgOf cmp c).length + 1 + (opL c).length + (txR (nextC cmp (sgOf cmp c)) cs).length) = off + (sepK c).length + (sgOf cmp c).length + 1 + (opL c).length + (txR (nextC cmp (sgOf cmp c)) cs).length := by omega
    rw [e6]
    simpa using h4
/-- the whole text, its tokens -/
def txt2 (c : Nat) (cs : List Nat) : List Nat := tl ("show " : Str) ++ (opL c ++ txR false cs)
def toks2 (c : Nat) (cs : List Nat) : List (Tkn × Nat) := (.word "show", 0) :: (opT c 5 ++ flat (its (5 + (opL c).length) false cs) ++ [(.sign ";", (txt2 c cs).length)])
theorem lex_all (c : Nat) (cs : List Nat) : skip false (txt2 c cs ++ [59]) = 0 ∧ ∃ j, LexTo 0 (txt2 c cs ++ [59]) (toks2 c cs) j [] := by
  obtain ⟨⟨x, r, ex, hx⟩, hl⟩ := lex_rest cs (5 + (opL c).length) false
  have eT : txt2 c cs ++ [59] = tl ("show" : Str) ++ 32 :: (opL c ++ x :: r) := by
    rw [← ex]
    unfold txt2
    have : tl ("show " : Str) = tl ("show" : Str) ++ [32] := rfl
    rw [this]
    simp
  rw [eT]
  have et : tokAt (tl ("show" : Str) ++ 32 :: (opL c ++ x :: r)) = some (.word "show", 4) := by
    have := tok_word (c := 115) (w := [104, 111, 119]) (s := 32) (r := opL c ++ x :: r) (by decide) (by decide) (by decide) (.inr (by decide))
    rw [if_pos (by decide)] at this
    exact this
  refine ⟨tok_noskip et, 5 + (opL c).length + (txR false cs).length + 1, ?_⟩
  obtain ⟨ho1, ho2⟩ := lex_op c 5 r hx
  rw [ex] at hl
  have h3 := LexTo.trans ho2 hl
  have ed : (tl ("show" : Str) ++ 32 :: (opL c ++ x :: r)).drop 4 = 32 :: (opL c ++ x :: r) := rfl
  have hsk : skip false (32 :: (opL c ++ x :: r)) = 1 := by
    rw [skip_blank (by decide), ho1]
  have h4 : LexTo 0 (tl ("show" : Str) ++ 32 :: (opL c ++ x :: r)) ((.word "show", 0) :: (opT c 5 ++ (flat (its (5 + (opL c).length) false cs) ++ [(.sign ";", 5 + (opL c).length + (txR false cs).length)]))) (5 + (opL c).length + (txR false cs).length + 1) [] := by
    refine .step et ?_
    rw [ed, hsk]
    exact h3
  unfold toks2
  have e6 : (txt2 c cs).length = 5 + (opL c).length + (txR false cs).length := by
    unfold txt2
    rw [List.length_append, List.length_append]
    show 5 + _ = _
    omega
  rw [e6]
  simpa using h4
/-! #### parsing -/
theorem parse_all (c : Nat) (cs : List Nat) (n : Nat) (h : cs.length ≤ 9) : parseM (toks2 c cs) n = .ok [.tuple [.str "show", treeM lv0 (opD c 5) (its (5 + (opL c).length) false cs), .none, .int ((0 : Nat) : Int)]] := by
  generalize hL : its (5 + (opL c).length) false cs = L
  have hlen : L.length ≤ 9 := by rw [← hL, its_len]; exact h
  have h1 : one false L = true := by rw [← hL]; exact its_one _ _ _
  have hm : ∀ t ∈ L, t.s ∈ (["or", "and", "<", "<=", "==", "+", "-", "*", "/"] : List Str) ∧ ∃ c i, t.d = opD c i ∧ t.ts = opT c i := by rw [← hL]; exact its_mem _ _ _
  have htk : toks2 c cs = (.word "show", 0) :: (opT c 5 ++ flat L ++ [(.sign ";", (txt2 c cs).length)]) := by
    unfold toks2
    rw [hL]
  generalize (txt2 c cs).length = e at htk
  generalize toks2 c cs = all at htk
  have hat0 : At all 0 ((.word "show", 0) :: (opT c 5 ++ flat L ++ [(.sign ";", e)])) := htk
  have hat1 := hat0.next
  have hsh : ∀ v : Str, (["show"] : List Str).any (· == v) = false → seesB all [v] 0 = false := fun v hv => by
    rw [hat0.sees]
    show ([v].any (· == ("show" : Str))) = false
    simp only [List.any_cons, List.any_nil, Bool.or_false] at hv ⊢
    rw [beq_eq_false_iff_ne] at hv ⊢
    exact fun q => hv q.symm
  have hx : exprTop all n 1 = .ok (treeM lv0 (opD c 5) L, 1 + ((opT c 5).length + (flat L).length)) := by
    refine lev_expr (all := all) (n := n) (E := exprN all n 23) (B := 4) (by decide) 24 1 (opD c 5) (opT c 5) L [(.sign ";", e)] hat1 (fun t ht => ?_) (good_op (E' := exprN all n 22)) (fun t ht => ?_) (by omega) ⟨_, _, rfl, by dsimp only; decide⟩ h1
    · have h2 : ∀ s ∈ (["or", "and", "<", "<=", "==", "+", "-", "*", "/"] : List Str), (lv0.flatten).any (· == s) = true := by decide
      exact h2 _ (hm t ht).1
    · obtain ⟨_, c', i, e1, e2⟩ := hm t ht
      rw [e1, e2]
      exact good_op (E' := exprN all n 22)
  have hat2 : At all (1 + ((opT c 5).length + (flat L).length)) [(.sign ";", e)] := by
    have := At.app hat1
    rw [List.length_append] at this
    exact this
  have hall : all.length = 1 + ((opT c 5).length + (flat L).length) + 1 := by
    rw [htk]
    simp
    omega
  have hline : lineM all n 0 = .ok (.tuple [.str "show", treeM lv0 (opD c 5) L, .none, .int ((0 : Nat) : Int)], 1 + ((opT c 5).length + (flat L).length) + 1) := by
    unfold lineM
    rw [if_neg (by rw [hsh "base" (by decide)]; exact Bool.false_ne_true), if_neg (by rw [hsh "unit" (by decide)]; exact Bool.false_ne_true), if_neg (by rw [hsh "fun" (by decide)]; exact Bool.false_ne_true)]
    unfold expectS
    rw [if_pos (by rw [hat0.sees]; dsimp only; decide)]
    show bindR (showM all n (wh all n 0) 1) _ = _
    rw [hat0.wh]
    unfold showM
    rw [hx]
    show bindR (bindR (if seesB all ["in"] (1 + ((opT c 5).length + (flat L).length)) = true then _ else _) _) _ = _
    rw [if_neg (by rw [hat2.sees]; dsimp only; decide)]
    show (bindR (if seesB all [";"] (1 + ((opT c 5).length + (flat L).length)) = true then _ else _) _) = _
    rw [if_pos (by rw [hat2.sees]; dsimp only; decide)]
    rfl
  unfold parseM
  rw [hall]
  unfold linesL
  rw [if_neg (by omega), hline]
  dsimp only
  unfold linesL
  rw [if_pos hall.symm]
  rfl
end Px

/-! ### groups of parts and signs, as lists of the heap -/
namespace Px
open PySem PySem.Spec PyProof.Rows L2 Ly Lx TL Lw
inductive A2 {α : Type} (R : V → α → Prop) : List V → List α → Prop
  | nil : A2 R [] []
  | cons {x : V} {y : α} {xs : List V} {ys : List α} : R x y → A2 R xs ys → A2 R (x :: xs) (y :: ys)
section
variable {α : Type} {R R' : V → α → Prop}
theorem A2.mono (h : ∀ x y, R x y → R' x y) : ∀ {xs : List V} {ys : List α}, A2 R xs ys → A2 R' xs ys
  | _, _, .nil => .nil
  | _, _, .cons r t => .cons (h _ _ r) (t.mono h)
theorem A2.len : ∀ {xs : List V} {ys : List α}, A2 R xs ys → xs.length = ys.length
  | _, _, .nil => rfl
  | _, _, .cons _ t => by rw [List.length_cons, List.length_cons, t.len]
theorem A2.append : ∀ {xs : List V} {ys : List α} {us : List V} {vs : List α}, A2 R xs ys → A2 R us vs → A2 R (xs ++ us) (ys ++ vs)
  | _, _, _, _, .nil, h => h
  | _, _, _, _, .cons r t, h => .cons r (t.append h)
theorem A2.get : ∀ {xs : List V} {ys : List α} {k : Nat} {y : α}, A2 R xs ys → ys[k]? = some y → ∃ x, xs[k]? = some x ∧ R x y
  | _, _, 0, y, .cons r _, e => by
    have := Option.some.inj e
    subst this
    exact ⟨_, rfl, r⟩
  | _, _, k + 1, y, .cons _ t, e => by
    obtain ⟨x, h1, h2⟩ := A2.get (k := k) (y := y) t (by simpa using e)
    exact ⟨x, by simpa using h1, h2⟩
  | _, _, _, _, .nil, e => by simp at e
theorem A2.snoc_inv : ∀ {xs : List V} {ys : List α} {y : α}, A2 R xs (ys ++ [y]) → ∃ xs0 x, xs = xs0 ++ [x] ∧ A2 R xs0 ys ∧ R x y
  | _, [], _, .cons r .nil => ⟨[], _, rfl, .nil, r⟩
  | _, _ :: ys, _, .cons r t => by
    obtain ⟨xs0, x, e, h1, h2⟩ := A2.snoc_inv t
    exact ⟨_ :: xs0, x, by rw [e]; rfl, .cons r h1, h2⟩
end
def SgL (H : Hp) (v : V) (p : Str × Nat) : Prop := ∃ a, v = .ref a ∧ H a = some (.lst [.str p.1, .int (p.2 : Int)])
abbrev sgs (L : List It) : List (Str × Nat) := L.map fun t => (t.s, t.i)
def Sq (K : PySem.W.Frag) (H : Hp) (pa sa : Addr) (d : PyData) (L : List It) : Prop := ∃ vs ss, H pa = some (.lst vs) ∧ DpAll K H vs (d :: L.map It.d) ∧ H sa = some (.lst ss) ∧ A2 (SgL H) ss (sgs L)
def Grp (K : PySem.W.Frag) (H : Hp) (v : V) (p : PyData × List It) : Prop := ∃ a pa sa, v = .ref a ∧ H a = some (.lst [.ref pa, .ref sa]) ∧ Sq K H pa sa p.1 p.2
/-- no lists in the parts -/
def Nd (d : PyData) (L : List It) : Prop := noLs (d :: L.map It.d) = true
section
variable {K : PySem.W.Frag} {H H' : Hp}
theorem SgL.same (s : Same H H') (v : V) (p : Str × Nat) (h : SgL H v p) : SgL H' v p := by
  obtain ⟨a, e, h⟩ := h
  exact ⟨a, e, s _ _ h⟩
theorem Sq.same {pa sa : Addr} {d : PyData} {L : List It} (s : Same H H') (n : Nd d L) (h : Sq K H pa sa d L) : Sq K H' pa sa d L := by
  obtain ⟨vs, ss, h1, h2, h3, h4⟩ := h
  exact ⟨vs, ss, s _ _ h1, dps_keep (sqt_same s) _ _ n h2, s _ _ h3, h4.mono (SgL.same s)⟩
theorem Grp.same (s : Same H H') {v : V} {p : PyData × List It} (n : Nd p.1 p.2) (h : Grp K H v p) : Grp K H' v p := by
  obtain ⟨a, pa, sa, e, h1, h2⟩ := h
  exact ⟨a, pa, sa, e, s _ _ h1, h2.same s n⟩
theorem grps_same (s : Same H H') : ∀ {vs : List V} {ps : List (PyData × List It)}, (∀ p ∈ ps, Nd p.1 p.2) → A2 (Grp K H) vs ps → A2 (Grp K H') vs ps
  | _, _, _, .nil => .nil
  | _, _, n, .cons r t => .cons (Grp.same s (n _ List.mem_cons_self) r) (grps_same s (fun p hp => n p (List.mem_cons_of_mem _ hp)) t)
/-- two lists of the def are not looked at -/
def hide (g f : Addr) (H : Hp) : Hp := fun b => if b = g ∨ b = f then none else H b
theorem hide_same (g f : Addr) (H : Hp) : Same (hide g f H) H := fun b o e => by
  unfold hide at e
  split at e
  · cases e
  · exact e
theorem hide_g {g f : Addr} {H : Hp} {o : HO} : hide g f (upd H g o) = hide g f H := by
  funext b
  unfold hide
  split
  · rfl
  · rename_i h
    exact upd_ne (fun e => h (.inl e))
theorem hide_f {g f : Addr} {H : Hp} {o : HO} : hide g f (upd H f o) = hide g f H := by
  funext b
  unfold hide
  split
  · rfl
  · rename_i h
    exact upd_ne (fun e => h (.inr e))
theorem hide_new {g f p : Addr} {H : Hp} {o : HO} (n : H p = none) (hg : H g ≠ none) (hf : H f ≠ none) : hide g f (upd H p o) = upd (hide g f H) p o ∧ hide g f H p = none := by
  have h1 : p ≠ g := fun e => hg (e ▸ n)
  have h2 : p ≠ f := fun e => hf (e ▸ n)
  constructor
  · funext b
    by_cases hb : b = p
    · subst hb
      rw [upd_same]
      unfold hide
      rw [if_neg (by rintro (e | e) <;> contradiction), upd_same]
    · rw [upd_ne hb]
      unfold hide
      rw [upd_ne hb]
  · unfold hide
    rw [if_neg (by rintro (e | e) <;> contradiction)]
    exact n
theorem hide_step {g f p : Addr} {H : Hp} {o : HO} (n : H p = none) : Same (hide g f H) (hide g f (upd H p o)) := fun b x e => by
  unfold hide at e ⊢
  split at e
  · cases e
  · rename_i h
    rw [if_neg h, upd_ne (ne_of_none e n)]
    exact e
theorem hide_get {g f b : Addr} {H : Hp} {o : HO} (e : H b = some o) (h1 : b ≠ g) (h2 : b ≠ f) : hide g f H b = some o := by
  unfold hide
  rw [if_neg (by rintro (h | h) <;> contradiction)]
  exact e
theorem hide_mono {g f : Addr} {H H' : Hp} (s : Same H H') : Same (hide g f H) (hide g f H') := fun b x e => by
  unfold hide at e ⊢
  split at e
  · cases e
  · rename_i h
    rw [if_neg h]
    exact s _ _ e
theorem sqt_hide {K : PySem.W.Frag} {g f : Addr} {H : Hp} {ys zs : List V} (hg : H g = some (.lst ys)) (hf : H f = some (.lst zs)) (a : Addr) (xs : List V) (h : SqT K H a xs) : SqT K (hide g f H) a xs := by
  rcases h with (h | ⟨o, h⟩) | h
  · exact .inl (.inl (hide_get h (ne_of h hg (by intro z; cases z)) (ne_of h hf (by intro z; cases z))))
  · exact .inl (.inr ⟨o, hide_get h (ne_of h hg (by intro z; cases z)) (ne_of h hf (by intro z; cases z))⟩)
  · exact .inr h
theorem noLs_map {α : Type} {f : α → PyData} : ∀ {l : List α}, (∀ x ∈ l, noL (f x) = true) → noLs (l.map f) = true
  | [], _ => rfl
  | x :: l, h => by
    show (noL (f x) && noLs (l.map f)) = true
    rw [h x List.mem_cons_self, noLs_map fun y hy => h y (List.mem_cons_of_mem _ hy)]
    rfl
theorem hide_keep {g f : Addr} {H0 H : Hp} (s : Same H0 H) (hg : H0 g = none) (hf : H0 f = none) : Same H0 (hide g f H) := fun b o e => by
  unfold hide
  rw [if_neg (by rintro (h | h) <;> subst h <;> simp_all)]
  exact s _ _ e
end
/-! #### grouping from left to right -/
def gst (ws : List Str) (d : PyData) (L : List It) : List (PyData × List It) := (d, (dec ws L).1) :: (dec ws L).2.map fun p => (p.1.d, p.2)
def fnd (ws : List Str) (L : List It) : List It := (dec ws L).2.map (·.1)
def snocG (t : It) : List (PyData × List It) → List (PyData × List It)
  | [] => []
  | [p] => [(p.1, p.2 ++ [t])]
  | p :: q :: r => p :: snocG t (q :: r)
theorem snocG_end (t : It) (p : PyData × List It) : ∀ ps : List (PyData × List It), snocG t (ps ++ [p]) = ps ++ [(p.1, p.2 ++ [t])]
  | [] => rfl
  | [q] => rfl
  | q :: r :: ps => by
    show q :: snocG t (r :: ps ++ [p]) = _
    rw [snocG_end t p (r :: ps)]
    rfl
theorem dec_yes {ws : List Str} {t : It} (h : ws.any (· == t.s) = true) (l : List It) : dec ws (t :: l) = ([], (t, (dec ws l).1) :: (dec ws l).2) := by
  show (if _ then _ else _) = _
  rw [if_pos h]
theorem dec_no {ws : List Str} {t : It} (h : ¬ ws.any (· == t.s) = true) (l : List It) : dec ws (t :: l) = (t :: (dec ws l).1, (dec ws l).2) := by
  show (if _ then _ else _) = _
  rw [if_neg h]
theorem gst_yes {ws : List Str} {t : It} (h : ws.any (· == t.s) = true) : ∀ (L : List It) (d : PyData), gst ws d (L ++ [t]) = gst ws d L ++ [(t.d, [])] ∧ fnd ws (L ++ [t]) = fnd ws L ++ [t]
  | [], d => by
    simp only [gst, fnd]
    rw [List.nil_append, dec_yes h]
    exact ⟨rfl, rfl⟩
  | u :: L, d => by
    obtain ⟨h1, h2⟩ := gst_yes h L u.d
    simp only [gst, fnd] at h1 h2 ⊢
    by_cases hu : ws.any (· == u.s) = true
    · rw [List.cons_append, dec_yes hu, dec_yes hu]
      simp only [List.map_cons]
      constructor
      · rw [h1]
        rfl
      · rw [h2]
        rfl
    · rw [List.cons_append, dec_no hu, dec_no hu]
      dsimp only
      rw [List.cons_append, List.cons.injEq] at h1
      refine ⟨?_, h2⟩
      rw [List.cons_append, h1.2, (Prod.mk.inj h1.1).2]
theorem gst_no {ws : List Str} {t : It} (h : ¬ ws.any (· == t.s) = true) : ∀ (L : List It) (d : PyData), gst ws d (L ++ [t]) = snocG t (gst ws d L) ∧ fnd ws (L ++ [t]) = fnd ws L
  | [], d => by
    simp only [gst, fnd]
    rw [List.nil_append, dec_no h]
    exact ⟨rfl, rfl⟩
  | u :: L, d => by
    by_cases hu : ws.any (· == u.s) = true
    · obtain ⟨h1, h2⟩ := gst_no h L u.d
      simp only [gst, fnd] at h1 h2 ⊢
      rw [List.cons_append, dec_yes hu, dec_yes hu]
      simp only [List.map_cons]
      constructor
      · rw [h1]
        rfl
      · rw [h2]
    · obtain ⟨h1, h2⟩ := gst_no h L d
      simp only [gst, fnd] at h1 h2 ⊢
      rw [List.cons_append, dec_no hu, dec_no hu]
      dsimp only
      refine ⟨?_, h2⟩
      revert h1
      cases hG : (dec ws L).2.map (fun p => (p.1.d, p.2)) with
      | nil =>
        intro h1
        simp only [snocG, List.cons.injEq] at h1 ⊢
        exact ⟨by rw [(Prod.mk.inj h1.1).2]; rfl, h1.2⟩
      | cons q r =>
        intro h1
        simp only [snocG, List.cons.injEq] at h1 ⊢
        exact ⟨by rw [(Prod.mk.inj h1.1).2], h1.2⟩
theorem gst_len (ws : List Str) (d : PyData) : ∀ L : List It, (gst ws d L).length ≤ L.length + 1 ∧ (fnd ws L).length ≤ L.length
  | [] => ⟨Nat.le_refl _, Nat.le_refl _⟩
  | u :: L => by
    obtain ⟨h1, h2⟩ := gst_len ws d L
    simp only [gst, fnd] at h1 h2 ⊢
    by_cases hu : ws.any (· == u.s) = true
    · rw [dec_yes hu]
      simp only [List.length_cons, List.length_map] at h1 h2 ⊢
      omega
    · rw [dec_no hu]
      simp only [List.length_cons, List.length_map] at h1 h2 ⊢
      omega
theorem gst_sub (ws : List Str) : ∀ (L : List It) (d : PyData), ∀ p ∈ gst ws d L, p.2.length ≤ L.length
  | [], d, p, hp => by
    have : p = (d, []) := by simpa [gst, dec] using hp
    subst this
    exact Nat.le_refl _
  | u :: L, d, p, hp => by
    by_cases hu : ws.any (· == u.s) = true
    · have e : gst ws d (u :: L) = (d, []) :: gst ws u.d L := by
        unfold gst
        rw [dec_yes hu]
        rfl
      rw [e] at hp
      rcases List.mem_cons.mp hp with q | q
      · subst q
        exact Nat.zero_le _
      · exact Nat.le_succ_of_le (gst_sub ws L u.d p q)
    · have e : gst ws d (u :: L) = (d, u :: (dec ws L).1) :: (dec ws L).2.map fun p => (p.1.d, p.2) := by
        unfold gst
        rw [dec_no hu]
      rw [e] at hp
      have ih := gst_sub ws L d
      rcases List.mem_cons.mp hp with q | q
      · subst q
        exact Nat.succ_le_succ (ih (d, (dec ws L).1) (by unfold gst; exact List.mem_cons_self))
      · exact Nat.le_succ_of_le (ih p (by unfold gst; exact List.mem_cons_of_mem _ q))
theorem nd_cons {d : PyData} {t : It} {L : List It} (h : Nd d (t :: L)) : noL d = true ∧ noL t.d = true ∧ Nd d L := by
  have h' : (noL d && (noL t.d && noLs (L.map It.d))) = true := h
  simp only [Bool.and_eq_true] at h'
  refine ⟨h'.1, h'.2.1, ?_⟩
  show (noL d && noLs (L.map It.d)) = true
  rw [h'.1, h'.2.2]
  rfl
theorem gst_nd (ws : List Str) : ∀ (L : List It) (d : PyData), Nd d L → ∀ p ∈ gst ws d L, Nd p.1 p.2
  | [], d, h, p, hp => by
    have : p = (d, []) := by simpa [gst, dec] using hp
    subst this
    exact h
  | u :: L, d, h, p, hp => by
    obtain ⟨hd, hu0, hL⟩ := nd_cons h
    have hu' : Nd u.d L := by
      have : (noL d && noLs (L.map It.d)) = true := hL
      rw [Bool.and_eq_true] at this
      show (noL u.d && noLs (L.map It.d)) = true
      rw [hu0, this.2]
      rfl
    by_cases hu : ws.any (· == u.s) = true
    · have e : gst ws d (u :: L) = (d, []) :: gst ws u.d L := by
        unfold gst
        rw [dec_yes hu]
        rfl
      rw [e] at hp
      rcases List.mem_cons.mp hp with q | q
      · subst q
        show (noL d && true) = true
        rw [hd]
        rfl
      · exact gst_nd ws L u.d hu' p q
    · have e : gst ws d (u :: L) = (d, u :: (dec ws L).1) :: (dec ws L).2.map fun p => (p.1.d, p.2) := by
        unfold gst
        rw [dec_no hu]
      rw [e] at hp
      have ih := gst_nd ws L d hL
      rcases List.mem_cons.mp hp with q | q
      · subst q
        have h1 := ih (d, (dec ws L).1) (by unfold gst; exact List.mem_cons_self)
        have h1' : (noL d && noLs ((dec ws L).1.map It.d)) = true := h1
        rw [Bool.and_eq_true] at h1'
        show (noL d && (noL u.d && noLs ((dec ws L).1.map It.d))) = true
        rw [hd, hu0, h1'.2]
        rfl
      · exact ih p (by unfold gst; exact List.mem_cons_of_mem _ q)
end Px

/-! ### the text of the tree is short -/
namespace Px
open PySem PySem.Spec PyProof.Rows L2 Ly Lx TL Lw
structure Sm (d : PyData) (b h : Nat) : Prop where
  sh : d.showable = true
  nd : d.hasDict = false
  lv : d.leavesShort 20 = true
  bk : d.bulk ≤ b
  dp : d.depth ≤ h
theorem sm_int {i : Int} (h : i.natAbs < 100000000) : i.natAbs.log2 < 1920 ∧ (PyData.int i).leavesShort 20 = true := by
  constructor
  · by_cases h0 : i.natAbs = 0
    · rw [h0]
      decide
    · have : i.natAbs.log2 < 40 := (Nat.log2_lt h0).mpr (by omega)
      omega
  · simp only [PyData.leavesShort, decide_eq_true_eq]
    have := PyData.shown_int_le2 (i := i) (by omega) (by omega)
    omega
theorem sm_i {i : Int} (h : i.natAbs < 100000000) : Sm (.int i) 0 0 := by
  obtain ⟨h1, h2⟩ := sm_int h
  exact ⟨by simpa [PyData.showable] using h1, rfl, h2, by simp [PyData.bulk], by simp [PyData.depth]⟩
theorem sm_s {w : Str} {B : Nat} (hl : w.length ≤ B) (hc : ∀ c ∈ tl w, c < 128) : Sm (.str w) B 0 := by
  refine ⟨rfl, rfl, ?_, hl, by simp [PyData.depth]⟩
  simp only [PyData.leavesShort, List.all_eq_true, decide_eq_true_eq]
  intro c h
  have := hc c h
  omega
structure SmA (ds : List PyData) (b h : Nat) : Prop where
  sh : PyData.showableAll ds = true
  nd : PyData.hasDictAll ds = false
  lv : PyData.leavesShortAll 20 ds = true
  bk : PyData.bulkAll ds ≤ b
  dp : PyData.depthAll ds ≤ h
theorem SmA.nil {h : Nat} : SmA [] 0 h := ⟨by simp [PyData.showableAll], by simp [PyData.hasDictAll], by simp [PyData.leavesShortAll], by simp [PyData.bulkAll], by simp [PyData.depthAll]⟩
theorem SmA.cons {d : PyData} {ds : List PyData} {b b' h h' : Nat} (x : Sm d b h) (y : SmA ds b' h') : SmA (d :: ds) (b + b' + 1) (max h h') := by
  have h1 := x.bk
  have h2 := y.bk
  have h3 := x.dp
  have h4 := y.dp
  refine ⟨by simp only [PyData.showableAll, x.sh, y.sh, Bool.and_self], by simp only [PyData.hasDictAll, x.nd, y.nd, Bool.or_self], by simp only [PyData.leavesShortAll, x.lv, y.lv, Bool.and_self], ?_, ?_⟩
  · simp only [PyData.bulkAll]
    omega
  · simp only [PyData.depthAll]
    omega
theorem SmA.tup {ds : List PyData} {b h : Nat} (x : SmA ds b h) : Sm (.tuple ds) (b + 2) (h + 1) := by
  have h1 := x.bk
  have h2 := x.dp
  refine ⟨by simpa only [PyData.showable] using x.sh, by simpa only [PyData.hasDict] using x.nd, by simpa only [PyData.leavesShort] using x.lv, ?_, ?_⟩
  · simp only [PyData.bulk]
    omega
  · simp only [PyData.depth]
    omega
theorem SmA.lst {ds : List PyData} {b h : Nat} (x : SmA ds b h) : Sm (.list ds) (b + 2) (h + 1) := by
  have h1 := x.bk
  have h2 := x.dp
  refine ⟨by simpa only [PyData.showable] using x.sh, by simpa only [PyData.hasDict] using x.nd, by simpa only [PyData.leavesShort] using x.lv, ?_, ?_⟩
  · simp only [PyData.bulk]
    omega
  · simp only [PyData.depth]
    omega
theorem Sm.mono {d : PyData} {b b' h h' : Nat} (x : Sm d b h) (hb : b ≤ b') (hh : h ≤ h') : Sm d b' h' := ⟨x.sh, x.nd, x.lv, Nat.le_trans x.bk hb, Nat.le_trans x.dp hh⟩
theorem sm_node {op : Str} {e t : PyData} {b1 b2 h1 h2 i : Nat} (ho : op.length ≤ 6) (hc : ∀ c ∈ tl op, c < 128) (he : Sm e b1 h1) (ht : Sm t b2 h2) (hi : i < 100000) : Sm (node op e t i) (b1 + b2 + 30) (max h1 h2 + 1) :=
  (SmA.tup (.cons (sm_s ho hc) (.cons he (.cons ht (.cons (sm_i (i := (i : Int)) (by omega)) (SmA.nil (h := 0))))))).mono (by omega) (by omega)
theorem sm_op {c i : Nat} (hi : i < 90000) : Sm (opD c i) 60 4 := by
  have hv : opVal c < 1000 := Nat.mod_lt _ (by decide)
  have si : ∀ k : Nat, k < 100000 → Sm (.int (k : Int)) 0 0 := fun k hk => sm_i (by omega)
  have sv : ∀ (w : Str) (k : Nat), w.length ≤ 1 → (∀ c ∈ tl w, c < 128) → k < 100000 → Sm (varD w k) 12 1 := fun w k h1 h2 hk =>
    (SmA.tup (.cons (sm_s (w := "var") (B := 3) (by decide) (by decide)) (.cons (sm_s h1 h2) (.cons (si k hk) (SmA.nil (h := 0)))))).mono (by omega) (by omega)
  unfold opD
  split
  · exact (SmA.tup (.cons (sm_s (w := "number") (B := 6) (by decide) (by decide)) (.cons (SmA.tup (.cons (si _ (by omega)) (.cons (si 1 (by omega)) (SmA.nil (h := 0))))) (.cons (SmA.tup (SmA.nil (h := 0))) (.cons (si i (by omega)) (SmA.nil (h := 0))))))).mono (by omega) (by omega)
  · split
    · exact (SmA.tup (.cons (sm_s (w := "call") (B := 4) (by decide) (by decide)) (.cons (sm_s (w := "f") (B := 1) (by decide) (by decide)) (.cons (SmA.tup (.cons (sv "y" _ (by decide) (by decide) (by omega)) (SmA.nil (h := 0)))) (.cons (si i (by omega)) (SmA.nil (h := 0))))))).mono (by omega) (by omega)
    · split
      · exact (SmA.tup (.cons (sm_s (w := "power") (B := 5) (by decide) (by decide)) (.cons (SmA.tup (.cons (sm_s (w := "power") (B := 5) (by decide) (by decide)) (.cons (sv "x" i (by decide) (by decide) (by omega)) (.cons (si 2 (by omega)) (.cons (si (i + 1) (by omega)) (SmA.nil (h := 0))))))
          ) (.cons (sm_i (i := -3) (by decide)) (.cons (si (i + 3) (by omega)) (SmA.nil (h := 0))))))).mono (by omega) (by omega)
      · exact (sv "x" i (by decide) (by decide) (by omega)).mono (by omega) (by omega)
abbrev OkIt (t : It) : Prop := Sm t.d 60 4 ∧ t.s ∈ (["or", "and", "<", "<=", "==", "+", "-", "*", "/"] : List Str) ∧ t.i < 100000
theorem op_short : ∀ s ∈ (["or", "and", "<", "<=", "==", "+", "-", "*", "/"] : List Str), (opName s).length ≤ 6 ∧ ∀ c ∈ tl (opName s), c < 128 := by decide
theorem sm_fold {lv : List (List Str)} (hl : ∀ d L, Sm d 60 4 → (∀ t ∈ L, OkIt t) → Sm (treeM lv d L) (60 + 90 * L.length) (4 + L.length)) : ∀ (G : List (It × List It)) (e : PyData) (b h : Nat), Sm e b h → 4 ≤ h → (∀ t ∈ flatG G, OkIt t) →
    Sm (G.foldl (fun e p => node (opName p.1.s) e (treeM lv p.1.d p.2) p.1.i) e) (b + 90 * (flatG G).length) (h + (flatG G).length)
  | [], e, b, h, he, _, _ => he
  | (t, g) :: G, e, b, h, he, hh, hG => by
    have e1 : flatG ((t, g) :: G) = t :: g ++ flatG G := rfl
    rw [e1] at hG ⊢
    have ht := hG t (by simp)
    have hg := hl t.d g ht.1 fun u hu => hG u (by simp [hu])
    obtain ⟨o1, o2⟩ := op_short _ ht.2.1
    have hn := sm_node (op := opName t.s) o1 o2 he hg ht.2.2
    have := sm_fold hl G _ _ (h + 1 + g.length) (hn.mono (Nat.le_refl _) (by omega)) (by omega) fun u hu => hG u (by simp [hu])
    refine this.mono ?_ ?_
    · simp only [List.length_append, List.length_cons]
      omega
    · simp only [List.length_append, List.length_cons]
      omega
theorem sm_tree : ∀ (lv : List (List Str)) (d : PyData) (L : List It), Sm d 60 4 → (∀ t ∈ L, OkIt t) → Sm (treeM lv d L) (60 + 90 * L.length) (4 + L.length)
  | [], d, L, h, _ => h.mono (by omega) (by omega)
  | ws :: lv, d, L, h, hL => by
    have ef := dec_flat ws L
    have hlen : (dec ws L).1.length + (flatG (dec ws L).2).length = L.length := by rw [← List.length_append, ef]
    have h1 := sm_tree lv d (dec ws L).1 h fun t ht => hL t (by rw [← ef]; exact List.mem_append_left _ ht)
    have h2 := sm_fold (sm_tree lv) (dec ws L).2 _ _ _ h1 (by omega) fun t ht => hL t (by rw [← ef]; exact List.mem_append_right _ ht)
    unfold treeM
    exact h2.mono (by omega) (by omega)
theorem its_ok : ∀ (cs : List Nat) (off : Nat) (cmp : Bool), off + 20 * cs.length < 80000 → ∀ t ∈ its off cmp cs, OkIt t
  | [], _, _, _, t, h => by simp [its] at h
  | c :: cs, off, cmp, hb, t, h => by
    have h1 : (sepK c).length ≤ 2 := by
      unfold sepK
      split <;> decide
    have h2 : (sgOf cmp c).length ≤ 3 := by
      have h := sgOf_mem cmp c
      have h2 : ∀ s ∈ (["or", "and", "<", "<=", "==", "+", "-", "*", "/"] : List Str), s.length ≤ 3 := by decide
      exact h2 _ h
    have h3 : (opL c).length ≤ 6 := by
      unfold opL
      split
      · have h1 := numL_len (k := 3) (by decide) (n := opVal c) (opVal_lt c)
        omega
      · split
        · decide
        · split <;> decide
    rw [List.length_cons] at hb
    unfold its at h
    rcases List.mem_cons.mp h with e | e
    · subst e
      exact ⟨sm_op (by omega), sgOf_mem cmp c, by show off + _ < _; omega⟩
    · exact its_ok cs _ _ (by omega) t e
theorem sm_all (c : Nat) (cs : List Nat) (h : cs.length ≤ 9) : Sm (.list [.tuple [.str "show", treeM lv0 (opD c 5) (its (5 + (opL c).length) false cs), .none, .int ((0 : Nat) : Int)]]) 1000 20 := by
  have h3 : (opL c).length ≤ 6 := by
    unfold opL
    split
    · have h1 := numL_len (k := 3) (by decide) (n := opVal c) (opVal_lt c)
      omega
    · split
      · decide
      · split <;> decide
  have ht := sm_tree lv0 (opD c 5) (its (5 + (opL c).length) false cs) (sm_op (by decide)) (its_ok cs _ _ (by omega))
  rw [its_len] at ht
  have hn : Sm .none 0 0 := ⟨rfl, rfl, by simp [PyData.leavesShort], by simp [PyData.bulk], by simp [PyData.depth]⟩
  exact (SmA.lst (.cons (SmA.tup (.cons (sm_s (w := "show") (B := 4) (by decide) (by decide)) (.cons ht (.cons hn (.cons (sm_i (i := ((0 : Nat) : Int)) (by decide)) (SmA.nil (h := 0))))))) (SmA.nil (h := 0)))).mono (by omega) (by omega)
end Px

namespace Tk
open PySem PySem.Spec PyProof.Rows L2 Ly Lx TL Px Lw
/-! ### the law's own defs: groups -/
section
variable {P : Program} {w : World} {K : PySem.W.Frag} {mg : Str → Option Value} {base : Heap}
theorem at_eq {α : Type} {xs : List α} {z : Int} {n : Nat} {v : α} (e : z = (n : Int)) (h : xs[n]? = some v) : atI xs z = some v := by
  rw [e]
  exact atI_nat h
def sp_cell (K : PySem.W.Frag) : Sp := fun vs H Q _ => ∃ (a : Addr) (ns : List Int) (k : Nat), vs = [.ref a, .int (k : Int)] ∧ SqL K H a (ns.map V.int) ∧ Q (.int (ns.getD k 0)) H
theorem ok_law_cell (T : Top w K mg) : FnOk P w K mg base CX0 1 T.a_law_cell T.fd_law_cell ["script", "k"] (sp_cell K) := by
  refine T.F_law_cell.ok sc_law_cell (fun vs H Q E h => ?_) (fun cdv A outer s H vs Q E hr h => ?_)
  · obtain ⟨a, ns, k, rfl, _⟩ := h
    rfl
  · obtain ⟨a, ns, k, rfl, hS, q⟩ := h
    refine ⟨_, (pss_cons (ps_if (pt_cmpR op_lt (pv 1) (pe_callB call_len (by rfl) T.n_len bt_len (pa_cons (pv 0) pa_nil)) (nomark _))
      (pss_one (ps_ret (pe_callTy call_intX (by rfl) T.n_int bt_int (pa_cons (pe_ix ix_seq (pv 0) (pv 1) (fun _ _ => rfl)) pa_nil))))
      pss_nil)
      (pss_one (ps_ret pe_int))), ?_⟩
    refine ⟨_, rfl, _, rfl, _, ns.length, rfl, .inl ⟨_, hS, (List.length_map _).symm⟩, _, _, rfl, rfl, _, rfl, ite2 (fun hc => ?_) (fun hc => ?_)⟩
    · have hlt : k < ns.length := by simpa using hc
      rw [List.getD_eq_getElem?_getD, List.getElem?_eq_getElem hlt] at q
      have g : (ns.map V.int)[k]? = some (.int ns[k]) := by
        rw [List.getElem?_map, List.getElem?_eq_getElem hlt]
        rfl
      exact ⟨_, rfl, _, rfl, .inl ⟨a, _, _, _, rfl, rfl, hS, atI_nat g, .inl (.inl ⟨_, rfl, q⟩)⟩⟩
    · have hlt : ¬ k < ns.length := by simpa using hc
      rw [List.getD_eq_getElem?_getD, List.getElem?_eq_none (by omega)] at q
      exact q
theorem inV_strs (s : Str) : ∀ ws : List Str, inV (.str s) (ws.map V.str) = ws.any (· == s)
  | [] => rfl
  | w :: ws => by
    have ih := inV_strs s ws
    unfold inV at ih ⊢
    rw [List.map_cons, List.any_cons, ih, List.any_cons]
    rfl
theorem flat_strs : ∀ ws : List Str, (ws.map V.str).all flatV = true
  | [] => rfl
  | w :: ws => by
    rw [List.map_cons, List.all_cons, flat_strs ws]
    rfl
theorem nd_take {d : PyData} : ∀ {L : List Px.It}, Nd d L → ∀ i, Nd d (L.take i)
  | [], h, i => by
    rw [List.take_nil]
    exact h
  | u :: L, h, 0 => by
    obtain ⟨h1, _, _⟩ := nd_cons h
    show (noL d && true) = true
    rw [h1]
    rfl
  | u :: L, h, i + 1 => by
    obtain ⟨h1, h2, h3⟩ := nd_cons h
    have ih := nd_take h3 i
    have ih' : (noL d && noLs ((L.take i).map It.d)) = true := ih
    rw [Bool.and_eq_true] at ih'
    show (noL d && (noL u.d && noLs ((L.take i).map It.d))) = true
    rw [h1, h2, ih'.2]
    rfl
theorem ixN_last {n : Nat} (h : 0 < n) : ixN n ((n : Int) - 1) = some (n - 1) := by
  unfold ixN
  rw [if_pos (by omega), if_pos (by omega)]
  congr 1
  omega
def sp_group (K : PySem.W.Frag) : Sp := fun vs H Q _ => ∃ (pa sa wa : Addr) (d : PyData) (L : List Px.It) (ws : List Str), vs = [.ref pa, .ref sa, .ref wa] ∧ Sq K H pa sa d L ∧ Nd d L ∧ SqL K H wa (ws.map V.str) ∧ L.length ≤ 1000 ∧
  ∀ H' out ga fa gvs fvs, Same H H' → H' out = some (.lst [.ref ga, .ref fa]) → H' ga = some (.lst gvs) → A2 (Grp K H') gvs (gst ws d L) → H' fa = some (.lst fvs) → A2 (SgL H') fvs (sgs (fnd ws L)) → Q (.ref out) H'
theorem ok_law_group (T : Top w K mg) : FnOk P w K mg base CX0 1 T.a_law_group T.fd_law_group ["parts", "signs", "wanted"] (sp_group K) := by
  refine T.F_law_group.ok sc_law_group (fun vs H Q E h => ?_) (fun cdv A outer s H vs Q E hr h => ?_)
  · obtain ⟨pa, sa, wa, d, L, ws, rfl, _⟩ := h
    rfl
  · obtain ⟨pa, sa, wa, d, L, ws, rfl, hSq, hnd, hwa, hL, q⟩ := h
    refine ⟨_, (pss_cons (ps_set (i := 3) sc_law_group.nd rfl (.inl rfl) (by exact (pe_lst (pa_cons (pe_lst (pa_cons (pe_lst (pa_cons (pe_ix ix_seq (pv 0) pe_int (fun _ _ => rfl)) pa_nil)) (pa_cons (pe_lst pa_nil) pa_nil))) pa_nil))))
      (pss_cons (ps_set (i := 4) sc_law_group.nd rfl (.inl rfl) (by exact (pe_lst pa_nil)))
      (pss_cons (ps_for PassesOwn.never rfl (pi_range1 (by rfl) T.n_range (pa_cons (pe_callB call_len (by rfl) T.n_len bt_len (pa_cons (pv 1) pa_nil)) pa_nil)) (pg_name (i := 5) sc_law_group.nd rfl (.inl rfl))
      (pss_one (ps_if (pt_cmpR op_within (pe_ix ix_seq (pe_ix ix_seq (pv 1) (pv 5) (fun _ _ => rfl)) pe_int (fun _ _ => rfl)) (pv 2) (by rfl))
      (pss_cons (ps_expr (pe_bm PySem.F.plainAttrs_list PySem.F.slot_list_append PySem.F.type_list_append mt_append (pv 4) (pa_cons (pe_ix ix_seq (pv 1) (pv 5) (fun _ _ => rfl)) pa_nil)))
      (pss_one (ps_expr (pe_bm PySem.F.plainAttrs_list PySem.F.slot_list_append PySem.F.type_list_append mt_append (pv 3) (pa_cons (pe_lst (pa_cons (pe_lst (pa_cons (pe_ix ix_seq (pv 0) (pe_op op_plus (pv 5) pe_int) (fun _ _ => rfl)) pa_nil)) (pa_cons (pe_lst pa_nil) pa_nil))) pa_nil)))))
      (pss_cons (ps_set (i := 6) sc_law_group.nd rfl (.inl rfl) (by exact (pe_ix ix_seq (pv 3) (pe_op op_sub (pe_callB call_len (by rfl) T.n_len bt_len (pa_cons (pv 3) pa_nil)) pe_int) (fun _ _ => rfl))))
      (pss_one (ps_asg (pe_lst (pa_cons (pe_op op_cat (pe_ix ix_seq (pv 6) pe_int (fun _ _ => rfl)) (pe_lst (pa_cons (pe_ix ix_seq (pv 0) (pe_op op_plus (pv 5) pe_int) (fun _ _ => rfl)) pa_nil))) (pa_cons (pe_op op_cat (pe_ix ix_seq (pv 6) pe_int (fun _ _ => rfl)) (pe_lst (pa_cons (pe_ix ix_seq (pv 1) (pv 5) (fun _ _ => rfl)) pa_nil))) pa_nil))) (pg_sub (pv 3) (pe_op op_sub (pe_callB call_len (by rfl) T.n_len bt_len (pa_cons (pv 3) pa_nil)) pe_int) set_list)))))))
      (pss_one (ps_ret (pe_lst (pa_cons (pv 3) (pa_cons (pv 4) pa_nil)))))))), ?_⟩
    obtain ⟨vs, ss, hpa, hvs, hsa, hss⟩ := hSq
    have hvl : vs.length = L.length + 1 := by rw [dps_len hvs, List.length_cons, List.length_map]
    have hsl : ss.length = L.length := by rw [hss.len, List.length_map]
    obtain ⟨v0, hv0, hd0⟩ := dps_get (j := 0) hvs rfl
    refine ⟨_, rfl, .inl ⟨pa, vs, _, v0, rfl, rfl, SqL.of hpa, at_eq (n := 0) rfl hv0, by show 1 ≤ sizeLine; decide, fun p1 n1 => ⟨Nat.zero_le _, fun p2 n2 => ⟨by show 2 ≤ sizeLine; decide, fun p3 n3 => ⟨by show 1 ≤ sizeLine; decide, fun g ng => ?_⟩⟩⟩⟩⟩
    refine ⟨Nat.zero_le _, fun f nf => ?_⟩
    generalize hH3 : upd (upd (upd H p1 (.lst [v0])) p2 (.lst [])) p3 (.lst [.ref p1, .ref p2]) = H3 at ng nf
    have sm1 : Same H (upd H p1 (.lst [v0])) := same_upd n1
    have sm2 : Same (upd H p1 (.lst [v0])) (upd (upd H p1 (.lst [v0])) p2 (.lst [])) := same_upd n2
    have sm3 : Same (upd (upd H p1 (.lst [v0])) p2 (.lst [])) H3 := by
      subst hH3
      exact same_upd n3
    have s03 : Same H H3 := (sm1.trans sm2).trans sm3
    have ngf : g ≠ f := fun e => by
      subst e
      rw [upd_same] at nf
      cases nf
    have nf3 : H3 f = none := by
      rw [upd_ne ngf.symm] at nf
      exact nf
    have g3 : Grp K H3 (.ref p3) (d, []) := ⟨p3, p1, p2, rfl, by subst hH3; exact upd_same, [v0], [], sm3 _ _ (sm2 _ _ upd_same), .cons (dp_keep (sqt_same s03) _ _ (by have h' : (noL d && noLs (L.map It.d)) = true := hnd; rw [Bool.and_eq_true] at h'; exact h'.1) hd0) .nil, sm3 _ _ upd_same, .nil⟩
    have hid0 : hide g f (upd (upd H3 g (.lst [.ref p3])) f (.lst [])) = hide g f H3 := by rw [hide_f, hide_g]
    have s3h : Same H3 (hide g f H3) := hide_keep (Same.refl _) ng nf3
    refine ⟨_, rfl, _, ss.length, rfl, .inl ⟨_, SqL.of (same_upd nf _ _ (same_upd ng _ _ (s03 _ _ hsa))), rfl⟩, _, rfl, by omega, by omega, ?_⟩
    rw [show ((ss.length : Int)).toNat = ss.length from Int.toNat_natCast _]
    refine for_range (lo := 0) (n := ss.length) (fun i σ H' => ∃ (y5 y6 : Option V) (gvs fvs : List V), σ = [some (.ref pa), some (.ref sa), some (.ref wa), some (.ref g), some (.ref f), y5, y6] ∧
      Same H (hide g f H') ∧ H' g = some (.lst gvs) ∧ H' f = some (.lst fvs) ∧ A2 (Grp K (hide g f H')) gvs (gst ws d (L.take i)) ∧ A2 (SgL (hide g f H')) fvs (sgs (fnd ws (L.take i))))
      ⟨none, none, [.ref p3], [], rfl, by rw [hid0]; exact s03.trans s3h, by rw [upd_ne ngf, upd_same], upd_same, by rw [hid0]; exact .cons (Grp.same s3h (by have h' : (noL d && noLs (L.map It.d)) = true := hnd; rw [Bool.and_eq_true] at h'; show (noL d && true) = true; rw [h'.1]; rfl) g3) .nil, by rw [hid0]; exact .nil⟩ ?_ ?_
    · rintro i σ H1 hi ⟨y5, y6, gvs, fvs, rfl, hs, hg, hf, hgr, hfn⟩
      have hiL : i < L.length := by omega
      have hsH : Same H H1 := hs.trans (hide_same _ _ _)
      obtain ⟨t, ht⟩ : ∃ t, L[i]? = some t := ⟨_, List.getElem?_eq_getElem hiL⟩
      have htake : L.take (i + 1) = L.take i ++ [t] := by
        rw [List.take_succ, ht]
        rfl
      obtain ⟨sv, hsv, ⟨a, rfl, ha⟩⟩ := hss.get (k := i) (y := (t.s, t.i)) (by rw [List.getElem?_map, ht]; rfl)
      obtain ⟨pv, hpv, hdpv⟩ := dps_get (j := i + 1) (d := t.d) hvs (by rw [List.getElem?_cons_succ, List.getElem?_map, ht]; rfl)
      have hndt : noL t.d = true := by
        have h' : (noL d && noLs (L.map It.d)) = true := hnd
        rw [Bool.and_eq_true] at h'
        have h2 : ∀ (l : List Px.It), noLs (l.map It.d) = true → ∀ u ∈ l, noL u.d = true := by
          intro l
          induction l with
          | nil => intro _ u hu; cases hu
          | cons x l ih =>
            intro hx u hu
            have hx' : (noL x.d && noLs (l.map It.d)) = true := hx
            rw [Bool.and_eq_true] at hx'
            rcases List.mem_cons.mp hu with e | e
            · subst e
              exact hx'.1
            · exact ih hx'.2 u e
        exact h2 L h'.2 t (List.mem_of_getElem? ht)
      have hglen := gst_len ws d (L.take i)
      rw [List.length_take] at hglen
      have hgl : gvs.length ≤ 1001 := by
        rw [hgr.len]
        omega
      have hfl : fvs.length ≤ 1000 := by
        rw [hfn.len, List.length_map]
        omega
      have k0 : (0 : Int) + (i : Int) = ((i : Nat) : Int) := by omega
      refine ⟨_, rfl, _, rfl, .inl ⟨sa, ss, _, .ref a, rfl, rfl, SqL.of (hsH _ _ hsa), at_eq k0 hsv, .inl ⟨a, _, _, .str t.s, rfl, rfl, SqL.of (hsH _ _ ha), rfl, _, rfl, .inr ⟨wa, ws.map V.str, rfl, .inl (hsH.seq hwa), rfl, flat_strs ws, _, rfl, ite2 (fun hc => ?_) (fun hc => ?_)⟩⟩⟩⟩
      · have hc' : ws.any (· == t.s) = true := by
          rw [← inV_strs]
          exact hc
        obtain ⟨e1, e2⟩ := gst_yes hc' (L.take i) d
        rw [← htake] at e1 e2
        refine ⟨_, rfl, .inl ⟨rfl, _, .inl (.inl hf)⟩, _, rfl, _, rfl, .inl ⟨sa, ss, _, .ref a, rfl, rfl, SqL.of (hsH _ _ hsa), at_eq k0 hsv, f, fvs, _, rfl, rfl, hf, len_ok (by omega), ?_⟩⟩
        have hg2 : (upd H1 f (.lst (fvs ++ [.ref a]))) g = some (.lst gvs) := by rw [upd_ne ngf]; exact hg
        have hpa2 : (upd H1 f (.lst (fvs ++ [.ref a]))) pa = some (.lst vs) := by
          rw [upd_ne (ne_of_none hpa (by
            cases e : H f with
            | none => rfl
            | some o => rw [s03 f o e] at nf3; cases nf3))]
          exact hsH _ _ hpa
        refine ⟨_, rfl, .inl ⟨rfl, _, .inl (.inl hg2)⟩, _, rfl, _, rfl, .inl ⟨_, _, rfl, rfl, .inl ⟨pa, vs, _, pv, rfl, rfl, SqL.of hpa2, at_eq (n := i + 1) (by omega) hpv, by show 1 ≤ sizeLine; decide, fun p1 n1 => ⟨Nat.zero_le _, fun p2 n2 => ⟨by show 2 ≤ sizeLine; decide, fun p3 n3 => ?_⟩⟩⟩⟩⟩
        generalize hH2 : upd H1 f (.lst (fvs ++ [.ref a])) = H2 at n1 n2 n3 hg2 hpa2
        have hf2 : H2 f = some (.lst (fvs ++ [.ref a])) := by subst hH2; exact upd_same
        have t0 : hide g f H2 = hide g f H1 := by subst hH2; exact hide_f
        have u1 : Same H2 (upd H2 p1 (.lst [pv])) := same_upd n1
        have u2 : Same (upd H2 p1 (.lst [pv])) (upd (upd H2 p1 (.lst [pv])) p2 (.lst [])) := same_upd n2
        have u3 : Same (upd (upd H2 p1 (.lst [pv])) p2 (.lst [])) (upd (upd (upd H2 p1 (.lst [pv])) p2 (.lst [])) p3 (.lst [.ref p1, .ref p2])) := same_upd n3
        have hg5 := u3 _ _ (u2 _ _ (u1 _ _ hg2))
        have hf5 := u3 _ _ (u2 _ _ (u1 _ _ hf2))
        have hw1 : Same (hide g f H1) (hide g f (upd (upd (upd H2 p1 (.lst [pv])) p2 (.lst [])) p3 (.lst [.ref p1, .ref p2]))) := by
          rw [← t0]
          exact ((hide_step n1).trans (hide_step n2)).trans (hide_step n3)
        refine ⟨g, gvs, _, rfl, rfl, hg5, len_ok (by omega), ?_⟩
        have k1 := (u3 _ _ (u2 _ _ (upd_same (H := H2) (a := p1) (o := .lst [pv]))))
        have k2 := u3 _ _ (upd_same (H := upd H2 p1 (.lst [pv])) (a := p2) (o := .lst []))
        have g1 : g ≠ p1 := ne_of_none hg2 n1
        have f1 : f ≠ p1 := ne_of_none hf2 n1
        have g2 : g ≠ p2 := ne_of_none (u1 _ _ hg2) n2
        have f2 : f ≠ p2 := ne_of_none (u1 _ _ hf2) n2
        have g3' : g ≠ p3 := ne_of_none (u2 _ _ (u1 _ _ hg2)) n3
        have f3 : f ≠ p3 := ne_of_none (u2 _ _ (u1 _ _ hf2)) n3
        refine ⟨_, _, _, _, rfl, by rw [hide_g]; exact hs.trans hw1, upd_same, by rw [upd_ne ngf.symm]; exact hf5, ?_, ?_⟩
        · rw [hide_g, e1]
          refine (grps_same hw1 (gst_nd ws _ d (nd_take hnd i)) hgr).append (.cons ⟨p3, p1, p2, rfl, hide_get upd_same g3'.symm f3.symm, [pv], [], hide_get k1 g1.symm f1.symm, .cons ?_ .nil, hide_get k2 g2.symm f2.symm, .nil⟩ .nil)
          exact dp_keep (sqt_same (hs.trans hw1)) _ _ hndt hdpv
        · rw [hide_g, e2]
          show A2 _ _ (List.map _ (_ ++ _))
          rw [List.map_append]
          exact (hfn.mono (SgL.same hw1)).append (.cons ⟨a, rfl, (hs.trans hw1) _ _ ha⟩ .nil)
      · have hc' : ¬ ws.any (· == t.s) = true := by
          rw [← inV_strs]
          exact hc
        obtain ⟨e1, e2⟩ := gst_no hc' (L.take i) d
        rw [← htake] at e1 e2
        obtain ⟨ys, p, eG⟩ : ∃ ys p, gst ws d (L.take i) = ys ++ [p] := ⟨_, _, (List.dropLast_concat_getLast (show gst ws d (L.take i) ≠ [] by unfold gst; simp)).symm⟩
        have hsub := gst_sub ws (L.take i) d p (by rw [eG]; simp)
        rw [List.length_take] at hsub
        have hndp := gst_nd ws (L.take i) d (nd_take hnd i)
        rw [eG] at hgr e1 hndp
        rw [snocG_end] at e1
        obtain ⟨gs0, lv, rfl, hgs0, ⟨la, lpa, lsa, rfl, hla, lvs, lss, hlpa, hldp, hlsa, hlss⟩⟩ := hgr.snoc_inv
        have hh := hide_same g f H1
        have hpl := hndp p (by simp)
        have hlv : lvs.length ≤ 1001 := by rw [dps_len hldp, List.length_cons, List.length_map]; omega
        have hls : lss.length ≤ 1000 := by rw [hlss.len, List.length_map]; omega
        have hlg : 0 < (gs0 ++ [V.ref la]).length := by simp
        have hat : atI (gs0 ++ [V.ref la]) (((gs0 ++ [V.ref la]).length : Int) - 1) = some (.ref la) := at_eq (n := gs0.length) (by simp) (by simp)
        refine ⟨_, rfl, _, rfl, _, (gs0 ++ [V.ref la]).length, rfl, .inl ⟨_, SqL.of hg, rfl⟩, _, _, rfl, rfl, .inl ⟨g, _, _, .ref la, rfl, rfl, SqL.of hg, hat, ?_⟩⟩
        refine ⟨_, rfl, .inl ⟨la, _, _, .ref lpa, rfl, rfl, SqL.of (hh _ _ hla), rfl, _, rfl, _, rfl, .inl ⟨_, _, rfl, rfl, .inl ⟨pa, vs, _, pv, rfl, rfl, SqL.of (hsH _ _ hpa), at_eq (n := i + 1) (by omega) hpv, by show 1 ≤ sizeLine; decide, fun q1 nq1 => ?_⟩⟩⟩⟩
        have u1 : Same H1 (upd H1 q1 (.lst [pv])) := same_upd nq1
        refine ⟨lpa, q1, lvs, [pv], rfl, rfl, u1 _ _ (hh _ _ hlpa), upd_same, sz (by simp; omega), fun c1 nc1 => ?_⟩
        have u2 : Same (upd H1 q1 (.lst [pv])) (upd (upd H1 q1 (.lst [pv])) c1 (.lst (lvs ++ [pv]))) := same_upd nc1
        generalize hHB : upd (upd H1 q1 (.lst [pv])) c1 (.lst (lvs ++ [pv])) = HB at u2
        have s1B : Same H1 HB := u1.trans u2
        have hc1 : HB c1 = some (.lst (lvs ++ [pv])) := by subst hHB; exact upd_same
        have w1 : Same (hide g f H1) (hide g f HB) := by
          subst hHB
          exact (hide_step nq1).trans (hide_step nc1)
        refine ⟨_, rfl, .inl ⟨la, _, _, .ref lsa, rfl, rfl, SqL.of (s1B _ _ (hh _ _ hla)), rfl, _, rfl, _, rfl, .inl ⟨sa, ss, _, .ref a, rfl, rfl, SqL.of (s1B _ _ (hsH _ _ hsa)), at_eq k0 hsv, by show 1 ≤ sizeLine; decide, fun q2 nq2 => ?_⟩⟩⟩
        have u3 : Same HB (upd HB q2 (.lst [.ref a])) := same_upd nq2
        refine ⟨lsa, q2, lss, [.ref a], rfl, rfl, u3 _ _ (s1B _ _ (hh _ _ hlsa)), upd_same, sz (by simp; omega), fun c2 nc2 => ?_⟩
        have u4 : Same (upd HB q2 (.lst [.ref a])) (upd (upd HB q2 (.lst [.ref a])) c2 (.lst (lss ++ [.ref a]))) := same_upd nc2
        generalize hHD : upd (upd HB q2 (.lst [.ref a])) c2 (.lst (lss ++ [.ref a])) = HD at u4
        have sBD : Same HB HD := u3.trans u4
        have hc2 : HD c2 = some (.lst (lss ++ [.ref a])) := by subst hHD; exact upd_same
        have w2 : Same (hide g f HB) (hide g f HD) := by
          subst hHD
          exact (hide_step nq2).trans (hide_step nc2)
        refine ⟨by show 2 ≤ sizeLine; decide, fun np nnp => ?_⟩
        have u5 : Same HD (upd HD np (.lst [.ref c1, .ref c2])) := same_upd nnp
        have w3 : Same (hide g f HD) (hide g f (upd HD np (.lst [.ref c1, .ref c2]))) := hide_step nnp
        have wA := (w1.trans w2).trans w3
        have hgE := u5 _ _ (sBD _ _ (s1B _ _ hg))
        have hfE := u5 _ _ (sBD _ _ (s1B _ _ hf))
        refine ⟨_, rfl, _, rfl, _, (gs0 ++ [V.ref la]).length, rfl, .inl ⟨_, SqL.of hgE, rfl⟩, _, _, rfl, rfl, g, _, _, _, rfl, rfl, hgE, ixN_last hlg, ?_⟩
        have eset : (gs0 ++ [V.ref la]).set ((gs0 ++ [V.ref la]).length - 1) (.ref np) = gs0 ++ [.ref np] := by simp
        rw [eset]
        have g1 : g ≠ c1 := ne_of_none (u1 _ _ hg) nc1
        have f1 : f ≠ c1 := ne_of_none (u1 _ _ hf) nc1
        have g2 : g ≠ c2 := ne_of_none (u3 _ _ (s1B _ _ hg)) nc2
        have f2 : f ≠ c2 := ne_of_none (u3 _ _ (s1B _ _ hf)) nc2
        have g3' : g ≠ np := ne_of_none (sBD _ _ (s1B _ _ hg)) nnp
        have f3 : f ≠ np := ne_of_none (sBD _ _ (s1B _ _ hf)) nnp
        refine ⟨_, _, _, _, rfl, by rw [hide_g]; exact hs.trans wA, upd_same, by rw [upd_ne ngf.symm]; exact hfE, ?_, ?_⟩
        · rw [hide_g, e1]
          refine (grps_same wA (fun p' hp' => hndp p' (List.mem_append_left _ hp')) hgs0).append (.cons ⟨np, c1, c2, rfl, hide_get upd_same g3'.symm f3.symm, lvs ++ [pv], lss ++ [.ref a], hide_get (u5 _ _ (sBD _ _ hc1)) g1.symm f1.symm, ?_, hide_get (u5 _ _ hc2) g2.symm f2.symm, ?_⟩ .nil)
          · show DpAll K _ _ (p.1 :: List.map It.d (p.2 ++ [t]))
            rw [List.map_append]
            exact dps_append (dps_keep (sqt_same wA) _ _ hpl hldp) (.cons (dp_keep (sqt_same (hs.trans wA)) _ _ hndt hdpv) .nil)
          · show A2 _ _ (List.map _ (p.2 ++ [t]))
            rw [List.map_append]
            exact (hlss.mono (SgL.same wA)).append (.cons ⟨a, rfl, (hs.trans wA) _ _ ha⟩ .nil)
        · rw [hide_g, e2]
          exact hfn.mono (SgL.same wA)
    · rintro σ H1 ⟨y5, y6, gvs, fvs, rfl, hs, hg, hf, hgr, hfn⟩
      rw [List.take_of_length_le (by omega)] at hgr hfn
      refine ⟨_, rfl, _, rfl, by show 2 ≤ sizeLine; decide, fun out no => ?_⟩
      have so := same_upd (o := .lst [.ref g, .ref f]) no
      have sho := (hide_same g f H1).trans so
      exact q _ out g f gvs fvs (hs.trans sho) upd_same (so _ _ hg) (grps_same sho (gst_nd ws L d hnd) hgr) (so _ _ hf) (hfn.mono (SgL.same sho))
end
end Tk

namespace Tk
open PySem PySem.Spec PyProof.Rows L2 Ly Lx TL Px Lw
/-! ### the law's own defs: the tree -/
theorem hu_of1 {k : Nat} {A : Around} (r : Room k A) : A.units + 1 < cLine := by
  have := hu_of64 r
  omega
abbrev lvAll : List (List Str) := [["or"], ["and"], ["<", "<=", "=="], ["+", "-"], ["*", "/"]]
theorem gst_mem (ws : List Str) (d : PyData) (L : List Px.It) : ∀ p ∈ gst ws d L, ∀ t ∈ p.2, t ∈ L := by
  intro p hp t ht
  have ef := dec_flat ws L
  unfold gst at hp
  rcases List.mem_cons.mp hp with e | e
  · subst e
    rw [← ef]
    exact List.mem_append_left _ ht
  · obtain ⟨q, hq, e2⟩ := List.mem_map.mp e
    subst e2
    rw [← ef]
    exact List.mem_append_right _ ((mem_flatG hq).2 t ht)
theorem fnd_mem (ws : List Str) (L : List Px.It) : ∀ p ∈ (dec ws L).2, p.1 ∈ L := by
  intro p hp
  have ef := dec_flat ws L
  have := (mem_flatG hp).1
  rw [← ef]
  exact List.mem_append_right _ this
theorem fold_noL {lv : List (List Str)} (h : ∀ d L, Nd d L → noL (treeM lv d L) = true) : ∀ (G : List (Px.It × List Px.It)) (e : PyData), (∀ p ∈ G, Nd p.1.d p.2) → noL e = true →
    noL (G.foldl (fun e p => node (opName p.1.s) e (treeM lv p.1.d p.2) p.1.i) e) = true
  | [], e, _, he => he
  | p :: G, e, hG, he => fold_noL h G _ (fun q hq => hG q (List.mem_cons_of_mem _ hq)) (show noL (.tuple _) = true from node_no he (h _ _ (hG p List.mem_cons_self)))
theorem treeM_noL : ∀ (lv : List (List Str)) (d : PyData) (L : List Px.It), Nd d L → noL (treeM lv d L) = true
  | [], d, L, h => by
    have h' : (noL d && noLs (L.map It.d)) = true := h
    rw [Bool.and_eq_true] at h'
    exact h'.1
  | ws :: lv, d, L, h => by
    have hg := gst_nd ws L d h
    unfold treeM
    refine fold_noL (treeM_noL lv) _ _ (fun p hp => hg (p.1.d, p.2) ?_) (treeM_noL lv _ _ (hg (d, (dec ws L).1) ?_))
    · unfold gst
      exact List.mem_cons_of_mem _ (List.mem_map.mpr ⟨p, hp, rfl⟩)
    · unfold gst
      exact List.mem_cons_self
theorem scx_law_tree : FnScope ["parts", "signs", "level", "levels", "heads", "groups", "found", "trees", "tree", "k", "group"] ["parts", "signs", "level"] (defScope s_law_tree) := ⟨rfl, rfl, rfl, by decide +kernel, rfl, by decide +kernel, by decide +kernel⟩
abbrev headsD : List (Key × V) := [(.inr "or", .str "or"), (.inr "and", .str "and"), (.inr "<", .str "lt"), (.inr "<=", .str "le"), (.inr "==", .str "eq"), (.inr "+", .str "add"), (.inr "-", .str "sub"), (.inr "*", .str "mul"), (.inr "/", .str "div")]
theorem heads_get : ∀ s ∈ opers, some (V.str (opName s)) = valV (mergeK [] headsD) (.inr s) := by
  intro s h
  simp only [List.mem_cons, List.not_mem_nil, or_false] at h
  rcases h with rfl | rfl | rfl | rfl | rfl | rfl | rfl | rfl | rfl <;> decide
section
variable {P : Program} {w : World} {K : PySem.W.Frag} {mg : Str → Option Value} {base : Heap}
def sp_tree (K : PySem.W.Frag) (l : Nat) : Sp := fun vs H Q _ => ∃ (pa sa : Addr) (d : PyData) (L : List Px.It), vs = [.ref pa, .ref sa, .int (l : Int)] ∧ Sq K H pa sa d L ∧ Nd d L ∧ L.length ≤ 1000 ∧ (∀ t ∈ L, t.s ∈ opers) ∧
  ∀ H' v, Same H H' → Dp K H' v (treeM (lvAll.drop l) d L) → Q v H'
def sp_sub (K : PySem.W.Frag) (l : Nat) : Sp := fun vs H Q E => l < 5 ∧ sp_tree K (l + 1) vs H Q E
theorem ok_tree_step (T : Top w K mg) {l k : Nat} (hl : l ≤ 5) (hk : 1 ≤ k) (hR : FnOk P w K mg base CX0 k T.a_law_tree T.fd_law_tree ["parts", "signs", "level"] (sp_sub K l)) :
    FnOk P w K mg base CX0 (k + 1) T.a_law_tree T.fd_law_tree ["parts", "signs", "level"] (sp_tree K l) := by
  refine T.F_law_tree.ok scx_law_tree (fun vs H Q E h => ?_) (fun cdv A outer s H vs Q E hr h => ?_)
  · obtain ⟨pa, sa, d, L, rfl, _⟩ := h
    rfl
  · obtain ⟨pa, sa, d, L, rfl, hSq, hnd, hL, hop, q⟩ := h
    refine ⟨_, (pss_cons (ps_set (i := 3) scx_law_tree.nd rfl (.inl rfl) (by exact (pe_lst (pa_cons (pe_lst (pa_cons pe_str pa_nil)) (pa_cons (pe_lst (pa_cons pe_str pa_nil)) (pa_cons (pe_lst (pa_cons pe_str (pa_cons pe_str (pa_cons pe_str pa_nil)))) (pa_cons (pe_lst (pa_cons pe_str (pa_cons pe_str pa_nil))) (pa_cons (pe_lst (pa_cons pe_str (pa_cons pe_str pa_nil))) pa_nil))))))))
      (pss_cons (ps_set (i := 4) scx_law_tree.nd rfl (.inl rfl) (by exact (pe_disp (pps_cons pe_str pe_str (pps_cons pe_str pe_str (pps_cons pe_str pe_str (pps_cons pe_str pe_str (pps_cons pe_str pe_str (pps_cons pe_str pe_str (pps_cons pe_str pe_str (pps_cons pe_str pe_str (pps_cons pe_str pe_str pps_nil))))))))) rfl rfl (by simp) (by decide))))
      (pss_cons (ps_if (pt_cmpR op_eq (pv 2) pe_int (nomark _))
      (pss_one (ps_ret (pe_ix ix_seq (pv 0) pe_int (fun _ _ => rfl))))
      pss_nil)
      (pss_cons (ps_asg (pe_call (ok_law_group T) (hr.mono (by first | decide | omega)) (by rfl) T.m_law_group T.F_law_group.kp T.b_law_group .nil pass0 (pa_cons (pv 0) (pa_cons (pv 1) (pa_cons (pe_ix ix_seq (pv 3) (pv 2) (fun _ _ => rfl)) pa_nil)))) (pg_lst rfl (pgs_cons (pg_name (i := 5) scx_law_tree.nd rfl (.inl rfl)) (pgs_cons (pg_name (i := 6) scx_law_tree.nd rfl (.inl rfl)) pgs_nil))))
      (pss_cons (ps_setLc (i := 7) (own := [("group", 10)]) (g := gName 10) (tt := tYes) (by rfl) scx_law_tree.nd rfl rfl (sw_true rfl rfl rfl (by decide +kernel)) (pi_list (pv 5)) (blkOk_by (own := [("group", 10)]) (N := ["parts", "signs", "level", "levels", "heads", "groups", "found", "trees", "tree", "k", "group"]) (sc := defScope s_law_tree) (by decide +kernel))
      (fun _ _ _ _ _ => pg_name (i := 10) scx_law_tree.nd rfl (Or.inl rfl)) (fun _ _ _ _ _ => pts_nil) (fun _ _ _ _ _ => (pe_call hR (hr.mono (by first | decide | omega)) (by rfl) T.m_law_tree T.F_law_tree.kp T.b_law_tree .nil pass0 (pa_cons (pe_ix (show IxR _ (rIx K) from ix_seq) (pv 10) pe_int (fun _ _ => rfl)) (pa_cons (pe_ix (show IxR _ (rIx K) from ix_seq) (pv 10) pe_int (fun _ _ => rfl)) (pa_cons (pe_op op_plus (pv 2) pe_int) pa_nil))))))
      (pss_cons (ps_set (i := 8) scx_law_tree.nd rfl (.inl rfl) (by exact (pe_ix ix_seq (pv 7) pe_int (fun _ _ => rfl))))
      (pss_cons (ps_for PassesOwn.never rfl (pi_range1 (by rfl) T.n_range (pa_cons (pe_callB call_len (by rfl) T.n_len bt_len (pa_cons (pv 6) pa_nil)) pa_nil)) (pg_name (i := 9) scx_law_tree.nd rfl (.inl rfl))
      (pss_one (ps_set (i := 8) scx_law_tree.nd rfl (.inl rfl) (by exact (pe_tup (pa_cons (pe_dget (hu_of1 hr) (pv 4) (pe_ix ix_seq (pe_ix ix_seq (pv 6) (pv 9) (fun _ _ => rfl)) pe_int (fun _ _ => rfl)) (fun _ _ => rfl)) (pa_cons (pv 8) (pa_cons (pe_ix ix_seq (pv 7) (pe_op op_plus (pv 9) pe_int) (fun _ _ => rfl)) (pa_cons (pe_ix ix_seq (pe_ix ix_seq (pv 6) (pv 9) (fun _ _ => rfl)) pe_int (fun _ _ => rfl)) pa_nil)))))))))
      (pss_one (ps_ret (pv 8)))))))))), ?_⟩
    refine ⟨by show 1 ≤ sizeLine; decide, fun a1 m1 => ⟨by show 1 ≤ sizeLine; decide, fun a2 m2 => ⟨by show 3 ≤ sizeLine; decide, fun a3 m3 => ⟨by show 2 ≤ sizeLine; decide, fun a4 m4 => ⟨by show 2 ≤ sizeLine; decide, fun a5 m5 => ⟨by show 5 ≤ sizeLine; decide, fun lv m6 => ?_⟩⟩⟩⟩⟩⟩
    intro hp m7
    refine ⟨upd_same, headsD, rfl, by decide, ?_⟩
    have t1 : Same H (upd H a1 (.lst [.str "or"])) := same_upd m1
    generalize hU1 : upd H a1 (.lst [.str "or"]) = U1 at *
    have b1 : U1 a1 = some (.lst [.str "or"]) := by subst hU1; exact upd_same
    have t2 : Same U1 (upd U1 a2 (.lst [.str "and"])) := same_upd m2
    generalize hU2 : upd U1 a2 (.lst [.str "and"]) = U2 at *
    have b2 : U2 a2 = some (.lst [.str "and"]) := by subst hU2; exact upd_same
    have t3 : Same U2 (upd U2 a3 (.lst [.str "<", .str "<=", .str "=="])) := same_upd m3
    generalize hU3 : upd U2 a3 (.lst [.str "<", .str "<=", .str "=="]) = U3 at *
    have b3 : U3 a3 = some (.lst [.str "<", .str "<=", .str "=="]) := by subst hU3; exact upd_same
    have t4 : Same U3 (upd U3 a4 (.lst [.str "+", .str "-"])) := same_upd m4
    generalize hU4 : upd U3 a4 (.lst [.str "+", .str "-"]) = U4 at *
    have b4 : U4 a4 = some (.lst [.str "+", .str "-"]) := by subst hU4; exact upd_same
    have t5 : Same U4 (upd U4 a5 (.lst [.str "*", .str "/"])) := same_upd m5
    generalize hU5 : upd U4 a5 (.lst [.str "*", .str "/"]) = U5 at *
    have b5 : U5 a5 = some (.lst [.str "*", .str "/"]) := by subst hU5; exact upd_same
    have t6 : Same U5 (upd U5 lv (.lst [.ref a1, .ref a2, .ref a3, .ref a4, .ref a5])) := same_upd m6
    generalize hU6 : upd U5 lv (.lst [.ref a1, .ref a2, .ref a3, .ref a4, .ref a5]) = U6 at *
    have b6 : U6 lv = some (.lst [.ref a1, .ref a2, .ref a3, .ref a4, .ref a5]) := by subst hU6; exact upd_same
    have t7 : Same U6 (upd (upd U6 hp (.dK [])) hp (.dK (mergeK [] headsD))) := fun b o e => by
      rw [upd_ne (ne_of_none e m7), upd_ne (ne_of_none e m7)]
      exact e
    generalize hG : upd (upd U6 hp (.dK [])) hp (.dK (mergeK [] headsD)) = G at *
    have b7 : G hp = some (.dK (mergeK [] headsD)) := by subst hG; exact upd_same
    have t06 : Same H U6 := ((((t1.trans t2).trans t3).trans t4).trans t5).trans t6
    have t0 : Same H G := t06.trans t7
    obtain ⟨vs, ss, hpa, hvs, hsa, hss⟩ := hSq
    refine ⟨_, rfl, rfl, ?_⟩
    rw [dec_int]
    refine ⟨_, rfl, ite2 (fun hc => ?_) (fun hc => ?_)⟩
    · have e5 : l = 5 := by
        have : (l : Int) = 5 := eq_of_beq hc
        omega
      obtain ⟨v0, hv0, hd0⟩ := dps_get (j := 0) hvs rfl
      have hdn : noL d = true := by
        have h' : (noL d && noLs (L.map It.d)) = true := hnd
        rw [Bool.and_eq_true] at h'
        exact h'.1
      refine ⟨_, rfl, .inl ⟨pa, vs, _, v0, rfl, rfl, SqL.of (t0 _ _ hpa), at_eq (n := 0) rfl hv0, ?_⟩⟩
      subst e5
      exact q _ _ t0 (dp_keep (sqt_same t0) _ _ hdn hd0)
    have hl5 : l < 5 := by
      have : ¬ (l : Int) = 5 := fun h => hc (beq_iff_eq.mpr h)
      omega
    have hlvs : A2 (fun v ws => ∃ a, v = .ref a ∧ SqL K G a (ws.map V.str)) [.ref a1, .ref a2, .ref a3, .ref a4, .ref a5] lvAll :=
      .cons ⟨a1, rfl, SqL.of (t7 _ _ (t6 _ _ (t5 _ _ (t4 _ _ (t3 _ _ (t2 _ _ b1))))))⟩ (.cons ⟨a2, rfl, SqL.of (t7 _ _ (t6 _ _ (t5 _ _ (t4 _ _ (t3 _ _ b2)))))⟩ (.cons ⟨a3, rfl, SqL.of (t7 _ _ (t6 _ _ (t5 _ _ (t4 _ _ b3))))⟩
        (.cons ⟨a4, rfl, SqL.of (t7 _ _ (t6 _ _ (t5 _ _ b4)))⟩ (.cons ⟨a5, rfl, SqL.of (t7 _ _ (t6 _ _ b5))⟩ .nil))))
    have hl5' : l < lvAll.length := hl5
    obtain ⟨wv, hwv, wa, rfl, hwa⟩ := hlvs.get (k := l) (List.getElem?_eq_getElem hl5')
    have edrop : lvAll.drop l = lvAll[l] :: lvAll.drop (l + 1) := List.drop_eq_getElem_cons hl5'
    rw [edrop] at q
    generalize lvAll[l] = ws at hwa q
    refine ⟨_, rfl, _, rfl, _, rfl, _, rfl, .inl ⟨lv, _, _, .ref wa, rfl, rfl, SqL.of (t7 _ _ b6), atI_nat hwv, pa, sa, wa, d, L, ws, rfl, Sq.same t0 hnd ⟨vs, ss, hpa, hvs, hsa, hss⟩, hnd, hwa, hL, fun H2 out ga fa gvs fvs s2 hout hga hgr hfa hfn => ?_⟩⟩
    refine ⟨out, _, rfl, SqL.of hout, rfl, _, _, rfl, _, _, rfl, rfl, ?_⟩
    have hgn := gst_nd ws L d hnd
    have hgsub := gst_sub ws L d
    have hgm := gst_mem ws d L
    have hglen := gst_len ws d L
    have hgl : gvs.length = (gst ws d L).length := hgr.len
    -- the trees
    refine ⟨_, rfl, ga, rfl, ⟨_, SqL.of hga⟩, fun D nD => ?_⟩
    have hD : Same H2 (hide D D (upd H2 D (.lst []))) := by
      rw [hide_g]
      exact hide_keep (Same.refl _) nD nD
    refine lc_list (xs := gvs) (fun i H' => ∃ acc, Same H2 (hide D D H') ∧ H' D = some (.lst acc) ∧ DpAll K (hide D D H') acc (((gst ws d L).take i).map fun p => treeM (lvAll.drop (l + 1)) p.1 p.2))
      ⟨[], hD, upd_same, .nil⟩ (fun i H' _ hP => ?_) (fun i x H' hx hP => ?_) (fun H' hP => ?_)
    · obtain ⟨acc, s3, _, _⟩ := hP
      exact SqL.of ((s3.trans (hide_same _ _ _)) _ _ hga)
    · obtain ⟨acc, s3, hacc, hdp⟩ := hP
      have s3' : Same H2 H' := s3.trans (hide_same _ _ _)
      have hi : i < gvs.length := (List.getElem?_eq_some_iff.mp hx).1
      obtain ⟨p, hp⟩ : ∃ p, (gst ws d L)[i]? = some p := ⟨_, List.getElem?_eq_getElem (by omega)⟩
      obtain ⟨x', hx', a, lpa, lsa, rfl, ha, hsq⟩ := hgr.get hp
      rw [hx] at hx'
      cases hx'
      have hpm := List.mem_of_getElem? hp
      refine ⟨rfl, ?_⟩
      refine ⟨_, rfl, .inl ⟨a, _, _, .ref lpa, rfl, rfl, SqL.of (s3' _ _ ha), rfl, _, rfl, .inl ⟨a, _, _, .ref lsa, rfl, rfl, SqL.of (s3' _ _ ha), rfl, _, rfl, .inl ⟨_, _, rfl, rfl, hl5, lpa, lsa, p.1, p.2, rfl, Sq.same s3' (hgn p hpm) hsq, hgn p hpm, ?_, ?_, ?_⟩⟩⟩⟩
      · exact Nat.le_trans (hgsub p hpm) hL
      · exact fun t ht => hop t (hgm p hpm t ht)
      · intro H4 v4 s4 hd4
        have haccl : acc.length ≤ 1001 := by
          rw [dps_len hdp, List.length_map, List.length_take]
          omega
        refine ⟨acc, s4 _ _ hacc, len_ok (by omega), acc ++ [v4], ?_, upd_same, ?_⟩
        · rw [hide_g]
          exact s3.trans (hide_mono s4)
        · rw [hide_g, List.take_succ, hp]
          show DpAll K _ _ (List.map _ (_ ++ [p]))
          rw [List.map_append]
          refine dps_append (dps_keep (sqt_same (hide_mono s4)) _ _ (noLs_map fun u hu => treeM_noL _ _ _ (hgn u (List.mem_of_mem_take hu))) hdp) (.cons ?_ .nil)
          exact dp_keep (sqt_hide (s4 _ _ hacc) (s4 _ _ hacc)) _ _ (treeM_noL _ _ _ (hgn p hpm)) hd4
    · obtain ⟨acc, s3, hacc, hdp⟩ := hP
      have s3' : Same H2 H' := s3.trans (hide_same _ _ _)
      have shH := hide_same D D H'
      rw [List.take_of_length_le (by omega)] at hdp
      have hhead : (gst ws d L)[0]? = some (d, (dec ws L).1) := rfl
      obtain ⟨v0, hv0, hd0⟩ := dps_get (j := 0) (d := treeM (lvAll.drop (l + 1)) d (dec ws L).1) hdp (by rw [List.getElem?_map, hhead]; rfl)
      have hn0 : noL (treeM (lvAll.drop (l + 1)) d (dec ws L).1) = true := treeM_noL _ _ _ (hgn _ (List.mem_of_getElem? hhead))
      refine ⟨_, rfl, .inl ⟨D, acc, _, v0, rfl, rfl, SqL.of hacc, at_eq (n := 0) rfl hv0, ?_⟩⟩
      have hfl : fvs.length = (dec ws L).2.length := by
        rw [hfn.len, List.length_map]
        unfold fnd
        rw [List.length_map]
      have hfl2 : fvs.length ≤ 1000 := by
        rw [hfn.len, List.length_map]
        omega
      refine ⟨_, rfl, _, fvs.length, rfl, .inl ⟨_, SqL.of (s3' _ _ hfa), rfl⟩, _, rfl, by omega, by omega, ?_⟩
      rw [show ((fvs.length : Int)).toNat = fvs.length from Int.toNat_natCast _]
      refine for_range (lo := 0) (n := fvs.length) (fun i σ H3 => ∃ (v : V) (y9 : Option V), σ = [some (.ref pa), some (.ref sa), some (.int (l : Int)), some (.ref lv), some (.ref hp), some (.ref ga), some (.ref fa), some (.ref D), some v, y9, none] ∧ Same H' H3 ∧
        Dp K H3 v (((dec ws L).2.take i).foldl (fun e p => node (opName p.1.s) e (treeM (lvAll.drop (l + 1)) p.1.d p.2) p.1.i) (treeM (lvAll.drop (l + 1)) d (dec ws L).1))) ⟨v0, none, rfl, Same.refl _, dp_keep (sqt_same shH) _ _ hn0 hd0⟩ ?_ ?_
      · rintro i σ H3 hi ⟨v, y9, rfl, s5, hdv⟩
        obtain ⟨p, hpi⟩ : ∃ p, (dec ws L).2[i]? = some p := ⟨_, List.getElem?_eq_getElem (by omega)⟩
        have hpm := List.mem_of_getElem? hpi
        obtain ⟨x, hx, a, rfl, ha⟩ := hfn.get (k := i) (y := (p.1.s, p.1.i)) (by unfold fnd; rw [List.getElem?_map, List.getElem?_map, hpi]; rfl)
        have hgi : (gst ws d L)[i + 1]? = some (p.1.d, p.2) := by
          unfold gst
          rw [List.getElem?_cons_succ, List.getElem?_map, hpi]
          rfl
        obtain ⟨tv, htv, hdt⟩ := dps_get (j := i + 1) (d := treeM (lvAll.drop (l + 1)) p.1.d p.2) hdp (by rw [List.getElem?_map, hgi]; rfl)
        have s25 : Same H2 H3 := s3'.trans s5
        have hgs5 : H3 hp = some (.dK (mergeK [] headsD)) := s25 _ _ (s2 _ _ b7)
        have hopp := hop p.1 (fnd_mem ws L p hpm)
        have k0 : (0 : Int) + (i : Int) = ((i : Nat) : Int) := by omega
        refine ⟨_, rfl, _, rfl, _, rfl, .inl ⟨fa, fvs, _, .ref a, rfl, rfl, SqL.of (s25 _ _ hfa), at_eq k0 hx, .inl ⟨a, _, _, .str p.1.s, rfl, rfl, SqL.of (s25 _ _ ha), rfl, hp, .str (opName p.1.s), rfl, .inl ⟨_, .inr p.1.s, .inl hgs5, rfl, heads_get _ hopp⟩, ?_⟩⟩⟩
        refine ⟨_, rfl, _, rfl, _, rfl, .inl ⟨_, _, rfl, rfl, .inl ⟨D, acc, _, tv, rfl, rfl, SqL.of (s5 _ _ hacc), at_eq (n := i + 1) (by omega) htv, ?_⟩⟩⟩
        refine ⟨_, rfl, _, rfl, .inl ⟨fa, fvs, _, .ref a, rfl, rfl, SqL.of (s25 _ _ hfa), at_eq k0 hx, .inl ⟨a, _, _, .int (p.1.i : Int), rfl, rfl, SqL.of (s25 _ _ ha), rfl, by show 4 ≤ sizeLine; decide, fun t nt => ?_⟩⟩⟩
        have st := same_upd (o := .tup [.str (opName p.1.s), v, tv, .int (p.1.i : Int)]) nt
        refine ⟨_, _, rfl, s5.trans st, ?_⟩
        rw [List.take_succ, hpi]
        show Dp K _ _ (List.foldl _ _ (_ ++ [p]))
        rw [List.foldl_append]
        have hnt := treeM_noL (lvAll.drop (l + 1)) p.1.d p.2 (hgn _ (List.mem_of_getElem? hgi))
        have hnv := fold_noL (lv := lvAll.drop (l + 1)) (fun d L h => treeM_noL _ d L h) ((dec ws L).2.take i) _ (fun u hu => hgn (u.1.d, u.2) (by unfold gst; exact List.mem_cons_of_mem _ (List.mem_map.mpr ⟨u, List.mem_of_mem_take hu, rfl⟩))) hn0
        exact .tup (SqT.of upd_same) (.cons (.str _) (.cons (dp_same st hnv hdv) (.cons (dp_same st hnt (dp_same (shH.trans s5) hnt hdt)) (.cons (.int _) .nil))))
      · rintro σ H3 ⟨v, y9, rfl, s5, hdv⟩
        rw [List.take_of_length_le (by omega)] at hdv
        exact ⟨_, rfl, q _ _ (((t0.trans s2).trans s3').trans s5) hdv⟩
theorem ok_tree (T : Top w K mg) : ∀ n l, l + n = 5 → FnOk P w K mg base CX0 (n + 2) T.a_law_tree T.fd_law_tree ["parts", "signs", "level"] (sp_tree K l)
  | 0, l, h => ok_tree_step T (by omega) (Nat.le_refl 1) ⟨fun vs H Q E h => absurd h.1 (by omega), fun A outer s H args us vs Q E _ _ _ _ h => absurd h.1 (by omega)⟩
  | n + 1, l, h => ok_tree_step T (by omega) (by omega) (by
    have ih := ok_tree T n (l + 1) (by omega)
    exact ⟨fun vs H Q E h => ih.len _ _ _ _ h.2, fun A outer s H args us vs Q E r e b v h => ih.run A outer s H args us vs Q E r e b v h.2⟩)
end
end Tk

namespace Tk
open PySem PySem.Spec PyProof.Rows L2 Ly Lx TL Px Lw
/-! ### the law -/
theorem lawT_of {P : Program} {w : World} {K : PySem.W.Frag} {mg : Str → Option Value} {base : Heap} {x qual : Str} {st : Stmt} {f : Addr} {fd : FuncData} {N : List Str} {k : Nat} {sp : Sp} (F : Fun K x qual st f fd) {y : Str} (S : FnScope N [y] (defScope st)) (hb : Binds K fd [y] []) (hr : RoomT (k + 1) callerA)
    (len : ∀ vs H Q E, sp vs H Q E → vs.length = [y].length)
    (body : ∀ (cdv : Value) (s : Shared) (H : Hp) (vs : List V) (Q : VK) (E : XK),
      RoomT k (callerA.deeper (envOfC qual (defScope st) s.heap.objs.size f cdv)) → sp vs H Q E →
      ∃ t, PSs (cxOf (L2N.CX P w) P w K mg base N qual (defScope st) f cdv callerA [] s H E) (defBody st) t ∧
        t { nx := fun _ H' => Q .non H', rt := Q } (start N vs) H) : LawOk P w K mg base f sp := by
  obtain ⟨oc, od, kV, doc, pm, an, cdv, ct, osl, rfl, lk, hcd⟩ := F.ex
  refine ⟨fun s H a Q E e0 h => ?_⟩
  have KX : K.In s.heap := e0.mod.kin.keeps fun b o e => (e0.bs b o e).1
  have lim : s.heap.NoLimit := e0.mod.nolimit.keeps fun b o e => (e0.bs b o e).1
  have bnd := hb s [.ref a] KX rfl
  have kinds : ∀ z ∈ [y].zip ([Value.ref a] ++ []), (defScope st).names.lookup z.1 = some .local ∨
      ((defScope st).names.lookup z.1 = some .cell ∧ ((cellsFrom (s.heap.objs.size + 1) (defScope st).names []).lookup z.1).isSome = true) := by
    intro z hz
    have : z = (y, Value.ref a) := by simpa using hz
    subst this
    rcases S.par y (by simp) with q | q
    · exact .inl q
    · exact .inr ⟨q, PySem.W.cellsFrom_some _ _ _ (.inl q)⟩
  refine codeAny_call_function hr.depth (KX _ _ lk) rfl S.co S.gen rfl (PySem.W.codeRec_of KX hcd) (bnd _ _ _ _ ?_)
  refine wpAny_newFunctionEnv_cells S.kind kinds fun env he s1 z => ?_
  subst he
  refine ⟨lim.keeps z.toInCall.keep, codeAny_func ?_⟩
  obtain ⟨t, ht, hq⟩ := body cdv s H [.ref a] Q E (hr.deeper _) h
  have I := inv_start (CX := L2N.CX P w) (cd := cdv) (qual := qual) (f := f) (E := E) S hr.hd e0 (vs := [.ref a]) (us := [.ref a]) rfl (.cons rfl .nil) z
  refine wpAny_mono (ht.run [] s1 _ H _ I hq) (fun fl s' hs => ?_) fun e s' hs => hs
  cases fl with
  | next =>
    obtain ⟨σ', H', J, q⟩ := hs
    exact ⟨.non, H', J.os, J.bare, J.base, J.hok, rfl, q⟩
  | ret u =>
    obtain ⟨v, σ', H', J, rv, q⟩ := hs
    exact ⟨v, H', J.os, J.bare, J.base, J.hok, rv, q⟩
  | brk =>
    obtain ⟨_, _, _, q⟩ := hs
    exact q.elim
  | cont =>
    obtain ⟨_, _, _, q⟩ := hs
    exact q.elim
def cmpF : Bool → List Nat → Bool
  | b, [] => b
  | b, c :: cs => cmpF (nextC b (sgOf b c)) cs
def itemK (off : Nat) (b : Bool) (c : Nat) : Px.It := ⟨sgOf b c, off + (sepK c).length, Px.opD c (off + (sepK c).length + (sgOf b c).length + 1), opT c (off + (sepK c).length + (sgOf b c).length + 1)⟩
theorem cmpF_snoc : ∀ (cs : List Nat) (b : Bool) (c : Nat), cmpF b (cs ++ [c]) = nextC (cmpF b cs) (sgOf (cmpF b cs) c)
  | [], _, _ => rfl
  | d :: cs, b, c => cmpF_snoc cs _ c
theorem txR_snoc : ∀ (cs : List Nat) (b : Bool) (c : Nat), txR b (cs ++ [c]) = txR b cs ++ (tl (sepK c) ++ (tl (sgOf (cmpF b cs) c) ++ (32 :: opL c)))
  | [], b, c => by
    show tl (sepK c) ++ (tl (sgOf b c) ++ (32 :: (opL c ++ []))) = _
    rw [List.append_nil]
    rfl
  | d :: cs, b, c => by
    show tl (sepK d) ++ (tl (sgOf b d) ++ (32 :: (opL d ++ txR (nextC b (sgOf b d)) (cs ++ [c])))) = _
    rw [txR_snoc cs]
    simp [txR, cmpF]
theorem its_snoc : ∀ (cs : List Nat) (off : Nat) (b : Bool) (c : Nat), its off b (cs ++ [c]) = its off b cs ++ [itemK (off + (txR b cs).length) (cmpF b cs) c]
  | [], off, b, c => by
    show [_] = [_]
    simp [itemK, txR, cmpF]
  | d :: cs, off, b, c => by
    have e : its off b (d :: cs) = itemK off b d :: its (off + (sepK d).length + (sgOf b d).length + 1 + (opL d).length) (nextC b (sgOf b d)) cs := rfl
    have e2 : its off b ((d :: cs) ++ [c]) = itemK off b d :: its (off + (sepK d).length + (sgOf b d).length + 1 + (opL d).length) (nextC b (sgOf b d)) (cs ++ [c]) := rfl
    rw [e, e2, its_snoc cs]
    have e3 : off + (txR b (d :: cs)).length = off + (sepK d).length + (sgOf b d).length + 1 + (opL d).length + (txR (nextC b (sgOf b d)) cs).length := by
      show off + (tl (sepK d) ++ (tl (sgOf b d) ++ (32 :: (opL d ++ txR (nextC b (sgOf b d)) cs)))).length = _
      rw [List.length_append, List.length_append, List.length_cons, List.length_append, ← len_tl, ← len_tl]
      omega
    rw [e3]
    rfl
theorem opL_len (c : Nat) : 1 ≤ (opL c).length ∧ (opL c).length ≤ 6 := by
  unfold opL
  split
  · have h1 := numL_len (k := 3) (by decide) (n := opVal c) (opVal_lt c)
    have h2 := List.length_pos_iff.mpr (numL_ne (opVal c))
    omega
  · split
    · decide
    · split <;> decide
theorem sep_len (c : Nat) : (sepK c).length ≤ 2 := by
  unfold sepK
  split <;> decide
theorem sg_len (b : Bool) (c : Nat) : (sgOf b c).length ≤ 3 := by
  have h := sgOf_mem b c
  have h2 : ∀ s ∈ (["or", "and", "<", "<=", "==", "+", "-", "*", "/"] : List Str), s.length ≤ 3 := by decide
  exact h2 _ h
theorem txR_len : ∀ (cs : List Nat) (b : Bool), (txR b cs).length ≤ 12 * cs.length
  | [], _ => Nat.le_refl _
  | c :: cs, b => by
    show (tl (sepK c) ++ (tl (sgOf b c) ++ (32 :: (opL c ++ txR (nextC b (sgOf b c)) cs)))).length ≤ _
    rw [List.length_append, List.length_append, List.length_cons, List.length_append, ← len_tl, ← len_tl, List.length_cons]
    have h1 := opL_len c
    have h2 := sep_len c
    have h3 := sg_len b c
    have h4 := txR_len cs (nextC b (sgOf b c))
    omega
theorem txt2_len (c : Nat) (cs : List Nat) : (txt2 c cs).length ≤ 11 + 12 * cs.length := by
  unfold txt2
  rw [List.length_append, List.length_append]
  have h1 := opL_len c
  have h4 := txR_len cs false
  show 5 + _ ≤ _
  omega
theorem opD_noL (c i : Nat) : noL (Px.opD c i) = true := by
  unfold Px.opD
  split
  · rfl
  · split
    · rfl
    · split <;> rfl
def cellK (ns : List Int) (k : Nat) : Nat := (ns.getD k 0).natAbs
def cellsK (ns : List Int) (n : Nat) : List Nat := (List.range n).map fun j => cellK ns (j + 1)
theorem cellsK_succ (ns : List Int) (n : Nat) : cellsK ns (n + 1) = cellsK ns n ++ [cellK ns (n + 1)] := by
  unfold cellsK
  rw [List.range_succ, List.map_append]
  rfl
theorem cellsK_len (ns : List Int) (n : Nat) : (cellsK ns n).length = n := by simp [cellsK]
theorem abs_nat (v : Int) : (if v < 0 then -v else v) = (v.natAbs : Int) := by
  split <;> omega
theorem mk_app (a b : List Nat) : mk a ++ mk b = mk (a ++ b) := ext_tl (tl_append _ _)
theorem menu_at {l : List Str} {z : Int} {n k : Nat} (hk : l.length = k) (h0 : 0 < k) (e : z = ((n % k : Nat) : Int)) : atI (l.map V.str) z = some (.str (l.getD (n % k) "")) := by
  have hlt : n % k < l.length := by
    rw [hk]
    exact Nat.mod_lt _ h0
  refine at_eq e ?_
  rw [List.getElem?_map, List.getD_eq_getElem?_getD, List.getElem?_eq_getElem hlt]
  rfl
theorem seq_join {A B : TS} {D : Ends} {σ : L2.St} {H : Hp} (J : L2.St → Hp → Prop) (h : ∀ σ H, J σ H → B D σ H) (k : (∀ σ H, J σ H → B D σ H) → tSeq A B D σ H) : tSeq A B D σ H := k h
theorem seq_joinI {c : TT} {t u : TS} {B : TS} {D : Ends} {σ : L2.St} {H : Hp} (J : L2.St → Hp → Prop) (h : ∀ σ H, J σ H → B D σ H) (k : (∀ σ H, J σ H → B D σ H) → tSeq (tIfS c t u) B D σ H) : tSeq (tIfS c t u) B D σ H := k h
theorem seq_joinA {t : TE} {g : TG} {B : TS} {D : Ends} {σ : L2.St} {H : Hp} (J : L2.St → Hp → Prop) (h : ∀ σ H, J σ H → B D σ H) (k : (∀ σ H, J σ H → B D σ H) → tSeq (tAsg t g) B D σ H) : tSeq (tAsg t g) B D σ H := k h
theorem seq_const {v : V} {i : Nat} {B : TS} {D : Ends} {σ : L2.St} {H : Hp} (h : B D (σ.set i (some v)) H) : tSeq (tAsg (tC v) (gName i)) B D σ H := h
def selD (m c i : Nat) : PyData := if 1 ≤ opPick c ∧ opPick c ≤ m then Px.opD c i else varD "x" i
def selT (m c : Nat) : List Nat := if 1 ≤ opPick c ∧ opPick c ≤ m then opL c else tl ("x" : Str)
theorem sel_yes {m c : Nat} (i : Nat) (h1 : 1 ≤ m) (h : opPick c = m) : selD m c i = Px.opD c i ∧ selT m c = opL c := by
  unfold selD selT
  rw [if_pos (by omega), if_pos (by omega)]
  exact ⟨rfl, rfl⟩
theorem sel_no {m c : Nat} (i : Nat) (h : opPick c ≠ m + 1) : selD (m + 1) c i = selD m c i ∧ selT (m + 1) c = selT m c := by
  unfold selD selT
  by_cases hc : 1 ≤ opPick c ∧ opPick c ≤ m
  · rw [if_pos (by omega), if_pos hc, if_pos (by omega), if_pos hc]
    exact ⟨rfl, rfl⟩
  · rw [if_neg (by omega), if_neg hc, if_neg (by omega), if_neg hc]
    exact ⟨rfl, rfl⟩
theorem sel_end (c i : Nat) : selD 3 c i = Px.opD c i ∧ selT 3 c = opL c := by
  have h4 : opPick c < 4 := Nat.mod_lt _ (by decide)
  unfold selD selT
  by_cases hc : 1 ≤ opPick c
  · rw [if_pos (by omega), if_pos (by omega)]
    exact ⟨rfl, rfl⟩
  · rw [if_neg (by omega), if_neg (by omega)]
    unfold Px.opD opL
    rw [if_neg (by omega), if_neg (by omega), if_neg (by omega), if_neg (by omega), if_neg (by omega), if_neg (by omega)]
    exact ⟨rfl, rfl⟩
/-- the law's lists: the parts, the signs -/
structure LH (K : PySem.W.Frag) (P S : Addr) (H H' : Hp) (vs ss : List V) (ds : List PyData) (gs : List (Str × Nat)) : Prop where
  s : Same H (hide P S H')
  hP : H' P = some (.lst vs)
  hS : H' S = some (.lst ss)
  dp : DpAll K (hide P S H') vs ds
  sg : A2 (SgL (hide P S H')) ss gs
  no : noLs ds = true
section
variable {K : PySem.W.Frag} {P S : Addr} {H H' : Hp} {vs ss : List V} {ds : List PyData} {gs : List (Str × Nat)}
theorem LH.sH (h : LH K P S H H' vs ss ds gs) : Same H H' := h.s.trans (hide_same _ _ _)
theorem LH.new {p : Addr} {o : HO} (h : LH K P S H H' vs ss ds gs) (n : H' p = none) : LH K P S H (upd H' p o) vs ss ds gs :=
  ⟨h.s.trans (hide_step n), same_upd n _ _ h.hP, same_upd n _ _ h.hS, dps_keep (sqt_same (hide_step n)) _ _ h.no h.dp, h.sg.mono (SgL.same (hide_step n)), h.no⟩
theorem LH.part (h : LH K P S H H' vs ss ds gs) (hne : P ≠ S) {v : V} {d : PyData} (hd : Dp K (hide P S H') v d) (hn : noL d = true) : LH K P S H (upd H' P (.lst (vs ++ [v]))) (vs ++ [v]) ss (ds ++ [d]) gs := by
  refine ⟨by rw [hide_g]; exact h.s, upd_same, by rw [upd_ne hne.symm]; exact h.hS, ?_, by rw [hide_g]; exact h.sg, noLs_append h.no (noLs_one hn)⟩
  rw [hide_g]
  exact dps_append h.dp (.cons hd .nil)
theorem LH.sign (h : LH K P S H H' vs ss ds gs) (hne : P ≠ S) {v : V} {g : Str × Nat} (hg : SgL (hide P S H') v g) : LH K P S H (upd H' S (.lst (ss ++ [v]))) vs (ss ++ [v]) ds (gs ++ [g]) := by
  refine ⟨by rw [hide_f]; exact h.s, by rw [upd_ne hne]; exact h.hP, upd_same, by rw [hide_f]; exact h.dp, ?_, h.no⟩
  rw [hide_f]
  exact h.sg.append (.cons hg .nil)
end
def sp_law (K : PySem.W.Frag) : Sp := fun vs H Q _ => ∃ (a : Addr) (ns : List Int), vs = [.ref a] ∧ SqL K H a (ns.map V.int) ∧ ns.length ≤ 63 ∧ ∀ H', Q (.bl true) H'
section
variable {P : Program} {w : World} {K : PySem.W.Frag} {mg : Str → Option Value} {base : Heap}
theorem ok_law (T : Top w K mg) : LawOk P w K mg base T.a_law (sp_law K) := by
  refine lawT_of (k := 400) T.F_law (y := "script") sc_law T.b_law ⟨rfl, by decide, by decide⟩ (fun vs H Q E h => ?_) (fun cdv s H vs Q E hr h => ?_)
  · obtain ⟨a, ns, rfl, _⟩ := h
    rfl
  · obtain ⟨a, ns, rfl, hS, hlen, q⟩ := h
    refine ⟨_, (pss_cons (ps_set (i := 1) sc_law.nd rfl (.inl rfl) (by exact pe_str))
      (pss_cons (ps_set (i := 2) sc_law.nd rfl (.inl rfl) (by exact (pe_lst pa_nil)))
      (pss_cons (ps_set (i := 3) sc_law.nd rfl (.inl rfl) (by exact (pe_lst pa_nil)))
      (pss_cons (ps_set (i := 4) sc_law.nd rfl (.inl rfl) (by exact pe_bl))
      (pss_cons (ps_for (passes_of rfl) rfl (pi_range1 (by rfl) T.n_range (pa_cons (pe_op op_plus pe_int (pe_callB (call_min2 rfl) (by rfl) T.n_min bt_min (pa_cons (pe_callB call_len (by rfl) T.n_len bt_len (pa_cons (pv 0) pa_nil)) (pa_cons pe_int pa_nil)))) pa_nil)) (pg_name (i := 5) sc_law.nd rfl (.inl rfl))
      (pss_cons (ps_set (i := 6) sc_law.nd rfl (.inl rfl) (by exact (pe_callB call_abs (by rfl) T.n_abs bt_abs (pa_cons (pe_callT (FnT.of0 (ok_law_cell T)) (hr.mono (by first | decide | omega)) (by rfl) T.m_law_cell T.F_law_cell.kp T.b_law_cell (fun σ => L2N.passAt (L2N.takes_of rfl rfl rfl rfl) σ) (by exact (pa_cons (pv 0) (pa_cons (pv 5) pa_nil)))) pa_nil))))
      (pss_cons (ps_if (pt_cmpR op_gt (pv 5) pe_int (nomark _))
      (pss_cons (ps_set (i := 7) sc_law.nd rfl (.inl rfl) (by exact (pe_ix ix_seq (pe_lst (pa_cons pe_str (pa_cons pe_str (pa_cons pe_str (pa_cons pe_str (pa_cons pe_str (pa_cons pe_str (pa_cons pe_str (pa_cons pe_str (pa_cons pe_str (pa_cons pe_str pa_nil))))))))))) (pe_op op_mod (pe_callTy call_intX (by rfl) T.n_int bt_int (pa_cons (pv 6) pa_nil)) pe_int) (fun _ _ => rfl))))
      (pss_cons (ps_if (PW.pt (pw_and (pt_truth (pv 4) (by intro _; rfl)) (pw_and1 (pt_cmpR op_in_seq (pv 7) (pe_lst (pa_cons pe_str (pa_cons pe_str (pa_cons pe_str pa_nil)))) (by rfl)))))
      (pss_one (ps_set (i := 7) sc_law.nd rfl (.inl rfl) (by exact pe_str)))
      pss_nil)
      (pss_cons (ps_set (i := 4) sc_law.nd rfl (.inl rfl) (by exact (pe_or (pe_cmpR op_in_seq (pv 7) (pe_lst (pa_cons pe_str (pa_cons pe_str (pa_cons pe_str pa_nil)))) (by rfl)) (pe_one (pe_and (pv 4) (pe_one (pe_cmpR op_notIn_seq (pv 7) (pe_lst (pa_cons pe_str (pa_cons pe_str pa_nil))) (by rfl))))))))
      (pss_cons (ps_set (i := 1) sc_law.nd rfl (.inl rfl) (by exact (pe_op op_plus (pv 1) (pe_ix ix_seq (pe_lst (pa_cons pe_str (pa_cons pe_str pa_nil))) (pe_op op_mod (pe_callTy call_intX (by rfl) T.n_int bt_int (pa_cons (pe_op op_fdiv (pv 6) pe_int) pa_nil)) pe_int) (fun _ _ => rfl)))))
      (pss_cons (ps_expr (pe_bm PySem.F.plainAttrs_list PySem.F.slot_list_append PySem.F.type_list_append mt_append (pv 3) (pa_cons (pe_lst (pa_cons (pv 7) (pa_cons (pe_callB call_len (by rfl) T.n_len bt_len (pa_cons (pv 1) pa_nil)) pa_nil))) pa_nil)))
      (pss_one (ps_set (i := 1) sc_law.nd rfl (.inl rfl) (by exact (pe_op op_plus (pe_op op_plus (pv 1) (pv 7)) pe_str)))))))))
      pss_nil)
      (pss_cons (ps_set (i := 8) sc_law.nd rfl (.inl rfl) (by exact (pe_callB call_len (by rfl) T.n_len bt_len (pa_cons (pv 1) pa_nil))))
      (pss_cons (ps_set (i := 9) sc_law.nd rfl (.inl rfl) (by exact (pe_op op_mod (pe_callTy call_intX (by rfl) T.n_int bt_int (pa_cons (pe_op op_fdiv (pv 6) pe_int) pa_nil)) pe_int)))
      (pss_cons (ps_set (i := 10) sc_law.nd rfl (.inl rfl) (by exact (pe_tup (pa_cons pe_str (pa_cons pe_str (pa_cons (pv 8) pa_nil))))))
      (pss_cons (ps_set (i := 11) sc_law.nd rfl (.inl rfl) (by exact pe_str))
      (pss_cons (ps_if (pt_cmpR op_eq (pv 9) pe_int (nomark _))
      (pss_cons (ps_set (i := 11) sc_law.nd rfl (.inl rfl) (by exact (pe_callTy call_str_int (by rfl) T.n_str bt_str (pa_cons (pe_op op_mod (pe_callTy call_intX (by rfl) T.n_int bt_int (pa_cons (pe_op op_fdiv (pv 6) pe_int) pa_nil)) pe_int) pa_nil))))
      (pss_one (ps_set (i := 10) sc_law.nd rfl (.inl rfl) (by exact (pe_tup (pa_cons pe_str (pa_cons (pe_tup (pa_cons (pe_callTy call_intX (by rfl) T.n_int bt_int (pa_cons (pv 11) pa_nil)) (pa_cons pe_int pa_nil))) (pa_cons (pe_tup pa_nil) (pa_cons (pv 8) pa_nil)))))))))
      pss_nil)
      (pss_cons (ps_if (pt_cmpR op_eq (pv 9) pe_int (nomark _))
      (pss_cons (ps_set (i := 11) sc_law.nd rfl (.inl rfl) (by exact pe_str))
      (pss_one (ps_set (i := 10) sc_law.nd rfl (.inl rfl) (by exact (pe_tup (pa_cons pe_str (pa_cons pe_str (pa_cons (pe_tup (pa_cons (pe_tup (pa_cons pe_str (pa_cons pe_str (pa_cons (pe_op op_plus (pv 8) pe_int) pa_nil)))) pa_nil)) (pa_cons (pv 8) pa_nil)))))))))
      pss_nil)
      (pss_cons (ps_if (pt_cmpR op_eq (pv 9) pe_int (nomark _))
      (pss_cons (ps_set (i := 11) sc_law.nd rfl (.inl rfl) (by exact pe_str))
      (pss_one (ps_set (i := 10) sc_law.nd rfl (.inl rfl) (by exact (pe_tup (pa_cons pe_str (pa_cons (pe_tup (pa_cons pe_str (pa_cons (pe_tup (pa_cons pe_str (pa_cons pe_str (pa_cons (pv 8) pa_nil)))) (pa_cons pe_int (pa_cons (pe_op op_plus (pv 8) pe_int) pa_nil))))) (pa_cons (pe_op op_sub pe_int pe_int) (pa_cons (pe_op op_plus (pv 8) pe_int) pa_nil)))))))))
      pss_nil)
      (pss_cons (ps_expr (pe_bm PySem.F.plainAttrs_list PySem.F.slot_list_append PySem.F.type_list_append mt_append (pv 2) (pa_cons (pv 10) pa_nil)))
      (pss_one (ps_set (i := 1) sc_law.nd rfl (.inl rfl) (by exact (pe_op op_plus (pv 1) (pv 11))))))))))))))))
      (pss_cons (ps_set (i := 12) sc_law.nd rfl (.inl rfl) (by exact (pe_callT (okT_parse T (okT_read_line T (okT_expr T))) (hr.mono (by first | decide | omega)) (by rfl) T.m_parse T.F_parse.kp T.b_parse (fun σ => L2N.passAt (L2N.takes_of rfl rfl rfl rfl) σ) (by exact (pa_cons (pe_op op_plus (pv 1) pe_str) pa_nil)))))
      (pss_one (ps_ret (pe_cmpR op_eq (pe_callB (call_repr rfl hr.u128) (by rfl) T.n_repr bt_repr (pa_cons (pv 12) pa_nil)) (pe_callB (call_repr rfl hr.u128) (by rfl) T.n_repr bt_repr (pa_cons (pe_lst (pa_cons (pe_tup (pa_cons pe_str (pa_cons (pe_callT (FnT.of0 (ok_tree T 5 0 rfl)) (hr.mono (by first | decide | omega)) (by rfl) T.m_law_tree T.F_law_tree.kp T.b_law_tree (fun σ => L2N.passAt (L2N.takes_of rfl rfl rfl rfl) σ) (by exact (pa_cons (pv 2) (pa_cons (pv 3) (pa_cons pe_int pa_nil))))) (pa_cons pe_non (pa_cons pe_int pa_nil))))) pa_nil)) pa_nil)) (nomark _)))))))))), ?_⟩
    refine ⟨Nat.zero_le _, fun P np => ?_⟩
    refine ⟨Nat.zero_le _, fun S ns' => ?_⟩
    have hPS : P ≠ S := fun e => by
      subst e
      rw [upd_same] at ns'
      cases ns'
    have nS : H S = none := by
      rw [upd_ne hPS.symm] at ns'
      exact ns'
    -- for k in range(1 + min(len(script), 9))
    refine ⟨_, rfl, _, ns.length, rfl, .inl ⟨_, (same_upd ns').seq ((same_upd np).seq hS), (List.length_map _).symm⟩, _, _, rfl, .inl ⟨_, _, rfl, rfl, ?_⟩⟩
    refine ⟨_, rfl, by split <;> omega, by split <;> omega, ?_⟩
    generalize hN : (1 + (if (9 : Int) < (ns.length : Int) then (9 : Int) else (ns.length : Int))).toNat = N
    have hN9 : N = 1 + min ns.length 9 := by subst hN; split <;> omega
    have hid0 : hide P S (upd (upd H P (.lst [])) S (.lst [])) = hide P S H := by rw [hide_f, hide_g]
    have sH0 : Same H (hide P S H) := hide_keep (Same.refl _) np nS
    refine for_range (lo := 0) (n := N) (fun i σ H' => ∃ (vs ss : List V) (y5 y6 y7 y8 y9 y10 y11 : Option V) (cs : List Nat) (z : List Nat) (ds : List PyData) (L : List Px.It), σ = [some (.ref a), some (.str (mk z)), some (.ref P), some (.ref S), some (.bl (cmpF false cs)), y5, y6, y7, y8, y9, y10, y11, none] ∧
      LH K P S H H' vs ss ds (sgs L) ∧ z.length ≤ 11 + 12 * i ∧ ds.length ≤ i ∧ L.length ≤ i ∧
      ((i = 0 ∧ z = tl ("show " : Str) ∧ ds = [] ∧ L = [] ∧ cs = []) ∨ ∃ i', i = i' + 1 ∧ cs = cellsK ns i' ∧ z = txt2 (cellK ns 0) cs ∧ ds = Px.opD (cellK ns 0) 5 :: L.map It.d ∧ L = its (5 + (opL (cellK ns 0)).length) false cs))
      ⟨[], [], none, none, none, none, none, none, none, [], tl ("show " : Str), [], [], rfl, ⟨by rw [hid0]; exact sH0, by rw [upd_ne hPS, upd_same], upd_same, .nil, .nil, rfl⟩, by decide, Nat.le_refl _, Nat.le_refl _, .inl ⟨rfl, rfl, rfl, rfl, rfl⟩⟩ ?_ ?_
    · rintro i σ H1 hi ⟨vs, ss, y5, y6, y7, y8, y9, y10, y11, cs, z, ds, L, rfl, hLH, hzl, hdl, hLl, hst⟩
      rw [Int.zero_add]
      refine ⟨_, rfl, _, rfl, a, ns, i, rfl, hLH.sH.seq hS, _, rfl, ?_⟩
      rw [abs_nat, show (ns.getD i 0).natAbs = cellK ns i from rfl]
      generalize hc : cellK ns i = c
      generalize hb : cmpF false cs = b
      have hsep := sep_len c
      have hsg := sg_len b c
      -- if k > 0
      dsimp only [gName]
      refine seq_joinI (fun σ' H' => ∃ (vs ss : List V) (y7 y8 y9 y10 y11 : Option V), σ' = [some (.ref a), some (.str (mk (if i = 0 then z else z ++ (tl (sepK c) ++ (tl (sgOf b c) ++ [32]))))), some (.ref P), some (.ref S),
        some (.bl (if i = 0 then b else nextC b (sgOf b c))), some (.int (i : Int)), some (.int (c : Int)), y7, y8, y9, y10, y11, none] ∧ LH K P S H H' vs ss ds (if i = 0 then sgs L else sgs L ++ [(sgOf b c, z.length + (sepK c).length)])) ?_ (fun fin => ?_)
      · rintro σ4 H4 ⟨vs, ss, y7, y8, y9, y10, y11, rfl, L4⟩
        generalize hz' : (if i = 0 then z else z ++ (tl (sepK c) ++ (tl (sgOf b c) ++ [32]))) = z' at *
        generalize hg' : (if i = 0 then sgs L else sgs L ++ [(sgOf b c, z.length + (sepK c).length)]) = gs' at *
        generalize hb' : (if i = 0 then b else nextC b (sgOf b c)) = b' at *
        have hz'l : z'.length ≤ 11 + 12 * i + 6 := by
          subst hz'
          split
          · omega
          · rw [List.length_append, List.length_append, List.length_append, ← len_tl, ← len_tl]
            show _ + (_ + (_ + 1)) ≤ _
            omega
        have hol := opL_len c
        have hi9 : i ≤ 9 := by omega
        -- at, pick, tree, shown
        refine ⟨_, rfl, _, z'.length, rfl, ⟨by rw [mk_len]; exact sz (by omega), (mk_len _).symm⟩, ?_⟩
        refine ⟨_, rfl, _, _, rfl, rfl, ⟨by decide, by decide⟩, .inl (.inl ⟨_, rfl, _, _, rfl, rfl, (by show (0 : Int) < 4; decide), ?_⟩)⟩
        dsimp only
        rw [show ((c : Int) / 20) % 4 = ((opPick c : Nat) : Int) by unfold opPick; omega]
        refine ⟨_, rfl, by show 3 ≤ sizeLine; decide, fun t1 m1 => ?_⟩
        have L5 := L4.new (o := .tup [.str "var", .str "x", .int (z'.length : Int)]) m1
        have hp4 : opPick c < 4 := Nat.mod_lt _ (by decide)
        have hv0 : Dp K (hide P S (upd H4 t1 (.tup [.str "var", .str "x", .int (z'.length : Int)]))) (.ref t1) (varD "x" z'.length) :=
          .tup (sqt_hide L5.hP L5.hS _ _ (SqT.of upd_same)) (.cons (.str _) (.cons (.str _) (.cons (.int _) .nil)))
        dsimp only [gName]
        refine seq_const ?_
        have e0 : selD 0 c z'.length = varD "x" z'.length ∧ selT 0 c = tl ("x" : Str) := by
          unfold selD selT
          rw [if_neg (by omega), if_neg (by omega)]
          exact ⟨rfl, rfl⟩
        refine seq_joinI (fun σ' H' => ∃ (vs ss : List V) (y7 : Option V) (tv : V), σ' = [some (.ref a), some (.str (mk z')), some (.ref P), some (.ref S), some (.bl b'), some (.int (i : Int)), some (.int (c : Int)), y7, some (.int (z'.length : Int)), some (.int ((opPick c : Nat) : Int)), some tv, some (.str (mk (selT 1 c))), none] ∧ LH K P S H H' vs ss ds gs' ∧ Dp K (hide P S H') tv (selD 1 c z'.length)) ?_ (fun fin1 => ?_)
        · rintro σ5 H5 ⟨vs, ss, y7, tv, rfl, L6, hd6⟩
          refine seq_joinI (fun σ' H' => ∃ (vs ss : List V) (y7 : Option V) (tv : V), σ' = [some (.ref a), some (.str (mk z')), some (.ref P), some (.ref S), some (.bl b'), some (.int (i : Int)), some (.int (c : Int)), y7, some (.int (z'.length : Int)), some (.int ((opPick c : Nat) : Int)), some tv, some (.str (mk (selT 2 c))), none] ∧ LH K P S H H' vs ss ds gs' ∧ Dp K (hide P S H') tv (selD 2 c z'.length)) ?_ (fun fin2 => ?_)
          · rintro σ5 H5 ⟨vs, ss, y7, tv, rfl, L6, hd6⟩
            refine seq_joinI (fun σ' H' => ∃ (vs ss : List V) (y7 : Option V) (tv : V), σ' = [some (.ref a), some (.str (mk z')), some (.ref P), some (.ref S), some (.bl b'), some (.int (i : Int)), some (.int (c : Int)), y7, some (.int (z'.length : Int)), some (.int ((opPick c : Nat) : Int)), some tv, some (.str (mk (selT 3 c))), none] ∧ LH K P S H H' vs ss ds gs' ∧ Dp K (hide P S H') tv (selD 3 c z'.length)) ?_ (fun fin3 => ?_)
            · rintro σ5 H5 ⟨vs, ss, y7, tv, rfl, L6, hd6⟩
              rw [(sel_end c z'.length).1] at hd6
              rw [(sel_end c z'.length).2]
              refine ⟨_, rfl, .inl ⟨rfl, _, .inl (.inl L6.hP)⟩, _, rfl, P, vs, _, rfl, rfl, L6.hP, len_ok (by rw [dps_len L6.dp]; omega), ?_⟩
              have L7 := L6.part hPS hd6 (opD_noL c _)
              refine ⟨_, rfl, _, rfl, .inr ⟨_, _, rfl, rfl, by rw [mk_len, mk_len]; exact sz (by omega), ?_⟩⟩
              rw [mk_app]
              have hlen2 : (z' ++ opL c).length ≤ 11 + 12 * (i + 1) := by
                rw [List.length_append]
                omega
              rcases hst with ⟨e1, e2, e3, e4, e5⟩ | ⟨i', e1, e2, e3, e4, e5⟩
              · rw [if_pos e1] at hz' hg' hb'
                subst e5
                have ez : z' = tl ("show " : Str) := hz'.symm.trans e2
                have eg : gs' = sgs [] := by rw [← hg', e4]
                have eb : b' = false := by rw [← hb', ← hb]; rfl
                have ec : cellK ns 0 = c := by rw [← hc, e1]
                refine ⟨vs ++ [tv], ss, some (.int (i : Int)), some (.int (c : Int)), y7, some (.int (z'.length : Int)), some (.int ((opPick c : Nat) : Int)), some tv, some (.str (mk (opL c))), [], z' ++ opL c, ds ++ [Px.opD c z'.length], [], ?_, ?_, hlen2, ?_, ?_, .inr ⟨i, rfl, ?_, ?_, ?_, ?_⟩⟩
                · rw [eb]
                  rfl
                · rw [← eg]
                  exact L7
                · rw [e3]
                  simp
                · simp
                · rw [e1]
                  rfl
                · rw [ec, ez]
                  show _ = tl ("show " : Str) ++ (opL c ++ [])
                  rw [List.append_nil]
                · rw [ec, ez, e3]
                  rfl
                · rfl
              · have hi0 : ¬ i = 0 := by omega
                rw [if_neg hi0] at hz' hg' hb'
                have ecs : cellsK ns i = cs ++ [c] := by
                  rw [e1, cellsK_succ, ← e2, ← hc, e1]
                have ezl : z.length = 5 + (opL (cellK ns 0)).length + (txR false cs).length := by
                  rw [e3]
                  unfold txt2
                  rw [List.length_append, List.length_append]
                  show 5 + _ = _
                  omega
                have eL : its (5 + (opL (cellK ns 0)).length) false (cs ++ [c]) = L ++ [itemK z.length b c] := by
                  rw [its_snoc, ← e5, hb, ezl]
                have ezl' : z'.length = z.length + (sepK c).length + (sgOf b c).length + 1 := by
                  rw [← hz', List.length_append, List.length_append, List.length_append, ← len_tl, ← len_tl]
                  show _ + (_ + (_ + 1)) = _
                  omega
                refine ⟨vs ++ [tv], ss, some (.int (i : Int)), some (.int (c : Int)), y7, some (.int (z'.length : Int)), some (.int ((opPick c : Nat) : Int)), some tv, some (.str (mk (opL c))), cs ++ [c], z' ++ opL c, ds ++ [Px.opD c z'.length], L ++ [itemK z.length b c], ?_, ?_, hlen2, ?_, ?_, .inr ⟨i, rfl, ecs.symm, ?_, ?_, ?_⟩⟩
                · rw [cmpF_snoc, hb, hb']
                  rfl
                · rw [show sgs (L ++ [itemK z.length b c]) = gs' from by rw [← hg']; unfold sgs; rw [List.map_append]; rfl]
                  exact L7
                · rw [List.length_append]
                  simp
                  omega
                · rw [List.length_append]
                  simp
                  omega
                · rw [← hz', e3]
                  unfold txt2
                  rw [txR_snoc, hb]
                  simp
                · rw [e4, List.map_append, List.cons_append]
                  show _ = _ :: (_ ++ [Px.opD c (z.length + (sepK c).length + (sgOf b c).length + 1)])
                  rw [ezl']
                · exact eL.symm
            refine ⟨_, rfl, rfl, ?_⟩
            rw [dec_int]
            refine ⟨_, rfl, ite2 (fun hp => ?_) (fun hp => ?_)⟩
            · have hpk : opPick c = 3 := by
                have : ((opPick c : Nat) : Int) = 3 := eq_of_beq hp
                omega
              obtain ⟨e1, e2⟩ := sel_yes z'.length (show 1 ≤ 3 by decide) hpk
              refine ⟨_, rfl, by show 3 ≤ sizeLine; decide, fun t2 m2 => ⟨_, rfl, .inl ⟨_, _, rfl, rfl, by show 4 ≤ sizeLine; decide, fun t3 m3 => ⟨_, _, rfl, rfl, _, rfl, .inl ⟨_, _, rfl, rfl, by show 4 ≤ sizeLine; decide, fun t4 m4 => ?_⟩⟩⟩⟩⟩
              have L7 := L6.new (o := .tup [.str "var", .str "x", .int (z'.length : Int)]) m2
              have L8 := L7.new (o := .tup [.str "power", .ref t2, .int 2, .int ((z'.length : Int) + 1)]) m3
              have L9 := L8.new (o := .tup [.str "power", .ref t3, .int (0 - 3), .int ((z'.length : Int) + 3)]) m4
              have w3 : Same _ _ := hide_step (g := P) (f := S) (o := .tup [.str "power", .ref t2, .int 2, .int ((z'.length : Int) + 1)]) m3
              have w4 : Same _ _ := hide_step (g := P) (f := S) (o := .tup [.str "power", .ref t3, .int (0 - 3), .int ((z'.length : Int) + 3)]) m4
              refine fin3 _ _ ⟨vs, ss, y7, .ref t4, ?_, L9, ?_⟩
              · rw [e2]
                unfold opL
                rw [if_neg (by omega), if_neg (by omega), if_pos hpk]
                rfl
              · rw [e1]
                unfold Px.opD
                rw [if_neg (by omega), if_neg (by omega), if_pos hpk]
                have d1 := sqt_hide L7.hP L7.hS _ _ (SqT.of (K := K) (upd_same (H := H5) (a := t2) (o := .tup [.str "var", .str "x", .int (z'.length : Int)])))
                refine .tup (sqt_hide L9.hP L9.hS _ _ (SqT.of upd_same)) (.cons (.str _) (.cons (.tup (sqt_same w4 _ _ (sqt_hide L8.hP L8.hS _ _ (SqT.of upd_same))) (.cons (.str _) (.cons (.tup (sqt_same (w3.trans w4) _ _ d1) (.cons (.str _) (.cons (.str _) (.cons (.int _) .nil)))) (.cons (.int _) (.cons (.int _) .nil))))) (.cons (.int _) (.cons (.int _) .nil))))
            · have hpk : opPick c ≠ 2 + 1 := fun e => hp (by rw [e]; rfl)
              obtain ⟨e1, e2⟩ := sel_no z'.length hpk
              refine fin3 _ _ ⟨vs, ss, y7, tv, ?_, L6, ?_⟩
              · rw [show selT 3 c = selT 2 c from e2]
              · rw [show selD 3 c z'.length = selD 2 c z'.length from e1]
                exact hd6
          refine ⟨_, rfl, rfl, ?_⟩
          rw [dec_int]
          refine ⟨_, rfl, ite2 (fun hp => ?_) (fun hp => ?_)⟩
          · have hpk : opPick c = 2 := by
              have : ((opPick c : Nat) : Int) = 2 := eq_of_beq hp
              omega
            obtain ⟨e1, e2⟩ := sel_yes z'.length (show 1 ≤ 2 by decide) hpk
            refine ⟨_, rfl, .inl ⟨_, _, rfl, rfl, by show 3 ≤ sizeLine; decide, fun t2 m2 => ⟨by show 1 ≤ sizeLine; decide, fun t3 m3 => ⟨_, rfl, by show 4 ≤ sizeLine; decide, fun t4 m4 => ?_⟩⟩⟩⟩
            have L7 := L6.new (o := .tup [.str "var", .str "y", .int ((z'.length : Int) + 2)]) m2
            have L8 := L7.new (o := .tup [.ref t2]) m3
            have L9 := L8.new (o := .tup [.str "call", .str "f", .ref t3, .int (z'.length : Int)]) m4
            have w3 : Same _ _ := hide_step (g := P) (f := S) (o := .tup [.ref t2]) m3
            have w4 : Same _ _ := hide_step (g := P) (f := S) (o := .tup [.str "call", .str "f", .ref t3, .int (z'.length : Int)]) m4
            refine fin2 _ _ ⟨vs, ss, y7, .ref t4, ?_, L9, ?_⟩
            · rw [e2]
              unfold opL
              rw [if_neg (by omega), if_pos hpk]
              rfl
            · rw [e1]
              unfold Px.opD
              rw [if_neg (by omega), if_pos hpk]
              have d1 := sqt_hide L7.hP L7.hS _ _ (SqT.of (K := K) (upd_same (H := H5) (a := t2) (o := .tup [.str "var", .str "y", .int ((z'.length : Int) + 2)])))
              refine .tup (sqt_hide L9.hP L9.hS _ _ (SqT.of upd_same)) (.cons (.str _) (.cons (.str _) (.cons (.tup (sqt_same w4 _ _ (sqt_hide L8.hP L8.hS _ _ (SqT.of upd_same))) (.cons (.tup (sqt_same (w3.trans w4) _ _ d1) (.cons (.str _) (.cons (.str _) (.cons (.int _) .nil)))) .nil)) (.cons (.int _) .nil))))
          · have hpk : opPick c ≠ 1 + 1 := fun e => hp (by rw [e]; rfl)
            obtain ⟨e1, e2⟩ := sel_no z'.length hpk
            refine fin2 _ _ ⟨vs, ss, y7, tv, ?_, L6, ?_⟩
            · rw [show selT 2 c = selT 1 c from e2]
            · rw [show selD 2 c z'.length = selD 1 c z'.length from e1]
              exact hd6
        refine ⟨_, rfl, rfl, ?_⟩
        rw [dec_int]
        refine ⟨_, rfl, ite2 (fun hp => ?_) (fun hp => ?_)⟩
        · have hpk : opPick c = 1 := by
            have : ((opPick c : Nat) : Int) = 1 := eq_of_beq hp
            omega
          obtain ⟨e1, e2⟩ := sel_yes z'.length (Nat.le_refl 1) hpk
          have hvl := opVal_lt c
          refine ⟨_, rfl, _, _, rfl, rfl, ⟨by decide, by decide⟩, .inl (.inl ⟨_, rfl, _, _, rfl, rfl, (by show (0 : Int) < 1000; decide), ?_⟩)⟩
          dsimp only
          rw [show ((c : Int) / 80) % 1000 = ((opVal c : Nat) : Int) by unfold opVal; omega]
          refine ⟨_, rfl, ?_, ?_⟩
          · rw [Int.natAbs_natCast]
            by_cases h0 : opVal c = 0
            · rw [h0]
              decide
            · have : (opVal c).log2 < 20 := (Nat.log2_lt h0).mpr (by omega)
              omega
          rw [show Str.ofString (toString ((opVal c : Nat) : Int)) = mk (numL (opVal c)) from ext_tl (tl_num _)]
          have hnl := numL_len (k := 3) (by decide) (n := opVal c) hvl
          have hint : PySem.intText? (mk (numL (opVal c))) = some ((opVal c : Nat) : Int) := by
            have h2 := intText_digits (x := mk (numL (opVal c))) (numL_digits _) (numL_ne _) (by rw [mk_len]; omega)
            rw [show (mk (numL (opVal c))).cps.toList = numL (opVal c) from rfl, numL_val] at h2
            exact h2
          refine ⟨_, rfl, .inr ⟨_, _, rfl, hint, by rw [mk_len]; omega, by show 2 ≤ sizeLine; decide, fun t2 m2 => ⟨by show 0 ≤ sizeLine; decide, fun t3 m3 => ⟨_, rfl, by show 4 ≤ sizeLine; decide, fun t4 m4 => ?_⟩⟩⟩⟩
          have L6 := L5.new (o := .tup [.int ((opVal c : Nat) : Int), .int 1]) m2
          have L7 := L6.new (o := .tup []) m3
          have L8 := L7.new (o := .tup [.str "number", .ref t2, .ref t3, .int (z'.length : Int)]) m4
          have w3 : Same _ _ := hide_step (g := P) (f := S) (o := .tup []) m3
          have w4 : Same _ _ := hide_step (g := P) (f := S) (o := .tup [.str "number", .ref t2, .ref t3, .int (z'.length : Int)]) m4
          refine fin1 _ _ ⟨vs, ss, y7, .ref t4, ?_, L8, ?_⟩
          · rw [e2]
            unfold opL
            rw [if_pos hpk]
            rfl
          · rw [e1]
            unfold Px.opD
            rw [if_pos hpk]
            refine .tup (sqt_hide L8.hP L8.hS _ _ (SqT.of upd_same)) (.cons (.str _) (.cons (.tup (sqt_same (w3.trans w4) _ _ (sqt_hide L6.hP L6.hS _ _ (SqT.of upd_same))) (.cons (.int _) (.cons (.int _) .nil))) (.cons (.tup (sqt_same w4 _ _ (sqt_hide L7.hP L7.hS _ _ (SqT.of upd_same))) .nil) (.cons (.int _) .nil))))
        · have hpk : opPick c ≠ 0 + 1 := fun e => hp (by rw [e]; rfl)
          obtain ⟨e1, e2⟩ := sel_no z'.length hpk
          refine fin1 _ _ ⟨vs, ss, y7, .ref t1, ?_, L5, ?_⟩
          · rw [show selT 1 c = selT 0 c from e2, e0.2]
            rfl
          · rw [show selD 1 c z'.length = selD 0 c z'.length from e1, e0.1]
            exact hv0
      refine ⟨_, rfl, _, _, rfl, rfl, _, rfl, ite2 (fun h0 => ?_) (fun h0 => ?_)⟩
      · have hi0 : ¬ i = 0 := by
          have := of_decide_eq_true h0
          omega
        simp only [if_neg hi0] at fin
        -- sign = [..][int(cell) % 10]
        refine ⟨by show 10 ≤ sizeLine; decide, fun l1 n1 => ⟨_, rfl, .inl (.inl ⟨_, rfl, _, _, rfl, rfl, (by show (0 : Int) < 10; decide), .inl ⟨l1, drawn.map V.str, _, _, rfl, rfl, SqL.of upd_same, menu_at (l := drawn) (n := c) (k := 10) rfl (by decide) (by omega), ?_⟩⟩)⟩⟩
        have L1 := hLH.new (o := .lst [.str "or", .str "and", .str "<", .str "<=", .str "==", .str "+", .str "-", .str "*", .str "/", .str "+"]) n1
        dsimp only [gName]
        refine seq_joinI (fun σ' H' => ∃ (vs ss : List V) (y8 y9 y10 y11 : Option V), σ' = [some (.ref a), some (.str (mk z)), some (.ref P), some (.ref S),
          some (.bl b), some (.int (i : Int)), some (.int (c : Int)), some (.str (sgOf b c)), y8, y9, y10, y11, none] ∧ LH K P S H H' vs ss ds (sgs L)) ?_ (fun fin2 => ?_)
        · rintro σ2 H2 ⟨vs, ss, y8, y9, y10, y11, rfl, L2⟩
          -- compared
          refine seq_joinA (fun σ' H' => ∃ (vs ss : List V) (y8 y9 y10 y11 : Option V), σ' = [some (.ref a), some (.str (mk z)), some (.ref P), some (.ref S),
            some (.bl (nextC b (sgOf b c))), some (.int (i : Int)), some (.int (c : Int)), some (.str (sgOf b c)), y8, y9, y10, y11, none] ∧ LH K P S H H' vs ss ds (sgs L)) ?_ (fun fin3 => ?_)
          · rintro σ3 H3 ⟨vs, ss, y8, y9, y10, y11, rfl, L3⟩
            have esep : (([" ", "\n "] : List Str).getD (c / 10 % 2) "") = sepK c := by
              unfold sepK
              rcases (by omega : c / 10 % 2 = 0 ∨ c / 10 % 2 = 1) with e | e <;> rw [e] <;> rfl
            refine ⟨_, rfl, by show 2 ≤ sizeLine; decide, fun l5 n5 => ⟨_, rfl, _, _, rfl, rfl, ⟨by decide, by decide⟩, .inl (.inl ⟨_, rfl, _, _, rfl, rfl, (by show (0 : Int) < 2; decide), .inl ⟨l5, ([" ", "\n "] : List Str).map V.str, _, _, rfl, rfl, SqL.of upd_same,
              menu_at (l := [" ", "\n "]) (n := c / 10) (k := 2) rfl (by decide) (by omega), .inr ⟨_, _, rfl, rfl, ?_, ?_⟩⟩⟩)⟩⟩
            · rw [esep, mk_len]
              exact sz (by omega)
            rw [esep]
            have L5 := L3.new (o := .lst [.str " ", .str "\n "]) n5
            have hzs : (mk z ++ sepK c).length = z.length + (sepK c).length := by
              rw [len_tl, tl_append, List.length_append, tl_of, ← len_tl]
            refine ⟨_, rfl, .inl ⟨rfl, _, .inl (.inl L5.hS)⟩, _, rfl, _, rfl, _, z.length + (sepK c).length, rfl, ⟨by rw [hzs]; exact sz (by omega), hzs.symm⟩, by show 2 ≤ sizeLine; decide, fun l6 n6 => ?_⟩
            have L6 := L5.new (o := .lst [.str (sgOf b c), .int ((z.length + (sepK c).length : Nat) : Int)]) n6
            have hsl : ss.length = L.length := by rw [L3.sg.len, List.length_map]
            refine ⟨S, ss, _, rfl, rfl, L6.hS, len_ok (by omega), ?_⟩
            have L7 := L6.sign hPS (v := .ref l6) (g := (sgOf b c, z.length + (sepK c).length)) ⟨l6, rfl, hide_get upd_same (ne_of_none L5.hP n6).symm (ne_of_none L5.hS n6).symm⟩
            refine ⟨_, rfl, _, rfl, .inr ⟨_, _, rfl, rfl, by rw [hzs]; exact sz (by omega), .inr ⟨_, _, rfl, rfl, ?_, ?_⟩⟩⟩
            · rw [len_tl, tl_append, List.length_append, ← len_tl, hzs, ← len_tl]
              show _ + 1 ≤ _
              exact sz (by omega)
            · refine fin _ _ ⟨vs, ss ++ [.ref l6], some (.str (sgOf b c)), y8, y9, y10, y11, ?_, L7⟩
              rw [show (mk z ++ sepK c) ++ sgOf b c ++ (" " : Str) = mk (z ++ (tl (sepK c) ++ (tl (sgOf b c) ++ [32]))) by
                refine ext_tl ?_
                rw [tl_append, tl_append, tl_append, tl_of, tl_of]
                simp
                rfl]
              rfl
          · have hA : ∀ u : Bool, cmps.any (· == sgOf b c) = u → nextC b (sgOf b c) = (u || (b && !(wordsS.any (· == sgOf b c)))) := fun u hu => by
              unfold nextC
              rw [hu]
            refine ⟨_, rfl, by show 3 ≤ sizeLine; decide, fun l3 n3 => ⟨l3, _, rfl, .inl (SqL.of upd_same), rfl, rfl, _, rfl, ite2 (fun hc => ?_) (fun hc => ?_)⟩⟩
            · have e := hA true (by rw [← inV_strs]; exact hc)
              refine fin3 _ _ ⟨vs, ss, y8, y9, y10, y11, ?_, L2.new n3⟩
              rw [e]
              rfl
            · have e := hA false (by rw [← inV_strs]; exact Bool.eq_false_iff.mpr hc)
              refine ⟨_, rfl, _, rfl, ite2 (fun hb1 => ?_) (fun hb1 => ?_)⟩
              · refine ⟨_, rfl, by show 2 ≤ sizeLine; decide, fun l4 n4 => ⟨l4, _, rfl, .inl (SqL.of upd_same), rfl, rfl, ?_⟩⟩
                refine fin3 _ _ ⟨vs, ss, y8, y9, y10, y11, ?_, (L2.new n3).new n4⟩
                rw [e, hb1, ← inV_strs]
                rfl
              · refine fin3 _ _ ⟨vs, ss, y8, y9, y10, y11, ?_, L2.new n3⟩
                rw [e, Bool.eq_false_iff.mpr hb1]
                rfl
        · have hs : ∀ u : Bool, (b && cmps.any (· == drawn.getD (c % 10) "")) = u → sgOf b c = if u = true then ("*" : Str) else drawn.getD (c % 10) "" := fun u hu => by
            unfold sgOf
            rw [hu]
          refine ⟨_, rfl, _, rfl, ite2 (fun hb1 => ?_) (fun hb1 => ?_)⟩
          · refine ⟨_, rfl, by show 3 ≤ sizeLine; decide, fun l2 n2 => ⟨l2, _, rfl, .inl (SqL.of upd_same), rfl, rfl, _, rfl, ite2 (fun hc => ?_) (fun hc => ?_)⟩⟩
            · have e := hs true (by rw [hb1, ← inV_strs]; exact hc)
              refine fin2 _ _ ⟨vs, ss, y8, y9, y10, y11, ?_, L1.new n2⟩
              rw [e]
              rfl
            · have e := hs false (by rw [hb1, ← inV_strs]; exact Bool.eq_false_iff.mpr hc)
              refine fin2 _ _ ⟨vs, ss, y8, y9, y10, y11, ?_, L1.new n2⟩
              rw [e]
              rfl
          · have e := hs false (by rw [Bool.eq_false_iff.mpr hb1]; rfl)
            refine iteF (fin2 _ _ ⟨vs, ss, y8, y9, y10, y11, ?_, L1⟩)
            rw [e]
            rfl
      · have hi0 : i = 0 := by
          have := of_decide_eq_false (Bool.eq_false_iff.mpr h0)
          omega
        simp only [if_pos hi0] at fin
        exact fin _ _ ⟨vs, ss, _, _, _, _, _, rfl, hLH⟩
    · rintro σ H1 ⟨vs, ss, y5, y6, y7, y8, y9, y10, y11, cs, z, ds, L, rfl, hLH, hzl, hdl, hLl, hst⟩
      rcases hst with ⟨e1, _⟩ | ⟨i', e1, e2, e3, e4, e5⟩
      · omega
      generalize hc0 : cellK ns 0 = c0 at e3 e4 e5
      have hcs : cs.length ≤ 9 := by
        rw [e2, cellsK_len]
        omega
      have hz1 := txt2_len c0 cs
      obtain ⟨hsk, j, hlex⟩ := lex_all c0 cs
      have eZ : tl (mk z ++ (";" : Str)) = txt2 c0 cs ++ [59] := by
        rw [tl_append, tl_of, e3]
        rfl
      have eZl : (mk z ++ (";" : Str)).length ≤ 12000 := by
        rw [len_tl, eZ, List.length_append]
        show _ + 1 ≤ _
        omega
      refine ⟨_, rfl, .inr ⟨_, _, rfl, rfl, by rw [mk_len]; show _ + 1 ≤ _; exact sz (by omega), mk z ++ (";" : Str), toks2 c0 cs, j, rfl, eZl, by rw [eZ, hsk, List.drop_zero]; exact hlex, ?_⟩⟩
      rw [parse_all c0 cs _ hcs, ← e5]
      intro l H2 xs s2 nl hl hdp hno
      have hsm := sm_all c0 cs hcs
      rw [← e5] at hsm
      have hshow : (PyData.list [.tuple [.str "show", treeM lv0 (Px.opD c0 5) L, .none, .int ((0 : Nat) : Int)]]).shown.length ≤ sizeLine := by
        have h1 := PyData.shown_le_bulk 20 (by decide) _ hsm.lv
        have h2 := hsm.bk
        have h3 : (20 + 2) * (PyData.list [.tuple [.str "show", treeM lv0 (Px.opD c0 5) L, .none, .int ((0 : Nat) : Int)]]).bulk ≤ 22 * 1000 := Nat.mul_le_mul_left _ h2
        exact Nat.le_trans h1 (sz (by omega))
      have hdep := Nat.le_trans hsm.dp (show 20 ≤ 120 by decide)
      refine ⟨_, rfl, l, _, rfl, .lst (SqL.of hl) hdp, hsm.sh, hsm.nd, hdep, hshow, ?_⟩
      have w2 := (hide_same P S H1).trans s2
      have hnd : Nd (Px.opD c0 5) L := by
        have := hLH.no
        rw [e4] at this
        exact this
      refine ⟨_, rfl, _, rfl, P, S, Px.opD c0 5, L, rfl, ⟨vs, ss, s2 _ _ hLH.hP, ?_, s2 _ _ hLH.hS, hLH.sg.mono (SgL.same w2)⟩, hnd, by omega, fun t ht => ?_, fun H3 v3 s3 hd3 => ?_⟩
      · have := dps_keep (sqt_same w2) _ _ hLH.no hLH.dp
        rw [e4] at this
        exact this
      · rw [e5] at ht
        exact (its_mem cs _ _ t ht).1
      have hnt : noL (treeM lv0 (Px.opD c0 5) L) = true := treeM_noL _ _ _ hnd
      refine ⟨by show 4 ≤ sizeLine; decide, fun t nt => ⟨by show 1 ≤ sizeLine; decide, fun l2 nl2 => ?_⟩⟩
      have st := same_upd (o := .tup [.str "show", v3, .non, .int 0]) nt
      have sl := same_upd (o := .lst [.ref t]) nl2
      refine ⟨l2, .list [.tuple [.str "show", treeM lv0 (Px.opD c0 5) L, .none, .int ((0 : Nat) : Int)]], rfl, .lst (SqL.of upd_same) (.cons (.tup (SqT.of (sl _ _ upd_same)) (.cons (.str _) (.cons (dp_same (st.trans sl) hnt hd3) (.cons .non (.cons (.int _) .nil))))) .nil), hsm.sh, hsm.nd, hdep, hshow, rfl, ?_⟩
      rw [dec_str, beq_self_eq_true]
      exact q _
end
end Tk

namespace Tk
open PySem PySem.Spec PyProof.Rows L2 Ly
theorem law_end {P : Program} {w : World} {K : PySem.W.Frag} {mg : Str → Option Value} {base : Heap} {fa : Addr} (T : Top w K mg) (hfa : mg "law" = some (.ref fa)) : LawOk P w K mg base fa (sp_law K) := by
  have e := T.m_law.symm.trans hfa
  cases e
  exact ok_law T
end Tk
open PySem PySem.W PyProof.Rows
set_option maxRecDepth 100000 in
set_option maxHeartbeats 0 in
theorem PySem.Challenge.cw_alnage_k02_chains_and_levels_holds : PySem.Challenge.rw_alnage_k02_chains_and_levels.Holds := by
  w_on; o_law; k_head; (case hw => w_witness2)
  k_fill
  refine Ly.walkG (l := PySem.Challenge.rw_alnage_k02_chains_and_levels) (n := 63) (sp := fun w => Tk.sp_law _) rfl (by decide) rfl (fun w h Y => PySem.W.kIn_of Y) ?F (fun _ _ a ns hl _ hS => ⟨a, ns, rfl, hS, hl, fun _ => rfl⟩)
  case F =>
    intro w mg fa h KX G hmg base _ _
    refine' Tk.law_end (Tk.top_mk (w := w) KX G ?atokens ?ltokens ?ctokens ?ktokens ?atoken_start ?ltoken_start ?ctoken_start ?ktoken_start ?acomment_end ?lcomment_end ?ccomment_end ?kcomment_end ?atoken_at ?ltoken_at ?ctoken_at ?ktoken_at ?aname_at ?lname_at ?cname_at ?kname_at ?anumber_at ?lnumber_at ?cnumber_at ?knumber_at ?adigits_behind ?ldigits_behind ?cdigits_behind ?kdigits_behind ?arun_end ?lrun_end ?crun_end ?krun_end ?aparse ?lparse ?cparse ?kparse ?aread_line ?lread_line ?cread_line ?kread_line ?aread_unit ?lread_unit ?cread_unit ?kread_unit ?aread_function ?lread_function ?cread_function ?kread_function ?aread_parameters ?lread_parameters ?cread_parameters ?kread_parameters ?aread_parameter ?lread_parameter ?cread_parameter ?kread_parameter ?aread_told ?lread_told ?cread_told ?kread_told ?aread_show ?lread_show ?cread_show ?kread_show ?aread_product ?lread_product ?cread_product ?kread_product ?aread_power ?lread_power ?cread_power ?kread_power ?adeeper ?ldeeper ?cdeeper ?kdeeper ?aread_expression ?lread_expression ?cread_expression ?kread_expression ?aread_if ?lread_if ?cread_if ?kread_if ?aread_let ?lread_let ?cread_let ?kread_let ?aread_chain ?lread_chain ?cread_chain ?kread_chain ?aread_both ?lread_both ?cread_both ?kread_both ?aread_plain ?lread_plain ?cread_plain ?kread_plain ?aread_terms ?lread_terms ?cread_terms ?kread_terms ?aread_factors ?lread_factors ?cread_factors ?kread_factors ?aread_powers ?lread_powers ?cread_powers ?kread_powers ?aread_primary ?lread_primary ?cread_primary ?kread_primary ?aread_number ?lread_number ?cread_number ?kread_number ?aread_iterate ?lread_iterate ?cread_iterate ?kread_iterate ?aread_arguments ?lread_arguments ?cread_arguments ?kread_arguments ?alaw_cell ?llaw_cell ?claw_cell ?klaw_cell ?alaw_group ?llaw_group ?claw_group ?klaw_group ?alaw_tree ?llaw_tree ?claw_tree ?klaw_tree ?alaw ?llaw ?claw ?klaw ?zabs ?zint ?zlen ?zmin ?zrange ?zrepr ?zstr ?ztuple ?gRESERVED ?lRESERVED ?gLONGEST_TEXT ?gLONGEST_NAME ?gMOST_DIGITS ?gSEPARATORS ?gLETTERS ?gDIGITS ?gNAMING ?gSIGNS ?lSIGNS ?gBOTTOMS ?lBOTTOMS ?gDEEPEST ?gGREATEST_POWER ?gGREATEST_COUNT ?gCOMPARISONS ?lCOMPARISONS ?gOPERATIONS ?lOPERATIONS ?kOPERATIONS ?iOPERATIONS_0 ?iOPERATIONS_1 ?iOPERATIONS_2 ?iOPERATIONS_3 ?iOPERATIONS_4 ?iOPERATIONS_5 ?iOPERATIONS_6 ?iOPERATIONS_7 ?iOPERATIONS_8 ?gMalformed ?xMalformed ?saMalformed ?gaMalformed ?ggMalformed ?noMalformed ?inMalformed ?tiMalformed ?kcMalformed ?exMalformed ?tyMalformed ?hdMalformed ?icMalformed ?suMalformed ?liMalformed ?ciMalformed ?kiMalformed ?gOversized ?xOversized ?saOversized ?gaOversized ?ggOversized ?noOversized ?inOversized ?tiOversized ?kcOversized ?exOversized ?tyOversized ?hdOversized ?icOversized ?suOversized ?liOversized ?ciOversized ?kiOversized ?gReader ?pgReader ?hdReader ?poReader ?saReader ?mkReader ?kcReader ?aReader___init__ ?iReader___init__ ?lReader___init__ ?cReader___init__ ?kReader___init__ ?aReader_ended ?iReader_ended ?lReader_ended ?cReader_ended ?kReader_ended ?aReader_where ?iReader_where ?lReader_where ?cReader_where ?kReader_where ?aReader_sees ?iReader_sees ?lReader_sees ?cReader_sees ?kReader_sees ?aReader_sees_kind ?iReader_sees_kind ?lReader_sees_kind ?cReader_sees_kind ?kReader_sees_kind ?aReader_take ?iReader_take ?lReader_take ?cReader_take ?kReader_take ?aReader_accept ?iReader_accept ?lReader_accept ?cReader_accept ?kReader_accept ?aReader_expect ?iReader_expect ?lReader_expect ?cReader_expect ?kReader_expect ?aReader_expect_kind ?iReader_expect_kind ?lReader_expect_kind ?cReader_expect_kind ?kReader_expect_kind ?aReader_expect_whole ?iReader_expect_whole ?lReader_expect_whole ?cReader_expect_whole ?kReader_expect_whole ?nfReader_found ?nfReader_length ?nfReader_taken) hmg
    (case atokens => k_is)
    (case ltokens => k_is)
    (case ctokens => k_is)
    (case ktokens => k_is)
    (case atoken_start => k_is)
    (case ltoken_start => k_is)
    (case ctoken_start => k_is)
    (case ktoken_start => k_is)
    (case acomment_end => k_is)
    (case lcomment_end => k_is)
    (case ccomment_end => k_is)
    (case kcomment_end => k_is)
    (case atoken_at => k_is)
    (case ltoken_at => k_is)
    (case ctoken_at => k_is)
    (case ktoken_at => k_is)
    (case aname_at => k_is)
    (case lname_at => k_is)
    (case cname_at => k_is)
    (case kname_at => k_is)
    (case anumber_at => k_is)
    (case lnumber_at => k_is)
    (case cnumber_at => k_is)
    (case knumber_at => k_is)
    (case adigits_behind => k_is)
    (case ldigits_behind => k_is)
    (case cdigits_behind => k_is)
    (case kdigits_behind => k_is)
    (case arun_end => k_is)
    (case lrun_end => k_is)
    (case crun_end => k_is)
    (case krun_end => k_is)
    (case aparse => k_is)
    (case lparse => k_is)
    (case cparse => k_is)
    (case kparse => k_is)
    (case aread_line => k_is)
    (case lread_line => k_is)
    (case cread_line => k_is)
    (case kread_line => k_is)
    (case aread_unit => k_is)
    (case lread_unit => k_is)
    (case cread_unit => k_is)
    (case kread_unit => k_is)
    (case aread_function => k_is)
    (case lread_function => k_is)
    (case cread_function => k_is)
    (case kread_function => k_is)
    (case aread_parameters => k_is)
    (case lread_parameters => k_is)
    (case cread_parameters => k_is)
    (case kread_parameters => k_is)
    (case aread_parameter => k_is)
    (case lread_parameter => k_is)
    (case cread_parameter => k_is)
    (case kread_parameter => k_is)
    (case aread_told => k_is)
    (case lread_told => k_is)
    (case cread_told => k_is)
    (case kread_told => k_is)
    (case aread_show => k_is)
    (case lread_show => k_is)
    (case cread_show => k_is)
    (case kread_show => k_is)
    (case aread_product => k_is)
    (case lread_product => k_is)
    (case cread_product => k_is)
    (case kread_product => k_is)
    (case aread_power => k_is)
    (case lread_power => k_is)
    (case cread_power => k_is)
    (case kread_power => k_is)
    (case adeeper => k_is)
    (case ldeeper => k_is)
    (case cdeeper => k_is)
    (case kdeeper => k_is)
    (case aread_expression => k_is)
    (case lread_expression => k_is)
    (case cread_expression => k_is)
    (case kread_expression => k_is)
    (case aread_if => k_is)
    (case lread_if => k_is)
    (case cread_if => k_is)
    (case kread_if => k_is)
    (case aread_let => k_is)
    (case lread_let => k_is)
    (case cread_let => k_is)
    (case kread_let => k_is)
    (case aread_chain => k_is)
    (case lread_chain => k_is)
    (case cread_chain => k_is)
    (case kread_chain => k_is)
    (case aread_both => k_is)
    (case lread_both => k_is)
    (case cread_both => k_is)
    (case kread_both => k_is)
    (case aread_plain => k_is)
    (case lread_plain => k_is)
    (case cread_plain => k_is)
    (case kread_plain => k_is)
    (case aread_terms => k_is)
    (case lread_terms => k_is)
    (case cread_terms => k_is)
    (case kread_terms => k_is)
    (case aread_factors => k_is)
    (case lread_factors => k_is)
    (case cread_factors => k_is)
    (case kread_factors => k_is)
    (case aread_powers => k_is)
    (case lread_powers => k_is)
    (case cread_powers => k_is)
    (case kread_powers => k_is)
    (case aread_primary => k_is)
    (case lread_primary => k_is)
    (case cread_primary => k_is)
    (case kread_primary => k_is)
    (case aread_number => k_is)
    (case lread_number => k_is)
    (case cread_number => k_is)
    (case kread_number => k_is)
    (case aread_iterate => k_is)
    (case lread_iterate => k_is)
    (case cread_iterate => k_is)
    (case kread_iterate => k_is)
    (case aread_arguments => k_is)
    (case lread_arguments => k_is)
    (case cread_arguments => k_is)
    (case kread_arguments => k_is)
    (case alaw_cell => k_is)
    (case llaw_cell => k_is)
    (case claw_cell => k_is)
    (case klaw_cell => k_is)
    (case alaw_group => k_is)
    (case llaw_group => k_is)
    (case claw_group => k_is)
    (case klaw_group => k_is)
    (case alaw_tree => k_is)
    (case llaw_tree => k_is)
    (case claw_tree => k_is)
    (case klaw_tree => k_is)
    (case alaw => k_is)
    (case llaw => k_is)
    (case claw => k_is)
    (case klaw => k_is)
    (case zabs => k_is)
    (case zint => k_is)
    (case zlen => k_is)
    (case zmin => k_is)
    (case zrange => k_is)
    (case zrepr => k_is)
    (case zstr => k_is)
    (case ztuple => k_is)
    (case gRESERVED => k_is)
    (case lRESERVED => k_is)
    (case gLONGEST_TEXT => k_is)
    (case gLONGEST_NAME => k_is)
    (case gMOST_DIGITS => k_is)
    (case gSEPARATORS => k_is)
    (case gLETTERS => k_is)
    (case gDIGITS => k_is)
    (case gNAMING => k_is)
    (case gSIGNS => k_is)
    (case lSIGNS => k_is)
    (case gBOTTOMS => k_is)
    (case lBOTTOMS => k_is)
    (case gDEEPEST => k_is)
    (case gGREATEST_POWER => k_is)
    (case gGREATEST_COUNT => k_is)
    (case gCOMPARISONS => k_is)
    (case lCOMPARISONS => k_is)
    (case gOPERATIONS => k_is)
    (case lOPERATIONS => k_is)
    (case kOPERATIONS => first | exact ⟨⟨_, _, rfl, rfl⟩, ⟨_, _, rfl, rfl⟩, ⟨_, _, rfl, rfl⟩, ⟨_, _, rfl, rfl⟩, ⟨_, _, rfl, rfl⟩, ⟨_, _, rfl, rfl⟩, ⟨_, _, rfl, rfl⟩, ⟨_, _, rfl, rfl⟩, ⟨_, _, rfl, rfl⟩, trivial⟩ | k_is)
    (case iOPERATIONS_0 => k_is)
    (case iOPERATIONS_1 => k_is)
    (case iOPERATIONS_2 => k_is)
    (case iOPERATIONS_3 => k_is)
    (case iOPERATIONS_4 => k_is)
    (case iOPERATIONS_5 => k_is)
    (case iOPERATIONS_6 => k_is)
    (case iOPERATIONS_7 => k_is)
    (case iOPERATIONS_8 => k_is)
    (case gMalformed => k_is)
    (case xMalformed => k_is)
    (case saMalformed => k_is)
    (case gaMalformed => k_is)
    (case ggMalformed => k_is)
    (case noMalformed => k_is)
    (case inMalformed => k_is)
    (case tiMalformed => k_is)
    (case kcMalformed => k_is)
    (case exMalformed => k_is)
    (case tyMalformed => k_is)
    (case hdMalformed => k_is)
    (case icMalformed => k_is)
    (case suMalformed => first | rfl | k_is)
    (case liMalformed => k_is)
    (case ciMalformed => k_is)
    (case kiMalformed => k_is)
    (case gOversized => k_is)
    (case xOversized => k_is)
    (case saOversized => k_is)
    (case gaOversized => k_is)
    (case ggOversized => k_is)
    (case noOversized => k_is)
    (case inOversized => k_is)
    (case tiOversized => k_is)
    (case kcOversized => k_is)
    (case exOversized => k_is)
    (case tyOversized => k_is)
    (case hdOversized => k_is)
    (case icOversized => k_is)
    (case suOversized => first | rfl | k_is)
    (case liOversized => k_is)
    (case ciOversized => k_is)
    (case kiOversized => k_is)
    (case gReader => k_is)
    (case pgReader => k_is)
    (case hdReader => k_is)
    (case poReader => k_is)
    (case saReader => k_is)
    (case mkReader => k_is)
    (case kcReader => k_is)
    (case aReader___init__ => k_is)
    (case iReader___init__ => k_is)
    (case lReader___init__ => k_is)
    (case cReader___init__ => k_is)
    (case kReader___init__ => k_is)
    (case aReader_ended => k_is)
    (case iReader_ended => k_is)
    (case lReader_ended => k_is)
    (case cReader_ended => k_is)
    (case kReader_ended => k_is)
    (case aReader_where => k_is)
    (case iReader_where => k_is)
    (case lReader_where => k_is)
    (case cReader_where => k_is)
    (case kReader_where => k_is)
    (case aReader_sees => k_is)
    (case iReader_sees => k_is)
    (case lReader_sees => k_is)
    (case cReader_sees => k_is)
    (case kReader_sees => k_is)
    (case aReader_sees_kind => k_is)
    (case iReader_sees_kind => k_is)
    (case lReader_sees_kind => k_is)
    (case cReader_sees_kind => k_is)
    (case kReader_sees_kind => k_is)
    (case aReader_take => k_is)
    (case iReader_take => k_is)
    (case lReader_take => k_is)
    (case cReader_take => k_is)
    (case kReader_take => k_is)
    (case aReader_accept => k_is)
    (case iReader_accept => k_is)
    (case lReader_accept => k_is)
    (case cReader_accept => k_is)
    (case kReader_accept => k_is)
    (case aReader_expect => k_is)
    (case iReader_expect => k_is)
    (case lReader_expect => k_is)
    (case cReader_expect => k_is)
    (case kReader_expect => k_is)
    (case aReader_expect_kind => k_is)
    (case iReader_expect_kind => k_is)
    (case lReader_expect_kind => k_is)
    (case cReader_expect_kind => k_is)
    (case kReader_expect_kind => k_is)
    (case aReader_expect_whole => k_is)
    (case iReader_expect_whole => k_is)
    (case lReader_expect_whole => k_is)
    (case cReader_expect_whole => k_is)
    (case kReader_expect_whole => k_is)
    (case nfReader_found => k_is)
    (case nfReader_length => k_is)
    (case nfReader_taken => k_is)
#print axioms PySem.Challenge.cw_alnage_k02_chains_and_levels_holds
