import PyProof.Rows.All
import Wide.All
import OpenK.AllK
import Wide.FinOn
import PyProof.EqAt
import PyProof.EqKinds
import PyProof.TupleCall
import PyProof.ReprRoads
import HandS.Base
import HandS.Call
import HandS.List
import HandS.Text
import HandS.StrMore
import HandS.Ends
import HandS.Words
import HandS.WordsList
import HandS.Exc
import HandS.ExcOwn
import HandS.ExcCtx
import HandS.ExcInit
import HandS.HotCalls
import HandS.IsInst
import HandS.ExcField
import HandS.TryOnly
import HandS.CallSlots
import PySem.Challenge.RW_alnage_k00_tokens
set_option Elab.async false
set_option linter.all false
set_option maxRecDepth 100000
set_option maxHeartbeats 4000000
namespace Ly
open PySem PySem.Spec PyProof.Rows L2
/-! ### operations on values -/
section
variable {X : Cx}
theorem rep_size (a : Array Nat) : ∀ (n : Nat) (b : Array Nat), ((List.replicate n a).foldl (· ++ ·) b).size = b.size + n * a.size
  | 0, b => by simp
  | n + 1, b => by
    rw [List.replicate_succ, List.foldl_cons, rep_size a n, Array.size_append, Nat.add_one_mul]
    omega
/-- s * n of a text, n written and at least 1 -/
def rMulS : R2 := fun x y H Q => ∃ (a : Str) (n : Nat), x = .str a ∧ y = .int (n : Int) ∧ 2 ≤ n ∧ a.length ≠ 0 ∧
  a.length * n ≤ 100000 ∧ Q (.str ⟨(List.replicate n a.cps).foldl (· ++ ·) #[]⟩) H
theorem op_mulS : OpR X (binaryOp .Mult) rMulS := by
  intro pins s σ H x y v u Q I rx ry h
  obtain ⟨a, n, rfl, rfl, h2, h0, hl, q⟩ := h
  obtain ⟨t, rfl⟩ := rx
  obtain ⟨t', rfl⟩ := ry
  have hn : n ≤ 100000 := by
    have : 1 * n ≤ a.length * n := Nat.mul_le_mul_right n (by omega)
    omega
  have ha : a.length ≤ 100000 := by
    have : a.length * 1 ≤ a.length * n := Nat.mul_le_mul_left _ (by omega)
    omega
  have e1 : ((n : Int) == 1 || a.length == 0) = false := by
    rw [Bool.or_eq_false_iff]
    constructor
    · simp
      omega
    · simpa using h0
  have e2 : (decide ((n : Int) < -(2 ^ 63 : Int)) || decide ((n : Int) ≥ 2 ^ 63)) = false := by
    rw [decide_eq_false (by omega), decide_eq_false (by omega)]
    rfl
  refine PySem.P.mul_str e2 (fun _ _ => ?_) (fun _ _ => ?_) ?_
  · have hq : ((2 : Int) ^ 63 - 1) / (n : Int) ≥ 100000 := by
      refine Int.le_ediv_of_mul_le (by omega) ?_
      have : (100000 : Int) * (n : Int) ≤ 100000 * 100000 := by omega
      omega
    omega
  · have : a.length * (n : Int).toNat ≤ 100000 := by
      simpa using hl
    show decide (a.length * (n : Int).toNat > sizeLine) = false
    rw [sizeLine_eq, decide_eq_false_iff_not]
    omega
  · rw [if_neg (by omega), e1]
    refine ⟨?_, .str _, H, I.tok _, ⟨_, rfl⟩, ?_⟩
    · rw [sizeLine_eq]
      have : (Str.length ⟨(List.replicate (n : Int).toNat a.cps).foldl (· ++ ·) #[]⟩) = 0 + n * a.cps.size := rep_size _ _ _
      have e3 : n * a.cps.size = a.length * n := Nat.mul_comm _ _
      omega
    · exact q

/-- repr(x) of data, where no repr runs yet -/
def rRepr (K : PySem.W.Frag) : List V → Hp → VK → Prop := fun xs H Q => ∃ (a : Addr) (d : PyData), xs = [.ref a] ∧ Dp K H (.ref a) d ∧
  d.showable = true ∧ d.hasDict = false ∧ d.depth ≤ 120 ∧ d.shown.length ≤ sizeLine ∧ Q (.str d.shown) H
theorem call_repr (hg : X.A.guards = some []) (hu : X.A.units + 128 < cLine) : CallR X (.builtin "repr") (rRepr X.K) := by
  intro pins s σ H xs us Q I rx h
  obtain ⟨a, d, rfl, hd, hs, hn, hz, hl, q⟩ := h
  obtain ⟨u, rfl, ru⟩ := vals1 rx
  cases (show u = Value.ref a from ru)
  obtain ⟨as, r⟩ := Dp.reads I d _ _ hd rfl
  refine repr_of_reads' r hs (fun e => ?_) hg (by omega) (fun _ _ e => e) (fun h' t k hk => ?_) hl
  · rw [hn] at e
    cases e
  · exact ⟨.str d.shown, H, I.kept hk, ⟨t, rfl⟩, q⟩
end
end Ly

namespace Ly
open PySem PySem.Spec PyProof.Rows L2
/-! ### an own exception class with one field -/
/-- what is promised of `def __init__(self, f): self.f = f` -/
def spXI (K : PySem.W.Frag) (C : Addr) (f : Str) : Sp := fun vs H Q _ => ∃ (a : Addr) (v : V), vs = [.ref a, v] ∧ OexC K C ∧
  PySem.W.findIn K (.ref C) f = some none ∧ H a = some (exo a C none) ∧
  ∀ d, H d = none → d ≠ a → Q .non (upd (upd H d (exd d [(f, v)])) a (exo a C (some d)))
/-- the reading of X(e), X such a class -/
def tMkX (C : Addr) (f : Str) (ta : TA) : L2.St → Hp → XK → Prop := fun σ H Q => ta σ H fun vs H1 => ∃ v, vs = [v] ∧
  ∀ d, H1 d = none → Q (.ref C) (some d) (upd H1 d (.xd [(f, v)]))
theorem del_back {H : Hp} {a d : Addr} {o u : HO} {fs : List (Str × V)} (hda : d ≠ a) (ha : H a = none) :
    upd (del (upd (upd H d o) a u) a) d (.xd fs) = upd H d (.xd fs) := by
  funext b
  by_cases h1 : b = d
  · subst h1
    rw [upd_same, upd_same]
  · rw [upd_ne h1, upd_ne h1]
    by_cases h2 : b = a
    · subst h2
      rw [del_same, ha]
    · rw [del_ne h2, upd_ne h2, upd_ne h1]
/-- what the written part tells of such a class -/
structure XCls (K : PySem.W.Frag) (mg : Str → Option Value) (x : Str) (C fI : Addr) (f : Str) : Prop where
  oe : OexC K C
  gC : mg x = some (.ref C)
  iC : PySem.W.findIn K (.ref C) "__init__" = some (some (.ref fI))
  tI : PySem.W.typeIn K (.ref fI) = some (.type "function")
  no : PySem.W.findIn K (.ref C) f = some none
  xf : PySem.W.findIn K (.ref C) "__getattribute__" = some (some (.builtin "BaseException.__getattribute__")) ∧
    PySem.W.findIn K (.ref C) "__getattr__" = some none ∧ PySem.W.hasDictIn K C = true
  me : PySem.W.exmOne K (.ref C) (.ref C) = some true
section
variable {X : Cx} {x : Str} {C fI : Addr} {f : Str} {k : Nat} {fd : FuncData} {ps : List Str} {e : Expr} {ta : TA} {p pos : Pos}
theorem pmk_x (T : XCls X.K X.mg x C fI f) (F : FnOk X.prog X.w X.K X.mg X.base CX0 k fI fd ps (spXI X.K C f)) (hr : Room (k + 1) X.A)
    (hb : Binds X.K fd ps []) (ha : PA X [e] ta) (hg : Gl X x := by rfl) (hdb : (x == ("__debug__" : Str)) = false := by decide)
    (he : starEach (e :: []) X.env = (false, eval e X.env) :: starEach [] X.env := by rfl)
    (hpl : (backTo pos (starEach [] X.env)).any (·.1) = false := by rfl) :
    L2N.PMk X (.Call (.Name x p) [e] [] pos) (tMkX C f ta) := by
  intro pins s σ H Q I h
  obtain ⟨nm, q, N, bs, bm, sn, sub, ab, col, dd, k0, k1, k2, k3, k5, hC, hbm⟩ := T.oe.cls
  refine wpAny_Call_Name_kw (ld_glob I hg T.gC ?_ hdb)
  refine PySem.W.callWith_K (h₀ := X.base) I.ok.mod.kin T.oe.kC (thn (ha.run pos pins s σ H _ I h) fun us s1 hh => ?_) he hpl
  obtain ⟨vs, H1, I1, r1, v, rfl, q1⟩ := hh
  refine ⟨I1.kIn, ?_⟩
  obtain ⟨u, rfl, ru⟩ := vals1 r1
  show wpAny _ _ (call (.ref C) [u]) _ _ _
  obtain ⟨hp, g, dr, tk, os⟩ := s1
  -- the new exception's place
  generalize hA : hp.objs.size + 1 = A'
  have hsz : hp.objs.size ≤ A' := by omega
  have fresh : H1 A' = none := I1.hok.fresh hsz
  have keep : ∀ b o, hp.get? b = some o → ((hp.push (PySem.W.kdv_tup [u])).push (PySem.HandSPX.excO C hp.objs.size)).get? b = some o :=
    fun b o e => Heap.get?_push_of_some _ (Heap.get?_push_of_some _ e)
  have hget : ((hp.push (PySem.W.kdv_tup [u])).push (PySem.HandSPX.excO C hp.objs.size)).get? A' = some (PySem.HandSPX.excO C hp.objs.size) := by
    subst hA
    heap_get
  have I2 : Inv X pins σ (upd H1 A' (exo A' C none)) ⟨(hp.push (PySem.W.kdv_tup [u])).push (PySem.HandSPX.excO C hp.objs.size), g, dr, tk, os⟩ :=
    I1.laid (t' := tk) keep hsz (exo_ok hget)
  have hsp : spXI X.K C f [.ref A', v] (upd H1 A' (exo A' C none)) (fun z H2 => z = .non ∧ ∃ d : Addr, H1 d = none ∧ d ≠ A' ∧
      H2 = upd (upd (upd H1 A' (exo A' C none)) d (exd d [(f, v)])) A' (exo A' C (some d))) (fun _ _ _ => False) := by
    refine ⟨A', v, rfl, T.oe, T.no, upd_same, fun d hd hne => ⟨rfl, d, ?_, hne, rfl⟩⟩
    rwa [upd_ne hne] at hd
  have r2 : Vals [V.ref A', v] [Value.ref A', u] := .cons rfl (.cons ru .nil)
  have hl : ([Value.ref A', u] ++ []).length = ps.length := by
    rw [← F.len _ _ _ _ hsp]
    rfl
  have b2 := hb ⟨(hp.push (PySem.W.kdv_tup [u])).push (PySem.HandSPX.excO C hp.objs.size), g, dr, tk, os⟩ [Value.ref A', u] I2.kIn hl
  rw [List.append_nil] at b2
  have hus : [u].length ≤ sizeLine := by
    rw [sizeLine_eq]
    exact (by decide : 1 ≤ 16777216)
  subst hA
  refine wpAny_call (PySem.HandSPX.call_own PySem.F.excBase_ValueError (fun Y => PySem.HandSPX.refsVE_contains Y bm hbm) (I1.kIn _ _ hC)
    (PySem.W.looks_findIn I1.kIn T.iC) (fun self => PySem.W.bind_fn I1.kIn self T.tI) hus
    (codeAny_mono (F.run _ X.stack _ _ ⟨[Value.ref _, u], []⟩ _ _ _ _ (hr.make C [u] []) (I2.env0.make C [u] []) b2 r2 hsp) fun r s' hq' => ?_))
  cases r with
  | error er => exact False.elim hq'
  | ok fl =>
    cases fl with
    | next => exact False.elim hq'
    | brk => exact False.elim hq'
    | cont => exact False.elim hq'
    | ret z =>
      obtain ⟨w', H2, os2, bare2, un2, hok2, rv, ev, d, hd1, hne, rfl⟩ := hq'
      subst ev
      obtain ⟨h2, g2, d2, t2, os'⟩ := s'
      have ea : (upd (upd (upd H1 (hp.objs.size + 1) (exo (hp.objs.size + 1) C none)) d (exd d [(f, v)])) (hp.objs.size + 1) (exo (hp.objs.size + 1) C (some d))) (hp.objs.size + 1) = some (exo (hp.objs.size + 1) C (some d)) := upd_same
      have ed : (upd (upd (upd H1 (hp.objs.size + 1) (exo (hp.objs.size + 1) C none)) d (exd d [(f, v)])) (hp.objs.size + 1) (exo (hp.objs.size + 1) C (some d))) d = some (exd d [(f, v)]) := by
        rw [upd_ne hne, upd_same]
      obtain ⟨t0, G, J, kG, ge, hoe, na⟩ := mk_end0 (d2 := d2) (t2 := t2) I1 hsz keep un2 hok2 os2 bare2 ea ed hd1
      have eH : upd (del (upd (upd (upd H1 (hp.objs.size + 1) (exo (hp.objs.size + 1) C none)) d (exd d [(f, v)])) (hp.objs.size + 1) (exo (hp.objs.size + 1) C (some d))) (hp.objs.size + 1)) d (.xd [(f, v)]) = upd H1 d (.xd [(f, v)]) := by
        funext b
        by_cases h1 : b = d
        · subst h1
          rw [upd_same, upd_same]
        · rw [upd_ne h1, upd_ne h1]
          by_cases h2 : b = hp.objs.size + 1
          · subst h2
            rw [del_same, fresh]
          · rw [del_ne h2, upd_ne h2, upd_ne h1, upd_ne h2]
      rw [eH] at J na
      refine ⟨rv, hp.objs.size + 1, _, _, ⟨G, g2, d2, t2, os'⟩, _, .ref C, some d, rfl, J, kG, ge, hoe, ⟨rfl, rfl, fun vs hv => ?_⟩, rfl, rfl, na, rfl, bare2, raises_own T.oe.exC T.oe.tyC, q1 d hd1⟩
      cases hv
      rfl
/-- raise X(e) -/
def tRaiseX (C : Addr) (f : Str) (W : WX) (ta : TA) : TS := fun _ σ H => tMkX C f ta σ H fun cls d H' => W cls d σ H'
theorem ps_raiseX {W : WX} {pos2 : Pos} (hc : X.calm = true) (tk : L2N.Takes X W) (T : XCls X.K X.mg x C fI f)
    (F : FnOk X.prog X.w X.K X.mg X.base CX0 k fI fd ps (spXI X.K C f)) (hr : Room (k + 1) X.A)
    (hb : Binds X.K fd ps []) (ha : PA X [e] ta) (hg : Gl X x := by rfl) (hdb : (x == ("__debug__" : Str)) = false := by decide)
    (he : starEach (e :: []) X.env = (false, eval e X.env) :: starEach [] X.env := by rfl)
    (hpl : (backTo pos (starEach [] X.env)).any (·.1) = false := by rfl) :
    PS X (.Raise (some (.Call (.Name x p) [e] [] pos)) none pos2) (tRaiseX C f W ta) :=
  L2N.ps_raise hc tk (pmk_x T F hr hb ha hg hdb he hpl)
end
end Ly

namespace Ly
open PySem PySem.Spec PyProof.Rows L2
section
variable {P : Program} {w : World} {K : PySem.W.Frag} {mg : Str → Option Value} {base : Heap} {x qual : Str} {st : Stmt} {f : Addr} {fd : FuncData} {N ps : List Str} {k : Nat} {sp : Sp}
/-! ### defs that may raise (the context of what they raise is None); the same where an exception is handled -/
theorem okN (F : Fun K x qual st f fd) (S : FnScope N ps (defScope st)) (len : ∀ vs H Q E, sp vs H Q E → vs.length = ps.length)
    (body : ∀ (cdv : Value) (A : Around) (outer : List Env) (s : Shared) (H : Hp) (vs : List V) (Q : VK) (E : XK),
      Room k (A.deeper (envOfC qual (defScope st) s.heap.objs.size f cdv)) → sp vs H Q E →
      ∃ t, PSs (cxOf (L2N.CX P w) P w K mg base N qual (defScope st) f cdv A outer s H E) (defBody st) t ∧
        t { nx := fun _ H' => Q .non H', rt := Q } (start N vs) H) :
    FnOk P w K mg base (L2N.CX P w) (k + 1) f fd ps sp := by
  obtain ⟨oc, od, kV, doc, pm, an, cdv, ct, osl, rfl, lk, hcd⟩ := F.ex
  exact fn_of lk hcd S len fun A outer s H vs Q E => body cdv A outer s H vs Q E
theorem okH (F : Fun K x qual st f fd) (S : FnScope N ps (defScope st)) (len : ∀ vs H Q E, sp vs H Q E → vs.length = ps.length)
    (body : ∀ (cdv : Value) (A : Around) (outer : List Env) (s : Shared) (H : Hp) (vs : List V) (Q : VK) (E : XK) (p : Addr × Obj), L2H.Hot1 A p →
      L2H.RoomH k (A.deeper (envOfC qual (defScope st) s.heap.objs.size f cdv)) → sp vs H Q E →
      ∃ t, PSs (L2H.cxH CX0 P w K mg base N qual (defScope st) f cdv A outer s H E p) (defBody st) t ∧
        t { nx := fun _ H' => Q .non H', rt := Q } (start N vs) H) :
    L2H.FnH P w K mg base CX0 (k + 1) f fd ps sp := by
  obtain ⟨oc, od, kV, doc, pm, an, cdv, ct, osl, rfl, lk, hcd⟩ := F.ex
  exact L2H.fn_ofH lk hcd S len fun A outer s H vs Q E p => body cdv A outer s H vs Q E p
/-- the law's own def: it runs once, from the ground (where no repr runs) -/
structure LawOk (P : Program) (w : World) (K : PySem.W.Frag) (mg : Str → Option Value) (base : Heap) (f : Addr) (sp : Sp) : Prop where
  run : ∀ (s : Shared) (H : Hp) (a : Addr) (Q : VK) (E : XK), Env0 P w K mg base callerA [] s H → sp [.ref a] H Q E →
    codeAny (model P w) callerA (.call (.ref f) ⟨[.ref a], []⟩) (CR (L2N.CX P w) [] P w H s Q E) s
theorem law_of (F : Fun K x qual st f fd) {y : Str} (S : FnScope N [y] (defScope st)) (hb : Binds K fd [y] []) (hr : Room (k + 1) callerA)
    (len : ∀ vs H Q E, sp vs H Q E → vs.length = [y].length)
    (body : ∀ (cdv : Value) (s : Shared) (H : Hp) (vs : List V) (Q : VK) (E : XK),
      Room k (callerA.deeper (envOfC qual (defScope st) s.heap.objs.size f cdv)) → sp vs H Q E →
      ∃ t, PSs (cxOf (L2N.CX P w) P w K mg base N qual (defScope st) f cdv callerA [] s H E) (defBody st) t ∧
        t { nx := fun _ H' => Q .non H', rt := Q } (start N vs) H) : LawOk P w K mg base f sp := by
  obtain ⟨oc, od, kV, doc, pm, an, cdv, ct, osl, rfl, lk, hcd⟩ := F.ex
  refine ⟨fun s H a Q E e0 h => ?_⟩
  have KX : K.In s.heap := e0.mod.kin.keeps fun b o e => (e0.bs b o e).1
  have lim : s.heap.NoLimit := e0.mod.nolimit.keeps fun b o e => (e0.bs b o e).1
  have bnd := hb s [.ref a] KX rfl
  have kinds : ∀ z ∈ [y].zip ([Value.ref a] ++ []), (defScope st).names.lookup z.1 = some .local ∨
      ((defScope st).names.lookup z.1 = some .cell ∧ ((cellsFrom (s.heap.objs.size + 1) (defScope st).names []).lookup z.1).isSome = true) := by
    intro z hz
    have : z = (y, Value.ref a) := by simpa using hz
    subst this
    rcases S.par y (by simp) with q | q
    · exact .inl q
    · exact .inr ⟨q, PySem.W.cellsFrom_some _ _ _ (.inl q)⟩
  refine codeAny_call_function hr.depth (KX _ _ lk) rfl S.co S.gen rfl (PySem.W.codeRec_of KX hcd) (bnd _ _ _ _ ?_)
  refine wpAny_newFunctionEnv_cells S.kind kinds fun env he s1 z => ?_
  subst he
  refine ⟨lim.keeps z.toInCall.keep, codeAny_func ?_⟩
  obtain ⟨t, ht, hq⟩ := body cdv s H [.ref a] Q E (hr.deeper _) h
  have I := inv_start (CX := L2N.CX P w) (cd := cdv) (qual := qual) (f := f) (E := E) S hr.hd e0 (vs := [.ref a]) (us := [.ref a]) rfl (.cons rfl .nil) z
  refine wpAny_mono (ht.run [] s1 _ H _ I hq) (fun fl s' hs => ?_) fun e s' hs => hs
  cases fl with
  | next =>
    obtain ⟨σ', H', J, q⟩ := hs
    exact ⟨.non, H', J.os, J.bare, J.base, J.hok, rfl, q⟩
  | ret u =>
    obtain ⟨v, σ', H', J, rv, q⟩ := hs
    exact ⟨v, H', J.os, J.bare, J.base, J.hok, rv, q⟩
  | brk =>
    obtain ⟨_, _, _, q⟩ := hs
    exact q.elim
  | cont =>
    obtain ⟨_, _, _, q⟩ := hs
    exact q.elim
end
end Ly

namespace Ly
open PySem PySem.Spec PyProof.Rows L2
/-! ### the head of a law that is run from the ground -/
section
variable {P : Program} {w : World} {K : PySem.W.Frag} {mg mb : Str → Option Value} {fa a : Addr} {sp : Sp} {t : Shared} {us : List Value} {ns : List Int}
/-- over an abstract heap that tracks nothing but the script -/
theorem ground_run {H : Hp} (KX : K.In t.heap) (gm : t.heap.Ns mainGlobals mg) (gb : t.heap.Ns builtinsNs mb) (hbb : ∀ x : Str, x ≠ "__name__" → mb x = bootBuiltins x)
    (lim : t.heap.NoLimit) (gens : t.gens = #[]) (ha : t.heap.get? a = some { cls := .type "list", data := .seq us.toArray })
    (F : ∀ base : Heap, K.In base → base.Ns mainGlobals mg → LawOk P w K mg base fa sp)
    (only : Only H) (q : sp [.ref a] H (fun v _ => v = .bl true) fun _ _ _ => False) (ok : HOk P w H t.heap) (mine : ∀ b, H b ≠ none → b = a) (apart : H a ≠ none → K.lookup a = none) :
    codeAny (model P w) callerA (.call (.ref fa) ⟨[.ref a], []⟩) (fun r s' => r = .ok (.ret (.bool true)) ∧ OldK t.heap s'.heap ∧ s'.os = t.os ∧ AllBare s'.gens) t := by
  have stays : ∀ {b : Addr} {o : Obj}, t.heap.get? b = some o → b ≠ a → (hidT t.heap H).get? b = some o := fun {b o} e hne => by
    refine hidT_get e ?_
    cases hb : H b with
    | none => rfl
    | some u => exact absurd (mine b (by simp [hb])) hne
  have spaces : ∀ {b : Addr} {m : Str → Option Value}, t.heap.Ns b m → (hidT t.heap H).Ns b m := fun {b m} hs => by
    obtain ⟨o, es, ep, e, d, rest⟩ := hs
    refine ⟨o, es, ep, stays e (fun z => ?_), d, rest⟩
    subst z
    rw [ha] at e
    cases e
    cases d
  have written : K.In (hidT t.heap H) := fun b o e => by
    by_cases hb : H b = none
    · exact hidT_get (KX b o e) hb
    · have := mine b hb
      subst this
      rw [apart hb] at e
      cases e
  have md : Mod K mg (hidT t.heap H) := by
    obtain ⟨mc, l1, l2⟩ := lim
    exact ⟨written, spaces gm, ⟨mb, spaces gb, hbb⟩, ⟨mc, spaces l1, l2⟩⟩
  have e0 : Env0 P w K mg (hidT t.heap H) callerA [] t H :=
    { frames := rfl, mod := md, bs := fun b o e => of_hidT e, bsz := Nat.le_of_eq (hidT_size _ _), funs := trivial, frf := fun b hb => (nomatch hb), hok := ok, bare := .of_eq gens }
  refine codeAny_mono ((F _ written (spaces gm)).run t H a _ _ e0 q) fun r s' hr => ?_
  match r, hr with
  | .error e, hr =>
    obtain ⟨_, _, _, _, _, _, _, _, _, _, _, _, z⟩ := hr
    exact z.elim
  | .ok .next, hr => exact False.elim hr
  | .ok .brk, hr => exact False.elim hr
  | .ok .cont, hr => exact False.elim hr
  | .ok (.ret u), hr =>
    obtain ⟨v, H', os, bare, un, ok', ru, qv⟩ := hr
    cases (show v = .bl true from qv)
    cases (show u = Value.bool true from ru)
    refine ⟨rfl, OldK.of_keep fun b o e => ?_, os, bare⟩
    rcases only b with hb | ⟨ob, xs, hb⟩
    · exact un.keep b o e hb (fun z => nomatch z) (fun z => nomatch z)
    · have e1 := (ok b _ hb).1
      have e2 := (ok' b _ (un.frzs b ob _ hb)).1
      rw [e] at e1
      cases e1
      exact e2
theorem ground_call (KX : K.In t.heap) (gm : t.heap.Ns mainGlobals mg) (gb : t.heap.Ns builtinsNs mb) (hbb : ∀ x : Str, x ≠ "__name__" → mb x = bootBuiltins x)
    (lim : t.heap.NoLimit) (gens : t.gens = #[]) (ha : t.heap.get? a = some { cls := .type "list", data := .seq us.toArray }) (hi : IntsAre us ns) (hl : ns.length ≤ sizeLine)
    (F : ∀ base : Heap, K.In base → base.Ns mainGlobals mg → LawOk P w K mg base fa sp)
    (q : ∀ H : Hp, Only H → SqL K H a (ns.map V.int) → sp [.ref a] H (fun v _ => v = .bl true) fun _ _ _ => False) :
    codeAny (model P w) callerA (.call (.ref fa) ⟨[.ref a], []⟩) (fun r s' => r = .ok (.ret (.bool true)) ∧ OldK t.heap s'.heap ∧ s'.os = t.os ∧ AllBare s'.gens) t := by
  have rv := vals_ints hi
  cases hk : K.lookup a with
  | some o =>
    have e := KX a o hk
    rw [ha] at e
    cases e
    have only : Only fun _ => none := fun _ => .inl rfl
    refine ground_run (H := fun _ => none) KX gm gb hbb lim gens ha F only (q _ only (.inr ?_)) (fun b u z => nomatch z) (fun b z => absurd rfl z) (fun z => absurd rfl z)
    exact ⟨_, us.toArray, _, hk, rfl, rfl, rfl, by rw [List.size_toArray, hi.length]; exact hl, by simpa using rv⟩
  | none =>
    generalize hH : (fun b => if b = a then some (HO.frz { cls := .type "list", data := .seq us.toArray } (.lst (ns.map V.int))) else none : Hp) = H
    have at_a : H a = some (.frz { cls := .type "list", data := .seq us.toArray } (.lst (ns.map V.int))) := by
      subst hH
      exact if_pos rfl
    have off : ∀ b, b ≠ a → H b = none := fun b hb => by
      subst hH
      exact if_neg hb
    have only : Only H := fun b => by
      by_cases hb : b = a
      · exact .inr ⟨_, _, hb ▸ at_a⟩
      · exact .inl (off b hb)
    refine ground_run KX gm gb hbb lim gens ha F only (q H only (.inl (.inr ⟨_, at_a⟩))) (fun b u z => ?_) (fun b z => ?_) (fun _ => hk)
    · by_cases hb : b = a
      · subst hb
        rw [at_a] at z
        cases z
        exact ⟨ha, by rw [List.length_map]; exact hl, us, _, rv, ha⟩
      · rw [off b hb] at z
        cases z
    · exact Decidable.byContradiction fun hb => z (off b hb)
end
theorem walkG {l : PySem.W.OpenLaw} {n : Nat} {q : Program} {loose : List Str} {XP : (Str → Option Value) → Heap → Prop} {YP : World → Heap → Prop} {d : DefRec} {K : Params → PySem.W.Frag} {sp : World → Sp}
    (hn : l.most = some n) (hn2 : n ≤ sizeLine) (hdf : d.params.defaults = []) (hY : ∀ (w : World) (h : Heap), YP w h → (K w.params).In h)
    (F : ∀ (w : World) (mg : Str → Option Value) (fa : Addr) (h : Heap), (K w.params).In h → h.Ns mainGlobals mg → mg d.name = some (.ref fa) →
      ∀ base : Heap, (K w.params).In base → base.Ns mainGlobals mg → LawOk l.prog w (K w.params) mg base fa (sp w))
    (hsp : ∀ (w : World) (H : Hp) (a : Addr) (ns : List Int), ns.length ≤ n → Only H → SqL (K w.params) H a (ns.map V.int) → sp w [.ref a] H (fun v _ => v = .bl true) fun _ _ _ => False) :
    PySem.W.WalkO q loose XP YP l.row.toRowW d [] (fun f vs => PySem.call f vs) := by
  refine Att.attach_call hn hdf fun w s₀ s₁ mg mb fa o pm cd doc a vs ns G Y ho hd hcd hmg hobj hints hlen hg => ?_
  have KX := hY w _ Y
  exact ground_call KX G.T.g G.T.b G.T.builtins G.T.nolimit hg hobj hints (Nat.le_trans hlen hn2) (F w mg fa _ KX G.T.g hmg) fun H hO hS => hsp w H a ns hlen hO hS
end Ly

namespace Ly
open PySem PySem.Spec PyProof.Rows L2
section
variable {X : Cx}
theorem op_plus : OpR X (binaryOp .Add) (fun x y H Q => (rI0 fun i j => .int (i + j)) x y H Q ∨ (∃ i j, x = .str i ∧ y = .str j ∧ i.length + j.length ≤ sizeLine ∧ Q (.str (i ++ j)) H)) := op_add.or op_add_str
theorem op_times : OpR X (binaryOp .Mult) (fun x y H Q => (rI CMul fun i j => .int (i * j)) x y H Q ∨ rMulS x y H Q) := op_mul.or op_mulS
/-- in: one sign in a text, or an item in a list or tuple -/
def rWithin (K : PySem.W.Frag) : R2 := fun x y H Q => (∃ (c : Nat) (z : Str), x = .str ⟨#[c]⟩ ∧ y = .str z ∧ Q (.bl (decide (c ∈ z.cps.toList))) H) ∨ rIn K false x y H Q
theorem op_within : OpR X (compareOp .In) (rWithin X.K) := op_in_sign.or op_in_seq
theorem cr_or {f : Value} {r r' : List V → Hp → VK → Prop} (h : CallR X f r) (h' : CallR X f r') : CallR X f (fun xs H Q => r xs H Q ∨ r' xs H Q) :=
  fun pins s σ H xs us Q I rx q => q.elim (fun q => h pins s σ H xs us Q I rx q) fun q => h' pins s σ H xs us Q I rx q
def rInt : List V → Hp → VK → Prop := fun xs H Q => ((∃ i, xs = [.int i] ∧ Q (.int i) H) ∨ ∃ k, xs = [.bl k] ∧ Q (.int (if k then 1 else 0)) H) ∨
  ∃ (a : Str) (n : Int), xs = [.str a] ∧ PySem.intText? a = some n ∧ a.length ≤ 640 ∧ Q (.int n) H
theorem call_intX : CallR X (.type "int") rInt := cr_or call_int1 call_int_str
end
theorem hu_of64 {A : Around} {k : Nat} (hr : Room k A) : A.units + 64 < cLine := hr.units
theorem hu_of128 {A : Around} {k : Nat} (hr : Room k A) : A.units + 128 < cLine := by
  have := hr.un
  omega
theorem XCls.xfc {K : PySem.W.Frag} {mg : Str → Option Value} {x : Str} {C fI : Addr} {f : Str} (T : XCls K mg x C fI f) : XfC K C := ⟨T.xf.1, T.xf.2.1, T.oe.exC, T.xf.2.2⟩
theorem exm_self {K : PySem.W.Frag} {S : Addr} (h1 : PySem.W.subIn K (.ref S) (.type "BaseException") = some true) (h2 : PySem.W.isClsIn K S = true)
    (h3 : PySem.W.typeIn K (.ref S) = some (.type "type")) (h4 : PySem.W.subIn K (.ref S) (.ref S) = some true) : PySem.W.exmOne K (.ref S) (.ref S) = some true := by
  have h2' : (PySem.W.clsIn K S).isSome = true := h2
  have e1 : (PySem.W.subIn K (.ref S) (.type "BaseException") == some true) = true := by rw [h1]; rfl
  have e3 : (PySem.W.typeIn K (.ref S) == some (.type "type")) = true := by rw [h3]; exact beq_self_eq_true _
  simp only [PySem.W.exmOne, PySem.W.kitCls, e1, if_true, h2', e3, Bool.and_self, h4]
theorem xcls_mk {K : PySem.W.Frag} {mg : Str → Option Value} {x : Str} {C fI : Addr} {f : Str} {nm q : Str} {N : Addr} {bs bm : List Value} {sn : List Str} {sub : List Value} {ab : Bool} {col : Option Bool} {dd : Option Addr} {k0 k1 k2 k3 k5 : Option Value}
    (gC : mg x = some (.ref C)) (xL : K.lookup C = some (excClassObj nm q C N bs bm true sn sub ab col dd k0 k1 k2 k3 k5 "ValueError.__new__")) (rf : PySem.HandSPX.refsVE bm = true)
    (sa : PySem.W.findIn K (.ref C) "__setattr__" = some (some (.builtin "object.__setattr__"))) (ga : PySem.W.findIn K (.ref C) "__getattribute__" = some (some (.builtin "BaseException.__getattribute__")))
    (gg : PySem.W.findIn K (.ref C) "__getattr__" = some none) (no : PySem.W.findIn K (.ref C) f = some none) (iC : PySem.W.findIn K (.ref C) "__init__" = some (some (.ref fI))) (tI : PySem.W.typeIn K (.ref fI) = some (.type "function"))
    (kC : PySem.W.keepIn K (.ref C) = true) (eC : PySem.W.subIn K (.ref C) (.type "BaseException") = some true) (tC : PySem.W.typeIn K (.ref C) = some (.type "type")) (hC : PySem.W.hasDictIn K C = true) (cC : PySem.W.isClsIn K C = true)
    (sC : PySem.W.subIn K (.ref C) (.ref C) = some true) : XCls K mg x C fI f where
  oe := ⟨⟨nm, q, N, bs, bm, sn, sub, ab, col, dd, k0, k1, k2, k3, k5, xL, rf⟩, sa, eC, tC, kC⟩
  gC := gC
  iC := iC
  tI := tI
  no := no
  xf := ⟨ga, gg, hC⟩
  me := exm_self eC cC tC sC
/-- the suite of an except clause is a place where an exception is handled -/
theorem hotc {X : Cx} {a : Addr} {oe : Obj} {cls : Value} {d : Option Addr} {pn : List (Addr × Obj)} (hz : L2N.Zn cls d oe) (hf : ∃ vs, oe.data = .fields vs) : L2H.HotC (X.suite a ((a, oe) :: pn)) := by
  obtain ⟨vs, hd⟩ := hf
  exact ⟨(a, oe), ⟨rfl, vs, hd, hz.2.2 vs hd⟩, List.mem_cons_self⟩
theorem passH {X : Cx} {σ : L2.St} {E : XK} : PassesAt CX0 X σ E := fun _ _ _ _ _ _ c => c.elim
theorem ok_xinit {P : Program} {w : World} {K : PySem.W.Frag} {mg : Str → Option Value} {base : Heap} {qual : Str} {st : Stmt} {f C : Addr} {fd : FuncData} {fl : Str} (F : Fun K "__init__" qual st f fd)
    (S : FnScope (["self", fl] : List Str) (["self", fl] : List Str) (defScope st)) (d : ∀ X : Cx, X.K = K → X.N = (["self", fl] : List Str) → X.env.scope = defScope st → PSs X (defBody st) (tOst K fl (tVar 0) (tVar 1))) :
    FnOk P w K mg base CX0 1 f fd (["self", fl] : List Str) (spXI K C fl) := by
  refine F.ok S (fun vs H Q E h => ?_) (fun cdv A outer s H vs Q E hr h => ?_)
  · obtain ⟨a, v, rfl, _⟩ := h
    rfl
  · obtain ⟨a, v, rfl, T, no, ea, q⟩ := h
    exact ⟨_, d _ rfl rfl rfl, v, rfl, .ref a, rfl, a, C, rfl, T, no, .inl ⟨ea, fun dx n ne => q dx n ne⟩⟩
/-! ### the built-ins by name -/
theorem bt_len : bootBuiltins "len" = some (.builtin "len") := by decide +kernel
theorem bt_min : bootBuiltins "min" = some (.builtin "min") := by decide +kernel
theorem bt_max : bootBuiltins "max" = some (.builtin "max") := by decide +kernel
theorem bt_abs : bootBuiltins "abs" = some (.builtin "abs") := by decide +kernel
theorem bt_repr : bootBuiltins "repr" = some (.builtin "repr") := by decide +kernel
theorem bt_isinstance : bootBuiltins "isinstance" = some (.builtin "isinstance") := by decide +kernel
theorem bt_int : bootBuiltins "int" = some (.type "int") := by decide +kernel
theorem bt_str : bootBuiltins "str" = some (.type "str") := by decide +kernel
theorem bt_list : bootBuiltins "list" = some (.type "list") := by decide +kernel
theorem bt_tuple : bootBuiltins "tuple" = some (.type "tuple") := by decide +kernel
theorem bt_bool : bootBuiltins "bool" = some (.type "bool") := by decide +kernel
theorem bt_range : bootBuiltins "range" = some (.type "range") := by decide +kernel
theorem rmark {k : Nat} {A : Around} (r : Room k A) (h : Option Value) : L2H.RoomH k (A.mark h) := ⟨r.dp, r.un⟩
theorem hu_mark {A : Around} {k : Nat} {h : Option Value} (hr : Room k A) : (A.mark h).units + 64 < cLine := hr.units
/-! ### the same with the written part by name (for suites, whose context holds more than the reading may name) -/
section
variable {X : Cx} {K : PySem.W.Frag}
theorem call_lenK (h : X.K = K) : CallR X (.builtin "len") (fun xs H Q => ∃ x n, xs = [x] ∧ LenV K x H n ∧ Q (.int (n : Nat)) H) := by
  subst h
  exact call_len
theorem ix_seqK (h : X.K = K) : IxR X (rIx K) := by
  subst h
  exact ix_seq
theorem op_withinK (h : X.K = K) : OpR X (compareOp .In) (rWithin K) := by
  subst h
  exact op_within
end
end Ly

/-! ### what the lexer computes, over lists of codes -/
namespace Lx
open PySem TL
def letters : List Nat := tl ("abcdefghijklmnopqrstuvwxyzABCDEFGHIJKLMNOPQRSTUVWXYZ" : Str)
def digits : List Nat := tl ("0123456789" : Str)
def naming : List Nat := tl ("abcdefghijklmnopqrstuvwxyzABCDEFGHIJKLMNOPQRSTUVWXYZ0123456789_" : Str)
def blanks : List Nat := tl (" \t\n" : Str)
def inS (S : List Nat) (c : Nat) : Bool := decide (c ∈ S)
def run (S : List Nat) (l : List Nat) : Nat := (l.takeWhile (inS S)).length
theorem run_nil (S : List Nat) : run S [] = 0 := rfl
theorem run_in {S r : List Nat} {c : Nat} (h : inS S c = true) : run S (c :: r) = run S r + 1 := by
  unfold run
  rw [List.takeWhile_cons_of_pos h]
  rfl
theorem run_out {S r : List Nat} {c : Nat} (h : inS S c = false) : run S (c :: r) = 0 := by
  unfold run
  rw [List.takeWhile_cons_of_neg (by simp [h])]
  rfl
theorem run_le (S l : List Nat) : run S l ≤ l.length := (List.takeWhile_sublist _).length_le
theorem take_run (S l : List Nat) : l.take (run S l) = l.takeWhile (inS S) := by
  induction l with
  | nil => rfl
  | cons c r ih =>
    cases h : inS S c with
    | true => rw [run_in h, List.take_succ_cons, ih, List.takeWhile_cons_of_pos h]
    | false => rw [run_out h, List.takeWhile_cons_of_neg (by simp [h])]; rfl
/-- how many signs are passed over; true: within a comment -/
def skip : Bool → List Nat → Nat
  | _, [] => 0
  | false, c :: r => if c = 35 then skip true r + 1 else if inS blanks c = true then skip false r + 1 else 0
  | true, c :: r => if c = 10 then skip false r + 1 else skip true r + 1
theorem skip_le : ∀ (b : Bool) (l : List Nat), skip b l ≤ l.length
  | _, [] => by simp [skip]
  | false, c :: r => by
    have h1 := skip_le true r
    have h2 := skip_le false r
    unfold skip
    split
    · simp; omega
    · split
      · simp; omega
      · simp
  | true, c :: r => by
    have h1 := skip_le true r
    have h2 := skip_le false r
    unfold skip
    split <;> simp <;> omega
/-- to the end of a comment -/
def toEnd (l : List Nat) : Nat := (l.takeWhile fun c => decide (c ≠ 10)).length
theorem toEnd_le (l : List Nat) : toEnd l ≤ l.length := (List.takeWhile_sublist _).length_le
theorem toEnd_cons {c : Nat} {r : List Nat} (h : c ≠ 10) : toEnd (c :: r) = toEnd r + 1 := by
  unfold toEnd
  rw [List.takeWhile_cons_of_pos (by simp [h])]
  rfl
theorem toEnd_10 (r : List Nat) : toEnd (10 :: r) = 0 := by
  unfold toEnd
  rw [List.takeWhile_cons_of_neg (by simp)]
  rfl
theorem skip_true : ∀ l : List Nat, skip true l = toEnd l + skip false (l.drop (toEnd l))
  | [] => rfl
  | c :: r => by
    by_cases h : c = 10
    · subst h
      rw [toEnd_10]
      simp only [skip, if_true, List.drop_zero, Nat.zero_add]
      have : inS blanks 10 = true := by decide
      rw [this]
      simp
    · rw [toEnd_cons h, List.drop_succ_cons]
      have ih := skip_true r
      simp only [skip, if_neg h]
      omega
theorem skip_hash (r : List Nat) : skip false (35 :: r) = toEnd (35 :: r) + skip false ((35 :: r).drop (toEnd (35 :: r))) := by
  have h := skip_true r
  rw [toEnd_cons (by decide), List.drop_succ_cons]
  simp only [skip, if_true]
  omega
theorem skip_blank {c : Nat} {r : List Nat} (h : inS blanks c = true) : skip false (c :: r) = skip false r + 1 := by
  have h35 : c ≠ 35 := by
    intro e
    subst e
    exact absurd h (by decide)
  simp only [skip, if_neg h35, if_pos h]
theorem skip_stop {c : Nat} {r : List Nat} (h : inS blanks c = false) (h35 : c ≠ 35) : skip false (c :: r) = 0 := by
  simp [skip, h35, h]
/-- a token, without its place -/
inductive Tkn where
  | word (w : Str)
  | name (w : Str)
  | num (t b : Nat)
  | sign (w : Str)
def resV : List L2.V := [.str "and", .str "base", .str "else", .str "false", .str "from", .str "fun", .str "if", .str "in", .str "iterate", .str "let", .str "not", .str "or", .str "show", .str "then", .str "true", .str "unit"]
def sgns : List Str := ["<=", "==", "=", "<", "+", "-", "*", "/", "^", ",", ";", ":", "(", ")", "[", "]"]
def isRes (w : Str) : Bool := L2.inV (.str w) resV
def mk (l : List Nat) : Str := ⟨l.toArray⟩
theorem tl_of (l : List Nat) : tl (mk l) = l := rfl
theorem mk_len (l : List Nat) : (mk l).length = l.length := by
  rw [len_tl, tl_of]
def nmAt (l : List Nat) : Option (Tkn × Nat) :=
  if isRes (mk (l.take (run naming l))) = true then some (.word (mk (l.take (run naming l))), run naming l)
  else if 16 < run naming l then none else some (.name (mk (l.take (run naming l))), run naming l)
def fracAt (l : List Nat) : List Nat := match l with
  | [] => []
  | c :: r => if c = 46 then r.takeWhile (inS digits) else []
theorem fracAt_cons (c : Nat) (r : List Nat) : fracAt (c :: r) = if c = 46 then r.takeWhile (inS digits) else [] := rfl
theorem fracAt_le (l : List Nat) : (fracAt l).length ≤ l.length := by
  cases l with
  | nil => exact Nat.le_refl _
  | cons c r =>
    rw [fracAt_cons]
    split
    · have := (List.takeWhile_sublist (inS digits) (l := r)).length_le
      simp
      omega
    · simp
theorem fracAt_lt {l : List Nat} (h : fracAt l ≠ []) : (fracAt l).length + 1 ≤ l.length := by
  cases l with
  | nil => exact absurd rfl h
  | cons c r =>
    rw [fracAt_cons] at h ⊢
    split at h
    · rename_i hc
      rw [if_pos hc]
      have := (List.takeWhile_sublist (inS digits) (l := r)).length_le
      simp
      omega
    · exact absurd rfl h
theorem fracAt_digs (l : List Nat) : ∀ c ∈ fracAt l, inS digits c = true := by
  cases l with
  | nil => intro c hc; cases hc
  | cons a r =>
    intro c hc
    rw [fracAt_cons] at hc
    split at hc
    · exact List.all_eq_true.mp (List.all_takeWhile (l := r)) c hc
    · cases hc
theorem all_digs {S : List Nat} (h : ∀ c ∈ S, inS digits c = true) : NumText.AllDigits S := fun c hc => by
  have h1 : c ∈ digits := of_decide_eq_true (h c hc)
  have h2 : ∀ c ∈ digits, 48 ≤ c ∧ c ≤ 57 := by decide
  exact h2 c h1
def numEnd (l : List Nat) : Nat := if fracAt (l.drop (run digits l)) = [] then run digits l else run digits l + 1 + (fracAt (l.drop (run digits l))).length
def headIn (S l : List Nat) : Bool := match l with
  | [] => false
  | c :: _ => inS S c
def nrAt (l : List Nat) : Option (Tkn × Nat) :=
  if 6 < run digits l ∨ 5 ≤ (fracAt (l.drop (run digits l))).length then none
  else if headIn naming (l.drop (numEnd l)) = true then none
  else some (.num (NumText.digitsVal (l.take (run digits l) ++ fracAt (l.drop (run digits l)))) (10 ^ (fracAt (l.drop (run digits l))).length), numEnd l)
def sgAt (l : List Nat) : Option (Tkn × Nat) := (sgns.find? fun s => (tl s).isPrefixOf l).map fun s => (.sign s, s.length)
def tokAt (l : List Nat) : Option (Tkn × Nat) := match l with
  | [] => none
  | c :: _ => if inS letters c = true then nmAt l else if inS digits c = true then nrAt l else sgAt l
theorem tokAt_cons (c : Nat) (r : List Nat) : tokAt (c :: r) = if inS letters c = true then nmAt (c :: r) else if inS digits c = true then nrAt (c :: r) else sgAt (c :: r) := rfl
/-- from a token's start to a token's start, by these tokens -/
inductive LexTo : Nat → List Nat → List (Tkn × Nat) → Nat → List Nat → Prop
  | refl {i : Nat} {l : List Nat} : LexTo i l [] i l
  | step {i j n : Nat} {l l' : List Nat} {t : Tkn} {ts : List (Tkn × Nat)} : tokAt l = some (t, n) →
      LexTo (i + n + skip false (l.drop n)) ((l.drop n).drop (skip false (l.drop n))) ts j l' → LexTo i l ((t, i) :: ts) j l'
theorem LexTo.trans {i j k : Nat} {l l' l'' : List Nat} {ts us : List (Tkn × Nat)} (h : LexTo i l ts j l') (h' : LexTo j l' us k l'') : LexTo i l (ts ++ us) k l'' := by
  induction h with
  | refl => exact h'
  | step e _ ih => exact .step e (ih h')
/-! ### progress -/
theorem letter_naming {c : Nat} (h : inS letters c = true) : inS naming c = true := by
  have h1 : c ∈ letters := of_decide_eq_true h
  have h2 : ∀ c ∈ letters, inS naming c = true := by decide
  exact h2 c h1
theorem numEnd_ge (l : List Nat) : run digits l ≤ numEnd l := by
  unfold numEnd
  split <;> omega
theorem tokAt_pos {l : List Nat} {t : Tkn} {n : Nat} (h : tokAt l = some (t, n)) : 1 ≤ n ∧ n ≤ l.length := by
  cases l with
  | nil => cases h
  | cons c r =>
    simp only [tokAt] at h
    split at h
    · rename_i hc
      have h1 : run naming (c :: r) = run naming r + 1 := run_in (letter_naming hc)
      have h2 := run_le naming (c :: r)
      unfold nmAt at h
      split at h
      · cases h
        omega
      · split at h
        · cases h
        · cases h
          omega
    · split at h
      · rename_i hc
        have h1 : run digits (c :: r) = run digits r + 1 := run_in hc
        have h2 := run_le digits (c :: r)
        have h3 := numEnd_ge (c :: r)
        unfold nrAt at h
        split at h
        · cases h
        · split at h
          · cases h
          · cases h
            refine ⟨by omega, ?_⟩
            unfold numEnd
            split
            · exact h2
            · rename_i hne
              have h4 : (fracAt ((c :: r).drop (run digits (c :: r)))).length + 1 ≤ ((c :: r).drop (run digits (c :: r))).length := by
                generalize (c :: r).drop (run digits (c :: r)) = m at hne
                cases m with
                | nil => exact absurd rfl hne
                | cons d q =>
                  by_cases hd : d = 46
                  · have := (List.takeWhile_sublist (inS digits) (l := q)).length_le
                    simp only [fracAt, if_pos hd, List.length_cons]
                    omega
                  · exact absurd (by simp only [fracAt, if_neg hd]) hne
              rw [List.length_drop] at h4
              omega
      · unfold sgAt at h
        cases e : sgns.find? fun s => (tl s).isPrefixOf (c :: r) with
        | none => rw [e] at h; cases h
        | some s =>
          rw [e] at h
          cases h
          have hm := List.mem_of_find?_eq_some e
          have hp := List.find?_some e
          have hl : ∀ s ∈ sgns, 1 ≤ s.length := by decide
          refine ⟨hl s hm, ?_⟩
          have := (List.isPrefixOf_iff_prefix.mp hp).length_le
          rw [← len_tl] at this
          exact this
/-! ### the text's own functions -/
theorem find_nl (z : Str) {i : Nat} (h : i ≤ z.length) : Txt.find3 z "\n" (i : Int) = if i + toEnd ((tl z).drop i) < z.length then ((i + toEnd ((tl z).drop i) : Nat) : Int) else -1 := by
  have hf : PySem.Txt.find3 z "\n" (i : Int) = (match Builtin.Str.occurrences z "\n" i z.length 1 with | k :: _ => (k : Int) | [] => -1) := by
    unfold PySem.Txt.find3
    have : fromIndex z.length (i : Int) = i := by
      unfold fromIndex
      rw [if_neg (by omega)]
      omega
    rw [this]
    split <;> rename_i h1 <;> split <;> rename_i h2 <;> rw [h1] at h2 <;> simp_all
  have at_ : ∀ k, StrLaws.At z "\n" z.length k ↔ (tl z)[k]? = some 10 := fun k => StrLaws.subAt_one z 10 k
  have hz : z.length = (tl z).length := len_tl z
  have inside : ∀ k, k < toEnd ((tl z).drop i) → (tl z)[i + k]? ≠ some 10 := fun k hk e => by
    have h1 : ((tl z).drop i)[k]? = some 10 := by rw [List.getElem?_drop]; exact e
    have h2 : (((tl z).drop i).takeWhile fun c => decide (c ≠ 10))[k]? = some 10 := by
      have := List.takeWhile_prefix (fun c => decide (c ≠ 10)) (l := (tl z).drop i)
      obtain ⟨t, ht⟩ := this
      rw [← ht, List.getElem?_append_left hk] at h1
      exact h1
    have h3 := List.all_takeWhile (p := fun c => decide (c ≠ 10)) (l := (tl z).drop i)
    have h4 := List.all_eq_true.mp h3 10 (List.mem_of_getElem? h2)
    simp at h4
  have stop : i + toEnd ((tl z).drop i) < z.length → (tl z)[i + toEnd ((tl z).drop i)]? = some 10 := fun hlt => by
    have key : ∀ l : List Nat, toEnd l < l.length → l[toEnd l]? = some 10 := by
      intro l
      induction l with
      | nil => intro h; simp [toEnd] at h
      | cons c r ih =>
        intro h
        by_cases hc : c = 10
        · subst hc
          rw [toEnd_10]
          rfl
        · rw [toEnd_cons hc] at h ⊢
          rw [List.getElem?_cons_succ]
          exact ih (by simpa using h)
    have := key ((tl z).drop i) (by rw [List.length_drop]; omega)
    rw [List.getElem?_drop] at this
    exact this
  rw [hf]
  rcases StrLaws.occ_head_from z "\n" i 1 (Nat.le_refl 1) with ⟨e, hn⟩ | ⟨k, r, e, h1, h2, h3⟩
  · rw [e, if_neg fun hlt => ?_]
    exact hn _ (Nat.le_add_right _ _) ((at_ _).mpr (stop hlt))
  · rw [e]
    have hk := (at_ k).mp h2
    have hkl : k < z.length := by
      rw [hz]
      exact (List.getElem?_eq_some_iff.mp hk).1
    have g1 : i + toEnd ((tl z).drop i) ≤ k := Nat.le_of_not_lt fun hlt => inside (k - i) (by omega) (by rw [Nat.add_sub_cancel' h1]; exact hk)
    have g2 : k ≤ i + toEnd ((tl z).drop i) := Nat.le_of_not_lt fun hlt => h3 _ (Nat.le_add_right _ _) hlt ((at_ _).mpr (stop (by omega)))
    have : k = i + toEnd ((tl z).drop i) := by omega
    rw [if_pos (by omega), this]
theorem starts_eq (z s : Str) {i : Nat} (h : i ≤ z.length) : Txt.startswith3 z s (i : Int) = (tl s).isPrefixOf ((tl z).drop i) := by
  have hz : z.length = (tl z).length := len_tl z
  have hs : s.length = (tl s).length := len_tl s
  have e : fromIndex z.length (i : Int) = i := by
    unfold fromIndex
    rw [if_neg (by omega)]
    omega
  unfold Txt.startswith3
  rw [e, StrLaws.subAt_eq, hs]
  rw [Bool.eq_iff_iff, Bool.and_eq_true, decide_eq_true_eq, List.isPrefixOf_iff_prefix, beq_iff_eq]
  constructor
  · rintro ⟨_, e⟩
    refine ⟨((tl z).drop i).drop (tl s).length, ?_⟩
    have h5 := List.take_append_drop (tl s).length ((tl z).drop i)
    have e' : List.take (tl s).length ((tl z).drop i) = tl s := e
    rw [e'] at h5
    exact h5
  · rintro ⟨t, e⟩
    refine ⟨?_, ?_⟩
    · have := congrArg List.length e
      rw [List.length_append, List.length_drop] at this
      omega
    · rw [← e]
      exact List.take_left
theorem cut_eq (z : Str) {i j : Nat} (h : i ≤ j) (hj : j ≤ z.length) : L2.cutS z (some (i : Int)) (some (j : Int)) = mk (((tl z).drop i).take (j - i)) := by
  unfold L2.cutS
  rw [HT.sIx_nat, HT.sIx_nat, Nat.min_eq_left hj, Nat.min_eq_left (Nat.le_trans h hj)]
  rfl
end Lx
namespace Lx
open PySem PySem.Spec PyProof.Rows L2 Ly
/-! ### data that stays as the heap goes on -/
mutual
/-- no list in it -/
def noL : PyData → Bool
  | .list _ => false
  | .tuple ds => noLs ds
  | .dict _ => false
  | _ => true
def noLs : List PyData → Bool
  | [] => true
  | d :: ds => noL d && noLs ds
end
section
variable {K : PySem.W.Frag} {H H' : Hp}
mutual
theorem dp_keep (hT : ∀ a xs, SqT K H a xs → SqT K H' a xs) : ∀ (d : PyData) (v : V), noL d = true → Dp K H v d → Dp K H' v d
  | .none, _, _, h => by cases h; exact .non
  | .bool b, _, _, h => by cases h; exact .bl b
  | .int i, _, _, h => by cases h; exact .int i
  | .str x, _, _, h => by cases h; exact .str x
  | .list ds, _, n, _ => by simp [noL] at n
  | .dict ds, _, _, h => by cases h
  | .tuple ds, _, n, h => by
    cases h with
    | tup hs ha => exact .tup (hT _ _ hs) (dps_keep hT ds _ (by simpa [noL] using n) ha)
theorem dps_keep (hT : ∀ a xs, SqT K H a xs → SqT K H' a xs) : ∀ (ds : List PyData) (vs : List V), noLs ds = true → DpAll K H vs ds → DpAll K H' vs ds
  | [], _, _, h => by cases h; exact .nil
  | d :: ds, _, n, h => by
    have n' : noL d = true ∧ noLs ds = true := by simpa [noLs] using n
    cases h with
    | cons h1 h2 => exact .cons (dp_keep hT d _ n'.1 h1) (dps_keep hT ds _ n'.2 h2)
end
theorem sqt_same (e : Same H H') (a : Addr) (xs : List V) (h : SqT K H a xs) : SqT K H' a xs := by
  rcases h with (h | ⟨o, h⟩) | h
  · exact .inl (.inl (e _ _ h))
  · exact .inl (.inr ⟨o, e _ _ h⟩)
  · exact .inr h
theorem sqt_upd {l : Addr} {ys zs : List V} (hl : H l = some (.lst ys)) (a : Addr) (xs : List V) (h : SqT K H a xs) : SqT K (upd H l (.lst zs)) a xs := by
  rcases h with (h | ⟨o, h⟩) | h
  · refine .inl (.inl ?_)
    rw [upd_ne (ne_of h hl (by intro z; cases z))]
    exact h
  · refine .inl (.inr ⟨o, ?_⟩)
    rw [upd_ne (ne_of h hl (by intro z; cases z))]
    exact h
  · exact .inr h
theorem dps_append : ∀ {vs ws : List V} {ds es : List PyData}, DpAll K H vs ds → DpAll K H ws es → DpAll K H (vs ++ ws) (ds ++ es)
  | _, _, _, _, .nil, h => h
  | _, _, _, _, .cons a r, h => .cons a (dps_append r h)
theorem dps_len : ∀ {vs : List V} {ds : List PyData}, DpAll K H vs ds → vs.length = ds.length
  | _, _, .nil => rfl
  | _, _, .cons _ r => by rw [List.length_cons, List.length_cons, dps_len r]
end

end Lx

/-! ### the drawn tokens -/
namespace Lw
open PySem TL Lx
def res : List Str := ["and", "base", "else", "false", "from", "fun", "if", "in", "iterate", "let", "not", "or", "show", "then", "true", "unit"]
def parts : List Str := ["", "0", "5", "25", "007", "1234"]
def zers : List Str := ["", "0", "00"]
def seps : List Str := [" ", "\n", "\t", "  ", " # == fun\n", "\n\n"]
def wchars (rest : Nat) : Nat → List Nat
  | 0 => []
  | k + 1 => wchars rest k ++ [naming.getD (rest / (3 + k) % 63) 0]
def wordL (c : Nat) : List Nat := letters.getD (c % 52) 0 :: wchars (c / 52) (c / 52 % 16)
def wholeN (r : Nat) : Nat := if r / 7 % 2 = 0 then r % 10 else r % 1000000
def zw (r : Nat) : List Nat := tl (zers.getD (r / 84 % 3) "") ++ numL (wholeN r)
def numShown (r : Nat) : List Nat := (zw r).drop ((zw r).length - min 6 (zw r).length)
def prt (r : Nat) : Str := parts.getD (r / 14 % 6) ""
def numText (ds ps : List Nat) : List Nat := ds ++ (if ps = [] then [] else 46 :: ps)
def tkOf (c : Nat) : Tkn × Str :=
  if c % 5 = 0 then (.word (res.getD (c / 5 % 16) ""), res.getD (c / 5 % 16) "")
  else if c % 5 = 1 then (if isRes (mk (wordL (c / 5))) = true then .word (mk (wordL (c / 5))) else .name (mk (wordL (c / 5))), mk (wordL (c / 5)))
  else if c % 5 < 4 then (.num (NumText.digitsVal (numShown (c / 5) ++ tl (prt (c / 5)))) (10 ^ (tl (prt (c / 5))).length), mk (numText (numShown (c / 5)) (tl (prt (c / 5)))))
  else (.sign (sgns.getD (c / 5 % 16) ""), sgns.getD (c / 5 % 16) "")
def sepOf (c : Nat) : Str := seps.getD (c / 3 % 6) ""
theorem run_app {S w r : List Nat} {s : Nat} (h : ∀ c ∈ w, inS S c = true) (hs : inS S s = false) : run S (w ++ s :: r) = w.length := by
  induction w with
  | nil => exact run_out hs
  | cons c w ih =>
    rw [List.cons_append, run_in (h c List.mem_cons_self), ih fun d hd => h d (List.mem_cons_of_mem _ hd)]
    rfl
theorem blank_cases {s : Nat} (h : inS blanks s = true) : s = 32 ∨ s = 9 ∨ s = 10 := by
  have h1 : s ∈ blanks := of_decide_eq_true h
  have h2 : blanks = [32, 9, 10] := rfl
  rw [h2] at h1
  simpa using h1
theorem blank_naming {s : Nat} (h : inS blanks s = true) : inS naming s = false := by
  rcases blank_cases h with rfl | rfl | rfl <;> decide
theorem digit_naming {c : Nat} (h : inS digits c = true) : inS naming c = true := by
  have h1 : c ∈ digits := of_decide_eq_true h
  have h2 : ∀ c ∈ digits, inS naming c = true := by decide
  exact h2 c h1
theorem digit_letter {c : Nat} (h : inS digits c = true) : inS letters c = false := by
  have h1 : c ∈ digits := of_decide_eq_true h
  have h2 : ∀ c ∈ digits, inS letters c = false := by decide
  exact h2 c h1
/-- a word or name, then a sign that belongs to none -/
theorem tok_word {c s : Nat} {w r : List Nat} (hc : inS letters c = true) (hw : ∀ d ∈ w, inS naming d = true) (hs : inS naming s = false) (hl : isRes (mk (c :: w)) = true ∨ w.length < 16) :
    tokAt (c :: w ++ s :: r) = some (if isRes (mk (c :: w)) = true then .word (mk (c :: w)) else .name (mk (c :: w)), (c :: w).length) := by
  have hrun : run naming (c :: w ++ s :: r) = (c :: w).length := run_app (fun d hd => by
    rcases List.mem_cons.mp hd with rfl | hd
    · exact letter_naming hc
    · exact hw d hd) hs
  have htake : (c :: w ++ s :: r).take (c :: w).length = c :: w := List.take_left
  rw [List.cons_append, tokAt_cons, if_pos hc, ← List.cons_append]
  unfold nmAt
  rw [hrun, htake]
  by_cases hr : isRes (mk (c :: w)) = true
  · rw [if_pos hr, if_pos hr]
  · rw [if_neg hr, if_neg hr, if_neg]
    rcases hl with h | h
    · exact absurd h hr
    · rw [List.length_cons]
      omega
theorem tok_num {c s : Nat} {w ps r : List Nat} (hc : inS digits c = true) (hw : ∀ d ∈ w, inS digits d = true) (hp : ∀ d ∈ ps, inS digits d = true) (hs : inS naming s = false) (h46 : s ≠ 46)
    (hl : w.length < 6) (hl2 : ps.length < 5) : tokAt (numText (c :: w) ps ++ s :: r) = some (.num (NumText.digitsVal (c :: w ++ ps)) (10 ^ ps.length), (numText (c :: w) ps).length) := by
  have hsd : inS digits s = false := by
    cases h : inS digits s with
    | false => rfl
    | true => rw [digit_naming h] at hs; cases hs
  have hall : ∀ d ∈ c :: w, inS digits d = true := fun d hd => by
    rcases List.mem_cons.mp hd with rfl | hd
    · exact hc
    · exact hw d hd
  have htl : ∃ t, numText (c :: w) ps ++ s :: r = (c :: w) ++ t ∧ headIn digits t = false ∧ fracAt t = ps ∧ (t = (if ps = [] then s :: r else 46 :: (ps ++ s :: r))) := by
    unfold numText
    by_cases h : ps = []
    · subst h
      refine ⟨s :: r, by simp, hsd, ?_, by simp⟩
      rw [fracAt_cons, if_neg h46]
    · refine ⟨46 :: (ps ++ s :: r), by simp [h], (by decide : inS digits 46 = false), ?_, by simp [h]⟩
      rw [fracAt_cons, if_pos rfl]
      have := take_run digits (ps ++ s :: r)
      rw [run_app hp hsd, List.take_left] at this
      exact this.symm
  obtain ⟨t, e, hh, hf, ht⟩ := htl
  have hrun : run digits ((c :: w) ++ t) = (c :: w).length := by
    cases t with
    | nil => cases hps : ps <;> simp [hps] at ht
    | cons d q => exact run_app hall hh
  have htake : ((c :: w) ++ t).take (c :: w).length = c :: w := List.take_left
  have hdrop : ((c :: w) ++ t).drop (c :: w).length = t := List.drop_left
  have hne : numEnd ((c :: w) ++ t) = (numText (c :: w) ps).length := by
    unfold numEnd numText
    rw [hrun, hdrop, hf]
    by_cases h : ps = []
    · rw [if_pos h, if_pos h, List.append_nil]
    · rw [if_neg h, if_neg h, List.length_append, List.length_cons, List.length_cons]
      omega
  have hrest : ((c :: w) ++ t).drop (numText (c :: w) ps).length = s :: r := by
    rw [← e]
    exact List.drop_left
  rw [e, List.cons_append, tokAt_cons, if_neg (by rw [digit_letter hc]; exact Bool.false_ne_true), if_pos hc, ← List.cons_append]
  unfold nrAt
  rw [hrun, hdrop, hf, hne, hrest, htake, if_neg, if_neg]
  · show ¬ inS naming s = true
    rw [hs]
    exact Bool.false_ne_true
  · rw [List.length_cons]
    omega
theorem tok_sign {s : Nat} {r : List Nat} (hs : inS blanks s = true) : ∀ sg ∈ sgns, tokAt (tl sg ++ s :: r) = some (.sign sg, sg.length) := by
  rcases blank_cases hs with rfl | rfl | rfl <;> intro sg h <;> simp only [sgns, List.mem_cons, List.not_mem_nil, or_false] at h <;>
    rcases h with rfl | rfl | rfl | rfl | rfl | rfl | rfl | rfl | rfl | rfl | rfl | rfl | rfl | rfl | rfl | rfl <;> rfl
theorem getD_mem {α : Type} {l : List α} {i : Nat} {d : α} (h : i < l.length) : l.getD i d ∈ l := by
  rw [List.getD_eq_getElem?_getD, List.getElem?_eq_getElem h]
  exact List.getElem_mem h
theorem wchars_naming (r : Nat) : ∀ (k : Nat), ∀ c ∈ wchars r k, inS naming c = true
  | 0, c, h => by cases h
  | k + 1, c, h => by
    rcases List.mem_append.mp h with h | h
    · exact wchars_naming r k c h
    · have e : c = naming.getD (r / (3 + k) % 63) 0 := by simpa using h
      rw [e]
      exact decide_eq_true (getD_mem (by
        have : naming.length = 63 := rfl
        rw [this]
        exact Nat.mod_lt _ (by decide)))
theorem wchars_len (r : Nat) : ∀ k : Nat, (wchars r k).length = k
  | 0 => rfl
  | k + 1 => by
    rw [wchars, List.length_append, wchars_len r k]
    rfl
theorem letter_at (c : Nat) : inS letters (letters.getD (c % 52) 0) = true := decide_eq_true (getD_mem (by
  have : letters.length = 52 := rfl
  rw [this]
  exact Nat.mod_lt _ (by decide)))
theorem wholeN_lt (r : Nat) : wholeN r < 1000000 := by
  unfold wholeN
  split <;> omega
theorem dig_of {S : List Nat} (h : NumText.AllDigits S) : ∀ c ∈ S, inS digits c = true := fun c hc => by
  obtain ⟨h1, h2⟩ := h c hc
  have h3 : ∀ c, c < 58 → 48 ≤ c → inS digits c = true := by decide
  exact h3 c (by omega) h1
theorem zw_digs (r : Nat) : ∀ c ∈ zw r, inS digits c = true := fun c hc => by
  rcases List.mem_append.mp hc with h | h
  · have hz : zers.getD (r / 84 % 3) "" ∈ zers := getD_mem (Nat.mod_lt _ (by decide))
    have h2 : ∀ z ∈ zers, ∀ c ∈ tl z, inS digits c = true := by decide
    exact h2 _ hz c h
  · exact dig_of (numL_digits _) c h
theorem zw_pos (r : Nat) : 1 ≤ (zw r).length := by
  unfold zw
  rw [List.length_append]
  have := List.length_pos_iff.mpr (numL_ne (wholeN r))
  omega
theorem zw_len (r : Nat) : (zw r).length ≤ 8 := by
  unfold zw
  rw [List.length_append]
  have h1 := numL_len (k := 6) (by decide) (wholeN_lt r)
  have hz : zers.getD (r / 84 % 3) "" ∈ zers := getD_mem (Nat.mod_lt _ (by decide))
  have h2 : ∀ z ∈ zers, (tl z).length ≤ 2 := by decide
  have := h2 _ hz
  omega
theorem numShown_len (r : Nat) : 1 ≤ (numShown r).length ∧ (numShown r).length ≤ 6 := by
  unfold numShown
  rw [List.length_drop]
  have := zw_pos r
  omega
theorem numShown_digs (r : Nat) : ∀ c ∈ numShown r, inS digits c = true := fun c hc => zw_digs r c (List.mem_of_mem_drop hc)
theorem part_mem (r : Nat) : prt r ∈ parts := getD_mem (Nat.mod_lt _ (by decide))
theorem part_digs (r : Nat) : ∀ c ∈ tl (prt r), inS digits c = true := by
  have h : ∀ p ∈ parts, ∀ c ∈ tl p, inS digits c = true := by decide
  exact h _ (part_mem r)
theorem part_len (r : Nat) : (tl (prt r)).length < 5 := by
  have h : ∀ p ∈ parts, (tl p).length < 5 := by decide
  exact h _ (part_mem r)
/-- a drawn token is read back -/
theorem tok_drawn (c : Nat) {s : Nat} (r : List Nat) (hs : inS blanks s = true) : tokAt (tl (tkOf c).2 ++ s :: r) = some ((tkOf c).1, (tkOf c).2.length) := by
  have hn := blank_naming hs
  unfold tkOf
  split
  · have hm : res.getD (c / 5 % 16) "" ∈ res := getD_mem (Nat.mod_lt _ (by decide))
    generalize res.getD (c / 5 % 16) "" = w at hm
    have key : ∀ w ∈ res, ∃ a q, tl w = a :: q ∧ inS letters a = true ∧ (∀ d ∈ q, inS naming d = true) ∧ isRes w = true := by
      intro w hw
      simp only [res, List.mem_cons, List.not_mem_nil, or_false] at hw
      rcases hw with rfl | rfl | rfl | rfl | rfl | rfl | rfl | rfl | rfl | rfl | rfl | rfl | rfl | rfl | rfl | rfl <;> exact ⟨_, _, rfl, by decide, by decide, by decide⟩
    obtain ⟨a, q, e, h1, h2, h3⟩ := key w hm
    have ew : mk (a :: q) = w := by rw [← e]; exact mk_tl w
    have := tok_word (r := r) h1 h2 hn (.inl (by rw [ew]; exact h3))
    rw [ew, if_pos h3, ← e, ← len_tl] at this
    exact this
  · split
    · have := tok_word (c := letters.getD (c / 5 % 52) 0) (w := wchars (c / 5 / 52) (c / 5 / 52 % 16)) (r := r) (letter_at _) (wchars_naming _ _) hn (.inr (by rw [wchars_len]; exact Nat.mod_lt _ (by decide)))
      rw [← mk_len] at this
      exact this
    · split
      · have h1 := numShown_len (c / 5)
        have h2 := numShown_digs (c / 5)
        generalize numShown (c / 5) = ds at h1 h2
        cases ds with
        | nil => simp at h1
        | cons a q =>
          have := tok_num (r := r) (h2 a List.mem_cons_self) (fun d hd => h2 d (List.mem_cons_of_mem _ hd)) (part_digs (c / 5)) hn (by rintro rfl; exact absurd hs (by decide)) (by have := h1.2; simp at this; omega) (part_len (c / 5))
          rw [← mk_len] at this
          exact this
      · exact tok_sign hs _ (getD_mem (Nat.mod_lt _ (by decide)))
theorem tok_noskip {l : List Nat} {t : Tkn} {n : Nat} (h : tokAt l = some (t, n)) : skip false l = 0 := by
  cases l with
  | nil => cases h
  | cons c r =>
    have key : inS blanks c = false ∧ c ≠ 35 := by
      rw [tokAt_cons] at h
      split at h
      · rename_i hc
        have h1 : c ∈ letters := of_decide_eq_true hc
        have h2 : ∀ c ∈ letters, inS blanks c = false ∧ c ≠ 35 := by decide
        exact h2 c h1
      · split at h
        · rename_i hc
          have h1 : c ∈ digits := of_decide_eq_true hc
          have h2 : ∀ c ∈ digits, inS blanks c = false ∧ c ≠ 35 := by decide
          exact h2 c h1
        · unfold sgAt at h
          cases e : sgns.find? fun s => (tl s).isPrefixOf (c :: r) with
          | none => rw [e] at h; cases h
          | some s =>
            have hm := List.mem_of_find?_eq_some e
            have hp := List.find?_some e
            have h2 : ∀ s ∈ sgns, ∃ a q, tl s = a :: q ∧ inS blanks a = false ∧ a ≠ 35 := by
              intro s hs
              simp only [sgns, List.mem_cons, List.not_mem_nil, or_false] at hs
              rcases hs with rfl | rfl | rfl | rfl | rfl | rfl | rfl | rfl | rfl | rfl | rfl | rfl | rfl | rfl | rfl | rfl <;> exact ⟨_, _, rfl, by decide, by decide⟩
            obtain ⟨a, q, ea, h3, h4⟩ := h2 s hm
            rw [ea, List.isPrefixOf_cons₂, Bool.and_eq_true, beq_iff_eq] at hp
            rw [← hp.1]
            exact ⟨h3, h4⟩
    exact skip_stop key.1 key.2
theorem sep_skip (c : Nat) (l : List Nat) : skip false (tl (sepOf c) ++ l) = (sepOf c).length + skip false l ∧ ∃ s r, tl (sepOf c) = s :: r ∧ inS blanks s = true := by
  have hm : sepOf c ∈ seps := getD_mem (Nat.mod_lt _ (by decide))
  have key : ∀ s ∈ seps, skip false (tl s ++ l) = s.length + skip false l ∧ ∃ a r, tl s = a :: r ∧ inS blanks a = true := by
    intro s hs
    rw [Nat.add_comm]
    simp only [seps, List.mem_cons, List.not_mem_nil, or_false] at hs
    rcases hs with rfl | rfl | rfl | rfl | rfl | rfl <;> exact ⟨rfl, _, _, rfl, by decide⟩
  exact key _ hm
def piece (c : Nat) : List Nat := tl (tkOf c).2 ++ tl (sepOf c)
def txt (cs : List Nat) : List Nat := (cs.map piece).flatten
def dueFrom : Nat → List Nat → List (Tkn × Nat)
  | _, [] => []
  | off, c :: cs => ((tkOf c).1, off) :: dueFrom (off + (piece c).length) cs
theorem txt_snoc (cs : List Nat) (c : Nat) : txt (cs ++ [c]) = txt cs ++ piece c := by simp [txt]
theorem due_snoc : ∀ (cs : List Nat) (off c : Nat), dueFrom off (cs ++ [c]) = dueFrom off cs ++ [((tkOf c).1, off + (txt cs).length)]
  | [], off, c => by simp [dueFrom, txt]
  | a :: cs, off, c => by
    rw [List.cons_append, dueFrom, dueFrom, due_snoc cs]
    have : (txt (a :: cs)).length = (piece a).length + (txt cs).length := by simp [txt]
    rw [this, Nat.add_assoc]
    rfl
theorem due_len : ∀ (cs : List Nat) (off : Nat), (dueFrom off cs).length = cs.length
  | [], _ => rfl
  | c :: cs, off => by rw [dueFrom, List.length_cons, List.length_cons, due_len cs]
theorem lex_txt : ∀ (cs : List Nat) (off : Nat) (tail : List Nat), skip false tail = 0 →
    LexTo off (txt cs ++ tail) (dueFrom off cs) (off + (txt cs).length) tail ∧ skip false (txt cs ++ tail) = 0
  | [], off, tail, h => ⟨.refl, h⟩
  | c :: cs, off, tail, h => by
    obtain ⟨ih, hs⟩ := lex_txt cs (off + (piece c).length) tail h
    obtain ⟨hsk, s, r, es, hb⟩ := sep_skip c (txt cs ++ tail)
    have e0 : txt (c :: cs) ++ tail = tl (tkOf c).2 ++ (tl (sepOf c) ++ (txt cs ++ tail)) := by simp [txt, piece]
    have e1 : tokAt (txt (c :: cs) ++ tail) = some ((tkOf c).1, (tkOf c).2.length) := by
      rw [e0, es, List.cons_append]
      exact tok_drawn c _ hb
    have e2 : (txt (c :: cs) ++ tail).drop (tkOf c).2.length = tl (sepOf c) ++ (txt cs ++ tail) := by
      rw [e0, len_tl]
      exact List.drop_left
    refine ⟨.step e1 ?_, tok_noskip e1⟩
    rw [e2, hsk, hs, Nat.add_zero]
    have e3 : (tl (sepOf c) ++ (txt cs ++ tail)).drop (sepOf c).length = txt cs ++ tail := by
      rw [len_tl]
      exact List.drop_left
    rw [e3]
    have e4 : off + (tkOf c).2.length + (sepOf c).length = off + (piece c).length := by
      unfold piece
      rw [List.length_append, ← len_tl, ← len_tl]
      omega
    have e5 : off + (txt (c :: cs)).length = off + (piece c).length + (txt cs).length := by simp [txt]; omega
    rw [e4, e5]
    exact ih
theorem shown_len (c : Nat) : 1 ≤ (tkOf c).2.length ∧ (tkOf c).2.length ≤ 16 := by
  unfold tkOf
  split
  · have hm : res.getD (c / 5 % 16) "" ∈ res := getD_mem (Nat.mod_lt _ (by decide))
    have h : ∀ w ∈ res, 1 ≤ w.length ∧ w.length ≤ 16 := by decide
    exact h _ hm
  · split
    · show 1 ≤ (mk _).length ∧ (mk _).length ≤ 16
      rw [mk_len, wordL, List.length_cons, wchars_len]
      have := Nat.mod_lt (c / 5 / 52) (show 16 > 0 by decide)
      omega
    · split
      · show 1 ≤ (mk _).length ∧ (mk _).length ≤ 16
        rw [mk_len, numText, List.length_append]
        have h1 := numShown_len (c / 5)
        have h2 := part_len (c / 5)
        split
        · rw [List.length_nil]
          omega
        · rw [List.length_cons]
          omega
      · have hm : sgns.getD (c / 5 % 16) "" ∈ sgns := getD_mem (Nat.mod_lt _ (by decide))
        have h : ∀ w ∈ sgns, 1 ≤ w.length ∧ w.length ≤ 16 := by decide
        exact h _ hm
theorem piece_len (c : Nat) : (piece c).length ≤ 26 := by
  unfold piece
  rw [List.length_append, ← len_tl, ← len_tl]
  have h1 := shown_len c
  have hm : sepOf c ∈ seps := getD_mem (Nat.mod_lt _ (by decide))
  have h : ∀ w ∈ seps, w.length ≤ 10 := by decide
  have := h _ hm
  omega
theorem txt_len : ∀ cs : List Nat, (txt cs).length ≤ 26 * cs.length
  | [] => Nat.le_refl _
  | c :: cs => by
    have h1 := txt_len cs
    have h2 := piece_len c
    have : (txt (c :: cs)).length = (piece c).length + (txt cs).length := by simp [txt]
    rw [this, List.length_cons]
    omega
def bads : List Str := ["@", "1234567", "1.23456", "7a", "1.5x", "aaaaaaaaaaaaaaaaa", "!", ".", ".5", "{", "1_", "$"]
theorem bad_tok : ∀ b ∈ bads, tokAt (tl b ++ tl (" x" : Str)) = none ∧ skip false (tl b ++ tl (" x" : Str)) = 0 ∧ b.length ≤ 17 := by
  intro b hb
  simp only [bads, List.mem_cons, List.not_mem_nil, or_false] at hb
  rcases hb with rfl | rfl | rfl | rfl | rfl | rfl | rfl | rfl | rfl | rfl | rfl | rfl <;> exact ⟨by rfl, by rfl, by decide⟩
end Lw

namespace Tk
open PySem PySem.Spec PyProof.Rows L2 Ly
def topS (i : Nat) : Stmt := PySem.Challenge.pw_alnage_k00_tokens.main.body.getD i (.Pass ⟨0, 0, 0, 0⟩)
abbrev s_Malformed___init__ : Stmt := inClass (topS 2) 0
theorem sc_Malformed___init__ : FnScope ["self", "at"] ["self", "at"] (defScope s_Malformed___init__) := ⟨rfl, rfl, rfl, by decide +kernel, rfl, by decide +kernel, by decide +kernel⟩
abbrev s_Oversized___init__ : Stmt := inClass (topS 3) 0
theorem sc_Oversized___init__ : FnScope ["self", "limit"] ["self", "limit"] (defScope s_Oversized___init__) := ⟨rfl, rfl, rfl, by decide +kernel, rfl, by decide +kernel, by decide +kernel⟩
abbrev s_tokens : Stmt := topS 15
theorem sc_tokens : FnScope ["text", "found", "at", "kind", "value", "end"] ["text"] (defScope s_tokens) := ⟨rfl, rfl, rfl, by decide +kernel, rfl, by decide +kernel, by decide +kernel⟩
abbrev s_token_start : Stmt := topS 16
theorem sc_token_start : FnScope ["text", "at"] ["text", "at"] (defScope s_token_start) := ⟨rfl, rfl, rfl, by decide +kernel, rfl, by decide +kernel, by decide +kernel⟩
abbrev s_comment_end : Stmt := topS 17
theorem sc_comment_end : FnScope ["text", "at", "newline"] ["text", "at"] (defScope s_comment_end) := ⟨rfl, rfl, rfl, by decide +kernel, rfl, by decide +kernel, by decide +kernel⟩
abbrev s_token_at : Stmt := topS 18
theorem sc_token_at : FnScope ["text", "at", "sign"] ["text", "at"] (defScope s_token_at) := ⟨rfl, rfl, rfl, by decide +kernel, rfl, by decide +kernel, by decide +kernel⟩
abbrev s_name_at : Stmt := topS 19
theorem sc_name_at : FnScope ["text", "at", "end", "name"] ["text", "at"] (defScope s_name_at) := ⟨rfl, rfl, rfl, by decide +kernel, rfl, by decide +kernel, by decide +kernel⟩
abbrev s_number_at : Stmt := topS 20
theorem sc_number_at : FnScope ["text", "at", "point", "whole", "part", "end"] ["text", "at"] (defScope s_number_at) := ⟨rfl, rfl, rfl, by decide +kernel, rfl, by decide +kernel, by decide +kernel⟩
abbrev s_digits_behind : Stmt := topS 21
theorem sc_digits_behind : FnScope ["text", "point"] ["text", "point"] (defScope s_digits_behind) := ⟨rfl, rfl, rfl, by decide +kernel, rfl, by decide +kernel, by decide +kernel⟩
abbrev s_run_end : Stmt := topS 22
theorem sc_run_end : FnScope ["text", "at", "characters"] ["text", "at", "characters"] (defScope s_run_end) := ⟨rfl, rfl, rfl, by decide +kernel, rfl, by decide +kernel, by decide +kernel⟩
abbrev s_law_cell : Stmt := topS 24
theorem sc_law_cell : FnScope ["script", "k"] ["script", "k"] (defScope s_law_cell) := ⟨rfl, rfl, rfl, by decide +kernel, rfl, by decide +kernel, by decide +kernel⟩
abbrev s_law_word : Stmt := topS 25
theorem sc_law_word : FnScope ["cell", "letters", "more", "text", "rest", "k"] ["cell"] (defScope s_law_word) := ⟨rfl, rfl, rfl, by decide +kernel, rfl, by decide +kernel, by decide +kernel⟩
abbrev s_law_token : Stmt := topS 26
theorem sc_law_token : FnScope ["cell", "kind", "rest", "word", "whole", "part", "worth", "zeros", "shown", "signs", "sign"] ["cell"] (defScope s_law_token) := ⟨rfl, rfl, rfl, by decide +kernel, rfl, by decide +kernel, by decide +kernel⟩
abbrev s_law_bad : Stmt := topS 27
theorem sc_law_bad : FnScope ["cell"] ["cell"] (defScope s_law_bad) := ⟨rfl, rfl, rfl, by decide +kernel, rfl, by decide +kernel, by decide +kernel⟩
abbrev s_law : Stmt := topS 28
theorem sc_law : FnScope ["script", "text", "due", "k", "cell", "kind", "value", "shown", "actual", "bad", "e"] ["script"] (defScope s_law) := ⟨rfl, rfl, rfl, by decide +kernel, rfl, by decide +kernel, by decide +kernel⟩
/-- what the top has written -/
structure Top (K : PySem.W.Frag) (mg : Str → Option Value) where
  a_tokens : Addr
  fd_tokens : FuncData
  F_tokens : Fun K "tokens" "tokens" s_tokens a_tokens fd_tokens
  m_tokens : mg "tokens" = some (.ref a_tokens)
  a_token_start : Addr
  fd_token_start : FuncData
  F_token_start : Fun K "token_start" "token_start" s_token_start a_token_start fd_token_start
  m_token_start : mg "token_start" = some (.ref a_token_start)
  a_comment_end : Addr
  fd_comment_end : FuncData
  F_comment_end : Fun K "comment_end" "comment_end" s_comment_end a_comment_end fd_comment_end
  m_comment_end : mg "comment_end" = some (.ref a_comment_end)
  a_token_at : Addr
  fd_token_at : FuncData
  F_token_at : Fun K "token_at" "token_at" s_token_at a_token_at fd_token_at
  m_token_at : mg "token_at" = some (.ref a_token_at)
  a_name_at : Addr
  fd_name_at : FuncData
  F_name_at : Fun K "name_at" "name_at" s_name_at a_name_at fd_name_at
  m_name_at : mg "name_at" = some (.ref a_name_at)
  a_number_at : Addr
  fd_number_at : FuncData
  F_number_at : Fun K "number_at" "number_at" s_number_at a_number_at fd_number_at
  m_number_at : mg "number_at" = some (.ref a_number_at)
  a_digits_behind : Addr
  fd_digits_behind : FuncData
  F_digits_behind : Fun K "digits_behind" "digits_behind" s_digits_behind a_digits_behind fd_digits_behind
  m_digits_behind : mg "digits_behind" = some (.ref a_digits_behind)
  a_run_end : Addr
  fd_run_end : FuncData
  F_run_end : Fun K "run_end" "run_end" s_run_end a_run_end fd_run_end
  m_run_end : mg "run_end" = some (.ref a_run_end)
  a_law_cell : Addr
  fd_law_cell : FuncData
  F_law_cell : Fun K "_law_cell" "_law_cell" s_law_cell a_law_cell fd_law_cell
  m_law_cell : mg "_law_cell" = some (.ref a_law_cell)
  a_law_word : Addr
  fd_law_word : FuncData
  F_law_word : Fun K "_law_word" "_law_word" s_law_word a_law_word fd_law_word
  m_law_word : mg "_law_word" = some (.ref a_law_word)
  a_law_token : Addr
  fd_law_token : FuncData
  F_law_token : Fun K "_law_token" "_law_token" s_law_token a_law_token fd_law_token
  m_law_token : mg "_law_token" = some (.ref a_law_token)
  a_law_bad : Addr
  fd_law_bad : FuncData
  F_law_bad : Fun K "_law_bad" "_law_bad" s_law_bad a_law_bad fd_law_bad
  m_law_bad : mg "_law_bad" = some (.ref a_law_bad)
  a_law : Addr
  fd_law : FuncData
  F_law : Fun K "law" "law" s_law a_law fd_law
  m_law : mg "law" = some (.ref a_law)
  n_abs : mg "abs" = none
  n_int : mg "int" = none
  n_isinstance : mg "isinstance" = none
  n_len : mg "len" = none
  n_list : mg "list" = none
  n_min : mg "min" = none
  n_range : mg "range" = none
  n_repr : mg "repr" = none
  n_str : mg "str" = none
  a_RESERVED : Addr
  c_RESERVED : mg "RESERVED" = some (.ref a_RESERVED)
  s_RESERVED : ∀ H : Hp, SqT K H a_RESERVED [.str "and", .str "base", .str "else", .str "false", .str "from", .str "fun", .str "if", .str "in", .str "iterate", .str "let", .str "not", .str "or", .str "show", .str "then", .str "true", .str "unit"]
  u_LONGEST_TEXT : Value
  c_LONGEST_TEXT : mg "LONGEST_TEXT" = some u_LONGEST_TEXT
  r_LONGEST_TEXT : RelV (.int 12000) u_LONGEST_TEXT
  u_LONGEST_NAME : Value
  c_LONGEST_NAME : mg "LONGEST_NAME" = some u_LONGEST_NAME
  r_LONGEST_NAME : RelV (.int 16) u_LONGEST_NAME
  u_MOST_DIGITS : Value
  c_MOST_DIGITS : mg "MOST_DIGITS" = some u_MOST_DIGITS
  r_MOST_DIGITS : RelV (.int 6) u_MOST_DIGITS
  u_SEPARATORS : Value
  c_SEPARATORS : mg "SEPARATORS" = some u_SEPARATORS
  r_SEPARATORS : RelV (.str " \t\n") u_SEPARATORS
  u_LETTERS : Value
  c_LETTERS : mg "LETTERS" = some u_LETTERS
  r_LETTERS : RelV (.str "abcdefghijklmnopqrstuvwxyzABCDEFGHIJKLMNOPQRSTUVWXYZ") u_LETTERS
  u_DIGITS : Value
  c_DIGITS : mg "DIGITS" = some u_DIGITS
  r_DIGITS : RelV (.str "0123456789") u_DIGITS
  u_NAMING : Value
  c_NAMING : mg "NAMING" = some u_NAMING
  r_NAMING : RelV (.str "abcdefghijklmnopqrstuvwxyzABCDEFGHIJKLMNOPQRSTUVWXYZ0123456789_") u_NAMING
  a_SIGNS : Addr
  c_SIGNS : mg "SIGNS" = some (.ref a_SIGNS)
  s_SIGNS : ∀ H : Hp, SqT K H a_SIGNS [.str "<=", .str "==", .str "=", .str "<", .str "+", .str "-", .str "*", .str "/", .str "^", .str ",", .str ";", .str ":", .str "(", .str ")", .str "[", .str "]"]
  a_BOTTOMS : Addr
  c_BOTTOMS : mg "BOTTOMS" = some (.ref a_BOTTOMS)
  s_BOTTOMS : ∀ H : Hp, SqT K H a_BOTTOMS [.int 1, .int 10, .int 100, .int 1000, .int 10000]
  a_Malformed : Addr
  i_Malformed : Addr
  fd_Malformed___init__ : FuncData
  F_Malformed___init__ : Fun K "__init__" "Malformed.__init__" s_Malformed___init__ i_Malformed fd_Malformed___init__
  x_Malformed : XCls K mg "Malformed" a_Malformed i_Malformed "at"
  a_Oversized : Addr
  i_Oversized : Addr
  fd_Oversized___init__ : FuncData
  F_Oversized___init__ : Fun K "__init__" "Oversized.__init__" s_Oversized___init__ i_Oversized fd_Oversized___init__
  x_Oversized : XCls K mg "Oversized" a_Oversized i_Oversized "limit"
/-- .. out of what the head tells -/
def top_mk {K : PySem.W.Frag} {h : Heap} {mg : Str → Option Value} (X : K.In h) (G : h.Ns mainGlobals mg)
    {f_tokens f_token_start f_comment_end f_token_at f_name_at f_number_at f_digits_behind f_run_end f_law_cell f_law_word f_law_token f_law_bad f_law : Addr}
    {oc_Malformed___init__ kV_Malformed___init__ dc_Malformed___init__ pm_Malformed___init__ cd_Malformed___init__ ct_Malformed___init__ : Value} {od_Malformed___init__ an_Malformed___init__ : Option Addr} {sl_Malformed___init__ : Array (Option Value)}
    {oc_Oversized___init__ kV_Oversized___init__ dc_Oversized___init__ pm_Oversized___init__ cd_Oversized___init__ ct_Oversized___init__ : Value} {od_Oversized___init__ an_Oversized___init__ : Option Addr} {sl_Oversized___init__ : Array (Option Value)}
    {oc_tokens kV_tokens dc_tokens pm_tokens cd_tokens ct_tokens : Value} {od_tokens an_tokens : Option Addr} {sl_tokens : Array (Option Value)}
    {oc_token_start kV_token_start dc_token_start pm_token_start cd_token_start ct_token_start : Value} {od_token_start an_token_start : Option Addr} {sl_token_start : Array (Option Value)}
    {oc_comment_end kV_comment_end dc_comment_end pm_comment_end cd_comment_end ct_comment_end : Value} {od_comment_end an_comment_end : Option Addr} {sl_comment_end : Array (Option Value)}
    {oc_token_at kV_token_at dc_token_at pm_token_at cd_token_at ct_token_at : Value} {od_token_at an_token_at : Option Addr} {sl_token_at : Array (Option Value)}
    {oc_name_at kV_name_at dc_name_at pm_name_at cd_name_at ct_name_at : Value} {od_name_at an_name_at : Option Addr} {sl_name_at : Array (Option Value)}
    {oc_number_at kV_number_at dc_number_at pm_number_at cd_number_at ct_number_at : Value} {od_number_at an_number_at : Option Addr} {sl_number_at : Array (Option Value)}
    {oc_digits_behind kV_digits_behind dc_digits_behind pm_digits_behind cd_digits_behind ct_digits_behind : Value} {od_digits_behind an_digits_behind : Option Addr} {sl_digits_behind : Array (Option Value)}
    {oc_run_end kV_run_end dc_run_end pm_run_end cd_run_end ct_run_end : Value} {od_run_end an_run_end : Option Addr} {sl_run_end : Array (Option Value)}
    {oc_law_cell kV_law_cell dc_law_cell pm_law_cell cd_law_cell ct_law_cell : Value} {od_law_cell an_law_cell : Option Addr} {sl_law_cell : Array (Option Value)}
    {oc_law_word kV_law_word dc_law_word pm_law_word cd_law_word ct_law_word : Value} {od_law_word an_law_word : Option Addr} {sl_law_word : Array (Option Value)}
    {oc_law_token kV_law_token dc_law_token pm_law_token cd_law_token ct_law_token : Value} {od_law_token an_law_token : Option Addr} {sl_law_token : Array (Option Value)}
    {oc_law_bad kV_law_bad dc_law_bad pm_law_bad cd_law_bad ct_law_bad : Value} {od_law_bad an_law_bad : Option Addr} {sl_law_bad : Array (Option Value)}
    {oc_law kV_law dc_law pm_law cd_law ct_law : Value} {od_law an_law : Option Addr} {sl_law : Array (Option Value)}
    {k_RESERVED_0 k_RESERVED_1 k_RESERVED_2 k_RESERVED_3 k_RESERVED_4 k_RESERVED_5 k_RESERVED_6 k_RESERVED_7 k_RESERVED_8 k_RESERVED_9 k_RESERVED_10 k_RESERVED_11 k_RESERVED_12 k_RESERVED_13 k_RESERVED_14 k_RESERVED_15 : Tok}
    {t_RESERVED : Addr} {td_RESERVED : Option Addr} {tn_RESERVED : Nat} {ts_RESERVED : Array (Option Value)}
    {k_LONGEST_TEXT : Tok}
    {k_LONGEST_NAME : Tok}
    {k_MOST_DIGITS : Tok}
    {k_SEPARATORS : Tok}
    {k_LETTERS : Tok}
    {k_DIGITS : Tok}
    {k_NAMING : Tok}
    {k_SIGNS_0 k_SIGNS_1 k_SIGNS_2 k_SIGNS_3 k_SIGNS_4 k_SIGNS_5 k_SIGNS_6 k_SIGNS_7 k_SIGNS_8 k_SIGNS_9 k_SIGNS_10 k_SIGNS_11 k_SIGNS_12 k_SIGNS_13 k_SIGNS_14 k_SIGNS_15 : Tok}
    {t_SIGNS : Addr} {td_SIGNS : Option Addr} {tn_SIGNS : Nat} {ts_SIGNS : Array (Option Value)}
    {k_BOTTOMS_0 k_BOTTOMS_1 k_BOTTOMS_2 k_BOTTOMS_3 k_BOTTOMS_4 : Tok}
    {t_BOTTOMS : Addr} {td_BOTTOMS : Option Addr} {tn_BOTTOMS : Nat} {ts_BOTTOMS : Array (Option Value)}
    {C_Malformed I_Malformed : Addr} {xn_Malformed xq_Malformed : Str} {xN_Malformed : Addr} {xb_Malformed : List Value} {xsn_Malformed : List Str} {xsu_Malformed : List Value} {xa_Malformed : Bool} {xc_Malformed : Option Bool} {xd_Malformed : Option Addr} {xk0_Malformed xk1_Malformed xk2_Malformed xk3_Malformed xk5_Malformed : Option Value}
    {R_Malformed_0 : Addr}
    {C_Oversized I_Oversized : Addr} {xn_Oversized xq_Oversized : Str} {xN_Oversized : Addr} {xb_Oversized : List Value} {xsn_Oversized : List Str} {xsu_Oversized : List Value} {xa_Oversized : Bool} {xc_Oversized : Option Bool} {xd_Oversized : Option Addr} {xk0_Oversized xk1_Oversized xk2_Oversized xk3_Oversized xk5_Oversized : Option Value}
    {R_Oversized_0 : Addr}
    (atokens : PySem.W.nsIn K mainGlobals "tokens" = some (some (.ref f_tokens)))
    (ltokens : K.lookup f_tokens = some ⟨oc_tokens, od_tokens, .func (PySem.W.fnOf "tokens" "tokens" (defArgs s_tokens) (defBody s_tokens) (defScope s_tokens) .none kV_tokens dc_tokens pm_tokens an_tokens cd_tokens ct_tokens), sl_tokens⟩)
    (ctokens : PySem.W.codeIn K cd_tokens "tokens" = true)
    (ktokens : PySem.W.keepIn K (.ref f_tokens) = true)
    (atoken_start : PySem.W.nsIn K mainGlobals "token_start" = some (some (.ref f_token_start)))
    (ltoken_start : K.lookup f_token_start = some ⟨oc_token_start, od_token_start, .func (PySem.W.fnOf "token_start" "token_start" (defArgs s_token_start) (defBody s_token_start) (defScope s_token_start) .none kV_token_start dc_token_start pm_token_start an_token_start cd_token_start ct_token_start), sl_token_start⟩)
    (ctoken_start : PySem.W.codeIn K cd_token_start "token_start" = true)
    (ktoken_start : PySem.W.keepIn K (.ref f_token_start) = true)
    (acomment_end : PySem.W.nsIn K mainGlobals "comment_end" = some (some (.ref f_comment_end)))
    (lcomment_end : K.lookup f_comment_end = some ⟨oc_comment_end, od_comment_end, .func (PySem.W.fnOf "comment_end" "comment_end" (defArgs s_comment_end) (defBody s_comment_end) (defScope s_comment_end) .none kV_comment_end dc_comment_end pm_comment_end an_comment_end cd_comment_end ct_comment_end), sl_comment_end⟩)
    (ccomment_end : PySem.W.codeIn K cd_comment_end "comment_end" = true)
    (kcomment_end : PySem.W.keepIn K (.ref f_comment_end) = true)
    (atoken_at : PySem.W.nsIn K mainGlobals "token_at" = some (some (.ref f_token_at)))
    (ltoken_at : K.lookup f_token_at = some ⟨oc_token_at, od_token_at, .func (PySem.W.fnOf "token_at" "token_at" (defArgs s_token_at) (defBody s_token_at) (defScope s_token_at) .none kV_token_at dc_token_at pm_token_at an_token_at cd_token_at ct_token_at), sl_token_at⟩)
    (ctoken_at : PySem.W.codeIn K cd_token_at "token_at" = true)
    (ktoken_at : PySem.W.keepIn K (.ref f_token_at) = true)
    (aname_at : PySem.W.nsIn K mainGlobals "name_at" = some (some (.ref f_name_at)))
    (lname_at : K.lookup f_name_at = some ⟨oc_name_at, od_name_at, .func (PySem.W.fnOf "name_at" "name_at" (defArgs s_name_at) (defBody s_name_at) (defScope s_name_at) .none kV_name_at dc_name_at pm_name_at an_name_at cd_name_at ct_name_at), sl_name_at⟩)
    (cname_at : PySem.W.codeIn K cd_name_at "name_at" = true)
    (kname_at : PySem.W.keepIn K (.ref f_name_at) = true)
    (anumber_at : PySem.W.nsIn K mainGlobals "number_at" = some (some (.ref f_number_at)))
    (lnumber_at : K.lookup f_number_at = some ⟨oc_number_at, od_number_at, .func (PySem.W.fnOf "number_at" "number_at" (defArgs s_number_at) (defBody s_number_at) (defScope s_number_at) .none kV_number_at dc_number_at pm_number_at an_number_at cd_number_at ct_number_at), sl_number_at⟩)
    (cnumber_at : PySem.W.codeIn K cd_number_at "number_at" = true)
    (knumber_at : PySem.W.keepIn K (.ref f_number_at) = true)
    (adigits_behind : PySem.W.nsIn K mainGlobals "digits_behind" = some (some (.ref f_digits_behind)))
    (ldigits_behind : K.lookup f_digits_behind = some ⟨oc_digits_behind, od_digits_behind, .func (PySem.W.fnOf "digits_behind" "digits_behind" (defArgs s_digits_behind) (defBody s_digits_behind) (defScope s_digits_behind) .none kV_digits_behind dc_digits_behind pm_digits_behind an_digits_behind cd_digits_behind ct_digits_behind), sl_digits_behind⟩)
    (cdigits_behind : PySem.W.codeIn K cd_digits_behind "digits_behind" = true)
    (kdigits_behind : PySem.W.keepIn K (.ref f_digits_behind) = true)
    (arun_end : PySem.W.nsIn K mainGlobals "run_end" = some (some (.ref f_run_end)))
    (lrun_end : K.lookup f_run_end = some ⟨oc_run_end, od_run_end, .func (PySem.W.fnOf "run_end" "run_end" (defArgs s_run_end) (defBody s_run_end) (defScope s_run_end) .none kV_run_end dc_run_end pm_run_end an_run_end cd_run_end ct_run_end), sl_run_end⟩)
    (crun_end : PySem.W.codeIn K cd_run_end "run_end" = true)
    (krun_end : PySem.W.keepIn K (.ref f_run_end) = true)
    (alaw_cell : PySem.W.nsIn K mainGlobals "_law_cell" = some (some (.ref f_law_cell)))
    (llaw_cell : K.lookup f_law_cell = some ⟨oc_law_cell, od_law_cell, .func (PySem.W.fnOf "_law_cell" "_law_cell" (defArgs s_law_cell) (defBody s_law_cell) (defScope s_law_cell) .none kV_law_cell dc_law_cell pm_law_cell an_law_cell cd_law_cell ct_law_cell), sl_law_cell⟩)
    (claw_cell : PySem.W.codeIn K cd_law_cell "_law_cell" = true)
    (klaw_cell : PySem.W.keepIn K (.ref f_law_cell) = true)
    (alaw_word : PySem.W.nsIn K mainGlobals "_law_word" = some (some (.ref f_law_word)))
    (llaw_word : K.lookup f_law_word = some ⟨oc_law_word, od_law_word, .func (PySem.W.fnOf "_law_word" "_law_word" (defArgs s_law_word) (defBody s_law_word) (defScope s_law_word) .none kV_law_word dc_law_word pm_law_word an_law_word cd_law_word ct_law_word), sl_law_word⟩)
    (claw_word : PySem.W.codeIn K cd_law_word "_law_word" = true)
    (klaw_word : PySem.W.keepIn K (.ref f_law_word) = true)
    (alaw_token : PySem.W.nsIn K mainGlobals "_law_token" = some (some (.ref f_law_token)))
    (llaw_token : K.lookup f_law_token = some ⟨oc_law_token, od_law_token, .func (PySem.W.fnOf "_law_token" "_law_token" (defArgs s_law_token) (defBody s_law_token) (defScope s_law_token) .none kV_law_token dc_law_token pm_law_token an_law_token cd_law_token ct_law_token), sl_law_token⟩)
    (claw_token : PySem.W.codeIn K cd_law_token "_law_token" = true)
    (klaw_token : PySem.W.keepIn K (.ref f_law_token) = true)
    (alaw_bad : PySem.W.nsIn K mainGlobals "_law_bad" = some (some (.ref f_law_bad)))
    (llaw_bad : K.lookup f_law_bad = some ⟨oc_law_bad, od_law_bad, .func (PySem.W.fnOf "_law_bad" "_law_bad" (defArgs s_law_bad) (defBody s_law_bad) (defScope s_law_bad) .none kV_law_bad dc_law_bad pm_law_bad an_law_bad cd_law_bad ct_law_bad), sl_law_bad⟩)
    (claw_bad : PySem.W.codeIn K cd_law_bad "_law_bad" = true)
    (klaw_bad : PySem.W.keepIn K (.ref f_law_bad) = true)
    (alaw : PySem.W.nsIn K mainGlobals "law" = some (some (.ref f_law)))
    (llaw : K.lookup f_law = some ⟨oc_law, od_law, .func (PySem.W.fnOf "law" "law" (defArgs s_law) (defBody s_law) (defScope s_law) .none kV_law dc_law pm_law an_law cd_law ct_law), sl_law⟩)
    (claw : PySem.W.codeIn K cd_law "law" = true)
    (klaw : PySem.W.keepIn K (.ref f_law) = true)
    (zabs : PySem.W.nsIn K mainGlobals "abs" = some none)
    (zint : PySem.W.nsIn K mainGlobals "int" = some none)
    (zisinstance : PySem.W.nsIn K mainGlobals "isinstance" = some none)
    (zlen : PySem.W.nsIn K mainGlobals "len" = some none)
    (zlist : PySem.W.nsIn K mainGlobals "list" = some none)
    (zmin : PySem.W.nsIn K mainGlobals "min" = some none)
    (zrange : PySem.W.nsIn K mainGlobals "range" = some none)
    (zrepr : PySem.W.nsIn K mainGlobals "repr" = some none)
    (zstr : PySem.W.nsIn K mainGlobals "str" = some none)
    (gRESERVED : PySem.W.nsIn K mainGlobals "RESERVED" = some (some (.ref t_RESERVED)))
    (lRESERVED : K.lookup t_RESERVED = some ⟨.type "tuple", td_RESERVED, .seq #[.str "and" k_RESERVED_0, .str "base" k_RESERVED_1, .str "else" k_RESERVED_2, .str "false" k_RESERVED_3, .str "from" k_RESERVED_4, .str "fun" k_RESERVED_5, .str "if" k_RESERVED_6, .str "in" k_RESERVED_7, .str "iterate" k_RESERVED_8, .str "let" k_RESERVED_9, .str "not" k_RESERVED_10, .str "or" k_RESERVED_11, .str "show" k_RESERVED_12, .str "then" k_RESERVED_13, .str "true" k_RESERVED_14, .str "unit" k_RESERVED_15] tn_RESERVED, ts_RESERVED⟩)
    (gLONGEST_TEXT : PySem.W.nsIn K mainGlobals "LONGEST_TEXT" = some (some (.int 12000 k_LONGEST_TEXT)))
    (gLONGEST_NAME : PySem.W.nsIn K mainGlobals "LONGEST_NAME" = some (some (.int 16 k_LONGEST_NAME)))
    (gMOST_DIGITS : PySem.W.nsIn K mainGlobals "MOST_DIGITS" = some (some (.int 6 k_MOST_DIGITS)))
    (gSEPARATORS : PySem.W.nsIn K mainGlobals "SEPARATORS" = some (some (.str " \t\n" k_SEPARATORS)))
    (gLETTERS : PySem.W.nsIn K mainGlobals "LETTERS" = some (some (.str "abcdefghijklmnopqrstuvwxyzABCDEFGHIJKLMNOPQRSTUVWXYZ" k_LETTERS)))
    (gDIGITS : PySem.W.nsIn K mainGlobals "DIGITS" = some (some (.str "0123456789" k_DIGITS)))
    (gNAMING : PySem.W.nsIn K mainGlobals "NAMING" = some (some (.str "abcdefghijklmnopqrstuvwxyzABCDEFGHIJKLMNOPQRSTUVWXYZ0123456789_" k_NAMING)))
    (gSIGNS : PySem.W.nsIn K mainGlobals "SIGNS" = some (some (.ref t_SIGNS)))
    (lSIGNS : K.lookup t_SIGNS = some ⟨.type "tuple", td_SIGNS, .seq #[.str "<=" k_SIGNS_0, .str "==" k_SIGNS_1, .str "=" k_SIGNS_2, .str "<" k_SIGNS_3, .str "+" k_SIGNS_4, .str "-" k_SIGNS_5, .str "*" k_SIGNS_6, .str "/" k_SIGNS_7, .str "^" k_SIGNS_8, .str "," k_SIGNS_9, .str ";" k_SIGNS_10, .str ":" k_SIGNS_11, .str "(" k_SIGNS_12, .str ")" k_SIGNS_13, .str "[" k_SIGNS_14, .str "]" k_SIGNS_15] tn_SIGNS, ts_SIGNS⟩)
    (gBOTTOMS : PySem.W.nsIn K mainGlobals "BOTTOMS" = some (some (.ref t_BOTTOMS)))
    (lBOTTOMS : K.lookup t_BOTTOMS = some ⟨.type "tuple", td_BOTTOMS, .seq #[.int 1 k_BOTTOMS_0, .int 10 k_BOTTOMS_1, .int 100 k_BOTTOMS_2, .int 1000 k_BOTTOMS_3, .int 10000 k_BOTTOMS_4] tn_BOTTOMS, ts_BOTTOMS⟩)
    (gMalformed : PySem.W.nsIn K mainGlobals "Malformed" = some (some (.ref C_Malformed)))
    (xMalformed : K.lookup C_Malformed = some (excClassObj xn_Malformed xq_Malformed C_Malformed xN_Malformed xb_Malformed [.ref R_Malformed_0, .type "ValueError", .type "Exception", .type "BaseException", .type "object"] true xsn_Malformed xsu_Malformed xa_Malformed xc_Malformed xd_Malformed xk0_Malformed xk1_Malformed xk2_Malformed xk3_Malformed xk5_Malformed "ValueError.__new__"))
    (saMalformed : PySem.W.findIn K (.ref C_Malformed) "__setattr__" = some (some (.builtin "object.__setattr__")))
    (gaMalformed : PySem.W.findIn K (.ref C_Malformed) "__getattribute__" = some (some (.builtin "BaseException.__getattribute__")))
    (ggMalformed : PySem.W.findIn K (.ref C_Malformed) "__getattr__" = some none)
    (noMalformed : PySem.W.findIn K (.ref C_Malformed) "at" = some none)
    (inMalformed : PySem.W.findIn K (.ref C_Malformed) "__init__" = some (some (.ref I_Malformed)))
    (tiMalformed : PySem.W.typeIn K (.ref I_Malformed) = some (.type "function"))
    (kcMalformed : PySem.W.keepIn K (.ref C_Malformed) = true)
    (exMalformed : PySem.W.subIn K (.ref C_Malformed) (.type "BaseException") = some true)
    (tyMalformed : PySem.W.typeIn K (.ref C_Malformed) = some (.type "type"))
    (hdMalformed : PySem.W.hasDictIn K C_Malformed = true)
    (icMalformed : PySem.W.isClsIn K C_Malformed = true)
    (suMalformed : PySem.W.subIn K (.ref C_Malformed) (.ref C_Malformed) = some true)
    (liMalformed : K.lookup I_Malformed = some ⟨oc_Malformed___init__, od_Malformed___init__, .func (PySem.W.fnOf "__init__" "Malformed.__init__" (defArgs s_Malformed___init__) (defBody s_Malformed___init__) (defScope s_Malformed___init__) .none kV_Malformed___init__ dc_Malformed___init__ pm_Malformed___init__ an_Malformed___init__ cd_Malformed___init__ ct_Malformed___init__), sl_Malformed___init__⟩)
    (ciMalformed : PySem.W.codeIn K cd_Malformed___init__ "Malformed.__init__" = true)
    (kiMalformed : PySem.W.keepIn K (.ref I_Malformed) = true)
    (gOversized : PySem.W.nsIn K mainGlobals "Oversized" = some (some (.ref C_Oversized)))
    (xOversized : K.lookup C_Oversized = some (excClassObj xn_Oversized xq_Oversized C_Oversized xN_Oversized xb_Oversized [.ref R_Oversized_0, .type "ValueError", .type "Exception", .type "BaseException", .type "object"] true xsn_Oversized xsu_Oversized xa_Oversized xc_Oversized xd_Oversized xk0_Oversized xk1_Oversized xk2_Oversized xk3_Oversized xk5_Oversized "ValueError.__new__"))
    (saOversized : PySem.W.findIn K (.ref C_Oversized) "__setattr__" = some (some (.builtin "object.__setattr__")))
    (gaOversized : PySem.W.findIn K (.ref C_Oversized) "__getattribute__" = some (some (.builtin "BaseException.__getattribute__")))
    (ggOversized : PySem.W.findIn K (.ref C_Oversized) "__getattr__" = some none)
    (noOversized : PySem.W.findIn K (.ref C_Oversized) "limit" = some none)
    (inOversized : PySem.W.findIn K (.ref C_Oversized) "__init__" = some (some (.ref I_Oversized)))
    (tiOversized : PySem.W.typeIn K (.ref I_Oversized) = some (.type "function"))
    (kcOversized : PySem.W.keepIn K (.ref C_Oversized) = true)
    (exOversized : PySem.W.subIn K (.ref C_Oversized) (.type "BaseException") = some true)
    (tyOversized : PySem.W.typeIn K (.ref C_Oversized) = some (.type "type"))
    (hdOversized : PySem.W.hasDictIn K C_Oversized = true)
    (icOversized : PySem.W.isClsIn K C_Oversized = true)
    (suOversized : PySem.W.subIn K (.ref C_Oversized) (.ref C_Oversized) = some true)
    (liOversized : K.lookup I_Oversized = some ⟨oc_Oversized___init__, od_Oversized___init__, .func (PySem.W.fnOf "__init__" "Oversized.__init__" (defArgs s_Oversized___init__) (defBody s_Oversized___init__) (defScope s_Oversized___init__) .none kV_Oversized___init__ dc_Oversized___init__ pm_Oversized___init__ an_Oversized___init__ cd_Oversized___init__ ct_Oversized___init__), sl_Oversized___init__⟩)
    (ciOversized : PySem.W.codeIn K cd_Oversized___init__ "Oversized.__init__" = true)
    (kiOversized : PySem.W.keepIn K (.ref I_Oversized) = true)
    : Top K mg where
  a_tokens := f_tokens
  fd_tokens := _
  F_tokens := fun_mk (st := s_tokens) ltokens ctokens ktokens
  m_tokens := PySem.W.mg_of X G atokens
  a_token_start := f_token_start
  fd_token_start := _
  F_token_start := fun_mk (st := s_token_start) ltoken_start ctoken_start ktoken_start
  m_token_start := PySem.W.mg_of X G atoken_start
  a_comment_end := f_comment_end
  fd_comment_end := _
  F_comment_end := fun_mk (st := s_comment_end) lcomment_end ccomment_end kcomment_end
  m_comment_end := PySem.W.mg_of X G acomment_end
  a_token_at := f_token_at
  fd_token_at := _
  F_token_at := fun_mk (st := s_token_at) ltoken_at ctoken_at ktoken_at
  m_token_at := PySem.W.mg_of X G atoken_at
  a_name_at := f_name_at
  fd_name_at := _
  F_name_at := fun_mk (st := s_name_at) lname_at cname_at kname_at
  m_name_at := PySem.W.mg_of X G aname_at
  a_number_at := f_number_at
  fd_number_at := _
  F_number_at := fun_mk (st := s_number_at) lnumber_at cnumber_at knumber_at
  m_number_at := PySem.W.mg_of X G anumber_at
  a_digits_behind := f_digits_behind
  fd_digits_behind := _
  F_digits_behind := fun_mk (st := s_digits_behind) ldigits_behind cdigits_behind kdigits_behind
  m_digits_behind := PySem.W.mg_of X G adigits_behind
  a_run_end := f_run_end
  fd_run_end := _
  F_run_end := fun_mk (st := s_run_end) lrun_end crun_end krun_end
  m_run_end := PySem.W.mg_of X G arun_end
  a_law_cell := f_law_cell
  fd_law_cell := _
  F_law_cell := fun_mk (st := s_law_cell) llaw_cell claw_cell klaw_cell
  m_law_cell := PySem.W.mg_of X G alaw_cell
  a_law_word := f_law_word
  fd_law_word := _
  F_law_word := fun_mk (st := s_law_word) llaw_word claw_word klaw_word
  m_law_word := PySem.W.mg_of X G alaw_word
  a_law_token := f_law_token
  fd_law_token := _
  F_law_token := fun_mk (st := s_law_token) llaw_token claw_token klaw_token
  m_law_token := PySem.W.mg_of X G alaw_token
  a_law_bad := f_law_bad
  fd_law_bad := _
  F_law_bad := fun_mk (st := s_law_bad) llaw_bad claw_bad klaw_bad
  m_law_bad := PySem.W.mg_of X G alaw_bad
  a_law := f_law
  fd_law := _
  F_law := fun_mk (st := s_law) llaw claw klaw
  m_law := PySem.W.mg_of X G alaw
  n_abs := PySem.W.mg_none_of X G zabs
  n_int := PySem.W.mg_none_of X G zint
  n_isinstance := PySem.W.mg_none_of X G zisinstance
  n_len := PySem.W.mg_none_of X G zlen
  n_list := PySem.W.mg_none_of X G zlist
  n_min := PySem.W.mg_none_of X G zmin
  n_range := PySem.W.mg_none_of X G zrange
  n_repr := PySem.W.mg_none_of X G zrepr
  n_str := PySem.W.mg_none_of X G zstr
  a_RESERVED := t_RESERVED
  c_RESERVED := PySem.W.mg_of X G gRESERVED
  s_RESERVED := fun H => .inr ⟨_, _, _, lRESERVED, rfl, rfl, by rw [sizeLine_eq]; exact Nat.le_of_ble_eq_true rfl, .cons ⟨_, rfl⟩ (.cons ⟨_, rfl⟩ (.cons ⟨_, rfl⟩ (.cons ⟨_, rfl⟩ (.cons ⟨_, rfl⟩ (.cons ⟨_, rfl⟩ (.cons ⟨_, rfl⟩ (.cons ⟨_, rfl⟩ (.cons ⟨_, rfl⟩ (.cons ⟨_, rfl⟩ (.cons ⟨_, rfl⟩ (.cons ⟨_, rfl⟩ (.cons ⟨_, rfl⟩ (.cons ⟨_, rfl⟩ (.cons ⟨_, rfl⟩ (.cons ⟨_, rfl⟩ (.nil))))))))))))))))⟩
  u_LONGEST_TEXT := _
  c_LONGEST_TEXT := PySem.W.mg_of X G gLONGEST_TEXT
  r_LONGEST_TEXT := ⟨_, rfl⟩
  u_LONGEST_NAME := _
  c_LONGEST_NAME := PySem.W.mg_of X G gLONGEST_NAME
  r_LONGEST_NAME := ⟨_, rfl⟩
  u_MOST_DIGITS := _
  c_MOST_DIGITS := PySem.W.mg_of X G gMOST_DIGITS
  r_MOST_DIGITS := ⟨_, rfl⟩
  u_SEPARATORS := _
  c_SEPARATORS := PySem.W.mg_of X G gSEPARATORS
  r_SEPARATORS := ⟨_, rfl⟩
  u_LETTERS := _
  c_LETTERS := PySem.W.mg_of X G gLETTERS
  r_LETTERS := ⟨_, rfl⟩
  u_DIGITS := _
  c_DIGITS := PySem.W.mg_of X G gDIGITS
  r_DIGITS := ⟨_, rfl⟩
  u_NAMING := _
  c_NAMING := PySem.W.mg_of X G gNAMING
  r_NAMING := ⟨_, rfl⟩
  a_SIGNS := t_SIGNS
  c_SIGNS := PySem.W.mg_of X G gSIGNS
  s_SIGNS := fun H => .inr ⟨_, _, _, lSIGNS, rfl, rfl, by rw [sizeLine_eq]; exact Nat.le_of_ble_eq_true rfl, .cons ⟨_, rfl⟩ (.cons ⟨_, rfl⟩ (.cons ⟨_, rfl⟩ (.cons ⟨_, rfl⟩ (.cons ⟨_, rfl⟩ (.cons ⟨_, rfl⟩ (.cons ⟨_, rfl⟩ (.cons ⟨_, rfl⟩ (.cons ⟨_, rfl⟩ (.cons ⟨_, rfl⟩ (.cons ⟨_, rfl⟩ (.cons ⟨_, rfl⟩ (.cons ⟨_, rfl⟩ (.cons ⟨_, rfl⟩ (.cons ⟨_, rfl⟩ (.cons ⟨_, rfl⟩ (.nil))))))))))))))))⟩
  a_BOTTOMS := t_BOTTOMS
  c_BOTTOMS := PySem.W.mg_of X G gBOTTOMS
  s_BOTTOMS := fun H => .inr ⟨_, _, _, lBOTTOMS, rfl, rfl, by rw [sizeLine_eq]; exact Nat.le_of_ble_eq_true rfl, .cons ⟨_, rfl⟩ (.cons ⟨_, rfl⟩ (.cons ⟨_, rfl⟩ (.cons ⟨_, rfl⟩ (.cons ⟨_, rfl⟩ (.nil)))))⟩
  a_Malformed := C_Malformed
  i_Malformed := I_Malformed
  fd_Malformed___init__ := _
  F_Malformed___init__ := fun_mk (st := s_Malformed___init__) liMalformed ciMalformed kiMalformed
  x_Malformed := xcls_mk (PySem.W.mg_of X G gMalformed) xMalformed rfl saMalformed gaMalformed ggMalformed noMalformed inMalformed tiMalformed kcMalformed exMalformed tyMalformed hdMalformed icMalformed suMalformed
  a_Oversized := C_Oversized
  i_Oversized := I_Oversized
  fd_Oversized___init__ := _
  F_Oversized___init__ := fun_mk (st := s_Oversized___init__) liOversized ciOversized kiOversized
  x_Oversized := xcls_mk (PySem.W.mg_of X G gOversized) xOversized rfl saOversized gaOversized ggOversized noOversized inOversized tiOversized kcOversized exOversized tyOversized hdOversized icOversized suOversized
theorem Top.b_Malformed_init {K : PySem.W.Frag} {mg : Str → Option Value} (T : Top K mg) : Binds K T.fd_Malformed___init__ ["self", "at"] [] := T.F_Malformed___init__.binds fun _ _ _ _ _ _ us hl => match us, hl with | [_, _], _ => rfl
theorem Top.b_Oversized_init {K : PySem.W.Frag} {mg : Str → Option Value} (T : Top K mg) : Binds K T.fd_Oversized___init__ ["self", "limit"] [] := T.F_Oversized___init__.binds fun _ _ _ _ _ _ us hl => match us, hl with | [_, _], _ => rfl
theorem Top.b_tokens {K : PySem.W.Frag} {mg : Str → Option Value} (T : Top K mg) : Binds K T.fd_tokens ["text"] [] := T.F_tokens.binds fun _ _ _ _ _ _ us hl => match us, hl with | [_], _ => rfl
theorem Top.b_token_start {K : PySem.W.Frag} {mg : Str → Option Value} (T : Top K mg) : Binds K T.fd_token_start ["text", "at"] [] := T.F_token_start.binds fun _ _ _ _ _ _ us hl => match us, hl with | [_, _], _ => rfl
theorem Top.b_comment_end {K : PySem.W.Frag} {mg : Str → Option Value} (T : Top K mg) : Binds K T.fd_comment_end ["text", "at"] [] := T.F_comment_end.binds fun _ _ _ _ _ _ us hl => match us, hl with | [_, _], _ => rfl
theorem Top.b_token_at {K : PySem.W.Frag} {mg : Str → Option Value} (T : Top K mg) : Binds K T.fd_token_at ["text", "at"] [] := T.F_token_at.binds fun _ _ _ _ _ _ us hl => match us, hl with | [_, _], _ => rfl
theorem Top.b_name_at {K : PySem.W.Frag} {mg : Str → Option Value} (T : Top K mg) : Binds K T.fd_name_at ["text", "at"] [] := T.F_name_at.binds fun _ _ _ _ _ _ us hl => match us, hl with | [_, _], _ => rfl
theorem Top.b_number_at {K : PySem.W.Frag} {mg : Str → Option Value} (T : Top K mg) : Binds K T.fd_number_at ["text", "at"] [] := T.F_number_at.binds fun _ _ _ _ _ _ us hl => match us, hl with | [_, _], _ => rfl
theorem Top.b_digits_behind {K : PySem.W.Frag} {mg : Str → Option Value} (T : Top K mg) : Binds K T.fd_digits_behind ["text", "point"] [] := T.F_digits_behind.binds fun _ _ _ _ _ _ us hl => match us, hl with | [_, _], _ => rfl
theorem Top.b_run_end {K : PySem.W.Frag} {mg : Str → Option Value} (T : Top K mg) : Binds K T.fd_run_end ["text", "at", "characters"] [] := T.F_run_end.binds fun _ _ _ _ _ _ us hl => match us, hl with | [_, _, _], _ => rfl
theorem Top.b_law_cell {K : PySem.W.Frag} {mg : Str → Option Value} (T : Top K mg) : Binds K T.fd_law_cell ["script", "k"] [] := T.F_law_cell.binds fun _ _ _ _ _ _ us hl => match us, hl with | [_, _], _ => rfl
theorem Top.b_law_word {K : PySem.W.Frag} {mg : Str → Option Value} (T : Top K mg) : Binds K T.fd_law_word ["cell"] [] := T.F_law_word.binds fun _ _ _ _ _ _ us hl => match us, hl with | [_], _ => rfl
theorem Top.b_law_token {K : PySem.W.Frag} {mg : Str → Option Value} (T : Top K mg) : Binds K T.fd_law_token ["cell"] [] := T.F_law_token.binds fun _ _ _ _ _ _ us hl => match us, hl with | [_], _ => rfl
theorem Top.b_law_bad {K : PySem.W.Frag} {mg : Str → Option Value} (T : Top K mg) : Binds K T.fd_law_bad ["cell"] [] := T.F_law_bad.binds fun _ _ _ _ _ _ us hl => match us, hl with | [_], _ => rfl
theorem Top.b_law {K : PySem.W.Frag} {mg : Str → Option Value} (T : Top K mg) : Binds K T.fd_law ["script"] [] := T.F_law.binds fun _ _ _ _ _ _ us hl => match us, hl with | [_], _ => rfl
end Tk

namespace Tk
open PySem PySem.Spec PyProof.Rows L2 Ly Lx TL
theorem ok_Malformed_init {P : Program} {w : World} {K : PySem.W.Frag} {mg : Str → Option Value} {base : Heap} (T : Top K mg) : FnOk P w K mg base CX0 1 T.i_Malformed T.fd_Malformed___init__ ["self", "at"] (spXI K T.a_Malformed "at") := by
  refine T.F_Malformed___init__.ok sc_Malformed___init__ (fun vs H Q E h => ?_) (fun cdv A outer s H vs Q E hr h => ?_)
  · obtain ⟨a, v, rfl, _⟩ := h
    rfl
  · obtain ⟨a, v, rfl, C, no, ea, q⟩ := h
    exact ⟨_, (pss_one (ps_ost (pv 0) (pv 1))), v, rfl, .ref a, rfl, a, _, rfl, C, no, .inl ⟨ea, fun dx n ne => q dx n ne⟩⟩
theorem ok_Oversized_init {P : Program} {w : World} {K : PySem.W.Frag} {mg : Str → Option Value} {base : Heap} (T : Top K mg) : FnOk P w K mg base CX0 1 T.i_Oversized T.fd_Oversized___init__ ["self", "limit"] (spXI K T.a_Oversized "limit") := by
  refine T.F_Oversized___init__.ok sc_Oversized___init__ (fun vs H Q E h => ?_) (fun cdv A outer s H vs Q E hr h => ?_)
  · obtain ⟨a, v, rfl, _⟩ := h
    rfl
  · obtain ⟨a, v, rfl, C, no, ea, q⟩ := h
    exact ⟨_, (pss_one (ps_ost (pv 0) (pv 1))), v, rfl, .ref a, rfl, a, _, rfl, C, no, .inl ⟨ea, fun dx n ne => q dx n ne⟩⟩
/-! ### the lexer's defs keep their promises -/
theorem sz {n : Nat} (h : n ≤ 100000) : n ≤ sizeLine := Nat.le_trans h (by decide)
theorem chr_eq (c d : Nat) : decide (V.str ⟨#[c]⟩ = V.str ⟨#[d]⟩) = decide (c = d) := by
  by_cases h : c = d
  · subst h
    simp
  · rw [decide_eq_false h, decide_eq_false]
    intro e
    have h1 : (⟨#[c]⟩ : Str) = ⟨#[d]⟩ := V.str.inj e
    have h2 : #[c] = #[d] := congrArg Str.cps h1
    exact h (by simpa using h2)
def kindOf : Tkn → Str
  | .word _ => "word"
  | .name _ => "name"
  | .num _ _ => "number"
  | .sign _ => "sign"
def valD : Tkn → PyData
  | .word w => .str w
  | .name w => .str w
  | .num t b => .tuple [.int t, .int b]
  | .sign w => .str w
/-- a token is handed back, its end at e -/
def TokRes (K : PySem.W.Frag) (H : Hp) (t : Tkn) (e : Nat) (Q : VK) : Prop := ∀ p H' val, Same H H' → H p = none →
  H' p = some (.tup [.str (kindOf t), val, .int (e : Int)]) → Dp K H' val (valD t) → Q (.ref p) H'
/-- an error of the class at C with this field is let out -/
def ErrRes (C : Addr) (f : Str) (v : V) (H : Hp) (E : XK) : Prop := ∀ d H', Same H H' → H d = none → H' d = some (.xd [(f, v)]) → E (.ref C) (some d) H'
theorem same_upd {H : Hp} {p : Addr} {o : HO} (h : H p = none) : Same H (upd H p o) := fun b x e => by
  rw [upd_ne (ne_of_none e h)]
  exact e
theorem err_of {C : Addr} {f : Str} {v : V} {H : Hp} {E : XK} (h : ErrRes C f v H E) {d : Addr} (hd : H d = none) : E (.ref C) (some d) (upd H d (.xd [(f, v)])) :=
  h d _ (same_upd hd) hd upd_same
def sp_run_end : Sp := fun vs H Q _ => ∃ (z c : Str) (i : Nat), vs = [.str z, .int (i : Int), .str c] ∧ z.length ≤ 100000 ∧ i ≤ z.length ∧ Q (.int ((i + run (tl c) ((tl z).drop i) : Nat) : Int)) H
def sp_comment_end : Sp := fun vs H Q _ => ∃ (z : Str) (i : Nat), vs = [.str z, .int (i : Int)] ∧ z.length ≤ 100000 ∧ i ≤ z.length ∧ Q (.int ((i + toEnd ((tl z).drop i) : Nat) : Int)) H
def sp_token_start : Sp := fun vs H Q _ => ∃ (z : Str) (i : Nat), vs = [.str z, .int (i : Int)] ∧ z.length ≤ 100000 ∧ i ≤ z.length ∧ Q (.int ((i + skip false ((tl z).drop i) : Nat) : Int)) H
def sp_digits_behind : Sp := fun vs H Q _ => ∃ (z : Str) (i : Nat), vs = [.str z, .int (i : Int)] ∧ z.length ≤ 100000 ∧ i ≤ z.length ∧ Q (.str (mk (fracAt ((tl z).drop i)))) H
def sp_tok (f : List Nat → Option (Tkn × Nat)) (K : PySem.W.Frag) (C : Addr) : Sp := fun vs H Q E => ∃ (z : Str) (i : Nat), vs = [.str z, .int (i : Int)] ∧ z.length ≤ 100000 ∧ i < z.length ∧
  (∀ t n, f ((tl z).drop i) = some (t, n) → TokRes K H t (i + n) Q) ∧ (f ((tl z).drop i) = none → ErrRes C "at" (.int (i : Int)) H E)
theorem drop_at {z : Str} {j : Nat} (h : j < z.length) : ∃ x, (tl z)[j]? = some x ∧ (tl z).drop j = x :: (tl z).drop (j + 1) := by
  rw [len_tl] at h
  exact ⟨(tl z)[j], List.getElem?_eq_getElem h, List.drop_eq_getElem_cons h⟩
theorem drop_end {z : Str} {j : Nat} (h : z.length ≤ j) : (tl z).drop j = [] := List.drop_eq_nil_of_le (by rw [← len_tl]; exact h)
theorem drop_len (z : Str) (j : Nat) : ((tl z).drop j).length = z.length - j := by rw [List.length_drop, ← len_tl]
section
variable {P : Program} {w : World} {K : PySem.W.Frag} {mg : Str → Option Value} {base : Heap}
theorem ok_run_end (T : Top K mg) : FnOk P w K mg base CX0 1 T.a_run_end T.fd_run_end ["text", "at", "characters"] sp_run_end := by
  refine T.F_run_end.ok sc_run_end (fun vs H Q E h => ?_) (fun cdv A outer s H vs Q E hr h => ?_)
  · obtain ⟨z, c, i, rfl, _⟩ := h
    rfl
  · obtain ⟨z, c, i, rfl, hz, hi, q⟩ := h
    refine ⟨_, (pss_cons (ps_while PassesOwn.never (PW.pt (pw_and (pt_cmpR op_lt (pv 1) (pe_callB call_len (by rfl) T.n_len bt_len (pa_cons (pv 0) pa_nil)) (nomark _)) (pw_and1 (pt_cmpR op_within (pe_ix ix_seq (pv 0) (pv 1) (fun _ _ => rfl)) (pv 2) (by rfl)))))
      (pss_one (ps_aug (i := 1) sc_run_end.nd rfl (.inl rfl) pe_int ip_add)))
      (pss_one (ps_ret (pv 1)))), ?_⟩
    refine ⟨fun m σ H' => ∃ j : Nat, σ = [some (.str z), some (.int (j : Int)), some (.str c)] ∧ H' = H ∧ j ≤ z.length ∧ m = z.length - j ∧
      j + run (tl c) ((tl z).drop j) = i + run (tl c) ((tl z).drop i), ⟨_, i, rfl, rfl, hi, rfl, rfl⟩, ?_⟩
    rintro m σ H1 ⟨j, rfl, rfl, hj, rfl, ej⟩
    refine ⟨_, rfl, _, rfl, _, z.length, rfl, ⟨sz hz, rfl⟩, _, _, rfl, rfl, _, rfl, ite2 (fun hc => ?_) (fun hc => ?_)⟩
    · have hlt : j < z.length := by simpa using hc
      obtain ⟨x, hx, hd⟩ := drop_at hlt
      rw [hd] at ej
      refine ⟨_, rfl, _, rfl, .inr (.inr ⟨z, (j : Int), x, rfl, rfl, sz hz, atI_nat hx, _, rfl, .inl ⟨x, c, rfl, rfl, _, rfl, ite2 (fun hc' => ?_) (fun hc' => ?_)⟩⟩)⟩
      · rw [run_in (S := tl c) hc'] at ej
        refine ⟨fun σ' H' => ∃ j' : Nat, σ' = [some (.str z), some (.int (j' : Int)), some (.str c)] ∧ H' = H1 ∧ j' = j + 1, fun σ' H' ⟨j', e1, e2, e3⟩ => ?_, ?_⟩
        · subst e3
          exact ⟨_, by omega, j + 1, e1, e2, hlt, rfl, by omega⟩
        · exact ⟨_, rfl, _, _, rfl, rfl, j + 1, rfl, rfl, rfl⟩
      · rw [run_out (S := tl c) (Bool.eq_false_iff.mpr hc')] at ej
        refine ⟨_, rfl, ?_⟩
        have e : j = i + run (tl c) ((tl z).drop i) := by omega
        rw [e]
        exact q
    · have hlt : j = z.length := by
        have : ¬ j < z.length := by simpa using hc
        omega
      rw [drop_end (Nat.le_of_eq hlt.symm), run_nil] at ej
      refine ⟨_, rfl, ?_⟩
      have e : j = i + run (tl c) ((tl z).drop i) := by omega
      rw [e]
      exact q
theorem ok_comment_end (T : Top K mg) : FnOk P w K mg base CX0 1 T.a_comment_end T.fd_comment_end ["text", "at"] sp_comment_end := by
  refine T.F_comment_end.ok sc_comment_end (fun vs H Q E h => ?_) (fun cdv A outer s H vs Q E hr h => ?_)
  · obtain ⟨z, i, rfl, _⟩ := h
    rfl
  · obtain ⟨z, i, rfl, hz, hi, q⟩ := h
    refine ⟨_, (pss_cons (ps_set (i := 2) sc_comment_end.nd rfl (.inl rfl) (by exact (pe_bm PySem.F.plainAttrs_str PySem.F.slot_str_find PySem.F.type_str_find mt_find3 (pv 0) (pa_cons pe_str (pa_cons (pv 1) pa_nil)))))
      (pss_one (ps_ret (pe_ifExp (pt_cmpR op_lt (pv 2) pe_int (nomark _)) (pe_callB call_len (by rfl) T.n_len bt_len (pa_cons (pv 0) pa_nil)) (pv 2))))), ?_⟩
    refine ⟨_, rfl, rfl, _, rfl, z, "\n", (i : Int), rfl, rfl, ?_⟩
    rw [find_nl z hi]
    have hle := toEnd_le ((tl z).drop i)
    rw [drop_len] at hle
    by_cases h : i + toEnd ((tl z).drop i) < z.length
    · rw [if_pos h]
      refine ⟨_, rfl, _, _, rfl, rfl, _, rfl, ?_⟩
      rw [decide_eq_false (by omega)]
      exact iteF ⟨_, rfl, q⟩
    · rw [if_neg h]
      refine ⟨_, rfl, _, _, rfl, rfl, _, rfl, iteT ⟨_, rfl, _, z.length, rfl, ⟨sz hz, rfl⟩, ?_⟩⟩
      have e : i + toEnd ((tl z).drop i) = z.length := by omega
      rw [e] at q
      exact q
theorem ok_token_start (T : Top K mg) : FnOk P w K mg base CX0 2 T.a_token_start T.fd_token_start ["text", "at"] sp_token_start := by
  refine T.F_token_start.ok sc_token_start (fun vs H Q E h => ?_) (fun cdv A outer s H vs Q E hr h => ?_)
  · obtain ⟨z, i, rfl, _⟩ := h
    rfl
  · obtain ⟨z, i, rfl, hz, hi, q⟩ := h
    refine ⟨_, (pss_cons (ps_while PassesOwn.never (pt_cmpR op_lt (pv 1) (pe_callB call_len (by rfl) T.n_len bt_len (pa_cons (pv 0) pa_nil)) (nomark _))
      (pss_one (ps_if (pt_cmpR op_eq (pe_ix ix_seq (pv 0) (pv 1) (fun _ _ => rfl)) pe_str (nomark _))
      (pss_one (ps_set (i := 1) sc_token_start.nd rfl (.inl rfl) (by exact (pe_call (ok_comment_end T) (hr.mono (by decide)) (by rfl) T.m_comment_end T.F_comment_end.kp T.b_comment_end .nil pass0 (pa_cons (pv 0) (pa_cons (pv 1) pa_nil))))))
      (pss_one (ps_if (pt_cmpR op_within (pe_ix ix_seq (pv 0) (pv 1) (fun _ _ => rfl)) (pe_glob (by rfl) T.c_SEPARATORS T.r_SEPARATORS) (by rfl))
      (pss_one (ps_aug (i := 1) sc_token_start.nd rfl (.inl rfl) pe_int ip_add))
      (pss_one (ps_ret (pv 1))))))))
      (pss_one (ps_ret (pv 1)))), ?_⟩
    refine ⟨fun m σ H' => ∃ j : Nat, σ = [some (.str z), some (.int (j : Int))] ∧ H' = H ∧ j ≤ z.length ∧ m = z.length - j ∧
      j + skip false ((tl z).drop j) = i + skip false ((tl z).drop i), ⟨_, i, rfl, rfl, hi, rfl, rfl⟩, ?_⟩
    rintro m σ H1 ⟨j, rfl, rfl, hj, rfl, ej⟩
    refine ⟨_, rfl, _, rfl, _, z.length, rfl, ⟨sz hz, rfl⟩, _, _, rfl, rfl, _, rfl, ite2 (fun hc => ?_) (fun hc => ?_)⟩
    · have hlt : j < z.length := by simpa using hc
      obtain ⟨x, hx, hd⟩ := drop_at hlt
      refine ⟨fun σ' H' => ∃ j' : Nat, σ' = [some (.str z), some (.int (j' : Int))] ∧ H' = H1 ∧ j < j' ∧ j' ≤ z.length ∧ j' + skip false ((tl z).drop j') = i + skip false ((tl z).drop i), fun σ' H' ⟨j', e1, e2, e3, e4, e5⟩ => ?_, ?_⟩
      · exact ⟨_, by omega, j', e1, e2, e4, rfl, e5⟩
      refine ⟨_, rfl, _, rfl, .inr (.inr ⟨z, (j : Int), x, rfl, rfl, sz hz, atI_nat hx, rfl, ?_⟩)⟩
      rw [show decide (V.str ⟨#[x]⟩ = V.str "#") = decide (x = 35) from chr_eq x 35]
      refine ⟨_, rfl, ite2 (fun hc' => ?_) (fun hc' => ?_)⟩
      · have h35 : x = 35 := of_decide_eq_true hc'
        subst h35
        rw [hd] at ej
        rw [skip_hash, ← hd, List.drop_drop] at ej
        have hle := toEnd_le ((tl z).drop j)
        rw [drop_len] at hle
        have hpos : toEnd ((tl z).drop j) = toEnd ((tl z).drop (j + 1)) + 1 := by
          rw [hd, toEnd_cons (by decide)]
        refine ⟨_, rfl, _, rfl, z, j, rfl, hz, hj, j + toEnd ((tl z).drop j), rfl, rfl, by omega, by omega, by omega⟩
      · have h35 : x ≠ 35 := of_decide_eq_false (Bool.eq_false_iff.mpr hc')
        refine ⟨_, rfl, _, rfl, .inr (.inr ⟨z, (j : Int), x, rfl, rfl, sz hz, atI_nat hx, ?_⟩)⟩
        obtain ⟨u, hu, hT⟩ : ∃ y, T.u_SEPARATORS = y ∧ y = T.u_SEPARATORS := ⟨_, rfl, rfl⟩
        refine .inl ⟨x, " \t\n", rfl, rfl, _, rfl, ite2 (fun hb => ?_) (fun hb => ?_)⟩
        · rw [hd, skip_blank hb] at ej
          exact ⟨_, rfl, _, _, rfl, rfl, j + 1, rfl, rfl, by omega, hlt, by omega⟩
        · rw [hd, skip_stop (Bool.eq_false_iff.mpr hb) h35] at ej
          refine ⟨_, rfl, ?_⟩
          have e : j = i + skip false ((tl z).drop i) := by omega
          rw [e]
          exact q
    · have hlt : j = z.length := by
        have : ¬ j < z.length := by simpa using hc
        omega
      rw [drop_end (Nat.le_of_eq hlt.symm)] at ej
      refine ⟨_, rfl, ?_⟩
      have e : j = i + skip false ((tl z).drop i) := by
        simp only [skip] at ej
        omega
      rw [e]
      exact q
theorem ok_digits_behind (T : Top K mg) : FnOk P w K mg base CX0 2 T.a_digits_behind T.fd_digits_behind ["text", "point"] sp_digits_behind := by
  refine T.F_digits_behind.ok sc_digits_behind (fun vs H Q E h => ?_) (fun cdv A outer s H vs Q E hr h => ?_)
  · obtain ⟨z, i, rfl, _⟩ := h
    rfl
  · obtain ⟨z, i, rfl, hz, hi, q⟩ := h
    refine ⟨_, (pss_cons (ps_if (pt_not (pt_val (pe_bm PySem.F.plainAttrs_str PySem.F.slot_str_startswith PySem.F.type_str_startswith mt_startswith3 (pv 0) (pa_cons pe_str (pa_cons (pv 1) pa_nil)))))
      (pss_one (ps_ret pe_str))
      pss_nil)
      (pss_one (ps_ret (pe_slice sl_str (pv 0) (po_some (pe_op op_plus (pv 1) pe_int)) (po_some (pe_call (ok_run_end T) (hr.mono (by decide)) (by rfl) T.m_run_end T.F_run_end.kp T.b_run_end .nil pass0 (pa_cons (pv 0) (pa_cons (pe_op op_plus (pv 1) pe_int) (pa_cons (pe_glob (by rfl) T.c_DIGITS T.r_DIGITS) pa_nil))))))))), ?_⟩
    refine ⟨_, rfl, rfl, _, rfl, z, ".", (i : Int), rfl, rfl, _, rfl, ?_⟩
    rw [starts_eq z "." hi]
    cases e : (tl z).drop i with
    | nil =>
      rw [e] at q
      exact iteT q
    | cons x r =>
      rw [e] at q
      have hp : (tl (Str.ofString ".")).isPrefixOf (x :: r) = decide (x = 46) := by
        show (List.isPrefixOf [46] (x :: r)) = _
        simp only [List.isPrefixOf, Bool.and_true]
        by_cases hx : x = 46
        · subst hx; rfl
        · rw [decide_eq_false hx]
          exact beq_eq_false_iff_ne.mpr (Ne.symm hx)
      rw [hp]
      have hlt : i < z.length := by
        have := drop_len z i
        rw [e] at this
        simp at this
        omega
      have e1 : (tl z).drop (i + 1) = r := by
        have := drop_at hlt
        obtain ⟨y, _, h2⟩ := this
        rw [e] at h2
        exact (List.cons.inj h2).2.symm
      by_cases hx : x = 46
      · rw [decide_eq_true hx]
        refine iteF ?_
        have hle := run_le digits r
        have hl : r.length = z.length - (i + 1) := by rw [← e1, drop_len]
        refine ⟨_, rfl, _, rfl, .inl ⟨_, _, rfl, rfl, (i : Int) + 1, rfl, _, rfl, _, rfl, .inl ⟨_, _, rfl, rfl, z, _, i + 1, rfl, hz, hlt, _, rfl, z, rfl, sz hz, ?_⟩⟩⟩
        have e2 : cutS z (some ((i : Int) + 1)) (some ((i + 1 + run digits ((tl z).drop (i + 1)) : Nat) : Int)) = mk (fracAt (x :: r)) := by
          have := cut_eq z (i := i + 1) (j := i + 1 + run digits ((tl z).drop (i + 1))) (by omega) (by rw [e1]; omega)
          rw [show ((i : Int) + 1) = ((i + 1 : Nat) : Int) from rfl, this, Nat.add_sub_cancel_left, e1, take_run]
          simp only [fracAt, if_pos hx]
        rw [show tl (Str.ofString "0123456789") = digits from rfl, e2]
        exact q
      · rw [decide_eq_false hx]
        refine iteT ?_
        simp only [fracAt, if_neg hx] at q
        exact q
end
end Tk

namespace Tk
open PySem PySem.Spec PyProof.Rows L2 Ly Lx TL
section
variable {P : Program} {w : World} {K : PySem.W.Frag} {mg : Str → Option Value} {base : Heap}
theorem find_of {α : Type} {p : α → Bool} : ∀ {l : List α} {k : Nat} {s : α}, l[k]? = some s → p s = true → (∀ j, j < k → ∀ s', l[j]? = some s' → p s' = false) → l.find? p = some s
  | [], k, s, h, _, _ => by simp at h
  | a :: l, 0, s, h, hp, _ => by
    have e : a = s := by simpa using h
    subst e
    rw [List.find?_cons_of_pos hp]
  | a :: l, k + 1, s, h, hp, hn => by
    rw [List.find?_cons_of_neg (by rw [hn 0 (by omega) a rfl]; exact Bool.false_ne_true)]
    exact find_of (l := l) (k := k) (by simpa using h) hp fun j hj s' hs => hn (j + 1) (by omega) s' (by simpa using hs)
theorem ok_name_at (T : Top K mg) : FnOk P w K mg base (L2N.CX P w) 4 T.a_name_at T.fd_name_at ["text", "at"] (sp_tok nmAt K T.a_Malformed) := by
  refine okN T.F_name_at sc_name_at (fun vs H Q E h => ?_) (fun cdv A outer s H vs Q E hr h => ?_)
  · obtain ⟨z, i, rfl, _⟩ := h
    rfl
  · obtain ⟨z, i, rfl, hz, hi, hok, her⟩ := h
    refine ⟨_, (pss_cons (ps_set (i := 2) sc_name_at.nd rfl (.inl rfl) (by exact (pe_call (ok_run_end T) (hr.mono (by decide)) (by rfl) T.m_run_end T.F_run_end.kp T.b_run_end .nil pass0 (pa_cons (pv 0) (pa_cons (pv 1) (pa_cons (pe_glob (by rfl) T.c_NAMING T.r_NAMING) pa_nil))))))
      (pss_cons (ps_set (i := 3) sc_name_at.nd rfl (.inl rfl) (by exact (pe_slice sl_str (pv 0) (po_some (pv 1)) (po_some (pv 2)))))
      (pss_cons (ps_if (pt_cmpR op_within (pv 3) (pe_glob (v := .ref T.a_RESERVED) (by rfl) T.c_RESERVED rfl) (by rfl))
      (pss_one (ps_ret (pe_tup (pa_cons pe_str (pa_cons (pv 3) (pa_cons (pv 2) pa_nil))))))
      pss_nil)
      (pss_cons (ps_if (pt_cmpR op_gt (pe_callB call_len (by rfl) T.n_len bt_len (pa_cons (pv 3) pa_nil)) (pe_glob (by rfl) T.c_LONGEST_NAME T.r_LONGEST_NAME) (nomark _))
      (pss_one (ps_raiseX rfl (L2N.takes_of rfl rfl rfl rfl) T.x_Malformed (ok_Malformed_init T) (hr.mono (by decide)) T.b_Malformed_init (pa_cons (pv 1) pa_nil)))
      pss_nil)
      (pss_one (ps_ret (pe_tup (pa_cons pe_str (pa_cons (pv 3) (pa_cons (pv 2) pa_nil)))))))))), ?_⟩
    have hle := run_le naming ((tl z).drop i)
    rw [drop_len] at hle
    refine ⟨_, rfl, _, rfl, z, _, i, rfl, hz, Nat.le_of_lt hi, ?_⟩
    refine ⟨_, rfl, _, rfl, _, rfl, _, rfl, _, rfl, z, rfl, sz hz, ?_⟩
    rw [show tl (Str.ofString "abcdefghijklmnopqrstuvwxyzABCDEFGHIJKLMNOPQRSTUVWXYZ0123456789_") = naming from rfl]
    rw [cut_eq z (Nat.le_add_right _ _) (by omega), Nat.add_sub_cancel_left]
    refine ⟨_, rfl, .inr ⟨T.a_RESERVED, _, rfl, .inr (T.s_RESERVED _), rfl, rfl, _, rfl, ite2 (fun hc => ?_) (fun hc => ?_)⟩⟩
    · have hres : isRes (mk (((tl z).drop i).take (run naming ((tl z).drop i)))) = true := hc
      refine ⟨_, rfl, _, rfl, by show 3 ≤ sizeLine; decide, fun p hp => ?_⟩
      exact hok (.word _) _ (by unfold nmAt; rw [if_pos hres]) p _ _ (same_upd hp) hp upd_same (.str _)
    · have hres : ¬ isRes (mk (((tl z).drop i).take (run naming ((tl z).drop i)))) = true := hc
      have hln : (mk (((tl z).drop i).take (run naming ((tl z).drop i)))).length = run naming ((tl z).drop i) := by
        rw [mk_len, List.length_take, drop_len]
        omega
      refine ⟨_, rfl, _, run naming ((tl z).drop i), rfl, ⟨by rw [hln]; exact sz (by omega), hln.symm⟩, _, _, rfl, rfl, _, rfl, ite2 (fun hc' => ?_) (fun hc' => ?_)⟩
      · have h16 : 16 < run naming ((tl z).drop i) := by
          have := of_decide_eq_true hc'
          omega
        refine ⟨_, rfl, _, rfl, fun d hd => err_of (her ?_) hd⟩
        unfold nmAt
        rw [if_neg hres, if_pos h16]
      · have h16 : ¬ 16 < run naming ((tl z).drop i) := by
          have := of_decide_eq_false (Bool.eq_false_iff.mpr hc')
          omega
        refine ⟨_, rfl, _, rfl, by show 3 ≤ sizeLine; decide, fun p hp => ?_⟩
        exact hok (.name _) _ (by unfold nmAt; rw [if_neg hres, if_neg h16]) p _ _ (same_upd hp) hp upd_same (.str _)
theorem ok_number_at (T : Top K mg) : FnOk P w K mg base (L2N.CX P w) 4 T.a_number_at T.fd_number_at ["text", "at"]
    (fun vs H Q E => sp_tok nrAt K T.a_Malformed vs H Q E ∧ ∃ (z : Str) (i : Nat), vs = [.str z, .int (i : Int)] ∧ 1 ≤ run digits ((tl z).drop i)) := by
  refine okN T.F_number_at sc_number_at (fun vs H Q E h => ?_) (fun cdv A outer s H vs Q E hr h => ?_)
  · obtain ⟨⟨z, i, rfl, _⟩, _⟩ := h
    rfl
  · obtain ⟨⟨z, i, rfl, hz, hi, hok, her⟩, z', i', e, h1⟩ := h
    have ez : z = z' := by
      injection e with e1 _
      injection e1
    have ei : i = i' := by
      injection e with _ e2
      injection e2 with e3 _
      injection e3 with e4
      omega
    subst ez ei
    refine ⟨_, (pss_cons (ps_set (i := 2) sc_number_at.nd rfl (.inl rfl) (by exact (pe_call (ok_run_end T) (hr.mono (by decide)) (by rfl) T.m_run_end T.F_run_end.kp T.b_run_end .nil pass0 (pa_cons (pv 0) (pa_cons (pv 1) (pa_cons (pe_glob (by rfl) T.c_DIGITS T.r_DIGITS) pa_nil))))))
      (pss_cons (ps_set (i := 3) sc_number_at.nd rfl (.inl rfl) (by exact (pe_slice sl_str (pv 0) (po_some (pv 1)) (po_some (pv 2)))))
      (pss_cons (ps_set (i := 4) sc_number_at.nd rfl (.inl rfl) (by exact (pe_call (ok_digits_behind T) (hr.mono (by decide)) (by rfl) T.m_digits_behind T.F_digits_behind.kp T.b_digits_behind .nil pass0 (pa_cons (pv 0) (pa_cons (pv 2) pa_nil)))))
      (pss_cons (ps_set (i := 5) sc_number_at.nd rfl (.inl rfl) (by exact (pe_ifExp (pt_truth (pv 4) (by intro _; rfl)) (pe_op op_plus (pe_op op_plus (pv 2) pe_int) (pe_callB call_len (by rfl) T.n_len bt_len (pa_cons (pv 4) pa_nil))) (pv 2))))
      (pss_cons (ps_if (PW.pt (pw_or (pt_cmpR op_gt (pe_callB call_len (by rfl) T.n_len bt_len (pa_cons (pv 3) pa_nil)) (pe_glob (by rfl) T.c_MOST_DIGITS T.r_MOST_DIGITS) (nomark _)) (pw_or1 (pt_cmpR op_ge (pe_callB call_len (by rfl) T.n_len bt_len (pa_cons (pv 4) pa_nil)) (pe_callB call_len (by rfl) T.n_len bt_len (pa_cons (pe_glob (v := .ref T.a_BOTTOMS) (by rfl) T.c_BOTTOMS rfl) pa_nil)) (nomark _)))))
      (pss_one (ps_raiseX rfl (L2N.takes_of rfl rfl rfl rfl) T.x_Malformed (ok_Malformed_init T) (hr.mono (by decide)) T.b_Malformed_init (pa_cons (pv 1) pa_nil)))
      pss_nil)
      (pss_cons (ps_if (PW.pt (pw_and (pt_cmpR op_lt (pv 5) (pe_callB call_len (by rfl) T.n_len bt_len (pa_cons (pv 0) pa_nil)) (nomark _)) (pw_and1 (pt_cmpR op_within (pe_ix ix_seq (pv 0) (pv 5) (fun _ _ => rfl)) (pe_glob (by rfl) T.c_NAMING T.r_NAMING) (by rfl)))))
      (pss_one (ps_raiseX rfl (L2N.takes_of rfl rfl rfl rfl) T.x_Malformed (ok_Malformed_init T) (hr.mono (by decide)) T.b_Malformed_init (pa_cons (pv 1) pa_nil)))
      pss_nil)
      (pss_one (ps_ret (pe_tup (pa_cons pe_str (pa_cons (pe_tup (pa_cons (pe_callTy call_intX (by rfl) T.n_int bt_int (pa_cons (pe_op op_plus (pv 3) (pv 4)) pa_nil)) (pa_cons (pe_ix ix_seq (pe_glob (v := .ref T.a_BOTTOMS) (by rfl) T.c_BOTTOMS rfl) (pe_callB call_len (by rfl) T.n_len bt_len (pa_cons (pv 4) pa_nil)) (fun _ _ => rfl)) pa_nil))) (pa_cons (pv 5) pa_nil)))))))))))), ?_⟩
    have hle := run_le digits ((tl z).drop i)
    rw [drop_len] at hle
    generalize hp : run digits ((tl z).drop i) = p at *
    have hdd : (tl z).drop (i + p) = ((tl z).drop i).drop p := by rw [List.drop_drop]
    refine ⟨_, rfl, _, rfl, z, _, i, rfl, hz, Nat.le_of_lt hi, ?_⟩
    rw [show tl (Str.ofString "0123456789") = digits from rfl, hp]
    refine ⟨_, rfl, _, rfl, _, rfl, _, rfl, _, rfl, z, rfl, sz hz, ?_⟩
    rw [cut_eq z (Nat.le_add_right _ _) (by omega), Nat.add_sub_cancel_left]
    refine ⟨_, rfl, _, rfl, z, i + p, rfl, hz, by omega, ?_⟩
    rw [hdd]
    generalize hF : fracAt (((tl z).drop i).drop p) = F at *
    have hFl : F ≠ [] → F.length + 1 ≤ z.length - (i + p) := fun hne => by
      have := fracAt_lt (l := ((tl z).drop i).drop p) (by rw [hF]; exact hne)
      rw [hF, List.length_drop, drop_len] at this
      omega
    have hFz : F.length ≤ 100000 := by
      have := fracAt_le (((tl z).drop i).drop p)
      rw [hF, List.length_drop, drop_len] at this
      omega
    have hE : numEnd ((tl z).drop i) = if F = [] then p else p + 1 + F.length := by
      unfold numEnd
      rw [hp, hF]
    have hEz : i + numEnd ((tl z).drop i) ≤ z.length := by
      rw [hE]
      split
      · omega
      · rename_i hne
        have := hFl hne
        omega
    have hW : (((tl z).drop i).take p).length = p := by
      rw [List.length_take, drop_len]
      omega
    have hnone : 6 < p ∨ 5 ≤ F.length → nrAt ((tl z).drop i) = none := fun hb => by
      unfold nrAt
      rw [hp, hF, if_pos hb]
    -- end = point + 1 + len(part) if part else point
    refine ⟨_, rfl, (!decide (F = [])), ⟨by rw [mk_len]; exact sz hFz, ?_⟩, ite2 (fun hb => ?yes) (fun hb => ?no)⟩
    · rw [mk_len]
      cases F with
      | nil => rfl
      | cons a r =>
        rw [decide_eq_false (by simp)]
        simp only [List.length_cons, Bool.not_false]
        symm
        rw [bne_iff_ne]
        omega
    case' yes =>
      have hne : F ≠ [] := by simpa using hb
      refine ⟨_, rfl, .inl ⟨_, _, rfl, rfl, _, rfl, _, F.length, rfl, ⟨by rw [mk_len]; exact sz hFz, (mk_len F).symm⟩, .inl ⟨_, _, rfl, rfl, ?_⟩⟩⟩
      dsimp only
      rw [show ((i + p : Nat) : Int) + 1 + (F.length : Int) = ((i + numEnd ((tl z).drop i) : Nat) : Int) by rw [hE, if_neg hne]; omega]
    case' no =>
      have hne : F = [] := by simpa using hb
      refine ⟨_, rfl, ?_⟩
      rw [show ((i + p : Nat) : Int) = ((i + numEnd ((tl z).drop i) : Nat) : Int) by rw [hE, if_pos hne]]
    all_goals
      refine ⟨_, rfl, _, p, rfl, ⟨by rw [mk_len, hW]; exact sz (by omega), by rw [mk_len, hW]⟩, _, _, rfl, rfl, _, rfl, ite2 (fun h6 => iteT ?_) (fun h6 => ?_)⟩
      · exact ⟨_, rfl, _, rfl, fun d hd => err_of (her (hnone (.inl (by have := of_decide_eq_true h6; omega)))) hd⟩
      have h6' : ¬ 6 < p := by
        have := of_decide_eq_false (Bool.eq_false_iff.mpr h6)
        omega
      refine ⟨_, rfl, _, F.length, rfl, ⟨by rw [mk_len]; exact sz hFz, (mk_len F).symm⟩, _, 5, rfl, .inr ⟨_, T.s_BOTTOMS _, rfl⟩, _, _, rfl, rfl, _, rfl, ite2 (fun h5 => ?_) (fun h5 => ?_)⟩
      · exact ⟨_, rfl, _, rfl, fun d hd => err_of (her (hnone (.inr (by have := of_decide_eq_true h5; omega)))) hd⟩
      have h5' : F.length < 5 := by
        have := of_decide_eq_false (Bool.eq_false_iff.mpr h5)
        omega
      have hnb : ¬ (6 < p ∨ 5 ≤ F.length) := by omega
      have hbit : headIn naming (((tl z).drop i).drop (numEnd ((tl z).drop i))) = true → nrAt ((tl z).drop i) = none := fun hh => by
        unfold nrAt
        rw [hp, hF, if_neg hnb, if_pos hh]
      have hgood : headIn naming (((tl z).drop i).drop (numEnd ((tl z).drop i))) = false →
          nrAt ((tl z).drop i) = some (.num (NumText.digitsVal (((tl z).drop i).take p ++ F)) (10 ^ F.length), numEnd ((tl z).drop i)) := fun hh => by
        unfold nrAt
        rw [hp, hF, if_neg hnb, if_neg (by rw [hh]; exact Bool.false_ne_true)]
      have hint : PySem.intText? (mk (((tl z).drop i).take p) ++ mk F) = some ((NumText.digitsVal (((tl z).drop i).take p ++ F) : Nat) : Int) := by
        have e1 : (mk (((tl z).drop i).take p) ++ mk F).cps.toList = ((tl z).drop i).take p ++ F := tl_append _ _
        have h2 := intText_digits (x := mk (((tl z).drop i).take p) ++ mk F) (by
          rw [e1]
          refine all_digs fun c hc => ?_
          rcases List.mem_append.mp hc with hc | hc
          · rw [← hp, take_run] at hc
            exact List.all_eq_true.mp (List.all_takeWhile (l := (tl z).drop i)) c hc
          · rw [← hF] at hc
            exact fracAt_digs _ c hc) (by
          rw [e1]
          intro e
          have := congrArg List.length e
          rw [List.length_append, hW] at this
          simp at this
          omega) (by
          rw [len_tl, show tl (mk (((tl z).drop i).take p) ++ mk F) = _ from e1, List.length_append, hW]
          omega)
        rw [e1] at h2
        exact h2
      have hsum : (mk (((tl z).drop i).take p)).length + (mk F).length ≤ sizeLine := by
        rw [mk_len, mk_len, hW]
        exact sz (by omega)
      have hbot : atI [V.int 1, V.int 10, V.int 100, V.int 1000, V.int 10000] ((F.length : Nat) : Int) = some (.int ((10 ^ F.length : Nat) : Int)) := by
        rcases (by omega : F.length = 0 ∨ F.length = 1 ∨ F.length = 2 ∨ F.length = 3 ∨ F.length = 4) with e | e | e | e | e <;> rw [e] <;> rfl
      have fin : headIn naming (((tl z).drop i).drop (numEnd ((tl z).drop i))) = false → ∀ b, H b = none → ∀ q, upd H b (.tup [.int ((NumText.digitsVal (((tl z).drop i).take p ++ F) : Nat) : Int), .int ((10 ^ F.length : Nat) : Int)]) q = none →
          Q (.ref q) (upd (upd H b (.tup [.int ((NumText.digitsVal (((tl z).drop i).take p ++ F) : Nat) : Int), .int ((10 ^ F.length : Nat) : Int)])) q (.tup [.str "number", .ref b, .int ((i + numEnd ((tl z).drop i) : Nat) : Int)])) := fun hh b hb q hq => by
        have hs1 := same_upd (o := .tup [.int ((NumText.digitsVal (((tl z).drop i).take p ++ F) : Nat) : Int), .int ((10 ^ F.length : Nat) : Int)]) hb
        have hs2 := same_upd (o := .tup [.str "number", .ref b, .int ((i + numEnd ((tl z).drop i) : Nat) : Int)]) hq
        refine hok _ _ (hgood hh) q _ _ (hs1.trans hs2) (hs1.free hq) upd_same ?_
        exact .tup (.inl (.inl (hs2 _ _ upd_same))) (.cons (.int _) (.cons (.int _) .nil))
      by_cases hend : i + numEnd ((tl z).drop i) < z.length
      · obtain ⟨x, hx, hd⟩ := drop_at hend
        have hd' : ((tl z).drop i).drop (numEnd ((tl z).drop i)) = x :: (tl z).drop (i + numEnd ((tl z).drop i) + 1) := by
          rw [List.drop_drop]
          exact hd
        refine ⟨_, rfl, _, rfl, _, z.length, rfl, ⟨sz hz, rfl⟩, _, _, rfl, rfl, _, rfl, ?_⟩
        rw [decide_eq_true (by omega)]
        refine iteT ⟨_, rfl, _, rfl, .inr (.inr ⟨z, _, x, rfl, rfl, sz hz, atI_nat hx, .inl ⟨x, _, rfl, rfl, _, rfl, ite2 (fun hc => ?_) (fun hc => ?_)⟩⟩)⟩
        · exact ⟨_, rfl, _, rfl, fun d hd2 => err_of (her (hbit (by rw [hd']; exact hc))) hd2⟩
        · refine ⟨_, rfl, _, rfl, .inr ⟨_, _, rfl, rfl, hsum, .inr ⟨_, _, rfl, hint, by rw [len_tl, tl_append, List.length_append, tl_of, tl_of, hW]; omega, _, rfl, _, F.length, rfl, ⟨by rw [mk_len]; exact sz hFz, (mk_len F).symm⟩,
            .inr (.inl ⟨T.a_BOTTOMS, _, _, _, rfl, rfl, T.s_BOTTOMS _, hbot, by show 2 ≤ sizeLine; decide, fun b hb' => ⟨_, rfl, by show 3 ≤ sizeLine; decide, fun q hq => ?_⟩⟩)⟩⟩⟩
          exact fin (by rw [hd']; exact Bool.eq_false_iff.mpr hc) b hb' q hq
      · have hd' : ((tl z).drop i).drop (numEnd ((tl z).drop i)) = [] := by
          rw [List.drop_drop]
          exact drop_end (by omega)
        refine ⟨_, rfl, _, rfl, _, z.length, rfl, ⟨sz hz, rfl⟩, _, _, rfl, rfl, _, rfl, ?_⟩
        rw [decide_eq_false (by omega)]
        refine iteF (iteF ⟨_, rfl, _, rfl, .inr ⟨_, _, rfl, rfl, hsum, .inr ⟨_, _, rfl, hint, by rw [len_tl, tl_append, List.length_append, tl_of, tl_of, hW]; omega, _, rfl, _, F.length, rfl, ⟨by rw [mk_len]; exact sz hFz, (mk_len F).symm⟩,
            .inr (.inl ⟨T.a_BOTTOMS, _, _, _, rfl, rfl, T.s_BOTTOMS _, hbot, by show 2 ≤ sizeLine; decide, fun b hb' => ⟨_, rfl, by show 3 ≤ sizeLine; decide, fun q hq => ?_⟩⟩)⟩⟩⟩)
        exact fin (by rw [hd']; rfl) b hb' q hq
end
end Tk

namespace Tk
open PySem PySem.Spec PyProof.Rows L2 Ly Lx TL
section
variable {P : Program} {w : World} {K : PySem.W.Frag} {mg : Str → Option Value} {base : Heap}
theorem ok_token_at (T : Top K mg) : FnOk P w K mg base (L2N.CX P w) 5 T.a_token_at T.fd_token_at ["text", "at"] (sp_tok tokAt K T.a_Malformed) := by
  refine okN T.F_token_at sc_token_at (fun vs H Q E h => ?_) (fun cdv A outer s H vs Q E hr h => ?_)
  · obtain ⟨z, i, rfl, _⟩ := h
    rfl
  · obtain ⟨z, i, rfl, hz, hi, hok, her⟩ := h
    refine ⟨_, (pss_cons (ps_if (pt_cmpR op_within (pe_ix ix_seq (pv 0) (pv 1) (fun _ _ => rfl)) (pe_glob (by rfl) T.c_LETTERS T.r_LETTERS) (by rfl))
      (pss_one (ps_ret (pe_call (ok_name_at T) (hr.mono (by decide)) (by rfl) T.m_name_at T.F_name_at.kp T.b_name_at .nil (L2N.passes_call (L2N.takes_of rfl rfl rfl rfl) (fun _ _ _ _ h => h)) (pa_cons (pv 0) (pa_cons (pv 1) pa_nil)))))
      pss_nil)
      (pss_cons (ps_if (pt_cmpR op_within (pe_ix ix_seq (pv 0) (pv 1) (fun _ _ => rfl)) (pe_glob (by rfl) T.c_DIGITS T.r_DIGITS) (by rfl))
      (pss_one (ps_ret (pe_call (ok_number_at T) (hr.mono (by decide)) (by rfl) T.m_number_at T.F_number_at.kp T.b_number_at .nil (L2N.passes_call (L2N.takes_of rfl rfl rfl rfl) (fun _ _ _ _ h => h)) (pa_cons (pv 0) (pa_cons (pv 1) pa_nil)))))
      pss_nil)
      (pss_cons (ps_for (passes_of rfl) rfl (pi_tup (pe_glob (v := .ref T.a_SIGNS) (by rfl) T.c_SIGNS rfl)) (pg_name (i := 2) sc_token_at.nd rfl (.inl rfl))
      (pss_one (ps_if (pt_val (pe_bm PySem.F.plainAttrs_str PySem.F.slot_str_startswith PySem.F.type_str_startswith mt_startswith3 (pv 0) (pa_cons (pv 2) (pa_cons (pv 1) pa_nil))))
      (pss_one (ps_ret (pe_tup (pa_cons pe_str (pa_cons (pv 2) (pa_cons (pe_op op_plus (pv 1) (pe_callB call_len (by rfl) T.n_len bt_len (pa_cons (pv 2) pa_nil))) pa_nil))))))
      pss_nil)))
      (pss_one (ps_raiseX rfl (L2N.takes_of rfl rfl rfl rfl) T.x_Malformed (ok_Malformed_init T) (hr.mono (by decide)) T.b_Malformed_init (pa_cons (pv 1) pa_nil)))))), ?_⟩
    obtain ⟨x, hx, hd⟩ := drop_at hi
    refine ⟨_, rfl, _, rfl, .inr (.inr ⟨z, _, x, rfl, rfl, sz hz, atI_nat hx, .inl ⟨x, _, rfl, rfl, _, rfl, ite2 (fun h1 => ?_) (fun h1 => ?_)⟩⟩)⟩
    · have h1' : inS letters x = true := h1
      have et : tokAt ((tl z).drop i) = nmAt ((tl z).drop i) := by
        rw [hd, tokAt_cons, if_pos h1']
      rw [et] at hok her
      exact ⟨_, rfl, _, rfl, z, i, rfl, hz, hi, hok, her⟩
    have h1' : ¬ inS letters x = true := h1
    refine ⟨_, rfl, _, rfl, .inr (.inr ⟨z, _, x, rfl, rfl, sz hz, atI_nat hx, .inl ⟨x, _, rfl, rfl, _, rfl, ite2 (fun h2 => ?_) (fun h2 => ?_)⟩⟩)⟩
    · have h2' : inS digits x = true := h2
      have et : tokAt ((tl z).drop i) = nrAt ((tl z).drop i) := by
        rw [hd, tokAt_cons, if_neg h1', if_pos h2']
      rw [et] at hok her
      refine ⟨_, rfl, _, rfl, ⟨z, i, rfl, hz, hi, hok, her⟩, z, i, rfl, ?_⟩
      rw [hd, run_in h2']
      omega
    have h2' : ¬ inS digits x = true := h2
    have et : tokAt ((tl z).drop i) = sgAt ((tl z).drop i) := by
      rw [hd, tokAt_cons, if_neg h1', if_neg h2']
    rw [et] at hok her
    refine ⟨_, rfl, ⟨_, T.s_SIGNS _⟩, for_tup (K := K) (a := T.a_SIGNS) (xs := sgns.map V.str) (fun k σ H' => ∃ y, σ = [some (.str z), some (.int (i : Int)), y] ∧ H' = H ∧
      ∀ j, j < k → ∀ s, sgns[j]? = some s → (tl s).isPrefixOf ((tl z).drop i) = false) ⟨none, rfl, rfl, fun j hj => absurd hj (Nat.not_lt_zero j)⟩ (fun k σ H' _ _ => T.s_SIGNS H') ?_ ?_⟩
    · rintro k v σ H1 hk ⟨y, rfl, rfl, hno⟩
      rw [List.getElem?_map] at hk
      cases hs : sgns[k]? with
      | none => rw [hs] at hk; cases hk
      | some sg =>
        rw [hs] at hk
        have ev : v = .str sg := (Option.some.inj hk).symm
        subst ev
        have hsl : sg.length ≤ 2 := by
          have : ∀ s ∈ sgns, s.length ≤ 2 := by decide
          exact this sg (List.mem_of_getElem? hs)
        refine ⟨_, rfl, rfl, _, rfl, _, rfl, z, sg, (i : Int), rfl, rfl, ?_⟩
        rw [starts_eq z sg (Nat.le_of_lt hi)]
        refine ⟨_, rfl, ite2 (fun hp => ?_) (fun hp => ?_)⟩
        · refine ⟨_, rfl, _, rfl, _, rfl, _, sg.length, rfl, ⟨sz (by omega), rfl⟩, .inl ⟨_, _, rfl, rfl, by show 3 ≤ sizeLine; decide, fun p hp' => ?_⟩⟩
          have e : sgAt ((tl z).drop i) = some (.sign sg, sg.length) := by
            unfold sgAt
            rw [find_of hs hp hno]
            rfl
          exact hok (.sign sg) _ e p _ _ (same_upd hp') hp' upd_same (.str _)
        · refine ⟨_, rfl, rfl, fun j hj s hs' => ?_⟩
          by_cases hjk : j = k
          · subst hjk
            rw [hs] at hs'
            cases hs'
            exact Bool.eq_false_iff.mpr hp
          · exact hno j (by omega) s hs'
    · rintro σ H1 ⟨y, rfl, rfl, hno⟩
      refine ⟨_, rfl, _, rfl, fun d hd2 => err_of (her ?_) hd2⟩
      unfold sgAt
      rw [List.find?_eq_none.mpr fun s hs => ?_]
      · rfl
      · obtain ⟨j, hj⟩ := List.getElem?_of_mem hs
        have hlt : j < (sgns.map V.str).length := by
          rw [List.length_map]
          exact (List.getElem?_eq_some_iff.mp hj).1
        rw [hno j hlt s hj]
        exact Bool.false_ne_true
def tokD (t : Tkn × Nat) : PyData := .tuple [.str (kindOf t.1), valD t.1, .int (t.2 : Int)]
theorem noL_val (t : Tkn) : noL (valD t) = true := by cases t <;> rfl
theorem noL_toks : ∀ ts : List (Tkn × Nat), noLs (ts.map tokD) = true
  | [] => rfl
  | t :: ts => by
    show (noL (tokD t) && noLs (ts.map tokD)) = true
    have : noL (tokD t) = true := by
      show (true && (noL (valD t.1) && (true && true))) = true
      rw [noL_val]
      rfl
    rw [this, noL_toks ts]
    rfl
/-- what tokens(text) is promised for any text: how far it reads, what then -/
def sp_tokens (K : PySem.W.Frag) (CM CO : Addr) : Sp := fun vs H Q E => ∃ z : Str, vs = [.str z] ∧ z.length ≤ 100000 ∧
  (12000 < z.length → ErrRes CO "limit" (.str "text") H E) ∧
  (z.length ≤ 12000 → ∃ ts j l', LexTo (skip false (tl z)) ((tl z).drop (skip false (tl z))) ts j l' ∧ (l' = [] ∨ tokAt l' = none) ∧
    (l' = [] → ∀ p H' xs, Same H H' → H p = none → H' p = some (.lst xs) → DpAll K H' xs (ts.map tokD) → Q (.ref p) H') ∧
    (l' ≠ [] → ErrRes CM "at" (.int (j : Int)) H E))
theorem ok_tokens (T : Top K mg) : FnOk P w K mg base (L2N.CX P w) 6 T.a_tokens T.fd_tokens ["text"] (sp_tokens K T.a_Malformed T.a_Oversized) := by
  refine okN T.F_tokens sc_tokens (fun vs H Q E h => ?_) (fun cdv A outer s H vs Q E hr h => ?_)
  · obtain ⟨z, rfl, _⟩ := h
    rfl
  · obtain ⟨z, rfl, hz, hbig, hsmall⟩ := h
    refine ⟨_, (pss_cons (ps_if (pt_cmpR op_gt (pe_callB call_len (by rfl) T.n_len bt_len (pa_cons (pv 0) pa_nil)) (pe_glob (by rfl) T.c_LONGEST_TEXT T.r_LONGEST_TEXT) (nomark _))
      (pss_one (ps_raiseX rfl (L2N.takes_of rfl rfl rfl rfl) T.x_Oversized (ok_Oversized_init T) (hr.mono (by decide)) T.b_Oversized_init (pa_cons pe_str pa_nil)))
      pss_nil)
      (pss_cons (ps_set (i := 1) sc_tokens.nd rfl (.inl rfl) (by exact (pe_lst pa_nil)))
      (pss_cons (ps_set (i := 2) sc_tokens.nd rfl (.inl rfl) (by exact (pe_call (ok_token_start T) (hr.mono (by decide)) (by rfl) T.m_token_start T.F_token_start.kp T.b_token_start .nil pass0 (pa_cons (pv 0) (pa_cons pe_int pa_nil)))))
      (pss_cons (ps_while (passes_of rfl) (pt_cmpR op_lt (pv 2) (pe_callB call_len (by rfl) T.n_len bt_len (pa_cons (pv 0) pa_nil)) (nomark _))
      (pss_cons (ps_asg (pe_call (ok_token_at T) (hr.mono (by decide)) (by rfl) T.m_token_at T.F_token_at.kp T.b_token_at .nil (L2N.passes_call (L2N.takes_of rfl rfl rfl rfl) (fun _ _ _ _ h => h)) (pa_cons (pv 0) (pa_cons (pv 2) pa_nil))) (pg_tup rfl (pgs_cons (pg_name (i := 3) sc_tokens.nd rfl (.inl rfl)) (pgs_cons (pg_name (i := 4) sc_tokens.nd rfl (.inl rfl)) (pgs_cons (pg_name (i := 5) sc_tokens.nd rfl (.inl rfl)) pgs_nil)))))
      (pss_cons (ps_expr (pe_bm PySem.F.plainAttrs_list PySem.F.slot_list_append PySem.F.type_list_append mt_append (pv 1) (pa_cons (pe_tup (pa_cons (pv 3) (pa_cons (pv 4) (pa_cons (pv 2) pa_nil)))) pa_nil)))
      (pss_one (ps_set (i := 2) sc_tokens.nd rfl (.inl rfl) (by exact (pe_call (ok_token_start T) (hr.mono (by decide)) (by rfl) T.m_token_start T.F_token_start.kp T.b_token_start .nil pass0 (pa_cons (pv 0) (pa_cons (pv 5) pa_nil)))))))))
      (pss_one (ps_ret (pv 1))))))), ?_⟩
    refine ⟨_, rfl, _, z.length, rfl, ⟨sz hz, rfl⟩, _, _, rfl, rfl, _, rfl, ite2 (fun hc => ?_) (fun hc => ?_)⟩
    · have : 12000 < z.length := by
        have := of_decide_eq_true hc
        omega
      exact ⟨_, rfl, fun d hd => err_of (hbig this) hd⟩
    have h12 : z.length ≤ 12000 := by
      have := of_decide_eq_false (Bool.eq_false_iff.mpr hc)
      omega
    obtain ⟨ts, je, le, hlex, hstop, hgood, hbad⟩ := hsmall h12
    refine ⟨Nat.zero_le _, fun l nl => ?_⟩
    refine ⟨_, rfl, z, 0, rfl, hz, Nat.zero_le _, ?_⟩
    rw [Nat.zero_add, List.drop_zero]
    have hsk := skip_le false (tl z)
    rw [← len_tl] at hsk
    refine ⟨fun m σ H' => ∃ (a : Nat) (done rest : List (Tkn × Nat)) (xs : List V) (y3 y4 y5 : Option V), σ = [some (.str z), some (.ref l), some (.int (a : Int)), y3, y4, y5] ∧ a ≤ z.length ∧ m = z.length - a ∧
      Same H H' ∧ H' l = some (.lst xs) ∧ DpAll K H' xs (done.map tokD) ∧ done.length ≤ a ∧ ts = done ++ rest ∧ LexTo a ((tl z).drop a) rest je le,
      ⟨_, skip false (tl z), [], ts, [], none, none, none, rfl, hsk, rfl, same_upd nl, upd_same, .nil, Nat.zero_le _, rfl, hlex⟩, ?_⟩
    rintro m σ H1 ⟨a, done, rest, xs, y3, y4, y5, rfl, ha, rfl, hs, hl, hdp, hdl, ets, hlx⟩
    refine ⟨_, rfl, _, rfl, _, z.length, rfl, ⟨sz hz, rfl⟩, _, _, rfl, rfl, _, rfl, ite2 (fun hc => ?_) (fun hc => ?_)⟩
    · have hlt : a < z.length := by simpa using hc
      obtain ⟨x, hx, hd⟩ := drop_at hlt
      refine ⟨fun σ' H' => ∃ (a' : Nat) (done' rest' : List (Tkn × Nat)) (xs' : List V) (y3 y4 y5 : Option V), σ' = [some (.str z), some (.ref l), some (.int (a' : Int)), y3, y4, y5] ∧ a < a' ∧ a' ≤ z.length ∧
        Same H H' ∧ H' l = some (.lst xs') ∧ DpAll K H' xs' (done'.map tokD) ∧ done'.length ≤ a' ∧ ts = done' ++ rest' ∧ LexTo a' ((tl z).drop a') rest' je le, fun σ' H' hN => ?_, ?_⟩
      · obtain ⟨a', d', r', xs', z3, z4, z5, e1, e2, e3, e4, e5, e6, e7, e8, e9⟩ := hN
        exact ⟨_, by omega, a', d', r', xs', z3, z4, z5, e1, e3, rfl, e4, e5, e6, e7, e8, e9⟩
      -- kind, value, end = token_at(text, at)
      refine ⟨_, rfl, _, rfl, z, a, rfl, hz, hlt, fun t n ht => ?_, fun hn => ?_⟩
      · intro p H2 val hs2 np hp hval
        have hpos := tokAt_pos ht
        rw [drop_len] at hpos
        refine ⟨p, _, rfl, .inl (.inl hp), rfl, _, _, rfl, _, _, rfl, _, _, rfl, rfl, ?_⟩
        -- found.append((kind, value, at))
        have hl2 : H2 l = some (.lst xs) := hs2 _ _ hl
        refine ⟨_, rfl, .inl ⟨rfl, _, .inl (.inl hl2)⟩, _, rfl, _, rfl, _, rfl, by show 3 ≤ sizeLine; decide, fun q nq => ?_⟩
        have hlq : (upd H2 q (.tup [.str (kindOf t), val, .int (a : Int)])) l = some (.lst xs) := same_upd nq _ _ hl2
        refine ⟨l, xs, _, rfl, rfl, hlq, ?_, ?_⟩
        · rw [dps_len hdp, List.length_map]
          exact Nat.lt_of_le_of_lt (Nat.le_trans hdl ha) (Nat.lt_of_le_of_lt hz (by decide))
        -- at = token_start(text, end)
        refine ⟨_, rfl, _, rfl, z, a + n, rfl, hz, by omega, ?_⟩
        have hsk2 := skip_le false ((tl z).drop (a + n))
        rw [drop_len] at hsk2
        generalize hH3 : upd (upd H2 q (.tup [.str (kindOf t), val, .int (a : Int)])) l (.lst (xs ++ [.ref q])) = H3
        have s13 : ∀ b o, H b = some o → H3 b = some o := fun b o e => by
          subst hH3
          rw [upd_ne (ne_of_none e nl)]
          exact same_upd nq _ _ (hs2 _ _ (hs _ _ e))
        have tt : ∀ a' ys, SqT K H1 a' ys → SqT K H3 a' ys := fun a' ys h => by
          subst hH3
          exact sqt_upd hlq a' ys (sqt_same (same_upd nq) a' ys (sqt_same hs2 a' ys h))
        have tt2 : ∀ a' ys, SqT K H2 a' ys → SqT K H3 a' ys := fun a' ys h => by
          subst hH3
          exact sqt_upd hlq a' ys (sqt_same (same_upd nq) a' ys h)
        have hq3 : H3 q = some (.tup [.str (kindOf t), val, .int (a : Int)]) := by
          subst hH3
          rw [upd_ne (ne_of upd_same hlq (by intro z; cases z)), upd_same]
        have dnew : Dp K H3 (.ref q) (tokD (t, a)) := .tup (.inl (.inl hq3)) (.cons (.str _) (.cons (dp_keep tt2 _ _ (noL_val t) hval) (.cons (.int _) .nil)))
        cases hlx with
        | refl => 
          rcases hstop with e | e
          · rw [hd] at e
            cases e
          · rw [e] at ht
            cases ht
        | step e r =>
          rw [ht] at e
          cases e
          rename_i ts'
          refine ⟨a + n + skip false ((tl z).drop (a + n)), done ++ [(t, a)], ts', _, _, _, _, rfl, by omega, by omega, s13, by subst hH3; exact upd_same, ?_, ?_, ?_, ?_⟩
          · rw [List.map_append]
            exact dps_append (dps_keep tt _ _ (noL_toks done) hdp) (.cons dnew .nil)
          · rw [List.length_append]
            simp
            omega
          · rw [ets, List.append_assoc]
            rfl
          · rw [List.drop_drop, List.drop_drop] at r
            exact r
      · -- no token stands there
        cases hlx with
        | refl =>
          intro d H' h1 h2 h3
          exact hbad (by rw [hd]; simp) d H' (hs.trans h1) (hs.free h2) h3
        | step e _ =>
          rw [hn] at e
          cases e
    · have hend : a = z.length := by
        have : ¬ a < z.length := by simpa using hc
        omega
      rw [drop_end (Nat.le_of_eq hend.symm)] at hlx
      refine ⟨_, rfl, ?_⟩
      cases hlx with
      | refl =>
        rw [List.append_nil] at ets
        subst ets
        exact hgood rfl l H1 xs hs nl hl hdp
      | step e _ => cases e
end
end Tk

namespace Tk
open PySem PySem.Spec PyProof.Rows L2 Ly Lx TL
/-! ### the lexer where an exception is handled -/
section
variable {P : Program} {w : World} {K : PySem.W.Frag} {mg : Str → Option Value} {base : Heap}
theorem okH_comment_end (T : Top K mg) : L2H.FnH P w K mg base CX0 1 T.a_comment_end T.fd_comment_end ["text", "at"] sp_comment_end := by
  refine okH T.F_comment_end sc_comment_end (fun vs H Q E h => ?_) (fun cdv A outer s H vs Q E p hot hr h => ?_)
  · obtain ⟨z, i, rfl, _⟩ := h
    rfl
  · obtain ⟨z, i, rfl, hz, hi, q⟩ := h
    refine ⟨_, (pss_cons (ps_set (i := 2) sc_comment_end.nd rfl (.inl rfl) (by exact (pe_bm PySem.F.plainAttrs_str PySem.F.slot_str_find PySem.F.type_str_find mt_find3 (pv 0) (pa_cons pe_str (pa_cons (pv 1) pa_nil)))))
      (pss_one (ps_ret (pe_ifExp (pt_cmpR op_lt (pv 2) pe_int (nomark _)) (pe_callB call_len (by rfl) T.n_len bt_len (pa_cons (pv 0) pa_nil)) (pv 2))))), ?_⟩
    refine ⟨_, rfl, rfl, _, rfl, z, "\n", (i : Int), rfl, rfl, ?_⟩
    rw [find_nl z hi]
    have hle := toEnd_le ((tl z).drop i)
    rw [drop_len] at hle
    by_cases h : i + toEnd ((tl z).drop i) < z.length
    · rw [if_pos h]
      refine ⟨_, rfl, _, _, rfl, rfl, _, rfl, ?_⟩
      rw [decide_eq_false (by omega)]
      exact iteF ⟨_, rfl, q⟩
    · rw [if_neg h]
      refine ⟨_, rfl, _, _, rfl, rfl, _, rfl, iteT ⟨_, rfl, _, z.length, rfl, ⟨sz hz, rfl⟩, ?_⟩⟩
      have e : i + toEnd ((tl z).drop i) = z.length := by omega
      rw [e] at q
      exact q
theorem okH_token_start (T : Top K mg) : L2H.FnH P w K mg base CX0 2 T.a_token_start T.fd_token_start ["text", "at"] sp_token_start := by
  refine okH T.F_token_start sc_token_start (fun vs H Q E h => ?_) (fun cdv A outer s H vs Q E p hot hr h => ?_)
  · obtain ⟨z, i, rfl, _⟩ := h
    rfl
  · obtain ⟨z, i, rfl, hz, hi, q⟩ := h
    refine ⟨_, (pss_cons (ps_while (passes_of rfl) (pt_cmpR op_lt (pv 1) (pe_callB call_len (by rfl) T.n_len bt_len (pa_cons (pv 0) pa_nil)) (nomark _))
      (pss_one (ps_if (pt_cmpR op_eq (pe_ix ix_seq (pv 0) (pv 1) (fun _ _ => rfl)) pe_str (nomark _))
      (pss_one (ps_set (i := 1) sc_token_start.nd rfl (.inl rfl) (by exact (L2H.pe_callH (E := fun _ => E0) (okH_comment_end T) (hr.mono (by decide)) ⟨p, hot, List.mem_cons_self⟩ (by rfl) T.m_comment_end T.F_comment_end.kp T.b_comment_end (fun _ => passH) (by exact (pa_cons (pv 0) (pa_cons (pv 1) pa_nil)))))))
      (pss_one (ps_if (pt_cmpR op_within (pe_ix ix_seq (pv 0) (pv 1) (fun _ _ => rfl)) (pe_glob (by rfl) T.c_SEPARATORS T.r_SEPARATORS) (by rfl))
      (pss_one (ps_aug (i := 1) sc_token_start.nd rfl (.inl rfl) pe_int ip_add))
      (pss_one (ps_ret (pv 1))))))))
      (pss_one (ps_ret (pv 1)))), ?_⟩
    refine ⟨fun m σ H' => ∃ j : Nat, σ = [some (.str z), some (.int (j : Int))] ∧ H' = H ∧ j ≤ z.length ∧ m = z.length - j ∧
      j + skip false ((tl z).drop j) = i + skip false ((tl z).drop i), ⟨_, i, rfl, rfl, hi, rfl, rfl⟩, ?_⟩
    rintro m σ H1 ⟨j, rfl, rfl, hj, rfl, ej⟩
    refine ⟨_, rfl, _, rfl, _, z.length, rfl, ⟨sz hz, rfl⟩, _, _, rfl, rfl, _, rfl, ite2 (fun hc => ?_) (fun hc => ?_)⟩
    · have hlt : j < z.length := by simpa using hc
      obtain ⟨x, hx, hd⟩ := drop_at hlt
      refine ⟨fun σ' H' => ∃ j' : Nat, σ' = [some (.str z), some (.int (j' : Int))] ∧ H' = H1 ∧ j < j' ∧ j' ≤ z.length ∧ j' + skip false ((tl z).drop j') = i + skip false ((tl z).drop i), fun σ' H' ⟨j', e1, e2, e3, e4, e5⟩ => ?_, ?_⟩
      · exact ⟨_, by omega, j', e1, e2, e4, rfl, e5⟩
      refine ⟨_, rfl, _, rfl, .inr (.inr ⟨z, (j : Int), x, rfl, rfl, sz hz, atI_nat hx, rfl, ?_⟩)⟩
      rw [show decide (V.str ⟨#[x]⟩ = V.str "#") = decide (x = 35) from chr_eq x 35]
      refine ⟨_, rfl, ite2 (fun hc' => ?_) (fun hc' => ?_)⟩
      · have h35 : x = 35 := of_decide_eq_true hc'
        subst h35
        rw [hd] at ej
        rw [skip_hash, ← hd, List.drop_drop] at ej
        have hle := toEnd_le ((tl z).drop j)
        rw [drop_len] at hle
        have hpos : toEnd ((tl z).drop j) = toEnd ((tl z).drop (j + 1)) + 1 := by
          rw [hd, toEnd_cons (by decide)]
        refine ⟨_, rfl, _, rfl, z, j, rfl, hz, hj, j + toEnd ((tl z).drop j), rfl, rfl, by omega, by omega, by omega⟩
      · have h35 : x ≠ 35 := of_decide_eq_false (Bool.eq_false_iff.mpr hc')
        refine ⟨_, rfl, _, rfl, .inr (.inr ⟨z, (j : Int), x, rfl, rfl, sz hz, atI_nat hx, ?_⟩)⟩
        refine .inl ⟨x, " \t\n", rfl, rfl, _, rfl, ite2 (fun hb => ?_) (fun hb => ?_)⟩
        · rw [hd, skip_blank hb] at ej
          exact ⟨_, rfl, _, _, rfl, rfl, j + 1, rfl, rfl, by omega, hlt, by omega⟩
        · rw [hd, skip_stop (Bool.eq_false_iff.mpr hb) h35] at ej
          refine ⟨_, rfl, ?_⟩
          have e : j = i + skip false ((tl z).drop i) := by omega
          rw [e]
          exact q
    · have hlt : j = z.length := by
        have : ¬ j < z.length := by simpa using hc
        omega
      rw [drop_end (Nat.le_of_eq hlt.symm)] at ej
      refine ⟨_, rfl, ?_⟩
      have e : j = i + skip false ((tl z).drop i) := by
        simp only [skip] at ej
        omega
      rw [e]
      exact q
/-- a text of comments and blanks alone -/
def sp_tokensH : Sp := fun vs H Q _ => ∃ z : Str, vs = [.str z] ∧ z.length ≤ 12000 ∧ skip false (tl z) = z.length ∧ ∀ l, H l = none → Q (.ref l) (upd H l (.lst []))
theorem okH_tokens (T : Top K mg) : L2H.FnH P w K mg base CX0 3 T.a_tokens T.fd_tokens ["text"] sp_tokensH := by
  refine okH T.F_tokens sc_tokens (fun vs H Q E h => ?_) (fun cdv A outer s H vs Q E p hot hr h => ?_)
  · obtain ⟨z, rfl, _⟩ := h
    rfl
  · obtain ⟨z, rfl, hz, hs, q⟩ := h
    refine ⟨_, (pss_cons (ps_if (pt_cmpR op_gt (pe_callB call_len (by rfl) T.n_len bt_len (pa_cons (pv 0) pa_nil)) (pe_glob (by rfl) T.c_LONGEST_TEXT T.r_LONGEST_TEXT) (nomark _))
      pss_never
      pss_nil)
      (pss_cons (ps_set (i := 1) sc_tokens.nd rfl (.inl rfl) (by exact (pe_lst pa_nil)))
      (pss_cons (ps_set (i := 2) sc_tokens.nd rfl (.inl rfl) (by exact (L2H.pe_callH (E := fun _ => E0) (okH_token_start T) (hr.mono (by decide)) ⟨p, hot, List.mem_cons_self⟩ (by rfl) T.m_token_start T.F_token_start.kp T.b_token_start (fun _ => passH) (by exact (pa_cons (pv 0) (pa_cons pe_int pa_nil))))))
      (pss_cons (ps_while (passes_of rfl) (pt_cmpR op_lt (pv 2) (pe_callB call_len (by rfl) T.n_len bt_len (pa_cons (pv 0) pa_nil)) (nomark _))
      pss_never)
      (pss_one (ps_ret (pv 1))))))), ?_⟩
    refine ⟨_, rfl, _, z.length, rfl, ⟨sz (by omega), rfl⟩, _, _, rfl, rfl, _, rfl, ?_⟩
    rw [decide_eq_false (by omega)]
    refine iteF ⟨Nat.zero_le _, fun l nl => ⟨_, rfl, z, 0, rfl, by omega, Nat.zero_le _, ?_⟩⟩
    rw [Nat.zero_add, List.drop_zero, hs]
    refine ⟨fun m σ H' => σ = [some (.str z), some (.ref l), some (.int (z.length : Int)), none, none, none] ∧ H' = upd H l (.lst []), ⟨0, rfl, rfl⟩, ?_⟩
    rintro m σ H1 ⟨rfl, rfl⟩
    refine ⟨_, rfl, _, rfl, _, z.length, rfl, ⟨sz (by omega), rfl⟩, _, _, rfl, rfl, _, rfl, ?_⟩
    rw [decide_eq_false (by omega)]
    exact iteF ⟨_, rfl, q l nl⟩
end
end Tk

namespace Tk
open PySem PySem.Spec PyProof.Rows L2 Ly Lx TL Lw
/-! ### the law's own defs -/
theorem mk_app (a b : List Nat) : mk a ++ mk b = mk (a ++ b) := ext_tl (tl_append _ _)
theorem menu_at {l : List Str} {z : Int} {n k : Nat} (hk : l.length = k) (h0 : 0 < k) (e : z = ((n % k : Nat) : Int)) : atI (l.map V.str) z = some (.str (l.getD (n % k) "")) := by
  have hlt : n % k < l.length := by
    rw [hk]
    exact Nat.mod_lt _ h0
  refine at_of e ?_
  rw [List.getElem?_map, List.getD_eq_getElem?_getD, List.getElem?_eq_getElem hlt]
  rfl
theorem list_at {l : List Nat} {z : Int} {n k : Nat} (hk : l.length = k) (h0 : 0 < k) (e : z = ((n % k : Nat) : Int)) : atI l z = some (l.getD (n % k) 0) := by
  have hlt : n % k < l.length := by
    rw [hk]
    exact Nat.mod_lt _ h0
  rw [e]
  refine atI_nat ?_
  rw [List.getD_eq_getElem?_getD, List.getElem?_eq_getElem hlt]
  rfl
/-- a remainder's divisor is positive -/
theorem pos_ {n : Int} {P : Prop} (h : 0 < n) (e : (0 < n) = P) : P := e ▸ h
theorem log_small {n : Nat} (h : n < 1000000) : n.log2 < 1920 := by
  by_cases h0 : n = 0
  · subst h0
    decide
  · have : n.log2 < 20 := (Nat.log2_lt h0).mpr (by omega)
    omega
theorem cut_last (z : Str) {m : Nat} (h1 : 1 ≤ m) (h2 : m ≤ z.length) : cutS z (some (0 - (m : Int))) none = mk ((tl z).drop (z.length - m)) := by
  unfold cutS
  rw [HT.sIx_none]
  have e : HT.sIx z.length 0 (some (0 - (m : Int))) = z.length - m := by
    show (if (0 - (m : Int)) < 0 then ((0 - (m : Int)) + (z.length : Int)).toNat else min (0 - (m : Int)).toNat z.length) = _
    rw [if_pos (by omega)]
    omega
  rw [e, List.take_of_length_le (by rw [List.length_drop, ← len_tl]; exact Nat.le_refl _)]
  rfl
def sp_bad : Sp := fun vs H Q _ => ∃ c : Nat, vs = [.int (c : Int)] ∧ ∀ H', Same H H' → Q (.str (bads.getD (c % 12) "")) H'
def sp_word : Sp := fun vs H Q _ => ∃ c : Nat, vs = [.int (c : Int)] ∧ Q (.str (mk (wordL c))) H
def sp_ltok (K : PySem.W.Frag) : Sp := fun vs H Q _ => ∃ c : Nat, vs = [.int (c : Int)] ∧ ∀ p H' val, Same H H' → H p = none →
  H' p = some (.lst [.str (kindOf (tkOf c).1), val, .str (tkOf c).2]) → Dp K H' val (valD (tkOf c).1) → Q (.ref p) H'
def sp_cell (K : PySem.W.Frag) : Sp := fun vs H Q _ => ∃ (a : Addr) (ns : List Int) (k : Nat), vs = [.ref a, .int (k : Int)] ∧ SqL K H a (ns.map V.int) ∧ Q (.int (ns.getD k 0)) H
section
variable {P : Program} {w : World} {K : PySem.W.Frag} {mg : Str → Option Value} {base : Heap}
theorem ok_law_cell (T : Top K mg) : FnOk P w K mg base CX0 1 T.a_law_cell T.fd_law_cell ["script", "k"] (sp_cell K) := by
  refine T.F_law_cell.ok sc_law_cell (fun vs H Q E h => ?_) (fun cdv A outer s H vs Q E hr h => ?_)
  · obtain ⟨a, ns, k, rfl, _⟩ := h
    rfl
  · obtain ⟨a, ns, k, rfl, hS, q⟩ := h
    refine ⟨_, (pss_cons (ps_if (pt_cmpR op_lt (pv 1) (pe_callB call_len (by rfl) T.n_len bt_len (pa_cons (pv 0) pa_nil)) (nomark _))
      (pss_one (ps_ret (pe_callTy call_intX (by rfl) T.n_int bt_int (pa_cons (pe_ix ix_seq (pv 0) (pv 1) (fun _ _ => rfl)) pa_nil))))
      pss_nil)
      (pss_one (ps_ret pe_int))), ?_⟩
    refine ⟨_, rfl, _, rfl, _, ns.length, rfl, .inl ⟨_, hS, (List.length_map _).symm⟩, _, _, rfl, rfl, _, rfl, ite2 (fun hc => ?_) (fun hc => ?_)⟩
    · have hlt : k < ns.length := by simpa using hc
      rw [List.getD_eq_getElem?_getD, List.getElem?_eq_getElem hlt] at q
      have g : (ns.map V.int)[k]? = some (.int ns[k]) := by
        rw [List.getElem?_map, List.getElem?_eq_getElem hlt]
        rfl
      exact ⟨_, rfl, _, rfl, .inl ⟨a, _, _, _, rfl, rfl, hS, atI_nat g, .inl (.inl ⟨_, rfl, q⟩)⟩⟩
    · have hlt : ¬ k < ns.length := by simpa using hc
      rw [List.getD_eq_getElem?_getD, List.getElem?_eq_none (by omega)] at q
      exact q
theorem ok_law_bad (T : Top K mg) : FnOk P w K mg base CX0 1 T.a_law_bad T.fd_law_bad ["cell"] sp_bad := by
  refine T.F_law_bad.ok sc_law_bad (fun vs H Q E h => ?_) (fun cdv A outer s H vs Q E hr h => ?_)
  · obtain ⟨c, rfl, _⟩ := h
    rfl
  · obtain ⟨c, rfl, q⟩ := h
    refine ⟨_, (pss_one (ps_ret (pe_ix ix_seq (pe_lst (pa_cons pe_str (pa_cons pe_str (pa_cons pe_str (pa_cons pe_str (pa_cons pe_str (pa_cons (pe_op op_times pe_str pe_int) (pa_cons pe_str (pa_cons pe_str (pa_cons pe_str (pa_cons pe_str (pa_cons pe_str (pa_cons pe_str pa_nil))))))))))))) (pe_op op_mod (pe_callTy call_intX (by rfl) T.n_int bt_int (pa_cons (pv 0) pa_nil)) pe_int) (fun _ _ => rfl)))), ?_⟩
    refine .inr ⟨"a", 17, rfl, rfl, by decide, by decide, by decide, by show 12 ≤ sizeLine; decide, fun l nl => ?_⟩
    refine ⟨_, rfl, .inl (.inl ⟨_, rfl, _, _, rfl, rfl, (by show (0 : Int) < 12; decide), .inl ⟨l, bads.map V.str, _, _, rfl, rfl, SqL.of upd_same, menu_at (l := bads) (n := c) (k := 12) rfl (by decide) (by omega), ?_⟩⟩)⟩
    exact q _ (same_upd nl)
theorem ok_law_word (T : Top K mg) : FnOk P w K mg base CX0 1 T.a_law_word T.fd_law_word ["cell"] sp_word := by
  refine T.F_law_word.ok sc_law_word (fun vs H Q E h => ?_) (fun cdv A outer s H vs Q E hr h => ?_)
  · obtain ⟨c, rfl, _⟩ := h
    rfl
  · obtain ⟨c, rfl, q⟩ := h
    refine ⟨_, (pss_cons (ps_set (i := 1) sc_law_word.nd rfl (.inl rfl) (by exact pe_str))
      (pss_cons (ps_set (i := 2) sc_law_word.nd rfl (.inl rfl) (by exact (pe_op op_plus (pv 1) pe_str)))
      (pss_cons (ps_set (i := 3) sc_law_word.nd rfl (.inl rfl) (by exact (pe_ix ix_seq (pv 1) (pe_op op_mod (pe_callTy call_intX (by rfl) T.n_int bt_int (pa_cons (pv 0) pa_nil)) pe_int) (fun _ _ => rfl))))
      (pss_cons (ps_set (i := 4) sc_law_word.nd rfl (.inl rfl) (by exact (pe_op op_fdiv (pv 0) pe_int)))
      (pss_cons (ps_for PassesOwn.never rfl (pi_range1 (by rfl) T.n_range (pa_cons (pe_op op_mod (pe_callTy call_intX (by rfl) T.n_int bt_int (pa_cons (pv 4) pa_nil)) pe_int) pa_nil)) (pg_name (i := 5) sc_law_word.nd rfl (.inl rfl))
      (pss_one (ps_set (i := 3) sc_law_word.nd rfl (.inl rfl) (by exact (pe_op op_plus (pv 3) (pe_ix ix_seq (pv 2) (pe_op op_mod (pe_callTy call_intX (by rfl) T.n_int bt_int (pa_cons (pe_op op_fdiv (pv 4) (pe_op op_plus pe_int (pv 5))) pa_nil)) pe_int) (fun _ _ => rfl)))))))
      (pss_one (ps_ret (pv 3)))))))), ?_⟩
    refine ⟨_, rfl, .inr ⟨_, _, rfl, rfl, by decide, ?_⟩⟩
    refine ⟨_, rfl, _, rfl, .inl (.inl ⟨_, rfl, _, _, rfl, rfl, (by show (0 : Int) < 52; decide), .inr (.inr ⟨_, _, _, rfl, rfl, by decide, list_at (l := letters) (n := c) (k := 52) rfl (by decide) (by omega), ?_⟩)⟩)⟩
    refine ⟨_, rfl, _, _, rfl, rfl, ⟨by decide, by decide⟩, ?_⟩
    dsimp only
    rw [show (c : Int) / 52 = ((c / 52 : Nat) : Int) by omega]
    refine ⟨_, rfl, .inl (.inl ⟨_, rfl, _, _, rfl, rfl, (by show (0 : Int) < 16; decide), _, rfl, by omega, by omega, ?_⟩)⟩
    rw [show (((c / 52 : Nat) : Int) % 16).toNat = c / 52 % 16 by omega]
    refine for_range (lo := 0) (n := c / 52 % 16) (fun i σ H' => ∃ y, σ = [some (.int (c : Int)), some (.str "abcdefghijklmnopqrstuvwxyzABCDEFGHIJKLMNOPQRSTUVWXYZ"), some (.str ("abcdefghijklmnopqrstuvwxyzABCDEFGHIJKLMNOPQRSTUVWXYZ" ++ "0123456789_")),
      some (.str (mk (letters.getD (c % 52) 0 :: wchars (c / 52) i))), some (.int ((c / 52 : Nat) : Int)), y] ∧ H' = H) ⟨none, rfl, rfl⟩ ?_ ?_
    · rintro i σ H1 hi ⟨y, rfl, rfl⟩
      have e63 : (((c / 52 : Nat) : Int) / (3 + (0 + (i : Int)))) % 63 = (((c / 52 / (3 + i)) % 63 : Nat) : Int) := by
        have : (3 + (0 + (i : Int))) = ((3 + i : Nat) : Int) := by omega
        rw [this, ← Int.natCast_ediv]
        omega
      refine ⟨_, rfl, _, rfl, _, rfl, _, rfl, .inl ⟨_, _, rfl, rfl, _, _, rfl, rfl, ⟨by omega, by omega⟩, .inl (.inl ⟨_, rfl, _, _, rfl, rfl, (by show (0 : Int) < 63; decide),
        .inr (.inr ⟨_, _, _, rfl, rfl, by decide, list_at (l := naming) (n := c / 52 / (3 + i)) (k := 63) rfl (by decide) e63, .inr ⟨_, _, rfl, rfl, ?_, ?_⟩⟩)⟩)⟩⟩
      · rw [mk_len, List.length_cons, wchars_len]
        have : (Str.length ⟨#[naming.getD (c / 52 / (3 + i) % 63) 0]⟩) = 1 := rfl
        rw [this]
        exact sz (by omega)
      · refine ⟨some (.int (0 + (i : Int))), ?_, rfl⟩
        rw [show mk (letters.getD (c % 52) 0 :: wchars (c / 52) i) ++ (⟨#[naming.getD (c / 52 / (3 + i) % 63) 0]⟩ : Str) = mk (letters.getD (c % 52) 0 :: wchars (c / 52) (i + 1)) from mk_app _ _]
        rfl
    · rintro σ H1 ⟨y, rfl, rfl⟩
      exact ⟨_, rfl, q⟩
theorem ok_law_token (T : Top K mg) : FnOk P w K mg base CX0 2 T.a_law_token T.fd_law_token ["cell"] (sp_ltok K) := by
  refine T.F_law_token.ok sc_law_token (fun vs H Q E h => ?_) (fun cdv A outer s H vs Q E hr h => ?_)
  · obtain ⟨c, rfl, _⟩ := h
    rfl
  · obtain ⟨c, rfl, q⟩ := h
    refine ⟨_, (pss_cons (ps_set (i := 1) sc_law_token.nd rfl (.inl rfl) (by exact (pe_op op_mod (pe_callTy call_intX (by rfl) T.n_int bt_int (pa_cons (pv 0) pa_nil)) pe_int)))
      (pss_cons (ps_set (i := 2) sc_law_token.nd rfl (.inl rfl) (by exact (pe_op op_fdiv (pv 0) pe_int)))
      (pss_cons (ps_if (pt_cmpR op_eq (pv 1) pe_int (nomark _))
      (pss_cons (ps_set (i := 3) sc_law_token.nd rfl (.inl rfl) (by exact (pe_ix ix_seq (pe_glob (v := .ref T.a_RESERVED) (by rfl) T.c_RESERVED rfl) (pe_op op_mod (pe_callTy call_intX (by rfl) T.n_int bt_int (pa_cons (pv 2) pa_nil)) (pe_callB call_len (by rfl) T.n_len bt_len (pa_cons (pe_glob (v := .ref T.a_RESERVED) (by rfl) T.c_RESERVED rfl) pa_nil))) (fun _ _ => rfl))))
      (pss_one (ps_ret (pe_lst (pa_cons pe_str (pa_cons (pv 3) (pa_cons (pv 3) pa_nil)))))))
      pss_nil)
      (pss_cons (ps_if (pt_cmpR op_eq (pv 1) pe_int (nomark _))
      (pss_cons (ps_set (i := 3) sc_law_token.nd rfl (.inl rfl) (by exact (pe_call (ok_law_word T) (hr.mono (by decide)) (by rfl) T.m_law_word T.F_law_word.kp T.b_law_word .nil pass0 (pa_cons (pv 2) pa_nil))))
      (pss_one (ps_ret (pe_lst (pa_cons (pe_ix ix_seq (pe_lst (pa_cons pe_str (pa_cons pe_str pa_nil))) (pe_callTy call_intX (by rfl) T.n_int bt_int (pa_cons (pe_cmpR op_within (pv 3) (pe_glob (v := .ref T.a_RESERVED) (by rfl) T.c_RESERVED rfl) (by rfl)) pa_nil)) (fun _ _ => rfl)) (pa_cons (pv 3) (pa_cons (pv 3) pa_nil)))))))
      pss_nil)
      (pss_cons (ps_if (pt_cmpR op_lt (pv 1) pe_int (nomark _))
      (pss_cons (ps_set (i := 4) sc_law_token.nd rfl (.inl rfl) (by exact (pe_callTy call_str_int (by rfl) T.n_str bt_str (pa_cons (pe_op op_mod (pe_callTy call_intX (by rfl) T.n_int bt_int (pa_cons (pv 2) pa_nil)) (pe_ix ix_seq (pe_lst (pa_cons pe_int (pa_cons pe_int pa_nil))) (pe_op op_mod (pe_callTy call_intX (by rfl) T.n_int bt_int (pa_cons (pe_op op_fdiv (pv 2) pe_int) pa_nil)) pe_int) (fun _ _ => rfl))) pa_nil))))
      (pss_cons (ps_set (i := 5) sc_law_token.nd rfl (.inl rfl) (by exact (pe_ix ix_seq (pe_lst (pa_cons pe_str (pa_cons pe_str (pa_cons pe_str (pa_cons pe_str (pa_cons pe_str (pa_cons pe_str pa_nil))))))) (pe_op op_mod (pe_callTy call_intX (by rfl) T.n_int bt_int (pa_cons (pe_op op_fdiv (pv 2) pe_int) pa_nil)) pe_int) (fun _ _ => rfl))))
      (pss_cons (ps_set (i := 6) sc_law_token.nd rfl (.inl rfl) (by exact (pe_ix ix_seq (pe_lst (pa_cons pe_int (pa_cons pe_int (pa_cons pe_int (pa_cons pe_int (pa_cons pe_int (pa_cons pe_int pa_nil))))))) (pe_op op_mod (pe_callTy call_intX (by rfl) T.n_int bt_int (pa_cons (pe_op op_fdiv (pv 2) pe_int) pa_nil)) pe_int) (fun _ _ => rfl))))
      (pss_cons (ps_set (i := 7) sc_law_token.nd rfl (.inl rfl) (by exact (pe_ix ix_seq (pe_lst (pa_cons pe_str (pa_cons pe_str (pa_cons pe_str pa_nil)))) (pe_op op_mod (pe_callTy call_intX (by rfl) T.n_int bt_int (pa_cons (pe_op op_fdiv (pv 2) pe_int) pa_nil)) pe_int) (fun _ _ => rfl))))
      (pss_cons (ps_set (i := 8) sc_law_token.nd rfl (.inl rfl) (by exact (pe_slice sl_str (pe_op op_plus (pv 7) (pv 4)) (po_some (pe_op op_sub pe_int (pe_callB (call_min2 rfl) (by rfl) T.n_min bt_min (pa_cons pe_int (pa_cons (pe_callB call_len (by rfl) T.n_len bt_len (pa_cons (pe_op op_plus (pv 7) (pv 4)) pa_nil)) pa_nil))))) po_none)))
      (pss_one (ps_ret (pe_lst (pa_cons pe_str (pa_cons (pe_tup (pa_cons (pe_callTy call_intX (by rfl) T.n_int bt_int (pa_cons (pe_op op_plus (pv 8) (pv 5)) pa_nil)) (pa_cons (pv 6) pa_nil))) (pa_cons (pe_op op_plus (pe_op op_plus (pv 8) (pe_ix ix_seq (pe_lst (pa_cons pe_str (pa_cons pe_str pa_nil))) (pe_callTy call_intX (by rfl) T.n_int bt_int (pa_cons (pe_cmpR op_ne (pv 5) pe_str (nomark _)) pa_nil)) (fun _ _ => rfl))) (pv 5)) pa_nil)))))))))))
      pss_nil)
      (pss_cons (ps_set (i := 9) sc_law_token.nd rfl (.inl rfl) (by exact (pe_lst (pa_cons pe_str (pa_cons pe_str (pa_cons pe_str (pa_cons pe_str (pa_cons pe_str (pa_cons pe_str (pa_cons pe_str (pa_cons pe_str (pa_cons pe_str (pa_cons pe_str (pa_cons pe_str (pa_cons pe_str (pa_cons pe_str (pa_cons pe_str (pa_cons pe_str (pa_cons pe_str pa_nil)))))))))))))))))))
      (pss_cons (ps_set (i := 10) sc_law_token.nd rfl (.inl rfl) (by exact (pe_ix ix_seq (pv 9) (pe_op op_mod (pe_callTy call_intX (by rfl) T.n_int bt_int (pa_cons (pv 2) pa_nil)) pe_int) (fun _ _ => rfl))))
      (pss_one (ps_ret (pe_lst (pa_cons pe_str (pa_cons (pv 10) (pa_cons (pv 10) pa_nil))))))))))))), ?_⟩
    refine ⟨_, rfl, .inl (.inl ⟨_, rfl, _, _, rfl, rfl, (by show (0 : Int) < 5; decide), ?_⟩)⟩
    dsimp only
    rw [show (c : Int) % 5 = ((c % 5 : Nat) : Int) by omega]
    refine ⟨_, rfl, _, _, rfl, rfl, ⟨by decide, by decide⟩, ?_⟩
    dsimp only
    rw [show (c : Int) / 5 = ((c / 5 : Nat) : Int) by omega]
    generalize hr' : c / 5 = r
    refine ⟨_, rfl, rfl, ?_⟩
    rw [dec_int]
    refine ⟨_, rfl, ite2 (fun h0 => ?_) (fun h0 => ?_)⟩
    · have h0' : c % 5 = 0 := by
        have : ((c % 5 : Nat) : Int) = 0 := by simpa using h0
        omega
      have et : tkOf c = (.word (res.getD (r % 16) ""), res.getD (r % 16) "") := by
        unfold tkOf
        rw [if_pos h0', hr']
      rw [et] at q
      refine ⟨_, rfl, .inl (.inl ⟨_, rfl, _, 16, rfl, .inr ⟨_, T.s_RESERVED _, rfl⟩, _, _, rfl, rfl, (by show (0 : Int) < 16; decide), .inr (.inl ⟨T.a_RESERVED, res.map V.str, _, _, rfl, rfl, T.s_RESERVED _, menu_at (l := res) (n := r) (k := 16) rfl (by decide) (by omega), ?_⟩)⟩)⟩
      exact ⟨_, rfl, _, rfl, by show 3 ≤ sizeLine; decide, fun p np => q p _ _ (same_upd np) np upd_same (.str _)⟩
    have h0' : ¬ c % 5 = 0 := by
      intro e
      apply h0
      rw [e]
      rfl
    refine ⟨_, rfl, rfl, ?_⟩
    rw [dec_int]
    refine ⟨_, rfl, ite2 (fun h1 => ?_) (fun h1 => ?_)⟩
    · have h1' : c % 5 = 1 := by
        have : ((c % 5 : Nat) : Int) = 1 := by simpa using h1
        omega
      have et : tkOf c = (if isRes (mk (wordL r)) = true then .word (mk (wordL r)) else .name (mk (wordL r)), mk (wordL r)) := by
        unfold tkOf
        rw [if_neg h0', if_pos h1', hr']
      rw [et] at q
      refine ⟨_, rfl, r, rfl, by show 2 ≤ sizeLine; decide, fun l nl => ?_⟩
      refine ⟨_, rfl, .inr ⟨T.a_RESERVED, _, rfl, .inr (T.s_RESERVED _), rfl, rfl, .inl (.inr ⟨_, rfl, .inl ⟨l, _, _, .str (kindOf (if isRes (mk (wordL r)) = true then .word (mk (wordL r)) else .name (mk (wordL r)))), rfl, rfl, SqL.of upd_same, ?_, ?_⟩⟩)⟩⟩
      · show atI _ (if isRes (mk (wordL r)) = true then 1 else 0) = _
        cases isRes (mk (wordL r)) <;> rfl
      · refine ⟨_, rfl, _, rfl, by show 3 ≤ sizeLine; decide, fun p np => ?_⟩
        refine q p _ _ ((same_upd nl).trans (same_upd np)) ((same_upd nl).free np) upd_same ?_
        have e : valD (if isRes (mk (wordL r)) = true then .word (mk (wordL r)) else .name (mk (wordL r))) = .str (mk (wordL r)) := by
          cases isRes (mk (wordL r)) <;> rfl
        rw [e]
        exact .str _
    have h1' : ¬ c % 5 = 1 := by
      intro e
      apply h1
      rw [e]
      rfl
    refine ⟨_, rfl, _, _, rfl, rfl, _, rfl, ite2 (fun h4 => ?_) (fun h4 => ?_)⟩
    · have h4' : c % 5 < 4 := by
        have := of_decide_eq_true h4
        omega
      have et : tkOf c = (.num (NumText.digitsVal (numShown r ++ tl (prt r))) (10 ^ (tl (prt r)).length), mk (numText (numShown r) (tl (prt r)))) := by
        unfold tkOf
        rw [if_neg h0', if_neg h1', if_pos h4', hr']
      rw [et] at q
      -- whole
      have hwl := wholeN_lt r
      refine ⟨_, rfl, .inl (.inl ⟨_, rfl, by show 2 ≤ sizeLine; decide, fun l1 n1 => ⟨_, rfl, _, _, rfl, rfl, ⟨by decide, by decide⟩, .inl (.inl ⟨_, rfl, _, _, rfl, rfl, (by show (0 : Int) < 2; decide),
        .inl ⟨l1, _, _, .int (if r / 7 % 2 = 0 then 10 else 1000000), rfl, rfl, SqL.of upd_same, ?_, _, _, rfl, rfl, ?_, ?_⟩⟩)⟩⟩)⟩
      · rw [show ((r : Int) / 7) % 2 = ((r / 7 % 2 : Nat) : Int) by omega]
        rcases (by omega : r / 7 % 2 = 0 ∨ r / 7 % 2 = 1) with e | e <;> rw [e] <;> rfl
      · split <;> decide
      dsimp only
      rw [show (r : Int) % (if r / 7 % 2 = 0 then 10 else 1000000) = ((wholeN r : Nat) : Int) by unfold wholeN; split <;> omega]
      refine ⟨_, rfl, ?_, ?_⟩
      · rw [Int.natAbs_natCast]
        exact log_small hwl
      rw [show Str.ofString (toString ((wholeN r : Nat) : Int)) = mk (numL (wholeN r)) from ext_tl (tl_num _)]
      -- prt, worth, zeros
      refine ⟨by show 6 ≤ sizeLine; decide, fun l2 n2 => ⟨_, rfl, _, _, rfl, rfl, ⟨by decide, by decide⟩, .inl (.inl ⟨_, rfl, _, _, rfl, rfl, (by show (0 : Int) < 6; decide),
        .inl ⟨l2, parts.map V.str, _, _, rfl, rfl, SqL.of upd_same, menu_at (l := parts) (n := r / 14) (k := 6) rfl (by decide) (by omega), ?_⟩⟩)⟩⟩
      rw [show parts.getD (r / 14 % 6) "" = prt r from rfl]
      refine ⟨by show 6 ≤ sizeLine; decide, fun l3 n3 => ⟨_, rfl, _, _, rfl, rfl, ⟨by decide, by decide⟩, .inl (.inl ⟨_, rfl, _, _, rfl, rfl, (by show (0 : Int) < 6; decide),
        .inl ⟨l3, _, _, .int ((10 ^ (tl (prt r)).length : Nat) : Int), rfl, rfl, SqL.of upd_same, ?_, ?_⟩⟩)⟩⟩
      · rw [show ((r : Int) / 14) % 6 = ((r / 14 % 6 : Nat) : Int) by omega]
        unfold prt
        rcases (by omega : r / 14 % 6 = 0 ∨ r / 14 % 6 = 1 ∨ r / 14 % 6 = 2 ∨ r / 14 % 6 = 3 ∨ r / 14 % 6 = 4 ∨ r / 14 % 6 = 5) with e | e | e | e | e | e <;> rw [e] <;> rfl
      refine ⟨by show 3 ≤ sizeLine; decide, fun l4 n4 => ⟨_, rfl, _, _, rfl, rfl, ⟨by decide, by decide⟩, .inl (.inl ⟨_, rfl, _, _, rfl, rfl, (by show (0 : Int) < 3; decide),
        .inl ⟨l4, zers.map V.str, _, _, rfl, rfl, SqL.of upd_same, menu_at (l := zers) (n := r / 84) (k := 3) rfl (by decide) (by omega), ?_⟩⟩)⟩⟩
      -- shown
      have hzw : tl (zers.getD (r / 84 % 3) "" ++ mk (numL (wholeN r))) = zw r := tl_append _ _
      have hzl : (zers.getD (r / 84 % 3) "" ++ mk (numL (wholeN r))).length = (zw r).length := by rw [len_tl, hzw]
      have hz1 := zw_pos r
      have hz8 := zw_len r
      have hzs : (zers.getD (r / 84 % 3) "").length + (mk (numL (wholeN r))).length ≤ sizeLine := by
        have := hzl
        rw [len_tl, tl_append, List.length_append, ← len_tl, ← len_tl] at this
        rw [this]
        exact sz (by omega)
      refine ⟨_, rfl, _, rfl, .inr ⟨_, _, rfl, rfl, hzs, _, rfl, _, rfl, .inr ⟨_, _, rfl, rfl, hzs, _, (zw r).length, rfl, ⟨by rw [hzl]; exact sz (by omega), hzl.symm⟩, _, _, rfl, _, _, rfl, rfl, _, rfl, _, rfl, by rw [hzl]; exact sz (by omega), ?_⟩⟩⟩
      dsimp only
      rw [show (0 : Int) - (if ((zw r).length : Int) < 6 then ((zw r).length : Int) else 6) = 0 - ((min 6 (zw r).length : Nat) : Int) by split <;> omega]
      rw [cut_last _ (m := min 6 (zw r).length) (by omega) (by rw [hzl]; omega), hzw, hzl, show mk ((zw r).drop ((zw r).length - min 6 (zw r).length)) = mk (numShown r) from rfl]
      have hn := numShown_len r
      have hp := part_len r
      have hsp : (mk (numShown r)).length + (prt r).length ≤ sizeLine := by
        rw [mk_len, len_tl (prt r)]
        exact sz (by omega)
      have hint : PySem.intText? (mk (numShown r) ++ prt r) = some ((NumText.digitsVal (numShown r ++ tl (prt r)) : Nat) : Int) := by
        have e1 : (mk (numShown r) ++ prt r).cps.toList = numShown r ++ tl (prt r) := tl_append _ _
        have h2 := intText_digits (x := mk (numShown r) ++ prt r) (by
          rw [e1]
          refine all_digs fun c hc => ?_
          rcases List.mem_append.mp hc with hc | hc
          · exact numShown_digs r c hc
          · exact part_digs r c hc) (by
          rw [e1]
          intro e
          have := congrArg List.length e
          rw [List.length_append, List.length_nil] at this
          omega) (by
          rw [len_tl, show tl (mk (numShown r) ++ prt r) = _ from e1, List.length_append]
          omega)
        rw [e1] at h2
        exact h2
      -- return ["number", (int(shown + prt), worth), shown + ["", "."][int(prt != "")] + prt]
      refine ⟨_, rfl, _, rfl, .inr ⟨_, _, rfl, rfl, hsp, .inr ⟨_, _, rfl, hint, by rw [len_tl, tl_append, List.length_append, tl_of]; omega, _, rfl, by show 2 ≤ sizeLine; decide, fun b nb => ?_⟩⟩⟩
      refine ⟨_, rfl, by show 2 ≤ sizeLine; decide, fun l5 n5 => ⟨_, rfl, rfl, .inl (.inr ⟨_, rfl, .inl ⟨l5, _, _, .str (if tl (prt r) = [] then "" else "."), rfl, rfl, SqL.of upd_same, ?_, .inr ⟨_, _, rfl, rfl, ?_, _, rfl, .inr ⟨_, _, rfl, rfl, ?_, by show 3 ≤ sizeLine; decide, fun p np => ?_⟩⟩⟩⟩)⟩⟩
      · rw [dec_str]
        by_cases e : tl (prt r) = []
        · rw [if_pos e, show prt r = "" from ext_tl e]
          rfl
        · rw [if_neg e, show (prt r == "") = false from beq_eq_false_iff_ne.mpr fun z => e (by rw [z]; rfl)]
          rfl
      · rw [mk_len]
        have : (Str.length (if tl (prt r) = [] then "" else ".")) ≤ 1 := by split <;> decide
        exact sz (by omega)
      · rw [len_tl, tl_append, List.length_append, len_tl (prt r), tl_of]
        have : (tl (if tl (prt r) = [] then "" else "." : Str)).length ≤ 1 := by split <;> decide
        exact sz (by omega)
      · rw [show (mk (numShown r) ++ (if tl (prt r) = [] then "" else "." : Str)) ++ prt r = mk (numText (numShown r) (tl (prt r))) by
          refine ext_tl ?_
          rw [tl_append, tl_append, tl_of, tl_of]
          unfold numText
          by_cases e : tl (prt r) = []
          · rw [if_pos e, if_pos e, e]
            rw [List.append_nil]
            rfl
          · rw [if_neg e, if_neg e, List.append_assoc]
            rfl]
        have s5 := same_upd (o := .lst [.str "", .str "."]) n5
        refine q p _ _ (((((((same_upd n1).trans (same_upd n2)).trans (same_upd n3)).trans (same_upd n4)).trans (same_upd nb)).trans s5).trans (same_upd np)) ?_ upd_same ?_
        · exact (same_upd n1).free ((same_upd n2).free ((same_upd n3).free ((same_upd n4).free ((same_upd nb).free (s5.free np)))))
        · exact .tup (.inl (.inl (same_upd np _ _ (s5 _ _ upd_same)))) (.cons (.int _) (.cons (.int _) .nil))
    · have h4' : ¬ c % 5 < 4 := by
        have := of_decide_eq_false (Bool.eq_false_iff.mpr h4)
        omega
      have et : tkOf c = (.sign (sgns.getD (r % 16) ""), sgns.getD (r % 16) "") := by
        unfold tkOf
        rw [if_neg h0', if_neg h1', if_neg h4', hr']
      rw [et] at q
      refine ⟨by show 16 ≤ sizeLine; decide, fun l nl => ?_⟩
      refine ⟨_, rfl, _, rfl, .inl (.inl ⟨_, rfl, _, _, rfl, rfl, (by show (0 : Int) < 16; decide), .inl ⟨l, sgns.map V.str, _, _, rfl, rfl, SqL.of upd_same, menu_at (l := sgns) (n := r) (k := 16) rfl (by decide) (by omega), ?_⟩⟩)⟩
      exact ⟨_, rfl, _, rfl, by show 3 ≤ sizeLine; decide, fun p np => q p _ _ ((same_upd nl).trans (same_upd np)) ((same_upd nl).free np) upd_same (.str _)⟩
end
end Tk

namespace Tk
open PySem PySem.Spec PyProof.Rows L2 Ly Lx TL Lw
/-! ### the law -/
theorem rep_tl (c : Nat) : ∀ (n : Nat) (b : Array Nat), ((List.replicate n #[c]).foldl (· ++ ·) b).toList = b.toList ++ List.replicate n c
  | 0, b => by simp
  | n + 1, b => by
    rw [List.replicate_succ, List.foldl_cons, rep_tl c n, Array.toList_append, List.replicate_succ, List.append_assoc]
    rfl
def many (n : Nat) : Str := ⟨(List.replicate n ("#" : Str).cps).foldl (· ++ ·) #[]⟩
theorem many_tl (n : Nat) : tl (many n) = List.replicate n 35 := by
  have := rep_tl 35 n #[]
  exact this
theorem many_len (n : Nat) : (many n).length = n := by rw [len_tl, many_tl, List.length_replicate]
theorem skip_hashes : ∀ n : Nat, skip true (List.replicate n 35) = n
  | 0 => rfl
  | n + 1 => by
    rw [List.replicate_succ]
    show skip true (List.replicate n 35) + 1 = n + 1
    rw [skip_hashes n]
theorem many_skip (n : Nat) : skip false (tl (many (n + 1))) = (many (n + 1)).length := by
  rw [many_len, many_tl, List.replicate_succ]
  show skip true (List.replicate n 35) + 1 = n + 1
  rw [skip_hashes n]
theorem dv_step (a : Nat) : ∀ (l : List Nat), (∀ c ∈ l, inS digits c = true) → l.foldl (fun acc c => acc * 10 + (c - 48)) a < (a + 1) * 10 ^ l.length
  | [], _ => by simp
  | c :: l, h => by
    have hc : c ≤ 57 := by
      have h1 : c ∈ digits := of_decide_eq_true (h c List.mem_cons_self)
      have h2 : ∀ c ∈ digits, c ≤ 57 := by decide
      exact h2 c h1
    rw [List.foldl_cons, List.length_cons, Nat.pow_succ]
    have := dv_step (a * 10 + (c - 48)) l fun d hd => h d (List.mem_cons_of_mem _ hd)
    refine Nat.lt_of_lt_of_le this ?_
    have h3 : a * 10 + (c - 48) + 1 ≤ (a + 1) * 10 := by omega
    calc (a * 10 + (c - 48) + 1) * 10 ^ l.length ≤ ((a + 1) * 10) * 10 ^ l.length := Nat.mul_le_mul_right _ h3
      _ = (a + 1) * (10 ^ l.length * 10) := by rw [Nat.mul_assoc, Nat.mul_comm 10]
theorem dv_lt {l : List Nat} (h : ∀ c ∈ l, inS digits c = true) : NumText.digitsVal l < 10 ^ l.length := by
  have := dv_step 0 l h
  simpa [NumText.digitsVal] using this
/-- data whose text is short -/
structure Small (B : Nat) (d : PyData) : Prop where
  sh : d.showable = true
  nd : d.hasDict = false
  dp : d.depth ≤ 5
  lv : d.leavesShort 20 = true
  bk : d.bulk ≤ B
theorem small_int {i : Nat} (h : i < 100000000000) : Small 0 (.int (i : Int)) := by
  refine ⟨?_, rfl, by simp [PyData.depth], ?_, by simp [PyData.bulk]⟩
  · simp only [PyData.showable, decide_eq_true_eq, Int.natAbs_natCast]
    by_cases h0 : i = 0
    · subst h0
      decide
    · have : i.log2 < 40 := (Nat.log2_lt h0).mpr (by omega)
      omega
  · simp only [PyData.leavesShort, decide_eq_true_eq]
    have := PyData.shown_int_le2 (i := (i : Int)) (by omega) (by omega)
    omega
theorem small_str {w : Str} {B : Nat} (hl : w.length ≤ B) (hc : ∀ c ∈ tl w, c < 128) : Small B (.str w) := by
  refine ⟨rfl, rfl, by simp [PyData.depth], ?_, hl⟩
  simp only [PyData.leavesShort, List.all_eq_true, decide_eq_true_eq]
  intro c h
  have := hc c h
  omega
theorem small_tup2 {a b : PyData} {m n : Nat} (ha : Small m a) (hb : Small n b) (h : a.depth ≤ 4 ∧ b.depth ≤ 4) : Small (m + n + 2) (.tuple [a, b]) := by
  refine ⟨?_, ?_, ?_, ?_, ?_⟩
  · simp [PyData.showable, PyData.showableAll, ha.sh, hb.sh]
  · simp [PyData.hasDict, PyData.hasDictAll, ha.nd, hb.nd]
  · simp [PyData.depth, PyData.depthAll]
    omega
  · simp [PyData.leavesShort, PyData.leavesShortAll, ha.lv, hb.lv]
  · have := ha.bk
    have := hb.bk
    simp only [PyData.bulk, PyData.bulkAll]
    omega
theorem val_small (c : Nat) : Small 20 (valD (tkOf c).1) ∧ (valD (tkOf c).1).depth ≤ 3 := by
  unfold tkOf
  split
  · have hm : res.getD (c / 5 % 16) "" ∈ res := getD_mem (Nat.mod_lt _ (by decide))
    have h : ∀ w ∈ res, w.length ≤ 20 ∧ ∀ c ∈ tl w, c < 128 := by decide
    exact ⟨small_str (h _ hm).1 (h _ hm).2, by simp [valD, PyData.depth]⟩
  · split
    · have e : valD (if isRes (mk (wordL (c / 5))) = true then .word (mk (wordL (c / 5))) else .name (mk (wordL (c / 5)))) = .str (mk (wordL (c / 5))) := by
        cases isRes (mk (wordL (c / 5))) <;> rfl
      show Small 20 (valD (if isRes (mk (wordL (c / 5))) = true then .word (mk (wordL (c / 5))) else .name (mk (wordL (c / 5))))) ∧ (valD (if isRes (mk (wordL (c / 5))) = true then .word (mk (wordL (c / 5))) else .name (mk (wordL (c / 5))))).depth ≤ 3
      rw [e]
      refine ⟨small_str ?_ ?_, by simp [PyData.depth]⟩
      · rw [mk_len, wordL, List.length_cons, wchars_len]
        have := Nat.mod_lt (c / 5 / 52) (show 16 > 0 by decide)
        omega
      · intro d hd
        have hn : inS naming d = true := by
          rcases List.mem_cons.mp hd with rfl | hd
          · exact letter_naming (letter_at _)
          · exact wchars_naming _ _ d hd
        have h1 : d ∈ naming := of_decide_eq_true hn
        have h2 : ∀ c ∈ naming, c < 128 := by decide
        exact h2 d h1
    · split
      · have h1 := numShown_len (c / 5)
        have h2 := part_len (c / 5)
        have h3 := dv_lt (l := numShown (c / 5) ++ tl (prt (c / 5))) fun d hd => by
          rcases List.mem_append.mp hd with hd | hd
          · exact numShown_digs _ d hd
          · exact part_digs _ d hd
        have h4 : NumText.digitsVal (numShown (c / 5) ++ tl (prt (c / 5))) < 100000000000 := by
          refine Nat.lt_of_lt_of_le h3 ?_
          rw [List.length_append]
          exact Nat.le_trans (Nat.pow_le_pow_right (by decide) (show (numShown (c / 5)).length + (tl (prt (c / 5))).length ≤ 10 by omega)) (by decide)
        have h5 : 10 ^ (tl (prt (c / 5))).length < 100000000000 := Nat.lt_of_le_of_lt (Nat.pow_le_pow_right (by decide) (show (tl (prt (c / 5))).length ≤ 4 by omega)) (by decide)
        have := small_tup2 (small_int h4) (small_int h5) ⟨by simp [PyData.depth], by simp [PyData.depth]⟩
        exact ⟨⟨this.sh, this.nd, this.dp, this.lv, Nat.le_trans this.bk (by decide)⟩, by simp [valD, PyData.depth, PyData.depthAll]⟩
      · have hm : sgns.getD (c / 5 % 16) "" ∈ sgns := getD_mem (Nat.mod_lt _ (by decide))
        have h : ∀ w ∈ sgns, w.length ≤ 20 ∧ ∀ c ∈ tl w, c < 128 := by decide
        exact ⟨small_str (h _ hm).1 (h _ hm).2, by simp [valD, PyData.depth]⟩
theorem kind_small (t : Tkn) : Small 10 (.str (kindOf t)) := by
  cases t with
  | word w => exact small_str (w := "word") (by decide) (by decide)
  | name w => exact small_str (w := "name") (by decide) (by decide)
  | num a b => exact small_str (w := "number") (by decide) (by decide)
  | sign w => exact small_str (w := "sign") (by decide) (by decide)
theorem tok_small (c off : Nat) (h : off < 100000) : Small 60 (tokD ((tkOf c).1, off)) := by
  obtain ⟨v, vd⟩ := val_small c
  have k := kind_small (tkOf c).1
  have i := small_int (i := off) (by omega)
  show Small 60 (.tuple [.str (kindOf (tkOf c).1), valD (tkOf c).1, .int (off : Int)])
  refine ⟨?_, ?_, ?_, ?_, ?_⟩
  · simp [PyData.showable, PyData.showableAll, k.sh, v.sh, i.sh]
    have := i.sh
    simpa [PyData.showable] using this
  · simp [PyData.hasDict, PyData.hasDictAll, v.nd]
  · simp only [PyData.depth, PyData.depthAll]
    omega
  · simp only [PyData.leavesShortAll, PyData.leavesShort, Bool.and_true, Bool.and_eq_true]
    refine ⟨by simpa only [PyData.leavesShort] using k.lv, v.lv, by simpa only [PyData.leavesShort] using i.lv⟩
  · have h1 := k.bk
    have h2 := v.bk
    simp only [PyData.bulk] at h1
    simp only [PyData.bulk, PyData.bulkAll]
    omega
theorem due_small : ∀ (cs : List Nat) (off : Nat), off + 26 * cs.length < 100000 → PyData.showableAll ((dueFrom off cs).map tokD) = true ∧ PyData.hasDictAll ((dueFrom off cs).map tokD) = false ∧
    PyData.depthAll ((dueFrom off cs).map tokD) ≤ 10 ∧ PyData.leavesShortAll 20 ((dueFrom off cs).map tokD) = true ∧ PyData.bulkAll ((dueFrom off cs).map tokD) ≤ 61 * cs.length
  | [], off, _ => by simp [dueFrom, PyData.showableAll, PyData.hasDictAll, PyData.depthAll, PyData.leavesShortAll, PyData.bulkAll]
  | c :: cs, off, h => by
    rw [List.length_cons] at h
    have hp := piece_len c
    obtain ⟨i1, i2, i3, i4, i5⟩ := due_small cs (off + (piece c).length) (by omega)
    have t := tok_small c off (by omega)
    rw [dueFrom, List.map_cons]
    refine ⟨?_, ?_, ?_, ?_, ?_⟩
    · simp only [PyData.showableAll, t.sh, i1, Bool.and_self]
    · simp only [PyData.hasDictAll, t.nd, i2, Bool.or_self]
    · have := t.dp
      simp only [PyData.depthAll]
      omega
    · simp only [PyData.leavesShortAll, t.lv, i4, Bool.and_self]
    · have := t.bk
      simp only [PyData.bulkAll, List.length_cons]
      omega
def sp_law (K : PySem.W.Frag) : Sp := fun vs H Q _ => ∃ (a : Addr) (ns : List Int), vs = [.ref a] ∧ SqL K H a (ns.map V.int) ∧ ns.length ≤ 63 ∧ ∀ H', Q (.bl true) H'
def cellN (ns : List Int) (i : Nat) : Nat := (ns.getD (1 + i) 0).natAbs
def cells (ns : List Int) (n : Nat) : List Nat := (List.range n).map (cellN ns)
theorem cells_succ (ns : List Int) (n : Nat) : cells ns (n + 1) = cells ns n ++ [cellN ns n] := by
  unfold cells
  rw [List.range_succ, List.map_append]
  rfl
theorem cells_len (ns : List Int) (n : Nat) : (cells ns n).length = n := by simp [cells]
theorem abs_nat (v : Int) : (if v < 0 then -v else v) = (v.natAbs : Int) := by
  split <;> omega
theorem show_due (ns : List Int) {n : Nat} (hn : n ≤ 60) : (PyData.list ((dueFrom 0 (cells ns n)).map tokD)).showable = true ∧ (PyData.list ((dueFrom 0 (cells ns n)).map tokD)).hasDict = false ∧
    (PyData.list ((dueFrom 0 (cells ns n)).map tokD)).depth ≤ 120 ∧ (PyData.list ((dueFrom 0 (cells ns n)).map tokD)).shown.length ≤ sizeLine := by
  obtain ⟨h1, h2, h3, h4, h5⟩ := due_small (cells ns n) 0 (by rw [cells_len]; omega)
  rw [cells_len] at h5
  refine ⟨by simpa only [PyData.showable] using h1, by simpa only [PyData.hasDict] using h2, by simp only [PyData.depth]; omega, ?_⟩
  have := PyData.shown_le_bulk 20 (by decide) (.list ((dueFrom 0 (cells ns n)).map tokD)) (by simpa only [PyData.leavesShort] using h4)
  refine Nat.le_trans this (sz ?_)
  simp only [PyData.bulk]
  have h6 : (20 + 2) * PyData.bulkAll ((dueFrom 0 (cells ns n)).map tokD) ≤ 22 * (61 * n) := Nat.mul_le_mul_left _ h5
  omega
theorem same_trk {H H1 H2 : Hp} {l : Addr} {o : HO} (s1 : Same H H1) (nl : H l = none) (s2 : Same H1 H2) : Same H (upd H2 l o) := fun b u e => by
  rw [upd_ne (ne_of_none e nl)]
  exact s2 _ _ (s1 _ _ e)
section
variable {P : Program} {w : World} {K : PySem.W.Frag} {mg : Str → Option Value} {base : Heap}
theorem ok_law (T : Top K mg) : LawOk P w K mg base T.a_law (sp_law K) := by
  refine law_of (k := 20) T.F_law (y := "script") sc_law T.b_law ⟨rfl, by decide, by decide⟩ (fun vs H Q E h => ?_) (fun cdv s H vs Q E hr h => ?_)
  · obtain ⟨a, ns, rfl, _⟩ := h
    rfl
  · obtain ⟨a, ns, rfl, hS, hlen, q⟩ := h
    refine ⟨_, (pss_cons (ps_set (i := 1) sc_law.nd rfl (.inl rfl) (by exact pe_str))
      (pss_cons (ps_set (i := 2) sc_law.nd rfl (.inl rfl) (by exact (pe_lst pa_nil)))
      (pss_cons (ps_for (passes_of rfl) rfl (pi_range2 (by rfl) T.n_range (pa_cons pe_int (pa_cons (pe_callB (call_min2 rfl) (by rfl) T.n_min bt_min (pa_cons (pe_callB call_len (by rfl) T.n_len bt_len (pa_cons (pv 0) pa_nil)) (pa_cons pe_int pa_nil))) pa_nil))) (pg_name (i := 3) sc_law.nd rfl (.inl rfl))
      (pss_cons (ps_set (i := 4) sc_law.nd rfl (.inl rfl) (by exact (pe_callB call_abs (by rfl) T.n_abs bt_abs (pa_cons (pe_call (ok_law_cell T) (hr.mono (by decide)) (by rfl) T.m_law_cell T.F_law_cell.kp T.b_law_cell .nil pass0 (pa_cons (pv 0) (pa_cons (pv 3) pa_nil))) pa_nil))))
      (pss_cons (ps_asg (pe_call (ok_law_token T) (hr.mono (by decide)) (by rfl) T.m_law_token T.F_law_token.kp T.b_law_token .nil pass0 (pa_cons (pv 4) pa_nil)) (pg_lst rfl (pgs_cons (pg_name (i := 5) sc_law.nd rfl (.inl rfl)) (pgs_cons (pg_name (i := 6) sc_law.nd rfl (.inl rfl)) (pgs_cons (pg_name (i := 7) sc_law.nd rfl (.inl rfl)) pgs_nil)))))
      (pss_cons (ps_expr (pe_bm PySem.F.plainAttrs_list PySem.F.slot_list_append PySem.F.type_list_append mt_append (pv 2) (pa_cons (pe_tup (pa_cons (pv 5) (pa_cons (pv 6) (pa_cons (pe_callB call_len (by rfl) T.n_len bt_len (pa_cons (pv 1) pa_nil)) pa_nil)))) pa_nil)))
      (pss_one (ps_set (i := 1) sc_law.nd rfl (.inl rfl) (by exact (pe_op op_plus (pe_op op_plus (pv 1) (pv 7)) (pe_ix ix_seq (pe_lst (pa_cons pe_str (pa_cons pe_str (pa_cons pe_str (pa_cons pe_str (pa_cons pe_str (pa_cons pe_str pa_nil))))))) (pe_op op_mod (pe_callTy call_intX (by rfl) T.n_int bt_int (pa_cons (pe_op op_fdiv (pv 4) pe_int) pa_nil)) pe_int) (fun _ _ => rfl))))))))))
      (pss_cons (ps_set (i := 8) sc_law.nd rfl (.inl rfl) (by exact (pe_call (ok_tokens T) (hr.mono (by decide)) (by rfl) T.m_tokens T.F_tokens.kp T.b_tokens .nil (L2N.passes_call (L2N.takes_of rfl rfl rfl rfl) (fun _ _ _ _ h => h)) (pa_cons (pv 1) pa_nil))))
      (pss_cons (ps_if (PW.pt (pw_or (pt_not (pt_val (pe_callB call_isi (by rfl) T.n_isinstance bt_isinstance (pa_cons (pv 8) (pa_cons (pe_bltn (v := .ty "list") (by rfl) T.n_list bt_list rfl) pa_nil))))) (pw_or1 (pt_cmpR op_ne (pe_callB (call_repr rfl (hu_of128 hr)) (by rfl) T.n_repr bt_repr (pa_cons (pv 8) pa_nil)) (pe_callB (call_repr rfl (hu_of128 hr)) (by rfl) T.n_repr bt_repr (pa_cons (pv 2) pa_nil)) (nomark _)))))
      (pss_one (ps_ret pe_bl))
      pss_nil)
      (pss_cons (ps_set (i := 9) sc_law.nd rfl (.inl rfl) (by exact (pe_call (ok_law_bad T) (hr.mono (by decide)) (by rfl) T.m_law_bad T.F_law_bad.kp T.b_law_bad .nil pass0 (pa_cons (pe_callB call_abs (by rfl) T.n_abs bt_abs (pa_cons (pe_call (ok_law_cell T) (hr.mono (by decide)) (by rfl) T.m_law_cell T.F_law_cell.kp T.b_law_cell .nil pass0 (pa_cons (pv 0) (pa_cons pe_int pa_nil))) pa_nil)) pa_nil))))
      (pss_cons (L2N.ps_try_as (i := 10) rfl rfl sc_law.nd rfl rfl ⟨rfl, by decide, .inl T.x_Malformed.gC⟩ (L2N.takes_of rfl rfl rfl rfl)
      (fun W pn xe tk _ => (pss_cons (ps_expr (pe_callS (ok_tokens T) (hr.mono (by decide)) (by rfl) T.m_tokens T.F_tokens.kp T.b_tokens (fun σ => L2N.passAt tk σ) (by exact (pa_cons (pe_op op_plus (pe_op op_plus (pv 1) (pv 9)) pe_str) pa_nil))))
      (pss_one (ps_ret pe_bl))))
      (fun a oe cls d pn hz hf => (pss_one (ps_if (pt_cmpR op_ne (pe_xf T.x_Malformed.xfc T.x_Malformed.no hz.zc hf (pv 10)) (pe_callB (call_lenK (K := K) rfl) (by rfl) T.n_len bt_len (pa_cons (pv 1) pa_nil)) (nomark _))
      (pss_one (ps_ret pe_bl))
      pss_nil))))
      (pss_cons (L2N.ps_try_as (i := 10) rfl rfl sc_law.nd rfl rfl ⟨rfl, by decide, .inl T.x_Oversized.gC⟩ (L2N.takes_of rfl rfl rfl rfl)
      (fun W pn xe tk _ => (pss_one (ps_expr (pe_callS (ok_tokens T) (hr.mono (by decide)) (by rfl) T.m_tokens T.F_tokens.kp T.b_tokens (fun σ => L2N.passAt tk σ) (by exact (pa_cons (pe_op op_times pe_str pe_int) pa_nil))))))
      (fun a oe cls d pn hz hf => (pss_one (ps_ret (pe_and (pe_cmpR op_eq (pe_xf T.x_Oversized.xfc T.x_Oversized.no hz.zc hf (pv 10)) pe_str (nomark _)) (pe_one (pe_cmpR (show OpR _ (compareOp .Eq) (rEqD K) from op_eqD (hu_mark hr)) (L2H.pe_callH (E := fun _ => E0) (okH_tokens T) ((rmark hr _).mono (by decide)) (hotc hz hf) (by rfl) T.m_tokens T.F_tokens.kp T.b_tokens (fun _ => passH) (by exact (pa_cons (pe_op op_times pe_str pe_int) pa_nil))) (pe_lst pa_nil) (nomark _))))))))
      (pss_one (ps_ret pe_bl)))))))))), ?_⟩
    refine ⟨Nat.zero_le _, fun l nl => ?_⟩
    have s1 : Same H (upd H l (.lst [])) := same_upd nl
    -- the loop
    refine ⟨_, rfl, _, ns.length, rfl, .inl ⟨_, s1.seq hS, (List.length_map _).symm⟩, _, _, rfl, _, _, rfl, by split <;> omega, ?_⟩
    generalize hN : ((if (61 : Int) < (ns.length : Int) then (61 : Int) else (ns.length : Int)) - 1).toNat = N
    have hN60 : N ≤ 60 := by subst hN; split <;> omega
    refine for_range (lo := 1) (n := N) (fun i σ H' => ∃ (xs : List V) (y3 y4 y5 y6 y7 : Option V), σ = [some (.ref a), some (.str (mk (txt (cells ns i)))), some (.ref l), y3, y4, y5, y6, y7, none, none, none] ∧
      Same H H' ∧ H' l = some (.lst xs) ∧ DpAll K H' xs ((dueFrom 0 (cells ns i)).map tokD)) ⟨[], none, none, none, none, none, rfl, s1, upd_same, .nil⟩ ?_ ?_
    · rintro i σ H1 hi ⟨xs, y3, y4, y5, y6, y7, rfl, hs, hl, hdp⟩
      have htl : (txt (cells ns i)).length ≤ 26 * 60 := Nat.le_trans (txt_len _) (by rw [cells_len]; omega)
      refine ⟨_, rfl, _, rfl, a, ns, 1 + i, rfl, hs.seq hS, _, rfl, ?_⟩
      rw [abs_nat, show (ns.getD (1 + i) 0).natAbs = cellN ns i from rfl]
      refine ⟨_, rfl, cellN ns i, rfl, fun p H2 val hs2 np hp hval => ⟨p, _, rfl, SqL.of hp, rfl, _, _, rfl, _, _, rfl, _, _, rfl, rfl, ?_⟩⟩
      have hl2 : H2 l = some (.lst xs) := hs2 _ _ hl
      -- due.append((kind, value, len(text)))
      refine ⟨_, rfl, .inl ⟨rfl, _, SqL.of hl2⟩, _, rfl, _, rfl, _, rfl, _, (txt (cells ns i)).length, rfl, ⟨by rw [mk_len]; exact sz (by omega), (mk_len _).symm⟩, by show 3 ≤ sizeLine; decide, fun t nt => ?_⟩
      have hlt : (upd H2 t (.tup [.str (kindOf (tkOf (cellN ns i)).1), val, .int ((txt (cells ns i)).length : Int)])) l = some (.lst xs) := same_upd nt _ _ hl2
      refine ⟨l, xs, _, rfl, rfl, hlt, ?_, ?_⟩
      · rw [dps_len hdp, List.length_map, due_len, cells_len]
        exact Nat.lt_of_le_of_lt (by omega : i ≤ 60) (by decide)
      generalize hH3 : upd (upd H2 t (.tup [.str (kindOf (tkOf (cellN ns i)).1), val, .int ((txt (cells ns i)).length : Int)])) l (.lst (xs ++ [.ref t])) = H3
      have s3 : Same H H3 := by
        subst hH3
        exact same_trk hs nl (hs2.trans (same_upd nt))
      have hl3 : H3 l = some (.lst (xs ++ [.ref t])) := by
        subst hH3
        exact upd_same
      have tt : ∀ a' ys, SqT K H1 a' ys → SqT K H3 a' ys := fun a' ys h => by
        subst hH3
        exact sqt_upd hlt a' ys (sqt_same (same_upd nt) a' ys (sqt_same hs2 a' ys h))
      have tt2 : ∀ a' ys, SqT K H2 a' ys → SqT K H3 a' ys := fun a' ys h => by
        subst hH3
        exact sqt_upd hlt a' ys (sqt_same (same_upd nt) a' ys h)
      have ht3 : H3 t = some (.tup [.str (kindOf (tkOf (cellN ns i)).1), val, .int ((txt (cells ns i)).length : Int)]) := by
        subst hH3
        rw [upd_ne (ne_of upd_same hlt (by intro z; cases z)), upd_same]
      have dnew : Dp K H3 (.ref t) (tokD ((tkOf (cellN ns i)).1, (txt (cells ns i)).length)) :=
        .tup (.inl (.inl ht3)) (.cons (.str _) (.cons (dp_keep tt2 _ _ (noL_val _) hval) (.cons (.int _) .nil)))
      have hdp3 : DpAll K H3 (xs ++ [.ref t]) ((dueFrom 0 (cells ns (i + 1))).map tokD) := by
        rw [cells_succ, due_snoc, List.map_append, Nat.zero_add]
        exact dps_append (dps_keep tt _ _ (noL_toks _) hdp) (.cons dnew .nil)
      -- text = text + shown + separator
      have hsh := shown_len (cellN ns i)
      refine ⟨_, rfl, _, rfl, .inr ⟨_, _, rfl, rfl, by rw [mk_len]; exact sz (by omega), by show 6 ≤ sizeLine; decide, fun l6 n6 => ⟨_, rfl, _, _, rfl, rfl, ⟨by decide, by decide⟩, .inl (.inl ⟨_, rfl, _, _, rfl, rfl, (by show (0 : Int) < 6; decide),
        .inl ⟨l6, seps.map V.str, _, _, rfl, rfl, SqL.of upd_same, menu_at (l := seps) (n := cellN ns i / 3) (k := 6) rfl (by decide) (by omega), .inr ⟨_, _, rfl, rfl, ?_, ?_⟩⟩⟩)⟩⟩⟩
      · rw [len_tl, tl_append, List.length_append, tl_of, ← len_tl]
        have hm : seps.getD (cellN ns i / 3 % 6) "" ∈ seps := getD_mem (Nat.mod_lt _ (by decide))
        have : ∀ w ∈ seps, w.length ≤ 10 := by decide
        have := this _ hm
        exact sz (by omega)
      · refine ⟨xs ++ [.ref t], some (.int (1 + (i : Int))), some (.int (cellN ns i : Int)), some (.str (kindOf (tkOf (cellN ns i)).1)), some val, some (.str (tkOf (cellN ns i)).2), ?_, s3.trans (same_upd n6), same_upd n6 _ _ hl3, dps_keep (sqt_same (same_upd n6)) _ _ (noL_toks _) hdp3⟩
        rw [show (mk (txt (cells ns i)) ++ (tkOf (cellN ns i)).2) ++ seps.getD (cellN ns i / 3 % 6) "" = mk (txt (cells ns (i + 1))) by
          refine ext_tl ?_
          rw [tl_append, tl_append, tl_of, tl_of, cells_succ, txt_snoc, List.append_assoc]
          rfl]
        rfl
    · rintro σ H1 ⟨xs, y3, y4, y5, y6, y7, rfl, hs, hl, hdp⟩
      have htl : (txt (cells ns N)).length ≤ 26 * 60 := Nat.le_trans (txt_len _) (by rw [cells_len]; omega)
      obtain ⟨lx, lsk⟩ := lex_txt (cells ns N) 0 [] rfl
      rw [List.append_nil, Nat.zero_add] at lx
      rw [List.append_nil] at lsk
      -- actual = tokens(text)
      refine ⟨_, rfl, mk (txt (cells ns N)), rfl, by rw [mk_len]; omega, fun h => absurd h (by rw [mk_len]; omega), fun _ => ⟨_, _, _, by rw [tl_of, lsk, List.drop_zero]; exact lx, .inl rfl, fun _ p H2 ys hs2 np hp hdp2 => ?_, fun h => absurd rfl h⟩⟩
      obtain ⟨d1, d2, d3, d4⟩ := show_due ns hN60
      have dd1 : Dp K H2 (.ref p) (.list ((dueFrom 0 (cells ns N)).map tokD)) := .lst (SqL.of hp) hdp2
      have dd2 : Dp K H2 (.ref l) (.list ((dueFrom 0 (cells ns N)).map tokD)) := .lst (SqL.of (hs2 _ _ hl)) (dps_keep (sqt_same hs2) _ _ (noL_toks _) hdp)
      refine ⟨_, rfl, _, _, .type "list", _, true, rfl, .ty "list", .base (.lst hp), by unfold PySem.W.kitOne; rw [if_pos (beq_self_eq_true _)], _, rfl, iteF ?_⟩
      refine ⟨_, rfl, p, _, rfl, dd1, d1, d2, d3, d4, _, rfl, l, _, rfl, dd2, d1, d2, d3, d4, rfl, _, rfl, ?_⟩
      rw [decide_eq_true rfl]
      refine iteF ?_
      -- bad
      have s2 : Same H H2 := hs.trans hs2
      refine ⟨_, rfl, a, ns, 0, rfl, s2.seq hS, _, rfl, ?_⟩
      rw [abs_nat]
      refine ⟨(ns.getD 0 0).natAbs, rfl, fun H3 hs3 => ?_⟩
      have hbm : bads.getD ((ns.getD 0 0).natAbs % 12) "" ∈ bads := getD_mem (Nat.mod_lt _ (by decide))
      generalize bads.getD ((ns.getD 0 0).natAbs % 12) "" = bad at hbm
      obtain ⟨b1, b2, b3⟩ := bad_tok bad hbm
      obtain ⟨lx2, lsk2⟩ := lex_txt (cells ns N) 0 (tl bad ++ tl (" x" : Str)) b2
      have ez : tl (mk (txt (cells ns N)) ++ bad ++ (" x" : Str)) = txt (cells ns N) ++ (tl bad ++ tl (" x" : Str)) := by
        rw [tl_append, tl_append, tl_of, List.append_assoc]
      have ezl : (mk (txt (cells ns N)) ++ bad ++ (" x" : Str)).length ≤ 1600 := by
        rw [len_tl, ez, List.length_append, List.length_append, ← len_tl bad]
        have : (tl (" x" : Str)).length = 2 := rfl
        omega
      have hbne : tl bad ++ tl (" x" : Str) ≠ [] := by
        intro e
        have := congrArg List.length e
        rw [List.length_append] at this
        have h2 : (tl (" x" : Str)).length = 2 := rfl
        rw [List.length_nil] at this
        omega
      rw [Nat.zero_add] at lx2
      refine ⟨_, rfl, _, rfl, .inr ⟨_, _, rfl, rfl, by rw [mk_len]; exact sz (by omega), .inr ⟨_, _, rfl, rfl, ?_, mk (txt (cells ns N)) ++ bad ++ (" x" : Str), rfl, by omega, fun h => absurd h (by omega),
        fun _ => ⟨_, _, _, by rw [ez, lsk2, List.drop_zero]; exact lx2, .inr b1, fun h => absurd h hbne, fun _ d H4 hs4 nd hd => ?_⟩⟩⟩⟩
      · rw [len_tl, tl_append, List.length_append, tl_of, ← len_tl bad]
        have h2 : (Str.length (" x" : Str)) = 2 := rfl
        rw [h2]
        exact sz (by omega)
      refine ⟨true, T.x_Malformed.me, fun _ ea nea => ?_, fun h => nomatch h⟩
      refine ⟨_, rfl, rfl, rfl, d, _, _, rfl, hd, rfl, _, rfl, _, (txt (cells ns N)).length, rfl, ⟨by rw [mk_len]; exact sz (by omega), (mk_len _).symm⟩, rfl, _, rfl, ?_⟩
      rw [decide_eq_true rfl]
      refine iteF ?_
      -- the long text
      refine .inr ⟨"#", 12001, rfl, rfl, by decide, by decide, by decide, many 12001, rfl, by rw [many_len]; decide, fun _ d2 H5 hs5 nd2 hd2 => ?_, fun h => absurd h (by rw [many_len]; decide)⟩
      refine ⟨true, T.x_Oversized.me, fun _ ea2 nea2 => ?_, fun h => nomatch h⟩
      refine ⟨_, rfl, rfl, rfl, d2, _, _, rfl, hd2, rfl, rfl, _, rfl, ?_⟩
      rw [decide_eq_true rfl]
      refine iteT ?_
      refine .inr ⟨"#", 12000, rfl, rfl, by decide, by decide, by decide, many 12000, rfl, by rw [many_len]; decide, many_skip 11999, fun l7 n7 => ⟨Nat.zero_le _, fun l8 n8 => ?_⟩⟩
      refine ⟨.list [], .list [], .lst (SqL.of (same_upd n8 _ _ upd_same)) .nil, .lst (SqL.of upd_same) .nil, rfl, rfl, ?_⟩
      exact q _
end
end Tk

namespace Tk
open PySem PySem.Spec PyProof.Rows L2 Ly
theorem law_end {P : Program} {w : World} {K : PySem.W.Frag} {mg : Str → Option Value} {base : Heap} {fa : Addr} (T : Top K mg) (hfa : mg "law" = some (.ref fa)) : LawOk P w K mg base fa (sp_law K) := by
  have e := T.m_law.symm.trans hfa
  cases e
  exact ok_law T
end Tk
open PySem PySem.W PyProof.Rows
set_option maxRecDepth 100000 in
set_option maxHeartbeats 0 in
theorem PySem.Challenge.cw_alnage_k00_tokens_holds : PySem.Challenge.rw_alnage_k00_tokens.Holds := by
  w_on; o_law; k_head; (case hw => w_witness2)
  k_fill
  refine Ly.walkG (l := PySem.Challenge.rw_alnage_k00_tokens) (n := 63) (sp := fun w => Tk.sp_law _) rfl (by decide) rfl (fun w h Y => PySem.W.kIn_of Y) ?F (fun _ _ a ns hl _ hS => ⟨a, ns, rfl, hS, hl, fun _ => rfl⟩)
  case F =>
    intro w mg fa h KX G hmg base _ _
    refine' Tk.law_end (Tk.top_mk KX G ?atokens ?ltokens ?ctokens ?ktokens ?atoken_start ?ltoken_start ?ctoken_start ?ktoken_start ?acomment_end ?lcomment_end ?ccomment_end ?kcomment_end ?atoken_at ?ltoken_at ?ctoken_at ?ktoken_at ?aname_at ?lname_at ?cname_at ?kname_at ?anumber_at ?lnumber_at ?cnumber_at ?knumber_at ?adigits_behind ?ldigits_behind ?cdigits_behind ?kdigits_behind ?arun_end ?lrun_end ?crun_end ?krun_end ?alaw_cell ?llaw_cell ?claw_cell ?klaw_cell ?alaw_word ?llaw_word ?claw_word ?klaw_word ?alaw_token ?llaw_token ?claw_token ?klaw_token ?alaw_bad ?llaw_bad ?claw_bad ?klaw_bad ?alaw ?llaw ?claw ?klaw ?zabs ?zint ?zisinstance ?zlen ?zlist ?zmin ?zrange ?zrepr ?zstr ?gRESERVED ?lRESERVED ?gLONGEST_TEXT ?gLONGEST_NAME ?gMOST_DIGITS ?gSEPARATORS ?gLETTERS ?gDIGITS ?gNAMING ?gSIGNS ?lSIGNS ?gBOTTOMS ?lBOTTOMS ?gMalformed ?xMalformed ?saMalformed ?gaMalformed ?ggMalformed ?noMalformed ?inMalformed ?tiMalformed ?kcMalformed ?exMalformed ?tyMalformed ?hdMalformed ?icMalformed ?suMalformed ?liMalformed ?ciMalformed ?kiMalformed ?gOversized ?xOversized ?saOversized ?gaOversized ?ggOversized ?noOversized ?inOversized ?tiOversized ?kcOversized ?exOversized ?tyOversized ?hdOversized ?icOversized ?suOversized ?liOversized ?ciOversized ?kiOversized) hmg
    (case atokens => k_is)
    (case ltokens => k_is)
    (case ctokens => k_is)
    (case ktokens => k_is)
    (case atoken_start => k_is)
    (case ltoken_start => k_is)
    (case ctoken_start => k_is)
    (case ktoken_start => k_is)
    (case acomment_end => k_is)
    (case lcomment_end => k_is)
    (case ccomment_end => k_is)
    (case kcomment_end => k_is)
    (case atoken_at => k_is)
    (case ltoken_at => k_is)
    (case ctoken_at => k_is)
    (case ktoken_at => k_is)
    (case aname_at => k_is)
    (case lname_at => k_is)
    (case cname_at => k_is)
    (case kname_at => k_is)
    (case anumber_at => k_is)
    (case lnumber_at => k_is)
    (case cnumber_at => k_is)
    (case knumber_at => k_is)
    (case adigits_behind => k_is)
    (case ldigits_behind => k_is)
    (case cdigits_behind => k_is)
    (case kdigits_behind => k_is)
    (case arun_end => k_is)
    (case lrun_end => k_is)
    (case crun_end => k_is)
    (case krun_end => k_is)
    (case alaw_cell => k_is)
    (case llaw_cell => k_is)
    (case claw_cell => k_is)
    (case klaw_cell => k_is)
    (case alaw_word => k_is)
    (case llaw_word => k_is)
    (case claw_word => k_is)
    (case klaw_word => k_is)
    (case alaw_token => k_is)
    (case llaw_token => k_is)
    (case claw_token => k_is)
    (case klaw_token => k_is)
    (case alaw_bad => k_is)
    (case llaw_bad => k_is)
    (case claw_bad => k_is)
    (case klaw_bad => k_is)
    (case alaw => k_is)
    (case llaw => k_is)
    (case claw => k_is)
    (case klaw => k_is)
    (case zabs => k_is)
    (case zint => k_is)
    (case zisinstance => k_is)
    (case zlen => k_is)
    (case zlist => k_is)
    (case zmin => k_is)
    (case zrange => k_is)
    (case zrepr => k_is)
    (case zstr => k_is)
    (case gRESERVED => k_is)
    (case lRESERVED => k_is)
    (case gLONGEST_TEXT => k_is)
    (case gLONGEST_NAME => k_is)
    (case gMOST_DIGITS => k_is)
    (case gSEPARATORS => k_is)
    (case gLETTERS => k_is)
    (case gDIGITS => k_is)
    (case gNAMING => k_is)
    (case gSIGNS => k_is)
    (case lSIGNS => k_is)
    (case gBOTTOMS => k_is)
    (case lBOTTOMS => k_is)
    (case gMalformed => k_is)
    (case xMalformed => k_is)
    (case saMalformed => k_is)
    (case gaMalformed => k_is)
    (case ggMalformed => k_is)
    (case noMalformed => k_is)
    (case inMalformed => k_is)
    (case tiMalformed => k_is)
    (case kcMalformed => k_is)
    (case exMalformed => k_is)
    (case tyMalformed => k_is)
    (case hdMalformed => k_is)
    (case icMalformed => k_is)
    (case suMalformed => first | rfl | k_is)
    (case liMalformed => k_is)
    (case ciMalformed => k_is)
    (case kiMalformed => k_is)
    (case gOversized => k_is)
    (case xOversized => k_is)
    (case saOversized => k_is)
    (case gaOversized => k_is)
    (case ggOversized => k_is)
    (case noOversized => k_is)
    (case inOversized => k_is)
    (case tiOversized => k_is)
    (case kcOversized => k_is)
    (case exOversized => k_is)
    (case tyOversized => k_is)
    (case hdOversized => k_is)
    (case icOversized => k_is)
    (case suOversized => first | rfl | k_is)
    (case liOversized => k_is)
    (case ciOversized => k_is)
    (case kiOversized => k_is)
#print axioms PySem.Challenge.cw_alnage_k00_tokens_holds
