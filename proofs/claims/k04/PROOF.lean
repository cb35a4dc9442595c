import PyProof.Rows.All
import Wide.All
import OpenK.AllK
import Wide.FinOn
import HandS.ForMost
import HandS.Wide
import HandS.EndBits
import KE.KLam
import KE.DataMinKey
import HandS.Lambda
import HandS.TupAny
import HandS.IsInst
import HandS.Evl
import HandS.SortKw
import HandS.EndTab
import HandS.SetBool
import HandS.SetKeys
import HandS.Strs
import HandS.Style
import HandS.DeepEq
import KE.KIndexOf
import KE.DatumOrd
import HandS.Nested
import HandS.ClsMeth
import KE.KSuper
import KE.SortData
import PyProof.EqKinds
import HandS.OwnEq
import HandS.More
import HandS.TupLe
import PySem.Challenge.RW_shuntplan_k04_trains_as_values
set_option Elab.async false
set_option linter.all false
set_option maxRecDepth 100000
set_option maxHeartbeats 4000000
/-! Defs that show values: a promise that may lean on «nothing is being shown around the call», its callers, its end, and repr of data. -/
namespace My
open PySem PySem.Spec PyProof.Rows L2

/-- no value is being shown around here -/
def Still (A : Around) : Prop := A.guards = some []
theorem Still.deeper {A : Around} (h : Still A) (e : Env) : Still (A.deeper e) := h

section
variable (P : Program) (w : World) (K : PySem.W.Frag) (mg : Str → Option Value) (base : Heap) (CX : CXT)
/-- a def's promise, kept wherever nothing is being shown -/
structure FnG (k : Nat) (f : Addr) (fd : FuncData) (ps : List Str) (sp : Sp) : Prop where
  len : ∀ vs H Q E, sp vs H Q E → vs.length = ps.length
  run : ∀ (A : Around) (stk : List Env) (s : Shared) (H : Hp) (g : Args) (us : List Value) (vs : List V) (Q : VK) (E : XK), Still A → Room k A → Env0 P w K mg base A stk s H →
    BindsTo s fd g (ps.zip us) → Vals vs us → sp vs H Q E → codeAny (model P w) A (.call (.ref f) g) (CR CX stk P w H s Q E) s
end

section
variable {P : Program} {w : World} {K : PySem.W.Frag} {mg : Str → Option Value} {base : Heap} {CX : CXT}
theorem FnG.of {k : Nat} {f : Addr} {fd : FuncData} {ps : List Str} {sp : Sp} (F : FnOk P w K mg base CX k f fd ps sp) : FnG P w K mg base CX k f fd ps sp :=
  ⟨F.len, fun A stk s H g us vs Q E _ r e b v h => F.run A stk s H g us vs Q E r e b v h⟩
theorem FnG.mono {i k : Nat} {f : Addr} {fd : FuncData} {ps : List Str} {sp : Sp} (F : FnG P w K mg base CX i f fd ps sp) (h : i ≤ k) : FnG P w K mg base CX k f fd ps sp :=
  ⟨F.len, fun A stk s H g us vs Q E st r e b v q => F.run A stk s H g us vs Q E st (r.mono h) e b v q⟩
theorem FnG.imp {k : Nat} {f : Addr} {fd : FuncData} {ps : List Str} {sp sp' : Sp} (F : FnG P w K mg base CX k f fd ps sp) (h : ∀ vs H Q E, sp' vs H Q E → sp vs H Q E) : FnG P w K mg base CX k f fd ps sp' :=
  ⟨fun vs H Q E q => F.len vs H Q E (h _ _ _ _ q), fun A stk s H g us vs Q E st r e b v q => F.run A stk s H g us vs Q E st r e b v (h _ _ _ _ q)⟩
end

section
variable {X : Cx} {CX : CXT} {k : Nat} {f C : Addr} {fd : FuncData} {ps : List Str} {sp : Sp} {dvs : List V} {ds : List Value} {E : XK} {x : Str} {p pos : Pos} {e : Expr} {es : List Expr} {t : TA}
theorem runG {pins : List (Addr × Obj)} {σ : L2.St} {H : Hp} {s : Shared} {Q : VK} {us : List Value} {vs : List V} (F : FnG X.prog X.w X.K X.mg X.base CX k f fd ps sp) (st : Still X.A) (hr : Room k X.A)
    (hb : Binds X.K fd ps ds) (hd : Vals dvs ds) (hx : Passes CX X E) (I : Inv X pins σ H s) (rv : Vals vs us) (hp : sp (vs ++ dvs) H Q E) :
    wpAny (model X.prog X.w) X.A (call (.ref f) us) (EP X pins σ Q) X.xe s := by
  have all : Vals (vs ++ dvs) (us ++ ds) := rv.append hd
  have many : (us ++ ds).length = ps.length := all.length.symm.trans (F.len _ _ _ _ hp)
  refine wpAny_call (codeAny_mono (F.run X.A X.stack s H ⟨us, []⟩ (us ++ ds) (vs ++ dvs) Q E st hr I.env0 (hb s us I.kIn many) all hp) ?_)
  intro res s' end_
  match res, end_ with
  | .error er, z => exact hx pins σ H s er s' I z
  | .ok (.ret u), z => exact I.after z
  | .ok .next, z => exact z.elim
  | .ok .brk, z => exact z.elim
  | .ok .cont, z => exact z.elim

theorem pe_callG (F : FnG X.prog X.w X.K X.mg X.base CX k f fd ps sp) (st : Still X.A) (hr : Room k X.A) (hg : Gl X x) (hm : X.mg x = some (.ref f)) (kp : PySem.W.keepIn X.K (.ref f) = true)
    (hb : Binds X.K fd ps ds) (hd : Vals dvs ds) (hx : Passes CX X E) (ha : PA X (e :: es) t) (nd : (x == ("__debug__" : Str)) = false := by decide)
    (he : starEach (e :: es) X.env = (false, eval e X.env) :: starEach es X.env := by rfl) (hp : (backTo pos (starEach es X.env)).any (·.1) = false := by rfl) :
    PE X (.Call (.Name x p) (e :: es) [] pos) (tCall sp dvs E t) :=
  ⟨fun pins s σ H Q I q => wpAny_Call_Name_kw (ld_glob I hg hm
    (PySem.W.callWith_K (h₀ := X.base) I.ok.mod.kin kp (thn (ha.run pos pins s σ H _ I q) fun _ _ ⟨_, _, J, rv, z⟩ => ⟨J.kIn, runG F st hr hb hd hx J rv z⟩) he hp) nd)⟩
theorem pe_callG0 (F : FnG X.prog X.w X.K X.mg X.base CX k f fd ps sp) (st : Still X.A) (hr : Room k X.A) (hg : Gl X x) (hm : X.mg x = some (.ref f)) (kp : PySem.W.keepIn X.K (.ref f) = true)
    (hb : Binds X.K fd ps ds) (hd : Vals dvs ds) (hx : Passes CX X E) (nd : (x == ("__debug__" : Str)) = false := by decide) : PE X (.Call (.Name x p) [] [] pos) (tCall sp dvs E tNil) :=
  ⟨fun pins s σ H Q I q => wpAny_Call_Name_kw (ld_glob I hg hm (PySem.W.callWith_K0 I.kIn kp (runG (us := []) F st hr hb hd hx I .nil q)) nd)⟩
end

/-! ### a def by its body -/
theorem fn_ofG {CX : CXT} {P : Program} {w : World} {K : PySem.W.Frag} {mg : Str → Option Value} {base : Heap} {k : Nat} {f : Addr} {name qual : Str} {params : Arguments} {body : List Stmt} {sc : Scope} {dV kV doc pm cdv ct oc : Value} {an od : Option Addr}
    {osl : Array (Option Value)} {N ps : List Str} {sp : Sp} (lk : K.lookup f = some ⟨oc, od, .func (PySem.W.fnOf name qual params body sc dV kV doc pm an cdv ct), osl⟩) (hc : PySem.W.codeIn K cdv qual = true) (S : FnScope N ps sc)
    (len : ∀ vs H Q E, sp vs H Q E → vs.length = ps.length)
    (hbody : ∀ (A : Around) (stk : List Env) (s : Shared) (H : Hp) (vs : List V) (Q : VK) (E : XK), Still A → Room k (A.deeper (envOfC qual sc s.heap.objs.size f cdv)) → sp vs H Q E →
      ∃ t, PSs (cxOf CX P w K mg base N qual sc f cdv A stk s H E) body t ∧ t { nx := fun _ H' => Q .non H', rt := Q } (start N vs) H) :
    FnG P w K mg base CX (k + 1) f (PySem.W.fnOf name qual params body sc dV kV doc pm an cdv ct) ps sp := by
  refine ⟨len, fun A stk s H g us vs Q E st hr e0 hb rv hp => ?_⟩
  have many := len _ _ _ _ hp
  have keep : ∀ b o, base.get? b = some o → s.heap.get? b = some o := fun b o e => (e0.bs b o e).1
  have KX : K.In s.heap := e0.mod.kin.keeps keep
  have lim : s.heap.NoLimit := e0.mod.nolimit.keeps keep
  refine codeAny_call_function hr.depth (KX _ _ lk) rfl S.co S.gen rfl (PySem.W.codeRec_of KX hc) (hb _ _ _ _ (wpAny_newFunctionEnv_cells S.kind ?_ ?_))
  · rintro ⟨n, v⟩ hy
    rcases S.par n (List.of_mem_zip hy).1 with q | q
    · exact .inl q
    · exact .inr ⟨q, PySem.W.cellsFrom_some _ _ _ (.inl q)⟩
  · rintro env rfl s1 x
    obtain ⟨t, ht, hq⟩ := hbody A stk s H vs Q E st (hr.deeper _) hp
    refine ⟨lim.keeps x.toInCall.keep, codeAny_func (wpAny_mono (ht.run [] s1 (start N vs) H _ (inv_start S hr.hd e0 many rv x) hq) ?_ fun _ _ z => z)⟩
    intro fl s' z
    match fl, z with
    | .ret u, ⟨v, _, H', J, r, q⟩ => exact ⟨v, H', J.os, J.bare, J.base, J.hok, r, q⟩
    | .next, ⟨_, H', J, q⟩ => exact ⟨V.non, H', J.os, J.bare, J.base, J.hok, (rfl : Value.none = Value.none), q⟩
    | .brk, ⟨_, _, _, q⟩ => exact q.elim
    | .cont, ⟨_, _, _, q⟩ => exact q.elim

section
variable {P : Program} {w : World} {K : PySem.W.Frag} {mg : Str → Option Value} {base : Heap}
theorem okG {x qual : Str} {st : Stmt} {f : Addr} {fd : FuncData} {N ps : List Str} {k : Nat} {sp : Sp} (F : Fun K x qual st f fd) (S : FnScope N ps (defScope st)) (len : ∀ vs H Q E, sp vs H Q E → vs.length = ps.length)
    (hbody : ∀ (cdv : Value) (A : Around) (stk : List Env) (s : Shared) (H : Hp) (vs : List V) (Q : VK) (E : XK), Still A → Room k (A.deeper (envOfC qual (defScope st) s.heap.objs.size f cdv)) → sp vs H Q E →
      ∃ t, PSs (cxOf CX0 P w K mg base N qual (defScope st) f cdv A stk s H E).nox (defBody st) t ∧ t { nx := fun _ H' => Q .non H', rt := Q } (start N vs) H) : FnG P w K mg base CX0 (k + 1) f fd ps sp := by
  obtain ⟨oc, od, kV, doc, pm, an, cdv, ct, osl, rfl, lk, hc⟩ := F.ex
  exact fn_ofG lk hc S len fun A stk s H vs Q E sl hr hp => let ⟨t, h, q⟩ := hbody cdv A stk s H vs Q E sl hr hp; ⟨t, h.nox, q⟩
end

/-! ### repr of data -/
section
variable {X : Cx}
def rRepr (K : PySem.W.Frag) : List V → Hp → VK → Prop := fun xs H Q => ∃ v d, xs = [v] ∧ Dp K H v d ∧ d.showable = true ∧ d.depth ≤ 60 ∧ d.shown.length ≤ sizeLine ∧ Q (.str d.shown) H
mutual
theorem noDict {K : PySem.W.Frag} {H : Hp} : ∀ (d : PyData) (v : V), Dp K H v d → d.hasDict = false
  | .none, _, _ => by simp only [PyData.hasDict]
  | .bool _, _, _ => by simp only [PyData.hasDict]
  | .int _, _, _ => by simp only [PyData.hasDict]
  | .str _, _, _ => by simp only [PyData.hasDict]
  | .list ds, _, h => by
    cases h with
    | lst _ a =>
      simp only [PyData.hasDict]
      exact noDictAll ds _ a
  | .tuple ds, _, h => by
    cases h with
    | tup _ a =>
      simp only [PyData.hasDict]
      exact noDictAll ds _ a
  | .dict _, _, h => by cases h
theorem noDictAll {K : PySem.W.Frag} {H : Hp} : ∀ (ds : List PyData) (vs : List V), DpAll K H vs ds → PyData.hasDictAll ds = false
  | [], _, _ => by simp only [PyData.hasDictAll]
  | d :: ds, _, h => by
    cases h with
    | cons a b =>
      simp only [PyData.hasDictAll, noDict d _ a, noDictAll ds _ b]
      rfl
end
theorem inv_more {pins : List (Addr × Obj)} {σ : L2.St} {H : Hp} {s : Shared} {h' : Heap} {tk : Nat} (I : Inv X pins σ H s) (k : ∀ b o, s.heap.get? b = some o → h'.get? b = some o) : Inv X pins σ H { s with heap := h', toks := tk } :=
  I.un (Un.kept k) (I.hok.kept k)
theorem call_repr (hg : Still X.A) (hu : X.A.units + 64 < cLine) : CallR X (.builtin "repr") (rRepr X.K) := by
  intro pins s σ H xs us Q I r h
  obtain ⟨v, d, rfl, hd, hs, hdp, hz, q⟩ := h
  obtain ⟨u, rfl, rv⟩ := vals1 r
  have nd := noDict d v hd
  obtain ⟨as, rd⟩ := Dp.reads I d v u hd rv
  have fin : ∀ (h' : Heap) (t tk : Tok), (∀ b o, s.heap.get? b = some o → h'.get? b = some o) → EP X pins σ Q (.str d.shown t) { s with heap := h', toks := tk } :=
    fun h' t tk k => ⟨.str d.shown, H, inv_more I k, ⟨t, rfl⟩, q⟩
  cases hd with
  | non =>
    cases rv
    exact PySem.P.repr_of_none (by simpa only [PyData.shown] using fin s.heap _ _ fun _ _ e => e)
  | bl b =>
    cases rv
    exact PySem.P.repr_of_bool (by simpa only [PyData.shown] using fin s.heap _ _ fun _ _ e => e)
  | int i =>
    obtain ⟨t, rfl⟩ := rv
    exact PySem.P.repr_of_int (by simpa [PyData.showable] using hs) (by simpa only [PyData.shown] using fin s.heap _ _ fun _ _ e => e)
  | str x =>
    obtain ⟨t, rfl⟩ := rv
    exact PySem.P.repr_of_str (by simpa only [PyData.shown] using fin s.heap _ _ fun _ _ e => e) (by simpa only [PyData.shown] using hz)
  | lst _ _ =>
    cases rv
    exact PySem.repr_of_reads' rd hs (PyData.noDict_hsm nd) hg (by omega) (fun _ _ e => e) (fun h' u tk k => fin h' u tk k) hz
  | tup _ _ =>
    cases rv
    exact PySem.repr_of_reads' rd hs (PyData.noDict_hsm nd) hg (by omega) (fun _ _ e => e) (fun h' u tk k => fin h' u tk k) hz
end
end My
set_option Elab.async false
set_option linter.all false
set_option maxRecDepth 100000
set_option maxHeartbeats 4000000
/-! a lambda x: x[0][0], called -/
namespace My
open PySem PySem.Spec PyProof.Rows L2
section
variable {prog : Program} {w : World} {A : Around} {E : Value → Shared → Prop} {s : Shared}
theorem ix0 {n : Nat} (h : 0 < n) : seqIndex? 0 n = some 0 := by
  unfold seqIndex?
  simp
  omega
/-- x[0][0] -/
def bodyF (x : Str) (j1 j2 : Nat) (p1 p2 p3 p4 p5 : Pos) : Expr := .Subscript (.Subscript (.Name x p1) (.Constant (.int 0) j1 p2) p3) (.Constant (.int 0) j2 p4) p5
theorem lam_first {x qual : Str} {params : Arguments} {scope : Scope} {pm ctv z : Value} {f c' a b : Addr} {its its2 : Array Value} {j1 j2 : Nat} {p1 p2 p3 p4 p5 : Pos} {Q : Value → Shared → Prop}
    (ho : s.heap.get? f = some (PySem.W.kla_obj "<lambda>" qual params (bodyF x j1 j2 p1 p2 p3 p4 p5) scope [] pm c' ctv)) (hcr : s.heap.CodeRec (.ref c') qual) (hdp : A.depth < recursionLimit) (lim : s.heap.NoLimit)
    (hco : scope.isCoroutine = false) (hgen : scope.isGenerator = false) (hk : scope.kind = .function) (hx : scope.names.lookup x = some .local) (hown : ∀ y ∈ scope.names, y.2 ≠ .cell) (hdb : (x == ("__debug__" : Str)) = false)
    (hb : bindArgs (PySem.W.kla_fn "<lambda>" qual params (bodyF x j1 j2 p1 p2 p3 p4 p5) scope [] pm (.ref c') ctv) ⟨[.ref a], []⟩ = pure [(x, .ref a)])
    (h1 : s.heap.IsTuple a its) (h2 : its[0]? = some (.ref b)) (h3 : s.heap.IsTuple b its2) (h4 : its2[0]? = some z)
    (h : ∀ h' tk, (∀ c o, s.heap.get? c = some o → h'.get? c = some o) → Q z { s with heap := h', toks := tk }) : wpAny (model prog w) A (call (.ref f) [.ref a]) Q E s := by
  refine wpAny_call (PySem.W.kla_callFunE hdp ho rfl hco hgen rfl hcr ?_)
  rw [hb]
  refine wpAny_pure (wpAny_newFunctionEnv (fun y hy => hown y hy) (fun y hy => ?_) (fun h₁ hns hsb => ⟨lim.fresh _ hsb, ?_⟩) hk)
  · rw [List.mem_singleton.mp hy]
    exact hx
  · have kp : ∀ c o, s.heap.get? c = some o → h₁.get? c = some o := fun c o e => hsb.extBut c o (Nat.ne_of_lt (Heap.lt_size e)) (Heap.get?_push_of_some _ e)
    refine PySem.W.kla_codeExpr ?_
    have t1 : h₁.IsTuple a its := h1.at fun o e => kp _ _ e
    have t2 : h₁.IsTuple b its2 := h3.at fun o e => kp _ _ e
    unfold bodyF
    refine Subscript_ (wpAny_mono (Q := fun o s' => o = .ref b ∧ ∃ tk, s' = { s with heap := h₁, toks := tk }) ?_ (fun o s' q => ?_) fun _ _ y => y)
    · refine Subscript_ (wpAny_Name (wpAny_loadName_local hk hx hns (v := .ref a) (by simp) ?_) hdb)
      refine wpAny_Constant_int ?_
      refine subscriptTail_builtinR (x := .ref b) t1.typeIs slot_tuple_getitem.lookup (getItem_tuple (j := 0) (Q := fun r s' => r = .ref b ∧ (r = .ref b ∧ ∃ tk, s' = { s with heap := h₁, toks := tk })) t1 (by decide) (by decide) (ix0 (Array.getElem?_eq_some_iff.mp h2).1) h2 ⟨rfl, rfl, _, rfl⟩) rfl
    · obtain ⟨rfl, tk, rfl⟩ := q
      refine wpAny_Constant_int ?_
      refine subscriptTail_builtinR (x := z) t2.typeIs slot_tuple_getitem.lookup (getItem_tuple (j := 0) (Q := fun r s' => r = z ∧ Q r s') t2 (by decide) (by decide) (ix0 (Array.getElem?_eq_some_iff.mp h4).1) h4 ⟨rfl, h _ _ kp⟩) rfl
/-- min of a list of rows by x[0][0], a text -/
theorem min_first {x qual : Str} {params : Arguments} {scope : Scope} {pm ctv : Value} {f c' l : Addr} {vs : List Value} {ks : List Str} {j1 j2 : Nat} {p1 p2 p3 p4 p5 : Pos} {Q : Value → Shared → Prop} (hh : A.handled = none)
    (ho : s.heap.get? f = some (PySem.W.kla_obj "<lambda>" qual params (bodyF x j1 j2 p1 p2 p3 p4 p5) scope [] pm c' ctv)) (hcr : s.heap.CodeRec (.ref c') qual) (hdp : A.in1.depth < recursionLimit) (lim : s.heap.NoLimit)
    (hco : scope.isCoroutine = false) (hgen : scope.isGenerator = false) (hk : scope.kind = .function) (hx : scope.names.lookup x = some .local) (hown : ∀ y ∈ scope.names, y.2 ≠ .cell) (hdb : (x == ("__debug__" : Str)) = false)
    (hb : ∀ v : Value, bindArgs (PySem.W.kla_fn "<lambda>" qual params (bodyF x j1 j2 p1 p2 p3 p4 p5) scope [] pm (.ref c') ctv) ⟨[v], []⟩ = pure [(x, v)])
    (hl : s.heap.IsList l vs.toArray) (hn : 0 < vs.length) (hlen : ks.length = vs.length)
    (hv : ∀ (i : Nat) (v : Value) (k : Str), vs[i]? = some v → ks[i]? = some k → ∃ (a b : Addr) (its its2 : Array Value) (t : Tok), v = Value.ref a ∧ s.heap.IsTuple a its ∧ its[0]? = some (.ref b) ∧ s.heap.IsTuple b its2 ∧ its2[0]? = some (.str k t))
    (h : ∀ h' tk v, (∀ c o, s.heap.get? c = some o → h'.get? c = some o) → vs[argBest (fun i j => decide ((ks.getD i Str.empty).cps.toList < (ks.getD j Str.empty).cps.toList)) (vs.length - 1)]? = some v → Q v { s with heap := h', toks := tk }) :
    wpAny (model prog w) A (call (.builtin "min") [.ref l] [(Str.ofString "key", .ref f)]) Q E s := by
  refine call_min_walkK (wpAny_pyIter_list hl ?_)
  have hll : l < s.heap.objs.size := by
    obtain ⟨o, ho, _⟩ := hl
    exact Heap.lt_size ho
  have W := (Walks.list (prog := prog) (w := w) (A := A.in1) hh s.heap.objs.size l (Nat.ne_of_lt hll) vs.toArray).toS
  have k1 : ∀ c o, s.heap.get? c = some o → (s.heap.push { cls := .type "list_iterator", data := .fields #[.ref l, .int 0 0] }).get? c = some o := fun c o e => Heap.get?_push_of_some _ e
  have sz1 : (s.heap.push { cls := .type "list_iterator", data := .fields #[.ref l, .int 0 0] }).objs.size = s.heap.objs.size + 1 := size_push' ..
  have free : ∀ c, s.heap.objs.size ≤ c → s.heap.get? c = none := fun c hc => Heap.get?_none_of_le hc
  have hsz : vs.toArray.size = vs.length := List.size_toArray ..
  refine ⟨s.heap.objs.size, _, _, _, _, _, _, fun s' => ∃ h' tk, s' = { s with heap := h', toks := tk } ∧ (∀ c o, s.heap.get? c = some o → h'.get? c = some o), fun i k _ => ∃ t, k = .str (ks.getD i Str.empty) t, fun i j => decide ((ks.getD i Str.empty).cps.toList < (ks.getD j Str.empty).cps.toList), rfl, W, ⟨⟨_, Heap.get?_push_size _ rfl, rfl, rfl⟩, hl.at fun o e => k1 _ _ e⟩, fun b hb => ?_, by rw [hsz]; exact hn, ?_, ⟨_, _, rfl, k1⟩, fun v s' hP hJ => ?_⟩
  · rw [sz1]
    rcases List.mem_cons.mp hb with e | hb
    · exact e ▸ Nat.lt_succ_self _
    · exact (List.mem_singleton.mp hb) ▸ Nat.lt_succ_of_lt hll
  · rw [sz1]
    refine ⟨fun s1 s2 hJ hm => ?_, fun i k s1 s2 hV hm => hV, fun i v s1 o Q1 E1 hi hP hJ hst hS hQ => ?_, fun i j ki kj s1 Q1 E1 hJ hi hj hQ => ?_⟩
    · obtain ⟨h1, tk1, rfl, kp⟩ := hJ
      obtain ⟨g1, g2, g3, g4, g5⟩ := hm
      refine ⟨s2.heap, s2.toks, ?_, fun c o e => g1 c o (fun z => ?_) (kp c o e)⟩
      · obtain ⟨a1, a2, a3, a4, a5⟩ := s2
        simp only at g2 g3 g4
        subst g2 g3 g4
        rfl
      · rcases List.mem_cons.mp z with z | z
        · rw [z, free _ (Nat.le_succ _)] at e
          cases e
        · rw [List.mem_singleton.mp z, free _ (Nat.le_refl _)] at e
          cases e
    · obtain ⟨h1, tk1, rfl, kp⟩ := hJ
      have hiv : vs[i]? = some v := by simpa using hP
      have hil : i < ks.length := by rw [hlen]; exact (List.getElem?_eq_some_iff.mp hiv).1
      obtain ⟨a, b, its, its2, t, rfl, t1, e1, t2, e2⟩ := hv i v ks[i] hiv (List.getElem?_eq_getElem hil)
      refine lam_first (s := { s with heap := h1, toks := tk1 }) (A := A.in1) (kp _ _ ho) (hcr.keeps kp) hdp (lim.keeps kp) hco hgen hk hx hown hdb (hb _) (t1.at fun o e => kp _ _ e) e1 (t2.at fun o e => kp _ _ e) e2 fun h2 tk2 k2 => ?_
      exact hQ _ _ ⟨h2, tk2, rfl, fun c o e => k2 _ _ (kp c o e)⟩ ⟨hst.1.at fun o e => k2 _ _ e, hst.2.at fun o e => k2 _ _ e⟩ (k2 _ _ hS) ⟨t, by rw [List.getD_eq_getElem?_getD, List.getElem?_eq_getElem hil]; rfl⟩ fun _ _ z => z
    · obtain ⟨t1, rfl⟩ := hi
      obtain ⟨t2, rfl⟩ := hj
      exact PyProof.Rows.lt_str hQ
  · obtain ⟨h1, tk1, rfl, kp⟩ := hJ
    rw [hsz] at hP
    exact h h1 tk1 v kp (by simpa using hP)
end
end My
set_option Elab.async false
set_option linter.all false
set_option maxRecDepth 100000
set_option maxHeartbeats 4000000
/-! The end of a law whose def shows values. -/
namespace My
open PySem PySem.Spec PyProof.Rows L2

section
variable {P : Program} {w : World} {K : PySem.W.Frag} {mg mb : Str → Option Value} {CX : CXT} {k : Nat} {fa a : Addr} {fd : FuncData} {x : Str} {sp : Sp} {s : Shared} {vs : List Value} {ns : List Int}
/-- what the law's call asks of the state behind the top -/
structure Behind (K : PySem.W.Frag) (mg mb : Str → Option Value) (a : Addr) (vs : List Value) (s : Shared) : Prop where
  kin : K.In s.heap
  glob : s.heap.Ns mainGlobals mg
  blt : s.heap.Ns builtinsNs mb
  boot : ∀ y : Str, y ≠ "__name__" → mb y = bootBuiltins y
  lim : s.heap.NoLimit
  gens : s.gens = #[]
  ob : s.heap.get? a = some { cls := .type "list", data := .seq vs.toArray }
/-- the abstract heap in which at most the script is tracked -/
structure Bare (K : PySem.W.Frag) (a : Addr) (H : Hp) : Prop where
  only : Only H
  at_ : ∀ b, H b ≠ none → b = a
  free : H a ≠ none → K.lookup a = none
theorem law_at (B : Behind K mg mb a vs s) (hr : Room k callerA) (F : ∀ base : Heap, K.In base → base.Ns mainGlobals mg → FnG P w K mg base CX k fa fd [x] sp)
    (bind : ∀ (s : Shared) (u : Value), BindsTo s fd ⟨[u], []⟩ [(x, u)]) (hCX : ∀ H e s', CX [] H s (fun _ _ _ => False) e s' → False)
    (H : Hp) (W : Bare K a H) (hok : HOk P w H s.heap) (hp : sp [.ref a] H (fun v _ => v = .bl true) fun _ _ _ => False) :
    codeAny (model P w) callerA (.call (.ref fa) ⟨[.ref a], []⟩) (fun r s' => r = .ok (.ret (.bool true)) ∧ OldK s.heap s'.heap ∧ s'.os = s.os ∧ AllBare s'.gens) s := by
  have apart : ∀ {b : Addr} {o : Obj}, s.heap.get? b = some o → (b = a → H a = none) → (hidT s.heap H).get? b = some o := fun {b o} e z => hidT_get e (by
    by_cases q : H b = none
    · exact q
    · have ba := W.at_ b q
      rw [ba]
      exact z ba)
  have ns : ∀ {b : Addr} {m : Str → Option Value}, s.heap.Ns b m → (hidT s.heap H).Ns b m := fun {b m} ⟨o, es, ep, e, d, r⟩ => ⟨o, es, ep, apart e (fun z => by
    subst z
    rw [B.ob] at e
    cases e
    exact absurd d (fun q => nomatch q)), d, r⟩
  have kb : K.In (hidT s.heap H) := fun b o e => apart (B.kin b o e) (fun z => by
    subst z
    by_cases q : H b = none
    · exact q
    · have := W.free q
      rw [e] at this
      cases this)
  have md : Mod K mg (hidT s.heap H) := ⟨kb, ns B.glob, ⟨mb, ns B.blt, B.boot⟩, match B.lim with | ⟨m, p, q⟩ => ⟨m, ns p, q⟩⟩
  have e0 : Env0 P w K mg (hidT s.heap H) callerA [] s H :=
    { frames := rfl, mod := md, bs := fun _ _ e => of_hidT e, bsz := Nat.le_of_eq (hidT_size _ _), funs := trivial, frf := fun _ z => (List.not_mem_nil z).elim, hok := hok, bare := .of_eq B.gens }
  refine codeAny_mono ((F _ kb (ns B.glob)).run callerA [] s H ⟨[.ref a], []⟩ [.ref a] [.ref a] _ _ rfl hr e0 (bind s (.ref a)) (.cons rfl .nil) hp) ?_
  intro res s' z
  match res, z with
  | .error e, z => exact (hCX H e s' z).elim
  | .ok .next, z => exact z.elim
  | .ok .brk, z => exact z.elim
  | .ok .cont, z => exact z.elim
  | .ok (.ret u), ⟨v, H', os, bare, un, hok', rv, q⟩ =>
    subst q
    cases (show u = Value.bool true from rv)
    refine ⟨rfl, OldK.of_keep fun b o e => ?_, os, bare⟩
    rcases W.only b with z | ⟨ob, xs, z⟩
    · exact un.keep b o e z List.not_mem_nil List.not_mem_nil
    · have h1 := (hok b _ z).1
      have h2 := (hok' b _ (un.frzs b ob _ z)).1
      rw [e] at h1
      cases h1
      exact h2
theorem law_endG (B : Behind K mg mb a vs s) (hi : IntsAre vs ns) (hl : ns.length ≤ sizeLine) (hr : Room k callerA)
    (F : ∀ base : Heap, K.In base → base.Ns mainGlobals mg → FnG P w K mg base CX k fa fd [x] sp) (bind : ∀ (s : Shared) (u : Value), BindsTo s fd ⟨[u], []⟩ [(x, u)])
    (hsp : ∀ H : Hp, Only H → SqL K H a (ns.map V.int) → sp [.ref a] H (fun v _ => v = .bl true) fun _ _ _ => False) (hCX : ∀ H e s', CX [] H s (fun _ _ _ => False) e s' → False) :
    codeAny (model P w) callerA (.call (.ref fa) ⟨[.ref a], []⟩) (fun r s' => r = .ok (.ret (.bool true)) ∧ OldK s.heap s'.heap ∧ s'.os = s.os ∧ AllBare s'.gens) s := by
  have rv := vals_ints hi
  have le := hi.length
  have lm : (ns.map V.int).length ≤ sizeLine := by
    rw [List.length_map]
    exact hl
  cases q : K.lookup a with
  | some o =>
    have e := B.kin a o q
    rw [B.ob] at e
    cases e
    have hS : SqL K (fun _ => none) a (ns.map V.int) := .inr ⟨_, vs.toArray, _, q, rfl, rfl, rfl, by simpa using (le ▸ hl), by simpa using rv⟩
    exact law_at B hr F bind hCX (fun _ => none) ⟨fun _ => .inl rfl, fun _ z => absurd rfl z, fun z => absurd rfl z⟩ (fun _ _ z => nomatch z) (hsp _ (fun _ => .inl rfl) hS)
  | none =>
    let fz : HO := .frz { cls := .type "list", data := .seq vs.toArray } (.lst (ns.map V.int))
    have oth : ∀ b, b ≠ a → (fun c => if c = a then some fz else none : Hp) b = none := fun b z => if_neg z
    have own : (fun c => if c = a then some fz else none : Hp) a = some fz := if_pos rfl
    have on : Only (fun c => if c = a then some fz else none) := fun b => (Decidable.em (b = a)).elim (fun z => .inr ⟨{ cls := .type "list", data := .seq vs.toArray }, ns.map V.int, if_pos z⟩) fun z => .inl (oth b z)
    refine law_at B hr F bind hCX _ ⟨on, fun b z => Decidable.byContradiction fun y => z (oth b y), fun _ => q⟩ (fun b u z => ?_) (hsp _ on (.inl (.inr ⟨_, own⟩)))
    by_cases y : b = a
    · subst y
      rw [if_pos rfl] at z
      cases z
      exact ⟨B.ob, lm, vs, _, rv, B.ob⟩
    · rw [if_neg y] at z
      cases z
end
/-- the goal that the head leaves, from a promise that may lean on «nothing is being shown»; the script's bits are told -/
theorem walk_G {l : PySem.W.OpenLaw} {n k : Nat} {q : Program} {loose : List Str} {XP : (Str → Option Value) → Heap → Prop} {YP : World → Heap → Prop} {d : DefRec} {K : Params → PySem.W.Frag} {sp : PySem.W.Frag → Sp} {x : Str}
    (hn : l.most = some n) (h2 : n ≤ sizeLine) (hd : d.params.defaults = []) (hr : Room k callerA) (hY : ∀ (w : World) (h : Heap), YP w h → (K w.params).In h)
    (F : ∀ (w : World) (mg : Str → Option Value) (fa : Addr) (h : Heap), (K w.params).In h → h.Ns mainGlobals mg → mg d.name = some (.ref fa) →
      ∃ fd : FuncData, (∀ (s : Shared) (u : Value), BindsTo s fd ⟨[u], []⟩ [(x, u)]) ∧ ∀ base : Heap, (K w.params).In base → base.Ns mainGlobals mg → FnG l.prog w (K w.params) mg base CX0 k fa fd [x] (sp (K w.params)))
    (hsp : ∀ (K : PySem.W.Frag) (H : Hp) (a : Addr) (ns : List Int), ns.length ≤ n → (∀ z ∈ ns, Builtin.Int.intBits z ≤ 1048576) → SqL K H a (ns.map V.int) → sp K [.ref a] H (fun v _ => v = .bl true) fun _ _ _ => False) :
    PySem.W.WalkO q loose XP YP l.row.toRowW d [] (fun f vs => PySem.call f vs) :=
  Att.attach_callB hn hd fun w s₀ s mg mb fa o pm cd doc a vs ns G Y _ _ _ hmg hob hi hl hb hg =>
    let ⟨_, bd, hF⟩ := F w mg fa _ (hY w _ Y) G.T.g hmg
    law_endG ⟨hY w _ Y, G.T.g, G.T.b, G.T.builtins, G.T.nolimit, hg, hob⟩ hi (Nat.le_trans hl h2) hr hF bd (fun H _ hS => hsp _ H a ns hl hb hS) fun _ _ _ z => z
end My
set_option Elab.async false
set_option linter.all false
set_option maxRecDepth 100000
set_option maxHeartbeats 4000000
namespace My
open PySem PySem.Spec PyProof.Rows L2
def topS (i : Nat) : Stmt := PySem.Challenge.pw_shuntplan_k04_trains_as_values.main.body.getD i (.Pass ⟨0, 0, 0, 0⟩)
abbrev sWall : Stmt := topS 0
abbrev sInvInit : Stmt := inClass (topS 2) 0
abbrev sIsInt : Stmt := topS 7
abbrev sIsName : Stmt := topS 8
abbrev sIsWith : Stmt := topS 9
abbrev sIsDir : Stmt := topS 10
abbrev sIsRow : Stmt := topS 11
abbrev sChkF : Stmt := topS 12
abbrev sTurn : Stmt := topS 13
abbrev sNames : Stmt := topS 14
abbrev sText : Stmt := topS 15
abbrev sLineF : Stmt := topS 16
abbrev sRingF : Stmt := topS 17
abbrev sTrInit : Stmt := inClass (topS 18) 0
abbrev sTrRow : Stmt := inClass (topS 18) 1
abbrev sTrText : Stmt := inClass (topS 18) 2
abbrev sTrEq : Stmt := inClass (topS 18) 4
abbrev sTrLen : Stmt := inClass (topS 18) 5
abbrev sTrCon : Stmt := inClass (topS 18) 6
abbrev sLnInit : Stmt := inClass (topS 19) 0
abbrev sLnRow : Stmt := inClass (topS 19) 1
abbrev sLnText : Stmt := inClass (topS 19) 2
abbrev sLnEq : Stmt := inClass (topS 19) 4
abbrev sLnLen : Stmt := inClass (topS 19) 5
abbrev sLnCon : Stmt := inClass (topS 19) 6
abbrev sRgInit : Stmt := inClass (topS 20) 0
abbrev sRgRow : Stmt := inClass (topS 20) 1
abbrev sRgText : Stmt := inClass (topS 20) 2
abbrev sRgEq : Stmt := inClass (topS 20) 4
abbrev sRgLen : Stmt := inClass (topS 20) 5
abbrev sRgCon : Stmt := inClass (topS 20) 6
abbrev sPen : Stmt := topS 22
abbrev sDraw : Stmt := topS 23
abbrev sPick : Stmt := topS 24
abbrev sShuf : Stmt := topS 25
abbrev sWag : Stmt := topS 26
abbrev sRow : Stmt := topS 27
abbrev sLTurn : Stmt := topS 28
abbrev sLForm : Stmt := topS 29
abbrev sLText : Stmt := topS 30
abbrev sLMade : Stmt := topS 31
abbrev sLaw : Stmt := topS 32
theorem scInvInit : FnScope ["self", "value"] ["self", "value"] (defScope sInvInit) := ⟨rfl, rfl, rfl, by decide +kernel, rfl, by decide +kernel, by decide +kernel⟩
theorem scIsInt : FnScope ["value"] ["value"] (defScope sIsInt) := ⟨rfl, rfl, rfl, by decide +kernel, rfl, by decide +kernel, by decide +kernel⟩
theorem scIsName : FnScope ["value", "letter"] ["value"] (defScope sIsName) := ⟨rfl, rfl, rfl, by decide +kernel, rfl, by decide +kernel, by decide +kernel⟩
theorem scIsWith : FnScope ["value", "numbers"] ["value", "numbers"] (defScope sIsWith) := ⟨rfl, rfl, rfl, by decide +kernel, rfl, by decide +kernel, by decide +kernel⟩
theorem scIsDir : FnScope ["value"] ["value"] (defScope sIsDir) := ⟨rfl, rfl, rfl, by decide +kernel, rfl, by decide +kernel, by decide +kernel⟩
theorem scIsRow : FnScope ["value", "wagon", "name", "_"] ["value"] (defScope sIsRow) := ⟨rfl, rfl, rfl, by decide +kernel, rfl, by decide +kernel, by decide +kernel⟩
theorem scChkF : FnScope ["value"] ["value"] (defScope sChkF) := ⟨rfl, rfl, rfl, by decide +kernel, rfl, by decide +kernel, by decide +kernel⟩
theorem scTurn : FnScope ["row", "name", "direction"] ["row"] (defScope sTurn) := ⟨rfl, rfl, rfl, by decide +kernel, rfl, by decide +kernel, by decide +kernel⟩
theorem scNames : FnScope ["row", "name", "_"] ["row"] (defScope sNames) := ⟨rfl, rfl, rfl, by decide +kernel, rfl, by decide +kernel, by decide +kernel⟩
theorem scText : FnScope ["row", "name", "direction"] ["row"] (defScope sText) := ⟨rfl, rfl, rfl, by decide +kernel, rfl, by decide +kernel, by decide +kernel⟩
theorem scLineF : FnScope ["row"] ["row"] (defScope sLineF) := ⟨rfl, rfl, rfl, by decide +kernel, rfl, by decide +kernel, by decide +kernel⟩
theorem scRingF : FnScope ["row", "least", "at"] ["row"] (defScope sRingF) := ⟨rfl, rfl, rfl, by decide +kernel, rfl, by decide +kernel, by decide +kernel⟩
theorem scTrInit : FnScope ["self", "row"] ["self", "row"] (defScope sTrInit) := ⟨rfl, rfl, rfl, by decide +kernel, rfl, by decide +kernel, by decide +kernel⟩
theorem scTrRow : FnScope ["self"] ["self"] (defScope sTrRow) := ⟨rfl, rfl, rfl, by decide +kernel, rfl, by decide +kernel, by decide +kernel⟩
theorem scTrText : FnScope ["self"] ["self"] (defScope sTrText) := ⟨rfl, rfl, rfl, by decide +kernel, rfl, by decide +kernel, by decide +kernel⟩
theorem scTrEq : FnScope ["self", "other"] ["self", "other"] (defScope sTrEq) := ⟨rfl, rfl, rfl, by decide +kernel, rfl, by decide +kernel, by decide +kernel⟩
theorem scTrLen : FnScope ["self"] ["self"] (defScope sTrLen) := ⟨rfl, rfl, rfl, by decide +kernel, rfl, by decide +kernel, by decide +kernel⟩
theorem scTrCon : FnScope ["self", "name"] ["self", "name"] (defScope sTrCon) := ⟨rfl, rfl, rfl, by decide +kernel, rfl, by decide +kernel, by decide +kernel⟩
theorem scLnRow : FnScope ["self"] ["self"] (defScope sLnRow) := ⟨rfl, rfl, rfl, by decide +kernel, rfl, by decide +kernel, by decide +kernel⟩
theorem scLnText : FnScope ["self"] ["self"] (defScope sLnText) := ⟨rfl, rfl, rfl, by decide +kernel, rfl, by decide +kernel, by decide +kernel⟩
theorem scLnEq : FnScope ["self", "other"] ["self", "other"] (defScope sLnEq) := ⟨rfl, rfl, rfl, by decide +kernel, rfl, by decide +kernel, by decide +kernel⟩
theorem scLnLen : FnScope ["self"] ["self"] (defScope sLnLen) := ⟨rfl, rfl, rfl, by decide +kernel, rfl, by decide +kernel, by decide +kernel⟩
theorem scLnCon : FnScope ["self", "name"] ["self", "name"] (defScope sLnCon) := ⟨rfl, rfl, rfl, by decide +kernel, rfl, by decide +kernel, by decide +kernel⟩
theorem scRgRow : FnScope ["self"] ["self"] (defScope sRgRow) := ⟨rfl, rfl, rfl, by decide +kernel, rfl, by decide +kernel, by decide +kernel⟩
theorem scRgText : FnScope ["self"] ["self"] (defScope sRgText) := ⟨rfl, rfl, rfl, by decide +kernel, rfl, by decide +kernel, by decide +kernel⟩
theorem scRgEq : FnScope ["self", "other"] ["self", "other"] (defScope sRgEq) := ⟨rfl, rfl, rfl, by decide +kernel, rfl, by decide +kernel, by decide +kernel⟩
theorem scRgLen : FnScope ["self"] ["self"] (defScope sRgLen) := ⟨rfl, rfl, rfl, by decide +kernel, rfl, by decide +kernel, by decide +kernel⟩
theorem scRgCon : FnScope ["self", "name"] ["self", "name"] (defScope sRgCon) := ⟨rfl, rfl, rfl, by decide +kernel, rfl, by decide +kernel, by decide +kernel⟩
theorem scPen : FnScope ["script"] ["script"] (defScope sPen) := ⟨rfl, rfl, rfl, by decide +kernel, rfl, by decide +kernel, by decide +kernel⟩
theorem scDraw : FnScope ["pen", "size", "digit", "turn", "cell", "primes", "prime", "mixed"] ["pen", "size"] (defScope sDraw) := ⟨rfl, rfl, rfl, by decide +kernel, rfl, by decide +kernel, by decide +kernel⟩
theorem scPick : FnScope ["pen", "options"] ["pen", "options"] (defScope sPick) := ⟨rfl, rfl, rfl, by decide +kernel, rfl, by decide +kernel, by decide +kernel⟩
theorem scShuf : FnScope ["pen", "some", "left", "found"] ["pen", "some"] (defScope sShuf) := ⟨rfl, rfl, rfl, by decide +kernel, rfl, by decide +kernel, by decide +kernel⟩
theorem scWag : FnScope ["pen", "many", "letters", "k", "front", "first", "step", "found", "place"] ["pen", "many"] (defScope sWag) := ⟨rfl, rfl, rfl, by decide +kernel, rfl, by decide +kernel, by decide +kernel⟩
theorem scRow : FnScope ["pen", "wagons", "name"] ["pen", "wagons"] (defScope sRow) := ⟨rfl, rfl, rfl, by decide +kernel, rfl, by decide +kernel, by decide +kernel⟩
theorem scLTurn : FnScope ["row", "name", "direction"] ["row"] (defScope sLTurn) := ⟨rfl, rfl, rfl, by decide +kernel, rfl, by decide +kernel, by decide +kernel⟩
theorem scLForm : FnScope ["row", "is_ring", "least", "some", "k", "name", "direction"] ["row", "is_ring"] (defScope sLForm) := ⟨rfl, rfl, rfl, by decide +kernel, rfl, by decide +kernel, by decide +kernel⟩
theorem scLText : FnScope ["row", "is_ring", "words", "name", "direction"] ["row", "is_ring"] (defScope sLText) := ⟨rfl, rfl, rfl, by decide +kernel, rfl, by decide +kernel, by decide +kernel⟩
theorem scLMade : FnScope ["row", "is_ring"] ["row", "is_ring"] (defScope sLMade) := ⟨rfl, rfl, rfl, by decide +kernel, rfl, by decide +kernel, by decide +kernel⟩
theorem scLaw : FnScope ["script", "pen", "turn", "wagons", "cut", "one_row", "other_row", "one_is", "other_is", "one", "other", "name", "odd", "value"] ["script"] (defScope sLaw) := ⟨rfl, rfl, rfl, by decide +kernel, rfl, by decide +kernel, by decide +kernel⟩
end My
set_option Elab.async false
set_option linter.all false
set_option maxRecDepth 100000
set_option maxHeartbeats 4000000
namespace My
open PySem PySem.Spec PyProof.Rows L2

/-! ### the pen: where the drawing stands -/
def kCells : Key := .inr "cells"
def kTurn : Key := .inr "turn"
def kRest : Key := .inr "rest"
theorem k12 : ¬ kCells = kTurn := by decide +kernel
theorem k13 : ¬ kCells = kRest := by decide +kernel
theorem k23 : ¬ kTurn = kRest := by decide +kernel
def penL (c : Addr) (t r : Int) : List (Key × V) := [(kCells, .ref c), (kTurn, .int t), (kRest, .int r)]
theorem penL_cells (c : Addr) (t r : Int) : valV (penL c t r) kCells = some (.ref c) := valV_pos (p := (kCells, V.ref c)) rfl
theorem penL_turn (c : Addr) (t r : Int) : valV (penL c t r) kTurn = some (.int t) := (valV_neg (p := (kCells, V.ref c)) k12).trans (valV_pos (p := (kTurn, V.int t)) rfl)
theorem penL_rest (c : Addr) (t r : Int) : valV (penL c t r) kRest = some (.int r) :=
  ((valV_neg (p := (kCells, V.ref c)) k13).trans (valV_neg (p := (kTurn, V.int t)) k23)).trans (valV_pos (p := (kRest, V.int r)) rfl)
theorem put_turn (c : Addr) (t r y : Int) : putK (penL c t r) kTurn (.int y) = penL c y r := by
  unfold putK penL
  rw [if_pos (by simp)]
  simp only [List.map_cons, List.map_nil]
  rw [if_neg k12, if_pos trivial, if_neg fun z => k23 z.symm]
theorem put_rest (c : Addr) (t r y : Int) : putK (penL c t r) kRest (.int y) = penL c t y := by
  unfold putK penL
  rw [if_pos (by simp)]
  simp only [List.map_cons, List.map_nil]
  rw [if_neg k13, if_neg k23, if_pos trivial]
/-- at most n draws were made; the cells stand at c -/
structure PenAt (H : Hp) (p c : Addr) (n : Nat) : Prop where
  ex : ∃ (ns : List Int) (t r : Int), H p = some (.dK (penL c t r)) ∧ H c = some (.lst (ns.map V.int)) ∧ ns.length ≤ 63 ∧ 0 ≤ t ∧ t ≤ n
theorem PenAt.mono {H : Hp} {p c : Addr} {n m : Nat} (h : PenAt H p c n) (k : n ≤ m) : PenAt H p c m := let ⟨⟨ns, t, r, a, b, d, e, f⟩⟩ := h; ⟨⟨ns, t, r, a, b, d, e, by omega⟩⟩
theorem PenAt.ne {H : Hp} {p c : Addr} {n : Nat} (h : PenAt H p c n) : c ≠ p := let ⟨⟨_, _, _, a, b, _⟩⟩ := h; ne_of b a (fun z => nomatch z)
theorem penAt_of {H : Hp} {p c : Addr} {n : Nat} {kvs : List (Key × V)} {ns : List Int} {t r : Int} (e : kvs = penL c t r) (h : H p = some (.dK kvs)) (hc : H c = some (.lst (ns.map V.int))) (hl : ns.length ≤ 63) (h0 : 0 ≤ t) (h1 : t ≤ n) : PenAt H p c n :=
  ⟨⟨ns, t, r, e ▸ h, hc, hl, h0, h1⟩⟩
/-- all that was tracked is as it was, but the pen -/
def SameP (p : Addr) (H H' : Hp) : Prop := ∀ b o, b ≠ p → H b = some o → H' b = some o
theorem SameP.refl (p : Addr) (H : Hp) : SameP p H H := fun _ _ _ h => h
theorem SameP.trans {p : Addr} {H H1 H2 : Hp} (a : SameP p H H1) (b : SameP p H1 H2) : SameP p H H2 := fun c o n h => b c o n (a c o n h)
theorem SameP.of {p : Addr} {H H' : Hp} (a : Same H H') : SameP p H H' := fun c o _ h => a c o h
theorem same_new {H : Hp} {q : Addr} {o : HO} (h : H q = none) : Same H (upd H q o) := fun b x e => by rw [upd_ne (ne_of_none e h)]; exact e
theorem SameP.new {p : Addr} {H : Hp} {q : Addr} {o : HO} (h : H q = none) : SameP p H (upd H q o) := .of (same_new h)
theorem SameP.pen {p : Addr} {H : Hp} {o : HO} : SameP p H (upd H p o) := fun b x n e => by rw [upd_ne n]; exact e
theorem PenAt.same {H H' : Hp} {p c : Addr} {n : Nat} (h : PenAt H p c n) (s : Same H H') : PenAt H' p c n := let ⟨⟨ns, t, r, a, b, d, e, f⟩⟩ := h; ⟨⟨ns, t, r, s _ _ a, s _ _ b, d, e, f⟩⟩

/-! ### the draw's numbers -/
theorem mod_lo (a : Int) {b : Int} (h : 0 < b) : 0 ≤ a % b := Int.emod_nonneg a (by omega)
theorem mod_hi (a : Int) {b : Int} (h : 0 < b) : a % b < b := Int.emod_lt_of_pos a h
def primesL : List Int := [2147483629, 2147483647, 2147483563, 2147483587, 2147483579]
theorem prime_at (t : Int) : ∃ q : Int, atI (primesL.map V.int) (t % 5) = some (.int q) ∧ 0 < q ∧ q < 2147483648 := by
  have h1 := mod_lo t (b := 5) (by decide)
  have h2 := mod_hi t (b := 5) (by decide)
  have h3 : t % 5 = 0 ∨ t % 5 = 1 ∨ t % 5 = 2 ∨ t % 5 = 3 ∨ t % 5 = 4 := by omega
  rcases h3 with e | e | e | e | e <;> rw [e]
  · exact ⟨2147483629, rfl, by decide, by decide⟩
  · exact ⟨2147483647, rfl, by decide, by decide⟩
  · exact ⟨2147483563, rfl, by decide, by decide⟩
  · exact ⟨2147483587, rfl, by decide, by decide⟩
  · exact ⟨2147483579, rfl, by decide, by decide⟩
theorem cmul_l {i j : Int} (h0 : 0 ≤ i) (h1 : i ≤ 10 ^ 19) : CMul i j := .inl ⟨by omega, by
  have h : (10 : Int) ^ 19 < 2 ^ 64 := by decide
  exact Int.lt_of_le_of_lt h1 h⟩

/-! ### lists of ints as data -/
theorem dp_ints (K : PySem.W.Frag) (H : Hp) : ∀ ns : List Int, DpAll K H (ns.map V.int) (ns.map PyData.int)
  | [] => .nil
  | n :: r => .cons (.int n) (dp_ints K H r)
theorem lay_ints : ∀ ns : List Int, PyData.canLayAll0 (ns.map PyData.int) = true
  | [] => by simp only [List.map_nil, PyData.canLayAll0]
  | n :: r => by simp only [List.map_cons, PyData.canLayAll0, PyData.canLay0, lay_ints r, Bool.and_self]
theorem depth_ints : ∀ ns : List Int, PyData.depthAll (ns.map PyData.int) = 0
  | [] => by simp only [List.map_nil, PyData.depthAll]
  | n :: r => by simp only [List.map_cons, PyData.depthAll, PyData.depth, depth_ints r, Nat.max_self]
theorem shaped_ints (ns : List Int) : SeqAt.shaped (.list (ns.map PyData.int)) = true := by
  unfold SeqAt.shaped
  simp only [PyData.canLay0, lay_ints, PyData.depth, depth_ints]
  decide
theorem eqv_nil (ds : List PyData) : PyData.eqv (.list ds) (.list []) = ds.isEmpty := by
  cases ds <;> simp only [PyData.eqv, PyData.eqvAll, List.isEmpty]

section
variable {P : Program} {w : World} {K : PySem.W.Frag} {mg : Str → Option Value} {base : Heap}
/-- a number below size is drawn; nothing but the pen is touched -/
def spDraw : Sp := fun vs H Q _ => ∃ (p c : Addr) (n : Nat) (size : Int), vs = [.ref p, .int size] ∧ PenAt H p c n ∧ n ≤ 1000000000 ∧ 0 < size ∧ size < 1073741824 ∧
  ∀ (d : Int) (H' : Hp), 0 ≤ d → d < size → SameP p H H' → PenAt H' p c (n + 1) → Q (.int d) H'
theorem ok_draw {f : Addr} {fd : FuncData} {k : Nat} (F : Fun K "_law_draw" "_law_draw" sDraw f fd) (ml : mg "len" = none) (ma : mg "abs" = none) : FnOk P w K mg base CX0 (k + 1) f fd ["pen", "size"] spDraw := by
  refine F.ok scDraw (fun vs H Q E h => ?_) (fun cdv A outer s H vs Q E hr h => ?_)
  · obtain ⟨p, c, n, size, rfl, _⟩ := h
    rfl
  · obtain ⟨p, c, n, size, rfl, ⟨⟨ns, t, r, hp, hc, hlen, t0, tn⟩⟩, hn, s0, s1, q⟩ := h
    have hu := hu_of hr
    have hcp : c ≠ p := ne_of hc hp (fun z => nomatch z)
    refine ⟨_, pss_cons (ps_if (pt_cmpR op_gt (pe_dget hu (pv 0) pe_str (fun _ _ => rfl)) pe_int (nomark _))
        (pss_cons (ps_set (i := 2) scDraw.nd rfl (.inl rfl) (pe_op op_mod (pe_dget hu (pv 0) pe_str (fun _ _ => rfl)) (pv 1)))
        (pss_cons (ps_dput hu (pv 0) pe_str (pe_op op_fdiv (pe_dget hu (pv 0) pe_str (fun _ _ => rfl)) (pv 1)) rfl)
        (pss_one (ps_ret (pv 2))))) pss_nil)
      (pss_cons (ps_set (i := 3) scDraw.nd rfl (.inl rfl) (pe_dget hu (pv 0) pe_str (fun _ _ => rfl)))
      (pss_cons (ps_dput hu (pv 0) pe_str (pe_op op_add (pv 3) pe_int) rfl)
      (pss_cons (ps_set (i := 4) scDraw.nd rfl (.inl rfl) (pe_op op_add (pe_op op_mul pe_int (pv 3)) pe_int))
      (Evl.pss_cut (ps_if (pt_cmpR (op_neD hr.units) (pe_dget hu (pv 0) pe_str (fun _ _ => rfl)) (pe_lst pa_nil) (nomark _))
        (pss_one (ps_set (i := 4) scDraw.nd rfl (.inl rfl) (pe_ix ix_list (pe_dget hu (pv 0) pe_str (fun _ _ => rfl)) (pe_op op_mod (pv 3) (pe_callB call_len_seq (by rfl) ml PySem.boot_len (pa_cons (pe_dget hu (pv 0) pe_str (fun _ _ => rfl)) pa_nil))) (fun _ _ => rfl)))) pss_nil)
      (Evl.pss_cut (ps_if (PW.pt (pw_and (pt_cmpR op_lt (pv 3) (pe_callB call_len_seq (by rfl) ml PySem.boot_len (pa_cons (pe_dget hu (pv 0) pe_str (fun _ _ => rfl)) pa_nil)) (nomark _))
            (pw_and1 (pt_cmpR op_ge (pe_callB call_abs (by rfl) ma (by decide +kernel) (pa_cons (pv 4) pa_nil)) (pe_op op_pow pe_int pe_int) (nomark _)))))
          (pss_cons (ps_dput hu (pv 0) pe_str (pe_op op_fdiv (pe_op op_sub (pe_callB call_abs (by rfl) ma (by decide +kernel) (pa_cons (pv 4) pa_nil)) (pe_op op_pow pe_int pe_int)) (pv 1)) rfl)
          (pss_one (ps_ret (pe_op op_mod (pe_op op_sub (pe_callB call_abs (by rfl) ma (by decide +kernel) (pa_cons (pv 4) pa_nil)) (pe_op op_pow pe_int pe_int)) (pv 1))))) pss_nil)
      (pss_cons (ps_set (i := 5) scDraw.nd rfl (.inl rfl) (pe_lst (pa_cons pe_int (pa_cons pe_int (pa_cons pe_int (pa_cons pe_int (pa_cons pe_int pa_nil)))))))
      (pss_cons (ps_set (i := 6) scDraw.nd rfl (.inl rfl) (pe_ix ix_list (pv 5) (pe_op op_mod (pv 3) pe_int) (fun _ _ => rfl)))
      (pss_cons (ps_set (i := 7) scDraw.nd rfl (.inl rfl) (pe_op op_mod (pe_op op_add (pe_op op_add (pe_op op_add (pe_op op_mul (pe_op op_mod (pv 4) pe_int) pe_int) (pe_op op_mul (pe_op op_mul pe_int (pv 3)) (pv 3))) (pe_op op_mul pe_int (pv 3))) pe_int) (pv 6)))
      (pss_cons (ps_set (i := 7) scDraw.nd rfl (.inl rfl) (pe_op op_mod (pe_op op_add (pe_op op_add (pe_op op_add (pe_op op_mul (pv 7) (pv 7)) (pe_op op_mul pe_int (pv 7))) (pe_op op_mul pe_int (pv 3))) pe_int) pe_int))
      (pss_one (ps_ret (pe_op op_mod (pe_op op_fdiv (pe_op op_mod (pe_op op_mul (pv 7) (pe_op op_add (pv 7) pe_int)) pe_int) pe_int) (pv 1))))))))))))), ?_⟩
    -- if pen['rest'] > 0
    refine ⟨_, rfl, p, _, rfl, penL_rest c t r ▸ DGet.k (k := kRest) hp, r, 0, rfl, rfl, _, rfl, ite2 (fun _ => ?_) (fun _ => ?_)⟩
    · refine ⟨_, rfl, p, _, rfl, penL_rest c t r ▸ DGet.k (k := kRest) hp, _, rfl, r, size, rfl, rfl, s0, ?_⟩
      refine ⟨_, rfl, p, _, rfl, penL_rest c t r ▸ DGet.k (k := kRest) hp, _, rfl, r, size, rfl, rfl, ⟨s0, s1⟩, _, rfl, p, _, rfl, DPut.k (k := kRest) hp (by show 3 < sizeLine; decide), ?_⟩
      exact ⟨_, rfl, q _ _ (mod_lo r s0) (mod_hi r s0) SameP.pen (penAt_of (put_rest c t r _) upd_same ((upd_ne hcp).trans hc) hlen t0 (by omega))⟩
    -- turn = pen['turn']; pen['turn'] = turn + 1; cell = 61 * turn + 17
    · refine ⟨_, rfl, p, _, rfl, penL_turn c t r ▸ DGet.k (k := kTurn) hp, ?_⟩
      refine ⟨_, rfl, _, _, rfl, rfl, _, rfl, p, _, rfl, DPut.k (k := kTurn) hp (by show 3 < sizeLine; decide), ?_⟩
      rw [put_turn]
      generalize hH1 : upd H p (.dK (penL c (t + 1) r)) = H1
      have p1 : H1 p = some (.dK (penL c (t + 1) r)) := by rw [← hH1, upd_same]
      have c1 : H1 c = some (.lst (ns.map V.int)) := by rw [← hH1, upd_ne hcp]; exact hc
      have sm : SameP p H H1 := by rw [← hH1]; exact SameP.pen
      refine ⟨_, rfl, _, _, rfl, rfl, .inl ⟨by decide, by decide⟩, _, _, rfl, rfl, ?_⟩
      -- if pen['cells'] != []
      refine ⟨fun σ H2 => ∃ cell : Int, σ = [some (.ref p), some (.int size), none, some (.int t), some (.int cell), none, none, none] ∧ Same H1 H2, ?_, ?_⟩
      · refine ⟨_, rfl, p, _, rfl, penL_cells c (t + 1) r ▸ DGet.k (k := kCells) p1, by show 0 ≤ sizeLine; decide, fun l hl => ?_⟩
        have sl : Same H1 (upd H1 l (.lst [])) := same_new hl
        have c2 := sl _ _ c1
        have p2 := sl _ _ p1
        refine ⟨.list (ns.map PyData.int), .list [], .lst (.inl (.inl c2)) (dp_ints K _ ns), .lst (.inl (.inl upd_same)) .nil, shaped_ints ns, shaped_ints [], _, rfl, ?_⟩
        rw [eqv_nil]
        cases ns with
        | nil => exact iteF ⟨_, rfl, sl⟩
        | cons n0 nr =>
          refine iteT ?_
          have lp : (0 : Int) < (((n0 :: nr).map V.int).length : Int) := by simp
          obtain ⟨j, hj⟩ : ∃ j : Nat, t % (((n0 :: nr).map V.int).length : Int) = (j : Int) := ⟨(t % (((n0 :: nr).map V.int).length : Int)).toNat, by have := mod_lo t lp; omega⟩
          have hjl : j < (n0 :: nr).length := by
            have h2 := mod_hi t lp
            rw [hj, List.length_map] at h2
            omega
          refine ⟨_, rfl, p, _, rfl, penL_cells c (t + 1) r ▸ DGet.k (k := kCells) p2, _, rfl, _, rfl, p, _, rfl, penL_cells c (t + 1) r ▸ DGet.k (k := kCells) p2, c, _, rfl, .inl (.inl (.inl c2)), t, _, rfl, rfl, lp, ?_⟩
          refine ⟨c, _, _, .int (n0 :: nr)[j], rfl, rfl, .inl (.inl c2), ?_, ⟨_, rfl, sl⟩⟩
          rw [hj]
          refine atI_nat ?_
          rw [List.getElem?_map, List.getElem?_eq_getElem hjl]
          rfl
      · -- if turn < len(cells) and abs(cell) >= 10 ** 18
        rintro σ H2 ⟨cell, rfl, s2⟩
        have c2 := s2 _ _ c1
        have p2 := s2 _ _ p1
        have sm2 : SameP p H H2 := sm.trans (.of s2)
        refine ⟨fun σ H3 => σ = [some (.ref p), some (.int size), none, some (.int t), some (.int cell), none, none, none] ∧ H3 = H2, ?_, ?_⟩
        · refine ⟨_, rfl, _, rfl, p, _, rfl, penL_cells c (t + 1) r ▸ DGet.k (k := kCells) p2, c, _, rfl, .inl (.inl (.inl c2)), _, _, rfl, rfl, _, rfl, ite2 (fun _ => ?_) (fun _ => iteF ⟨rfl, rfl⟩)⟩
          refine ⟨_, rfl, _, rfl, _, _, rfl, rfl, ⟨by decide, by decide, by decide⟩, _, _, rfl, rfl, _, rfl, ite2 (fun _ => ?_) (fun _ => ⟨rfl, rfl⟩)⟩
          refine ⟨_, rfl, _, rfl, _, _, rfl, rfl, ⟨by decide, by decide, by decide⟩, _, _, rfl, rfl, _, rfl, _, _, rfl, rfl, ⟨s0, s1⟩, _, rfl, p, _, rfl, DPut.k (k := kRest) p2 (by show 3 < sizeLine; decide), ?_⟩
          refine ⟨_, rfl, _, rfl, _, _, rfl, rfl, ⟨by decide, by decide, by decide⟩, _, _, rfl, rfl, _, rfl, _, _, rfl, rfl, s0, ?_⟩
          exact q _ _ (mod_lo _ s0) (mod_hi _ s0) (sm2.trans SameP.pen) (penAt_of (put_rest c (t + 1) r _) upd_same ((upd_ne hcp).trans c2) hlen (by omega) (by omega))
        · rintro σ H3 ⟨rfl, rfl⟩
          -- primes, prime
          refine ⟨by show 5 ≤ sizeLine; decide, fun l hl => ?_⟩
          have sl : Same H3 (upd H3 l (.lst (primesL.map V.int))) := same_new hl
          obtain ⟨pr, hpr, pr0, pr1⟩ := prime_at t
          refine ⟨_, rfl, _, rfl, t, 5, rfl, rfl, (by show (0 : Int) < 5; decide), l, primesL.map V.int, _, _, rfl, rfl, .inl (.inl upd_same), hpr, ?_⟩
          -- mixed
          have tb : t ≤ 1000000000 := by omega
          have m1 := mod_lo cell (b := 4294967291) (by decide)
          have m2 := mod_hi cell (b := 4294967291) (by decide)
          refine ⟨_, rfl, _, _, rfl, rfl, (by show (0 : Int) < 4294967291; decide), _, _, rfl, rfl, cmul_l m1 (by omega), _, rfl, _, _, rfl, rfl, cmul_l (by decide) (by decide), _, rfl, _, _, rfl, rfl, cmul_l (by omega) (by omega), _, _, rfl, rfl,
            _, rfl, _, _, rfl, rfl, cmul_l (by decide) (by decide), _, _, rfl, rfl, _, _, rfl, rfl, _, rfl, _, _, rfl, rfl, pr0, ?_⟩
          have lt1 : ∀ a : Int, a % pr ≤ 10 ^ 19 := fun a => Int.le_trans (Int.le_of_lt (mod_hi a pr0)) (by omega)
          have lt2 : ∀ a : Int, a % 4294967279 ≤ 10 ^ 19 := fun a => Int.le_trans (Int.le_of_lt (mod_hi a (by decide))) (by decide)
          refine ⟨_, rfl, _, rfl, _, _, rfl, rfl, cmul_l (mod_lo _ pr0) (lt1 _), _, rfl, _, _, rfl, rfl, cmul_l (by decide) (by decide), _, _, rfl, rfl, _, rfl, _, _, rfl, rfl, cmul_l (by decide) (by decide), _, _, rfl, rfl, _, _, rfl, rfl,
            _, _, rfl, rfl, (by show (0 : Int) < 4294967279; decide), ?_⟩
          refine ⟨_, rfl, _, rfl, _, _, rfl, rfl, _, _, rfl, rfl, cmul_l (mod_lo _ (by decide)) (lt2 _), _, _, rfl, rfl, (by show (0 : Int) < 4294967231; decide), _, _, rfl, rfl, ⟨by decide, by decide⟩, _, rfl, _, _, rfl, rfl, s0, ?_⟩
          exact q _ _ (mod_lo _ s0) (mod_hi _ s0) (sm2.trans (.of sl)) (penAt_of (t := t + 1) (r := r) rfl (sl _ _ p2) (sl _ _ c2) hlen (by omega) (by omega))
end
/-! ### what stays when a pen draws -/
theorem sameP_ne {p c : Addr} {H : Hp} {n : Nat} (g : PenAt H p c n) {a : Addr} {o : HO} (e : H a = some o) (h : ∀ kvs, o ≠ .dK kvs) : a ≠ p := by
  obtain ⟨⟨_, _, _, hp, _⟩⟩ := g
  rintro rfl
  rw [e] at hp
  exact h _ (Option.some.inj hp)
section
variable {K : PySem.W.Frag} {H H' : Hp} {p c : Addr} {n : Nat}
theorem SameP.lst (s : SameP p H H') (g : PenAt H p c n) {a : Addr} {xs : List V} (e : H a = some (.lst xs)) : H' a = some (.lst xs) := s _ _ (sameP_ne g e fun _ z => nomatch z) e
theorem SameP.tup (s : SameP p H H') (g : PenAt H p c n) {a : Addr} {xs : List V} (e : H a = some (.tup xs)) : H' a = some (.tup xs) := s _ _ (sameP_ne g e fun _ z => nomatch z) e
theorem SameP.sqL (s : SameP p H H') (g : PenAt H p c n) {a : Addr} {xs : List V} (e : SqL K H a xs) : SqL K H' a xs := by
  rcases e with (e | ⟨o, e⟩) | e
  · exact .inl (.inl (s.lst g e))
  · exact .inl (.inr ⟨o, s _ _ (sameP_ne g e fun _ z => nomatch z) e⟩)
  · exact .inr e
theorem SameP.sqT (s : SameP p H H') (g : PenAt H p c n) {a : Addr} {xs : List V} (e : SqT K H a xs) : SqT K H' a xs := by
  rcases e with (e | ⟨o, e⟩) | e
  · exact .inl (.inl (s.tup g e))
  · exact .inl (.inr ⟨o, s _ _ (sameP_ne g e fun _ z => nomatch z) e⟩)
  · exact .inr e
/-- lists and tuples that were read are read so again -/
structure Keeps (K : PySem.W.Frag) (H H' : Hp) : Prop where
  l : ∀ a xs, SqL K H a xs → SqL K H' a xs
  t : ∀ a xs, SqT K H a xs → SqT K H' a xs
theorem SameP.keeps (s : SameP p H H') (g : PenAt H p c n) : Keeps K H H' := ⟨fun _ _ e => s.sqL g e, fun _ _ e => s.sqT g e⟩
theorem _root_.L2.Same.keeps (s : Same H H') : Keeps K H H' := ⟨fun _ _ e => s.seq e, fun a xs e => by
  rcases e with (e | ⟨o, e⟩) | e
  · exact .inl (.inl (s _ _ e))
  · exact .inl (.inr ⟨o, s _ _ e⟩)
  · exact .inr e⟩
mutual
theorem dp_keep (s : Keeps K H H') : ∀ (d : PyData) (v : V), Dp K H v d → Dp K H' v d
  | .none, _, h => by cases h; exact .non
  | .bool _, _, h => by cases h; exact .bl _
  | .int _, _, h => by cases h; exact .int _
  | .str _, _, h => by cases h; exact .str _
  | .list ds, _, h => by
    cases h with
    | lst a b => exact .lst (s.l _ _ a) (dp_keepAll s ds _ b)
  | .tuple ds, _, h => by
    cases h with
    | tup a b => exact .tup (s.t _ _ a) (dp_keepAll s ds _ b)
  | .dict _, _, h => by cases h
theorem dp_keepAll (s : Keeps K H H') : ∀ (ds : List PyData) (vs : List V), DpAll K H vs ds → DpAll K H' vs ds
  | [], _, h => by cases h; exact .nil
  | d :: ds, _, h => by
    cases h with
    | cons a b => exact .cons (dp_keep s d _ a) (dp_keepAll s ds _ b)
end
/-- a list, a tuple, a text, by its items -/
inductive SeqOf (K : PySem.W.Frag) (H : Hp) : V → List V → Prop
  | lst {a : Addr} {xs : List V} : SqL K H a xs → SeqOf K H (.ref a) xs
  | tup {a : Addr} {xs : List V} : SqT K H a xs → SeqOf K H (.ref a) xs
  | str {z : Str} : z.length ≤ sizeLine → SeqOf K H (.str z) (z.cps.toList.map fun c => .str ⟨#[c]⟩)
theorem SeqOf.keep (s : Keeps K H H') {x : V} {xs : List V} (h : SeqOf K H x xs) : SeqOf K H' x xs := by
  cases h with
  | lst e => exact .lst (s.l _ _ e)
  | tup e => exact .tup (s.t _ _ e)
  | str e => exact .str e
theorem SeqOf.len {x : V} {xs : List V} (h : SeqOf K H x xs) : LenV K x H xs.length := by
  cases h with
  | lst e => exact .inl ⟨_, e, rfl⟩
  | tup e => exact .inr ⟨_, e, rfl⟩
  | @str z e =>
    refine ⟨e, ?_⟩
    rw [List.length_map, Array.length_toList]
    rfl
theorem SeqOf.ix {x : V} {xs : List V} (h : SeqOf K H x xs) {i : Nat} {v : V} (hi : xs[i]? = some v) {Q : VK} (q : Q v H) : rIx K x (.int i) H Q := by
  cases h with
  | lst e => exact .inl ⟨_, _, _, _, rfl, rfl, e, atI_nat hi, q⟩
  | tup e => exact .inr (.inl ⟨_, _, _, _, rfl, rfl, e, atI_nat hi, q⟩)
  | @str z e =>
    rw [List.getElem?_map] at hi
    obtain ⟨cd, h1, rfl⟩ := Option.map_eq_some_iff.mp hi
    exact .inr (.inr ⟨_, _, _, rfl, rfl, e, atI_nat h1, q⟩)
end

section
variable {P : Program} {w : World} {K : PySem.W.Frag} {mg : Str → Option Value} {base : Heap}
/-- one of the options -/
def spPick (K : PySem.W.Frag) : Sp := fun vs H Q _ => ∃ (p c : Addr) (n : Nat) (o : V) (xs : List V), vs = [.ref p, o] ∧ PenAt H p c n ∧ n ≤ 1000000000 ∧ SeqOf K H o xs ∧ 0 < xs.length ∧ xs.length < 1073741824 ∧
  ∀ (i : Nat) (v : V) (H' : Hp), xs[i]? = some v → SameP p H H' → PenAt H' p c (n + 1) → Q v H'
theorem ok_pick {f fD : Addr} {fd fdD : FuncData} {k : Nat} (F : Fun K "_law_pick" "_law_pick" sPick f fd) (ml : mg "len" = none) (GD : FnOk P w K mg base CX0 k fD fdD ["pen", "size"] spDraw) (gD : mg "_law_draw" = some (.ref fD)) (kD : PySem.W.keepIn K (.ref fD) = true)
    (bD : Binds K fdD ["pen", "size"] []) : FnOk P w K mg base CX0 (k + 1) f fd ["pen", "options"] (spPick K) := by
  refine F.ok scPick (fun vs H Q E h => ?_) (fun cdv A outer s H vs Q E hr h => ?_)
  · obtain ⟨p, c, n, o, xs, rfl, _⟩ := h
    rfl
  · obtain ⟨p, c, n, o, xs, rfl, G, hn, hx, h0, h1, q⟩ := h
    refine ⟨_, pss_one (ps_ret (pe_ix ix_seq (pv 1) (pe_call GD hr (by rfl) gD kD bD .nil pass0 (pa_cons (pv 0) (pa_cons (pe_callB call_len (by rfl) ml PySem.boot_len (pa_cons (pv 1) pa_nil)) pa_nil))) (fun _ _ => rfl))), ?_⟩
    refine ⟨_, rfl, _, rfl, _, rfl, o, xs.length, rfl, hx.len, p, c, n, _, rfl, G, hn, by omega, by omega, fun d H' d0 d1 s G' => ?_⟩
    obtain ⟨i, rfl⟩ : ∃ i : Nat, d = (i : Int) := ⟨d.toNat, by omega⟩
    have hi : i < xs.length := by omega
    exact SeqOf.ix (hx.keep (s.keeps G)) (List.getElem?_eq_getElem hi) (q i _ H' (List.getElem?_eq_getElem hi) s G')
end
end My
set_option Elab.async false
set_option linter.all false
set_option maxRecDepth 100000
set_option maxHeartbeats 4000000
/-! xs != [], t != (), == likewise, whatever the items are. -/
namespace My
open PySem PySem.Spec PyProof.Rows L2 SeqAt
section
variable {X : Cx}
/-- a list beside an empty list, a tuple beside an empty tuple -/
def rNil (K : PySem.W.Frag) (f : Bool → Bool) : R2 := fun x y H Q => ∃ a b xs, x = .ref a ∧ y = .ref b ∧ ((SqL K H a xs ∧ SqL K H b []) ∨ (SqT K H a xs ∧ SqT K H b [])) ∧ Q (.bl (f xs.isEmpty)) H
theorem vals_nil {its : List Value} (r : Vals [] its) : its = [] := by cases r; rfl
theorem vals_emp {xs : List V} {its : List Value} (r : Vals xs its) : (its.toArray.size == 0) = xs.isEmpty := by
  cases r <;> rfl
theorem op_neNil (hu : X.A.units + 64 < cLine) : OpR X (compareOp .NotEq) (rNil X.K not) := by
  intro pins s σ H x y v u Q I rx ry h
  obtain ⟨a, b, xs, rfl, rfl, h, q⟩ := h
  cases rx
  cases ry
  rcases h with ⟨ha, hb⟩ | ⟨ha, hb⟩
  · obtain ⟨its, rv, ⟨o, n, ho, hc, _, hd⟩, _⟩ := I.list ha
    obtain ⟨its2, rv2, ⟨o2, n2, ho2, hc2, _, hd2⟩, _⟩ := I.list hb
    cases vals_nil rv2
    have l1 : s.heap.IsList a its.toArray := ⟨o, ho, hc, n, hd⟩
    have l2 : s.heap.IsList b #[] := ⟨o2, ho2, hc2, n2, hd2⟩
    cases rv with
    | nil => exact RcNeAt.lists (e := fun _ => true) l1 l2 rfl (by omega) (fun j h1 => absurd h1 (Nat.not_lt_zero j)) _ _ _ _ ⟨.bl _, H, I, rfl, q⟩
    | cons r t => exact RcNeAt.lists_lengths l1 l2 (by simp) (by omega) _ _ _ _ ⟨.bl _, H, I, rfl, q⟩
  · obtain ⟨its, rv, ⟨o, ho, hc, n, hd⟩, _⟩ := I.tuple ha
    obtain ⟨its2, rv2, ⟨o2, ho2, hc2, n2, hd2⟩, _⟩ := I.tuple hb
    cases vals_nil rv2
    have l1 : s.heap.IsTuple a its.toArray := ⟨o, ho, hc, n, hd⟩
    have l2 : s.heap.IsTuple b #[] := ⟨o2, ho2, hc2, n2, hd2⟩
    refine RcNeAt.tuples (e := fun _ => true) l1 l2 (by omega) (fun j _ h2 => absurd h2 (Nat.not_lt_zero j)) _ _ _ _ ?_
    rw [show min its.toArray.size (#[] : Array Value).size = 0 from Nat.min_zero _]
    refine ⟨.bl (!xs.isEmpty), H, I, ?_, q⟩
    show Value.bool _ = Value.bool _
    rw [← vals_emp rv]
    simp
end
end My
set_option Elab.async false
set_option linter.all false
set_option maxRecDepth 100000
set_option maxHeartbeats 4000000
namespace My
open PySem PySem.Spec PyProof.Rows L2

theorem PenAt.apart {H : Hp} {p c a : Addr} {n : Nat} (G : PenAt H p c n) (h : H a = none) : c ≠ a := let ⟨⟨_, _, _, _, hc, _⟩⟩ := G; ne_of_none hc h
theorem PenAt.apart' {H : Hp} {p c a : Addr} {n : Nat} (G : PenAt H p c n) (h : H a = none) : p ≠ a := let ⟨⟨_, _, _, hp, _⟩⟩ := G; ne_of_none hp h
theorem PenAt.upd {H : Hp} {p c a : Addr} {n : Nat} {o : HO} (G : PenAt H p c n) (h : p ≠ a) (k : c ≠ a) : PenAt (upd H a o) p c n :=
  let ⟨⟨ns, t, r, hp, hc, e⟩⟩ := G; ⟨⟨ns, t, r, (upd_ne h).trans hp, (upd_ne k).trans hc, e⟩⟩
theorem SameP.free {H H' : Hp} {p c a : Addr} {n : Nat} (s : SameP p H H') (G : PenAt H' p c n) (h : H' a = none) : H a = none := by
  cases e : H a with
  | none => rfl
  | some o => rw [s a o (Ne.symm (G.apart' h)) e] at h; cases h
theorem perm_erase {α : Type} : ∀ (xs : List α) (i : Nat) (h : i < xs.length), (xs[i] :: xs.eraseIdx i).Perm xs
  | x :: r, 0, _ => .refl _
  | x :: r, i + 1, h => ((List.Perm.swap x (r[i]'(Nat.lt_of_succ_lt_succ h)) (r.eraseIdx i)).trans ((perm_erase r i (Nat.lt_of_succ_lt_succ h)).cons x))

section
variable {P : Program} {w : World} {K : PySem.W.Frag} {mg : Str → Option Value} {base : Heap}
/-- a new list of the same things in some order -/
def spShuf (K : PySem.W.Frag) : Sp := fun vs H Q _ => ∃ (p c a : Addr) (n : Nat) (xs : List V), vs = [.ref p, .ref a] ∧ PenAt H p c n ∧ n ≤ 900000000 ∧ SeqOf K H (.ref a) xs ∧ xs.length ≤ 100000 ∧
  ∀ (l : Addr) (ys : List V) (H' : Hp), ys.Perm xs → H l = none → H' l = some (.lst ys) → SameP p H H' → PenAt H' p c (n + xs.length) → Q (.ref l) H'
theorem ok_shuf {f fD : Addr} {fd fdD : FuncData} {k : Nat} (F : Fun K "_law_shuffled" "_law_shuffled" sShuf f fd) (ml : mg "len" = none) (mli : mg "list" = none) (GD : FnOk P w K mg base CX0 k fD fdD ["pen", "size"] spDraw) (gD : mg "_law_draw" = some (.ref fD)) (kD : PySem.W.keepIn K (.ref fD) = true)
    (bD : Binds K fdD ["pen", "size"] []) : FnOk P w K mg base CX0 (k + 1) f fd ["pen", "some"] (spShuf K) := by
  refine F.ok scShuf (fun vs H Q E h => ?_) (fun cdv A outer s H vs Q E hr h => ?_)
  · obtain ⟨p, c, a, n, xs, rfl, _⟩ := h
    rfl
  · obtain ⟨p, c, a, n, xs, rfl, G, hn, hx, h1, q⟩ := h
    refine ⟨_, pss_cons (ps_par (i := 2) (j := 3) (by rfl) scShuf.nd rfl rfl (by decide) rfl rfl (pa_cons (pe_callTy call_list_of (by rfl) mli (by decide +kernel) (pa_cons (pv 1) pa_nil)) (pa_cons (pe_lst pa_nil) pa_nil)) (by rfl))
      (pss_cons (ps_while PassesOwn.never (pt_cmpR (op_neNil hr.units) (pv 2) (pe_lst pa_nil) (nomark _))
        (pss_one (ps_expr (pe_bm PySem.F.plainAttrs_list PySem.F.slot_list_append PySem.F.type_list_append mt_append (pv 3) (pa_cons
          (pe_bm PySem.F.plainAttrs_list PySem.F.slot_list_pop PySem.F.type_list_pop mt_popAt (pv 2) (pa_cons (pe_call GD hr (by rfl) gD kD bD .nil pass0 (pa_cons (pv 0) (pa_cons (pe_callB call_len_seq (by rfl) ml PySem.boot_len (pa_cons (pv 2) pa_nil)) pa_nil))) pa_nil)) pa_nil)))))
      (pss_one (ps_ret (pv 3)))), ?_⟩
    -- left, found = list(some), []
    have hs : SqL K H a xs ∨ SqT K H a xs := by
      cases hx with
      | lst e => exact .inl e
      | tup e => exact .inr e
    refine ⟨_, rfl, a, xs, rfl, hs, fun l hl => ?_⟩
    refine ⟨by show 0 ≤ sizeLine; decide, fun g hg => ?_⟩
    have nlg : l ≠ g := fun z => by rw [z, upd_same] at hg; cases hg
    have g0 : H g = none := by
      rw [upd_ne (Ne.symm nlg)] at hg
      exact hg
    have s1 : Same H (upd (upd H l (.lst xs)) g (.lst [])) := (same_new hl).trans (same_new hg)
    refine ⟨_, _, rfl, ?_⟩
    -- while left != []
    refine ⟨fun m σ H2 => ∃ (left found : List V), σ = [some (.ref p), some (.ref a), some (.ref l), some (.ref g)] ∧ m = left.length ∧ SameP p H H2 ∧ H2 l = some (.lst left) ∧ H2 g = some (.lst found) ∧ (found ++ left).Perm xs ∧ PenAt H2 p c (n + found.length),
      ⟨_, xs, [], rfl, rfl, .of s1, by rw [upd_ne nlg, upd_same], upd_same, .refl _, G.same s1⟩, fun m σ H2 hW => ?_⟩
    obtain ⟨left, found, rfl, rfl, s2, el, eg, pm, G2⟩ := hW
    have hlen : found.length + left.length = xs.length := by
      have := pm.length_eq
      rwa [List.length_append] at this
    refine ⟨_, rfl, by show 0 ≤ sizeLine; decide, fun e he => ?_⟩
    have se : Same H2 (upd H2 e (.lst [])) := same_new he
    refine ⟨l, e, left, rfl, rfl, .inl ⟨.inl (.inl (se _ _ el)), .inl (.inl upd_same)⟩, _, rfl, ?_⟩
    generalize hH3 : upd H2 e (.lst []) = H3 at se
    have el3 := se _ _ el
    have eg3 := se _ _ eg
    have G3 := G2.same se
    cases left with
    | nil =>
      refine iteF ⟨_, rfl, ?_⟩
      rw [List.append_nil] at pm
      refine q g found H3 pm g0 eg3 (s2.trans (.of se)) (G3.mono ?_)
      rw [pm.length_eq]
      exact Nat.le_refl _
    | cons y0 yr =>
      refine iteT ⟨_, fun _ _ z => z, ?_⟩
      -- found.append(left.pop(draw))
      refine ⟨_, rfl, .inl ⟨rfl, _, .inl (.inl eg3)⟩, _, rfl, .inl ⟨rfl, _, .inl (.inl el3)⟩, _, rfl, _, rfl, l, _, rfl, .inl (.inl (.inl el3)), p, c, _, _, rfl, G3, by omega, by simp, by rw [List.length_cons] at *; omega, fun d H4 d0 d1 s4 G4 => ?_⟩
      obtain ⟨i, rfl⟩ : ∃ i : Nat, d = (i : Int) := ⟨d.toNat, by omega⟩
      have hi : i < (y0 :: yr).length := by omega
      have el4 := s4.lst G3 el3
      have eg4 := s4.lst G3 eg3
      refine ⟨l, _, _, i, (y0 :: yr)[i], rfl, rfl, el4, by omega, by omega, by rw [seqIndex_of (by omega) (by omega)]; rfl, List.getElem?_eq_getElem hi, ?_⟩
      refine ⟨g, found, _, rfl, rfl, by rw [upd_ne (Ne.symm nlg)]; exact eg4, Evl.sz_lt (by omega), ?_⟩
      have lp := sameP_ne G3 el3 fun _ z => nomatch z
      have gp := sameP_ne G3 eg3 fun _ z => nomatch z
      have cl : c ≠ l := G.apart hl
      have cg : c ≠ g := G.apart g0
      refine ⟨_, ?_, (y0 :: yr).eraseIdx i, found ++ [(y0 :: yr)[i]], rfl, rfl, ?_, ?_, upd_same, ?_, ?_⟩
      · rw [List.length_eraseIdx, if_pos hi]
        simp
      · intro b o nb e0
        rw [upd_ne (ne_of_none e0 g0), upd_ne (ne_of_none e0 hl)]
        exact (s2.trans (SameP.of se)).trans s4 b o nb e0
      · rw [upd_ne nlg, upd_same]
      · rw [List.append_assoc]
        exact (List.Perm.append_left found (perm_erase (y0 :: yr) i hi)).trans pm
      · exact ((G4.upd (Ne.symm lp) cl).upd (Ne.symm gp) cg).mono (by rw [List.length_append, List.length_singleton]; omega)
end
end My
set_option Elab.async false
set_option linter.all false
set_option maxRecDepth 100000
set_option maxHeartbeats 4000000
/-! Comprehensions without a test, over a name. -/
namespace My
open PySem PySem.Spec PyProof.Rows L2
section
variable {K : PySem.W.Frag} {te : TE} {vs : List Nat} {σ : L2.St} {H1 : Hp} {D : Addr} {Qd : Hp → Prop} {j : Nat}
def Grows (te : TE) (D : Addr) (Pv : Hp → Prop) (σ : L2.St) (H : Hp) : Prop := te σ H fun y H4 => ∃ acc, H4 D = some (.lst acc) ∧ acc.length < sizeLine ∧ Pv (upd H4 D (.lst (acc ++ [y])))
theorem yes_turn {te : TE} {σ0 σ2 : L2.St} {H : Hp} {vs : List Nat} {R : V → Hp → Prop} {N : Hp → Prop} (a : wipe σ2 vs = wipe σ0 vs) (b : te σ2 H R) : wipe σ2 vs = wipe σ0 vs ∧ tYes σ2 H fun b H3 => if b = true then te σ2 H3 R else N H3 :=
  ⟨a, (if_pos rfl : (if true = true then te σ2 H R else N H) = te σ2 H R).mpr b⟩
def lcN_range {lo : Int} {n : Nat} (Pv : Nat → Hp → Prop) (h0 : Pv 0 (upd H1 D (.lst [])))
    (hs : ∀ i H, i < n → Pv i H → wipe ((wipe σ vs).set j (some (.int (lo + i)))) vs = wipe σ vs ∧ Grows te D (Pv (i + 1)) ((wipe σ vs).set j (some (.int (lo + i)))) H) (hd : ∀ H, Pv n H → Qd H) :=
  lc_range (lo := lo) (n := n) (g := gName j) (tt := tYes) (te := te) (vs := vs) (σ := σ) (H1 := H1) (D := D) (Qd := Qd) Pv h0 (fun i H hi p => yes_turn (hs i H hi p).1 (hs i H hi p).2) hd
def lcN_list {a : Addr} {xs : List V} (Pv : Nat → Hp → Prop) (h0 : Pv 0 (upd H1 D (.lst []))) (hl : ∀ i H, i ≤ xs.length → Pv i H → SqL K H a xs)
    (hs : ∀ i x H, xs[i]? = some x → Pv i H → wipe ((wipe σ vs).set j (some x)) vs = wipe σ vs ∧ Grows te D (Pv (i + 1)) ((wipe σ vs).set j (some x)) H) (hd : ∀ H, Pv xs.length H → Qd H) :=
  lc_list (K := K) (a := a) (xs := xs) (g := gName j) (tt := tYes) (te := te) (vs := vs) (σ := σ) (H1 := H1) (D := D) (Qd := Qd) Pv h0 hl (fun i x H hi p => yes_turn (hs i x H hi p).1 (hs i x H hi p).2) hd
def lcN_tup {a : Addr} {xs : List V} (Pv : Nat → Hp → Prop) (h0 : Pv 0 (upd H1 D (.lst []))) (hl : ∀ i H, i ≤ xs.length → Pv i H → SqT K H a xs)
    (hs : ∀ i x H, xs[i]? = some x → Pv i H → wipe ((wipe σ vs).set j (some x)) vs = wipe σ vs ∧ Grows te D (Pv (i + 1)) ((wipe σ vs).set j (some x)) H) (hd : ∀ H, Pv xs.length H → Qd H) :=
  lc_tup (K := K) (a := a) (xs := xs) (g := gName j) (tt := tYes) (te := te) (vs := vs) (σ := σ) (H1 := H1) (D := D) (Qd := Qd) Pv h0 hl (fun i x H hi p => yes_turn (hs i x H hi p).1 (hs i x H hi p).2) hd
end
end My
set_option Elab.async false
set_option linter.all false
set_option maxRecDepth 100000
set_option maxHeartbeats 4000000
namespace My
open PySem PySem.Spec PyProof.Rows L2

/-! ### a short text some few times -/
def rMulS : R2 := fun x y H Q => ∃ (z : Str) (i : Int), x = .str z ∧ y = .int i ∧ z.length ≤ 1000 ∧ i ≤ 1000 ∧ -1000 ≤ i ∧ Q (.str (Txt.mul z i)) H
theorem mulOk_small {x : Str} {n : Int} (h : x.length ≤ 1000) (h1 : n ≤ 1000) (h2 : -1000 ≤ n) : MulOk x n := by
  refine ⟨?_, fun a _ => ?_, fun a _ => ?_⟩
  · have e1 : decide (n < -(2 ^ 63 : Int)) = false := decide_eq_false (by omega)
    have e2 : decide (n ≥ (2 : Int) ^ 63) = false := decide_eq_false (by omega)
    rw [e1, e2]
    rfl
  · have h3 : (1000 : Int) ≤ (2 ^ 63 - 1) / n := Int.le_ediv_of_mul_le (by omega) (by omega)
    omega
  · have h3 : x.length * n.toNat ≤ 1000 * 1000 := Nat.mul_le_mul h (by omega)
    exact decide_eq_false (Nat.not_lt.mpr (Nat.le_trans h3 (by decide)))
theorem op_mulS {X : Cx} : OpR X (binaryOp .Mult) rMulS := by
  intro pins s σ H x y v u Q I rx ry h
  obtain ⟨z, i, rfl, rfl, h1, h2, h3, q⟩ := h
  obtain ⟨t, rfl⟩ := rx
  obtain ⟨t', rfl⟩ := ry
  exact SB.mul (mulOk_small h1 h2 h3) fun t2 k => ⟨.str _, H, I.tok _, ⟨_, rfl⟩, q⟩

/-! ### names -/
def NameOk (x : Str) : Prop := 1 ≤ x.length ∧ x.length ≤ 8 ∧ ∀ c ∈ x.cps.toList, 97 ≤ c ∧ c ≤ 122
def abc : Str := "abcdefghijklmnopqrstuvwxyz"
theorem abc_codes : abc.cps.toList = (List.range 26).map (97 + ·) := by decide +kernel
theorem abc_len : abc.length = 26 := by decide +kernel
theorem abc_at {j : Nat} (h : j < 26) : abc.cps.toList[j]? = some (97 + j) := by
  rw [abc_codes, List.getElem?_map, List.getElem?_range h]
  rfl
/-- the name at the k-th place -/
def wName (front : Str) (first step k : Nat) : Str := front ++ ⟨#[97 + (first + step * k) % 26]⟩ ++ (if 25 < k then ⟨#[97 + k % 26]⟩ else Str.empty)
theorem wName_codes (front : Str) (first step k : Nat) : (wName front first step k).cps.toList = front.cps.toList ++ [97 + (first + step * k) % 26] ++ (if 25 < k then [97 + k % 26] else []) := by
  unfold wName
  rw [Str.cps_append, Array.toList_append, Str.cps_append, Array.toList_append]
  by_cases h : 25 < k
  · rw [if_pos h, if_pos h]
  · rw [if_neg h, if_neg h]
    rfl
theorem str_len (x : Str) : x.length = x.cps.toList.length := by
  rw [Array.length_toList]
  rfl
theorem wName_ok {front : Str} (hf : front.length ≤ 6) (hc : ∀ c ∈ front.cps.toList, 97 ≤ c ∧ c ≤ 122) (first step k : Nat) : NameOk (wName front first step k) := by
  rw [str_len] at hf
  unfold NameOk
  rw [str_len, wName_codes, List.length_append, List.length_append, List.length_singleton]
  refine ⟨by omega, ?_, fun c h => ?_⟩
  · by_cases h : 25 < k
    · rw [if_pos h, List.length_singleton]
      omega
    · rw [if_neg h, List.length_nil]
      omega
  · rcases List.mem_append.mp h with h | h
    · rcases List.mem_append.mp h with h | h
      · exact hc c h
      · rw [List.mem_singleton.mp h]
        omega
    · by_cases g : 25 < k
      · rw [if_pos g] at h
        rw [List.mem_singleton.mp h]
        omega
      · rw [if_neg g] at h
        cases h
theorem step_inj {first step i j : Nat} (hs : step = 1 ∨ step = 3 ∨ step = 5 ∨ step = 7 ∨ step = 9 ∨ step = 11) (hi : i < 26) (hj : j < 26) (h : (first + step * i) % 26 = (first + step * j) % 26) : i = j := by
  rcases hs with rfl | rfl | rfl | rfl | rfl | rfl <;> omega
theorem wName_inj {front : Str} {first step i j : Nat} (hs : step = 1 ∨ step = 3 ∨ step = 5 ∨ step = 7 ∨ step = 9 ∨ step = 11) (hi : i < 52) (hj : j < 52) (h : wName front first step i = wName front first step j) : i = j := by
  have e : (wName front first step i).cps.toList = (wName front first step j).cps.toList := by rw [h]
  rw [wName_codes, wName_codes, List.append_assoc, List.append_assoc] at e
  have e := List.append_cancel_left e
  by_cases a : 25 < i
  · by_cases b : 25 < j
    · rw [if_pos a, if_pos b] at e
      simp only [List.singleton_append, List.cons.injEq, and_true] at e
      omega
    · rw [if_pos a, if_neg b] at e
      simp at e
  · by_cases b : 25 < j
    · rw [if_neg a, if_pos b] at e
      simp at e
    · rw [if_neg a, if_neg b] at e
      simp only [List.append_nil, List.cons.injEq, and_true] at e
      exact step_inj (first := first) hs (by omega) (by omega) (by omega)
def wNames (front : Str) (first step many : Nat) : List Str := (List.range many).map (wName front first step)
theorem nodup_map_on {α β : Type} {f : α → β} : ∀ {xs : List α}, xs.Nodup → (∀ a ∈ xs, ∀ b ∈ xs, f a = f b → a = b) → (xs.map f).Nodup
  | [], _, _ => List.nodup_nil
  | x :: r, h, g => by
    rw [List.nodup_cons] at h
    rw [List.map_cons, List.nodup_cons]
    refine ⟨fun z => ?_, nodup_map_on h.2 fun a ha b hb => g a (List.mem_cons_of_mem _ ha) b (List.mem_cons_of_mem _ hb)⟩
    obtain ⟨y, hy, e⟩ := List.mem_map.mp z
    have := g y (List.mem_cons_of_mem _ hy) x List.mem_cons_self e
    exact h.1 (this ▸ hy)
theorem wNames_nodup {front : Str} {first step many : Nat} (hs : step = 1 ∨ step = 3 ∨ step = 5 ∨ step = 7 ∨ step = 9 ∨ step = 11) (hm : many ≤ 52) : (wNames front first step many).Nodup :=
  nodup_map_on List.nodup_range fun a ha b hb e => wName_inj hs (Nat.lt_of_lt_of_le (List.mem_range.mp ha) hm) (Nat.lt_of_lt_of_le (List.mem_range.mp hb) hm) e
/-- many names, all different -/
structure Names (xs : List Str) : Prop where
  ok : ∀ x ∈ xs, NameOk x
  nd : xs.Nodup
theorem Names.perm {xs ys : List Str} (h : Names xs) (p : ys.Perm xs) : Names ys := ⟨fun x hx => h.ok x (p.subset hx), p.nodup_iff.mpr h.nd⟩
def unS : V → Str
  | .str z => z
  | _ => Str.empty
theorem perm_strs {ys : List V} {xs : List Str} (p : ys.Perm (xs.map V.str)) : ∃ zs : List Str, ys = zs.map V.str ∧ zs.Perm xs := by
  refine ⟨ys.map unS, ?_, ?_⟩
  · rw [List.map_map]
    have : ∀ v ∈ ys, (V.str ∘ unS) v = v := fun v hv => by
      obtain ⟨x, _, rfl⟩ := List.mem_map.mp (p.subset hv)
      rfl
    rw [List.map_congr_left this, List.map_id']
  · have := p.map unS
    rwa [List.map_map, show (unS ∘ V.str) = id from rfl, List.map_id] at this
def sign (cd : Nat) : Str := ⟨#[cd]⟩
theorem join_signs : ∀ cs : List Nat, (Str.join Str.empty (cs.map sign)).cps.toList = cs
  | [] => rfl
  | [_] => rfl
  | x :: y :: r => by
    have ih := join_signs (y :: r)
    show (sign x ++ Str.empty ++ Str.join Str.empty ((y :: r).map sign)).cps.toList = x :: y :: r
    rw [Str.cps_append, Array.toList_append, ih, Str.cps_append, Array.toList_append]
    rfl
theorem sum_signs : ∀ cs : List Nat, ((cs.map sign).map (·.length)).sum = cs.length
  | [] => rfl
  | x :: r => by
    rw [List.map_cons, List.map_cons, List.sum_cons, sum_signs r, List.length_cons]
    show 1 + r.length = r.length + 1
    omega
theorem signs_V (cs : List Nat) : (cs.map sign).map V.str = cs.map fun cd => V.str (sign cd) := by rw [List.map_map]; rfl
theorem abc_item {i : Nat} {v : V} (h : (abc.cps.toList.map fun cd => V.str ⟨#[cd]⟩)[i]? = some v) : ∃ cd, v = .str (sign cd) ∧ 97 ≤ cd ∧ cd ≤ 122 := by
  rw [abc_codes, List.map_map, List.getElem?_map] at h
  obtain ⟨j, h1, rfl⟩ := Option.map_eq_some_iff.mp h
  have h2 := List.mem_range.mp (List.mem_of_getElem? h1)
  exact ⟨97 + j, rfl, by omega, by omega⟩
theorem steps_item {i : Nat} {v : V} (h : ([.int 1, .int 3, .int 5, .int 7, .int 9, .int 11] : List V)[i]? = some v) : ∃ st : Nat, v = .int (st : Int) ∧ (st = 1 ∨ st = 3 ∨ st = 5 ∨ st = 7 ∨ st = 9 ∨ st = 11) := by
  have := List.mem_of_getElem? h
  simp only [List.mem_cons, List.not_mem_nil, or_false] at this
  rcases this with rfl | rfl | rfl | rfl | rfl | rfl
  · exact ⟨1, rfl, by omega⟩
  · exact ⟨3, rfl, by omega⟩
  · exact ⟨5, rfl, by omega⟩
  · exact ⟨7, rfl, by omega⟩
  · exact ⟨9, rfl, by omega⟩
  · exact ⟨11, rfl, by omega⟩
theorem place_nat (f st k : Nat) : ((f : Int) + (st : Int) * ((0 : Int) + (k : Int))) % 26 = (((f + st * k) % 26 : Nat) : Int) := by
  rw [Int.zero_add, ← Int.natCast_mul]
  omega
theorem mul_sign (cd : Nat) (b : Bool) : Txt.mul (sign cd) (if b then 1 else 0) = if b = true then sign cd else Str.empty := by
  cases b <;> rfl

section
variable {P : Program} {w : World} {K : PySem.W.Frag} {mg : Str → Option Value} {base : Heap}
/-- what the draw, the pick and the shuffling have promised -/
structure Draws (P : Program) (w : World) (K : PySem.W.Frag) (mg : Str → Option Value) (base : Heap) (fD fP fS : Addr) (dD dP dS : FuncData) : Prop where
  oD : FnOk P w K mg base CX0 1 fD dD ["pen", "size"] spDraw
  gD : mg "_law_draw" = some (.ref fD)
  kD : PySem.W.keepIn K (.ref fD) = true
  bD : Binds K dD ["pen", "size"] []
  oP : FnOk P w K mg base CX0 2 fP dP ["pen", "options"] (spPick K)
  gP : mg "_law_pick" = some (.ref fP)
  kP : PySem.W.keepIn K (.ref fP) = true
  bP : Binds K dP ["pen", "options"] []
  oS : FnOk P w K mg base CX0 2 fS dS ["pen", "some"] (spShuf K)
  gS : mg "_law_shuffled" = some (.ref fS)
  kS : PySem.W.keepIn K (.ref fS) = true
  bS : Binds K dS ["pen", "some"] []
/-- a new list of so many different names -/
def spWag (K : PySem.W.Frag) : Sp := fun vs H Q _ => ∃ (p c : Addr) (n many : Nat), vs = [.ref p, .int (many : Int)] ∧ PenAt H p c n ∧ n ≤ 800000000 ∧ many ≤ 52 ∧
  ∀ (l : Addr) (xs : List Str) (H' : Hp), Names xs → xs.length = many → H l = none → H' l = some (.lst (xs.map V.str)) → SameP p H H' → PenAt H' p c (n + 61) → Q (.ref l) H'
/-- .. all of one length, where they are few -/
def spWagL (K : PySem.W.Frag) : Sp := fun vs H Q _ => ∃ (p c : Addr) (n many : Nat), vs = [.ref p, .int (many : Int)] ∧ PenAt H p c n ∧ n ≤ 800000000 ∧ many ≤ 52 ∧
  ∀ (l : Addr) (xs : List Str) (H' : Hp), Names xs → xs.length = many → H l = none → H' l = some (.lst (xs.map V.str)) → SameP p H H' → PenAt H' p c (n + 61) → (many ≤ 26 → ∀ x ∈ xs, ∀ y ∈ xs, x.length = y.length) → Q (.ref l) H'
theorem ok_wagL {f fD fP fS : Addr} {fd dD dP dS : FuncData} (F : Fun K "_law_wagons" "_law_wagons" sWag f fd) (T : Draws P w K mg base fD fP fS dD dP dS) (mr : mg "range" = none) (mi : mg "int" = none) :
    FnOk P w K mg base CX0 3 f fd ["pen", "many"] (spWagL K) := by
  refine F.ok scWag (fun vs H Q E h => ?_) (fun cdv A outer s H vs Q E hr h => ?_)
  · obtain ⟨p, c, n, many, rfl, _⟩ := h
    rfl
  · obtain ⟨p, c, n, many, rfl, G, hn, hm, q⟩ := h
    have hr1 := hr.mono (show 1 ≤ 2 by decide)
    refine ⟨_, pss_cons (ps_set (i := 2) scWag.nd rfl (.inr rfl) pe_str)
      (pss_cons (ps_set (i := 4) scWag.nd rfl (.inl rfl) (pe_join pe_str (pe_lc (own := [("k", 3)]) (g := gName 3) (tt := tYes) rfl scWag.nd
          (pi_range1 (by rfl) mr (pa_cons (pe_call T.oD hr1 (by rfl) T.gD T.kD T.bD .nil pass0 (pa_cons (pv 0) (pa_cons pe_int pa_nil))) pa_nil))
          (blkOk_by (own := [("k", 3)]) (N := ["pen", "many", "letters", "k", "front", "first", "step", "found", "place"]) (sc := defScope sWag) (by decide +kernel))
          (fun _ _ _ _ _ => pg_name (i := 3) scWag.nd rfl (Or.inl rfl)) (fun _ _ _ _ _ => pts_nil) (fun _ _ _ _ _ => pe_call T.oP hr (by rfl) T.gP T.kP T.bP .nil pass0 (pa_cons (pv 0) (pa_cons (pv 2) pa_nil))))))
      (pss_cons (ps_par (i := 5) (j := 6) (by rfl) scWag.nd rfl rfl (by decide) rfl rfl (pa_cons (pe_call T.oD hr1 (by rfl) T.gD T.kD T.bD .nil pass0 (pa_cons (pv 0) (pa_cons pe_int pa_nil)))
        (pa_cons (pe_call T.oP hr (by rfl) T.gP T.kP T.bP .nil pass0 (pa_cons (pv 0) (pa_cons (pe_lst (pa_cons pe_int (pa_cons pe_int (pa_cons pe_int (pa_cons pe_int (pa_cons pe_int (pa_cons pe_int pa_nil))))))) pa_nil))) pa_nil)) (by rfl))
      (pss_cons (ps_set (i := 7) scWag.nd rfl (.inl rfl) (pe_lst pa_nil))
      (pss_cons (ps_for PassesOwn.never rfl (pi_range1 (by rfl) mr (pa_cons (pv 1) pa_nil)) (pg_name (i := 3) scWag.nd rfl (.inl rfl))
        (pss_cons (ps_set (i := 8) scWag.nd rfl (.inl rfl) (pe_op op_mod (pe_op op_add (pv 5) (pe_op op_mul (pv 6) (pv 3))) pe_int))
        (pss_one (ps_expr (pe_bm PySem.F.plainAttrs_list PySem.F.slot_list_append PySem.F.type_list_append mt_append (pv 7) (pa_cons
          (pe_op op_add_str (pe_op op_add_str (pv 4) (pe_ix ix_str (pv 2) (pv 8) (fun _ _ => rfl))) (pe_op op_mulS (pe_ix ix_str (pv 2) (pe_op op_mod (pv 3) pe_int) (fun _ _ => rfl))
            (pe_callTy call_int1 (by rfl) mi (by decide +kernel) (pa_cons (pe_cmpR op_gt (pv 3) pe_int (nomark _)) pa_nil)))) pa_nil))))))
      (pss_one (ps_ret (pe_call T.oS hr (by rfl) T.gS T.kS T.bS .nil pass0 (pa_cons (pv 0) (pa_cons (pv 7) pa_nil))))))))), ?_⟩
    -- front
    refine ⟨⟨_, rfl⟩, _, rfl, p, c, n, 7, rfl, G, by omega, by decide, by decide, fun d H1 d0 d1 s1 G1 => ⟨d, rfl, by omega, by omega, fun Dl hD => ?_⟩⟩
    have hD0 : H Dl = none := s1.free G1 hD
    refine lcN_range (lo := 0) (n := d.toNat) (fun i H' => ∃ cs : List Nat, H' Dl = some (.lst (cs.map fun cd => V.str (sign cd))) ∧ cs.length = i ∧ (∀ cd ∈ cs, 97 ≤ cd ∧ cd ≤ 122) ∧ SameP p H H' ∧ PenAt H' p c (n + 1 + i))
      ⟨[], upd_same, rfl, fun _ z => (nomatch z), s1.trans (SameP.new hD), G1.same (same_new hD)⟩ (fun i H2 hi hp => ?_) (fun H2 hp => ?_)
    · obtain ⟨cs, eD, hl, hc, s2, G2⟩ := hp
      refine ⟨rfl, ?_⟩
      refine ⟨_, rfl, _, rfl, p, c, _, .str abc, _, rfl, G2, by omega, .str (by rw [abc_len]; decide), ?_, ?_, fun j v H3 hv s3 G3 => ?_⟩
      · rw [List.length_map, abc_codes, List.length_map, List.length_range]
        decide
      · rw [List.length_map, abc_codes, List.length_map, List.length_range]
        decide
      · obtain ⟨cd, rfl, c0, c1⟩ := abc_item hv
        have eD3 := s3.lst G2 eD
        refine ⟨_, eD3, Evl.sz_lt (by rw [List.length_map]; omega), cs ++ [cd], ?_, by rw [List.length_append, hl]; rfl, fun z hz => ?_, fun b o nb e => ?_, ?_⟩
        · rw [upd_same, List.map_append]
          rfl
        · rcases List.mem_append.mp hz with hz | hz
          · exact hc z hz
          · rw [List.mem_singleton.mp hz]
            exact ⟨c0, c1⟩
        · rw [upd_ne (ne_of_none e hD0)]
          exact (s2.trans s3) b o nb e
        · exact (G3.upd (G1.apart' hD) (G1.apart hD)).mono (by omega)
    · obtain ⟨cs, eD, hl, hc, s2, G2⟩ := hp
      have hlen : cs.length ≤ 6 := by omega
      refine ⟨Str.empty, Dl, cs.map sign, rfl, rfl, .inl (by rw [signs_V]; exact .inl (.inl eD)), ?_, ?_⟩
      · rw [sum_signs, List.length_map]
        show cs.length + cs.length * 0 ≤ 16777216
        omega
      generalize hfr : Txt.join Str.empty (cs.map sign) = front
      have fc : front.cps.toList = cs := by rw [← hfr, TL.join_eq, join_signs]
      have f6 : front.length ≤ 6 := by rw [str_len, fc]; exact hlen
      have fok : ∀ cd ∈ front.cps.toList, 97 ≤ cd ∧ cd ≤ 122 := by rw [fc]; exact hc
      -- first, step
      refine ⟨_, rfl, p, c, _, 26, rfl, G2, by omega, by decide, by decide, fun f1 H3 f0 f26 s3 G3 => ?_⟩
      refine ⟨_, rfl, by show 6 ≤ sizeLine; decide, fun o1 ho1 => ?_⟩
      have so := same_new (o := HO.lst [.int 1, .int 3, .int 5, .int 7, .int 9, .int 11]) ho1
      refine ⟨p, c, _, .ref o1, [.int 1, .int 3, .int 5, .int 7, .int 9, .int 11], rfl, G3.same so, by omega, .lst (.inl (.inl upd_same)), by decide, by decide, fun j v H4 hv s4 G4 => ?_⟩
      obtain ⟨st, rfl, hst⟩ := steps_item hv
      obtain ⟨f2, rfl⟩ : ∃ f2 : Nat, f1 = (f2 : Int) := ⟨f1.toNat, by omega⟩
      refine ⟨_, _, rfl, ?_⟩
      -- found
      refine ⟨by show 0 ≤ sizeLine; decide, fun g hg => ?_⟩
      have s5 : SameP p H H4 := ((s2.trans s3).trans (SameP.of so)).trans s4
      have hg0 : H g = none := s5.free G4 hg
      refine ⟨_, rfl, (many : Int), rfl, by omega, by omega, ?_⟩
      refine for_range (lo := 0) (n := (many : Int).toNat) (fun i σ H' => ∃ y3 y8, σ = [some (.ref p), some (.int (many : Int)), some (.str abc), y3, some (.str front), some (.int (f2 : Int)), some (.int (st : Int)), some (.ref g), y8] ∧
        H' g = some (.lst ((wNames front f2 st i).map V.str)) ∧ SameP p H H' ∧ PenAt H' p c (n + 9)) ⟨_, _, rfl, upd_same, s5.trans (SameP.new hg), (G4.same (same_new hg)).mono (by omega)⟩ (fun i σ H5 hi hp => ?_) (fun σ H5 hp => ?_)
      · obtain ⟨y3, y8, rfl, eg, s6, G6⟩ := hp
        have hib : i < 52 := by omega
        refine ⟨_, rfl, _, rfl, _, rfl, _, _, rfl, rfl, cmul_l (by omega) (by omega), _, _, rfl, rfl, _, _, rfl, rfl, (by show (0 : Int) < 26; decide), ?_⟩
        refine ⟨_, rfl, .inl ⟨rfl, _, .inl (.inl eg)⟩, _, rfl, _, rfl, _, rfl, abc, _, 97 + (f2 + st * i) % 26, rfl, rfl, (by rw [abc_len]; decide), ?_, _, _, rfl, rfl, ?_, ?_⟩
        · rw [place_nat]
          exact atI_nat (abc_at (Nat.mod_lt _ (by decide)))
        · show front.length + 1 ≤ sizeLine
          exact Evl.sz_of (by omega)
        refine ⟨_, rfl, _, rfl, _, _, rfl, rfl, (by show (0 : Int) < 26; decide), abc, _, 97 + i % 26, rfl, rfl, (by rw [abc_len]; decide), ?_, _, rfl, _, _, rfl, rfl, .inr ⟨_, rfl, ?_⟩⟩
        · rw [show ((0 : Int) + (i : Int)) % 26 = ((i % 26 : Nat) : Int) by omega]
          exact atI_nat (abc_at (Nat.mod_lt _ (by decide)))
        refine ⟨sign (97 + i % 26), _, rfl, rfl, (by show 1 ≤ 1000; decide), (by split <;> decide), (by split <;> decide), _, _, rfl, rfl, ?_, ?_⟩
        · rw [mul_sign, Str.length_append]
          have h1 : (if decide ((25 : Int) < 0 + (i : Int)) = true then sign (97 + i % 26) else Str.empty).length ≤ 1 := by
            split
            · exact Nat.le_refl 1
            · exact Nat.zero_le 1
          show front.length + 1 + _ ≤ sizeLine
          exact Evl.sz_of (by omega)
        · refine ⟨g, _, _, rfl, rfl, eg, Evl.sz_lt (by rw [List.length_map, wNames, List.length_map, List.length_range]; omega), some (.int ((0 : Int) + (i : Int))), _, rfl, ?_, ?_, G6.upd ?_ ?_⟩
          · rw [upd_same, mul_sign]
            congr 2
            rw [wNames, wNames, List.range_succ, List.map_append, List.map_append]
            congr 1
            show [V.str _] = [V.str _]
            congr 2
            unfold wName sign
            congr 1
            by_cases z : 25 < i
            · rw [if_pos (decide_eq_true (by omega)), if_pos z]
            · rw [if_neg (by rw [decide_eq_false (by omega)]; decide), if_neg z]
          · intro b o nb e
            rw [upd_ne (ne_of_none e hg0)]
            exact s6 b o nb e
          · exact G.apart' hg0
          · exact G.apart hg0
      · obtain ⟨y3, y8, rfl, eg, s6, G6⟩ := hp
        rw [show (many : Int).toNat = many from rfl] at eg
        have nm : Names (wNames front f2 st many) := ⟨fun x hx => by
          obtain ⟨k, _, rfl⟩ := List.mem_map.mp hx
          exact wName_ok f6 fok f2 st k, wNames_nodup hst hm⟩
        have ln : (wNames front f2 st many).length = many := by rw [wNames, List.length_map, List.length_range]
        refine ⟨_, rfl, _, rfl, p, c, g, _, _, rfl, G6, by omega, .lst (.inl (.inl eg)), by rw [List.length_map, ln]; omega, fun l ys H6 pm hl0 el s7 G7 => ?_⟩
        · obtain ⟨zs, rfl, pz⟩ := perm_strs pm
          rw [List.length_map, ln] at G7
          have one : many ≤ 26 → ∀ x ∈ wNames front f2 st many, x.length = front.length + 1 := fun hm26 x hx => by
            obtain ⟨k, hk, rfl⟩ := List.mem_map.mp hx
            have := List.mem_range.mp hk
            rw [str_len, wName_codes, if_neg (by omega), List.append_nil, List.length_append, ← str_len]
            rfl
          refine q l zs H6 (nm.perm pz) (by rw [pz.length_eq, ln]) (s6.free G6 hl0) el (s6.trans s7) (G7.mono (by omega)) fun hm26 x hx y hy => ?_
          rw [one hm26 x (pz.subset hx), one hm26 y (pz.subset hy)]
theorem ok_wag {f fD fP fS : Addr} {fd dD dP dS : FuncData} (F : Fun K "_law_wagons" "_law_wagons" sWag f fd) (T : Draws P w K mg base fD fP fS dD dP dS) (mr : mg "range" = none) (mi : mg "int" = none) :
    FnOk P w K mg base CX0 3 f fd ["pen", "many"] (spWag K) :=
  (ok_wagL F T mr mi).imp fun vs H Q E ⟨p, c, n, many, e, G, h1, h2, q⟩ => ⟨p, c, n, many, e, G, h1, h2, fun l xs H' a1 a2 a3 a4 a5 a6 _ => q l xs H' a1 a2 a3 a4 a5 a6⟩
end
end My
set_option Elab.async false
set_option linter.all false
set_option maxRecDepth 100000
set_option maxHeartbeats 4000000
namespace My
open PySem PySem.Spec PyProof.Rows L2

/-! ### data that never changes: None, bools, ints, texts, tuples of such -/
mutual
inductive Dt (K : PySem.W.Frag) (H : Hp) : V → PyData → Prop
  | non : Dt K H .non .none
  | bl (b : Bool) : Dt K H (.bl b) (.bool b)
  | int (i : Int) : Dt K H (.int i) (.int i)
  | str (x : Str) : Dt K H (.str x) (.str x)
  | tup {a : Addr} {xs : List V} {ds : List PyData} : SqT K H a xs → DtAll K H xs ds → Dt K H (.ref a) (.tuple ds)
inductive DtAll (K : PySem.W.Frag) (H : Hp) : List V → List PyData → Prop
  | nil : DtAll K H [] []
  | cons {v : V} {vs : List V} {d : PyData} {ds : List PyData} : Dt K H v d → DtAll K H vs ds → DtAll K H (v :: vs) (d :: ds)
end
/-- tuples that were read are read so again -/
def KeepsT (K : PySem.W.Frag) (H H' : Hp) : Prop := ∀ a xs, SqT K H a xs → SqT K H' a xs
section
variable {K : PySem.W.Frag} {H H' H2 : Hp}
mutual
theorem dt_keep (s : KeepsT K H H') : ∀ {d : PyData} {v : V}, Dt K H v d → Dt K H' v d
  | .none, _, h => by cases h; exact .non
  | .bool _, _, h => by cases h; exact .bl _
  | .int _, _, h => by cases h; exact .int _
  | .str _, _, h => by cases h; exact .str _
  | .tuple ds, _, h => by
    cases h with
    | tup a b => exact .tup (s _ _ a) (dt_keepAll s b)
  | .list _, _, h => by cases h
  | .dict _, _, h => by cases h
theorem dt_keepAll (s : KeepsT K H H') : ∀ {ds : List PyData} {vs : List V}, DtAll K H vs ds → DtAll K H' vs ds
  | [], _, h => by cases h; exact .nil
  | d :: ds, _, h => by
    cases h with
    | cons a b => exact .cons (dt_keep s a) (dt_keepAll s b)
end
mutual
theorem dt_dp : ∀ {d : PyData} {v : V}, Dt K H v d → Dp K H v d
  | .none, _, h => by cases h; exact .non
  | .bool _, _, h => by cases h; exact .bl _
  | .int _, _, h => by cases h; exact .int _
  | .str _, _, h => by cases h; exact .str _
  | .tuple ds, _, h => by
    cases h with
    | tup a b => exact .tup a (dt_dpAll b)
  | .list _, _, h => by cases h
  | .dict _, _, h => by cases h
theorem dt_dpAll : ∀ {ds : List PyData} {vs : List V}, DtAll K H vs ds → DpAll K H vs ds
  | [], _, h => by cases h; exact .nil
  | d :: ds, _, h => by
    cases h with
    | cons a b => exact .cons (dt_dp a) (dt_dpAll b)
end
theorem KeepsT.refl : KeepsT K H H := fun _ _ h => h
theorem KeepsT.trans (a : KeepsT K H H') (b : KeepsT K H' H2) : KeepsT K H H2 := fun _ _ h => b _ _ (a _ _ h)
theorem _root_.L2.Same.keepsT (s : Same H H') : KeepsT K H H' := s.keeps.t
theorem SameP.keepsT {p c : Addr} {n : Nat} (s : SameP p H H') (G : PenAt H p c n) : KeepsT K H H' := (s.keeps G).t
/-- a change at a place where no tuple stands -/
theorem KeepsT.at {a : Addr} {o : HO} (h : ∀ xs, H a ≠ some (.tup xs)) (h' : ∀ ob u, H a ≠ some (.frz ob u)) : KeepsT K H (upd H a o) := fun b xs e => by
  rcases e with (e | ⟨ob, e⟩) | e
  · exact .inl (.inl ((upd_ne (fun z : b = a => h xs (z ▸ e))).trans e))
  · exact .inl (.inr ⟨ob, (upd_ne (fun z : b = a => h' _ _ (z ▸ e))).trans e⟩)
  · exact .inr e
theorem KeepsT.lst {a : Addr} {xs : List V} {o : HO} (h : H a = some (.lst xs)) : KeepsT K H (upd H a o) := .at (fun _ z => by rw [h] at z; cases z) (fun _ _ z => by rw [h] at z; cases z)
theorem KeepsT.new {a : Addr} {o : HO} (h : H a = none) : KeepsT K H (upd H a o) := (same_new h).keepsT
theorem DtAll.append : ∀ {xs ys : List V} {ds es : List PyData}, DtAll K H xs ds → DtAll K H ys es → DtAll K H (xs ++ ys) (ds ++ es)
  | _, _, _, _, .nil, h => h
  | _, _, _, _, .cons a b, h => .cons a (b.append h)
theorem DtAll.length : ∀ {xs : List V} {ds : List PyData}, DtAll K H xs ds → xs.length = ds.length
  | _, _, .nil => rfl
  | _, _, .cons _ b => congrArg (· + 1) b.length
theorem DtAll.at : ∀ {xs : List V} {ds : List PyData} {i : Nat} {v : V}, DtAll K H xs ds → xs[i]? = some v → ∃ d, ds[i]? = some d ∧ Dt K H v d
  | _, _, 0, _, .cons a _, h => by
    cases h
    exact ⟨_, rfl, a⟩
  | _, _, i + 1, _, .cons _ b, h => b.at (i := i) h
theorem DtAll.two {x y : V} {d e : PyData} (a : Dt K H x d) (b : Dt K H y e) : DtAll K H [x, y] [d, e] := .cons a (.cons b .nil)
end

/-! ### rows -/
def dwD (r : Str × Int) : PyData := .tuple [.str r.1, .int r.2]
def rowD (r : List (Str × Int)) : PyData := .tuple (r.map dwD)
def Dirs (r : List (Str × Int)) : Prop := ∀ x ∈ r, x.2 = 1 ∨ x.2 = -1

end My
set_option Elab.async false
set_option linter.all false
set_option maxRecDepth 100000
set_option maxHeartbeats 4000000
/-! min(rows, key=lambda x: x[0][0]) -/
namespace My
open PySem PySem.Spec PyProof.Rows L2 LamX
/-- a lambda without a closure -/
def LamO (qual : Str) (params : Arguments) (body : Expr) (scope : Scope) (f c' : Addr) : HO := .ext fun h => ∃ pm ctv, h.get? f = some (PySem.W.kla_obj "<lambda>" qual params body scope [] pm c' ctv)
section
variable {X : Cx} {pins : List (Addr × Obj)} {σ : L2.St} {H : Hp} {s : Shared}
theorem code_rec {c' : Addr} {q : Str} (I : Inv X pins σ H s) (h : H c' = some (CodeO c' q)) : s.heap.CodeRec (.ref c') q := by
  obtain ⟨⟨oc, vs, t, hoc, hd, hv⟩, _, _⟩ := I.hok c' _ h
  exact ⟨c', oc, vs, t, rfl, hoc, hd, hv⟩
/-- what the making asks: the maker's code object at c, its table at P, the names that the tables' codes bear -/
structure LamAt (X : Cx) (T : List (Addr × Str)) (c P : Addr) (params : Arguments) (scope : Scope) : Prop where
  TB : TabB X.base X.mg c P
  code : X.env.code = .ref c
  mem : (P, X.env.qual ++ "<lambda>") ∈ T
  one : ∀ p ∈ T, p.1 = P → p.2 = X.env.qual ++ "<lambda>"
  df : defaultsOf params X.env = ([], [])
  nofree : ∀ y ∈ scope.names, y.2 ≠ .free
theorem clo_nil {cells : List (Str × Addr)} : ∀ {ns : List (Str × NameKind)}, (∀ y ∈ ns, y.2 ≠ .free) → cloFrom cells ns [] = []
  | [], _ => rfl
  | (n, k) :: r, h => by
    have h1 := h (n, k) List.mem_cons_self
    unfold cloFrom
    cases k with
    | free => exact absurd rfl h1
    | _ => exact clo_nil fun y hy => h y (List.mem_cons_of_mem _ hy)
def tLam (T : List (Addr × Str)) (q : Str) (params : Arguments) (body : Expr) (scope : Scope) : TE := fun _ H Q => Tabs T H ∧ ∀ (f c' : Addr) (H1 : Hp), ExtN H H1 → Tabs T H1 → H1 f = some (LamO q params body scope f c') → H1 c' = some (CodeO c' q) → Q (.ref f) H1
theorem pe_lam {T : List (Addr × Str)} {c P : Addr} {params : Arguments} {body : Expr} {scope : Scope} {pos : Pos} (L : LamAt X T c P params scope) : PE X (.Lambda params body scope pos) (tLam T (X.env.qual ++ "<lambda>") params body scope) := by
  refine ⟨fun pins s σ H Q I h => ?_⟩
  obtain ⟨hT, h⟩ := h
  obtain ⟨ps, hP, ht, ha⟩ := hT _ L.mem
  refine PySem.W.kla_eval L.df ?_
  have bP : s.heap.BuiltinsAt X.mg P := L.TB.bm.keeps I.bk
  have hP' : s.heap.get? P = some { cls := .none, data := .fields ps } := I.hok P _ hP
  have hclo : closureFor scope X.env = pure [] := by
    have := closure_ok (scope := scope) (env := X.env) fun y hy e => absurd e (L.nofree y hy)
    rw [clo_nil L.nofree] at this
    exact this
  cases hc : codeAmong pos ps.toList with
  | none =>
    refine PySem.W.kla_makeFunction (mg := X.mg) (c := c) (P := P) (ps := ps) hclo I.ok.glob (I.mod.glob.keeps I.bk) L.code (L.TB.code.keeps I.bk) hP' ht hc L.TB.gP bP fun c' ctv h' tk hx hge hlt hrec htb => ?_
    obtain ⟨c2, oc, vs, t, e2, hoc, hd, hv⟩ := hrec
    cases e2
    have nC : H c' = none := I.hok.fresh hge
    have I1 := inv_table (t' := tk) (more := #[rawInt pos.line, rawInt pos.col, .ref c']) (h' := h') I hP hx htb hge ⟨oc, vs, t, hoc, hd, hv⟩
    have hE : ExtN H (upd (upd H P (.tbl (ps ++ #[rawInt pos.line, rawInt pos.col, .ref c']))) c' (CodeO c' (X.env.qual ++ "<lambda>"))) := fun b o e n => by
      rw [upd_ne (ne_of_none e nC), upd_ne (fun z => n ps (Option.some.inj (e.symm.trans (by rw [z]; exact hP))))]
      exact e
    have eL : (ps ++ #[rawInt pos.line, rawInt pos.col, .ref c']).toList = ps.toList ++ [rawInt pos.line, rawInt pos.col, .ref c'] := by simp
    have hT1 : Tabs T (upd (upd H P (.tbl (ps ++ #[rawInt pos.line, rawInt pos.col, .ref c']))) c' (CodeO c' (X.env.qual ++ "<lambda>"))) := fun p hp => by
      by_cases hb : p.1 = P
      · rw [L.one p hp hb, hb]
        refine ⟨_, by rw [upd_ne (ne_of_none hP nC), upd_same], by rw [eL]; exact PySem.TriplesOk_snoc _ _ _ _ ht, fun p' cv hcv => ?_⟩
        rw [eL] at hcv
        rcases among_app _ ht hcv with z | z
        · obtain ⟨c0, e1, e2⟩ := ha p' cv z
          exact ⟨c0, e1, hE _ _ e2 codeO_ne⟩
        · exact ⟨c', z, upd_same⟩
      · obtain ⟨ps', a1, a2, a3⟩ := hT p hp
        refine ⟨ps', by rw [upd_ne (ne_of_none a1 nC), upd_ne hb]; exact a1, a2, fun p' cv hcv => ?_⟩
        obtain ⟨c0, e1, e2⟩ := a3 p' cv hcv
        exact ⟨c0, e1, hE _ _ e2 codeO_ne⟩
    have hcn : (upd (upd H P (.tbl (ps ++ #[rawInt pos.line, rawInt pos.col, .ref c']))) c' (CodeO c' (X.env.qual ++ "<lambda>"))) c' = some (CodeO c' (X.env.qual ++ "<lambda>")) := upd_same
    generalize upd (upd H P (.tbl (ps ++ #[rawInt pos.line, rawInt pos.col, .ref c']))) c' (CodeO c' (X.env.qual ++ "<lambda>")) = H1 at I1 hE hT1 hcn
    have fr := I1.hok.fresh (Nat.le_refl h'.objs.size)
    have I2 : Inv X pins σ (upd H1 h'.objs.size (LamO (X.env.qual ++ "<lambda>") params body scope h'.objs.size c')) { s with heap := h'.push (PySem.W.kla_obj "<lambda>" (X.env.qual ++ "<lambda>") params body scope [] ((X.mg "__name__").getD .none) c' ctv), toks := tk } :=
      I1.laid (t' := tk) (fun b o e => Heap.get?_push_of_some _ e) (Nat.le_refl _) ⟨⟨_, _, Heap.get?_push_size _ rfl⟩, ⟨_, Heap.get?_push_size _ rfl⟩, fun h1 h2 ⟨pm, cv, e⟩ k => ⟨pm, cv, k _ e⟩⟩
    have sN := fun b o (e : H1 b = some o) => (show upd H1 h'.objs.size (LamO (X.env.qual ++ "<lambda>") params body scope h'.objs.size c') b = some o by rw [upd_ne (ne_of_none e fr)]; exact e)
    exact ⟨.ref h'.objs.size, _, I2, rfl, h _ _ _ (hE.trans (ExtN.of sN)) (hT1.ext sN) upd_same (sN _ _ hcn)⟩
  | some cv =>
    obtain ⟨c', e, hco⟩ := ha pos cv hc
    subst e
    refine PySem.W.kla_makeFunctionHit (mg := X.mg) (c := c) (P := P) (ps := ps) hclo I.ok.glob (I.mod.glob.keeps I.bk) L.code (L.TB.code.keeps I.bk) hP' ht hc bP fun ctv h' tk hx hsz => ?_
    have fr := I.hok.fresh hsz
    have I2 : Inv X pins σ (upd H h'.objs.size (LamO (X.env.qual ++ "<lambda>") params body scope h'.objs.size c')) { s with heap := h'.push (PySem.W.kla_obj "<lambda>" (X.env.qual ++ "<lambda>") params body scope [] ((X.mg "__name__").getD .none) c' ctv), toks := tk } :=
      I.laid (t' := tk) (fun b o e => Heap.get?_push_of_some _ (hx b o e)) hsz ⟨⟨_, _, Heap.get?_push_size _ rfl⟩, ⟨_, Heap.get?_push_size _ rfl⟩, fun h1 h2 ⟨pm, cv, e⟩ k => ⟨pm, cv, k _ e⟩⟩
    have sN := fun b o (e : H b = some o) => (show upd H h'.objs.size (LamO (X.env.qual ++ "<lambda>") params body scope h'.objs.size c') b = some o by rw [upd_ne (ne_of_none e fr)]; exact e)
    exact ⟨.ref h'.objs.size, _, I2, rfl, h _ _ _ (ExtN.of sN) (hT.ext sN) upd_same (sN _ _ hco)⟩
end
section
variable {X : Cx}
/-- the lambda's own: one parameter, x[0][0] -/
structure Lam1 (x : Str) (q : Str) (params : Arguments) (scope : Scope) (body : Expr) : Prop where
  co : scope.isCoroutine = false
  gen : scope.isGenerator = false
  kind : scope.kind = .function
  loc : scope.names.lookup x = some .local
  own : ∀ y ∈ scope.names, y.2 ≠ .cell
  db : (x == ("__debug__" : Str)) = false
  bd : ∃ j1 j2 p1 p2 p3 p4 p5, body = bodyF x j1 j2 p1 p2 p3 p4 p5
  bind : ∀ (pm cdv ctv v : Value), bindArgs (PySem.W.kla_fn "<lambda>" q params body scope [] pm cdv ctv) ⟨[v], []⟩ = pure [(x, v)]
/-- a row whose first wagon's name is k -/
def RowAt (K : PySem.W.Frag) (H : Hp) (v : V) (k : Str) : Prop := ∃ (a b : Addr) (xs ys : List V), v = .ref a ∧ SqT K H a (.ref b :: xs) ∧ SqT K H b (.str k :: ys)
def rMin2 (K : PySem.W.Frag) (q : Str) (params : Arguments) (body : Expr) (scope : Scope) : List V → List V → Hp → VK → Prop := fun vs zs H Q => ∃ (a f c' : Addr) (x y : V) (k1 k2 : Str), vs = [.ref a] ∧ zs = [.ref f] ∧ SqL K H a [x, y] ∧ RowAt K H x k1 ∧ RowAt K H y k2 ∧
  H f = some (LamO q params body scope f c') ∧ H c' = some (CodeO c' q) ∧ Q (if decide (k2.cps.toList < k1.cps.toList) = true then y else x) H
theorem call_min2 {x : Str} {q : Str} {params : Arguments} {scope : Scope} {body : Expr} (L : Lam1 x q params scope body) (hr : Room 1 X.A) : CallRK X (.builtin "min") [("key" : Str)] (rMin2 X.K q params body scope) := by
  intro pins s σ H vs zs us ws Q I rv rz h
  obtain ⟨a, f, c', v1, v2, k1, k2, rfl, rfl, hl, ⟨a1, b1, xs1, ys1, rfl, t1, u1⟩, ⟨a2, b2, xs2, ys2, rfl, t2, u2⟩, hf, hc, q0⟩ := h
  obtain ⟨u, rfl, ru⟩ := vals1 rv
  cases ru
  obtain ⟨w0, rfl, rw0⟩ := vals1 rz
  cases rw0
  obtain ⟨j1, j2, p1, p2, p3, p4, p5, rfl⟩ := L.bd
  obtain ⟨⟨pm, ctv, ho⟩, _, _⟩ := I.hok f _ hf
  have hcr := code_rec I hc
  obtain ⟨its, rr, il, _⟩ := I.list hl
  obtain ⟨w1, w2, rfl⟩ : ∃ w1 w2 : Unit, its = [.ref a1, .ref a2] := by
    cases rr with
    | cons r1 r2 =>
      cases r2 with
      | cons r3 r4 =>
        cases r1
        cases r3
        cases r4
        exact ⟨(), (), rfl⟩
  have tup : ∀ {a b : Addr} {xs ys : List V} {k : Str}, SqT X.K H a (.ref b :: xs) → SqT X.K H b (.str k :: ys) → ∃ (its its2 : Array Value) (t : Tok), s.heap.IsTuple a its ∧ its[0]? = some (.ref b) ∧ s.heap.IsTuple b its2 ∧ its2[0]? = some (.str k t) := fun {a b xs ys k} h1 h2 => by
    obtain ⟨z1, r1, ⟨o1, e1, e2, n1, e3⟩, _⟩ := I.tuple h1
    obtain ⟨z2, r2, ⟨o2, d1, d2, n2, d3⟩, _⟩ := I.tuple h2
    cases r1 with
    | cons r3 r4 =>
      cases r2 with
      | cons r5 r6 =>
        cases r3
        obtain ⟨t, rfl⟩ := r5
        exact ⟨_, _, t, ⟨o1, e1, e2, n1, e3⟩, rfl, ⟨o2, d1, d2, n2, d3⟩, rfl⟩
  have hdp : X.A.in1.depth < recursionLimit := by
    have := (hr.in1 (k := 0)).dp
    omega
  refine min_first (f := f) (c' := c') (vs := [.ref a1, .ref a2]) (ks := [k1, k2]) hr.hd ho hcr hdp I.nolimit L.co L.gen L.kind L.loc L.own L.db (fun v => L.bind pm (.ref c') ctv v) il.isList (by show 0 < 2; decide) rfl (fun i v k hv hk => ?_) fun h' tk v hk hv => ?_
  · match i, hv, hk with
    | 0, hv, hk =>
      cases hv
      cases hk
      obtain ⟨i1, i2, t, e1, e2, e3, e4⟩ := tup t1 u1
      exact ⟨a1, b1, i1, i2, t, rfl, e1, e2, e3, e4⟩
    | 1, hv, hk =>
      cases hv
      cases hk
      obtain ⟨i1, i2, t, e1, e2, e3, e4⟩ := tup t2 u2
      exact ⟨a2, b2, i1, i2, t, rfl, e1, e2, e3, e4⟩
  · have I' : Inv X pins σ H { s with heap := h', toks := tk } := I.kept hk
    have hv : ([.ref a1, .ref a2] : List Value)[if decide (k2.cps.toList < k1.cps.toList) = true then 1 else 0]? = some v := hv
    cases hd : decide (k2.cps.toList < k1.cps.toList) with
    | true =>
      rw [hd] at hv q0
      cases hv
      exact ⟨.ref a2, H, I', rfl, q0⟩
    | false =>
      rw [hd] at hv q0
      cases hv
      exact ⟨.ref a1, H, I', rfl, q0⟩
end
end My
set_option Elab.async false
set_option linter.all false
set_option maxRecDepth 100000
set_option maxHeartbeats 4000000
/-! Values of any kind: None, bools, ints, texts, tuples, lists, dicts (keys ints and texts), nested; none of them is the pen at p. -/
namespace My
open PySem PySem.Spec PyProof.Rows L2

def keyD : Key → PyData
  | .inl i => .int i
  | .inr x => .str x
mutual
inductive Da (K : PySem.W.Frag) (p : Addr) (H : Hp) : V → PyData → Prop
  | non : Da K p H .non .none
  | bl (b : Bool) : Da K p H (.bl b) (.bool b)
  | int (i : Int) : Da K p H (.int i) (.int i)
  | str (x : Str) : Da K p H (.str x) (.str x)
  | lst {a : Addr} {xs : List V} {ds : List PyData} : a ≠ sysModules → SqL K H a xs → DaAll K p H xs ds → Da K p H (.ref a) (.list ds)
  | tup {a : Addr} {xs : List V} {ds : List PyData} : SqT K H a xs → DaAll K p H xs ds → Da K p H (.ref a) (.tuple ds)
  | dct {a : Addr} {kvs : List (Key × V)} {es : List (PyData × PyData)} : a ≠ p → H a = some (.dK kvs) → DaKv K p H kvs es → Da K p H (.ref a) (.dict es)
inductive DaAll (K : PySem.W.Frag) (p : Addr) (H : Hp) : List V → List PyData → Prop
  | nil : DaAll K p H [] []
  | cons {v : V} {vs : List V} {d : PyData} {ds : List PyData} : Da K p H v d → DaAll K p H vs ds → DaAll K p H (v :: vs) (d :: ds)
inductive DaKv (K : PySem.W.Frag) (p : Addr) (H : Hp) : List (Key × V) → List (PyData × PyData) → Prop
  | nil : DaKv K p H [] []
  | cons {k : Key} {v : V} {r : List (Key × V)} {d : PyData} {es : List (PyData × PyData)} : Da K p H v d → DaKv K p H r es → DaKv K p H ((k, v) :: r) ((keyD k, d) :: es)
end
section
variable {K : PySem.W.Frag} {p c : Addr} {n : Nat} {H H' H2 : Hp}
/-- what is read of lists, tuples, dicts (but p) stays -/
structure KeepA (K : PySem.W.Frag) (p : Addr) (H H' : Hp) : Prop where
  l : ∀ a xs, SqL K H a xs → SqL K H' a xs
  t : ∀ a xs, SqT K H a xs → SqT K H' a xs
  d : ∀ a kvs, a ≠ p → H a = some (.dK kvs) → H' a = some (.dK kvs)
theorem KeepA.refl : KeepA K p H H := ⟨fun _ _ h => h, fun _ _ h => h, fun _ _ _ h => h⟩
theorem KeepA.trans (a : KeepA K p H H') (b : KeepA K p H' H2) : KeepA K p H H2 := ⟨fun _ _ h => b.l _ _ (a.l _ _ h), fun _ _ h => b.t _ _ (a.t _ _ h), fun _ _ n h => b.d _ _ n (a.d _ _ n h)⟩
theorem _root_.L2.Same.keepA (s : Same H H') : KeepA K p H H' := ⟨s.keeps.l, s.keeps.t, fun _ _ _ e => s _ _ e⟩
theorem SameP.keepA (s : SameP p H H') (G : PenAt H p c n) : KeepA K p H H' := ⟨(s.keeps G).l, (s.keeps G).t, fun _ _ ne e => s _ _ ne e⟩
mutual
theorem da_keep (s : KeepA K p H H') : ∀ {d : PyData} {v : V}, Da K p H v d → Da K p H' v d
  | .none, _, h => by cases h; exact .non
  | .bool _, _, h => by cases h; exact .bl _
  | .int _, _, h => by cases h; exact .int _
  | .str _, _, h => by cases h; exact .str _
  | .tuple ds, _, h => by
    cases h with
    | tup a b => exact .tup (s.t _ _ a) (da_keepAll s b)
  | .list _, _, h => by
    cases h with
    | lst a b c => exact .lst a (s.l _ _ b) (da_keepAll s c)
  | .dict es, _, h => by
    cases h with
    | dct a b c => exact .dct a (s.d _ _ a b) (da_keepKv s c)
theorem da_keepAll (s : KeepA K p H H') : ∀ {ds : List PyData} {vs : List V}, DaAll K p H vs ds → DaAll K p H' vs ds
  | [], _, h => by cases h; exact .nil
  | d :: ds, _, h => by
    cases h with
    | cons a b => exact .cons (da_keep s a) (da_keepAll s b)
theorem da_keepKv (s : KeepA K p H H') : ∀ {es : List (PyData × PyData)} {kvs : List (Key × V)}, DaKv K p H kvs es → DaKv K p H' kvs es
  | [], _, h => by cases h; exact .nil
  | (k, d) :: es, _, h => by
    cases h with
    | cons a b => exact .cons (da_keep s a) (da_keepKv s b)
end
mutual
theorem dt_da : ∀ {d : PyData} {v : V}, Dt K H v d → Da K p H v d
  | .none, _, h => by cases h; exact .non
  | .bool _, _, h => by cases h; exact .bl _
  | .int _, _, h => by cases h; exact .int _
  | .str _, _, h => by cases h; exact .str _
  | .tuple ds, _, h => by
    cases h with
    | tup a b => exact .tup a (dt_daAll b)
  | .list _, _, h => by cases h
  | .dict _, _, h => by cases h
theorem dt_daAll : ∀ {ds : List PyData} {vs : List V}, DtAll K H vs ds → DaAll K p H vs ds
  | [], _, h => by cases h; exact .nil
  | d :: ds, _, h => by
    cases h with
    | cons a b => exact .cons (dt_da a) (dt_daAll b)
end
theorem DaAll.append : ∀ {xs ys : List V} {ds es : List PyData}, DaAll K p H xs ds → DaAll K p H ys es → DaAll K p H (xs ++ ys) (ds ++ es)
  | _, _, _, _, .nil, h => h
  | _, _, _, _, .cons a b, h => .cons a (b.append h)
theorem DaAll.length : ∀ {xs : List V} {ds : List PyData}, DaAll K p H xs ds → xs.length = ds.length
  | _, _, .nil => rfl
  | _, _, .cons _ b => congrArg (· + 1) b.length
theorem DaAll.at : ∀ {xs : List V} {ds : List PyData} {i : Nat} {v : V}, DaAll K p H xs ds → xs[i]? = some v → ∃ d, ds[i]? = some d ∧ Da K p H v d
  | _, _, 0, _, .cons a _, h => by
    cases h
    exact ⟨_, rfl, a⟩
  | _, _, i + 1, _, .cons _ b, h => b.at (i := i) h
theorem DaAll.take : ∀ {xs : List V} {ds : List PyData} (i : Nat), DaAll K p H xs ds → DaAll K p H (xs.take i) (ds.take i)
  | _, _, 0, _ => .nil
  | _, _, _ + 1, .nil => .nil
  | _, _, i + 1, .cons a b => .cons a (b.take i)
theorem DaAll.drop : ∀ {xs : List V} {ds : List PyData} (i : Nat), DaAll K p H xs ds → DaAll K p H (xs.drop i) (ds.drop i)
  | _, _, 0, h => h
  | _, _, _ + 1, .nil => .nil
  | _, _, i + 1, .cons _ b => b.drop i
theorem DaAll.reverse : ∀ {xs : List V} {ds : List PyData}, DaAll K p H xs ds → DaAll K p H xs.reverse ds.reverse
  | _, _, .nil => .nil
  | _, _, .cons a b => by
    rw [List.reverse_cons, List.reverse_cons]
    exact b.reverse.append (.cons a .nil)
end

/-! ### its repr -/
section
variable {X : Cx} {pins : List (Addr × Obj)} {σ : L2.St} {H : Hp} {s : Shared} {p : Addr}
theorem keys_read {P : Program} {w : World} {h : Heap} : ∀ {vs : List (Key × Value)} {es : List DictEntry}, Pairs (mixKind P w) es vs → ReadsAll h (es.map (·.key)) (vs.map fun kv => keyD kv.1) []
  | _, _, .nil => .nil
  | _, _, .cons (e := e) (kv := kv) h1 h2 r => by
    have ih := keys_read (h := h) r
    rcases keyIs_shape (k := kv.1) (v := e.key) h1 with ⟨i, t, e1, e2⟩ | ⟨x, t, e1, e2⟩
    · rw [List.map_cons, List.map_cons, e1, e2]
      exact ReadsAll.cons (.int i t) ih
    · rw [List.map_cons, List.map_cons, e1, e2]
      exact ReadsAll.cons (.str x t) ih
theorem vals_read {P : Program} {w : World} : ∀ {vs : List (Key × Value)} {es : List DictEntry}, Pairs (mixKind P w) es vs → es.map (·.val) = vs.map (·.2)
  | _, _, .nil => rfl
  | _, _, .cons h1 h2 r => by rw [List.map_cons, List.map_cons, h2, vals_read r]
mutual
theorem da_reads (I : Inv X pins σ H s) : ∀ (d : PyData) (v : V) (u : Value), Da X.K p H v d → RelV v u → ∃ as, Reads s.heap u d as ∧ sysModules ∉ as
  | .none, _, _, h, r => by
    cases h
    cases r
    exact ⟨_, .none, List.not_mem_nil⟩
  | .bool b, _, _, h, r => by
    cases h
    cases r
    exact ⟨_, .bool b, List.not_mem_nil⟩
  | .int i, _, _, h, r => by
    cases h
    obtain ⟨t, rfl⟩ := r
    exact ⟨_, .int i t, List.not_mem_nil⟩
  | .str x, _, _, h, r => by
    cases h
    obtain ⟨t, rfl⟩ := r
    exact ⟨_, .str x t, List.not_mem_nil⟩
  | .list ds, _, _, h, r => by
    cases h with
    | lst hne hs ha =>
      cases r
      obtain ⟨its, rv, ⟨o, n, ho, hc, _, hd⟩, _⟩ := I.list hs
      obtain ⟨as, hr, ns⟩ := da_readsAll I ds _ its ha rv
      exact ⟨_, .list ho hc hd hr, fun z => (List.mem_cons.mp z).elim (fun e => hne e.symm) ns⟩
  | .tuple ds, _, _, h, r => by
    cases h with
    | tup hs ha =>
      cases r
      obtain ⟨its, rv, ⟨o, ho, hc, n, hd⟩, _⟩ := I.tuple hs
      obtain ⟨as, hr, ns⟩ := da_readsAll I ds _ its ha rv
      exact ⟨_, .tuple ho hc hd hr, ns⟩
  | .dict es, _, _, h, r => by
    cases h with
    | @dct a kvs _ hn ho hv =>
      cases r
      obtain ⟨_, ns, vs, kv, o, ents, ep, h1, h2, h3, _, h5, _⟩ := dk_of I.hok ho
      obtain ⟨as, hr, nsr, ek⟩ := da_readsKv I es _ vs hv kv
      have r1 := keys_read (h := s.heap) h5
      rw [ek] at r1
      refine ⟨_, .dict h1 h2.1 h3 r1 (by rw [vals_read h5]; exact hr), fun z => ?_⟩
      rcases List.mem_cons.mp (by simpa using z) with e | e
      · rw [← e] at ns
        simp at ns
      · exact nsr e
theorem da_readsAll (I : Inv X pins σ H s) : ∀ (ds : List PyData) (vs : List V) (us : List Value), DaAll X.K p H vs ds → Vals vs us → ∃ as, ReadsAll s.heap us ds as ∧ sysModules ∉ as
  | [], _, _, h, r => by
    cases h
    cases r
    exact ⟨_, .nil, List.not_mem_nil⟩
  | d :: ds, _, _, h, r => by
    cases h with
    | cons h1 h2 =>
      cases r with
      | cons r1 r2 =>
        obtain ⟨as, q1, n1⟩ := da_reads I d _ _ h1 r1
        obtain ⟨bs, q2, n2⟩ := da_readsAll I ds _ _ h2 r2
        exact ⟨_, .cons q1 q2, fun z => (List.mem_append.mp z).elim n1 n2⟩
theorem da_readsKv (I : Inv X pins σ H s) : ∀ (es : List (PyData × PyData)) (kvs : List (Key × V)) (vs : List (Key × Value)), DaKv X.K p H kvs es → KV kvs vs →
    ∃ as, ReadsAll s.heap (vs.map (·.2)) (es.map (·.2)) as ∧ sysModules ∉ as ∧ (vs.map fun kv => keyD kv.1) = es.map (·.1)
  | [], _, _, h, r => by
    cases h
    cases r
    exact ⟨_, .nil, List.not_mem_nil, rfl⟩
  | (k, d) :: es, _, _, h, r => by
    cases h with
    | cons h1 h2 =>
      cases r with
      | cons r1 r2 =>
        obtain ⟨as, q1, n1⟩ := da_reads I d _ _ h1 r1.2
        obtain ⟨bs, q2, n2, e⟩ := da_readsKv I es _ _ h2 r2
        refine ⟨_, .cons q1 q2, fun z => (List.mem_append.mp z).elim n1 n2, ?_⟩
        rw [List.map_cons, List.map_cons, e, ← r1.1]
end
end
section
variable {X : Cx}
def rReprA (K : PySem.W.Frag) : List V → Hp → VK → Prop := fun xs H Q => ∃ p v d, xs = [v] ∧ Da K p H v d ∧ d.showable = true ∧ d.depth ≤ 60 ∧ d.shown.length ≤ sizeLine ∧ Q (.str d.shown) H
theorem call_reprA (hg : Still X.A) (hu : X.A.units + 64 < cLine) : CallR X (.builtin "repr") (rReprA X.K) := by
  intro pins s σ H xs us Q I r h
  obtain ⟨p, v, d, rfl, hd, hs, hdp, hz, q⟩ := h
  obtain ⟨u, rfl, rv⟩ := vals1 r
  obtain ⟨as, rd, nsys⟩ := da_reads I d v u hd rv
  have fin : ∀ (h' : Heap) (t tk : Tok), (∀ b o, s.heap.get? b = some o → h'.get? b = some o) → EP X pins σ Q (.str d.shown t) { s with heap := h', toks := tk } :=
    fun h' t tk k => ⟨.str d.shown, H, inv_more I k, ⟨t, rfl⟩, q⟩
  cases hd with
  | non =>
    cases rv
    exact PySem.P.repr_of_none (by simpa only [PyData.shown] using fin s.heap _ _ fun _ _ e => e)
  | bl b =>
    cases rv
    exact PySem.P.repr_of_bool (by simpa only [PyData.shown] using fin s.heap _ _ fun _ _ e => e)
  | int i =>
    obtain ⟨t, rfl⟩ := rv
    exact PySem.P.repr_of_int (by simpa [PyData.showable] using hs) (by simpa only [PyData.shown] using fin s.heap _ _ fun _ _ e => e)
  | str x =>
    obtain ⟨t, rfl⟩ := rv
    exact PySem.P.repr_of_str (by simpa only [PyData.shown] using fin s.heap _ _ fun _ _ e => e) (by simpa only [PyData.shown] using hz)
  | lst _ _ _ =>
    cases rv
    exact PySem.repr_of_reads' rd hs (fun _ => nsys) hg (by omega) (fun _ _ e => e) (fun h' u tk k => fin h' u tk k) hz
  | tup _ _ =>
    cases rv
    exact PySem.repr_of_reads' rd hs (fun _ => nsys) hg (by omega) (fun _ _ e => e) (fun h' u tk k => fin h' u tk k) hz
  | dct _ _ _ =>
    cases rv
    exact PySem.repr_of_reads' rd hs (fun _ => nsys) hg (by omega) (fun _ _ e => e) (fun h' u tk k => fin h' u tk k) hz
end
/-! ### new lists: not at sys.modules -/
section
variable {X : Cx}
def tLstN (t : TA) : TE := fun σ H Q => t σ H fun xs H1 => xs.length ≤ sizeLine ∧ ∀ p, H1 p = none → p ≠ sysModules → Q (.ref p) (upd H1 p (.lst xs))
theorem pe_lstN {es : List Expr} {pos : Pos} {t : TA} (ha : PA X es t) : PE X (.List es pos) (tLstN t) := by
  constructor
  intro pins s0 σ H Q I q0
  refine wpAny_List_spliced (thn (ha.run pos pins s0 σ H _ I q0) fun us s1 ⟨ys, H2, I2, rv, zz, q1⟩ => ⟨by have := rv.length; omega, ?_⟩)
  have fresh := I2.hok.fresh (Nat.le_refl s1.heap.objs.size)
  have nsys : s1.heap.objs.size ≠ sysModules := Nat.ne_of_gt I2.big
  exact ⟨.ref s1.heap.objs.size, upd H2 s1.heap.objs.size (.lst ys), I2.laid (t' := s1.toks) (fun _ _ e => Heap.get?_push_of_some _ e) (Nat.le_refl _) ⟨zz, us, 0, rv, Heap.get?_push_size _ rfl⟩, rfl, q1 _ fresh nsys⟩
/-- list(t) of a tuple -/
theorem call_listN : CallR X (.type "list") (fun xs H Q => ∃ p ys, xs = [.ref p] ∧ SqT X.K H p ys ∧ ∀ l, H l = none → l ≠ sysModules → Q (.ref l) (upd H l (.lst ys))) := by
  intro pins s σ H xs us Q I rv ⟨p, ys, ex, ht, q⟩
  subst ex
  obtain ⟨u, rfl, r1⟩ := vals1 rv
  cases r1
  obtain ⟨its, rr, ⟨o, ho, hc, n, hd⟩, hz⟩ := I.tuple ht
  have ll := rr.length
  refine call_list_seq p (.inr rfl) ho hc hd (fun h' c' kp e => ?_) (by simp only [List.size_toArray]; omega)
  exact ⟨.ref s.heap.objs.size, _, I.laid (t' := s.toks) kp (Nat.le_refl _) (show ObjOk X.prog X.w _ h' _ (.lst ys) from ⟨hz, its, c', rr, e⟩), rfl, q _ (I.hok.fresh (Nat.le_refl _)) (Nat.ne_of_gt I.big)⟩
end
end My
set_option Elab.async false
set_option linter.all false
set_option maxRecDepth 100000
set_option maxHeartbeats 4000000
/-! {e for target in it}, e an int or a text; len of such a set. -/
namespace My
open PySem PySem.Spec PyProof.Rows L2
section
variable {X : Cx} {pins : List (Addr × Obj)} {σ : L2.St} {H : Hp} {s : Shared}
def noKeys : Key → Bool := fun _ => false
def withKey (S : Key → Bool) (k : Key) : Key → Bool := fun j => S j || decide (j = k)
def more (S : Key → Bool) (k : Key) (n : Nat) : Nat := if S k = true then n else n + 1
theorem keys_fresh {P : Program} {w : World} {h : Heap} : (h.push { cls := .type "set", dict := none, data := .set #[] 0 (.fresh 0 0 (!w.params.followText "set-order")) }).SetOf (mixKind P w) h.objs.size noKeys 0 := by
  refine ⟨_, #[], 0, _, Heap.get?_push_size _ rfl, ⟨rfl, rfl, rfl⟩, rfl, fun e z => ?_, fun k => ?_, by decide, by rfl, rfl⟩
  · exact absurd z (by simp)
  · unfold noKeys
    simp
/-- a key is added -/
theorem key_added {E : Value → Shared → Prop} {D : Addr} {S : Key → Bool} {n : Nat} {k : Key} {u : Value} {Q : Value → Shared → Prop} (I : Inv X pins σ H s) (e : H D = some (SetK X.prog X.w D S n)) (r : RelV (kV k) u) (room : n + 1 < scanBound)
    (q : ∀ s', Inv X pins σ (upd H D (SetK X.prog X.w D (withKey S k) (more S k n))) s' → Q .none s') : wpAny (model X.prog X.w) X.A (call (.builtin "set.add") [.ref D, u]) Q E s := by
  refine call_set_add (kV_is r) (key_scan r) (setK_get I e) room fun h' same now => ?_
  obtain ⟨ob, _, _, _, there, _⟩ := id now
  refine q _ (I.write (e := D) (t' := s.toks + 1) ?_ (.inl rfl) (fun b u ne hu => (same.2 b ne).trans hu) ⟨ob, there⟩ (setK_new now))
  rw [e]
  trivial
/-- what one turn wants of the element's key -/
def keyEnd (P : Program) (w : World) (D : Addr) (Nx : Hp → Prop) : VK := fun y H => ∃ (k : Key) (S : Key → Bool) (n : Nat), y = kV k ∧ H D = some (SetK P w D S n) ∧ n + 1 < scanBound ∧ Nx (upd H D (SetK P w D (withKey S k) (more S k n)))
/-- the comprehension's reading; D is the new set -/
def tSetC (P : Program) (w : World) (wi : TI) (g : TG) (te : TE) (vs : List Nat) : TE := fun σ H Q => wi σ H fun J H1 => ∀ D, H1 D = none →
  ∃ W : Nat → Nat → Hp → Prop, (∃ m, W 0 m (upd H1 D (SetK P w D noKeys 0))) ∧ ∀ i m H, W i m H → (J.stop i H ∧ Q (.ref D) H) ∨
    (J.go i H ∧ ∃ Nx : Hp → Prop, (∀ H', Nx H' → ∃ m', m' < m ∧ W (i + 1) m' H') ∧ ∀ x H', J.yld i H x H' → g x (wipe σ vs) H' fun σ2 H2 => wipe σ2 vs = wipe σ vs ∧ te σ2 H2 (keyEnd P w D Nx))
theorem pe_setc {elt tg iter : Expr} {scope : Scope} {own : List (PySem.Str × Nat)} {pos : Pos} {wi : TI} {g : TG} {te : TE} (calm : X.calm = true) (nd : X.N.Nodup) (hi : PI X tg iter wi) (ok : BlkOk X.N X.env.scope scope own)
    (hg : ∀ (s : Shared) (H : Hp) (C : Addr) (cl : List (PySem.Str × Addr)) (fp : List Addr), PG (X.blk s H scope (compEnvC scope cl C X.env) fp) tg g)
    (he : ∀ (s : Shared) (H : Hp) (C : Addr) (cl : List (PySem.Str × Addr)) (fp : List Addr), PE (X.blk s H scope (compEnvC scope cl C X.env) fp) elt te)
    (plain : ∀ x, foldedSetIterable iter X.env x = pure x := by intro _; rfl) : PE X (.SetComp elt [⟨tg, iter, [], 0⟩] scope pos) (tSetC X.prog X.w wi g te (own.map (·.2))) := by
  refine ⟨fun pins s σ H Q I h => ?_⟩
  rw [PpSet.eval_SetComp]
  have cells : ∀ y ∈ scope.names, y.2 = .free → ∃ c, X.env.cells.lookup y.1 = some c := fun y hy e =>
    (ok.free y hy e).elim (fun k => I.ok.has _ (.inl k)) fun k => I.ok.has _ (.inr k)
  refine wpAny_comprehension_free (use := none) rfl plain (closure_ok cells) ok.kind (fun y hy e => (ok.uniq y hy).trans (congrArg some e)) ?_
  refine thn (hi.run pins s σ H _ I h) fun xv sa walks => thn walks fun itv sb z => ?_
  obtain ⟨it, fp, tn, J, Hb, rfl, Ib, T, st, foot, q⟩ := z
  refine PpSet.newSet_ok (newEnv_comp ?_)
  generalize hD : sb.heap.objs.size = D
  have freeD : Hb D = none := Ib.hok.fresh (Nat.le_of_eq hD)
  obtain ⟨W, ⟨m0, w0⟩, turn⟩ := q D freeD
  generalize hc : ({ sb with heap := sb.heap.push { cls := .type "set", dict := none, data := .set #[] 0 (.fresh 0 0 (!X.w.params.followText "set-order")) } } : Shared) = sc
  have heapC : sc.heap = sb.heap.push { cls := .type "set", dict := none, data := .set #[] 0 (.fresh 0 0 (!X.w.params.followText "set-order")) } := by rw [← hc]
  have Ic : Inv X pins σ (upd Hb D (SetK X.prog X.w D noKeys 0)) sc := by
    rw [← hc]
    refine Ib.laid (t' := sb.toks) (fun b o e => Heap.get?_push_of_some _ e) (Nat.le_of_eq hD) ?_
    rw [← hD]
    exact setK_new keys_fresh
  have small : ∀ b ∈ fp, b < sb.heap.objs.size := fun b hb => let ⟨_, e, _⟩ := T.obj _ _ st b hb; Heap.lt_size e
  have footC : ∀ b ∈ fp, FpOk X pins (upd Hb D (SetK X.prog X.w D noKeys 0)) b ∧ b < sc.heap.objs.size := fun b hb => by
    have lt := small b hb
    refine ⟨⟨(upd_ne (hD ▸ Nat.ne_of_lt lt)).trans (foot b hb).1, (foot b hb).2⟩, ?_⟩
    rw [heapC, Heap.size_push]
    exact Nat.lt_succ_of_lt lt
  have stc : tn 0 sc.heap := T.keep _ _ _ st fun b _ o e => heapC ▸ Heap.get?_push_of_some _ e
  have In := block_start Ic ok nd footC
  let ce := compEnvC scope (cellsFrom (sc.heap.objs.size + 1) scope.names (cloFrom X.env.cells scope.names [])) sc.heap.objs.size X.env
  let Hc := upd Hb D (SetK X.prog X.w D noKeys 0)
  have pg : PG (X.blk sc Hc scope ce fp) tg g := hg _ _ _ _ _
  have pe : PE (X.blk sc Hc scope ce fp) elt te := he _ _ _ _ _
  let B := X.blk sc Hc scope ce fp
  have nfp : ∀ b ∈ fp, Hc b = none := fun b hb => (footC b hb).1.1
  generalize hd : ({ sc with heap := pushCells (sc.heap.push { cls := .type "dict", data := .dict #[] }) scope.names } : Shared) = sd at In
  have Id : Inv B [] (wipe σ (own.map (·.2))) Hc sd := In
  have std : tn 0 sd.heap := T.keep _ _ _ stc fun b _ o e => by rw [← hd]; exact pushCells_keeps _ _ _ _ (Heap.get?_push_of_some _ e)
  have stay : ∀ {σ' : L2.St} {H' : Hp} {s' : Shared}, Inv B [] σ' H' s' → (∀ b ∈ fp, H' b = none) → ∀ b ∈ fp, FpOk B [] H' b := fun {_ _ _} J no b hb =>
    ⟨no b hb, (J.ok.exf b hb).1, J.ok.exfs b hb, .inl hb, fun x c e => (J.ok.exf b hb).2 x c e, fun p hp => (List.not_mem_nil (List.append_nil ([] : List (Addr × Obj)) ▸ hp)).elim⟩
  have loop : codeAny (model X.prog X.w) X.A (.compLoop (.SetComp elt [⟨tg, iter, [], 0⟩] scope pos) 0 (.ref it) (.ref D) ce) (compPost (model X.prog X.w) X.A X.xe none (EP X pins σ Q) (.ref D) sc.heap.objs.size) sd := by
    refine PpSet.compLoopS_any (fun n s' => ∃ i H', Inv B [] (wipe σ (own.map (·.2))) H' s' ∧ tn i s'.heap ∧ (∀ b ∈ fp, H' b = none) ∧ W i n H') ?_ m0 ⟨0, Hc, Id, std, nfp, w0⟩
    rintro n se ⟨i, He, Ie, ste, ne, we⟩
    rcases turn i n He we with ⟨stop, fin⟩ | ⟨go, Nx, fall, step⟩
    · refine thnF (T.done B rfl rfl rfl calm i [] se _ He (fun _ _ => False) Ie (stay Ie ne) ste stop) fun r sf ⟨er, If⟩ => ?_
      subst er
      have Ig : Inv X pins σ He sf := Ic.call' (ch := fp) If.os If.base If.hok If.bare fun b hb => let f := (footC b hb).1; ⟨f.2.2.2.1, f.2.1, f.2.2.2.2.1, f.2.2.2.2.2⟩
      have noC : He sc.heap.objs.size = none := If.free
      obtain ⟨m, hn, _⟩ := If.loc
      obtain ⟨f0, f1, f2, f3, f4, f5⟩ := Ic.fpOk (Nat.le_refl _) noC
      exact ⟨m, hn, fun h'' sm => ⟨.ref D, He, Ig.turned (t' := sf.toks) (fun b o hb e => (sm.2 b hb).trans e) f0 f1 f3 f4 f5, rfl, fin⟩⟩
    · refine thnF (T.item B rfl rfl rfl calm i [] se _ He (fun _ _ => False) Ie (stay Ie ne) ste go) fun r sf ⟨u, er, hf⟩ => ?_
      subst er
      refine thnF hf fun _ sg ⟨x, Hg, Ig, rg, yg, stg, ng⟩ => ?_
      have Ip := Ig.pinned (stay Ig ng) (T.obj _ _ stg)
      refine thnF (pg.run _ sg _ Hg x u _ Ip rg (step x Hg yg)) fun _ sh ⟨σh, Hh, Ih, same, qh⟩ => ?_
      refine wpAny_tests_nil ?_
      rw [if_pos rfl]
      refine thnF (pe.run _ sh σh Hh _ Ih qh) fun v si ⟨yv, Hi, Ii, rv, k, S, c, ey, hDi, room, nx⟩ => ?_
      subst ey
      refine key_added (X := B) Ii hDi rv room fun sj Ij => ?_
      obtain ⟨m', lt, w'⟩ := fall _ nx
      have held : ∀ b ∈ fp, ∀ o, sg.heap.get? b = some o → sj.heap.get? b = some o ∧ (upd Hi D (SetK X.prog X.w D (withKey S k) (more S k c))) b = none := fun b hb o e =>
        let z := Ij.pin (b, o) (List.mem_append_right _ (List.mem_append_right _ (mem_pinsAt hb e)))
        ⟨z.1, z.2.1⟩
      have len : (wipe σ (own.map (·.2))).length = σh.length := by rw [← same, wipe_length]
      refine ⟨m', lt, i + 1, _, (Ij.unpinned (pins := [])).weak len (fun j v e => ?_), T.keep _ _ _ stg fun b hb o e => (held b hb o e).1, fun b hb => ?_, w'⟩
      · rw [← same] at e
        exact (wipe_some e).1
      · obtain ⟨o, e, _⟩ := T.obj _ _ stg b hb
        exact (held b hb o e).2
  exact PpSet.codeAny_compStart_set loop (T.self X.A 0 _ _ _ std loop)
end
end My
set_option Elab.async false
set_option linter.all false
set_option maxRecDepth 100000
set_option maxHeartbeats 8000000
/-! set(xs), xs a list (or a tuple) of ints and texts, any number of them; len of a set of such. -/
namespace My
open PySem PySem.Spec PyProof.Rows L2

theorem one_nodup {α : Type} (x : α) : [x].Nodup := List.nodup_cons.mpr ⟨List.not_mem_nil, List.nodup_nil⟩
open Classical in
/-- the keys met so far, each once -/
noncomputable def metK : List Key → List Key → List Key
  | seen, [] => seen
  | seen, k :: r => metK (if k ∈ seen then seen else seen ++ [k]) r
open Classical in
theorem metK_snoc : ∀ (xs seen : List Key) (k : Key), metK seen (xs ++ [k]) = if k ∈ metK seen xs then metK seen xs else metK seen xs ++ [k]
  | [], seen, k => rfl
  | x :: r, seen, k => metK_snoc r _ k
open Classical in
theorem mem_metK : ∀ (xs seen : List Key) (k : Key), k ∈ metK seen xs ↔ k ∈ seen ∨ k ∈ xs
  | [], seen, k => by simp [metK]
  | x :: r, seen, k => by
    rw [metK, mem_metK r]
    split
    · rename_i h
      constructor
      · rintro (z | z)
        · exact .inl z
        · exact .inr (List.mem_cons_of_mem _ z)
      · rintro (z | z)
        · exact .inl z
        · rcases List.mem_cons.mp z with e | z
          · subst e
            exact .inl h
          · exact .inr z
    · rw [List.mem_append, List.mem_singleton, List.mem_cons, or_assoc]
open Classical in
theorem nodup_metK : ∀ (xs seen : List Key), seen.Nodup → (metK seen xs).Nodup
  | [], _, h => h
  | x :: r, seen, h => by
    rw [metK]
    refine nodup_metK r _ ?_
    split
    · exact h
    · rename_i z
      exact List.nodup_append.mpr ⟨h, one_nodup x, fun a ha b hb e => z (by rw [List.mem_singleton.mp hb] at e; exact e ▸ ha)⟩
open Classical in
theorem len_metK_le : ∀ (xs seen : List Key), (metK seen xs).length ≤ seen.length + xs.length
  | [], _ => Nat.le_refl _
  | x :: r, seen => by
    rw [metK]
    have h := len_metK_le r (if x ∈ seen then seen else seen ++ [x])
    have : (if x ∈ seen then seen else seen ++ [x]).length ≤ seen.length + 1 := by
      split
      · omega
      · rw [List.length_append]; exact Nat.le_refl _
    rw [List.length_cons]
    omega
open Classical in
/-- as many as items just where all differ -/
theorem len_metK_eq : ∀ (xs seen : List Key), seen.Nodup → ((metK seen xs).length = seen.length + xs.length ↔ (seen ++ xs).Nodup)
  | [], seen, h => by simp [metK, h]
  | x :: r, seen, h => by
    rw [metK]
    by_cases z : x ∈ seen
    · rw [if_pos z]
      constructor
      · intro e
        have := len_metK_le r seen
        rw [List.length_cons] at e
        omega
      · intro nd
        have := (List.nodup_append.mp nd).2.2 x z x List.mem_cons_self
        exact absurd rfl this
    · rw [if_neg z]
      have nd : (seen ++ [x]).Nodup := List.nodup_append.mpr ⟨h, one_nodup x, fun a ha b hb e => z (by rw [List.mem_singleton.mp hb] at e; exact e ▸ ha)⟩
      have ih := len_metK_eq r (seen ++ [x]) nd
      rw [List.length_append, List.length_singleton, List.append_assoc] at ih
      rw [List.length_cons, show seen.length + (r.length + 1) = seen.length + 1 + r.length by omega]
      exact ih
open Classical in
noncomputable def inK (xs : List Key) : Key → Bool := fun k => decide (k ∈ xs)

section
variable {prog : Program} {w : World}
theorem setOf_eq {h : Heap} {a : Addr} {S T : Key → Bool} {n m : Nat} (R : h.SetOf (mixKind prog w) a S n) (e : ∀ k, S k = T k) (en : n = m) : h.SetOf (mixKind prog w) a T m := by
  cases (funext e : S = T)
  cases en
  exact R
open Classical in
theorem met_add {h : Heap} {a : Addr} {xs : List Key} {k : Key} (R : h.SetOf (mixKind prog w) a (fun j => inK (metK [] xs) j || decide (j = k)) (if inK (metK [] xs) k = true then (metK [] xs).length else (metK [] xs).length + 1)) :
    h.SetOf (mixKind prog w) a (inK (metK [] (xs ++ [k]))) (metK [] (xs ++ [k])).length := by
  refine setOf_eq R (fun j => ?_) ?_
  · unfold inK
    rw [metK_snoc]
    by_cases z : k ∈ metK [] xs
    · rw [if_pos z]
      by_cases e : j = k
      · subst e
        simp [z]
      · simp [e]
    · rw [if_neg z]
      by_cases e : j = k
      · simp [e]
      · simp [e]
  · unfold inK
    rw [metK_snoc]
    by_cases z : k ∈ metK [] xs
    · rw [if_pos z, if_pos (decide_eq_true z)]
    · rw [if_neg z, if_neg (by simpa using z), List.length_append]
      rfl
variable {A : Around} {R : Result → Shared → Prop} {it : Addr} {fp wr : List Addr} {G : Array GenState → Array GenState → Prop} {n : Nat} {Y : Nat → Value → Prop} {St : Nat → Shared → Prop}
/-- the filling loop -/
theorem fill_loop (W : WalksS prog w A.in1 it fp wr G n Y St) {D : Addr} (apart : D ∉ fp) {ks : List Key} (len : ks.length = n) (keys : ∀ i v, Y i v → ∃ k, ks[i]? = some k ∧ keyIs k v = true) (room : n + 1 < scanBound) :
    ∀ (left i : Nat) (s : Shared), i + left = n → St i s → s.heap.SetOf (mixKind prog w) D (inK (metK [] (ks.take i))) (metK [] (ks.take i)).length →
      (∀ s', Moved (D :: wr) G s s' → s'.heap.SetOf (mixKind prog w) D (inK (metK [] ks)) (metK [] ks).length → R (.ok (.ret .none)) s') → codeAny (model prog w) A (.builtin "set.update.loop" ⟨[.ref D, .ref it], []⟩) R s := by
  have notW : D ∉ wr := fun h => apart (W.sub _ h)
  have wide : ∀ b ∈ wr, b ∈ D :: wr := fun _ h => List.mem_cons_of_mem _ h
  have kept : ∀ {s s' : Shared} {S : Key → Bool} {m : Nat}, Moved wr G s s' → s.heap.SetOf (mixKind prog w) D S m → s'.heap.SetOf (mixKind prog w) D S m := fun mv q => setOf_at q fun o e => mv.heap D o notW e
  intro left
  induction left with
  | zero =>
    intro i s e st have_ go
    have all : i = n := e
    subst all
    refine codeAny_builtin PyProof.Rows.F.entry_set_update_loop ?_
    rw [Around.under_plainId PyProof.Rows.F.plain_set_update_loop _]
    refine (show wpAny _ A.in1 (pyNext (.ref it) >>= _) _ _ s from wpAny_bind (W.done s _ _ st fun s' mv => ?_))
    refine (show wpAny _ A.in1 (ret Value.none) _ _ s' from wpAny_pure (go s' (mv.mono wide) ?_))
    have q := kept mv have_
    rwa [List.take_of_length_le (Nat.le_of_eq len)] at q
  | succ left ih =>
    intro i s e st have_ go
    refine codeAny_builtin PyProof.Rows.F.entry_set_update_loop ?_
    rw [Around.under_plainId PyProof.Rows.F.plain_set_update_loop _]
    refine (show wpAny _ A.in1 (pyNext (.ref it) >>= _) _ _ s from wpAny_bind (W.item i s _ _ (by omega) st fun v s' yv st' mv => ?_))
    obtain ⟨k, hk, isk⟩ := keys i v yv
    have q := kept mv have_
    have few : (metK [] (ks.take i)).length ≤ i := by
      have h := len_metK_le (ks.take i) []
      rw [List.length_take, List.length_nil] at h
      omega
    have scan : v.scannable = true := by
      rcases keyIs_shape isk with ⟨_, _, _, rfl⟩ | ⟨_, _, _, rfl⟩ <;> rfl
    refine (show wpAny _ A.in1 (holding [v] (setAdd D v) >>= _) _ _ s' from wpAny_bind (wpAny_holding ?_))
    unfold setAdd
    refine wpAny_holding (wpAny_bind ((mixKind prog w).pyHash (k := k) isk ?_))
    refine wpAny_setAddHashed_of (knd := mixKind prog w) (s := { s' with toks := s'.toks + 1 }) isk scan q (by omega) fun h' same now => ?_
    have nowK := met_add now
    rw [show ks.take i ++ [k] = ks.take (i + 1) by rw [List.take_add_one, hk]; rfl] at nowK
    refine wpAny_pure ⟨plainId_quiet PyProof.Rows.F.plain_set_update_loop _, ih (i + 1) _ (by omega) (W.frame _ s' _ _ st' (Nat.le_succ _) fun b hb o e => ?_) nowK fun s'' mv' end_ => ?_⟩
    · exact (same.2 b fun z => apart (z ▸ hb)).trans e
    · exact go s'' (Moved.trans W.gtrans ((mv.mono wide).then_heap (Nat.le_succ _) fun b o hb e => (same.2 b fun z => hb (z ▸ List.mem_cons_self)).trans e) mv') end_
end

section
variable {prog : Program} {w : World} {A : Around} {E : Value → Shared → Prop} {s : Shared}
abbrev setOb (led : Bool) : Obj := { cls := .type "set", dict := none, data := .set #[] 0 (.fresh 0 0 led) }
theorem setFrom_list {l : Addr} {items : Array Value} {ks : List Key} {Q : Value → Shared → Prop} (calm : A.handled = none) (src : s.heap.IsList l items) (len : ks.length = items.size) (keys : ∀ (i : Nat) (v : Value), items[i]? = some v → ∃ k, ks[i]? = some k ∧ keyIs k v = true)
    (room : items.size + 1 < scanBound) (q : ∀ (h' : Heap) (tk : Nat), h'.SetOf (mixKind prog w) s.heap.objs.size (inK (metK [] ks)) (metK [] ks).length → (∀ b o, b < s.heap.objs.size → s.heap.get? b = some o → h'.get? b = some o) →
      Q (.ref s.heap.objs.size) { s with heap := h', toks := tk }) : wpAny (model prog w) A (call (.type "set") [.ref l]) Q E s := by
  obtain ⟨c0, t0, mro0⟩ := PySem.F.called_set.mro
  have made0 := PySem.F.called_set.made
  have sub0 := PySem.F.called_set.sub
  refine wpAny_call (codeAny_of_tree (show wpAny _ _ (callAny (.type "set") _) _ _ _ from ?_))
  refine wpAny_pure ⟨Code.quiet_builtin _ (by decide +kernel), codeAny_builtin PySem.F.entry_type_call ?_⟩
  rw [Around.under_plain (weight_type_call_type "set" [.ref l] []) rfl]
  have nt0 := PySem.F.called_set.notType
  have cc0 := PySem.F.called_set.canCreate
  have tc0 := PySem.F.typeCall_set_1 (.ref l)
  repeat (any_goals (first | assumption | wp_step))
  refine codeAny_mono (code_set_new_1 (.ref l) (E := E) (Q₁ := fun ob s1 => ∃ led : Bool, ob = .ref s.heap.objs.size ∧ s1 = { s with heap := s.heap.push (setOb led) }) fun led => ⟨led, rfl, rfl⟩) fun res s1 z => ?_
  match res, z with
  | .error e, z => exact z
  | .ok .next, z => exact z.elim
  | .ok .brk, z => exact z.elim
  | .ok .cont, z => exact z.elim
  | .ok (.ret ob), ⟨led, e1, e2⟩ =>
    subst e1
    subst e2
    have at0 : (s.heap.push (setOb led)).get? s.heap.objs.size = some (setOb led) := Heap.get?_push_size _ rfl
    have ty0 : Shared.TypeIs { s with heap := s.heap.push (setOb led) } (.ref s.heap.objs.size) "set" := ⟨_, at0, rfl⟩
    have li0 := PySem.F.called_set.init.lookup
    have bi0 := PySem.F.called_set.init.bind (.ref s.heap.objs.size)
    repeat (any_goals (first | assumption | wp_step))
    refine codeAny_mono (codeAny_call_builtin (R := wants (fun r s2 => r = .none ∧ ∃ h' tk, s2 = { s with heap := h', toks := tk } ∧ h'.SetOf (mixKind prog w) s.heap.objs.size (inK (metK [] ks)) (metK [] ks).length ∧
        (∀ b o, b < s.heap.objs.size → s.heap.get? b = some o → h'.get? b = some o)) E) PySem.F.called_set.init.plain PySem.F.entry_set_init (check_set_init_1 ty0 ?_)) fun res2 s2 z2 => ?_
    · obtain ⟨⟨cl, dc, dt, sl⟩, hol, hcl, nl, hdl⟩ := src
      simp only at hcl hdl
      subst hcl
      subst hdl
      have here : (s.heap.push (setOb led)).get? l = some { cls := .type "list", dict := dc, data := .seq items nl, slots := sl } := Heap.get?_push_of_some _ hol
      have su1 := PySem.F.sub_list_set
      have su2 := PySem.F.sub_list_frozenset
      have nd0 : (Value.type "list" == Value.type "dict") = false := by decide
      have src' : (s.heap.push (setOb led)).IsList l items := ⟨_, here, rfl, nl, rfl⟩
      unfold Builtin.«set.__init__» noKeywords Builtin.Frozenset.updateFrom
      generalize pz : pyIter = pzI
      wp_walk
      subst pz
      refine wpAny_pyIter_list src' (wpAny_bind (wpAny_runValue ?_))
      have below : l < s.heap.objs.size := Heap.lt_size hol
      have calm3 : A.in1.in1.in1.handled = none := by simp [calm]
      have sz1 : (s.heap.push (setOb led)).objs.size = s.heap.objs.size + 1 := Heap.size_push _ _
      have ne1 : l ≠ (s.heap.push (setOb led)).objs.size := by
        rw [sz1]
        exact Nat.ne_of_lt (Nat.lt_succ_of_lt below)
      have out : s.heap.objs.size ∉ [(s.heap.push (setOb led)).objs.size, l] := by
        rw [sz1]
        simp only [List.mem_cons, List.not_mem_nil, or_false, not_or]
        exact ⟨Nat.ne_of_lt (Nat.lt_succ_self _), Nat.ne_of_gt below⟩
      refine fill_loop ((Walks.list calm3 _ l ne1 items).toS) out len keys room items.size 0 _ (Nat.zero_add _) ⟨⟨_, Heap.get?_push_size _ rfl, rfl, rfl⟩, (src'.push _)⟩ ?_ fun s' mv end_ => ?_
      · have get0 : ((s.heap.push (setOb led)).push { cls := .type "list_iterator", data := .fields #[.ref l, .int 0 0] }).get? s.heap.objs.size = some (setOb led) := Heap.get?_push_of_some _ at0
        refine ⟨_, #[], 0, _, get0, ⟨rfl, rfl, rfl⟩, rfl, fun e z => absurd z (by simp), fun k => ?_, by decide, by rfl, rfl⟩
        simp [inK, metK]
      · obtain ⟨h', g', d', tk', os'⟩ := s'
        cases (show g' = s.gens from mv.gens)
        cases (show d' = s.drawn from mv.drawn)
        cases (show os' = s.os from mv.os)
        refine (show wpAny _ _ _ _ _ _ from wpAny_pure (show wpAny _ _ (ret Value.none) _ _ _ from wpAny_pure ⟨rfl, h', tk', rfl, end_, fun b o hb e => ?_⟩))
        refine mv.heap b o ?_ (Heap.get?_push_of_some _ (Heap.get?_push_of_some _ e))
        simp only [List.mem_cons, List.not_mem_nil, or_false, not_or]
        refine ⟨Nat.ne_of_lt hb, ?_⟩
        rw [sz1]
        exact Nat.ne_of_lt (Nat.lt_succ_of_lt hb)
    · match res2, z2 with
      | .error e, z2 => exact z2
      | .ok .next, z2 => exact z2.elim
      | .ok .brk, z2 => exact z2.elim
      | .ok .cont, z2 => exact z2.elim
      | .ok (.ret r), ⟨e1, h', tk, e2, end_, keep⟩ =>
        subst e1
        subst e2
        repeat (any_goals (first | assumption | wp_step))
        exact q _ _ end_ keep
end

section
variable {prog : Program} {w : World} {A : Around} {E : Value → Shared → Prop} {s : Shared}
theorem setFrom_tuple {l : Addr} {items : Array Value} {ks : List Key} {Q : Value → Shared → Prop} (calm : A.handled = none) (src : s.heap.IsTuple l items) (len : ks.length = items.size) (keys : ∀ (i : Nat) (v : Value), items[i]? = some v → ∃ k, ks[i]? = some k ∧ keyIs k v = true)
    (room : items.size + 1 < scanBound) (q : ∀ (h' : Heap) (tk : Nat), h'.SetOf (mixKind prog w) s.heap.objs.size (inK (metK [] ks)) (metK [] ks).length → (∀ b o, b < s.heap.objs.size → s.heap.get? b = some o → h'.get? b = some o) →
      Q (.ref s.heap.objs.size) { s with heap := h', toks := tk }) : wpAny (model prog w) A (call (.type "set") [.ref l]) Q E s := by
  obtain ⟨c0, t0, mro0⟩ := PySem.F.called_set.mro
  have made0 := PySem.F.called_set.made
  have sub0 := PySem.F.called_set.sub
  refine wpAny_call (codeAny_of_tree (show wpAny _ _ (callAny (.type "set") _) _ _ _ from ?_))
  refine wpAny_pure ⟨Code.quiet_builtin _ (by decide +kernel), codeAny_builtin PySem.F.entry_type_call ?_⟩
  rw [Around.under_plain (weight_type_call_type "set" [.ref l] []) rfl]
  have nt0 := PySem.F.called_set.notType
  have cc0 := PySem.F.called_set.canCreate
  have tc0 := PySem.F.typeCall_set_1 (.ref l)
  repeat (any_goals (first | assumption | wp_step))
  refine codeAny_mono (code_set_new_1 (.ref l) (E := E) (Q₁ := fun ob s1 => ∃ led : Bool, ob = .ref s.heap.objs.size ∧ s1 = { s with heap := s.heap.push (setOb led) }) fun led => ⟨led, rfl, rfl⟩) fun res s1 z => ?_
  match res, z with
  | .error e, z => exact z
  | .ok .next, z => exact z.elim
  | .ok .brk, z => exact z.elim
  | .ok .cont, z => exact z.elim
  | .ok (.ret ob), ⟨led, e1, e2⟩ =>
    subst e1
    subst e2
    have at0 : (s.heap.push (setOb led)).get? s.heap.objs.size = some (setOb led) := Heap.get?_push_size _ rfl
    have ty0 : Shared.TypeIs { s with heap := s.heap.push (setOb led) } (.ref s.heap.objs.size) "set" := ⟨_, at0, rfl⟩
    have li0 := PySem.F.called_set.init.lookup
    have bi0 := PySem.F.called_set.init.bind (.ref s.heap.objs.size)
    repeat (any_goals (first | assumption | wp_step))
    refine codeAny_mono (codeAny_call_builtin (R := wants (fun r s2 => r = .none ∧ ∃ h' tk, s2 = { s with heap := h', toks := tk } ∧ h'.SetOf (mixKind prog w) s.heap.objs.size (inK (metK [] ks)) (metK [] ks).length ∧
        (∀ b o, b < s.heap.objs.size → s.heap.get? b = some o → h'.get? b = some o)) E) PySem.F.called_set.init.plain PySem.F.entry_set_init (check_set_init_1 ty0 ?_)) fun res2 s2 z2 => ?_
    · obtain ⟨⟨cl, dc, dt, sl⟩, hol, hcl, nl, hdl⟩ := src
      simp only at hcl hdl
      subst hcl
      subst hdl
      have here : (s.heap.push (setOb led)).get? l = some { cls := .type "tuple", dict := dc, data := .seq items nl, slots := sl } := Heap.get?_push_of_some _ hol
      have su1 := PySem.F.sub_tuple_set
      have su2 := PySem.F.sub_tuple_frozenset
      have nd0 : (Value.type "tuple" == Value.type "dict") = false := by decide
      have src' : (s.heap.push (setOb led)).IsTuple l items := ⟨_, here, rfl, nl, rfl⟩
      unfold Builtin.«set.__init__» noKeywords Builtin.Frozenset.updateFrom
      generalize pz : pyIter = pzI
      wp_walk
      subst pz
      refine wpAny_pyIter_tuple src' (wpAny_bind (wpAny_runValue ?_))
      have below : l < s.heap.objs.size := Heap.lt_size hol
      have calm3 : A.in1.in1.in1.handled = none := by simp [calm]
      have sz1 : (s.heap.push (setOb led)).objs.size = s.heap.objs.size + 1 := Heap.size_push _ _
      have ne1 : l ≠ (s.heap.push (setOb led)).objs.size := by
        rw [sz1]
        exact Nat.ne_of_lt (Nat.lt_succ_of_lt below)
      have out : s.heap.objs.size ∉ [(s.heap.push (setOb led)).objs.size, l] := by
        rw [sz1]
        simp only [List.mem_cons, List.not_mem_nil, or_false, not_or]
        exact ⟨Nat.ne_of_lt (Nat.lt_succ_self _), Nat.ne_of_gt below⟩
      refine fill_loop ((Walks.tuple calm3 _ l ne1 items).toS) out len keys room items.size 0 _ (Nat.zero_add _) ⟨⟨_, Heap.get?_push_size _ rfl, rfl, rfl⟩, (src'.push _)⟩ ?_ fun s' mv end_ => ?_
      · have get0 : ((s.heap.push (setOb led)).push { cls := .type "tuple_iterator", data := .fields #[.ref l, .int 0 0] }).get? s.heap.objs.size = some (setOb led) := Heap.get?_push_of_some _ at0
        refine ⟨_, #[], 0, _, get0, ⟨rfl, rfl, rfl⟩, rfl, fun e z => absurd z (by simp), fun k => ?_, by decide, by rfl, rfl⟩
        simp [inK, metK]
      · obtain ⟨h', g', d', tk', os'⟩ := s'
        cases (show g' = s.gens from mv.gens)
        cases (show d' = s.drawn from mv.drawn)
        cases (show os' = s.os from mv.os)
        refine (show wpAny _ _ _ _ _ _ from wpAny_pure (show wpAny _ _ (ret Value.none) _ _ _ from wpAny_pure ⟨rfl, h', tk', rfl, end_, fun b o hb e => ?_⟩))
        refine mv.heap b o ?_ (Heap.get?_push_of_some _ (Heap.get?_push_of_some _ e))
        simp only [List.mem_cons, List.not_mem_nil, or_false, not_or]
        refine ⟨Nat.ne_of_lt hb, ?_⟩
        rw [sz1]
        exact Nat.ne_of_lt (Nat.lt_succ_of_lt hb)
    · match res2, z2 with
      | .error e, z2 => exact z2
      | .ok .next, z2 => exact z2.elim
      | .ok .brk, z2 => exact z2.elim
      | .ok .cont, z2 => exact z2.elim
      | .ok (.ret r), ⟨e1, h', tk, e2, end_, keep⟩ =>
        subst e1
        subst e2
        repeat (any_goals (first | assumption | wp_step))
        exact q _ _ end_ keep
end
end My
set_option Elab.async false
set_option linter.all false
set_option maxRecDepth 100000
set_option maxHeartbeats 4000000
/-! set(xs), len of a set, {.. for .. in t}: the rules and their turns. -/
namespace My
open PySem PySem.Spec PyProof.Rows L2
section
variable {X : Cx}
theorem vals_keys : ∀ {ks : List Key} {us : List Value}, Vals (ks.map kV) us → ∀ (i : Nat) (v : Value), us[i]? = some v → ∃ k, ks[i]? = some k ∧ keyIs k v = true
  | [], _, .nil, i, v, h => by simp at h
  | k :: r, _, .cons a b, 0, v, h => ⟨k, rfl, by
    cases h
    cases k with
    | inl i =>
      obtain ⟨t, rfl⟩ := a
      exact keyIs_int i t
    | inr x =>
      obtain ⟨t, rfl⟩ := a
      exact keyIs_str x t⟩
  | k :: r, _, .cons a b, i + 1, v, h => vals_keys b i v h
/-- set(xs) -/
def rSetOf (K : PySem.W.Frag) (P : Program) (w : World) : List V → Hp → VK → Prop := fun xs H Q => ∃ (a : Addr) (ks : List Key), xs = [.ref a] ∧ (SqL K H a (ks.map kV) ∨ SqT K H a (ks.map kV)) ∧ ks.length ≤ 1000 ∧
  ∀ p, H p = none → Q (.ref p) (upd H p (SetK P w p (inK (metK [] ks)) (metK [] ks).length))
theorem call_setOf (calm : X.calm = true) : CallR X (.type "set") (rSetOf X.K X.prog X.w) := by
  intro pins s σ H xs us Q I r h
  obtain ⟨a, ks, rfl, hs, hl, q⟩ := h
  obtain ⟨u, rfl, rx⟩ := vals1 r
  cases rx
  have fin : ∀ (h' : Heap) (tk : Nat), h'.SetOf (mixKind X.prog X.w) s.heap.objs.size (inK (metK [] ks)) (metK [] ks).length → (∀ b o, b < s.heap.objs.size → s.heap.get? b = some o → h'.get? b = some o) →
      EP X pins σ Q (.ref s.heap.objs.size) { s with heap := h', toks := tk } := fun h' tk R k =>
    ⟨.ref _, upd H s.heap.objs.size (SetK X.prog X.w s.heap.objs.size (inK (metK [] ks)) (metK [] ks).length), I.laid (t' := tk) (fun b o e => k b o (Heap.lt_size e) e) (Nat.le_refl _) (setK_new R), rfl, q _ (I.hok.fresh (Nat.le_refl _))⟩
  have sb : ks.length + 1 < scanBound := by unfold scanBound; omega
  rcases hs with hs | hs
  · obtain ⟨its, rv, pl, _⟩ := I.list hs
    have el : ks.length = its.toArray.size := by rw [List.size_toArray, ← rv.length, List.length_map]
    exact setFrom_list (I.ok.hd calm) pl.isList el (fun i v e => vals_keys rv i v (by simpa using e)) (by rw [← el]; exact sb) fin
  · obtain ⟨its, rv, pl, _⟩ := I.tuple hs
    have el : ks.length = its.toArray.size := by rw [List.size_toArray, ← rv.length, List.length_map]
    exact setFrom_tuple (I.ok.hd calm) pl el (fun i v e => vals_keys rv i v (by simpa using e)) (by rw [← el]; exact sb) fin
/-- len of a set -/
def rLenK (P : Program) (w : World) : List V → Hp → VK → Prop := fun xs H Q => ∃ (a : Addr) (S : Key → Bool) (n : Nat), xs = [.ref a] ∧ H a = some (SetK P w a S n) ∧ n ≤ 100000 ∧ Q (.int (n : Int)) H
theorem call_lenK : CallR X (.builtin "len") (rLenK X.prog X.w) := by
  intro pins s σ H xs us Q I r h
  obtain ⟨a, S, n, rfl, hs, hn, q⟩ := h
  obtain ⟨u, rfl, rx⟩ := vals1 r
  cases rx
  obtain ⟨o, es, ep, t, ho, hex, hd, _, _, _, hf, en⟩ := setK_get I hs
  exact call_len_set ho hex hd hf (by rw [en] <;> omega) ⟨.int (n : Int), H, I.tok _, ⟨_, by rw [en]⟩, q⟩
end
/-- a set comprehension over a tuple that the block leaves as it is -/
theorem setc_tup {P : Program} {w : World} {K : PySem.W.Frag} {a : Addr} {xs : List V} {g : TG} {te : TE} {vs : List Nat} {σ : L2.St} {H1 : Hp} {D : Addr} {Qd : Hp → Prop} (Pv : Nat → Hp → Prop) (h0 : Pv 0 (upd H1 D (SetK P w D noKeys 0)))
    (hl : ∀ i H, i ≤ xs.length → Pv i H → SqT K H a xs) (hs : ∀ i x H, xs[i]? = some x → Pv i H → g x (wipe σ vs) H fun σ2 H2 => wipe σ2 vs = wipe σ vs ∧ te σ2 H2 (keyEnd P w D (Pv (i + 1)))) (hd : ∀ H, Pv xs.length H → Qd H) :
    ∃ W : Nat → Nat → Hp → Prop, (∃ m, W 0 m (upd H1 D (SetK P w D noKeys 0))) ∧ ∀ i m H, W i m H → ((Itt K a).stop i H ∧ Qd H) ∨
      ((Itt K a).go i H ∧ ∃ Nx : Hp → Prop, (∀ H', Nx H' → ∃ m', m' < m ∧ W (i + 1) m' H') ∧ ∀ x H', (Itt K a).yld i H x H' → g x (wipe σ vs) H' fun σ2 H2 => wipe σ2 vs = wipe σ vs ∧ te σ2 H2 (keyEnd P w D Nx)) := by
  refine ⟨fun i m H => i + m = xs.length ∧ Pv i H, ⟨xs.length, Nat.zero_add _, h0⟩, fun i m H ⟨e, p⟩ => ?_⟩
  have there := hl i H (by omega) p
  cases m with
  | zero =>
    cases e
    exact .inl ⟨⟨xs, there, Nat.le_refl _⟩, hd H p⟩
  | succ m =>
    have lt : i < xs.length := by omega
    refine .inr ⟨⟨xs, xs[i], there, List.getElem?_eq_getElem lt⟩, Pv (i + 1), fun H' p' => ⟨m, Nat.lt_succ_self m, by omega, p'⟩, fun x H' y => ?_⟩
    obtain ⟨rfl, y⟩ := y
    exact hs i x _ (y xs there) p
end My
set_option Elab.async false
set_option linter.all false
set_option maxRecDepth 100000
set_option maxHeartbeats 4000000
namespace My
open PySem PySem.Spec PyProof.Rows L2 SeqAt
section
variable {X : Cx}
theorem op_eqNil (hu : X.A.units + 64 < cLine) : OpR X (compareOp .Eq) (rNil X.K id) := by
  intro pins s σ H x y v u Q I rx ry h
  obtain ⟨a, b, xs, rfl, rfl, h, q⟩ := h
  cases rx
  cases ry
  rcases h with ⟨ha, hb⟩ | ⟨ha, hb⟩
  · obtain ⟨its, rv, ⟨o, n, ho, hc, _, hd⟩, _⟩ := I.list ha
    obtain ⟨its2, rv2, ⟨o2, n2, ho2, hc2, _, hd2⟩, _⟩ := I.list hb
    cases vals_nil rv2
    have l1 : s.heap.IsList a its.toArray := ⟨o, ho, hc, n, hd⟩
    have l2 : s.heap.IsList b #[] := ⟨o2, ho2, hc2, n2, hd2⟩
    cases rv with
    | nil => exact RcAt.lists (e := fun _ => true) l1 l2 rfl (by omega) (fun j h1 => absurd h1 (Nat.not_lt_zero j)) _ _ _ _ ⟨.bl _, H, I, rfl, q⟩
    | cons r t => exact RcAt.lists_lengths l1 l2 (by simp) (by omega) _ _ _ _ ⟨.bl _, H, I, rfl, q⟩
  · obtain ⟨its, rv, ⟨o, ho, hc, n, hd⟩, _⟩ := I.tuple ha
    obtain ⟨its2, rv2, ⟨o2, ho2, hc2, n2, hd2⟩, _⟩ := I.tuple hb
    cases vals_nil rv2
    have l1 : s.heap.IsTuple a its.toArray := ⟨o, ho, hc, n, hd⟩
    have l2 : s.heap.IsTuple b #[] := ⟨o2, ho2, hc2, n2, hd2⟩
    refine RcAt.tuples (e := fun _ => true) l1 l2 (by omega) (fun j _ h2 => absurd h2 (Nat.not_lt_zero j)) _ _ _ _ ?_
    rw [show min its.toArray.size (#[] : Array Value).size = 0 from Nat.min_zero _]
    refine ⟨.bl xs.isEmpty, H, I, ?_, q⟩
    show Value.bool _ = Value.bool _
    rw [← vals_emp rv]
    simp
end
/-! ### a comprehension over anything of a known length -/
theorem lcJ {J : It} {n : Nat} {g : TG} {tt : TT} {te : TE} {vs : List Nat} {σ : L2.St} {H1 : Hp} {D : Addr} {Qd : Hp → Prop} (Pv : Nat → Hp → Prop) (h0 : Pv 0 (upd H1 D (.lst []))) (go : ∀ i H, i < n → Pv i H → J.go i H) (stop : ∀ H, Pv n H → J.stop n H)
    (hs : ∀ i H x H', i < n → Pv i H → J.yld i H x H' → g x (wipe σ vs) H' fun σ2 H2 => wipe σ2 vs = wipe σ vs ∧ tt σ2 H2 fun b H3 =>
      if b = true then te σ2 H3 fun y H4 => ∃ acc, H4 D = some (.lst acc) ∧ acc.length < sizeLine ∧ Pv (i + 1) (upd H4 D (.lst (acc ++ [y]))) else Pv (i + 1) H3) (hd : ∀ H, Pv n H → Qd H) :
    ∃ W : Nat → Nat → Hp → Prop, (∃ m, W 0 m (upd H1 D (.lst []))) ∧ ∀ i m H, W i m H → (J.stop i H ∧ Qd H) ∨
      (J.go i H ∧ ∃ Nx : Hp → Prop, (∀ H', Nx H' → ∃ m', m' < m ∧ W (i + 1) m' H') ∧ ∀ x H', J.yld i H x H' → g x (wipe σ vs) H' fun σ2 H2 => wipe σ2 vs = wipe σ vs ∧ tt σ2 H2 fun b H3 =>
        if b = true then te σ2 H3 fun y H4 => ∃ acc, H4 D = some (.lst acc) ∧ acc.length < sizeLine ∧ Nx (upd H4 D (.lst (acc ++ [y]))) else Nx H3) := by
  refine ⟨fun i m H => i + m = n ∧ Pv i H, ⟨n, Nat.zero_add _, h0⟩, fun i m H ⟨e, p⟩ => ?_⟩
  cases m with
  | zero =>
    cases e
    exact .inl ⟨stop H p, hd H p⟩
  | succ m => exact .inr ⟨go i H (by omega) p, Pv (i + 1), fun H' p' => ⟨m, Nat.lt_succ_self m, by omega, p'⟩, fun x H' y => hs i H x H' (by omega) p y⟩
/-- .. over a text's signs, no test -/
def lcN_str {x : Str} {te : TE} {vs : List Nat} {σ : L2.St} {H1 : Hp} {D : Addr} {Qd : Hp → Prop} {j : Nat} (Pv : Nat → Hp → Prop) (h0 : Pv 0 (upd H1 D (.lst [])))
    (hs : ∀ i c H, x.cps.toList[i]? = some c → Pv i H → wipe ((wipe σ vs).set j (some (.str (sign c)))) vs = wipe σ vs ∧ Grows te D (Pv (i + 1)) ((wipe σ vs).set j (some (.str (sign c)))) H) (hd : ∀ H, Pv x.length H → Qd H) :=
  lcJ (J := Its x) (n := x.length) (g := gName j) (tt := tYes) (te := te) (vs := vs) (σ := σ) (H1 := H1) (D := D) (Qd := Qd) Pv h0 (fun i H lt _ => lt) (fun H _ => Nat.le_refl _)
    (fun i H v H' lt p y => by
      obtain ⟨rfl, c, e, rfl⟩ := y
      have e' : x.cps.toList[i]? = some c := by rw [Array.getElem?_toList]; exact e
      exact yes_turn (hs i c _ e' p).1 (hs i c _ e' p).2) hd
/-- .. with a test whose answer is known and which leaves the heap -/
def lcT_str {x : Str} {tt : TT} {te : TE} {vs : List Nat} {σ : L2.St} {H1 : Hp} {D : Addr} {Qd : Hp → Prop} {j : Nat} (b : Nat → Bool) (Pv : Nat → Hp → Prop) (h0 : Pv 0 (upd H1 D (.lst [])))
    (hs : ∀ i c H, x.cps.toList[i]? = some c → Pv i H → wipe ((wipe σ vs).set j (some (.str (sign c)))) vs = wipe σ vs ∧ (∀ Q : Bool → Hp → Prop, Q (b c) H → tt ((wipe σ vs).set j (some (.str (sign c)))) H Q) ∧
      (b c = true → Grows te D (Pv (i + 1)) ((wipe σ vs).set j (some (.str (sign c)))) H) ∧ (b c = false → Pv (i + 1) H)) (hd : ∀ H, Pv x.length H → Qd H) :=
  lcJ (J := Its x) (n := x.length) (g := gName j) (tt := tt) (te := te) (vs := vs) (σ := σ) (H1 := H1) (D := D) (Qd := Qd) Pv h0 (fun i H lt _ => lt) (fun H _ => Nat.le_refl _)
    (fun i H v H' lt p y => by
      obtain ⟨rfl, c, e, rfl⟩ := y
      have e' : x.cps.toList[i]? = some c := by rw [Array.getElem?_toList]; exact e
      obtain ⟨w1, w2, w3, w4⟩ := hs i c _ e' p
      refine ⟨w1, w2 _ ?_⟩
      cases hb : b c with
      | true => exact iteT (w3 hb)
      | false => exact iteF (w4 hb)) hd

/-! ### kinds -/
def kindD : PyData → String
  | .none => "NoneType"
  | .bool _ => "bool"
  | .int _ => "int"
  | .str _ => "str"
  | .list _ => "list"
  | .tuple _ => "tuple"
  | .dict _ => "dict"
theorem da_ty {K : PySem.W.Frag} {p : Addr} {H : Hp} : ∀ {d : PyData} {v : V}, Da K p H v d → TyX K H v (.type (kindD d))
  | _, _, .non => .base .non
  | _, _, .bl b => .base (.bl b)
  | _, _, .int i => .base (.int i)
  | _, _, .str x => .base (.str x)
  | _, _, .lst _ h _ => by
    rcases h with (h | ⟨o, h⟩) | ⟨o, its, n, h, c, _⟩
    · exact .base (.lst h)
    · exact .base (.frz h)
    · exact .kList h c
  | _, _, .tup h _ => by
    rcases h with (h | ⟨o, h⟩) | ⟨o, its, n, h, c, _⟩
    · exact .base (.tup h)
    · exact .fTuple h
    · exact .kTuple h c
  | _, _, .dct _ h _ => .base (.dK h)
def isStr : PyData → Bool
  | .str _ => true
  | _ => false
def isTup : PyData → Bool
  | .tuple _ => true
  | _ => false
def isInt : PyData → Bool
  | .int _ => true
  | .bool _ => true
  | _ => false
def isBool : PyData → Bool
  | .bool _ => true
  | _ => false
theorem kit_str : ∀ d : PyData, kitB (kindD d) "str" = some (isStr d)
  | .none => (show kitB "NoneType" "str" = some false by decide +kernel)
  | .bool _ => (show kitB "bool" "str" = some false by decide +kernel)
  | .int _ => (show kitB "int" "str" = some false by decide +kernel)
  | .str _ => (show kitB "str" "str" = some true by decide +kernel)
  | .list _ => (show kitB "list" "str" = some false by decide +kernel)
  | .tuple _ => (show kitB "tuple" "str" = some false by decide +kernel)
  | .dict _ => (show kitB "dict" "str" = some false by decide +kernel)
theorem kit_tuple : ∀ d : PyData, kitB (kindD d) "tuple" = some (isTup d)
  | .none => (show kitB "NoneType" "tuple" = some false by decide +kernel)
  | .bool _ => (show kitB "bool" "tuple" = some false by decide +kernel)
  | .int _ => (show kitB "int" "tuple" = some false by decide +kernel)
  | .str _ => (show kitB "str" "tuple" = some false by decide +kernel)
  | .list _ => (show kitB "list" "tuple" = some false by decide +kernel)
  | .tuple _ => (show kitB "tuple" "tuple" = some true by decide +kernel)
  | .dict _ => (show kitB "dict" "tuple" = some false by decide +kernel)
theorem kit_int : ∀ d : PyData, kitB (kindD d) "int" = some (isInt d)
  | .none => (show kitB "NoneType" "int" = some false by decide +kernel)
  | .bool _ => (show kitB "bool" "int" = some true by decide +kernel)
  | .int _ => (show kitB "int" "int" = some true by decide +kernel)
  | .str _ => (show kitB "str" "int" = some false by decide +kernel)
  | .list _ => (show kitB "list" "int" = some false by decide +kernel)
  | .tuple _ => (show kitB "tuple" "int" = some false by decide +kernel)
  | .dict _ => (show kitB "dict" "int" = some false by decide +kernel)
theorem kit_bool : ∀ d : PyData, kitB (kindD d) "bool" = some (isBool d)
  | .none => (show kitB "NoneType" "bool" = some false by decide +kernel)
  | .bool _ => (show kitB "bool" "bool" = some true by decide +kernel)
  | .int _ => (show kitB "int" "bool" = some false by decide +kernel)
  | .str _ => (show kitB "str" "bool" = some false by decide +kernel)
  | .list _ => (show kitB "list" "bool" = some false by decide +kernel)
  | .tuple _ => (show kitB "tuple" "bool" = some false by decide +kernel)
  | .dict _ => (show kitB "dict" "bool" = some false by decide +kernel)
section
variable {K : PySem.W.Frag} {p : Addr} {H : Hp} {v : V} {d : PyData} {Q : VK}
theorem isi_str (h : Da K p H v d) (q : Q (.bl (isStr d)) H) : rIsi K [v, .ty "str"] H Q := ⟨v, _, _, _, _, rfl, .ty _, da_ty h, kit_ty (kit_str d), q⟩
theorem isi_tup (h : Da K p H v d) (q : Q (.bl (isTup d)) H) : rIsi K [v, .ty "tuple"] H Q := ⟨v, _, _, _, _, rfl, .ty _, da_ty h, kit_ty (kit_tuple d), q⟩
theorem isi_int (h : Da K p H v d) (q : Q (.bl (isInt d)) H) : rIsi K [v, .ty "int"] H Q := ⟨v, _, _, _, _, rfl, .ty _, da_ty h, kit_ty (kit_int d), q⟩
theorem isi_bool (h : Da K p H v d) (q : Q (.bl (isBool d)) H) : rIsi K [v, .ty "bool"] H Q := ⟨v, _, _, _, _, rfl, .ty _, da_ty h, kit_ty (kit_bool d), q⟩
end
end My
set_option Elab.async false
set_option linter.all false
set_option maxRecDepth 100000
set_option maxHeartbeats 4000000
namespace My
open PySem PySem.Spec PyProof.Rows L2

/-! ### what is a name, an integer, an end, a row -/
def lowC (c : Nat) : Bool := decide (97 ≤ c ∧ c ≤ 122)
def nmS (x : Str) : Bool := decide (1 ≤ x.length ∧ x.length ≤ 8) && x.cps.toList.all lowC
def nmD : PyData → Bool
  | .str x => nmS x
  | _ => false
def intD : PyData → Bool
  | .int _ => true
  | _ => false
theorem mem_abc (c : Nat) : decide (c ∈ abc.cps.toList) = lowC c := by
  rw [abc_codes]
  unfold lowC
  by_cases h : 97 ≤ c ∧ c ≤ 122
  · rw [decide_eq_true h, decide_eq_true (List.mem_map.mpr ⟨c - 97, List.mem_range.mpr (by omega), by omega⟩)]
  · rw [decide_eq_false h, decide_eq_false fun z => ?_]
    obtain ⟨j, hj, rfl⟩ := List.mem_map.mp z
    have := List.mem_range.mp hj
    exact h (by omega)
/-- texts and lists of a length that the model carries -/
def fitS (x : Str) : Prop := x.length ≤ 100000

section
variable {P : Program} {w : World} {K : PySem.W.Frag} {mg : Str → Option Value} {base : Heap} {t1 t2 : Tok}
def spIsInt (K : PySem.W.Frag) : Sp := fun vs H Q _ => ∃ (p : Addr) (v : V) (d : PyData), vs = [v] ∧ Da K p H v d ∧ Q (.bl (intD d)) H
/-- the names of the module that these defs read -/
structure Glb (mg : Str → Option Value) : Prop where
  isi : mg "isinstance" = none
  int : mg "int" = none
  bool : mg "bool" = none
  str : mg "str" = none
  tuple : mg "tuple" = none
  list : mg "list" = none
  len : mg "len" = none
  all : mg "all" = none
  set : mg "set" = none
  range : mg "range" = none
  abs : mg "abs" = none
  repr : mg "repr" = none
theorem ok_isint {f : Addr} {fd : FuncData} (F : Fun K "is_integer" "is_integer" sIsInt f fd) (B : Glb mg) : FnOk P w K mg base CX0 1 f fd ["value"] (spIsInt K) := by
  refine F.ok scIsInt (fun vs H Q E h => ?_) (fun cdv A outer s H vs Q E hr h => ?_)
  · obtain ⟨p, v, d, rfl, _⟩ := h
    rfl
  · obtain ⟨p, v, d, rfl, D, q⟩ := h
    refine ⟨_, pss_one (ps_ret (pe_and (pe_callB call_isi (by rfl) B.isi boot_isinstance (pa_cons (pv 0) (pa_cons (pe_bltn (v := .ty "int") (by rfl) B.int boot_int rfl) pa_nil)))
      (pe_one (pe_not (pe_callB call_isi (by rfl) B.isi boot_isinstance (pa_cons (pv 0) (pa_cons (pe_bltn (v := .ty "bool") (by rfl) B.bool boot_bool rfl) pa_nil))))))), ?_⟩
    refine ⟨_, rfl, v, _, _, _, _, rfl, .ty _, da_ty D, kit_ty (kit_int d), _, rfl, ?_⟩
    cases hi : isInt d with
    | true =>
      refine iteT ⟨_, rfl, v, _, _, _, _, rfl, .ty _, da_ty D, kit_ty (kit_bool d), _, rfl, ?_⟩
      have e : (!isBool d) = intD d := by cases d <;> first | rfl | cases hi
      rw [e]
      exact q
    | false =>
      refine iteF ?_
      have e : false = intD d := by cases d <;> first | rfl | cases hi
      rw [e]
      exact q
/-- is_name: of any value, for texts of a length that is carried; nothing that is tracked changes -/
def spIsName (K : PySem.W.Frag) : Sp := fun vs H Q _ => ∃ (p : Addr) (v : V) (d : PyData), vs = [v] ∧ Da K p H v d ∧ (∀ x, d = .str x → x.length ≤ 100000) ∧ ∀ H', Same H H' → Q (.bl (nmD d)) H'
theorem str_case {d : PyData} (h : isStr d = true) : ∃ x, d = .str x := by cases d <;> first | exact ⟨_, rfl⟩ | cases h
theorem nm_not {d : PyData} (h : isStr d = false) : nmD d = false := by cases d <;> first | rfl | cases h
theorem all_map (f : Nat → Bool) : ∀ l : List Nat, ((l.map f).all id) = l.all f
  | [] => rfl
  | c :: r => by rw [List.map_cons, List.all_cons, List.all_cons, all_map f r]; rfl
theorem ok_isname {f : Addr} {fd : FuncData} (F : Fun K "is_name" "is_name" sIsName f fd) (B : Glb mg) (g1 : mg "NAME_LENGTH" = some (.int 8 t1)) (g2 : mg "LETTERS" = some (.str abc t2)) : FnOk P w K mg base CX0 1 f fd ["value"] (spIsName K) := by
  refine F.ok scIsName (fun vs H Q E h => ?_) (fun cdv A outer s H vs Q E hr h => ?_)
  · obtain ⟨p, v, d, rfl, _⟩ := h
    rfl
  · obtain ⟨p, v, d, rfl, D, hx, q⟩ := h
    refine ⟨_, pss_cons (ps_if (PW.pt (pw_or (pt_not (pt_val (pe_callB call_isi (by rfl) B.isi boot_isinstance (pa_cons (pv 0) (pa_cons (pe_bltn (v := .ty "str") (by rfl) B.str boot_str rfl) pa_nil)))))
        (pw_or1 (pt_not (pt_chain op_le op_le pe_int (pe_callB call_len (by rfl) B.len PySem.boot_len (pa_cons (pv 0) pa_nil)) (pe_glob (v := .int 8) (by rfl) g1 ⟨_, rfl⟩)))))) (pss_one (ps_ret pe_bl)) pss_nil)
      (pss_one (ps_ret (pe_callB (cr_all rfl) (by rfl) B.all (by decide +kernel) (pa_cons (pe_lc (own := [("letter", 1)]) (g := gName 1) (tt := tYes) rfl scIsName.nd (pi_str (pv 0))
        (blkOk_by (own := [("letter", 1)]) (N := ["value", "letter"]) (sc := defScope sIsName) (by decide +kernel)) (fun _ _ _ _ _ => pg_name (i := 1) scIsName.nd rfl (Or.inl rfl)) (fun _ _ _ _ _ => pts_nil)
        (fun _ _ _ _ _ => pe_cmpR op_in_sign (pv 1) (pe_glob (v := .str abc) (by rfl) g2 ⟨_, rfl⟩) (by rfl))) pa_nil)))), ?_⟩
    refine ⟨_, rfl, v, _, _, _, _, rfl, .ty _, da_ty D, kit_ty (kit_str d), _, rfl, ?_⟩
    cases hi : isStr d with
    | false =>
      refine iteT ?_
      rw [← nm_not hi]
      exact q H (.refl H)
    | true =>
      obtain ⟨x, rfl⟩ := str_case hi
      cases D
      have hxl := hx x rfl
      have e0 : nmD (.str x) = nmS x := rfl
      refine iteF ⟨_, rfl, .str x, x.length, rfl, ⟨Evl.sz_of hxl, rfl⟩, _, _, rfl, rfl, _, rfl, ?_⟩
      have e1 : decide ((1 : Int) ≤ (x.length : Int)) = decide (1 ≤ x.length) := decide_eq_decide.mpr (by omega)
      have e2 : decide ((x.length : Int) ≤ (8 : Int)) = decide (x.length ≤ 8) := decide_eq_decide.mpr (by omega)
      rw [e1]
      by_cases h1 : 1 ≤ x.length
      · rw [decide_eq_true h1]
        refine iteT ⟨_, _, rfl, rfl, _, rfl, ?_⟩
        rw [e2]
        by_cases h8 : x.length ≤ 8
        · rw [decide_eq_true h8]
          refine iteF ⟨_, rfl, x, rfl, fun Dl hD => ?_⟩
          refine lcN_str (x := x) (fun i H' => H' Dl = some (.lst (((x.cps.toList.take i).map lowC).map V.bl)) ∧ Same H H') ⟨upd_same, same_new hD⟩ (fun i c H' hc hp => ⟨rfl, ?_⟩) (fun H' hp => ?_)
          · refine ⟨_, rfl, c, abc, rfl, rfl, _, hp.1, Evl.sz_lt ?_, ?_, ?_⟩
            · rw [List.length_map, List.length_map, List.length_take]
              have := str_len x
              omega
            · rw [upd_same, mem_abc, List.take_add_one, hc, List.map_append, List.map_append]
              rfl
            · intro b o e
              rw [upd_ne (ne_of_none e hD)]
              exact hp.2 b o e
          · obtain ⟨eD, sm⟩ := hp
            rw [str_len, List.take_length] at eD
            refine ⟨Dl, x.cps.toList.map lowC, rfl, .inl (.inl eD), ?_⟩
            rw [all_map]
            have e : x.cps.toList.all lowC = nmD (.str x) := by
              rw [e0, nmS, decide_eq_true ⟨h1, h8⟩]
              rfl
            rw [e]
            exact q H' sm
        · rw [decide_eq_false h8]
          refine iteT ?_
          have e : false = nmD (.str x) := by rw [e0, nmS, decide_eq_false fun z => h8 z.2]; rfl
          rw [e]
          exact q H (.refl H)
      · rw [decide_eq_false h1]
        refine iteF ⟨_, rfl, iteT ?_⟩
        have e : false = nmD (.str x) := by rw [e0, nmS, decide_eq_false fun z => h1 z.1]; rfl
        rw [e]
        exact q H (.refl H)

/-! ### a tuple of a name and a number -/
def inD (ns : List Int) : PyData → Bool
  | .int i => decide (i ∈ ns)
  | _ => false
def withD (ns : List Int) : PyData → Bool
  | .tuple [a, b] => nmD a && (intD b && inD ns b)
  | _ => false
/-- the texts of a value, its lists and dicts are of a length that is carried -/
def Fit : PyData → Prop
  | .str x => x.length ≤ 100000
  | .tuple ds => ds.length ≤ 100000
  | .list ds => ds.length ≤ 100000
  | _ => True
def Fit1 (d : PyData) : Prop := Fit d ∧ ∀ ds, d = .tuple ds → ∀ e ∈ ds, Fit e
def spIsWith (K : PySem.W.Frag) : Sp := fun vs H Q _ => ∃ (p b : Addr) (v : V) (d : PyData) (ns : List Int), vs = [v, .ref b] ∧ Da K p H v d ∧ Fit1 d ∧ SqT K H b (ns.map V.int) ∧ ∀ H', Same H H' → Q (.bl (withD ns d)) H'
theorem in_ints (i : Int) : ∀ ns : List Int, inV (.int i) (ns.map V.int) = decide (i ∈ ns)
  | [] => rfl
  | n :: r => by
    have ih := in_ints i r
    unfold inV at ih ⊢
    rw [List.map_cons, List.any_cons, ih]
    by_cases e : n = i
    · subst e
      have : eqV (V.int n) (V.int n) = true := by unfold eqV; simp
      simp [this]
    · have : eqV (V.int n) (V.int i) = false := by unfold eqV; simpa using e
      have e' : ¬ i = n := fun z => e z.symm
      simp [this, e']
theorem flat_ints : ∀ ns : List Int, (ns.map V.int).all flatV = true
  | [] => rfl
  | n :: r => by rw [List.map_cons, List.all_cons, flat_ints r]; rfl
theorem ok_iswith {f fI fN : Addr} {fd dI dN : FuncData} (F : Fun K "is_name_with" "is_name_with" sIsWith f fd) (B : Glb mg) (GI : FnOk P w K mg base CX0 1 fI dI ["value"] (spIsInt K)) (gI : mg "is_integer" = some (.ref fI)) (kI : PySem.W.keepIn K (.ref fI) = true) (bI : Binds K dI ["value"] [])
    (GN : FnOk P w K mg base CX0 1 fN dN ["value"] (spIsName K)) (gN : mg "is_name" = some (.ref fN)) (kN : PySem.W.keepIn K (.ref fN) = true) (bN : Binds K dN ["value"] []) : FnOk P w K mg base CX0 2 f fd ["value", "numbers"] (spIsWith K) := by
  refine F.ok scIsWith (fun vs H Q E h => ?_) (fun cdv A outer s H vs Q E hr h => ?_)
  · obtain ⟨p, b, v, d, ns, rfl, _⟩ := h
    rfl
  · obtain ⟨p, b, v, d, ns, rfl, D, hf, hb, q⟩ := h
    refine ⟨_, pss_cons (ps_if (PW.pt (pw_or (pt_not (pt_val (pe_callB call_isi (by rfl) B.isi boot_isinstance (pa_cons (pv 0) (pa_cons (pe_bltn (v := .ty "tuple") (by rfl) B.tuple boot_tuple rfl) pa_nil)))))
        (pw_or1 (pt_cmpR op_ne (pe_callB call_len (by rfl) B.len PySem.boot_len (pa_cons (pv 0) pa_nil)) pe_int (nomark _))))) (pss_one (ps_ret pe_bl)) pss_nil)
      (pss_one (ps_ret (pe_and (pe_call GN hr (by rfl) gN kN bN .nil pass0 (pa_cons (pe_ix ix_tup (pv 0) pe_int (fun _ _ => rfl)) pa_nil))
        (pe_and (pe_call GI hr (by rfl) gI kI bI .nil pass0 (pa_cons (pe_ix ix_tup (pv 0) pe_int (fun _ _ => rfl)) pa_nil))
        (pe_one (pe_cmpR op_in_seq (pe_ix ix_tup (pv 0) pe_int (fun _ _ => rfl)) (pv 1) (by rfl))))))), ?_⟩
    refine ⟨_, rfl, v, _, _, _, _, rfl, .ty _, da_ty D, kit_ty (kit_tuple d), _, rfl, ?_⟩
    cases hi : isTup d with
    | false =>
      refine iteT ?_
      have e : false = withD ns d := by cases d <;> first | rfl | cases hi
      rw [e]
      exact q H (.refl H)
    | true =>
      obtain ⟨ds, rfl⟩ : ∃ ds, d = .tuple ds := by cases d <;> first | exact ⟨_, rfl⟩ | cases hi
      obtain ⟨hf0, hf1⟩ := hf
      cases D with
      | @tup a xs _ hs hd =>
        have hl := hd.length
        refine iteF ⟨_, rfl, .ref a, xs.length, rfl, .inr ⟨_, hs, rfl⟩, rfl, _, rfl, ?_⟩
        by_cases h2 : xs.length = 2
        · rw [h2]
          refine iteF ?_
          obtain ⟨d1, d2, rfl⟩ : ∃ d1 d2, ds = [d1, d2] := by
            rw [h2] at hl
            match ds, hl with
            | [x, y], _ => exact ⟨x, y, rfl⟩
          cases hd with
          | @cons x1 xr _ _ D1 hd =>
            cases hd with
            | @cons x2 xr _ _ D2 hd =>
              cases hd
              have i0 : atI [x1, x2] 0 = some x1 := atI_nat (j := 0) rfl
              have i1 : atI [x1, x2] 1 = some x2 := atI_nat (j := 1) rfl
              refine ⟨_, rfl, a, _, _, _, rfl, rfl, hs, i0, p, x1, d1, rfl, D1, fun x e => (by have := hf1 _ rfl d1 List.mem_cons_self; rw [e] at this; exact this), fun H1 s1 => ⟨_, rfl, ?_⟩⟩
              have ew : withD ns (.tuple [d1, d2]) = (nmD d1 && (intD d2 && inD ns d2)) := rfl
              cases hn : nmD d1 with
              | false =>
                refine iteF ?_
                rw [show false = withD ns (.tuple [d1, d2]) by rw [ew, hn]; rfl]
                exact q H1 s1
              | true =>
                refine iteT ?_
                refine ⟨_, rfl, a, _, _, _, rfl, rfl, s1.keepsT _ _ hs, i1, p, x2, d2, rfl, da_keep s1.keepA D2, _, rfl, ?_⟩
                cases hj : intD d2 with
                | false =>
                  refine iteF ?_
                  rw [show false = withD ns (.tuple [d1, d2]) by rw [ew, hn, hj]; rfl]
                  exact q H1 s1
                | true =>
                  obtain ⟨i, rfl⟩ : ∃ i, d2 = .int i := by cases d2 <;> first | exact ⟨_, rfl⟩ | cases hj
                  cases D2
                  refine iteT ⟨_, rfl, a, _, _, _, rfl, rfl, s1.keepsT _ _ hs, i1, _, rfl, b, _, rfl, .inr (s1.keepsT _ _ hb), rfl, flat_ints ns, ?_⟩
                  show Q (.bl (if false = true then !inV (.int i) (ns.map V.int) else inV (.int i) (ns.map V.int))) H1
                  rw [if_neg Bool.false_ne_true, in_ints, show decide (i ∈ ns) = withD ns (.tuple [d1, .int i]) by rw [ew, hn]; rfl]
                  exact q H1 s1
        · have e1 : decide (V.int (xs.length : Int) = V.int 2) = false := decide_eq_false fun z => h2 (by have := V.int.inj z; omega)
          rw [e1]
          refine iteT ?_
          have e : false = withD ns (.tuple ds) := by
            match ds, hl with
            | [], _ => rfl
            | [_], _ => rfl
            | [_, _], z => exact absurd z h2
            | _ :: _ :: _ :: _, _ => rfl
          rw [e]
          exact q H (.refl H)
end
end My
set_option Elab.async false
set_option linter.all false
set_option maxRecDepth 100000
set_option maxHeartbeats 4000000
namespace My
open PySem PySem.Spec PyProof.Rows L2
open Classical in
theorem withKey_met (xs : List Key) (k : Key) : withKey (inK (metK [] xs)) k = inK (metK [] (xs ++ [k])) := by
  funext j
  unfold withKey inK
  rw [metK_snoc]
  by_cases z : k ∈ metK [] xs
  · rw [if_pos z]
    by_cases e : j = k
    · subst e
      simp [z]
    · simp [e]
  · rw [if_neg z]
    by_cases e : j = k
    · simp [e]
    · simp [e]
open Classical in
theorem more_met (xs : List Key) (k : Key) : more (inK (metK [] xs)) k (metK [] xs).length = (metK [] (xs ++ [k])).length := by
  unfold more inK
  rw [metK_snoc]
  by_cases z : k ∈ metK [] xs
  · rw [if_pos z, if_pos (decide_eq_true z)]
  · rw [if_neg z, if_neg (by simpa using z), List.length_append]
    rfl
def fstK : PyData → Key
  | .tuple (.str x :: _) => .inr x
  | _ => .inl 0
noncomputable def cntK (ds : List PyData) : Nat := (metK [] (ds.map fstK)).length
open Classical in
noncomputable def isRowD : PyData → Bool
  | .tuple ds => decide (ds.length ≤ 30) && (ds.all (withD [1, -1]) && decide (cntK ds = ds.length))
  | _ => false
theorem isRowD_not {d : PyData} (h : isTup d = false) : isRowD d = false := by cases d <;> first | (simp only [isRowD]; done) | cases h
def Fit2 (d : PyData) : Prop := Fit d ∧ ∀ ds, d = .tuple ds → ∀ e ∈ ds, Fit1 e
theorem with_shape {ns : List Int} {d : PyData} (h : withD ns d = true) : ∃ x i, d = .tuple [.str x, .int i] ∧ nmS x = true ∧ i ∈ ns := by
  match d, h with
  | .tuple [a, b], h =>
    have h1 : nmD a = true ∧ intD b = true ∧ inD ns b = true := by simpa [withD] using h
    obtain ⟨h1, h2, h3⟩ := h1
    match a, b, h1, h2, h3 with
    | .str x, .int i, h1, _, h3 => exact ⟨x, i, rfl, h1, of_decide_eq_true h3⟩
section
variable {P : Program} {w : World} {K : PySem.W.Frag} {mg : Str → Option Value} {base : Heap} {t1 t2 t3 : Tok}
def spKind (K : PySem.W.Frag) (g : PyData → Bool) : Sp := fun vs H Q _ => ∃ (p : Addr) (v : V) (d : PyData), vs = [v] ∧ Da K p H v d ∧ Fit1 d ∧ ∀ H', Same H H' → Q (.bl (g d)) H'
theorem ok_isdir {f fW : Addr} {fd dW : FuncData} (F : Fun K "is_directed" "is_directed" sIsDir f fd) (GW : FnOk P w K mg base CX0 2 fW dW ["value", "numbers"] (spIsWith K)) (gW : mg "is_name_with" = some (.ref fW)) (kW : PySem.W.keepIn K (.ref fW) = true) (bW : Binds K dW ["value", "numbers"] []) :
    FnOk P w K mg base CX0 3 f fd ["value"] (spKind K (withD [1, -1])) := by
  refine F.ok scIsDir (fun vs H Q E h => ?_) (fun cdv A outer s H vs Q E hr h => ?_)
  · obtain ⟨p, v, d, rfl, _⟩ := h
    rfl
  · obtain ⟨p, v, d, rfl, D, hf, q⟩ := h
    refine ⟨_, pss_one (ps_ret (pe_call GW hr (by rfl) gW kW bW .nil pass0 (pa_cons (pv 0) (pa_cons (pe_tup (pa_cons pe_int (pa_cons (pe_un un_neg pe_int) pa_nil))) pa_nil)))), ?_⟩
    refine ⟨_, rfl, _, rfl, by show 2 ≤ sizeLine; decide, fun b hb => ?_⟩
    have sb := same_new (o := HO.tup [.int 1, .int (-1)]) hb
    exact ⟨p, b, v, d, [1, -1], rfl, da_keep sb.keepA D, hf, .inl (.inl upd_same), fun H' s => q H' (sb.trans s)⟩
def spIsRow (K : PySem.W.Frag) : Sp := fun vs H Q _ => ∃ (p : Addr) (v : V) (d : PyData), vs = [v] ∧ Da K p H v d ∧ Fit2 d ∧ ∀ H', Same H H' → Q (.bl (isRowD d)) H'
theorem all_with (g : PyData → Bool) : ∀ l : List PyData, ((l.map g).all id) = l.all g
  | [] => rfl
  | c :: r => by rw [List.map_cons, List.all_cons, List.all_cons, all_with g r]; rfl
open Classical in
theorem ok_isrow {f fD : Addr} {fd dD : FuncData} (F : Fun K "is_row" "is_row" sIsRow f fd) (B : Glb mg) (g3 : mg "MOST_WAGONS" = some (.int 30 t3)) (GD : FnOk P w K mg base CX0 3 fD dD ["value"] (spKind K (withD [1, -1]))) (gD : mg "is_directed" = some (.ref fD)) (kD : PySem.W.keepIn K (.ref fD) = true)
    (bD : Binds K dD ["value"] []) : FnOk P w K mg base CX0 4 f fd ["value"] (spIsRow K) := by
  refine F.ok scIsRow (fun vs H Q E h => ?_) (fun cdv A outer s H vs Q E hr h => ?_)
  · obtain ⟨p, v, d, rfl, _⟩ := h
    rfl
  · obtain ⟨p, v, d, rfl, D, hf, q⟩ := h
    refine ⟨_, pss_cons (ps_if (PW.pt (pw_or (pt_not (pt_val (pe_callB call_isi (by rfl) B.isi boot_isinstance (pa_cons (pv 0) (pa_cons (pe_bltn (v := .ty "tuple") (by rfl) B.tuple boot_tuple rfl) pa_nil)))))
        (pw_or1 (pt_cmpR op_gt (pe_callB call_len (by rfl) B.len PySem.boot_len (pa_cons (pv 0) pa_nil)) (pe_glob (v := .int 30) (by rfl) g3 ⟨_, rfl⟩) (nomark _))))) (pss_one (ps_ret pe_bl)) pss_nil)
      (pss_cons (ps_if (pt_not (pt_val (pe_callB (cr_all rfl) (by rfl) B.all (by decide +kernel) (pa_cons (pe_lc (own := [("wagon", 1)]) (g := gName 1) (tt := tYes) rfl scIsRow.nd (pi_tup (pv 0))
          (blkOk_by (own := [("wagon", 1)]) (N := ["value", "wagon", "name", "_"]) (sc := defScope sIsRow) (by decide +kernel)) (fun _ _ _ _ _ => pg_name (i := 1) scIsRow.nd rfl (Or.inl rfl)) (fun _ _ _ _ _ => pts_nil)
          (fun _ _ _ _ _ => pe_call GD hr (by rfl) gD kD bD .nil pass0 (pa_cons (pv 1) pa_nil))) pa_nil)))) (pss_one (ps_ret pe_bl)) pss_nil)
      (pss_one (ps_ret (pe_cmpR op_eq (pe_callB call_lenK (by rfl) B.len PySem.boot_len (pa_cons (pe_setc (own := [("name", 2), ("_", 3)]) (g := gTup K 2 (gCons (gName 2) (gCons (gName 3) gNil))) rfl scIsRow.nd (pi_tup (pv 0))
          (blkOk_by (own := [("name", 2), ("_", 3)]) (N := ["value", "wagon", "name", "_"]) (sc := defScope sIsRow) (by decide +kernel))
          (fun _ _ _ _ _ => pg_tup rfl (pgs_cons (pg_name (i := 2) scIsRow.nd rfl (Or.inl rfl) (Or.inr rfl)) (pgs_cons (pg_name (i := 3) scIsRow.nd rfl (Or.inl rfl) (Or.inr rfl)) pgs_nil)))
          (fun _ _ _ _ _ => pv 2)) pa_nil)) (pe_callB call_len (by rfl) B.len PySem.boot_len (pa_cons (pv 0) pa_nil)) (nomark _))))), ?_⟩
    refine ⟨_, rfl, v, _, _, _, _, rfl, .ty _, da_ty D, kit_ty (kit_tuple d), _, rfl, ?_⟩
    cases hi : isTup d with
    | false =>
      refine iteT ?_
      rw [← isRowD_not hi]
      exact q H (.refl H)
    | true =>
      obtain ⟨ds, rfl⟩ : ∃ ds, d = .tuple ds := by cases d <;> first | exact ⟨_, rfl⟩ | cases hi
      obtain ⟨hf0, hf1⟩ := hf
      cases D with
      | @tup a xs _ hs hd =>
        have hl := hd.length
        have er : isRowD (.tuple ds) = (decide (ds.length ≤ 30) && (ds.all (withD [1, -1]) && decide (cntK ds = ds.length))) := rfl
        refine iteF ⟨_, rfl, .ref a, xs.length, rfl, .inr ⟨_, hs, rfl⟩, _, _, rfl, rfl, _, rfl, ?_⟩
        by_cases h30 : ds.length ≤ 30
        · rw [decide_eq_false (by omega)]
          refine iteF ⟨_, rfl, a, rfl, ⟨_, hs⟩, fun Dl hD => ?_⟩
          refine lcN_tup (K := K) (a := a) (xs := xs) (fun i H' => H' Dl = some (.lst (((ds.take i).map (withD [1, -1])).map V.bl)) ∧ Same H H') ⟨upd_same, same_new hD⟩ (fun i H' _ hp => hp.2.keepsT _ _ hs) (fun i x H' hx hp => ⟨rfl, ?_⟩) (fun H' hp => ?_)
          · obtain ⟨e, he, De⟩ := hd.at hx
            refine ⟨_, rfl, p, x, e, rfl, da_keep hp.2.keepA De, hf1 ds rfl e (List.mem_of_getElem? he), fun H2 s2 => ?_⟩
            refine ⟨_, s2 _ _ hp.1, Evl.sz_lt ?_, ?_, ?_⟩
            · rw [List.length_map, List.length_map, List.length_take]
              omega
            · rw [upd_same, List.take_add_one, he, List.map_append, List.map_append]
              rfl
            · intro b o z
              rw [upd_ne (ne_of_none z hD)]
              exact s2 b o (hp.2 b o z)
          · obtain ⟨eD, sm⟩ := hp
            rw [hl, List.take_length] at eD
            refine ⟨Dl, ds.map (withD [1, -1]), rfl, .inl (.inl eD), _, rfl, ?_⟩
            rw [all_with]
            cases ha : ds.all (withD [1, -1]) with
            | false =>
              refine iteT ?_
              rw [show false = isRowD (.tuple ds) by rw [er, ha, decide_eq_true h30]; rfl]
              exact q H' sm
            | true =>
              have hs' : SqT K H' a xs := sm.keepsT _ _ hs
              refine iteF ⟨_, rfl, a, rfl, ⟨_, hs'⟩, fun Ds hDs => ?_⟩
              refine setc_tup (K := K) (a := a) (xs := xs) (fun i H2 => H2 Ds = some (SetK P w Ds (inK (metK [] ((ds.map fstK).take i))) (metK [] ((ds.map fstK).take i)).length) ∧ Same H' H2)
                ⟨?_, same_new hDs⟩ (fun i H2 _ hp => hp.2.keepsT _ _ hs') (fun i x H2 hx hp => ?_) (fun H2 hp => ?_)
              · rw [upd_same]
                congr 2
                funext k
                simp [noKeys, inK, metK]
              · obtain ⟨e, he, De⟩ := hd.at hx
                obtain ⟨nm, dir, rfl, _, _⟩ := with_shape (List.all_eq_true.mp ha e (List.mem_of_getElem? he))
                have sm2 : Same H H2 := sm.trans hp.2
                have De' := da_keep (p := p) sm2.keepA De
                cases De' with
                | @tup b ys _ hb hy =>
                  cases hy with
                  | cons y1 hy =>
                    cases hy with
                    | cons y2 hy =>
                      cases hy
                      cases y1
                      cases y2
                      refine ⟨b, _, rfl, hb, rfl, _, _, rfl, _, _, rfl, rfl, rfl, ?_⟩
                      have few := len_metK_le ((ds.map fstK).take i) []
                      rw [List.length_take, List.length_nil] at few
                      refine ⟨_, rfl, .inr nm, _, _, rfl, hp.1, by unfold scanBound; rw [List.length_map] at few; omega, ?_, ?_⟩
                      · rw [upd_same, withKey_met, more_met]
                        have e2 : (ds.map fstK).take i ++ [Sum.inr nm] = (ds.map fstK).take (i + 1) := by
                          rw [List.take_add_one, List.getElem?_map, he]
                          rfl
                        rw [e2]
                        rfl
                      · intro b o z
                        rw [upd_ne (ne_of_none z hDs)]
                        exact hp.2 b o z
              · obtain ⟨eS, s2⟩ := hp
                have lk : (ds.map fstK).length = xs.length := by rw [List.length_map, hl]
                rw [← lk, List.take_length] at eS
                have few := len_metK_le (ds.map fstK) []
                refine ⟨Ds, _, _, rfl, eS, by rw [List.length_nil] at few; omega, _, rfl, .ref a, xs.length, rfl, .inr ⟨_, (sm.trans s2).keepsT _ _ hs, rfl⟩, rfl, ?_⟩
                have ee : decide (V.int ((metK [] (ds.map fstK)).length : Int) = V.int (xs.length : Int)) = isRowD (.tuple ds) := by
                  rw [er, ha, decide_eq_true h30]
                  show _ = (true && (true && decide (cntK ds = ds.length)))
                  rw [Bool.true_and, Bool.true_and]
                  refine decide_eq_decide.mpr ⟨fun z => ?_, fun z => ?_⟩
                  · have := V.int.inj z
                    unfold cntK
                    omega
                  · unfold cntK at z
                    rw [z, hl]
                rw [ee]
                exact q H2 (sm.trans s2)
        · rw [decide_eq_true (by omega)]
          refine iteT ?_
          rw [show false = isRowD (.tuple ds) by rw [er, decide_eq_false h30]; rfl]
          exact q H (.refl H)
end
end My
set_option Elab.async false
set_option linter.all false
set_option maxRecDepth 100000
set_option maxHeartbeats 4000000
/-! t[::-1] of a tuple -/
namespace My
open PySem PySem.Spec PyProof.Rows L2 HT
section
variable {prog : Program} {w : World} {A : Around} {E : Value → Shared → Prop} {s : Shared}
theorem adj_rev (n : Nat) : Builtin.Slice.sliceAdjust none none (-1) (n : Int) = ((n : Int) - 1, -1) := rfl
theorem places_rev (n : Nat) : Builtin.Slice.slicePlaces ((n : Int) - 1) (-1) (-1) = n := by
  unfold Builtin.Slice.slicePlaces
  rw [if_neg (by decide)]
  split
  · rw [show (-(-1) : Int) = 1 by decide, Int.ediv_one]
    omega
  · omega
theorem fm_map {α β : Type} (f : α → Option β) (g : α → β) : ∀ l : List α, (∀ a ∈ l, f a = some (g a)) → l.filterMap f = l.map g
  | [], _ => rfl
  | a :: r, h => by rw [List.filterMap_cons_some (h a List.mem_cons_self), List.map_cons, fm_map f g r fun b hb => h b (List.mem_cons_of_mem _ hb)]
theorem pick_rev (xs : Array Value) : ((List.range xs.size).filterMap fun (m : Nat) => xs[((xs.size : Int) - 1 + (m : Int) * (-1)).toNat]?).toArray = xs.toList.reverse.toArray := by
  congr 1
  apply List.ext_getElem?
  intro j
  have hl : ((List.range xs.size).filterMap fun (m : Nat) => xs[((xs.size : Int) - 1 + (m : Int) * (-1)).toNat]?) = (List.range xs.size).map fun m => xs.toList.getD (xs.size - 1 - m) .none := by
    refine fm_map _ _ _ fun m hm => ?_
    have hm := List.mem_range.mp hm
    have e : ((xs.size : Int) - 1 + (m : Int) * (-1)).toNat = xs.size - 1 - m := by omega
    rw [e, Array.getElem?_eq_getElem (by omega)]
    simp [List.getD_eq_getElem?_getD, Array.getElem?_toList, Array.getElem?_eq_getElem (show xs.size - 1 - m < xs.size by omega)]
  rw [hl]
  by_cases hj : j < xs.size
  · rw [List.getElem?_map, List.getElem?_range hj, List.getElem?_reverse (by simpa using hj), Option.map_some, List.getD_eq_getElem?_getD, List.getElem?_eq_getElem (by simp; omega)]
    simp only [Option.getD_some]
    rw [List.getElem?_eq_getElem (by simp; omega)]
    congr 1
  · rw [List.getElem?_eq_none (by simp; omega), List.getElem?_eq_none (by simp; omega)]
theorem applied_rev {sl : Addr} {vl vu vs : Value} {n : Nat} {Q : Int × Int × Nat → Shared → Prop} (hs : s.heap.IsSliceOf sl vl vu vs) (pl : IsPart vl none) (pu : IsPart vu none) (ps : IsPart vs (some (-1))) (h : Q ((n : Int) - 1, -1, n) s) :
    wpAny (model prog w) A (Builtin.Slice.sliceApplied (.ref sl) (pure (n : Int))) Q E s := by
  obtain ⟨os, hos, hcs, hds⟩ := id hs
  unfold Builtin.Slice.sliceApplied Builtin.Slice.sliceFields
  refine wpAny_bind (wpAny_bind (wpAny_field hos hds (x := vl) rfl (wpAny_bind (wpAny_field hos hds (x := vu) rfl (wpAny_bind (wpAny_field hos hds (x := vs) rfl (wpAny_pure ?_)))))))
  refine wpAny_bind (slicePart_ ps ?_)
  show wpAny _ _ (if ((-1 : Int) == 0) = true then _ else _) _ _ s
  rw [if_neg (by decide)]
  refine wpAny_bind (slicePart_ pl (wpAny_bind (slicePart_ pu (wpAny_bind (wpAny_pure ?_)))))
  show wpAny _ _ (pure ((n : Int) - 1, (-1 : Int), Builtin.Slice.slicePlaces ((n : Int) - 1) (-1) (-1))) _ _ s
  rw [places_rev]
  exact wpAny_pure h
theorem get_rev {t sl : Addr} {items : Array Value} {vl vu vs : Value} {Q : Value → Shared → Prop} (ht : IsTup s.heap t items) (hs : s.heap.IsSliceOf sl vl vu vs) (pl : IsPart vl none) (pu : IsPart vu none) (ps : IsPart vs (some (-1)))
    (h : Q (.ref s.heap.objs.size) { s with heap := s.heap.push { cls := .type "tuple", data := .seq items.toList.reverse.toArray } }) (hsz : items.size ≤ sizeLine) : wpAny (model prog w) A (getItem (.ref t) (.ref sl)) Q E s := by
  have ok : sizeOk (.seq items.toList.reverse.toArray) := by
    show items.toList.reverse.toArray.size ≤ sizeLine
    rw [List.size_toArray, List.length_reverse, Array.length_toList]
    exact hsz
  obtain ⟨os, hos, hcs, hds⟩ := id hs
  have hTs : s.TypeIs (.ref sl) "slice" := ⟨os, hos, hcs⟩
  unfold getItem
  try with_reducible refine wpAny_holding ?_
  first | refine wpAny_bind (wpAny_pure ?_) | skip
  refine wpAny_bind (wpAny_sequenceKey ht.typeIs (by decide) ?_)
  refine wpAny_bind (wpAny_callSpecial?_slot (name := Str.ofString "__getitem__") ht.typeIs PyProof.Rows.slot_tuple_getitem
    (wpAny_call_entry PyProof.Rows.slot_tuple_getitem ht.typeIs entry_tuple_getitem ?_ (args_tuple_getitem _ _)))
  show wpAny _ _ (Builtin.Tuple.tupleItemsOf (.ref t) >>= _) _ _ s
  refine wpAny_bind (tupleItemsOf_ ht ?_)
  refine wpAny_bind (wpAny_typeOf hTs ?_)
  rw [if_pos (by decide)]
  refine wpAny_bind (applied_rev hs pl pu ps ?_)
  have no : ¬ (((items.size : Int) - 1 == 0 && (-1 : Int) == 1 && items.size == items.size) = true) := by simp
  show wpAny _ _ (if ((items.size : Int) - 1 == 0 && (-1 : Int) == 1 && items.size == items.size) = true then _ else _) _ _ s
  rw [if_neg no, pick_rev]
  first
    | exact wpAny_bind (m := Builtin.Tuple.tupleExact _) (wpAny_newObj_type (wpAny_pure ⟨_, rfl, wpAny_pure h⟩) ok)
    | exact wpAny_bind (m := Builtin.Tuple.tupleExact _) (wpAny_newObj_type (wpAny_bind (wpAny_pure (wpAny_pure ⟨_, rfl, wpAny_pure h⟩))) ok)
end
def tRevT (K : PySem.W.Frag) (te : TE) : TE := fun σ H Q => te σ H fun x H1 => ∃ a xs, x = .ref a ∧ SqT K H1 a xs ∧ ∀ p, H1 p = none → Q (.ref p) (upd H1 p (.tup xs.reverse))
section
variable {X : Cx}
theorem pe_revT {e : Expr} {te : TE} {k : Nat} {p1 p2 p3 pos : Pos} (he : PE X e te) : PE X (.Subscript e (.Slice none none (some (.UnaryOp .USub (.Constant (.int 1) k p1) p2)) p3) pos) (tRevT X.K te) := by
  refine ⟨fun pins s σ H Q I h => ?_⟩
  refine Subscript_ (thn (he.run pins s σ H _ I h) fun v s1 ⟨x, H1, I1, r1, q1⟩ => ?_)
  obtain ⟨a, xs, ex, hx, q⟩ := q1
  subst ex
  cases r1
  have hst : PO X (some (.UnaryOp .USub (.Constant (.int 1) k p1) p2)) (tPart (tUn (rU fun i => .int (-i)) (tC (.int 1)))) := po_some (pe_un un_neg pe_int)
  refine wpAny_Slice (thn (po_none.run pins s1 σ H1 (fun o H2 => o = none ∧ H2 = H1) I1 ⟨rfl, rfl⟩) fun vl s2 ⟨l, H2, I2, pl, el, e2⟩ => ?_)
  subst el e2
  refine thn (po_none.run pins s2 σ H2 (fun o H3 => o = none ∧ H3 = H2) I2 ⟨rfl, rfl⟩) fun vu s3 ⟨u, H3, I3, pu, eu, e3⟩ => ?_
  subst eu e3
  refine thn (hst.run pins s3 σ H3 (fun o H4 => o = some (-1) ∧ H4 = H3) I3 ⟨1, rfl, -1, rfl, rfl, rfl⟩) fun vs s4 ⟨o, H4, I4, ps, eo, e4⟩ => ?_
  subst eo e4
  have I5 : Inv X pins σ H4 { s4 with heap := s4.heap.push { cls := .type "slice", data := .fields #[vl, vu, vs] } } := I4.kept (t' := s4.toks) fun b ob q => Heap.get?_push_of_some _ q
  obtain ⟨its, r, ht, hz⟩ := I5.tuple hx
  have hlen := r.length
  show wpAny (model X.prog X.w) X.A (subscriptTail e (.Slice none none (some (.UnaryOp .USub (.Constant (.int 1) k p1) p2)) p3) (.ref a) (.ref s4.heap.objs.size)) (EP X pins σ Q) X.xe { s4 with heap := s4.heap.push { cls := .type "slice", data := .fields #[vl, vu, vs] } }
  refine tail_any (ops := [.ref a, .ref s4.heap.objs.size]) ht.typeIs (PyProof.Rows.slot_tuple_getitem.lookup) ?_ (by with_unfolding_all rfl)
  refine get_rev ht (Heap.IsSliceOf.new _ vl vu vs) pl pu ps ?_ (by rw [List.size_toArray]; omega)
  refine ⟨.ref _, _, I5.laid (t' := s4.toks) (o := .tup xs.reverse) (fun b ob q => Heap.get?_push_of_some _ q) (Nat.le_refl _) ?_, rfl, q _ (I5.hok.fresh (Nat.le_refl _))⟩
  exact ⟨by rw [List.length_reverse]; exact hz, _, r.reverse, IsTup.new _ _⟩
end
end My
set_option Elab.async false
set_option linter.all false
set_option maxRecDepth 100000
set_option maxHeartbeats 4000000
/-! (name, direction) in a row, row.index((name, direction)), == of such pairs, the least of some texts -/
namespace My
open PySem PySem.Spec PyProof.Rows L2
theorem dw_eqv (p q : Str × Int) : PyData.eqv (dwD p) (dwD q) = decide (p = q) := by
  obtain ⟨a, b⟩ := p
  obtain ⟨c, d⟩ := q
  show ((a == c) && ((b == d) && true)) = _
  rw [Bool.and_true, Bool.eq_iff_iff, Bool.and_eq_true, beq_iff_eq, beq_iff_eq, decide_eq_true_iff, Prod.mk.injEq]
/-- the names can be laid -/
def LayR (r : List (Str × Int)) : Prop := ∀ x ∈ r, PyData.strOk x.1 = true
theorem lay_dw {p : Str × Int} (h : PyData.strOk p.1 = true) : (dwD p).canLay0 = true := by
  show (PyData.strOk p.1 && (true && true)) = true
  rw [h]
  rfl
theorem lay_row : ∀ {r : List (Str × Int)}, LayR r → PyData.canLayAll0 (r.map dwD) = true
  | [], _ => rfl
  | x :: r, h => by
    show ((dwD x).canLay0 && PyData.canLayAll0 (r.map dwD)) = true
    rw [lay_dw (h x List.mem_cons_self), lay_row fun y hy => h y (List.mem_cons_of_mem _ hy)]
    rfl
theorem depth_dw (p : Str × Int) : (dwD p).depth = 1 := rfl
theorem any_dw (q : Str × Int) : ∀ r : List (Str × Int), ((r.map dwD).any fun z => PyData.eqv z (dwD q)) = decide (q ∈ r)
  | [] => rfl
  | x :: r => by
    rw [List.map_cons, List.any_cons, any_dw q r, dw_eqv, Bool.eq_iff_iff, Bool.or_eq_true, decide_eq_true_iff, decide_eq_true_iff, decide_eq_true_iff, List.mem_cons]
    exact or_congr ⟨fun e => e.symm, fun e => e.symm⟩ Iff.rfl
section
variable {X : Cx}
/-- what stands behind such a tuple -/
theorem row_reads {pins : List (Addr × Obj)} {σ : L2.St} {H : Hp} {s : Shared} {a : Addr} {r : List (Str × Int)} (I : Inv X pins σ H s) (h : Dt X.K H (.ref a) (rowD r)) :
    ∃ (its : List Value) (as : List Addr), s.heap.IsTuple a its.toArray ∧ ReadsAll s.heap its (r.map dwD) as ∧ its.length = r.length := by
  cases h with
  | tup hs hd =>
    obtain ⟨its, rv, ⟨o, ho, hc, n, hdd⟩, _⟩ := I.tuple hs
    obtain ⟨as, ra⟩ := Dp.readsAll I (r.map dwD) _ its (dt_dpAll hd) rv
    have e := SeqAt.ReadsAll.length (r.map dwD) its as ra
    rw [List.length_map] at e
    exact ⟨its, as, ⟨o, ho, hc, n, hdd⟩, ra, e⟩
def rInRow (K : PySem.W.Frag) (neg : Bool) : R2 := fun x y H Q => ∃ (q : Str × Int) (a : Addr) (r : List (Str × Int)), y = .ref a ∧ Dt K H x (dwD q) ∧ Dt K H (.ref a) (rowD r) ∧ PyData.strOk q.1 = true ∧ LayR r ∧ Q (.bl (if neg then !decide (q ∈ r) else decide (q ∈ r))) H
theorem items_row {pins : List (Addr × Obj)} {σ : L2.St} {H : Hp} {s : Shared} {x : V} {v : Value} {q : Str × Int} {r : List (Str × Int)} {its : List Value} {as : List Addr} {A : Around} (hu : A.units + 65 < cLine) (I : Inv X pins σ H s) (rx : RelV x v) (hx : Dt X.K H x (dwD q)) (ra : ReadsAll s.heap its (r.map dwD) as)
    (hq : PyData.strOk q.1 = true) (hr : LayR r) : ∀ y, y ∈ its.toArray → SeqAt.EqAt A.in1 s y v (PyData.eqv (SeqAt.readOf s.heap y) (dwD q)) := by
  obtain ⟨bs, rb⟩ := Dp.reads I (dwD q) x v (dt_dp hx) rx
  refine SeqAt.items_eqAt (vs := its.toArray) ra rb (lay_row hr) (lay_dw hq) ?_
  have : min (PyData.depthAll (r.map dwD)) (dwD q).depth ≤ 1 := Nat.min_le_right _ _
  omega
theorem op_inRow (hu : X.A.units + 65 < cLine) : OpR X (compareOp .In) (rInRow X.K false) := by
  intro pins s σ H x y v u Q I rx ry ⟨q, a, r, ey, hx, hy, lq, lr, k⟩
  subst ey
  cases ry
  obtain ⟨its, as, tp, ra, le⟩ := row_reads I hy
  refine SeqAt.in_tupleAt (fun z => PyData.eqv (SeqAt.readOf s.heap z) (dwD q)) tp (items_row hu I rx hx ra lq lr) ⟨.bl _, H, I, rfl, ?_⟩
  rw [show its.toArray.any (fun z => PyData.eqv (SeqAt.readOf s.heap z) (dwD q)) = decide (q ∈ r) by
    rw [← any_dw, ← SeqAt.readsAll_map (r.map dwD) its as (lay_row lr) ra]
    simp
    rfl]
  exact k
theorem op_notInRow (hu : X.A.units + 65 < cLine) : OpR X (compareOp .NotIn) (rInRow X.K true) := by
  intro pins s σ H x y v u Q I rx ry ⟨q, a, r, ey, hx, hy, lq, lr, k⟩
  subst ey
  cases ry
  obtain ⟨its, as, tp, ra, le⟩ := row_reads I hy
  refine SeqAt.notIn_tupleAt (fun z => PyData.eqv (SeqAt.readOf s.heap z) (dwD q)) tp (items_row hu I rx hx ra lq lr) ⟨.bl _, H, I, rfl, ?_⟩
  rw [show its.toArray.any (fun z => PyData.eqv (SeqAt.readOf s.heap z) (dwD q)) = decide (q ∈ r) by
    rw [← any_dw, ← SeqAt.readsAll_map (r.map dwD) its as (lay_row lr) ra]
    simp
    rfl]
  exact k
/-- row.index((name, direction)), there -/
def rIxRow (K : PySem.W.Frag) : V → List V → Hp → VK → Prop := fun x xs H Q => ∃ (q : Str × Int) (y : V) (a : Addr) (r : List (Str × Int)), x = .ref a ∧ xs = [y] ∧ Dt K H y (dwD q) ∧ Dt K H (.ref a) (rowD r) ∧ PyData.strOk q.1 = true ∧ LayR r ∧ q ∈ r ∧ Q (.int (@List.idxOf _ instBEqOfDecidableEq q r : Nat)) H
theorem mt_ixRow (hu : X.A.units + 65 < cLine) : MtR X "tuple.index" (rIxRow X.K) := by
  intro pins s σ H x xs v us Q I rx rxs ⟨q, y, a, r, ex, exs, hy, hr, lq, lr, hm, k⟩
  subst ex exs
  cases rx
  obtain ⟨u, rfl, ry⟩ := vals1 rxs
  obtain ⟨its, as, tp, ra, le⟩ := row_reads I hr
  have eqs := items_row (A := X.A) hu I ry hy ra lq lr
  have mp := SeqAt.readsAll_map (r.map dwD) its as (lay_row lr) ra
  refine PySem.SeqAt.call_tuple_index (ks := r) (k := q) tp ⟨le, fun j h1 h2 => ?_⟩ hm ⟨.int _, H, I.tok _, ⟨_, rfl⟩, k⟩
  have e1 := eqs its[j] (by simp)
  have e2 : SeqAt.readOf s.heap its[j] = dwD r[j] := by
    have : (its.map (SeqAt.readOf s.heap))[j]? = (r.map dwD)[j]? := by rw [mp]
    rw [List.getElem?_map, List.getElem?_map, List.getElem?_eq_getElem h1, List.getElem?_eq_getElem h2] at this
    exact Option.some.inj this
  rw [e2, dw_eqv] at e1
  exact e1
end
end My
set_option Elab.async false
set_option linter.all false
set_option maxRecDepth 100000
set_option maxHeartbeats 4000000
/-! min of a list of texts -/
namespace My
open PySem PySem.Spec PyProof.Rows L2
/-- the first of the least of y :: t -/
abbrev minS (y : Str) (t : List Str) : Str := PySem.W.minOf y t
def ltS (a b : Str) : Bool := decide (a.cps.toList < b.cps.toList)
theorem minS_mem : ∀ (t : List Str) (y : Str), minS y t ∈ y :: t
  | [], y => List.mem_cons_self
  | z :: t, y => by
    have ih := minS_mem t (if ltS z y = true then z else y)
    show minS (if ltS z y = true then z else y) t ∈ _
    rcases List.mem_cons.mp ih with e | e
    · rw [e]
      split
      · exact List.mem_cons_of_mem _ List.mem_cons_self
      · exact List.mem_cons_self
    · exact List.mem_cons_of_mem _ (List.mem_cons_of_mem _ e)
theorem ltS_le {a b c : Str} (h1 : ltS a b = true) (h2 : ltS c b = false) : ltS c a = false := by
  unfold ltS at *
  have h1 := of_decide_eq_true h1
  have h2 := of_decide_eq_false h2
  exact decide_eq_false fun z => h2 (List.lt_trans z h1)
theorem minS_le : ∀ (t : List Str) (y : Str), ∀ x ∈ y :: t, ltS x (minS y t) = false
  | [], y, x, hx => by
    rw [List.mem_singleton.mp hx]
    exact decide_eq_false (List.lt_irrefl _)
  | z :: t, y, x, hx => by
    have ih := minS_le t (if ltS z y = true then z else y)
    show ltS x (minS (if ltS z y = true then z else y) t) = false
    cases hz : ltS z y with
    | true =>
      rw [if_pos rfl]
      rw [hz, if_pos rfl] at ih
      rcases List.mem_cons.mp hx with rfl | hx
      · have hm := ih z List.mem_cons_self
        unfold ltS at *
        have hz := of_decide_eq_true hz
        have hm := of_decide_eq_false hm
        exact decide_eq_false fun q => hm (List.lt_trans hz q)
      · exact ih x hx
    | false =>
      rw [if_neg Bool.false_ne_true]
      rw [hz, if_neg Bool.false_ne_true] at ih
      rcases List.mem_cons.mp hx with rfl | hx
      · exact ih x List.mem_cons_self
      · rcases List.mem_cons.mp hx with rfl | hx
        · have hm := ih y List.mem_cons_self
          unfold ltS at *
          have hz := of_decide_eq_false hz
          have hm := of_decide_eq_false hm
          exact decide_eq_false (List.not_lt.mpr (List.le_trans (List.not_lt.mp hm) (List.not_lt.mp hz)))
        · exact ih x (List.mem_cons_of_mem _ hx)
section
variable {X : Cx}
theorem reads_strs {h : Heap} : ∀ {ys : List Str} {its : List Value}, Vals (ys.map V.str) its → ∃ as, ReadsAll h its (ys.map PyData.str) as
  | [], _, r => by cases r; exact ⟨_, .nil⟩
  | y :: ys, _, r => by
    cases r with
    | cons r1 r2 =>
      obtain ⟨t, rfl⟩ := r1
      obtain ⟨as, h2⟩ := reads_strs (h := h) r2
      exact ⟨_, .cons (.str y t) h2⟩
theorem call_minS (hc : X.calm = true) (hu : X.A.units + 65 < cLine) : CallR X (.builtin "min") (fun xs H Q => ∃ (p : Addr) (y : Str) (t : List Str), xs = [.ref p] ∧ SqL X.K H p ((y :: t).map V.str) ∧ Q (.str (minS y t)) H) := by
  intro pins s σ H xs us Q I r ⟨p, y, t, ex, hs, q⟩
  subst ex
  obtain ⟨u, rfl, r1⟩ := vals1 r
  cases r1
  obtain ⟨its, rv, ⟨o, n, ho, hcl, _, hd⟩, hz⟩ := I.list hs
  obtain ⟨as, ra⟩ := reads_strs (h := s.heap) rv
  refine PySem.W.min_list_datum (α := Str) (x := y) (xs := t) (I.ok.hd hc) ⟨o, ho, hcl, n, hd⟩ ⟨as, ra⟩ (by show X.A.units + 1 + 0 < cLine; omega) fun i v h' tk hi hv k => ?_
  obtain ⟨bs, rd⟩ := hv
  have rd : Reads h' v (.str (minS y t)) bs := rd
  cases rd with
  | str _ tt => exact ⟨.str _, H, I.kept k, ⟨_, rfl⟩, q⟩
end
end My
set_option Elab.async false
set_option linter.all false
set_option maxRecDepth 100000
set_option maxHeartbeats 4000000
/-! super().__init__(..) as the first statement of an own class's __init__ -/
namespace My
open PySem PySem.Spec PyProof.Rows L2 NdefX
section
variable {P : Program} {w : World} {K : PySem.W.Frag} {mg : Str → Option Value} {base : Heap}
/-- what the top has written of such an __init__, at f, of the class at C, whose next __init__ stands at g -/
structure SupFn (P : Program) (K : PySem.W.Frag) (mg : Str → Option Value) (F : NF) (ps : List Str) (f C g cc : Addr) (fd : FuncData) : Prop where
  ex : ∃ (oc kV doc pm ct : Value) (od an : Option Addr) (osl : Array (Option Value)), fd = PySem.W.fnX F.name F.qual F.params F.body F.scope F.cl .none kV doc pm an (.ref F.c) ct ∧ K.lookup f = some ⟨oc, od, .func fd, osl⟩
  cl : F.cl = [(("__class__" : Str), cc)]
  code : PySem.W.codeIn K (.ref F.c) F.qual = true
  rcd : ∃ (ccl : Value) (cdd : Option Addr) (vs : Array Value) (ccs : Array (Option Value)) (file : Str) (tf : Tok), K.lookup F.c = some ⟨ccl, cdd, .fields vs, ccs⟩ ∧ vs[2]? = some (.str file tf) ∧ ((P.main.file : Str) == file) = true
  par : ∃ ar, (F.params.posonlyargs ++ F.params.args).head? = some ar ∧ ps[0]? = some ar.arg
  sup : F.scope.names.lookup ("super" : Str) = some .globalImplicit
  cell : ∃ (cl : Value) (cld : Option Addr) (csl : Array (Option Value)), K.lookup cc = some ⟨cl, cld, .cell (some (.ref C)), csl⟩
  cls : ∃ cd, PySem.W.clsIn K C = some cd
  sub : PySem.W.mroIn K C (.ref C) = some true
  nxt : PySem.W.ks_superIn K C C "__init__" = some (some (.ref g))
  fn : PySem.W.fnIn K g = true
  ty : PySem.W.typeIn K (.ref g) = some (.type "function")
  any : PySem.W.nsIn K cStatics "thirdparty.any" = some none
  free : mg "super" = none
  top : (P.main.scope.names.lookup ("super" : Str)).isSome = false
theorem cells_sup {F : NF} {ps : List Str} {f C g cc : Addr} {fd : FuncData} {A : Around} {stk : List Env} {s : Shared} {H : Hp} (T : SupFn P K mg F ps f C g cc fd) (e0 : Env0 P w K mg base A stk s H) : CellsAt F.cl [("__class__" : Str)] [none] s.heap H := by
  obtain ⟨cl, cld, csl, hk⟩ := T.cell
  have hb := e0.mod.kin _ _ hk
  have hs := e0.bs _ _ hb
  have one : ∀ (y : Str) (c : Addr), F.cl.lookup y = some c → y = ("__class__" : Str) ∧ c = cc := fun y c e => by
    rw [T.cl] at e
    by_cases h : y = ("__class__" : Str)
    · subst h
      exact ⟨rfl, (Option.some.inj e).symm⟩
    · have : ([(("__class__" : Str), cc)] : List (Str × Addr)).lookup y = none := by
        simp only [List.lookup]
        split
        · rename_i z
          exact absurd (eq_of_beq z) h
        · rfl
      rw [this] at e
      cases e
  refine ⟨rfl, fun y c e => ?_, fun x y c e1 e2 => (one x c e1).1.trans (one y c e2).1.symm, fun i y e => ?_⟩
  · rw [(one y c e).2]
    exact ⟨hs.2, _, _, hs.1, rfl⟩
  · have : i = 0 := by
      have := (List.getElem?_eq_some_iff.mp e).1
      simp at this
      exact this
    subst this
    cases e
    refine ⟨cc, by rw [T.cl]; rfl, fun v z => ?_⟩
    cases z
/-- a def whose body begins super().__init__(e) -/
theorem fn_super {F : NF} {N ps : List Str} {f C g cc : Addr} {fd gd : FuncData} {gps : List Str} {k : Nat} {sp spI : Sp} {e : Expr} {rest : List Stmt} {p0 p1 p2 p3 p4 : Pos} (T : SupFn P K mg F ps f C g cc fd) (S : NScope N ps [("__class__" : Str)] F.scope)
    (hb : F.body = .Expr (.Call (.Attribute (.Call (.Name "super" p0) [] [] p1) "__init__" p2) [e] [] p3) p4 :: rest) (GI : FnOk P w K mg base CX0 k g gd gps spI) (bI : Binds K gd gps []) (len : ∀ vs H Q E, sp vs H Q E → vs.length = ps.length)
    (hbody : ∀ (A : Around) (stk : List Env) (s : Shared) (H : Hp) (vs : List V) (Q : VK) (E : XK), Room k (A.deeper (envF F f s.heap.objs.size)) → sp vs H Q E →
      ∃ ta t, PA (ncx CX0 P w K mg base N F f A stk s H E).nox [e] ta ∧ PSs (ncx CX0 P w K mg base N F f A stk s H E).nox rest t ∧ ∃ x dx fs, vs[0]? = some (.ref x) ∧ H x = some (.ins C dx fs) ∧
        ta (startF N vs [none]) H fun ws H1 => spI (.ref x :: ws) H1 (fun _ H2 => t { nx := fun _ H' => Q .non H', rt := Q } (startF N vs [none]) H2) E0)
    (he : ∀ env : Env, starEach [e] env = (false, eval e env) :: starEach [] env)
    (hcall : ∀ env : Env, ∃ pl : Sem Bool, eval (.Call (.Attribute (.Call (.Name "super" p0) [] [] p1) "__init__" p2) [e] [] p3) env = (do
      let ov ← attributeBase (.Call (.Name "super" p0) [] [] p1) "__init__" env (eval (.Call (.Name "super" p0) [] [] p1) env)
      standAt p2.atName
      let (f, first) ← holding [ov] (getMethod ov "__init__" pl)
      callWith p3 f first (backTo p3 (starEach [e] env)) [])) : FnOk P w K mg base CX0 (k + 1) f fd ps sp := by
  obtain ⟨oc, kV, doc, pm, ct, od, an, osl, rfl, lk⟩ := T.ex
  refine ⟨len, fun A stk s H a us vs Q E hr e0 hbind rv hsp => ?_⟩
  have hl := len _ _ _ _ hsp
  have keep : ∀ b o, base.get? b = some o → s.heap.get? b = some o := fun b o z => (e0.bs b o z).1
  have KX : K.In s.heap := e0.mod.kin.keeps keep
  have lim : s.heap.NoLimit := e0.mod.nolimit.keeps keep
  refine codeAny_call_function hr.depth (KX _ _ lk) rfl S.co S.gen rfl (PySem.W.codeRec_of KX T.code) (hbind _ _ _ _ (wpAny_newFunctionEnv S.nocell (fun ⟨n, _⟩ hy => S.par n (List.of_mem_zip hy).1) (fun h1 hns hsb => ⟨lim.fresh _ hsb, ?_⟩) S.kind))
  have kp : ∀ b o, s.heap.get? b = some o → h1.get? b = some o := fun b o z => hsb.extBut b o (Nat.ne_of_lt (Heap.lt_size z)) (Heap.get?_push_of_some _ z)
  have C0 := cells_sup T e0
  obtain ⟨ta, t, hta, ht, x, dx, fs, hv0, hx, hq⟩ := hbody A stk s H vs Q E (hr.deeper _) hsp
  have I := (inv_startN (f := f) (CX := CX0) (E := E) (tk := s.toks + (ps.zip us).length) S hr.hd e0 hl rv C0 hns kp).wish fun _ _ => False
  show codeAny _ _ (.func F.body (envF F f s.heap.objs.size)) _ _
  refine PySem.ks_codeAny_funcAt (PySem.ks_wpAt_mono (E := fun _ _ => False) ?_ (fun _ _ z => z) fun _ _ z => z.elim)
  rw [hb]
  have KX1 : K.In h1 := KX.keeps kp
  obtain ⟨ccl, cdd, vs0, ccs, file, tf, hcode, hvs, hfile⟩ := T.rcd
  obtain ⟨ar, hp, hp0⟩ := T.par
  obtain ⟨cl, cld, csl, hcell⟩ := T.cell
  obtain ⟨cd, hC⟩ := T.cls
  obtain ⟨mb, hbl, hboot⟩ := e0.mod.blt
  obtain ⟨mA, ob, _⟩ := ins_get I.hok hx
  obtain ⟨odx, Ix, _⟩ := ob.look
  obtain ⟨oC, hC1, hC2⟩ : ∃ oC, h1.get? C = some oC ∧ oC.data = .cls cd := by
    unfold PySem.W.clsIn at hC
    split at hC
    · rename_i z1 z2 z3 z4 z5
      cases hC
      exact ⟨_, KX1 _ _ z5, rfl⟩
    · cases hC
  have hself : ∃ u, us[0]? = some u ∧ u = .ref x := by
    obtain ⟨u, hu, ru⟩ := rv.get hv0
    exact ⟨u, hu, ru⟩
  obtain ⟨u0, hu0, rfl⟩ := hself
  obtain ⟨pl, hpl⟩ := hcall (envF F f s.heap.objs.size)
  refine PySem.ks_wpAt_execs_cons (PySem.ks_wpAt_Expr_any (hi := by unfold interactive; rw [S.kind]; rfl) (PySem.ks_wpAt_MethodCall (pl := pl) (he := hpl) (PySem.ks_wpAt_super_base T.sup (S.frk _ List.mem_cons_self) (by decide) rfl (KX1 _ _ lk) rfl hp rfl (KX1 _ _ hcode) rfl hvs hfile T.top ?_)))
  refine PySem.W.ks_loadName_global S.kind T.sup (PySem.Calls.loadGlobal_builtin (e0.mod.glob.keeps fun b o z => kp _ _ (keep b o z)) T.free (hbl.keeps fun b o z => kp _ _ (keep b o z)) ((hboot _ (by decide +kernel)).trans (by decide +kernel : bootBuiltins "super" = some (.type "super"))) ⟨rfl, ?_⟩)
  refine wpAny_loadName_free S.kind (S.frk _ List.mem_cons_self) (by show F.cl.lookup _ = some cc; rw [T.cl]; rfl) ⟨_, KX1 _ _ hcell, rfl⟩ ?_
  have ndP : ps.Nodup := by
    have q0 := S.nd.sublist (List.take_sublist (ps.length + [("__class__" : Str)].length) N)
    rw [S.pre] at q0
    exact (List.nodup_append.mp q0).1
  refine wpAny_loadName_local S.kind (S.par _ (List.mem_of_getElem? hp0)) hns (zip_look ndP hp0 hu0) ?_
  refine PySem.ks_wpAny_isType_cls hC1 hC2 ⟨rfl, ?_⟩
  refine PySem.ks_wpAny_call_super hC1 hC2 Ix.at_ Ix.cls (fun c z => ?_) (PySem.W.looks_mroIn KX1 T.sub) (fun h2 e2 k2 => ?_)
  · have no := Ix.no
    unfold PySem.W.notCls at no
    rw [z] at no
    exact Bool.noConfusion no
  have KX2 : K.In h2 := KX1.keeps k2
  obtain ⟨of, hof, hofc⟩ : ∃ of, h2.get? g = some of ∧ of.cls = .type "function" := by
    have ty : (K.lookup g).map (·.cls) = some (.type "function") := T.ty
    cases z : K.lookup g with
    | none => rw [z] at ty; cases ty
    | some o => rw [z] at ty; exact ⟨o, KX2 _ _ z, Option.some.inj ty⟩
  have nxt := T.nxt
  unfold PySem.W.ks_superIn at nxt
  rw [hC] at nxt
  refine PySem.ks_wpAny_getMethod_super e2 (PySem.W.looks_opaque KX2 T.any) (l₀ := cd.mro) (fun A Q E s k q => wpAny_bind ((PySem.W.looks_clsIn KX2 hC) A _ E s k (wpAny_pure q))) rfl KX2 nxt hof hofc (PySem.W.ks_ne KX1 Ix hC) (by decide) ?_
  have I1 := I.kept (h' := h2) (t' := s.toks + (ps.zip us).length) k2
  have I2 := ClX.met_new (g := g) (C := x) I1
  refine ClX.callwith_cm I2 (ClX.base_none I1 (Nat.le_refl _)) T.fn (thn (hta.run p3 _ _ _ _ _ I2 hq) fun vs1 s3 ⟨ws, H1, I3, rv1, q3⟩ => ⟨⟨ClX.pin_at I3, I3.kIn⟩, thn (ClX.run_cm (Q := fun _ H2 => t { nx := fun _ H' => Q .non H', rt := Q } (startF N vs [none]) H2) (GI.raw bI .nil) (hr.deeper _) pass0 I3 rv1 (by rw [List.append_nil]; exact q3)) fun u s4 z4 => ?_⟩) (he _) rfl
  obtain ⟨v4, H2, I4, r4, q4⟩ := z4
  refine wpAt_of_any ?_
  refine wpAny_mono (ht.run [] s4 _ H2 _ I4 q4) (fun fl s5 hs => ?_) fun _ _ z => z
  have fin : ∀ {σ' : L2.St} {H' : Hp} {v : V} {u : Value}, Inv (ncx CX0 P w K mg base N F f A stk s H E).nox [] σ' H' s5 → L2.RelV v u → Q v H' → CE stk P w H s Q u s5 :=
    fun {σ' H' v u} J rr qq => ⟨v, H', J.os, J.bare, J.base, J.hok, rr, qq⟩
  cases fl with
  | ret u =>
    obtain ⟨v, σ', H', J, rr, qq⟩ := hs
    exact fin J rr qq
  | next =>
    obtain ⟨σ', H', J, qq⟩ := hs
    exact fin (v := V.non) (u := Value.none) J rfl qq
  | brk =>
    obtain ⟨_, _, _, qq⟩ := hs
    exact qq.elim
  | cont =>
    obtain ⟨_, _, _, qq⟩ := hs
    exact qq.elim
end
end My
set_option Elab.async false
set_option linter.all false
set_option maxRecDepth 100000
set_option maxHeartbeats 4000000
/-! comprehensions with a pair as target, no test -/
namespace My
open PySem PySem.Spec PyProof.Rows L2
abbrev gPair (K : PySem.W.Frag) (i j : Nat) : TG := gTup K 2 (gCons (gName i) (gCons (gName j) gNil))
section
variable {K : PySem.W.Frag} {te : TE} {vs : List Nat} {σ : L2.St} {H1 : Hp} {D : Addr} {Qd : Hp → Prop} {i1 i2 : Nat}
def lcP_tup {a : Addr} {xs : List V} (Pv : Nat → Hp → Prop) (h0 : Pv 0 (upd H1 D (.lst []))) (hl : ∀ i H, i ≤ xs.length → Pv i H → SqT K H a xs)
    (hs : ∀ i v H, xs[i]? = some v → Pv i H → ∃ b x y, v = .ref b ∧ SqT K H b [x, y] ∧ wipe (((wipe σ vs).set i1 (some x)).set i2 (some y)) vs = wipe σ vs ∧ Grows te D (Pv (i + 1)) (((wipe σ vs).set i1 (some x)).set i2 (some y)) H) (hd : ∀ H, Pv xs.length H → Qd H) :=
  lc_tup (K := K) (a := a) (xs := xs) (g := gPair K i1 i2) (tt := tYes) (te := te) (vs := vs) (σ := σ) (H1 := H1) (D := D) (Qd := Qd) Pv h0 hl (fun i v H hi p => by
    obtain ⟨b, x, y, rfl, hb, h1, h2⟩ := hs i v H hi p
    exact ⟨b, [x, y], rfl, hb, rfl, x, [y], rfl, y, [], rfl, rfl, yes_turn h1 h2⟩) hd
end
end My
set_option Elab.async false
set_option linter.all false
set_option maxRecDepth 100000
set_option maxHeartbeats 4000000
/-! new tuples that are known to bear no dict, and their methods -/
namespace My
open PySem PySem.Spec PyProof.Rows L2
def BareT (H : Hp) (a : Addr) : Prop := ∃ ob xs, H a = some (.frz ob (.tup xs)) ∧ ob.dict = none
theorem BareT.keep {H H' : Hp} {a : Addr} (h : BareT H a) (s : Same H H') : BareT H' a := let ⟨ob, xs, e, d⟩ := h; ⟨ob, xs, s _ _ e, d⟩
theorem BareT.keepP {H H' : Hp} {p c a : Addr} {n : Nat} (h : BareT H a) (s : SameP p H H') (G : PenAt H p c n) : BareT H' a := let ⟨ob, xs, e, d⟩ := h; ⟨ob, xs, s _ _ (sameP_ne G e fun _ z => nomatch z) e, d⟩
section
variable {X : Cx}
/-- tuple(list): a new tuple -/
theorem call_tupleF : CallR X (.type "tuple") (fun xs H Q => ∃ p ys, xs = [.ref p] ∧ SqL X.K H p ys ∧ ∀ l ob, H l = none → ob.dict = none → Q (.ref l) (upd H l (.frz ob (.tup ys)))) := by
  intro pins s σ H xs us Q I rv ⟨p, ys, ex, hl, q⟩
  subst ex
  obtain ⟨u, rfl, r1⟩ := vals1 rv
  cases r1
  obtain ⟨its, rr, pl, hz⟩ := I.list hl
  have ll := rr.length
  refine call_tuple_list pl.isList (fun h1 kp => ?_) (by simp only [List.size_toArray]; omega)
  have I1 : Inv X pins σ H { s with heap := h1 } := I.kept (t' := s.toks) kp
  have nw := IsTup.new h1 its.toArray
  have I2 : Inv X pins σ (upd H h1.objs.size (.frz { cls := .type "tuple", data := .seq its.toArray } (.tup ys))) { s with heap := h1.push { cls := .type "tuple", data := .seq its.toArray } } :=
    I1.laid (t' := s.toks) (fun _ _ e => Heap.get?_push_of_some _ e) (Nat.le_refl _) ⟨Heap.get?_push_size _ rfl, hz, its, rr, nw⟩
  exact ⟨.ref h1.objs.size, _, I2, rfl, q _ _ (I1.hok.fresh (Nat.le_refl _)) rfl⟩
def tTM (r : V → List V → Hp → VK → Prop) (to : TE) (t : TA) : TE := fun σ H Q => to σ H fun x H1 => (∃ a, x = .ref a ∧ BareT H1 a) ∧ t σ H1 fun xs H2 => r x xs H2 Q
/-- t.m(e), t such a tuple -/
theorem pe_tm {o e : Expr} {es : List Expr} {to : TE} {t : TA} {name : Str} {apos cpos : Pos} {id : String} {r : V → List V → Hp → VK → Prop} (slot : Slot "tuple" name id) (hty : typeOf (.builtin id) = pure (.type "method_descriptor")) (hm : MtR X id r) (ho : PE X o to) (ha : PA X (e :: es) t)
    (hbase : attributeBase o name X.env (eval o X.env) = eval o X.env := by rfl)
    (hfew : ((backTo cpos (starEach (e :: es) X.env)).all (fun x => !x.1) && (backToKw cpos (keywordEach [] X.env)).all (fun x => x.1.isSome) &&
      decide ((e :: es).length + ([] : List Keyword).length + (if ([] : List Keyword).isEmpty then 0 else 1) < 30)) = true := by rfl)
    (hline : (apos.endLine == cpos.line) = true := by rfl) (hs : starEach (e :: es) X.env = (false, eval e X.env) :: starEach es X.env := by rfl) (hplain : (backTo cpos (starEach es X.env)).any (·.1) = false := by rfl) :
    PE X (.Call (.Attribute o name apos) (e :: es) [] cpos) (tTM r to t) := by
  constructor
  intro pins s σ H Q I h
  refine wpAny_Call_method_late hbase hfew hline rfl (thn (ho.run pins s σ H _ I h) fun v s1 ⟨x, H1, I1, r1, ty, q1⟩ => ?_)
  obtain ⟨a, rfl, ob, ys, ea, hdn⟩ := ty
  cases r1
  obtain ⟨g1, _, its, _, o2, g2, hc2, _⟩ := I1.hok a _ ea
  rw [g1] at g2
  cases g2
  refine ⟨"tuple", id, PySem.F.plainAttrs_tuple, slot, hty, ⟨ob, g1, hc2⟩, fun b e => ?_, ?_⟩
  · cases e
    exact ⟨ob, g1, hdn⟩
  have hA := ha.run cpos pins s1 σ H1 _ I1 q1
  rw [hs] at hA ⊢
  refine Calls.callWith_builtin (by show (false || (backTo cpos (starEach es X.env)).any (·.1)) = false; rw [hplain] <;> rfl) (Calls.evalArgs_plain ?_)
  exact thn hA fun us s2 ⟨ws, H2, I2, r2, q2⟩ => hm pins s2 σ H2 (.ref a) ws (.ref a) us Q I2 rfl r2 q2
end
end My
set_option Elab.async false
set_option linter.all false
set_option maxRecDepth 100000
set_option maxHeartbeats 4000000
namespace My
open PySem PySem.Spec PyProof.Rows L2
section
variable {K : PySem.W.Frag} {p c L o : Addr} {n m : Nat} {H H' : Hp} {x : V} {lo hi : Option Int} {Q : VK} {a b : Addr} {xs ys ls : List V}
/-! ### cuts of tuples -/
theorem cutV_to (k : Nat) : cutV xs none (some (k : Int)) = xs.take k := by
  unfold cutV
  rw [HT.sIx_none, HT.sIx_nat, List.drop_zero, Nat.sub_zero]
  rcases Nat.le_total k xs.length with h | h
  · rw [Nat.min_eq_left h]
  · rw [Nat.min_eq_right h, List.take_of_length_le h, List.take_length]
theorem cutV_from (k : Nat) : cutV xs (some (k : Int)) none = xs.drop k := by
  unfold cutV
  rw [HT.sIx_none, HT.sIx_nat]
  rcases Nat.le_total k xs.length with h | h
  · rw [Nat.min_eq_left h, List.take_of_length_le (by rw [List.length_drop]; exact Nat.le_refl _)]
  · rw [Nat.min_eq_right h, Nat.sub_self, List.take_zero, List.drop_eq_nil_of_le h]
theorem sl_to (ht : SqT K H a xs) (q : ∀ (b : Addr) (H' : Hp), Same H H' → SqT K H' b (cutV xs lo hi) → Q (.ref b) H') : rSlA K (.ref a) lo hi H Q := by
  refine ⟨a, xs, rfl, ht, fun hw => q a H (.refl H) ?_, fun _ b hb => q b _ (same_new hb) (.inl (.inl upd_same))⟩
  have e : cutV xs lo hi = xs := by
    unfold cutV
    rw [hw.1, hw.2, List.drop_zero, Nat.sub_zero, List.take_length]
  rw [e]
  exact ht
theorem cat_to (hx : SqT K H a xs) (hy : SqT K H b ys) (hz : xs.length + ys.length ≤ sizeLine) (q : ∀ (b : Addr) (H' : Hp), Same H H' → SqT K H' b (xs ++ ys) → Q (.ref b) H') : rCatA K (.ref a) (.ref b) H Q := by
  refine ⟨a, b, xs, ys, rfl, rfl, hx, hy, hz, fun e => q b H (.refl H) ?_, fun _ e => q a H (.refl H) ?_, fun _ _ d hd => q d _ (same_new hd) (.inl (.inl upd_same))⟩
  · rw [e]
    exact hy
  · rw [e, List.append_nil]
    exact hx
end
end My
set_option Elab.async false
set_option linter.all false
set_option maxRecDepth 100000
set_option maxHeartbeats 4000000
namespace My
open PySem PySem.Spec PyProof.Rows L2
/-! ### rows -/
def turnR (r : List (Str × Int)) : List (Str × Int) := (r.reverse).map fun x => (x.1, -x.2)
/-- a row of the document: names, each once, directions; few -/
structure RowOk (r : List (Str × Int)) : Prop where
  nm : ∀ x ∈ r, NameOk x.1
  dir : Dirs r
  nd : (r.map (·.1)).Nodup
  few : r.length ≤ 30
theorem fit_row {r : List (Str × Int)} (h : RowOk r) : Fit2 (rowD r) := by
  refine ⟨?_, fun ds e x hx => ?_⟩
  · have := h.few
    show (r.map dwD).length ≤ 100000
    rw [List.length_map]
    omega
  · cases e
    obtain ⟨y, hy, rfl⟩ := List.mem_map.mp hx
    refine ⟨by show 2 ≤ 100000; decide, fun ds e z hz => ?_⟩
    cases e
    rcases List.mem_cons.mp hz with rfl | hz
    · have := (h.nm y hy).2.1
      show y.1.length ≤ 100000
      omega
    · rw [List.mem_singleton.mp hz]
      trivial
theorem nm_ok {x : Str} (h : NameOk x) : nmS x = true := by
  unfold nmS
  rw [Bool.and_eq_true, List.all_eq_true]
  exact ⟨decide_eq_true ⟨h.1, h.2.1⟩, fun c hc => decide_eq_true (h.2.2 c hc)⟩
theorem with_dw {x : Str × Int} (h : NameOk x.1) (d : x.2 = 1 ∨ x.2 = -1) : withD [1, -1] (dwD x) = true := by
  show (nmS x.1 && (true && decide (x.2 ∈ [1, -1]))) = true
  rw [nm_ok h, decide_eq_true (by rcases d with d | d <;> rw [d] <;> decide)]
  rfl
theorem keys_row (r : List (Str × Int)) : (r.map dwD).map fstK = r.map fun x => (Sum.inr x.1 : Key) := by
  rw [List.map_map]
  rfl
theorem is_row {r : List (Str × Int)} (h : RowOk r) : isRowD (rowD r) = true := by
  have e : isRowD (rowD r) = (decide ((r.map dwD).length ≤ 30) && ((r.map dwD).all (withD [1, -1]) && decide (cntK (r.map dwD) = (r.map dwD).length))) := rfl
  have e2 : (r.map dwD).all (withD [1, -1]) = true := List.all_eq_true.mpr fun d hd => by
    obtain ⟨x, hx, rfl⟩ := List.mem_map.mp hd
    exact with_dw (h.nm x hx) (h.dir x hx)
  have e3 : cntK (r.map dwD) = (r.map dwD).length := by
    unfold cntK
    rw [keys_row]
    have z := (len_metK_eq (r.map fun x => (Sum.inr x.1 : Key)) [] List.nodup_nil).mpr (by
      rw [List.nil_append]
      have e4 : (r.map fun x => (Sum.inr x.1 : Key)) = (r.map (·.1)).map Sum.inr := by rw [List.map_map]; rfl
      rw [e4]
      exact nodup_map_on h.nd fun a _ b _ q => Sum.inr.inj q)
    rw [z, List.length_map, List.length_map, List.length_nil, Nat.zero_add]
  rw [e, e2, decide_eq_true e3, decide_eq_true (show (r.map dwD).length ≤ 30 by rw [List.length_map]; exact h.few)]
  rfl
section
variable {K : PySem.W.Frag} {H H' : Hp} {a : Addr} {r : List (Str × Int)}
theorem dt_items : ∀ {xs : List V} {r : List (Str × Int)}, DtAll K H xs (r.map dwD) → ∀ (i : Nat) (v : V), xs[i]? = some v → ∃ b x, r[i]? = some x ∧ v = .ref b ∧ SqT K H b [.str x.1, .int x.2]
  | [], _, _, i, v, e => by simp at e
  | x :: xs, [], h, _, _, _ => by cases h
  | x :: xs, y :: r, h, 0, v, e => by
    cases h with
    | cons h1 h2 =>
      cases e
      cases h1 with
      | tup hs hd =>
        cases hd with
        | cons d1 d2 =>
          cases d1
          cases d2 with
          | cons d3 d4 =>
            cases d3
            cases d4
            exact ⟨_, y, rfl, rfl, hs⟩
  | x :: xs, y :: r, h, i + 1, v, e => by
    cases h with
    | cons h1 h2 => exact dt_items h2 i v e
theorem dtAll_rev : ∀ {xs : List V} {ds : List PyData}, DtAll K H xs ds → DtAll K H xs.reverse ds.reverse
  | _, _, .nil => .nil
  | _, _, .cons a b => by
    rw [List.reverse_cons, List.reverse_cons]
    exact (dtAll_rev b).append (.cons a .nil)
theorem row_at (h : Dt K H (.ref a) (rowD r)) : ∃ xs, SqT K H a xs ∧ xs.length = r.length ∧ DtAll K H xs (r.map dwD) := by
  cases h with
  | tup hs hd =>
    have := hd.length
    rw [List.length_map] at this
    exact ⟨_, hs, this, hd⟩
end
theorem turn_len (r : List (Str × Int)) : (turnR r).length = r.length := by rw [turnR, List.length_map, List.length_reverse]
theorem turn_ok {r : List (Str × Int)} (h : RowOk r) : RowOk (turnR r) := by
  refine ⟨fun x hx => ?_, fun x hx => ?_, ?_, by rw [turn_len]; exact h.few⟩
  · obtain ⟨y, hy, rfl⟩ := List.mem_map.mp hx
    exact h.nm y (List.mem_reverse.mp hy)
  · obtain ⟨y, hy, rfl⟩ := List.mem_map.mp hx
    have := h.dir y (List.mem_reverse.mp hy)
    show -y.2 = 1 ∨ -y.2 = -1
    omega
  · unfold turnR
    rw [List.map_map]
    show (r.reverse.map (·.1)).Nodup
    rw [List.map_reverse]
    exact (List.reverse_perm _).nodup_iff.mpr h.nd
/-- what is not reached -/
theorem ps_no {X : Cx} {st : Stmt} : PS X st (fun _ _ _ => False) := ⟨fun _ _ _ _ _ _ h => h.elim⟩
section
variable {P : Program} {w : World} {K : PySem.W.Frag} {mg : Str → Option Value} {base : Heap}
/-- a new row that is made of a row -/
def spRowTo (K : PySem.W.Frag) (f : List (Str × Int) → List (Str × Int)) : Sp := fun vs H Q _ => ∃ (a : Addr) (r : List (Str × Int)), vs = [.ref a] ∧ Dt K H (.ref a) (rowD r) ∧ RowOk r ∧ ∀ (b : Addr) (H' : Hp), Same H H' → Dt K H' (.ref b) (rowD (f r)) → Q (.ref b) H'
def spTurn (K : PySem.W.Frag) : Sp := fun vs H Q _ => ∃ (a : Addr) (r : List (Str × Int)), vs = [.ref a] ∧ Dt K H (.ref a) (rowD r) ∧ RowOk r ∧ ∀ (b : Addr) (H' : Hp), Same H H' → Dt K H' (.ref b) (rowD (turnR r)) → BareT H' b → Q (.ref b) H'
/-- the comprehension [(name, -direction) for name, direction in row[::-1]] grows -/
theorem turn_grows {te : TE} {H Hn : Hp} {Dl : Addr} {xs : List V} {r : List (Str × Int)} (hD : H Dl = none) {i : Nat} {v : V} (hv : xs[i]? = some v) (da : DtAll K H xs (r.reverse.map dwD)) (hn : xs.length ≤ 1000)
    (hp : ∃ cs, Hn Dl = some (.lst cs) ∧ DtAll K Hn cs (((turnR r).take i).map dwD) ∧ Same H Hn) :
    ∃ b nm z, v = .ref b ∧ SqT K Hn b [.str nm, .int z] ∧ ∀ (σ' : L2.St), (∀ R : VK, (∀ t, Hn t = none → R (.ref t) (upd Hn t (.tup [.str nm, .int (-z)]))) → te σ' Hn R) →
      Grows te Dl (fun H' => ∃ cs, H' Dl = some (.lst cs) ∧ DtAll K H' cs (((turnR r).take (i + 1)).map dwD) ∧ Same H H') σ' Hn := by
  obtain ⟨cs, eD, dc, sm⟩ := hp
  obtain ⟨b, x, hx, rfl, hb⟩ := dt_items da i v hv
  have hi := (List.getElem?_eq_some_iff.mp hx).1
  refine ⟨b, x.1, x.2, rfl, sm.keepsT _ _ hb, fun σ' hte => ?_⟩
  unfold Grows
  refine hte _ fun t ht => ?_
  have st := same_new (o := HO.tup [.str x.1, .int (-x.2)]) ht
  have eD2 := st _ _ eD
  have lc : cs.length ≤ 1000 := by
    have l1 := dc.length
    have l2 := da.length
    rw [List.length_map, List.length_take] at l1
    rw [List.length_map] at l2
    omega
  refine ⟨cs, eD2, Evl.sz_lt (Nat.lt_of_le_of_lt lc (by decide)), cs ++ [.ref t], upd_same, ?_, fun c o z => ?_⟩
  · have ti : (turnR r)[i]? = some (x.1, -x.2) := by
      unfold turnR
      rw [List.getElem?_map, hx]
      rfl
    rw [List.take_add_one, ti, List.map_append]
    exact (dt_keepAll (st.keepsT.trans (KeepsT.lst eD2)) dc).append (.cons (.tup (KeepsT.lst eD2 _ _ (.inl (.inl upd_same))) (.two (.str _) (.int _))) .nil)
  · rw [upd_ne (ne_of_none z hD)]
    exact st _ _ (sm _ _ z)
theorem ok_turned {f fR : Addr} {fd dR : FuncData} (F : Fun K "turned" "turned" sTurn f fd) (B : Glb mg) (GR : FnOk P w K mg base CX0 4 fR dR ["value"] (spIsRow K)) (gR : mg "is_row" = some (.ref fR)) (kR : PySem.W.keepIn K (.ref fR) = true) (bR : Binds K dR ["value"] []) :
    FnOk P w K mg base CX0 5 f fd ["row"] (spTurn K) := by
  refine F.ok scTurn (fun vs H Q E h => ?_) (fun cdv A outer s H vs Q E hr h => ?_)
  · obtain ⟨a, r, rfl, _⟩ := h
    rfl
  · obtain ⟨a, r, rfl, hd, ok, q⟩ := h
    obtain ⟨xs, hs, hl, da⟩ := row_at hd
    have few := ok.few
    refine ⟨_, pss_cons (ps_if (pt_not (pt_val (pe_call GR hr (by rfl) gR kR bR .nil pass0 (pa_cons (pv 0) pa_nil)))) (pss_one ps_no) pss_nil)
      (pss_one (ps_ret (pe_callTy call_tupleF (by rfl) B.tuple (by decide +kernel) (pa_cons (pe_lc (own := [("name", 1), ("direction", 2)]) (g := gPair K 1 2) (tt := tYes) rfl scTurn.nd (pi_tup (pe_revT (pv 0)))
        (blkOk_by (own := [("name", 1), ("direction", 2)]) (N := ["row", "name", "direction"]) (sc := defScope sTurn) (by decide +kernel))
        (fun _ _ _ _ _ => pg_tup rfl (pgs_cons (pg_name (i := 1) scTurn.nd rfl (Or.inl rfl) (Or.inr rfl)) (pgs_cons (pg_name (i := 2) scTurn.nd rfl (Or.inl rfl) (Or.inr rfl)) pgs_nil)))
        (fun _ _ _ _ _ => pts_nil) (fun _ _ _ _ _ => pe_tup (pa_cons (pv 1) (pa_cons (pe_un un_neg (pv 2)) pa_nil)))) pa_nil)))), ?_⟩
    refine ⟨_, rfl, a, .ref a, rowD r, rfl, dt_da hd, fit_row ok, fun H1 s1 => ⟨_, rfl, ?_⟩⟩
    rw [is_row ok]
    refine iteF ⟨_, rfl, a, xs, rfl, s1.keepsT _ _ hs, fun b hb => ?_⟩
    have s2 := s1.trans (same_new (o := HO.tup xs.reverse) hb)
    have t2 : SqT K (upd H1 b (.tup xs.reverse)) b xs.reverse := .inl (.inl upd_same)
    generalize upd H1 b (.tup xs.reverse) = H2 at s2 t2
    have dr : DtAll K H2 xs.reverse (r.reverse.map dwD) := by
      rw [List.map_reverse]
      exact dtAll_rev (dt_keepAll s2.keepsT da)
    refine ⟨b, rfl, ⟨_, t2⟩, fun Dl hDl => ?_⟩
    refine lcP_tup (K := K) (a := b) (xs := xs.reverse) (fun i Hn => ∃ cs, Hn Dl = some (.lst cs) ∧ DtAll K Hn cs (((turnR r).take i).map dwD) ∧ Same H2 Hn) ⟨[], upd_same, .nil, same_new hDl⟩ (fun i Hn _ hp => ?_) (fun i v Hn hv hp => ?_) (fun Hn hp => ?_)
    · obtain ⟨_, _, _, sm⟩ := hp
      exact sm.keepsT _ _ t2
    · obtain ⟨b2, nm, z, rfl, hb2, gr⟩ := turn_grows hDl hv dr (by rw [List.length_reverse]; omega) hp
      exact ⟨b2, .str nm, .int z, rfl, hb2, rfl, gr _ fun R hR => ⟨_, rfl, _, rfl, z, rfl, by show 2 ≤ sizeLine; decide, fun t ht => hR t ht⟩⟩
    · obtain ⟨cs, eD, dc, sm⟩ := hp
      rw [List.length_reverse, hl, ← turn_len r, List.take_length] at dc
      refine ⟨Dl, cs, rfl, .inl (.inl eD), fun c ob hc hob => ?_⟩
      have sc := same_new (o := HO.frz ob (.tup cs)) hc
      exact q c _ ((s2.trans sm).trans sc) (.tup (.inl (.inr ⟨ob, upd_same⟩)) (dt_keepAll sc.keepsT dc)) ⟨ob, cs, upd_same, hob⟩
end
end My
set_option Elab.async false
set_option linter.all false
set_option maxRecDepth 100000
set_option maxHeartbeats 4000000
/-! _law_turned -/
namespace My
open PySem PySem.Spec PyProof.Rows L2
section
variable {P : Program} {w : World} {K : PySem.W.Frag} {mg : Str → Option Value} {base : Heap}
theorem ok_lturn {f : Addr} {fd : FuncData} (F : Fun K "_law_turned" "_law_turned" sLTurn f fd) (B : Glb mg) : FnOk P w K mg base CX0 1 f fd ["row"] (spTurn K) := by
  refine F.ok scLTurn (fun vs H Q E h => ?_) (fun cdv A outer s H vs Q E hr h => ?_)
  · obtain ⟨a, r, rfl, _⟩ := h
    rfl
  · obtain ⟨a, r, rfl, hd, ok, q⟩ := h
    obtain ⟨xs, hs, hl, da⟩ := row_at hd
    have few := ok.few
    refine ⟨_, pss_one (ps_ret (pe_callTy call_tupleF (by rfl) B.tuple (by decide +kernel) (pa_cons (pe_lc (own := [("name", 1), ("direction", 2)]) (g := gPair K 1 2) (tt := tYes) rfl scLTurn.nd (pi_tup (pe_revT (pv 0)))
        (blkOk_by (own := [("name", 1), ("direction", 2)]) (N := ["row", "name", "direction"]) (sc := defScope sLTurn) (by decide +kernel))
        (fun _ _ _ _ _ => pg_tup rfl (pgs_cons (pg_name (i := 1) scLTurn.nd rfl (Or.inl rfl) (Or.inr rfl)) (pgs_cons (pg_name (i := 2) scLTurn.nd rfl (Or.inl rfl) (Or.inr rfl)) pgs_nil)))
        (fun _ _ _ _ _ => pts_nil) (fun _ _ _ _ _ => pe_tup (pa_cons (pv 1) (pa_cons (pe_un un_neg (pv 2)) pa_nil)))) pa_nil))), ?_⟩
    refine ⟨_, rfl, a, xs, rfl, hs, fun b hb => ?_⟩
    have s2 := same_new (o := HO.tup xs.reverse) hb
    have t2 : SqT K (upd H b (.tup xs.reverse)) b xs.reverse := .inl (.inl upd_same)
    generalize upd H b (.tup xs.reverse) = H2 at s2 t2
    have dr : DtAll K H2 xs.reverse (r.reverse.map dwD) := by
      rw [List.map_reverse]
      exact dtAll_rev (dt_keepAll s2.keepsT da)
    refine ⟨b, rfl, ⟨_, t2⟩, fun Dl hDl => ?_⟩
    refine lcP_tup (K := K) (a := b) (xs := xs.reverse) (fun i Hn => ∃ cs, Hn Dl = some (.lst cs) ∧ DtAll K Hn cs (((turnR r).take i).map dwD) ∧ Same H2 Hn) ⟨[], upd_same, .nil, same_new hDl⟩ (fun i Hn _ hp => ?_) (fun i v Hn hv hp => ?_) (fun Hn hp => ?_)
    · obtain ⟨_, _, _, sm⟩ := hp
      exact sm.keepsT _ _ t2
    · obtain ⟨b2, nm, z, rfl, hb2, gr⟩ := turn_grows hDl hv dr (by rw [List.length_reverse]; omega) hp
      exact ⟨b2, .str nm, .int z, rfl, hb2, rfl, gr _ fun R hR => ⟨_, rfl, _, rfl, z, rfl, by show 2 ≤ sizeLine; decide, fun t ht => hR t ht⟩⟩
    · obtain ⟨cs, eD, dc, sm⟩ := hp
      rw [List.length_reverse, hl, ← turn_len r, List.take_length] at dc
      refine ⟨Dl, cs, rfl, .inl (.inl eD), fun c ob hc hob => ?_⟩
      have sc := same_new (o := HO.frz ob (.tup cs)) hc
      exact q c _ ((s2.trans sm).trans sc) (.tup (.inl (.inr ⟨ob, upd_same⟩)) (dt_keepAll sc.keepsT dc)) ⟨ob, cs, upd_same, hob⟩
end
end My
set_option Elab.async false
set_option linter.all false
set_option maxRecDepth 100000
set_option maxHeartbeats 4000000
namespace My
open PySem PySem.Spec PyProof.Rows L2
section
variable {P : Program} {w : World} {K : PySem.W.Frag} {mg : Str → Option Value} {base : Heap}
def spNames (K : PySem.W.Frag) : Sp := fun vs H Q _ => ∃ (a : Addr) (r : List (Str × Int)), vs = [.ref a] ∧ Dt K H (.ref a) (rowD r) ∧ r.length ≤ 1000 ∧ ∀ (l : Addr) (H' : Hp), H l = none → H' l = some (.lst ((r.map (·.1)).map V.str)) → Same H H' → Q (.ref l) H'
theorem ok_names {f : Addr} {fd : FuncData} (F : Fun K "names_of" "names_of" sNames f fd) : FnOk P w K mg base CX0 1 f fd ["row"] (spNames K) := by
  refine F.ok scNames (fun vs H Q E h => ?_) (fun cdv A outer s H vs Q E hr h => ?_)
  · obtain ⟨a, r, rfl, _⟩ := h
    rfl
  · obtain ⟨a, r, rfl, hd, few, q⟩ := h
    obtain ⟨xs, hs, hl, da⟩ := row_at hd
    refine ⟨_, pss_one (ps_ret (pe_lc (own := [("name", 1), ("_", 2)]) (g := gPair K 1 2) (tt := tYes) rfl scNames.nd (pi_tup (pv 0))
        (blkOk_by (own := [("name", 1), ("_", 2)]) (N := ["row", "name", "_"]) (sc := defScope sNames) (by decide +kernel))
        (fun _ _ _ _ _ => pg_tup rfl (pgs_cons (pg_name (i := 1) scNames.nd rfl (Or.inl rfl) (Or.inr rfl)) (pgs_cons (pg_name (i := 2) scNames.nd rfl (Or.inl rfl) (Or.inr rfl)) pgs_nil)))
        (fun _ _ _ _ _ => pts_nil) (fun _ _ _ _ _ => pv 1))), ?_⟩
    refine ⟨_, rfl, a, rfl, ⟨_, hs⟩, fun Dl hD => ?_⟩
    refine lcP_tup (K := K) (a := a) (xs := xs) (fun i Hn => Hn Dl = some (.lst (((r.map (·.1)).take i).map V.str)) ∧ Same H Hn) ⟨upd_same, same_new hD⟩ (fun i Hn _ hp => hp.2.keepsT _ _ hs) (fun i v Hn hv hp => ?_) (fun Hn hp => ?_)
    · obtain ⟨b, x, hx, rfl, hb⟩ := dt_items da i v hv
      have hi := (List.getElem?_eq_some_iff.mp hx).1
      refine ⟨b, .str x.1, .int x.2, rfl, hp.2.keepsT _ _ hb, rfl, _, rfl, _, hp.1, Evl.sz_lt (by rw [List.length_map, List.length_take]; omega), ?_, fun c o z => ?_⟩
      · rw [upd_same, List.take_add_one, List.getElem?_map, hx, List.map_append]
        rfl
      · rw [upd_ne (ne_of_none z hD)]
        exact hp.2 c o z
    · refine q Dl Hn hD ?_ hp.2
      rw [hp.1, hl, ← List.length_map (f := fun x : Str × Int => x.1), List.take_length]
/-- of a row that isn't empty -/
def spNe (K : PySem.W.Frag) (g : List (Str × Int) → List (Str × Int)) (pre : Addr → Hp → Prop) : Sp := fun vs H Q _ => ∃ (a : Addr) (r : List (Str × Int)), vs = [.ref a] ∧ Dt K H (.ref a) (rowD r) ∧ RowOk r ∧ r ≠ [] ∧ pre a H ∧ ∀ (b : Addr) (H' : Hp), Same H H' → Dt K H' (.ref b) (rowD (g r)) → Q (.ref b) H'
/-! ### a line's normal form -/
def nthN (r : List (Str × Int)) (i : Nat) : Str := (r.getD i (Str.empty, 0)).1
def fstN (r : List (Str × Int)) : Str := nthN r 0
def lstN (r : List (Str × Int)) : Str := nthN r (r.length - 1)
theorem nthN_of {r : List (Str × Int)} {i : Nat} {x : Str × Int} (h : r[i]? = some x) : nthN r i = x.1 := by
  unfold nthN
  rw [List.getD_eq_getElem?_getD, h]
  rfl
theorem atI_neg1 {α : Type} {xs : List α} {v : α} (h : xs[xs.length - 1]? = some v) (h0 : xs ≠ []) : atI xs (-1) = some v := by
  obtain ⟨ys, z, rfl⟩ : ∃ ys z, xs = ys ++ [z] := ⟨xs.dropLast, xs.getLast h0, (List.dropLast_concat_getLast h0).symm⟩
  have e : (ys ++ [z]).length - 1 = ys.length := by simp
  rw [e, List.getElem?_append_right (Nat.le_refl _), Nat.sub_self] at h
  cases h
  exact atI_last ys v
def lineR (r : List (Str × Int)) : List (Str × Int) := if r.length = 1 then [(fstN r, 1)] else if ltS (fstN r) (lstN r) = true then r else turnR r
theorem ok_line {f fT : Addr} {fd dT : FuncData} (F : Fun K "line_form" "line_form" sLineF f fd) (B : Glb mg) (GT : FnOk P w K mg base CX0 5 fT dT ["row"] (spTurn K)) (gT : mg "turned" = some (.ref fT)) (kT : PySem.W.keepIn K (.ref fT) = true) (bT : Binds K dT ["row"] []) :
    FnOk P w K mg base CX0 6 f fd ["row"] (spNe K lineR fun _ _ => True) := by
  refine F.ok scLineF (fun vs H Q E h => ?_) (fun cdv A outer s H vs Q E hr h => ?_)
  · obtain ⟨a, r, rfl, _⟩ := h
    rfl
  · obtain ⟨a, r, rfl, hd, ok, hne, _, q⟩ := h
    obtain ⟨xs, hs, hl, da⟩ := row_at hd
    have few := ok.few
    refine ⟨_, pss_cons (ps_if (pt_cmpR op_eq (pe_callB call_len (by rfl) B.len PySem.boot_len (pa_cons (pv 0) pa_nil)) pe_int (nomark _))
        (pss_one (ps_ret (pe_tup (pa_cons (pe_tup (pa_cons (pe_ix ix_tup (pe_ix ix_tup (pv 0) pe_int (fun _ _ => rfl)) pe_int (fun _ _ => rfl)) (pa_cons pe_int pa_nil))) pa_nil)))) pss_nil)
      (pss_one (ps_ret (pe_ifExp (pt_cmpR op_lt_str (pe_ix ix_tup (pe_ix ix_tup (pv 0) pe_int (fun _ _ => rfl)) pe_int (fun _ _ => rfl)) (pe_ix ix_tup (pe_ix ix_tup (pv 0) (pe_un un_neg pe_int) (fun _ _ => rfl)) pe_int (fun _ _ => rfl)) (nomark _))
        (pv 0) (pe_call GT hr (by rfl) gT kT bT .nil pass0 (pa_cons (pv 0) pa_nil))))), ?_⟩
    have xl : 0 < xs.length := by
      cases r with
      | nil => exact absurd rfl hne
      | cons x t => rw [hl]; exact Nat.succ_pos _
    obtain ⟨b0, x0, hx0, e0, hb0⟩ := dt_items da 0 xs[0] (List.getElem?_eq_getElem xl)
    have at0 : atI xs 0 = some (.ref b0) := by
      rw [← e0]
      exact atI_nat (j := 0) (List.getElem?_eq_getElem xl)
    refine ⟨_, rfl, .ref a, xs.length, rfl, .inr ⟨_, hs, rfl⟩, rfl, _, rfl, ?_⟩
    by_cases h1 : xs.length = 1
    · rw [h1]
      refine iteT ⟨_, rfl, a, xs, 0, _, rfl, rfl, hs, at0, b0, _, 0, _, rfl, rfl, hb0, atI_nat (j := 0) rfl, by show 2 ≤ sizeLine; decide, fun t ht => ⟨by show 1 ≤ sizeLine; decide, fun t2 ht2 => ?_⟩⟩
      have s1 := same_new (o := HO.tup [.str x0.1, .int 1]) ht
      have s2 := same_new (o := HO.tup [.ref t]) ht2
      refine q t2 _ (s1.trans s2) ?_
      have el : lineR r = [(x0.1, 1)] := by
        unfold lineR
        rw [if_pos (by omega), show fstN r = x0.1 from nthN_of hx0]
      rw [el]
      exact .tup (.inl (.inl upd_same)) (.cons (.tup (s2.keepsT _ _ (.inl (.inl upd_same))) (.two (.str _) (.int _))) .nil)
    · have e1 : decide (V.int (xs.length : Int) = V.int 1) = false := decide_eq_false fun z => h1 (by have := V.int.inj z; omega)
      rw [e1]
      obtain ⟨b1, x1, hx1, e1', hb1⟩ := dt_items da (xs.length - 1) xs[xs.length - 1] (List.getElem?_eq_getElem (by omega))
      have at1 : atI xs (-1) = some (.ref b1) := by
        rw [← e1']
        exact atI_neg1 (List.getElem?_eq_getElem (by omega)) (fun z => by rw [z] at xl; exact absurd xl (Nat.lt_irrefl 0))
      refine iteF ⟨_, rfl, a, xs, 0, _, rfl, rfl, hs, at0, b0, _, 0, _, rfl, rfl, hb0, atI_nat (j := 0) rfl, _, rfl, 1, rfl, a, xs, -1, _, rfl, rfl, hs, at1, b1, _, 0, _, rfl, rfl, hb1, atI_nat (j := 0) rfl, x0.1, x1.1, rfl, rfl, _, rfl, ?_⟩
      have el : lineR r = if ltS x0.1 x1.1 = true then r else turnR r := by
        unfold lineR
        rw [if_neg (by omega), show fstN r = x0.1 from nthN_of hx0, show lstN r = x1.1 from nthN_of (by rw [← hl]; exact hx1)]
      show if ltS x0.1 x1.1 = true then _ else _
      cases hlt : ltS x0.1 x1.1 with
      | true =>
        rw [hlt, if_pos rfl] at el
        refine iteT ⟨_, rfl, q a H (.refl H) ?_⟩
        rw [el]
        exact hd
      | false =>
        rw [hlt, if_neg Bool.false_ne_true] at el
        refine iteF ⟨_, rfl, a, r, rfl, hd, ok, fun b H' s' d' _ => q b H' s' ?_⟩
        rw [el]
        exact d'
end
end My
set_option Elab.async false
set_option linter.all false
set_option maxRecDepth 100000
set_option maxHeartbeats 4000000
namespace My
open PySem PySem.Spec PyProof.Rows L2
def leastN (r : List (Str × Int)) : Str := match r.map (·.1) with
  | [] => Str.empty
  | y :: t => minS y t
theorem leastN_mem {r : List (Str × Int)} (h : r ≠ []) : leastN r ∈ r.map (·.1) := by
  cases r with
  | nil => exact absurd rfl h
  | cons x t => exact minS_mem (t.map (·.1)) x.1
def upR (r : List (Str × Int)) : List (Str × Int) := if (leastN r, (1 : Int)) ∈ r then r else turnR r
def atR (r : List (Str × Int)) : Nat := @List.idxOf _ instBEqOfDecidableEq (leastN r, (1 : Int)) (upR r)
def ringR (r : List (Str × Int)) : List (Str × Int) := (upR r).drop (atR r) ++ (upR r).take (atR r)
theorem up_ok {r : List (Str × Int)} (h : RowOk r) : RowOk (upR r) := by
  unfold upR
  split
  · exact h
  · exact turn_ok h
theorem up_has {r : List (Str × Int)} (h : RowOk r) (h0 : r ≠ []) : (leastN r, (1 : Int)) ∈ upR r := by
  unfold upR
  split
  · assumption
  · rename_i z
    obtain ⟨x, hx, e⟩ := List.mem_map.mp (leastN_mem h0)
    rcases h.dir x hx with d | d
    · exact absurd (show (leastN r, (1 : Int)) ∈ r by rw [← e, ← d]; exact hx) z
    · exact List.mem_map.mpr ⟨x, List.mem_reverse.mpr hx, by rw [e, d]; rfl⟩
theorem str_ok {x : Str} (h : NameOk x) : PyData.strOk x = true := by
  unfold PyData.strOk
  rw [Array.all_eq_true_iff_forall_mem]
  intro c hc
  have := h.2.2 c (Array.mem_toList_iff.mpr hc)
  exact decide_eq_true (by omega)
theorem RowOk.lay {r : List (Str × Int)} (h : RowOk r) : LayR r := fun x hx => str_ok (h.nm x hx)
section
variable {K : PySem.W.Frag} {H H' : Hp}
theorem dtAll_take : ∀ {xs : List V} {ds : List PyData} (i : Nat), DtAll K H xs ds → DtAll K H (xs.take i) (ds.take i)
  | _, _, 0, _ => .nil
  | _, _, _ + 1, .nil => .nil
  | _, _, i + 1, .cons a b => .cons a (dtAll_take i b)
theorem dtAll_drop : ∀ {xs : List V} {ds : List PyData} (i : Nat), DtAll K H xs ds → DtAll K H (xs.drop i) (ds.drop i)
  | _, _, 0, h => h
  | _, _, _ + 1, .nil => .nil
  | _, _, i + 1, .cons _ b => dtAll_drop i b
end
section
variable {P : Program} {w : World} {K : PySem.W.Frag} {mg : Str → Option Value} {base : Heap}
theorem ok_ring {f fT fN : Addr} {fd dT dN : FuncData} (F : Fun K "ring_form" "ring_form" sRingF f fd) (mm : mg "min" = none) (GN : FnOk P w K mg base CX0 1 fN dN ["row"] (spNames K)) (gN : mg "names_of" = some (.ref fN)) (kN : PySem.W.keepIn K (.ref fN) = true) (bN : Binds K dN ["row"] [])
    (GT : FnOk P w K mg base CX0 5 fT dT ["row"] (spTurn K)) (gT : mg "turned" = some (.ref fT)) (kT : PySem.W.keepIn K (.ref fT) = true) (bT : Binds K dT ["row"] []) :
    FnOk P w K mg base CX0 6 f fd ["row"] (spNe K ringR fun a H => BareT H a) := by
  refine F.ok scRingF (fun vs H Q E h => ?_) (fun cdv A outer s H vs Q E hr h => ?_)
  · obtain ⟨a, r, rfl, _⟩ := h
    rfl
  · obtain ⟨a, r, rfl, hd, ok, hne, hbt, q⟩ := h
    have few := ok.few
    have hr1 := hr.mono (show 1 ≤ 5 by decide)
    have hu : (A.deeper (envOfC "ring_form" (defScope sRingF) s.heap.objs.size f cdv)).units + 65 < cLine := by
      have := hr.un
      omega
    refine ⟨_, pss_cons (ps_set (i := 1) scRingF.nd rfl (.inl rfl) (pe_callB (call_minS rfl hu) (by rfl) mm boot_min (pa_cons (pe_call GN hr1 (by rfl) gN kN bN .nil pass0 (pa_cons (pv 0) pa_nil)) pa_nil)))
      (Evl.pss_cut (ps_if (pt_cmpR (op_notInRow hu) (pe_tup (pa_cons (pv 1) (pa_cons pe_int pa_nil))) (pv 0) (by rfl)) (pss_one (ps_set (i := 0) scRingF.nd rfl (.inl rfl) (pe_call GT hr (by rfl) gT kT bT .nil pass0 (pa_cons (pv 0) pa_nil)))) pss_nil)
      (pss_cons (ps_set (i := 2) scRingF.nd rfl (.inl rfl) (pe_tm PySem.F.slot_tuple_index PySem.F.type_tuple_index (mt_ixRow hu) (pv 0) (pa_cons (pe_tup (pa_cons (pv 1) (pa_cons pe_int pa_nil))) pa_nil)))
      (pss_one (ps_ret (pe_op op_catA (pe_slice sl_tupA (pv 0) (po_some (pv 2)) po_none) (pe_slice sl_tupA (pv 0) po_none (po_some (pv 2)))))))), ?_⟩
    refine ⟨_, rfl, a, r, rfl, hd, by omega, fun l H1 hl el s1 => ?_⟩
    obtain ⟨y, t, ert⟩ : ∃ y t, r.map (·.1) = y :: t := by
      cases r with
      | nil => exact absurd rfl hne
      | cons x t => exact ⟨x.1, t.map (·.1), rfl⟩
    refine ⟨l, y, t, rfl, by rw [← ert]; exact .inl (.inl el), ?_⟩
    have em : minS y t = leastN r := by
      unfold leastN
      rw [ert]
    rw [em]
    have nml : NameOk (leastN r) := by
      obtain ⟨x, hx, e⟩ := List.mem_map.mp (leastN_mem hne)
      rw [← e]
      exact ok.nm x hx
    refine ⟨fun σ' H' => ∃ a', σ' = [some (.ref a'), some (.str (leastN r)), none] ∧ Same H H' ∧ Dt K H' (.ref a') (rowD (upR r)) ∧ BareT H' a', ?_, ?_⟩
    · refine ⟨_, rfl, by show 2 ≤ sizeLine; decide, fun b hb => ?_⟩
      have s2 := same_new (o := HO.tup [.str (leastN r), .int 1]) hb
      have hd2 := dt_keep (s1.trans s2).keepsT hd
      refine ⟨_, rfl, (leastN r, 1), a, r, rfl, .tup (.inl (.inl upd_same)) (.two (.str _) (.int _)), hd2, str_ok nml, ok.lay, _, rfl, ?_⟩
      by_cases hm : (leastN r, (1 : Int)) ∈ r
      · rw [decide_eq_true hm]
        refine iteF ⟨a, rfl, s1.trans s2, ?_, hbt.keep (s1.trans s2)⟩
        unfold upR
        rw [if_pos hm]
        exact hd2
      · rw [decide_eq_false hm]
        refine iteT ⟨_, rfl, a, r, rfl, hd2, ok, fun c H' s' d' b' => ⟨c, rfl, (s1.trans s2).trans s', ?_, b'⟩⟩
        unfold upR
        rw [if_neg hm]
        exact d'
    · rintro _ H2 ⟨a', rfl, s2, d2, b2⟩
      refine ⟨_, rfl, ⟨a', rfl, b2⟩, _, rfl, by show 2 ≤ sizeLine; decide, fun b hb => ?_⟩
      have s3 := same_new (o := HO.tup [.str (leastN r), .int 1]) hb
      have d3 := dt_keep s3.keepsT d2
      refine ⟨(leastN r, 1), _, a', upR r, rfl, rfl, .tup (.inl (.inl upd_same)) (.two (.str _) (.int _)), d3, str_ok nml, (up_ok ok).lay, up_has ok hne, ?_⟩
      obtain ⟨xs, hs, hlx, da⟩ := row_at d3
      generalize upd H2 b (.tup [.str (leastN r), .int 1]) = H3 at s3 d3 hs da
      refine ⟨_, rfl, _, rfl, _, rfl, ?_⟩
      unfold tNoPart
      dsimp only []
      refine sl_to hs fun c1 H4 s4 t4 => ?_
      rw [cutV_from] at t4
      refine ⟨_, rfl, _, rfl, _, rfl, ?_⟩
      refine sl_to (s4.keepsT _ _ hs) fun c2 H5 s5 t5 => ?_
      rw [cutV_to] at t5
      have fx : xs.length ≤ 1000 := by
        have := (up_ok ok).few
        omega
      refine cat_to (s5.keepsT _ _ t4) t5 (by rw [List.length_drop, List.length_take, sizeLine_eq]; omega) fun c3 H6 s6 t6 => ?_
      have da6 := dt_keepAll ((s4.trans s5).trans s6).keepsT da
      refine q c3 H6 ((((s2.trans s3).trans s4).trans s5).trans s6) ?_
      have e : rowD (ringR r) = .tuple (((upR r).map dwD).drop (atR r) ++ ((upR r).map dwD).take (atR r)) := by
        unfold rowD ringR
        rw [List.map_append, List.map_drop, List.map_take]
      rw [e]
      exact .tup t6 ((dtAll_drop _ da6).append (dtAll_take _ da6))
end
end My
set_option Elab.async false
set_option linter.all false
set_option maxRecDepth 100000
set_option maxHeartbeats 4000000
/-! sorted(list), a < b, a == b of tuples (of tuples ..) that are alike -/
namespace My
open PySem PySem.Spec PyProof.Rows L2
open PySem.W (Datum DatumOrd EachIs)
section
variable {α : Type} [DecidableEq α] [DatumOrd α]
abbrev leO (a b : α) : Bool := !DatumOrd.lt b a
abbrev sortO (xs : List α) : List α := xs.mergeSort leO
theorem leO_eq : PySem.W.dataLe false (fun b : α => Datum.toD b) = leO := by
  funext a b
  rw [PySem.W.dataLe_eq]
  show (!PySem.W.dataLt (Datum.toD b) (Datum.toD a)) = _
  rw [DatumOrd.lt_eq]
theorem leO_total : PySem.W.TotalLe (leO (α := α)) := by
  rw [← leO_eq]
  exact PySem.W.sortLe_total _ _ _
end
/-- a value that stands for x -/
abbrev Hd1 {α : Type} [DecidableEq α] [Datum α] (K : PySem.W.Frag) (H : Hp) (v : V) (x : α) : Prop := Dt K H v (Datum.toD x)
abbrev HdAll {α : Type} [DecidableEq α] [Datum α] (K : PySem.W.Frag) (H : Hp) (vs : List V) (xs : List α) : Prop := DtAll K H vs (xs.map Datum.toD)
section
variable {X : Cx} {α : Type} [DecidableEq α] [DatumOrd α]
def rSortD (α : Type) [DecidableEq α] [DatumOrd α] (K : PySem.W.Frag) : List V → Hp → VK → Prop := fun xs H Q => ∃ (a : Addr) (vs : List V) (bs : List α), xs = [.ref a] ∧ SqL K H a vs ∧ HdAll K H vs bs ∧ bs.length ≤ 1000 ∧
  ∀ (p : Addr) (ws : List V), H p = none → HdAll K H ws (sortO bs) → Q (.ref p) (upd H p (.lst ws))
theorem each_vals {pins : List (Addr × Obj)} {σ : L2.St} {H : Hp} {s : Shared} (I : Inv X pins σ H s) : ∀ {bs : List α} {vs : List V} {its : List Value}, Vals vs its → HdAll X.K H vs bs →
    EachIs (fun v b => ∃ x, RelV x v ∧ Hd1 X.K H x b) its bs ∧ EachIs (fun v b => ∃ as, Reads s.heap v (Datum.toD b) as) its bs
  | [], _, _, r, h => by
    cases h
    cases r
    exact ⟨.nil, .nil⟩
  | b :: bs, _, _, r, h => by
    cases h with
    | cons h1 h2 =>
      cases r with
      | cons r1 r2 =>
        obtain ⟨e1, e2⟩ := each_vals I r2 h2
        exact ⟨.cons ⟨_, r1, h1⟩ e1, .cons (Dp.reads I _ _ _ (dt_dp h1) r1) e2⟩
theorem vals_each {K : PySem.W.Frag} {H : Hp} : ∀ {bs : List α} {out : List Value}, EachIs (fun v b => ∃ x, RelV x v ∧ Hd1 K H x b) out bs → ∃ ws : List V, Vals ws out ∧ HdAll K H ws bs
  | _, _, .nil => ⟨[], .nil, .nil⟩
  | _, _, .cons h r => by
    obtain ⟨x, rx, hx⟩ := h
    obtain ⟨ws, h1, h2⟩ := vals_each r
    exact ⟨x :: ws, .cons rx h1, .cons hx h2⟩
theorem call_sortD (hs : ∀ b : α, ∃ x r, Datum.toD b = .tuple (x :: r)) (hu : X.A.units + 2 + Datum.depth α < cLine) : CallR X (.builtin "sorted") (rSortD α X.K) := by
  intro pins s σ H xs us Q I rv h
  obtain ⟨a, vs, bs, rfl, hl, hb, few, q⟩ := h
  obtain ⟨its, rr, il, hz⟩ := I.list hl
  rw [Vals.ref1 rv]
  obtain ⟨e1, e2⟩ := each_vals I rr hb
  refine PySem.W.sorted_data (R := fun v b => ∃ x, RelV x v ∧ Hd1 X.K H x b) (enc := fun b : α => Datum.toD b) il.isList e1 e2 (PySem.W.AllAlike.of fun b b' => DatumOrd.alike b b') (PySem.W.Sortable.tuples hs) (by rw [sizeLine_eq]; omega)
    (fun b _ => Nat.lt_of_le_of_lt (Nat.add_le_add_left (Datum.depth_le b) _) hu) fun out hlen ho => ?_
  rw [leO_eq] at ho
  obtain ⟨ws, rw', hw⟩ := vals_each ho
  obtain ⟨ep, he'⟩ := PyProof.Rows.sortedAll_at s.heap its out.toArray
  have hws : ws.length ≤ sizeLine := by
    have := rw'.length
    rw [sizeLine_eq]
    omega
  exact ⟨.ref _, upd H (s.heap.objs.size + 1) (.lst ws), I.laid (t' := s.toks) (fun _ _ => PyProof.Rows.sortedAll_old) (Nat.le_succ _) ⟨hws, out, ep, rw', he'⟩, rfl, q _ _ (I.hok.fresh (Nat.le_succ _)) hw⟩
def rLtD (α : Type) [DecidableEq α] [DatumOrd α] (K : PySem.W.Frag) : R2 := fun x y H Q => ∃ p q : α, Hd1 K H x p ∧ Hd1 K H y q ∧ Q (.bl (DatumOrd.lt p q)) H
theorem op_ltD (hu : X.A.units + Datum.depth α < cLine) : OpR X (compareOp .Lt) (rLtD α X.K) := by
  intro pins s σ H x y v u Q I rx ry ⟨p, q, hp, hq, k⟩
  exact PySem.W.lt_datum (Dp.reads I _ _ _ (dt_dp hp) rx) (Dp.reads I _ _ _ (dt_dp hq) ry) hu ⟨.bl _, H, I, rfl, k⟩
def rEqD (α : Type) [DecidableEq α] [Datum α] (K : PySem.W.Frag) : R2 := fun x y H Q => ∃ p q : α, Hd1 K H x p ∧ Hd1 K H y q ∧ Q (.bl (decide (p = q))) H
theorem op_eqDt (hu : X.A.units + Datum.depth α < cLine) : OpR X (compareOp .Eq) (rEqD α X.K) := by
  intro pins s σ H x y v u Q I rx ry ⟨p, q, hp, hq, k⟩
  exact PySem.W.eq_datum (Dp.reads I _ _ _ (dt_dp hp) rx) (Dp.reads I _ _ _ (dt_dp hq) ry) hu ⟨.bl _, H, I, rfl, k⟩
end
end My
set_option Elab.async false
set_option linter.all false
set_option maxRecDepth 100000
set_option maxHeartbeats 4000000
namespace My
open PySem PySem.Spec PyProof.Rows L2
open PySem.W (Datum DatumOrd)
/-! ### orders in which no two are alike -/
def Anti (α : Type) [DecidableEq α] [DatumOrd α] : Prop := ∀ a b : α, DatumOrd.lt a b = false → DatumOrd.lt b a = false → a = b
theorem anti_int : Anti Int := fun a b h1 h2 => by
  have h1 := of_decide_eq_false (p := a < b) h1
  have h2 := of_decide_eq_false (p := b < a) h2
  omega
theorem anti_str : Anti Str := fun a b h1 h2 => by
  have h1 := of_decide_eq_false (p := a.cps.toList < b.cps.toList) h1
  have h2 := of_decide_eq_false (p := b.cps.toList < a.cps.toList) h2
  have e : a.cps.toList = b.cps.toList := List.le_antisymm (List.not_lt.mp h2) (List.not_lt.mp h1)
  cases a
  cases b
  rw [Str.mk.injEq]
  exact Array.toList_inj.mp e
theorem anti_pair {α β : Type} [DecidableEq α] [DatumOrd α] [DecidableEq β] [DatumOrd β] (ha : Anti α) (hb : Anti β) : Anti (α × β) := fun p q h1 h2 => by
  have h1 : (if p.1 = q.1 then DatumOrd.lt p.2 q.2 else DatumOrd.lt p.1 q.1) = false := h1
  have h2 : (if q.1 = p.1 then DatumOrd.lt q.2 p.2 else DatumOrd.lt q.1 p.1) = false := h2
  by_cases e : p.1 = q.1
  · rw [if_pos e] at h1
    rw [if_pos e.symm] at h2
    exact Prod.ext e (hb _ _ h1 h2)
  · rw [if_neg e] at h1
    rw [if_neg fun z => e z.symm] at h2
    exact absurd (ha _ _ h1 h2) e
theorem sortO_perm {α : Type} [DecidableEq α] [DatumOrd α] (A : Anti α) {xs ys : List α} (p : xs.Perm ys) : sortO xs = sortO ys := by
  refine List.Perm.eq_of_pairwise (le := fun a b => leO a b = true) (fun a b _ _ h1 h2 => ?_) (PySem.W.sort_pairwise leO_total xs) (PySem.W.sort_pairwise leO_total ys) (((List.mergeSort_perm xs leO).trans p).trans (List.mergeSort_perm ys leO).symm)
  exact A a b (by simpa using h2) (by simpa using h1)
theorem lt_asym {α : Type} [DecidableEq α] [DatumOrd α] {a b : α} (h : DatumOrd.lt a b = true) : DatumOrd.lt b a = false := by
  rcases leO_total.total a b with q | q
  · simpa using q
  · have q : (!DatumOrd.lt a b) = true := q
    rw [h] at q
    cases q
end My
set_option Elab.async false
set_option linter.all false
set_option maxRecDepth 100000
set_option maxHeartbeats 4000000
namespace My
open PySem PySem.Spec PyProof.Rows L2
/-- a callee's promise and its name -/
structure Has (P : Program) (w : World) (K : PySem.W.Frag) (mg : Str → Option Value) (base : Heap) (k : Nat) (x : Str) (ps : List Str) (sp : Sp) (f : Addr) (fd : FuncData) : Prop where
  o : FnOk P w K mg base CX0 k f fd ps sp
  g : mg x = some (.ref f)
  k : PySem.W.keepIn K (.ref f) = true
  b : Binds K fd ps []
section
variable {X : Cx} {k : Nat} {x : Str} {ps : List Str} {sp : Sp} {f : Addr} {fd : FuncData}
/-- the call of such a def by its name -/
theorem pe_has {e : Expr} {es : List Expr} {t : TA} {p pos : Pos} (G : Has X.prog X.w X.K X.mg X.base k x ps sp f fd) (hr : Room k X.A) (hg : Gl X x) (ha : PA X (e :: es) t) (nd : (x == ("__debug__" : Str)) = false := by decide)
    (he : starEach (e :: es) X.env = (false, eval e X.env) :: starEach es X.env := by rfl) (hp : (backTo pos (starEach es X.env)).any (·.1) = false := by rfl) : PE X (.Call (.Name x p) (e :: es) [] pos) (tCall sp [] E0 t) :=
  pe_call G.o hr hg G.g G.k G.b .nil pass0 ha nd he hp
end
end My
set_option Elab.async false
set_option linter.all false
set_option maxRecDepth 100000
set_option maxHeartbeats 4000000
/-! _law_form -/
namespace My
open PySem PySem.Spec PyProof.Rows L2 LamX
open PySem.W (Datum DatumOrd)
theorem ExtN.keepsT {K : PySem.W.Frag} {H H' : Hp} (e : ExtN H H') : KeepsT K H H' := fun a xs h => by
  rcases h with (h | ⟨ob, h⟩) | h
  · exact .inl (.inl (e _ _ h fun ps z => by cases z))
  · exact .inl (.inr ⟨ob, e _ _ h fun ps z => by cases z⟩)
  · exact .inr h
theorem ExtN.same {H H' : Hp} (s : Same H H') : ExtN H H' := ExtN.of s
/-- a def whose code object is known -/
structure FunC (K : PySem.W.Frag) (x qual : Str) (st : Stmt) (f : Addr) (fd : FuncData) (c : Addr) : Prop where
  ex : ∃ (oc : Value) (od : Option Addr) (kV doc pm : Value) (an : Option Addr) (ct : Value) (osl : Array (Option Value)),
    fd = PySem.W.fnOf x qual (defArgs st) (defBody st) (defScope st) .none kV doc pm an (.ref c) ct ∧ K.lookup f = some ⟨oc, od, .func fd, osl⟩ ∧ PySem.W.codeIn K (.ref c) qual = true
section
variable {P : Program} {w : World} {K : PySem.W.Frag} {mg : Str → Option Value} {base : Heap}
theorem FunC.ok {x qual : Str} {st : Stmt} {f c : Addr} {fd : FuncData} {N ps : List Str} {k : Nat} {sp : Sp} (F : FunC K x qual st f fd c) (S : FnScope N ps (defScope st)) (len : ∀ vs H Q E, sp vs H Q E → vs.length = ps.length)
    (hbody : ∀ (A : Around) (outer : List Env) (s : Shared) (H : Hp) (vs : List V) (Q : VK) (E : XK), Room k (A.deeper (envOfC qual (defScope st) s.heap.objs.size f (.ref c))) → sp vs H Q E →
      ∃ t, PSs (cxOf CX0 P w K mg base N qual (defScope st) f (.ref c) A outer s H E).nox (defBody st) t ∧ t { nx := fun _ H' => Q .non H', rt := Q } (start N vs) H) : FnOk P w K mg base CX0 (k + 1) f fd ps sp := by
  obtain ⟨oc, od, kV, doc, pm, an, ct, osl, rfl, lk, hcd⟩ := F.ex
  refine fn_of lk hcd S len fun A outer s H vs Q E hr hsp => ?_
  obtain ⟨t, h, q⟩ := hbody A outer s H vs Q E hr hsp
  exact ⟨t, h.nox, q⟩
def formR (r : List (Str × Int)) (ring : Bool) : List (Str × Int) := if ring then ringR r else lineR r
def qLam : Str := "_law_form.<locals>.<lambda>"
def spLForm (K : PySem.W.Frag) (T : List (Addr × Str)) : Sp := fun vs H Q _ => ∃ (a : Addr) (r : List (Str × Int)) (ring : Bool), vs = [.ref a, .bl ring] ∧ Dt K H (.ref a) (rowD r) ∧ RowOk r ∧ r ≠ [] ∧ Tabs T H ∧ ∀ (b : Addr) (H' : Hp), ExtN H H' → Tabs T H' → Dt K H' (.ref b) (rowD (formR r ring)) → Q (.ref b) H'
/-- a row's first name -/
theorem row_first {H : Hp} {a : Addr} {x : Str × Int} {t : List (Str × Int)} (h : Dt K H (.ref a) (rowD (x :: t))) : RowAt K H (.ref a) x.1 := by
  obtain ⟨xs, hs, hl, da⟩ := row_at h
  cases xs with
  | nil => cases hl
  | cons v vs =>
    obtain ⟨b, y, e1, e2, hb⟩ := dt_items da 0 v rfl
    cases e1
    subst e2
    exact ⟨a, b, vs, [.int x.2], rfl, hs, hb⟩
theorem idx_gen {α : Type} [BEq α] [LawfulBEq α] {q : α} : ∀ {r : List α} {k : Nat}, r[k]? = some q → (∀ m, m < k → r[m]? ≠ some q) → r.idxOf q = k
  | [], _, h, _ => by cases h
  | x :: t, 0, h, _ => by
    cases h
    exact List.idxOf_cons_self
  | x :: t, k + 1, h, hno => by
    have hx : x ≠ q := fun e => hno 0 (Nat.succ_pos _) (by rw [e]; rfl)
    have hb : (x == q) = false := beq_eq_false_iff_ne.mpr hx
    rw [List.idxOf_cons, hb, idx_gen (r := t) (k := k) h fun m hm => hno (m + 1) (Nat.succ_lt_succ hm)]
    rfl
theorem idx_of {r : List (Str × Int)} {q : Str × Int} {k : Nat} (h : r[k]? = some q) (hno : ∀ m, m < k → r[m]? ≠ some q) : @List.idxOf _ instBEqOfDecidableEq q r = k := @idx_gen _ instBEqOfDecidableEq _ q r k h hno
/-- the law's own choice of a line's reading -/
theorem line_choice {r : List (Str × Int)} (ok : RowOk r) {x y : Str × Int} (h0 : r[0]? = some x) (h1 : r[r.length - 1]? = some y) (hl : r.length ≠ 1) : (if decide (y.1.cps.toList < x.1.cps.toList) = true then turnR r else r) = lineR r := by
  have l0 : 0 < r.length := (List.getElem?_eq_some_iff.mp h0).1
  have l1 : r.length - 1 < r.length := by omega
  have ne : x.1 ≠ y.1 := fun e => by
    have nd := ok.nd
    have e0 : (r.map (·.1))[0]? = some x.1 := by rw [List.getElem?_map, h0]; rfl
    have e1 : (r.map (·.1))[r.length - 1]? = some y.1 := by rw [List.getElem?_map, h1]; rfl
    rw [← e] at e1
    have l1' : r.length - 1 < (r.map (·.1)).length := by rw [List.length_map]; exact l1
    have l0' : 0 < (r.map (·.1)).length := by rw [List.length_map]; exact l0
    have := (List.getElem?_inj l0' nd).mp (e0.trans e1.symm)
    omega
  unfold lineR
  rw [if_neg hl, show fstN r = x.1 from nthN_of h0, show lstN r = y.1 from nthN_of h1]
  show (if ltS y.1 x.1 = true then _ else _) = _
  have asym : ∀ {a b : Str}, ltS a b = true → ltS b a = false := fun {a b} z => lt_asym (α := Str) z
  have anti : ∀ {a b : Str}, ltS a b = false → ltS b a = false → a = b := fun {a b} z1 z2 => anti_str a b z1 z2
  cases e1 : ltS x.1 y.1 with
  | true => rw [asym e1]; rfl
  | false =>
    cases e2 : ltS y.1 x.1 with
    | true => rfl
    | false => exact absurd (anti e1 e2) ne
def lamE : Expr := match defBody sLForm with
  | _ :: _ :: .Return (some (.Call _ _ (k :: _) _)) _ :: _ => k.value
  | _ => .Constant (.int 0) 0 ⟨0, 0, 0, 0⟩
def lamP : Arguments := match lamE with | .Lambda p _ _ _ => p | _ => defArgs sLForm
def lamB : Expr := match lamE with | .Lambda _ b _ _ => b | e => e
def lamS : Scope := match lamE with | .Lambda _ _ s _ => s | _ => defScope sLForm
theorem lam1 : Lam1 "some" qLam lamP lamS lamB := ⟨by rfl, by rfl, by rfl, by rfl, by decide +kernel, by decide, ⟨_, _, _, _, _, _, _, rfl⟩, fun _ _ _ _ => rfl⟩
theorem ring_at {r rx : List (Str × Int)} {j : Nat} (e : rx = upR r) (h : rx[j]? = some (leastN r, (1 : Int))) (hno : ∀ m, m < j → rx[m]? ≠ some (leastN r, (1 : Int))) : ringR r = rx.drop j ++ rx.take j := by
  subst e
  have : atR r = j := idx_of h hno
  unfold ringR
  rw [this]
theorem ok_lform {T : List (Addr × Str)} {f c P1 fT : Addr} {fd dT : FuncData} (F : FunC K "_law_form" "_law_form" sLForm f fd c) (B : Glb mg) (mm : mg "min" = none) (TB : TabB base mg c P1) (hm : (P1, qLam) ∈ T) (one : ∀ p ∈ T, p.1 = P1 → p.2 = qLam)
    (CT : Has P w K mg base 1 "_law_turned" ["row"] (spTurn K) fT dT) : FnOk P w K mg base CX0 2 f fd ["row", "is_ring"] (spLForm K T) := by
  refine F.ok scLForm (fun vs H Q E h => ?_) (fun A outer s H vs Q E hr h => ?_)
  · obtain ⟨a, r, ring, rfl, _⟩ := h
    rfl
  · obtain ⟨a, r, ring, rfl, hd, ok, hne, hT, q⟩ := h
    obtain ⟨xs, hs, hl, da⟩ := row_at hd
    have few := ok.few
    have hu : (A.deeper (envOfC "_law_form" (defScope sLForm) s.heap.objs.size f (.ref c))).units + 65 < cLine := by
      have := hr.un
      omega
    have hu2 : (A.deeper (envOfC "_law_form" (defScope sLForm) s.heap.objs.size f (.ref c))).units + Datum.depth (Str × Int) < cLine := Nat.lt_trans (Nat.add_lt_add_left (by decide) _) hu
    refine ⟨_, pss_cons (ps_if (pt_val (pv 1))
        (pss_cons (ps_set (i := 2) scLForm.nd rfl (.inl rfl) (pe_callB (call_minS rfl hu) (by rfl) mm boot_min (pa_cons (pe_lc (own := [("name", 5), ("direction", 6)]) (g := gPair K 5 6) (tt := tYes) rfl scLForm.nd (pi_tup (pv 0))
            (blkOk_by (own := [("name", 5), ("direction", 6)]) (N := ["row", "is_ring", "least", "some", "k", "name", "direction"]) (sc := defScope sLForm) (by decide +kernel))
            (fun _ _ _ _ _ => pg_tup rfl (pgs_cons (pg_name (i := 5) scLForm.nd rfl (Or.inl rfl) (Or.inr rfl)) (pgs_cons (pg_name (i := 6) scLForm.nd rfl (Or.inl rfl) (Or.inr rfl)) pgs_nil)))
            (fun _ _ _ _ _ => pts_nil) (fun _ _ _ _ _ => pv 5)) pa_nil)))
        (pss_one (ps_for PassesOwn.never rfl (pi_tup (pe_tup (pa_cons (pv 0) (pa_cons (pe_has CT hr (by rfl) (pa_cons (pv 0) pa_nil)) pa_nil)))) (pg_name (i := 3) scLForm.nd rfl (.inl rfl))
          (pss_one (ps_for PassesOwn.never rfl (pi_range1 (by rfl) B.range (pa_cons (pe_callB call_len (by rfl) B.len PySem.boot_len (pa_cons (pv 3) pa_nil)) pa_nil)) (pg_name (i := 4) scLForm.nd rfl (.inl rfl))
            (pss_one (ps_if (pt_cmpR (op_eqDt (α := Str × Int) hu2) (pe_ix ix_tup (pv 3) (pv 4) (fun _ _ => rfl)) (pe_tup (pa_cons (pv 2) (pa_cons pe_int pa_nil))) (nomark _))
              (pss_one (ps_ret (pe_op op_catA (pe_slice sl_tupA (pv 3) (po_some (pv 4)) po_none) (pe_slice sl_tupA (pv 3) po_none (po_some (pv 4)))))) pss_nil)))))))
        pss_nil)
      (pss_cons (ps_if (pt_cmpR op_eq (pe_callB call_len (by rfl) B.len PySem.boot_len (pa_cons (pv 0) pa_nil)) pe_int (nomark _))
        (pss_one (ps_ret (pe_tup (pa_cons (pe_tup (pa_cons (pe_ix ix_tup (pe_ix ix_tup (pv 0) pe_int (fun _ _ => rfl)) pe_int (fun _ _ => rfl)) (pa_cons pe_int pa_nil))) pa_nil)))) pss_nil)
      (pss_one (ps_ret (pe_callBK (call_min2 lam1 hr) (by rfl) mm boot_min (pa_cons (pe_lst (pa_cons (pv 0) (pa_cons (pe_has CT hr (by rfl) (pa_cons (pv 0) pa_nil)) pa_nil))) pa_nil)
        (pk_cons (pe_lam (T := T) (c := c) (P := P1) (params := lamP) (body := lamB) (scope := lamS) ⟨TB, rfl, hm, one, rfl, by decide +kernel⟩) pk_nil))))), ?_⟩
    have xl : 0 < xs.length := by
      cases r with
      | nil => exact absurd rfl hne
      | cons x t => rw [hl]; exact Nat.succ_pos _
    obtain ⟨b0, x0, hx0, e0, hb0⟩ := dt_items da 0 xs[0] (List.getElem?_eq_getElem xl)
    have at0 : atI xs 0 = some (.ref b0) := by
      rw [← e0]
      exact atI_nat (j := 0) (List.getElem?_eq_getElem xl)
    refine ⟨_, rfl, ring, rfl, ?_⟩
    cases ring with
    | true =>
      refine iteT ?_
      refine ⟨_, rfl, a, rfl, ⟨_, hs⟩, fun Dl hD => ?_⟩
      refine lcP_tup (K := K) (a := a) (xs := xs) (fun i Hn => Hn Dl = some (.lst (((r.map (·.1)).take i).map V.str)) ∧ Same H Hn) ⟨upd_same, same_new hD⟩ (fun i Hn _ hp => hp.2.keepsT _ _ hs) (fun i v Hn hv hp => ?_) (fun H1 hp => ?_)
      · obtain ⟨b, x, hx, rfl, hb⟩ := dt_items da i v hv
        have hi := (List.getElem?_eq_some_iff.mp hx).1
        refine ⟨b, .str x.1, .int x.2, rfl, hp.2.keepsT _ _ hb, rfl, _, rfl, _, hp.1, Evl.sz_lt (by rw [List.length_map, List.length_take]; omega), ?_, fun c o z => ?_⟩
        · rw [upd_same, List.take_add_one, List.getElem?_map, hx, List.map_append]
          rfl
        · rw [upd_ne (ne_of_none z hD)]
          exact hp.2 c o z
      · obtain ⟨el, s1⟩ := hp
        rw [hl, ← List.length_map (f := fun x : Str × Int => x.1), List.take_length] at el
        obtain ⟨y, t, ert⟩ : ∃ y t, r.map (·.1) = y :: t := by
          cases r with
          | nil => exact absurd rfl hne
          | cons x t => exact ⟨x.1, t.map (·.1), rfl⟩
        refine ⟨Dl, y, t, rfl, by rw [← ert]; exact .inl (.inl el), ?_⟩
        have em : minS y t = leastN r := by
          unfold leastN
          rw [ert]
        rw [em]
        have d1 := dt_keep s1.keepsT hd
        refine ⟨_, rfl, _, rfl, a, r, rfl, d1, ok, fun bt H4 s4 Rt Bt => ?_⟩
        refine ⟨by show 2 ≤ sizeLine; decide, fun tt htt => ?_⟩
        have s5 := same_new (o := HO.tup [.ref a, .ref bt]) htt
        have t5 : SqT K (upd H4 tt (.tup [.ref a, .ref bt])) tt [.ref a, .ref bt] := .inl (.inl upd_same)
        have d5 := dt_keep (s4.trans s5).keepsT d1
        have Rt5 := dt_keep s5.keepsT Rt
        have S05 := (s1.trans s4).trans s5
        generalize upd H4 tt (.tup [.ref a, .ref bt]) = H5 at s5 t5 d5 Rt5 S05
        refine ⟨tt, rfl, ⟨_, t5⟩, ?_⟩
        refine for_tup (K := K) (a := tt) (xs := [.ref a, .ref bt]) (fun k σ Hn => ∃ y3 y4 y5 y6, σ = [some (.ref a), some (.bl true), some (.str (leastN r)), y3, y4, y5, y6] ∧ Same H5 Hn ∧ (0 < k → (leastN r, (1 : Int)) ∉ r) ∧ (1 < k → (leastN r, (1 : Int)) ∉ turnR r)) ⟨_, _, _, _, rfl, .refl _, fun z => absurd z (Nat.lt_irrefl 0), fun z => absurd z (Nat.not_lt_zero 1)⟩ (fun k σ Hn _ hp => ?_) (fun k x σ Hn hx hp => ?_) (fun σ Hn hp => ?_)
        · obtain ⟨_, _, _, _, _, sm, _⟩ := hp
          exact sm.keepsT _ _ t5
        · obtain ⟨y3, y4, y5, y6, rfl, sm, z0, z1⟩ := hp
          obtain ⟨bx, rx, rfl, Rx, okx, hrx⟩ : ∃ bx rx, x = .ref bx ∧ Dt K Hn (.ref bx) (rowD rx) ∧ RowOk rx ∧ ((k = 0 ∧ rx = r) ∨ (k = 1 ∧ rx = turnR r)) := by
            match k, hx with
            | 0, hx => cases hx; exact ⟨a, r, rfl, dt_keep sm.keepsT d5, ok, .inl ⟨rfl, rfl⟩⟩
            | 1, hx => cases hx; exact ⟨bt, turnR r, rfl, dt_keep sm.keepsT Rt5, turn_ok ok, .inr ⟨rfl, rfl⟩⟩
          obtain ⟨xsx, hsx, hlx, dax⟩ := row_at Rx
          have fewx := okx.few
          refine ⟨_, rfl, .ref bx, xsx.length, rfl, .inr ⟨_, hsx, rfl⟩, xsx.length, rfl, by omega, by omega, ?_⟩
          refine for_range (lo := 0) (n := ((xsx.length : Nat) : Int).toNat) (fun j σ H' => ∃ y4 y5 y6, σ = [some (.ref a), some (.bl true), some (.str (leastN r)), some (.ref bx), y4, y5, y6] ∧ Same Hn H' ∧ ∀ m, m < j → rx[m]? ≠ some (leastN r, (1 : Int))) ⟨_, _, _, rfl, .refl _, fun m z => absurd z (Nat.not_lt_zero m)⟩ (fun j σ H6 hj hp => ?_) (fun σ H6 hp => ?_)
          · obtain ⟨y4, y5, y6, rfl, s6, hno⟩ := hp
            rw [show (0 : Int) + (j : Int) = (j : Int) from Int.zero_add _]
            rw [Int.toNat_natCast] at hj
            obtain ⟨b1, x1, hx1, e1, hb1⟩ := dt_items dax j xsx[j] (List.getElem?_eq_getElem hj)
            refine ⟨_, rfl, _, rfl, bx, xsx, _, _, rfl, rfl, s6.keepsT _ _ hsx, atI_nat (List.getElem?_eq_getElem hj), ?_⟩
            refine ⟨_, rfl, by show 2 ≤ sizeLine; decide, fun c0 hc0 => ?_⟩
            have s7 := same_new (o := HO.tup [.str (leastN r), .int 1]) hc0
            have n7 : SqT K (upd H6 c0 (.tup [.str (leastN r), .int 1])) c0 [.str (leastN r), .int 1] := .inl (.inl upd_same)
            generalize upd H6 c0 (.tup [.str (leastN r), .int 1]) = H7 at s7 n7
            have s67 := s6.trans s7
            refine ⟨x1, (leastN r, 1), e1.symm ▸ .tup (s67.keepsT _ _ hb1) (.two (.str _) (.int _)), .tup n7 (.two (.str _) (.int _)), ?_⟩
            by_cases hq : x1 = (leastN r, (1 : Int))
            · rw [decide_eq_true hq]
              rw [hq] at hx1
              have eU : rx = upR r := by
                rcases hrx with ⟨_, er⟩ | ⟨ek, er⟩
                · have hmem := List.mem_of_getElem? hx1
                  rw [er] at hmem ⊢
                  unfold upR
                  rw [if_pos hmem]
                · unfold upR
                  rw [er, if_neg (z0 (by omega))]
              have eR := ring_at eU hx1 hno
              refine ⟨_, rfl, iteT ?_⟩
              refine ⟨_, rfl, _, rfl, _, rfl, ?_⟩
              unfold tNoPart
              dsimp only []
              refine sl_to (s67.keepsT _ _ hsx) fun c1 H8 s8 t8 => ?_
              rw [cutV_from] at t8
              refine ⟨_, rfl, _, rfl, _, rfl, ?_⟩
              refine sl_to ((s67.trans s8).keepsT _ _ hsx) fun c2 H9 s9 t9 => ?_
              rw [cutV_to] at t9
              have fx : xsx.length ≤ 1000 := by omega
              refine cat_to (s9.keepsT _ _ t8) t9 (by rw [List.length_drop, List.length_take, sizeLine_eq]; omega) fun c3 H10 s10 t10 => ?_
              have sa := ((s67.trans s8).trans s9).trans s10
              have da10 := dt_keepAll sa.keepsT dax
              have sT := (S05.trans sm).trans sa
              refine q c3 H10 (ExtN.same sT) (hT.ext sT) ?_
              have e : rowD (formR r true) = .tuple ((rx.map dwD).drop j ++ (rx.map dwD).take j) := by
                show rowD (ringR r) = _
                rw [eR]
                unfold rowD
                rw [List.map_append, List.map_drop, List.map_take]
              rw [e]
              exact .tup t10 ((dtAll_drop _ da10).append (dtAll_take _ da10))
            · rw [decide_eq_false hq]
              refine ⟨_, rfl, iteF ?_⟩
              refine ⟨_, _, _, rfl, s67, fun m hm => ?_⟩
              rcases Nat.lt_succ_iff_lt_or_eq.mp hm with hm | hm
              · exact hno m hm
              · subst hm
                rw [hx1]
                exact fun z => hq (Option.some.inj z)
          · obtain ⟨y4, y5, y6, rfl, s6, hno⟩ := hp
            rw [Int.toNat_natCast] at hno
            have nm : (leastN r, (1 : Int)) ∉ rx := fun z => by
              obtain ⟨m, hm, e⟩ := List.mem_iff_getElem.mp z
              exact hno m (by omega) (by rw [List.getElem?_eq_getElem hm, e])
            refine ⟨_, _, _, _, rfl, sm.trans s6, fun _ => ?_, fun hk => ?_⟩
            · rcases hrx with ⟨_, er⟩ | ⟨ek, er⟩
              · exact fun z => nm (er.symm ▸ z)
              · exact z0 (by omega)
            · rcases hrx with ⟨ek, er⟩ | ⟨ek, er⟩
              · omega
              · exact fun z => nm (er.symm ▸ z)
        · obtain ⟨y3, y4, y5, y6, rfl, sm, z0, z1⟩ := hp
          have hh := up_has ok hne
          unfold upR at hh
          split at hh
          · exact absurd hh (z0 (Nat.succ_pos _))
          · exact absurd hh (z1 (Nat.lt_succ_self 1))
    | false =>
      refine iteF ?_
      refine ⟨_, rfl, .ref a, xs.length, rfl, .inr ⟨_, hs, rfl⟩, rfl, _, rfl, ?_⟩
      by_cases h1 : xs.length = 1
      · rw [h1]
        refine iteT ⟨_, rfl, a, xs, 0, _, rfl, rfl, hs, at0, b0, _, 0, _, rfl, rfl, hb0, atI_nat (j := 0) rfl, by show 2 ≤ sizeLine; decide, fun t ht => ⟨by show 1 ≤ sizeLine; decide, fun t2 ht2 => ?_⟩⟩
        have s1 := same_new (o := HO.tup [.str x0.1, .int 1]) ht
        have s2 := same_new (o := HO.tup [.ref t]) ht2
        have el : lineR r = [(x0.1, 1)] := by
          unfold lineR
          rw [if_pos (by omega), show fstN r = x0.1 from nthN_of hx0]
        refine q t2 _ (ExtN.same (s1.trans s2)) (hT.ext (s1.trans s2)) ?_
        show Dt K _ _ (rowD (lineR r))
        rw [el]
        exact .tup (.inl (.inl upd_same)) (.cons (.tup (s2.keepsT _ _ (.inl (.inl upd_same))) (.two (.str _) (.int _))) .nil)
      · have e1 : decide (V.int (xs.length : Int) = V.int 1) = false := decide_eq_false fun z => h1 (by have := V.int.inj z; omega)
        rw [e1]
        refine iteF ⟨_, rfl, _, rfl, a, r, rfl, hd, ok, fun bt H1 s1 Rt Bt => ?_⟩
        refine ⟨by show 2 ≤ sizeLine; decide, fun L hL => ?_⟩
        have s2 := same_new (o := HO.lst [.ref a, .ref bt]) hL
        have L2 : (upd H1 L (.lst [.ref a, .ref bt])) L = some (.lst [.ref a, .ref bt]) := upd_same
        have d2 := dt_keep (s1.trans s2).keepsT hd
        have Rt2 := dt_keep s2.keepsT Rt
        have hT2 := hT.ext (s1.trans s2)
        generalize upd H1 L (.lst [.ref a, .ref bt]) = H2 at s2 L2 d2 Rt2 hT2
        refine ⟨hT2, fun fl c' H3 x3 hT3 hf hc => ?_⟩
        have k3 : KeepsT K H2 H3 := ExtN.keepsT x3
        have L3 := x3 _ _ L2 fun ps z => by cases z
        have d3 := dt_keep k3 d2
        have Rt3 := dt_keep k3 Rt2
        obtain ⟨y0, hy0⟩ : ∃ y, r[r.length - 1]? = some y := ⟨_, List.getElem?_eq_getElem (by omega)⟩
        have ra1 : RowAt K H3 (.ref a) x0.1 := row_first (x := x0) (t := r.tail) (by
          have : r = x0 :: r.tail := by
            cases r with
            | nil => exact absurd rfl hne
            | cons z t => cases hx0; rfl
          rw [← this]
          exact d3)
        have ra2 : RowAt K H3 (.ref bt) y0.1 := row_first (x := (y0.1, -y0.2)) (t := (turnR r).tail) (by
          have e : (turnR r)[0]? = some (y0.1, -y0.2) := by
            unfold turnR
            rw [List.getElem?_map, List.getElem?_reverse (by omega), Nat.sub_zero, hy0]
            rfl
          have : turnR r = (y0.1, -y0.2) :: (turnR r).tail := by
            cases hq : turnR r with
            | nil => rw [hq] at e; cases e
            | cons z t => rw [hq] at e; cases e; rfl
          rw [← this]
          exact Rt3)
        refine ⟨L, fl, c', .ref a, .ref bt, x0.1, y0.1, rfl, rfl, .inl (.inl L3), ra1, ra2, hf, hc, ?_⟩
        have ch := line_choice ok hx0 hy0 (by omega)
        have xH : ExtN H H3 := (ExtN.same (s1.trans s2)).trans x3
        cases hd0 : decide (y0.1.cps.toList < x0.1.cps.toList) with
        | true =>
          rw [hd0, if_pos rfl] at ch
          rw [if_pos rfl]
          refine q bt H3 xH hT3 ?_
          show Dt K _ _ (rowD (lineR r))
          rw [← ch]
          exact Rt3
        | false =>
          rw [hd0, if_neg Bool.false_ne_true] at ch
          rw [if_neg Bool.false_ne_true]
          refine q a H3 xH hT3 ?_
          show Dt K _ _ (rowD (lineR r))
          rw [← ch]
          exact d3
end
end My
set_option Elab.async false
set_option linter.all false
set_option maxRecDepth 100000
set_option maxHeartbeats 4000000
namespace My
open PySem PySem.Spec PyProof.Rows L2 NdefX
section
variable {P : Program} {w : World} {K : PySem.W.Frag} {mg : Str → Option Value} {base : Heap}
/-! ### the classes -/
def kRow : Str := "_row"
/-- what is asked of the class of self -/
structure RowCls (K : PySem.W.Frag) (C : Addr) : Prop where
  c : Cls K C
  n : NoAttr K C "_row"
def spInit (K : PySem.W.Frag) (m : Nat) (C : Addr) (g : List (Str × Int) → List (Str × Int)) (pre : Addr → Hp → Prop) (post : Addr → Addr → Prop) : Sp := fun vs H Q _ => ∃ (x a dx : Addr) (fs : List (Str × V)) (r : List (Str × Int)), vs = [.ref x, .ref a] ∧ H x = some (.ins C dx fs) ∧ fs.length ≤ 100 ∧ Dt K H (.ref a) (rowD r) ∧ RowOk r ∧ r ≠ [] ∧ pre a H ∧
  ∀ (b : Addr) (fs' : List (Str × V)) (H' : Hp), SameP x H H' → H' x = some (.ins C dx fs') → fs'.lookup kRow = some (V.ref b) → (∀ k, k ≠ kRow → fs'.lookup k = fs.lookup k) → fs'.length ≤ fs.length + m → Dt K H' (.ref b) (rowD (g r)) → post a b → Q .non H'
def spChkF (K : PySem.W.Frag) : Sp := fun vs H Q _ => ∃ (a : Addr) (r : List (Str × Int)), vs = [.ref a] ∧ Dt K H (.ref a) (rowD r) ∧ RowOk r ∧ r ≠ [] ∧ ∀ H', Same H H' → Q .non H'
theorem ok_chkF {f fR : Addr} {fd dR : FuncData} (F : Fun K "check_filled_row" "check_filled_row" sChkF f fd) (GR : FnOk P w K mg base CX0 4 fR dR ["value"] (spIsRow K)) (gR : mg "is_row" = some (.ref fR)) (kR : PySem.W.keepIn K (.ref fR) = true) (bR : Binds K dR ["value"] []) :
    FnOk P w K mg base CX0 5 f fd ["value"] (spChkF K) := by
  refine F.ok scChkF (fun vs H Q E h => ?_) (fun cdv A outer s H vs Q E hr h => ?_)
  · obtain ⟨a, r, rfl, _⟩ := h
    rfl
  · obtain ⟨a, r, rfl, hd, ok, hne, q⟩ := h
    obtain ⟨xs, hs, hl, da⟩ := row_at hd
    refine ⟨_, pss_one (ps_if (PW.pt (pw_or (pt_not (pt_val (pe_call GR hr (by rfl) gR kR bR .nil pass0 (pa_cons (pv 0) pa_nil)))) (pw_or1 (pt_cmpR (op_eqNil hr.units) (pv 0) (pe_tup pa_nil) (nomark _))))) (pss_one ps_no) pss_nil), ?_⟩
    refine ⟨_, rfl, a, .ref a, rowD r, rfl, dt_da hd, fit_row ok, fun H1 s1 => ⟨_, rfl, ?_⟩⟩
    rw [is_row ok]
    refine iteF ⟨_, rfl, by show 0 ≤ sizeLine; decide, fun e he => ?_⟩
    have s2 := same_new (o := HO.tup []) he
    refine ⟨a, e, xs, rfl, rfl, .inr ⟨(s1.trans s2).keepsT _ _ hs, .inl (.inl upd_same)⟩, _, rfl, ?_⟩
    have hxs : xs.isEmpty = false := by
      cases xs with
      | nil => exact absurd (List.length_eq_zero_iff.mp hl.symm) hne
      | cons _ _ => rfl
    show if xs.isEmpty = true then _ else _
    rw [hxs]
    exact iteF (q _ (s1.trans s2))
theorem ok_train {f fR : Addr} {fd dR : FuncData} (C : Addr) (F : Fun K "__init__" "Train.__init__" sTrInit f fd) (GR : FnOk P w K mg base CX0 5 fR dR ["value"] (spChkF K)) (gR : mg "check_filled_row" = some (.ref fR)) (kR : PySem.W.keepIn K (.ref fR) = true) (bR : Binds K dR ["value"] []) (RC : RowCls K C) :
    FnOk P w K mg base CX0 6 f fd ["self", "row"] (spInit K 1 C id (fun _ _ => True) (fun a b => b = a)) := by
  refine F.ok scTrInit (fun vs H Q E h => ?_) (fun cdv A outer s H vs Q E hr h => ?_)
  · obtain ⟨x, a, dx, fs, r, rfl, _⟩ := h
    rfl
  · obtain ⟨x, a, dx, fs, r, rfl, hx, hfs, hd, ok, hne, _, q⟩ := h
    refine ⟨_, pss_cons (ps_expr (pe_call GR hr (by rfl) gR kR bR .nil pass0 (pa_cons (pv 1) pa_nil)))
      (pss_one (ps_fld (pv 0) (pv 1) rfl)), ?_⟩
    refine ⟨_, rfl, a, r, rfl, hd, ok, hne, fun H1 s1 => ?_⟩
    refine ⟨_, rfl, _, rfl, x, C, dx, fs, rfl, s1 _ _ hx, RC.c, RC.n, by omega, ?_⟩
    refine q a _ _ (fun b o ne z => by rw [upd_ne ne]; exact s1 _ _ z) upd_same (by rw [kRow, lookup_putF, if_pos rfl]) (fun k hk => (lookup_putF _ _ _ _).trans (if_neg hk)) (by have := length_putF "_row" (V.ref a) fs; omega) (dt_keep (KeepsT.at (fun _ z => ?_) (fun _ _ z => ?_)) (dt_keep s1.keepsT hd)) rfl
    · rw [s1 _ _ hx] at z
      cases z
    · rw [s1 _ _ hx] at z
      cases z
end
end My
set_option Elab.async false
set_option linter.all false
set_option maxRecDepth 100000
set_option maxHeartbeats 4000000
namespace My
open PySem PySem.Spec PyProof.Rows L2 NdefX
def nfLn (cc c : Addr) : NF := ⟨"__init__", "Line.__init__", defArgs sLnInit, defBody sLnInit, defScope sLnInit, [(("__class__" : Str), cc)], c⟩
def nfRg (cc c : Addr) : NF := ⟨"__init__", "Ring.__init__", defArgs sRgInit, defBody sRgInit, defScope sRgInit, [(("__class__" : Str), cc)], c⟩
theorem nsLn (cc c : Addr) : NScope ["self", "row", "__class__"] ["self", "row"] [("__class__" : Str)] (nfLn cc c).scope := nscope_by (by show nscB _ _ _ (defScope sLnInit) = true; decide +kernel)
theorem nsRg (cc c : Addr) : NScope ["self", "row", "__class__"] ["self", "row"] [("__class__" : Str)] (nfRg cc c).scope := nscope_by (by show nscB _ _ _ (defScope sRgInit) = true; decide +kernel)
section
variable {P : Program} {w : World} {K : PySem.W.Frag} {mg : Str → Option Value} {base : Heap}
theorem ok_lineInit {f C g cc c fL : Addr} {fd gd dL : FuncData} (T : SupFn P K mg (nfLn cc c) ["self", "row"] f C g cc fd) (RC : RowCls K C) (GI : FnOk P w K mg base CX0 6 g gd ["self", "row"] (spInit K 1 C id (fun _ _ => True) (fun a b => b = a))) (bI : Binds K gd ["self", "row"] [])
    (GL : FnOk P w K mg base CX0 6 fL dL ["row"] (spNe K lineR fun _ _ => True)) (gL : mg "line_form" = some (.ref fL)) (kL : PySem.W.keepIn K (.ref fL) = true) (bL : Binds K dL ["row"] []) :
    FnOk P w K mg base CX0 7 f fd ["self", "row"] (spInit K 2 C lineR (fun _ _ => True) (fun _ _ => True)) := by
  refine fn_super (N := ["self", "row", "__class__"]) (k := 6) T (nsLn cc c) rfl (GI.mono (by decide)) bI (fun vs H Q E h => ?_) (fun A stk s H vs Q E hr h => ?_) (fun _ => rfl) (fun _ => ⟨_, rfl⟩)
  · obtain ⟨x, a, dx, fs, r, rfl, _⟩ := h
    rfl
  · obtain ⟨x, a, dx, fs, r, rfl, hx, hfs, hd, ok, hne, _, q⟩ := h
    refine ⟨_, _, pa_cons (pv 1) pa_nil, pss_one (ps_fld (pv 0) (pe_call GL hr (by rfl) gL kL bL .nil pass0 (pa_cons (pv 1) pa_nil)) rfl), x, dx, fs, rfl, hx, ?_⟩
    refine ⟨_, rfl, x, a, dx, fs, r, rfl, hx, hfs, hd, ok, hne, trivial, fun b fs1 H1 s1 x1 l1 o1 n1 d1 eb => ?_⟩
    subst eb
    refine ⟨_, rfl, b, r, rfl, d1, ok, hne, trivial, fun b2 H2 s2 d2 => ⟨_, rfl, x, C, dx, fs1, rfl, s2 _ _ x1, RC.c, RC.n, by omega, ?_⟩⟩
    refine q b2 _ _ (fun c o ne z => by rw [upd_ne ne]; exact s2 _ _ (s1 _ _ ne z)) upd_same (by rw [kRow, lookup_putF, if_pos rfl]) (fun k hk => ((lookup_putF _ _ _ _).trans (if_neg hk)).trans (o1 k hk)) ?_ (dt_keep (KeepsT.at (fun _ z => ?_) (fun _ _ z => ?_)) d2) trivial
    · have := length_putF "_row" (V.ref b2) fs1
      omega
    · rw [s2 _ _ x1] at z
      cases z
    · rw [s2 _ _ x1] at z
      cases z
theorem ok_ringInit {f C g cc c fL : Addr} {fd gd dL : FuncData} (T : SupFn P K mg (nfRg cc c) ["self", "row"] f C g cc fd) (RC : RowCls K C) (GI : FnOk P w K mg base CX0 6 g gd ["self", "row"] (spInit K 1 C id (fun _ _ => True) (fun a b => b = a))) (bI : Binds K gd ["self", "row"] [])
    (GL : FnOk P w K mg base CX0 6 fL dL ["row"] (spNe K ringR fun a H => BareT H a)) (gL : mg "ring_form" = some (.ref fL)) (kL : PySem.W.keepIn K (.ref fL) = true) (bL : Binds K dL ["row"] []) :
    FnOk P w K mg base CX0 7 f fd ["self", "row"] (spInit K 2 C ringR (fun a H => BareT H a) (fun _ _ => True)) := by
  refine fn_super (N := ["self", "row", "__class__"]) (k := 6) T (nsRg cc c) rfl (GI.mono (by decide)) bI (fun vs H Q E h => ?_) (fun A stk s H vs Q E hr h => ?_) (fun _ => rfl) (fun _ => ⟨_, rfl⟩)
  · obtain ⟨x, a, dx, fs, r, rfl, _⟩ := h
    rfl
  · obtain ⟨x, a, dx, fs, r, rfl, hx, hfs, hd, ok, hne, hbt, q⟩ := h
    refine ⟨_, _, pa_cons (pv 1) pa_nil, pss_one (ps_fld (pv 0) (pe_call GL hr (by rfl) gL kL bL .nil pass0 (pa_cons (pv 1) pa_nil)) rfl), x, dx, fs, rfl, hx, ?_⟩
    refine ⟨_, rfl, x, a, dx, fs, r, rfl, hx, hfs, hd, ok, hne, trivial, fun b fs1 H1 s1 x1 l1 o1 n1 d1 eb => ?_⟩
    subst eb
    have hb1 : BareT H1 b := by
      obtain ⟨ob, ys, e1, e2⟩ := hbt
      exact ⟨ob, ys, s1 _ _ (ne_of e1 hx fun z => nomatch z) e1, e2⟩
    refine ⟨_, rfl, b, r, rfl, d1, ok, hne, hb1, fun b2 H2 s2 d2 => ⟨_, rfl, x, C, dx, fs1, rfl, s2 _ _ x1, RC.c, RC.n, by omega, ?_⟩⟩
    refine q b2 _ _ (fun c o ne z => by rw [upd_ne ne]; exact s2 _ _ (s1 _ _ ne z)) upd_same (by rw [kRow, lookup_putF, if_pos rfl]) (fun k hk => ((lookup_putF _ _ _ _).trans (if_neg hk)).trans (o1 k hk)) ?_ (dt_keep (KeepsT.at (fun _ z => ?_) (fun _ _ z => ?_)) d2) trivial
    · have := length_putF "_row" (V.ref b2) fs1
      omega
    · rw [s2 _ _ x1] at z
      cases z
    · rw [s2 _ _ x1] at z
      cases z
end
end My
set_option Elab.async false
set_option linter.all false
set_option maxRecDepth 100000
set_option maxHeartbeats 4000000
namespace My
open PySem PySem.Spec PyProof.Rows L2 NdefX
/-! ### a row's text -/
def wordR (x : Str × Int) : Str := if x.2 = 1 then x.1 else ("-" : Str) ++ x.1
def textR (r : List (Str × Int)) : Str := Txt.join " " (r.map wordR)
theorem word_len {x : Str × Int} (h : NameOk x.1) : (wordR x).length ≤ 9 := by
  have := h.2.1
  unfold wordR
  split
  · omega
  · rw [strLen_append]
    show 1 + _ ≤ 9
    omega
theorem words_len : ∀ r : List (Str × Int), (∀ x ∈ r, NameOk x.1) → ((r.map wordR).map (·.length)).sum ≤ 9 * r.length
  | [], _ => Nat.zero_le _
  | x :: r, h => by
    have ih := words_len r fun y hy => h y (List.mem_cons_of_mem _ hy)
    have := word_len (h x List.mem_cons_self)
    simp only [List.map_cons, List.sum_cons, List.length_cons]
    omega
section
variable {P : Program} {w : World} {K : PySem.W.Frag} {mg : Str → Option Value} {base : Heap}
def spText (K : PySem.W.Frag) : Sp := fun vs H Q _ => ∃ (a : Addr) (r : List (Str × Int)), vs = [.ref a] ∧ Dt K H (.ref a) (rowD r) ∧ RowOk r ∧ ∀ H', Same H H' → Q (.str (textR r)) H'
theorem ok_text {f : Addr} {fd : FuncData} (F : Fun K "row_text" "row_text" sText f fd) : FnOk P w K mg base CX0 1 f fd ["row"] (spText K) := by
  refine F.ok scText (fun vs H Q E h => ?_) (fun cdv A outer s H vs Q E hr h => ?_)
  · obtain ⟨a, r, rfl, _⟩ := h
    rfl
  · obtain ⟨a, r, rfl, hd, ok, q⟩ := h
    obtain ⟨xs, hs, hl, da⟩ := row_at hd
    have few := ok.few
    refine ⟨_, pss_one (ps_ret (pe_join pe_str (pe_lc (own := [("name", 1), ("direction", 2)]) (g := gPair K 1 2) (tt := tYes) rfl scText.nd (pi_tup (pv 0))
        (blkOk_by (own := [("name", 1), ("direction", 2)]) (N := ["row", "name", "direction"]) (sc := defScope sText) (by decide +kernel))
        (fun _ _ _ _ _ => pg_tup rfl (pgs_cons (pg_name (i := 1) scText.nd rfl (Or.inl rfl) (Or.inr rfl)) (pgs_cons (pg_name (i := 2) scText.nd rfl (Or.inl rfl) (Or.inr rfl)) pgs_nil)))
        (fun _ _ _ _ _ => pts_nil) (fun _ _ _ _ _ => pe_ifExp (pt_cmpR op_eq (pv 2) pe_int (nomark _)) (pv 1) (pe_op op_add_str pe_str (pv 1)))))), ?_⟩
    refine ⟨⟨_, rfl⟩, _, rfl, a, rfl, ⟨_, hs⟩, fun Dl hD => ?_⟩
    refine lcP_tup (K := K) (a := a) (xs := xs) (fun i Hn => Hn Dl = some (.lst (((r.map wordR).take i).map V.str)) ∧ Same H Hn) ⟨upd_same, same_new hD⟩ (fun i Hn _ hp => hp.2.keepsT _ _ hs) (fun i v Hn hv hp => ?_) (fun Hn hp => ?_)
    · obtain ⟨b, x, hx, rfl, hb⟩ := dt_items da i v hv
      have hi := (List.getElem?_eq_some_iff.mp hx).1
      refine ⟨b, .str x.1, .int x.2, rfl, hp.2.keepsT _ _ hb, rfl, ?_⟩
      have fin : ∃ acc, Hn Dl = some (.lst acc) ∧ acc.length < sizeLine ∧ (upd Hn Dl (.lst (acc ++ [.str (wordR x)]))) Dl = some (.lst (((r.map wordR).take (i + 1)).map V.str)) ∧ Same H (upd Hn Dl (.lst (acc ++ [.str (wordR x)]))) := by
        refine ⟨_, hp.1, Evl.sz_lt (by rw [List.length_map, List.length_take]; omega), ?_, fun c o z => ?_⟩
        · rw [upd_same, List.take_add_one, List.getElem?_map, hx, List.map_append]
          rfl
        · rw [upd_ne (ne_of_none z hD)]
          exact hp.2 c o z
      refine ⟨_, rfl, rfl, _, rfl, ?_⟩
      have := (ok.nm x (List.mem_of_getElem? hx)).2.1
      by_cases h1 : x.2 = 1
      · rw [decide_eq_true (by rw [h1])]
        refine iteT ⟨_, rfl, ?_⟩
        rw [show wordR x = x.1 by unfold wordR; rw [if_pos h1]] at fin
        exact fin
      · rw [decide_eq_false fun z => h1 (V.int.inj z)]
        refine iteF ⟨_, rfl, _, _, rfl, rfl, by show 1 + x.1.length ≤ _; rw [sizeLine_eq]; omega, ?_⟩
        rw [show wordR x = ("-" : Str) ++ x.1 by unfold wordR; rw [if_neg h1]] at fin
        exact fin
    · refine ⟨" ", Dl, r.map wordR, rfl, rfl, .inl ?_, ?_, q Hn hp.2⟩
      · have e := hp.1
        rw [hl, ← List.length_map (f := wordR), List.take_length] at e
        exact .inl (.inl e)
      · have := words_len r ok.nm
        rw [List.length_map]
        show _ + r.length * 1 ≤ 16777216
        omega
end
end My
set_option Elab.async false
set_option linter.all false
set_option maxRecDepth 100000
set_option maxHeartbeats 4000000
namespace My
open PySem PySem.Spec PyProof.Rows L2
theorem text_len {r : List (Str × Int)} (h : RowOk r) : (textR r).length ≤ 300 := by
  have h1 := words_len r h.nm
  have h2 := h.few
  have h3 := StrLaws.join_length_le " " (r.map wordR)
  unfold textR
  rw [TL.join_eq]
  rw [List.length_map] at h3
  have h4 : (" " : Str).length = 1 := rfl
  rw [h4] at h3
  omega
section
variable {P : Program} {w : World} {K : PySem.W.Frag} {mg : Str → Option Value} {base : Heap}
def spTxtM (K : PySem.W.Frag) (C : Addr) (g : Str → Str) : Sp := fun vs H Q _ => ∃ (x a dx : Addr) (fs : List (Str × V)) (r : List (Str × Int)), vs = [.ref x] ∧ H x = some (.ins C dx fs) ∧ fs.lookup kRow = some (V.ref a) ∧ Dt K H (.ref a) (rowD r) ∧ RowOk r ∧ ∀ H', Same H H' → Q (.str (g (textR r))) H'
theorem ok_lineText {f fT C : Addr} {fd dT : FuncData} (F : Fun K "text" "Line.text" sLnText f fd) (RC : RowCls K C) (GT : FnOk P w K mg base CX0 1 fT dT ["row"] (spText K)) (gT : mg "row_text" = some (.ref fT)) (kT : PySem.W.keepIn K (.ref fT) = true) (bT : Binds K dT ["row"] []) :
    FnOk P w K mg base CX0 2 f fd ["self"] (spTxtM K C id) := by
  refine F.ok scLnText (fun vs H Q E h => ?_) (fun cdv A outer s H vs Q E hr h => ?_)
  · obtain ⟨x, a, dx, fs, r, rfl, _⟩ := h
    rfl
  · obtain ⟨x, a, dx, fs, r, rfl, hx, hl, hd, ok, q⟩ := h
    refine ⟨_, pss_one (ps_ret (pe_call GT hr (by rfl) gT kT bT .nil pass0 (pa_cons (pe_fld (pv 0) rfl) pa_nil))), ?_⟩
    exact ⟨_, rfl, x, C, dx, fs, _, rfl, hx, RC.c, RC.n, hl, a, r, rfl, hd, ok, fun H' s' => q H' s'⟩
theorem ok_ringText {f fT C : Addr} {fd dT : FuncData} (F : Fun K "text" "Ring.text" sRgText f fd) (RC : RowCls K C) (GT : FnOk P w K mg base CX0 1 fT dT ["row"] (spText K)) (gT : mg "row_text" = some (.ref fT)) (kT : PySem.W.keepIn K (.ref fT) = true) (bT : Binds K dT ["row"] []) :
    FnOk P w K mg base CX0 2 f fd ["self"] (spTxtM K C fun t => ("(" : Str) ++ t ++ (")" : Str)) := by
  refine F.ok scRgText (fun vs H Q E h => ?_) (fun cdv A outer s H vs Q E hr h => ?_)
  · obtain ⟨x, a, dx, fs, r, rfl, _⟩ := h
    rfl
  · obtain ⟨x, a, dx, fs, r, rfl, hx, hl, hd, ok, q⟩ := h
    have tl := text_len ok
    refine ⟨_, pss_one (ps_ret (pe_op op_add_str (pe_op op_add_str pe_str (pe_call GT hr (by rfl) gT kT bT .nil pass0 (pa_cons (pe_fld (pv 0) rfl) pa_nil))) pe_str)), ?_⟩
    refine ⟨_, rfl, x, C, dx, fs, _, rfl, hx, RC.c, RC.n, hl, a, r, rfl, hd, ok, fun H' s' => ⟨_, _, rfl, rfl, ?_, _, _, rfl, rfl, ?_, q H' s'⟩⟩
    · show 1 + (textR r).length ≤ _
      rw [sizeLine_eq]
      omega
    · rw [strLen_append]
      show 1 + (textR r).length + 1 ≤ _
      rw [sizeLine_eq]
      omega
end
end My
set_option Elab.async false
set_option linter.all false
set_option maxRecDepth 100000
set_option maxHeartbeats 4000000
/-! own classes and their methods as they are called -/
namespace My
open PySem PySem.Spec PyProof.Rows L2 NdefX
/-- an own class as it is called -/
structure HasC (P : Program) (w : World) (K : PySem.W.Frag) (mg : Str → Option Value) (base : Heap) (k : Nat) (x : Str) (ps : List Str) (sp : Sp) (C f : Addr) (fd : FuncData) : Prop where
  m : Mk K C f
  o : FnOk P w K mg base CX0 k f fd ps sp
  g : mg x = some (.ref C)
  b : Binds K fd ps []
/-- a method of an own class -/
structure HasM (P : Program) (w : World) (K : PySem.W.Frag) (mg : Str → Option Value) (base : Heap) (k : Nat) (m : Str) (ps : List Str) (sp : Sp) (C f : Addr) (fd : FuncData) : Prop where
  m : Meth K C m f
  o : FnOk P w K mg base CX0 k f fd ps sp
  b : Binds K fd ps []
/-- a special method of an own class -/
structure HasX (P : Program) (w : World) (K : PySem.W.Frag) (mg : Str → Option Value) (base : Heap) (k : Nat) (m : Str) (ps : List Str) (sp : Sp) (C f : Addr) (fd : FuncData) : Prop where
  s : PySem.W.findIn K (.ref C) m = some (some (.ref f))
  n : PySem.W.isFn K (.ref f) = true
  o : FnOk P w K mg base CX0 k f fd ps sp
  b : Binds K fd ps []
theorem same_made {H H1 : Hp} {x dx : Addr} {o o' : HO} (nx : H x = none) (nd : H dx = none) (s : SameP x (upd (upd H dx o) x o') H1) : Same H H1 :=
  fun b u e => s b u (ne_of_none e nx) ((upd_ne (ne_of_none e nx)).trans ((upd_ne (ne_of_none e nd)).trans e))
theorem lineR_ok {r : List (Str × Int)} (ok : RowOk r) (h0 : r ≠ []) : RowOk (lineR r) := by
  unfold lineR
  split
  · rename_i h1
    obtain ⟨x, rfl⟩ : ∃ x, r = [x] := List.length_eq_one_iff.mp h1
    refine ⟨fun y hy => ?_, fun y hy => ?_, ?_, by show 1 ≤ 30; decide⟩
    · rw [List.mem_singleton.mp hy]
      exact ok.nm x List.mem_cons_self
    · rw [List.mem_singleton.mp hy]
      exact .inl rfl
    · exact List.nodup_cons.mpr ⟨List.not_mem_nil, List.nodup_nil⟩
  · split
    · exact ok
    · exact turn_ok ok
theorem ringR_ok {r : List (Str × Int)} (ok : RowOk r) : RowOk (ringR r) := by
  have u := up_ok ok
  have p : (ringR r).Perm (upR r) := by
    unfold ringR
    refine List.perm_append_comm.trans ?_
    rw [List.take_append_drop]
  exact ⟨fun x hx => u.nm x (p.mem_iff.mp hx), fun x hx => u.dir x (p.mem_iff.mp hx), (p.map _).nodup_iff.mpr u.nd, by rw [p.length_eq]; exact u.few⟩
end My
set_option Elab.async false
set_option linter.all false
set_option maxRecDepth 100000
set_option maxHeartbeats 4000000
/-! value in a list of texts, for a value of any kind -/
namespace PySem.SeqAt
open AutoSeq1 (wpAny_loadPart')
open MeetsSeq
theorem str_eq_declines_dict (b : Str) (u : Tok) (l : Addr) (c : Value) (es : Array DictEntry) (n : Nat) (dd : Option Addr) (sl : Array (Option Value)) :
    Meets (Builtin.«str.__eq__» ⟨[.str b u, .ref l], []⟩) (fun _ R s => s.heap.get? l = some { cls := c, dict := dd, data := .dict es n, slots := sl } ∧ R (.ok (.ret .notImplemented)) s) :=
  .of_wp fun prog w A R s h => by obtain ⟨hp, g, d, tk, os⟩ := s; obtain ⟨hl, h⟩ := h; wp_walk using wpAny_loadPart' hl, wpAny_load hl; exact ⟨_, rfl, h⟩
theorem dict_eq_declines_str (l : Addr) (es : Array DictEntry) (n : Nat) (dd : Option Addr) (sl : Array (Option Value)) (b : Str) (u : Tok) :
    Meets (Builtin.«dict.__eq__» ⟨[.ref l, .str b u], []⟩) (fun _ R s => s.heap.get? l = some { cls := .type "dict", dict := dd, data := .dict es n, slots := sl } ∧ R (.ok (.ret .notImplemented)) s) :=
  .of_wp fun prog w A R s h => by obtain ⟨hp, g, d, tk, os⟩ := s; obtain ⟨hl, h⟩ := h; have f1 := F.sub_str_dict; wp_walk using wpAny_loadPart' hl, wpAny_load hl; exact ⟨_, rfl, h⟩
section
variable {A : Around} {s : Shared}
theorem RcAt.str_dict {l : Addr} {o : Obj} {es : Array DictEntry} {n : Nat} (b : Str) (u : Tok) (ho : s.heap.get? l = some o) (hc : o.cls = .type "dict") (hd : o.data = .dict es n) (hu : A.units < cLine) : RcAt A s (.str b u) (.ref l) false := fun prog w E Q h => by
  obtain ⟨cls, dd, data, sl⟩ := o
  obtain rfl : cls = .type "dict" := hc
  obtain rfl : data = .dict es n := hd
  exact rc_eq_decline_or (k := false) (typeIs_str s b u) ⟨_, ho, rfl⟩ (by decide) F.sub_dict_str F.slot_str_eq F.slot_dict_eq_refl
    (fun _ hq => call_meets F.slot_str_eq (typeIs_str s b u) F.entry_str_eq (F.args_str_eq_2 _ _) (str_eq_declines_dict b u l (.type "dict") es n dd sl) ⟨ho, hq⟩)
    (fun _ hq => call_meets F.slot_dict_eq_refl ⟨_, ho, rfl⟩ F.entry_dict_eq (F.args_dict_eq_2 _ _) (dict_eq_declines_str l es n dd sl b u) ⟨ho, hq⟩)
    (fun _ hq => wpAny_of_eq (rfl : isSame (.str b u) (.ref l) = pure false) hq) (.inr hu) h
theorem EqAt.str_dict {l : Addr} {o : Obj} {es : Array DictEntry} {n : Nat} (b : Str) (u : Tok) (ho : s.heap.get? l = some o) (hc : o.cls = .type "dict") (hd : o.data = .dict es n) (hu : A.units < cLine) : EqAt A s (.str b u) (.ref l) false := fun prog w E Q h => by
  show wpAny _ _ (holding _ _) _ _ _
  refine wpAny_holding (wpAny_ite_split (fun z => absurd (eq_of_beq z) nofun) fun _ => ?_)
  exact wpAny_bind (RcAt.str_dict b u ho hc hd hu prog w E _ (wpAny_truthy_bool h))
end
end PySem.SeqAt
namespace My
open PySem PySem.Spec PyProof.Rows L2
/-- the value is one of the texts -/
def inTx (ns : List Str) : PyData → Bool
  | .str x => decide (x ∈ ns)
  | _ => false
def isTx (z : Str) : PyData → Bool
  | .str x => z == x
  | _ => false
section
variable {X : Cx} {pins : List (Addr × Obj)} {σ : L2.St} {H : Hp} {s : Shared} {p : Addr} {A : Around}
theorem eq_any (I : Inv X pins σ H s) {d : PyData} {v : V} {u : Value} (D : Da X.K p H v d) (r : RelV v u) (z : Str) (t : Tok) (hu : A.units < cLine) : SeqAt.EqAt A s (.str z t) u (isTx z d) := by
  cases D with
  | non =>
    cases r
    exact SeqAt.EqAt.str_none z t
  | bl b =>
    cases r
    exact SeqAt.EqAt.str_bool z t b
  | int i =>
    obtain ⟨k, rfl⟩ := r
    exact SeqAt.EqAt.str_int z t i k
  | str x =>
    obtain ⟨k, rfl⟩ := r
    exact SeqAt.EqAt.str_str z t x k
  | lst hne hs ha =>
    cases r
    obtain ⟨its, rv, il, _⟩ := I.list hs
    exact SeqAt.EqAt.str_list z t il.isList hu
  | tup hs ha =>
    cases r
    obtain ⟨its, rv, ⟨o, ho, hc, n, hd⟩, _⟩ := I.tuple hs
    exact SeqAt.EqAt.str_tuple z t ⟨o, ho, hc, n, hd⟩ hu
  | dct hn ho hv =>
    cases r
    obtain ⟨_, ns, vs, kv, o, ents, ep, h1, h2, h3, _, h5, _⟩ := dk_of I.hok ho
    exact SeqAt.EqAt.str_dict z t h1 h2.1 h3 hu
end
section
variable {X : Cx}
def rInTx (K : PySem.W.Frag) (neg : Bool) : R2 := fun x y H Q => ∃ (p : Addr) (d : PyData) (a : Addr) (ns : List Str), y = .ref a ∧ Da K p H x d ∧ SqL K H a (ns.map V.str) ∧ Q (.bl (if neg then !inTx ns d else inTx ns d)) H
def txOf : Value → Str
  | .str x _ => x
  | _ => Str.empty
theorem tx_items {ns : List Str} {its : List Value} (rv : Vals (ns.map V.str) its) : its.map txOf = ns ∧ ∀ y ∈ its, ∃ t, y = .str (txOf y) t := by
  induction ns generalizing its with
  | nil => cases rv; exact ⟨rfl, fun y hy => absurd hy List.not_mem_nil⟩
  | cons n ns ih =>
    cases rv with
    | cons r1 r2 =>
      obtain ⟨t, rfl⟩ := r1
      obtain ⟨h1, h2⟩ := ih r2
      exact ⟨by rw [List.map_cons, h1]; rfl, fun y hy => (List.mem_cons.mp hy).elim (fun e => ⟨t, by rw [e]; rfl⟩) (h2 y)⟩
theorem any_tx (d : PyData) : ∀ ns : List Str, ns.any (fun z => isTx z d) = inTx ns d
  | [] => by cases d <;> rfl
  | n :: ns => by
    rw [List.any_cons, any_tx d ns]
    cases d with
    | str x =>
      show ((n == x) || decide (x ∈ ns)) = decide (x ∈ n :: ns)
      rw [Bool.eq_iff_iff, Bool.or_eq_true, beq_iff_eq, decide_eq_true_iff, decide_eq_true_iff, List.mem_cons]
      exact or_congr ⟨fun e => e.symm, fun e => e.symm⟩ Iff.rfl
    | _ => rfl
theorem in_tx {pins : List (Addr × Obj)} {σ : L2.St} {H : Hp} {s : Shared} {x : V} {v : Value} {p a : Addr} {d : PyData} {ns : List Str} (hu : X.A.units + 64 < cLine) (I : Inv X pins σ H s) (rx : RelV x v) (D : Da X.K p H x d) (hs : SqL X.K H a (ns.map V.str)) :
    ∃ its : Array Value, s.heap.IsList a its ∧ (∀ y, y ∈ its → SeqAt.EqAt X.A.in1 s y v (isTx (txOf y) d)) ∧ its.any (fun y => isTx (txOf y) d) = inTx ns d := by
  obtain ⟨its, rv, il, _⟩ := I.list hs
  obtain ⟨h1, h2⟩ := tx_items rv
  refine ⟨its.toArray, il.isList, fun y hy => ?_, ?_⟩
  · obtain ⟨t, e⟩ := h2 y (by simpa using hy)
    have q := eq_any (A := X.A.in1) I D rx (txOf y) t (by show X.A.units + 1 < cLine; omega)
    rw [← e] at q
    exact q
  · rw [← any_tx, ← h1, List.any_map]
    simp
    rfl
theorem op_inTx (hu : X.A.units + 64 < cLine) : OpR X (compareOp .In) (rInTx X.K false) := by
  intro pins s σ H x y v u Q I rx ry ⟨p, d, a, ns, ey, D, hs, k⟩
  subst ey
  cases ry
  obtain ⟨its, il, he, ha⟩ := in_tx hu I rx D hs
  refine SeqAt.in_listAt (fun y => isTx (txOf y) d) il he ⟨.bl _, H, I, rfl, ?_⟩
  rw [ha]
  exact k
theorem op_notInTx (hu : X.A.units + 64 < cLine) : OpR X (compareOp .NotIn) (rInTx X.K true) := by
  intro pins s σ H x y v u Q I rx ry ⟨p, d, a, ns, ey, D, hs, k⟩
  subst ey
  cases ry
  obtain ⟨its, il, he, ha⟩ := in_tx hu I rx D hs
  refine SeqAt.notIn_listAt (fun y => isTx (txOf y) d) il he ⟨.bl _, H, I, rfl, ?_⟩
  rw [ha]
  exact k
end
end My
set_option Elab.async false
set_option linter.all false
set_option maxRecDepth 100000
set_option maxHeartbeats 4000000
/-! value in o, o of an own class with __contains__ -/
namespace My
open PySem PySem.Spec PyProof.Rows L2
section
variable {prog : Program} {w : World} {A : Around} {E : Value → Shared → Prop} {s : Shared} {K : PySem.W.Frag} {x C f : Addr} {ox : Obj} {od : Option Obj}
theorem contains_own {y : Value} {Q : Bool → Shared → Prop} (X : K.In s.heap) (I : PySem.W.InstAt s.heap x ox C od) (hs : PySem.W.findIn K (.ref C) "__contains__" = some (some (.ref f))) (hf : PySem.W.isFn K (.ref f) = true)
    (h : wpAny (model prog w) A (call (.ref f) [.ref x, y]) (fun r s' => ∃ b, r = .bool b ∧ Q b s') E s) : wpAny (model prog w) A (contains (.ref x) y) Q E s := by
  have sp : PySem.W.Looks (model prog w) s.heap (specialOf (.ref x) "__contains__") (some (.ref f)) := I.type.andThen (PySem.W.looks_findIn X hs)
  unfold contains
  refine wpAny_holding ?_
  show wpAny _ A (specialOf (.ref x) "__contains__" >>= _) Q E s
  refine wpAny_bind (sp.here ?_)
  rw [if_neg (by simp)]
  show wpAny _ A (callSpecialUnlessNone? (.ref x) "__contains__" [y] _ >>= _) Q E s
  unfold callSpecialUnlessNone?
  refine wpAny_bind (wpAny_bind (sp.here ?_))
  refine wpAny_holding (wpAny_bind ((PySem.W.bind_fn X _ (beq_iff_eq.mp hf)).here ?_))
  show wpAny _ A (if ((Value.ref f) == Value.none) = true then _ else _) _ E s
  rw [if_neg (by simp)]
  refine wpAny_bind (wpAny_mono h (fun r s' z => ?_) fun _ _ z => z)
  obtain ⟨b, rfl, q⟩ := z
  exact wpAny_pure (wpAny_truthy_bool q)
end
section
variable {X : Cx} {k : Nat} {C f : Addr} {fd : FuncData} {ps : List Str} {sp : Sp}
/-- value in o, o an instance of the class at C -/
def rInOwn (C : Addr) (sp : Sp) (neg : Bool) : R2 := fun x y H Q => ∃ a dx fs, y = .ref a ∧ H a = some (.ins C dx fs) ∧ sp [.ref a, x] H (fun r H' => ∃ b, r = .bl b ∧ Q (.bl (if neg then !b else b)) H') E0
theorem inOwn {pins : List (Addr × Obj)} {σ : L2.St} {H : Hp} {s : Shared} {x : V} {v : Value} {a dx : Addr} {fs : List (Str × V)} {Q : Bool → Hp → Prop} (F : FnOk X.prog X.w X.K X.mg X.base CX0 k f fd ps sp) (hr : Room k X.A) (hb : Binds X.K fd ps [])
    (hs : PySem.W.findIn X.K (.ref C) "__contains__" = some (some (.ref f))) (hf : PySem.W.isFn X.K (.ref f) = true) (I : Inv X pins σ H s) (rx : RelV x v) (ha : H a = some (.ins C dx fs)) (h : sp [.ref a, x] H (fun r H' => ∃ b, r = .bl b ∧ Q b H') E0) :
    wpAny (model X.prog X.w) X.A (contains (.ref a) v) (fun b s' => ∃ H', Inv X pins σ H' s' ∧ Q b H') X.xe s := by
  obtain ⟨mA, ob, _⟩ := ins_get I.hok ha
  obtain ⟨od, J, _⟩ := ob.look
  refine contains_own I.kIn J hs hf (wpAny_mono (wpAny_call (run_fnR (F.raw hb .nil) hr pass0 I (us := [.ref a, v]) (vs := [.ref a, x]) (.cons rfl (.cons rx .nil)) h)) (fun r s' z => ?_) fun _ _ z => z)
  obtain ⟨w, H', I', rw', b, rfl, q⟩ := z
  cases rw'
  exact ⟨b, rfl, H', I', q⟩
theorem op_inOwn (F : FnOk X.prog X.w X.K X.mg X.base CX0 k f fd ps sp) (hr : Room k X.A) (hb : Binds X.K fd ps []) (hs : PySem.W.findIn X.K (.ref C) "__contains__" = some (some (.ref f))) (hf : PySem.W.isFn X.K (.ref f) = true) : OpR X (compareOp .In) (rInOwn C sp false) := by
  intro pins s σ H x y v u Q I rx ry ⟨a, dx, fs, ey, ha, h⟩
  subst ey
  cases ry
  show wpAny _ X.A (do return Value.bool (← contains (.ref a) v)) _ _ s
  refine wpAny_bind (wpAny_mono (inOwn F hr hb hs hf I rx ha (Q := fun b H' => Q (.bl b) H') h) (fun b s' z => ?_) fun _ _ z => z)
  obtain ⟨H', I', q⟩ := z
  exact wpAny_pure ⟨.bl b, H', I', rfl, q⟩
theorem op_notInOwn (F : FnOk X.prog X.w X.K X.mg X.base CX0 k f fd ps sp) (hr : Room k X.A) (hb : Binds X.K fd ps []) (hs : PySem.W.findIn X.K (.ref C) "__contains__" = some (some (.ref f))) (hf : PySem.W.isFn X.K (.ref f) = true) : OpR X (compareOp .NotIn) (rInOwn C sp true) := by
  intro pins s σ H x y v u Q I rx ry ⟨a, dx, fs, ey, ha, h⟩
  subst ey
  cases ry
  show wpAny _ X.A (do return Value.bool (!(← contains (.ref a) v))) _ _ s
  refine wpAny_bind (wpAny_mono (inOwn F hr hb hs hf I rx ha (Q := fun b H' => Q (.bl (!b)) H') h) (fun b s' z => ?_) fun _ _ z => z)
  obtain ⟨H', I', q⟩ := z
  exact wpAny_pure ⟨.bl (!b), H', I', rfl, q⟩
end
end My
set_option Elab.async false
set_option linter.all false
set_option maxRecDepth 100000
set_option maxHeartbeats 4000000
/-! _law_made, value in a train -/
namespace My
open PySem PySem.Spec PyProof.Rows L2 NdefX
section
variable {P : Program} {w : World} {K : PySem.W.Frag} {mg : Str → Option Value} {base : Heap}
def spLMade (K : PySem.W.Frag) (CL CR : Addr) : Sp := fun vs H Q _ => ∃ (a : Addr) (r : List (Str × Int)) (ring : Bool), vs = [.ref a, .bl ring] ∧ Dt K H (.ref a) (rowD r) ∧ RowOk r ∧ r ≠ [] ∧ BareT H a ∧
  ∀ (x dx b : Addr) (fs : List (Str × V)) (H' : Hp), Same H H' → H' x = some (.ins (if ring then CR else CL) dx fs) → fs.lookup kRow = some (V.ref b) → (∀ k, k ≠ kRow → fs.lookup k = none) → Dt K H' (.ref b) (rowD (formR r ring)) → Q (.ref x) H'
theorem ok_lmade {f CL CR g1 g2 : Addr} {fd e1 e2 : FuncData} (F : Fun K "_law_made" "_law_made" sLMade f fd) (ML : HasC P w K mg base 7 "Line" ["self", "row"] (spInit K 2 CL lineR (fun _ _ => True) (fun _ _ => True)) CL g1 e1)
    (MR : HasC P w K mg base 7 "Ring" ["self", "row"] (spInit K 2 CR ringR (fun a H => BareT H a) (fun _ _ => True)) CR g2 e2) : FnOk P w K mg base CX0 9 f fd ["row", "is_ring"] (spLMade K CL CR) := by
  refine F.ok scLMade (fun vs H Q E h => ?_) (fun cdv A outer s H vs Q E hr h => ?_)
  · obtain ⟨a, r, ring, rfl, _⟩ := h
    rfl
  · obtain ⟨a, r, ring, rfl, hd, ok, hne, hb, q⟩ := h
    refine ⟨_, pss_one (ps_ret (pe_ifExp (pt_val (pv 1)) (pe_make MR.m MR.o hr (by rfl) MR.g MR.b .nil pass0 (pa_cons (pv 0) pa_nil)) (pe_make ML.m ML.o hr (by rfl) ML.g ML.b .nil pass0 (pa_cons (pv 0) pa_nil)))), ?_⟩
    refine ⟨_, rfl, ring, rfl, ?_⟩
    cases ring with
    | true =>
      refine iteT ⟨_, rfl, fun x1 dx1 hx1 hdx1 ne1 => ⟨x1, a, dx1, [], r, rfl, upd_same, by decide, dt_keep (same_made hx1 hdx1 (.refl _ _)).keepsT hd, ok, hne, hb.keep (same_made hx1 hdx1 (.refl _ _)), fun b1 fs1 H6 s6 e6 l6 o6 n6 d6 _ => ⟨rfl, ?_⟩⟩⟩
      exact q x1 dx1 b1 fs1 H6 (same_made hx1 hdx1 s6) e6 l6 (fun k hk => (o6 k hk).trans rfl) d6
    | false =>
      refine iteF ⟨_, rfl, fun x1 dx1 hx1 hdx1 ne1 => ⟨x1, a, dx1, [], r, rfl, upd_same, by decide, dt_keep (same_made hx1 hdx1 (.refl _ _)).keepsT hd, ok, hne, trivial, fun b1 fs1 H6 s6 e6 l6 o6 n6 d6 _ => ⟨rfl, ?_⟩⟩⟩
      exact q x1 dx1 b1 fs1 H6 (same_made hx1 hdx1 s6) e6 l6 (fun k hk => (o6 k hk).trans rfl) d6
def spCon (K : PySem.W.Frag) (C : Addr) : Sp := fun vs H Q _ => ∃ (x p : Addr) (v : V) (d : PyData) (b dx : Addr) (fs : List (Str × V)) (r : List (Str × Int)), vs = [.ref x, v] ∧ H x = some (.ins C dx fs) ∧ fs.lookup kRow = some (V.ref b) ∧ Dt K H (.ref b) (rowD r) ∧ r.length ≤ 1000 ∧ Da K p H v d ∧
  ∀ H', Same H H' → Q (.bl (inTx (r.map (·.1)) d)) H'
theorem ok_lncon {f fN C : Addr} {fd dN : FuncData} (F : Fun K "__contains__" "Line.__contains__" sLnCon f fd) (RC : RowCls K C) (GN : Has P w K mg base 1 "names_of" ["row"] (spNames K) fN dN) : FnOk P w K mg base CX0 2 f fd ["self", "name"] (spCon K C) := by
  refine F.ok scLnCon (fun vs H Q E h => ?_) (fun cdv A outer s H vs Q E hr h => ?_)
  · obtain ⟨x, p, v, d, b, dx, fs, r, rfl, _⟩ := h
    rfl
  · obtain ⟨x, p, v, d, b, dx, fs, r, rfl, hx, hl, hd, few, D, q⟩ := h
    have hu : (A.deeper (envOfC "Line.__contains__" (defScope sLnCon) s.heap.objs.size f cdv)).units + 64 < cLine := by
      have := hr.un
      omega
    refine ⟨_, pss_one (ps_ret (pe_cmpR (op_inTx hu) (pv 1) (pe_has GN hr (by rfl) (pa_cons (pe_fld (pv 0) rfl) pa_nil)) (by rfl))), ?_⟩
    exact ⟨_, rfl, _, rfl, x, C, dx, fs, _, rfl, hx, RC.c, RC.n, hl, b, r, rfl, hd, few, fun l H' h0 el s' => ⟨p, d, l, _, rfl, da_keep s'.keepA D, .inl (.inl el), q H' s'⟩⟩
theorem ok_rgcon {f fN C : Addr} {fd dN : FuncData} (F : Fun K "__contains__" "Ring.__contains__" sRgCon f fd) (RC : RowCls K C) (GN : Has P w K mg base 1 "names_of" ["row"] (spNames K) fN dN) : FnOk P w K mg base CX0 2 f fd ["self", "name"] (spCon K C) := by
  refine F.ok scRgCon (fun vs H Q E h => ?_) (fun cdv A outer s H vs Q E hr h => ?_)
  · obtain ⟨x, p, v, d, b, dx, fs, r, rfl, _⟩ := h
    rfl
  · obtain ⟨x, p, v, d, b, dx, fs, r, rfl, hx, hl, hd, few, D, q⟩ := h
    have hu : (A.deeper (envOfC "Ring.__contains__" (defScope sRgCon) s.heap.objs.size f cdv)).units + 64 < cLine := by
      have := hr.un
      omega
    refine ⟨_, pss_one (ps_ret (pe_cmpR (op_inTx hu) (pv 1) (pe_has GN hr (by rfl) (pa_cons (pe_fld (pv 0) rfl) pa_nil)) (by rfl))), ?_⟩
    exact ⟨_, rfl, _, rfl, x, C, dx, fs, _, rfl, hx, RC.c, RC.n, hl, b, r, rfl, hd, few, fun l H' h0 el s' => ⟨p, d, l, _, rfl, da_keep s'.keepA D, .inl (.inl el), q H' s'⟩⟩
end
end My
set_option Elab.async false
set_option linter.all false
set_option maxRecDepth 100000
set_option maxHeartbeats 4000000
/-! _law_text -/
namespace My
open PySem PySem.Spec PyProof.Rows L2
def txtR (r : List (Str × Int)) (ring : Bool) : Str := if ring then ("(" : Str) ++ textR r ++ (")" : Str) else textR r
theorem minus_word {x : Str × Int} (d : x.2 = 1 ∨ x.2 = -1) : Txt.mul "-" (if decide (x.2 = -1) = true then 1 else 0) ++ x.1 = wordR x := by
  rcases d with d | d
  · rw [d, if_neg (by decide)]
    unfold wordR
    rw [if_pos d]
    exact Str.empty_append _
  · rw [d, if_pos (by decide)]
    unfold wordR
    rw [if_neg (by rw [d]; decide)]
    rfl
section
variable {P : Program} {w : World} {K : PySem.W.Frag} {mg : Str → Option Value} {base : Heap}
def spLText (K : PySem.W.Frag) : Sp := fun vs H Q _ => ∃ (a : Addr) (r : List (Str × Int)) (ring : Bool), vs = [.ref a, .bl ring] ∧ Dt K H (.ref a) (rowD r) ∧ RowOk r ∧ ∀ H', Same H H' → Q (.str (txtR r ring)) H'
theorem ok_ltext {f : Addr} {fd : FuncData} (F : Fun K "_law_text" "_law_text" sLText f fd) (B : Glb mg) : FnOk P w K mg base CX0 1 f fd ["row", "is_ring"] (spLText K) := by
  refine F.ok scLText (fun vs H Q E h => ?_) (fun cdv A outer s H vs Q E hr h => ?_)
  · obtain ⟨a, r, ring, rfl, _⟩ := h
    rfl
  · obtain ⟨a, r, ring, rfl, hd, ok, q⟩ := h
    obtain ⟨xs, hs, hl, da⟩ := row_at hd
    have few := ok.few
    refine ⟨_, pss_cons (ps_set (i := 2) scLText.nd rfl (.inl rfl) (pe_join pe_str (pe_lc (own := [("name", 3), ("direction", 4)]) (g := gPair K 3 4) (tt := tYes) rfl scLText.nd (pi_tup (pv 0))
        (blkOk_by (own := [("name", 3), ("direction", 4)]) (N := ["row", "is_ring", "words", "name", "direction"]) (sc := defScope sLText) (by decide +kernel))
        (fun _ _ _ _ _ => pg_tup rfl (pgs_cons (pg_name (i := 3) scLText.nd rfl (Or.inl rfl) (Or.inr rfl)) (pgs_cons (pg_name (i := 4) scLText.nd rfl (Or.inl rfl) (Or.inr rfl)) pgs_nil)))
        (fun _ _ _ _ _ => pts_nil) (fun _ _ _ _ _ => pe_op op_add_str (pe_op op_mulS pe_str (pe_callTy call_int1 (by rfl) B.int (by decide +kernel) (pa_cons (pe_cmpR op_eq (pv 4) (pe_un un_neg pe_int) (nomark _)) pa_nil))) (pv 3)))))
      (pss_one (ps_ret (pe_ifExp (pt_val (pv 1)) (pe_op op_add_str (pe_op op_add_str pe_str (pv 2)) pe_str) (pv 2)))), ?_⟩
    refine ⟨⟨_, rfl⟩, _, rfl, a, rfl, ⟨_, hs⟩, fun Dl hD => ?_⟩
    refine lcP_tup (K := K) (a := a) (xs := xs) (fun i Hn => Hn Dl = some (.lst (((r.map wordR).take i).map V.str)) ∧ Same H Hn) ⟨upd_same, same_new hD⟩ (fun i Hn _ hp => hp.2.keepsT _ _ hs) (fun i v Hn hv hp => ?_) (fun Hn hp => ?_)
    · obtain ⟨b, x, hx, rfl, hb⟩ := dt_items da i v hv
      have hi := (List.getElem?_eq_some_iff.mp hx).1
      refine ⟨b, .str x.1, .int x.2, rfl, hp.2.keepsT _ _ hb, rfl, ?_⟩
      have fin : ∃ acc, Hn Dl = some (.lst acc) ∧ acc.length < sizeLine ∧ (upd Hn Dl (.lst (acc ++ [.str (wordR x)]))) Dl = some (.lst (((r.map wordR).take (i + 1)).map V.str)) ∧ Same H (upd Hn Dl (.lst (acc ++ [.str (wordR x)]))) := by
        refine ⟨_, hp.1, Evl.sz_lt (by rw [List.length_map, List.length_take]; omega), ?_, fun c o z => ?_⟩
        · rw [upd_same, List.take_add_one, List.getElem?_map, hx, List.map_append]
          rfl
        · rw [upd_ne (ne_of_none z hD)]
          exact hp.2 c o z
      have lx := (ok.nm x (List.mem_of_getElem? hx)).2.1
      have ed : decide (V.int x.2 = V.int (-1)) = decide (x.2 = -1) := by
        rw [Bool.eq_iff_iff, decide_eq_true_iff, decide_eq_true_iff]
        exact ⟨fun z => V.int.inj z, fun z => by rw [z]⟩
      refine ⟨_, rfl, 1, rfl, rfl, .inr ⟨_, rfl, ("-" : Str), _, rfl, rfl, (by show 1 ≤ 1000; decide), (by split <;> decide), (by split <;> decide), _, rfl, _, _, rfl, rfl, ?_, ?_⟩⟩
      · have e := minus_word (ok.dir x (List.mem_of_getElem? hx))
        have e2 := congrArg Str.length e
        rw [strLen_append] at e2
        have e3 := word_len (ok.nm x (List.mem_of_getElem? hx))
        rw [ed]
        rw [sizeLine_eq]
        omega
      · rw [ed, minus_word (ok.dir x (List.mem_of_getElem? hx))]
        exact fin
    · refine ⟨" ", Dl, r.map wordR, rfl, rfl, .inl ?_, ?_, ?_⟩
      · have e := hp.1
        rw [hl, ← List.length_map (f := wordR), List.take_length] at e
        exact .inl (.inl e)
      · have := words_len r ok.nm
        rw [List.length_map]
        show _ + r.length * 1 ≤ 16777216
        omega
      · have tl := text_len ok
        refine ⟨_, rfl, ring, rfl, ?_⟩
        have qq := q Hn hp.2
        cases ring with
        | true =>
          refine iteT ⟨_, rfl, _, _, rfl, rfl, ?_, _, _, rfl, rfl, ?_, qq⟩
          · show 1 + (textR r).length ≤ _
            rw [sizeLine_eq]
            omega
          · rw [strLen_append]
            show 1 + (textR r).length + 1 ≤ _
            rw [sizeLine_eq]
            omega
        | false => exact iteF ⟨_, rfl, qq⟩
end
end My
set_option Elab.async false
set_option linter.all false
set_option maxRecDepth 100000
set_option maxHeartbeats 4000000
namespace My
open PySem PySem.Spec PyProof.Rows L2
theorem penL_made (c : Addr) : mergeK [] [(kCells, V.ref c), (kTurn, V.int 0), (kRest, V.int 0)] = penL c 0 0 := by
  unfold mergeK penL
  simp only [List.foldl_cons, List.foldl_nil]
  rw [putK_new (kvs := []) _ rfl, List.nil_append, putK_new _ (show valV [(kCells, V.ref c)] kTurn = none from valV_neg k12), List.singleton_append,
    putK_new _ (show valV [(kCells, V.ref c), (kTurn, V.int 0)] kRest = none from (valV_neg k13).trans (valV_neg k23))]
  rfl
theorem cut_ints (ns : List Int) (lo hi : Option Int) : ∃ ms : List Int, cutV (ns.map V.int) lo hi = ms.map V.int ∧ ms.length ≤ ns.length := by
  refine ⟨(ns.drop (HT.sIx (ns.map V.int).length 0 lo)).take (HT.sIx (ns.map V.int).length (ns.map V.int).length hi - HT.sIx (ns.map V.int).length 0 lo), ?_, ?_⟩
  · unfold cutV
    rw [List.map_take, List.map_drop]
  · rw [List.length_take, List.length_drop]
    omega
section
variable {P : Program} {w : World} {K : PySem.W.Frag} {mg : Str → Option Value} {base : Heap}
/-- a pen over a script -/
def spPen (K : PySem.W.Frag) : Sp := fun vs H Q _ => ∃ (a : Addr) (ns : List Int), vs = [.ref a] ∧ SqL K H a (ns.map V.int) ∧ ns.length ≤ 63 ∧ ∀ (p c : Addr) (H' : Hp), H p = none → Same H H' → PenAt H' p c 0 → Q (.ref p) H'
theorem ok_pen {f : Addr} {fd : FuncData} (F : Fun K "_law_pen" "_law_pen" sPen f fd) (ml : mg "list" = none) : FnOk P w K mg base CX0 1 f fd ["script"] (spPen K) := by
  refine F.ok scPen (fun vs H Q E h => ?_) (fun cdv A outer s H vs Q E hr h => ?_)
  · obtain ⟨a, ns, rfl, _⟩ := h
    rfl
  · obtain ⟨a, ns, rfl, hS, hl, q⟩ := h
    refine ⟨_, pss_one (ps_ret (pe_disp (pps_cons pe_str (pe_callTy call_list_of (by rfl) ml (by decide +kernel) (pa_cons (pe_slice sl_list (pv 0) po_none (po_some pe_int)) pa_nil))
      (pps_cons pe_str pe_int (pps_cons pe_str pe_int pps_nil))) (by rfl) (by rfl) (fun z => by cases z) (by decide))), ?_⟩
    intro p hp
    have sp := same_new (o := HO.dK []) hp
    refine ⟨_, rfl, _, rfl, a, _, rfl, sp.seq hS, fun b hb => ?_⟩
    have sb := same_new (o := HO.lst (cutV (ns.map V.int) none (some 63))) hb
    refine ⟨b, _, rfl, .inl (.inl (.inl upd_same)), fun c hc => ?_⟩
    have sc := same_new (o := HO.lst (cutV (ns.map V.int) none (some 63))) hc
    have p1 : (upd (upd (upd H p (.dK [])) b (.lst (cutV (ns.map V.int) none (some 63)))) c (.lst (cutV (ns.map V.int) none (some 63)))) p = some (.dK []) := sc _ _ (sb _ _ upd_same)
    refine ⟨p1, [(kCells, .ref c), (kTurn, .int 0), (kRest, .int 0)], rfl, ?_⟩
    obtain ⟨ms, em, lm⟩ := cut_ints ns none (some 63)
    have npc : p ≠ c := ne_of_none (sb _ _ upd_same) hc
    refine ⟨by show 3 ≤ 15; decide, q p c _ hp (fun b' o e => ?_) ⟨⟨ms, 0, 0, ?_, ?_, by omega, Int.le_refl 0, Int.le_refl 0⟩⟩⟩
    · rw [upd_ne (ne_of_none e hp)]
      exact sc _ _ (sb _ _ (sp _ _ e))
    · rw [upd_same, penL_made]
    · rw [upd_ne npc.symm, upd_same, em]
end
end My
set_option Elab.async false
set_option linter.all false
set_option maxRecDepth 100000
set_option maxHeartbeats 4000000
/-! _law_row: a tuple that bears no dict -/
namespace My
open PySem PySem.Spec PyProof.Rows L2
section
variable {P : Program} {w : World} {K : PySem.W.Frag} {mg : Str → Option Value} {base : Heap}
/-- the names in order, each in a drawn direction -/
def spRowB (K : PySem.W.Frag) : Sp := fun vs H Q _ => ∃ (p c o : Addr) (n : Nat) (names : List Str), vs = [.ref p, .ref o] ∧ PenAt H p c n ∧ n ≤ 900000000 ∧ SqL K H o (names.map V.str) ∧ names.length ≤ 1000 ∧
  ∀ (a : Addr) (r : List (Str × Int)) (H' : Hp), r.map (·.1) = names → Dirs r → H a = none → Dt K H' (.ref a) (rowD r) → BareT H' a → SameP p H H' → PenAt H' p c (n + names.length) → Q (.ref a) H'
theorem ok_rowB {f fD fP fS : Addr} {fd dD dP dS : FuncData} (F : Fun K "_law_row" "_law_row" sRow f fd) (T : Draws P w K mg base fD fP fS dD dP dS) (mt : mg "tuple" = none) : FnOk P w K mg base CX0 3 f fd ["pen", "wagons"] (spRowB K) := by
  refine F.ok scRow (fun vs H Q E h => ?_) (fun cdv A outer s H vs Q E hr h => ?_)
  · obtain ⟨p, c, o, n, names, rfl, _⟩ := h
    rfl
  · obtain ⟨p, c, o, n, names, rfl, G, hn, hS, hl, q⟩ := h
    refine ⟨_, pss_one (ps_ret (pe_callTy call_tupleF (by rfl) mt (by decide +kernel) (pa_cons (pe_lc (own := [("name", 2)]) (g := gName 2) (tt := tYes) rfl scRow.nd (pi_list (pv 1))
        (blkOk_by (own := [("name", 2)]) (N := ["pen", "wagons", "name"]) (sc := defScope sRow) (by decide +kernel)) (fun _ _ _ _ _ => pg_name (i := 2) scRow.nd rfl (Or.inl rfl)) (fun _ _ _ _ _ => pts_nil)
        (fun _ _ _ _ _ => pe_tup (pa_cons (pv 2) (pa_cons (pe_call T.oP hr (by rfl) T.gP T.kP T.bP .nil pass0 (pa_cons (pv 0) (pa_cons (pe_lst (pa_cons pe_int (pa_cons (pe_un un_neg pe_int) pa_nil))) pa_nil))) pa_nil)))) pa_nil))), ?_⟩
    refine ⟨_, rfl, o, rfl, ⟨_, hS⟩, fun Dl hD => ?_⟩
    refine lcN_list (K := K) (a := o) (xs := names.map V.str) (fun i H' => ∃ (cs : List V) (r : List (Str × Int)), H' Dl = some (.lst cs) ∧ DtAll K H' cs (r.map dwD) ∧ r.map (·.1) = names.take i ∧ Dirs r ∧ SameP p H H' ∧ PenAt H' p c (n + i))
      ⟨[], [], upd_same, .nil, rfl, fun _ z => (nomatch z), SameP.new hD, G.same (same_new hD)⟩ (fun i H2 _ hp => ?_) (fun i x H2 hx hp => ?_) (fun H2 hp => ?_)
    · obtain ⟨_, _, _, _, _, _, s2, _⟩ := hp
      exact s2.sqL G hS
    · obtain ⟨cs, r, eD, da, er, dr, s2, G2⟩ := hp
      refine ⟨rfl, ?_⟩
      rw [List.getElem?_map] at hx
      obtain ⟨nm, hnm, rfl⟩ := Option.map_eq_some_iff.mp hx
      have hi : i < names.length := (List.getElem?_eq_some_iff.mp hnm).1
      have lr : r.length = i := by
        have := congrArg List.length er
        rw [List.length_map, List.length_take] at this
        omega
      refine ⟨_, rfl, _, rfl, _, rfl, by show 2 ≤ sizeLine; decide, fun o1 ho1 => ?_⟩
      have so := same_new (o := HO.lst [.int 1, .int (-1)]) ho1
      refine ⟨p, c, _, .ref o1, [.int 1, .int (-1)], rfl, G2.same so, by omega, .lst (.inl (.inl upd_same)), by decide, by decide, fun j v H4 hv s4 G4 => ?_⟩
      have hdv : ∃ z : Int, v = .int z ∧ (z = 1 ∨ z = -1) := by
        have := List.mem_of_getElem? hv
        simp only [List.mem_cons, List.not_mem_nil, or_false] at this
        rcases this with rfl | rfl
        · exact ⟨1, rfl, .inl rfl⟩
        · exact ⟨-1, rfl, .inr rfl⟩
      obtain ⟨z, rfl, hz⟩ := hdv
      have s24 : SameP p H2 H4 := (SameP.of so).trans s4
      have eD4 := s24.lst G2 eD
      refine ⟨by show 2 ≤ sizeLine; decide, fun t ht => ?_⟩
      have st := same_new (o := HO.tup [.str nm, .int z]) ht
      have eD5 := st _ _ eD4
      have k : KeepsT K H2 (upd (upd H4 t (.tup [.str nm, .int z])) Dl (.lst (cs ++ [.ref t]))) := ((s24.keepsT G2).trans st.keepsT).trans (KeepsT.lst eD5)
      refine ⟨cs, eD5, Evl.sz_lt (by rw [da.length, List.length_map]; omega), cs ++ [.ref t], r ++ [(nm, z)], upd_same, ?_, ?_, ?_, ?_, ?_⟩
      · rw [List.map_append]
        refine (dt_keepAll k da).append (.cons (.tup (KeepsT.lst eD5 _ _ (.inl (.inl upd_same))) (.two (.str _) (.int _))) .nil)
      · rw [List.map_append, er, List.take_add_one, hnm]
        rfl
      · intro y hy
        rcases List.mem_append.mp hy with hy | hy
        · exact dr y hy
        · rw [List.mem_singleton.mp hy]
          exact hz
      · intro b ob nb e
        rw [upd_ne (ne_of_none e hD)]
        exact st _ _ ((s2.trans s24) b ob nb e)
      · exact ((G4.same st).upd (G.apart' hD) (G.apart hD)).mono (by omega)
    · obtain ⟨cs, r, eD, da, er, dr, s2, G2⟩ := hp
      rw [List.length_map] at er G2
      refine ⟨Dl, cs, rfl, .inl (.inl eD), fun a ob ha hob => ?_⟩
      have sa := same_new (o := HO.frz ob (.tup cs)) ha
      exact q a r _ (by rw [er, List.take_length]) dr (s2.free G2 ha) (.tup (.inl (.inr ⟨ob, upd_same⟩)) (dt_keepAll sa.keepsT da)) ⟨ob, cs, upd_same, hob⟩ (s2.trans (.of sa)) (G2.same sa)
end
end My
set_option Elab.async false
set_option linter.all false
set_option maxRecDepth 100000
set_option maxHeartbeats 4000000
namespace My
open PySem PySem.Spec PyProof.Rows L2 NdefX LamX
section
variable {X : Cx}
/-- one promise or the other -/
theorem pe_or2 {e : Expr} {t u : TE} (a : PE X e t) (b : PE X e u) : PE X e (fun σ H Q => t σ H Q ∨ u σ H Q) := ⟨fun pins s σ H Q I h => h.elim (a.run pins s σ H Q I) (b.run pins s σ H Q I)⟩
theorem op_or2 {f : Value → Value → Sem Value} {r t : R2} (a : OpR X f r) (b : OpR X f t) : OpR X f (fun x y H Q => r x y H Q ∨ t x y H Q) := fun pins s σ H x y v u Q I rx ry h => h.elim (a pins s σ H x y v u Q I rx ry) (b pins s σ H x y v u Q I rx ry)
end
theorem tabs_none {q : Str} {P : Addr} {H : Hp} (h : H P = some (.tbl #[])) : Tabs [(P, q)] H := fun p hp => by
  rw [List.mem_singleton.mp hp]
  exact ⟨#[], h, by trivial, fun pos cv z => by cases z⟩
/-- where the tables stand nothing else is written -/
theorem tabs_at {T : List (Addr × Str)} {H H' : Hp} {p : Addr} (h : Tabs T H) (s : ∀ b o, b ≠ p → H b = some o → H' b = some o) (np : ∀ ps, H p ≠ some (.tbl ps)) (nc : ∀ g, H p ≠ some (.ext g)) : Tabs T H' := fun t ht => by
  obtain ⟨ps, h1, h2, h3⟩ := h t ht
  refine ⟨ps, s _ _ (fun z => np ps (z ▸ h1)) h1, h2, fun pos cv hc => ?_⟩
  obtain ⟨c, e1, e2⟩ := h3 pos cv hc
  exact ⟨c, e1, s _ _ (fun z => nc _ (z ▸ e2)) e2⟩
theorem tabs_pen {T : List (Addr × Str)} {H H' : Hp} {p c : Addr} {n : Nat} (h : Tabs T H) (G : PenAt H p c n) (s : SameP p H H') : Tabs T H' := by
  obtain ⟨ns, t, r, e, _⟩ := G.ex
  exact tabs_at h s (fun ps z => by rw [e] at z; cases z) (fun g z => by rw [e] at z; cases z)
theorem tabs_lst {T : List (Addr × Str)} {H : Hp} {p : Addr} {xs : List V} {o : HO} (h : Tabs T H) (e : H p = some (.lst xs)) : Tabs T (upd H p o) :=
  tabs_at h (fun b o ne z => by rw [upd_ne ne]; exact z) (fun ps z => by rw [e] at z; cases z) (fun g z => by rw [e] at z; cases z)
theorem PenAt.ext {H H' : Hp} {p c : Addr} {n : Nat} (G : PenAt H p c n) (s : ExtN H H') : PenAt H' p c n := by
  obtain ⟨ns, t, r, e1, e2, r3⟩ := G.ex
  exact ⟨ns, t, r, s _ _ e1 (fun ps z => by cases z), s _ _ e2 (fun ps z => by cases z), r3⟩
theorem ExtN.bareT {H H' : Hp} {a : Addr} (s : ExtN H H') (h : BareT H a) : BareT H' a := by
  obtain ⟨ob, xs, e, d⟩ := h
  exact ⟨ob, xs, s _ _ e (fun ps z => by cases z), d⟩
/-- a train that was made -/
structure Trn (K : PySem.W.Frag) (CL CR : Addr) (H : Hp) (x : Addr) (r : List (Str × Int)) (ring : Bool) : Prop where
  ex : ∃ (dx b : Addr) (fs : List (Str × V)), H x = some (.ins (if ring then CR else CL) dx fs) ∧ fs.lookup kRow = some (V.ref b) ∧ (∀ k, k ≠ kRow → fs.lookup k = none) ∧ Dt K H (.ref b) (rowD (formR r ring))
theorem Trn.ext {K : PySem.W.Frag} {CL CR : Addr} {H H' : Hp} {x : Addr} {r : List (Str × Int)} {ring : Bool} (h : Trn K CL CR H x r ring) (s : ExtN H H') : Trn K CL CR H' x r ring := by
  obtain ⟨dx, b, fs, e, l, o, d⟩ := h.ex
  exact ⟨dx, b, fs, s _ _ e (fun ps z => by cases z), l, o, dt_keep (ExtN.keepsT s) d⟩
theorem form_ok {r : List (Str × Int)} (ok : RowOk r) (h0 : r ≠ []) (ring : Bool) : RowOk (formR r ring) := by
  cases ring
  · exact lineR_ok ok h0
  · exact ringR_ok ok
/-- what its text answers -/
theorem text_ans {K : PySem.W.Frag} {CL CR : Addr} {σ : L2.St} {i : Nat} {H : Hp} {x : Addr} {r : List (Str × Int)} {ring : Bool} {Q : VK} (hi : σ[i]? = some (some (.ref x))) (h : Trn K CL CR H x r ring) (ok : RowOk r) (h0 : r ≠ []) (q : ∀ H', Same H H' → Q (.str (txtR (formR r ring) ring)) H') :
    (fun σ H Q => tMeth CL "text" (spTxtM K CL id) [] E0 (tVar i) tNil σ H Q ∨ tMeth CR "text" (spTxtM K CR fun t => ("(" : Str) ++ t ++ (")" : Str)) [] E0 (tVar i) tNil σ H Q) σ H Q := by
  obtain ⟨dx, b, fs, e, l, o, d⟩ := h.ex
  have fo := form_ok ok h0 ring
  have nt : fs.lookup ("text" : Str) = none := o _ (by decide)
  cases ring with
  | false => exact .inl ⟨_, hi, x, dx, fs, rfl, e, nt, x, b, dx, fs, formR r false, rfl, e, l, d, fo, q⟩
  | true => exact .inr ⟨_, hi, x, dx, fs, rfl, e, nt, x, b, dx, fs, formR r true, rfl, e, l, d, fo, q⟩
/-- value in it -/
theorem con_ans {K : PySem.W.Frag} {CL CR p : Addr} {H : Hp} {x : Addr} {r : List (Str × Int)} {ring : Bool} {neg : Bool} {v : V} {d : PyData} {Q : VK} (h : Trn K CL CR H x r ring) (ok : RowOk r) (h0 : r ≠ []) (D : Da K p H v d)
    (q : ∀ H', Same H H' → Q (.bl (if neg then !inTx ((formR r ring).map (·.1)) d else inTx ((formR r ring).map (·.1)) d)) H') : rInOwn CL (spCon K CL) neg v (.ref x) H Q ∨ rInOwn CR (spCon K CR) neg v (.ref x) H Q := by
  obtain ⟨dx, b, fs, e, l, o, dd⟩ := h.ex
  have fo := form_ok ok h0 ring
  have few : (formR r ring).length ≤ 1000 := Nat.le_trans fo.few (by decide)
  cases ring with
  | false => exact .inl ⟨x, dx, fs, rfl, e, x, p, v, d, b, dx, fs, formR r false, rfl, e, l, dd, few, D, fun H' s' => ⟨_, rfl, q H' s'⟩⟩
  | true => exact .inr ⟨x, dx, fs, rfl, e, x, p, v, d, b, dx, fs, formR r true, rfl, e, l, dd, few, D, fun H' s' => ⟨_, rfl, q H' s'⟩⟩
theorem mem_form {r : List (Str × Int)} (ok : RowOk r) (h0 : r ≠ []) (ring : Bool) (z : Str) : z ∈ (formR r ring).map (·.1) ↔ z ∈ r.map (·.1) := by
  have tn : (turnR r).map (·.1) = (r.map (·.1)).reverse := by
    unfold turnR
    rw [List.map_map, ← List.map_reverse]
    rfl
  have mt : z ∈ (turnR r).map (·.1) ↔ z ∈ r.map (·.1) := by rw [tn, List.mem_reverse]
  cases ring with
  | true =>
    show z ∈ (ringR r).map (·.1) ↔ _
    have p : (ringR r).Perm (upR r) := by
      unfold ringR
      refine List.perm_append_comm.trans ?_
      rw [List.take_append_drop]
    rw [(p.map _).mem_iff]
    unfold upR
    split
    · exact Iff.rfl
    · exact mt
  | false =>
    show z ∈ (lineR r).map (·.1) ↔ _
    unfold lineR
    split
    · rename_i h1
      obtain ⟨x, rfl⟩ : ∃ x, r = [x] := List.length_eq_one_iff.mp h1
      exact Iff.rfl
    · split
      · exact Iff.rfl
      · exact mt
/-- what is known of the names after the change of the second one -/
structure Wags (xs : List Str) (w0 : Str) : Prop where
  nm : Names xs
  at0 : xs[0]? = some w0
  two : 2 ≤ xs.length
  few : xs.length ≤ 12
  le : ∀ x ∈ xs, x.length ≤ w0.length + 1
theorem name_a {z : Str} (h : NameOk z) (h8 : z.length < 8) : NameOk (z ++ ("a" : Str)) := by
  refine ⟨by rw [strLen_append]; show 1 ≤ z.length + 1; omega, by rw [strLen_append]; show z.length + 1 ≤ 8; omega, fun c hc => ?_⟩
  rw [Str.cps_append, Array.toList_append] at hc
  rcases List.mem_append.mp hc with hc | hc
  · exact h.2.2 c hc
  · rw [show ("a" : Str).cps.toList = [97] by decide +kernel] at hc
    rw [List.mem_singleton.mp hc]
    omega
theorem wags_set {w0 w1 : Str} {t : List Str} (h : Names (w0 :: w1 :: t)) (few : (w0 :: w1 :: t).length ≤ 12) (al : ∀ x ∈ w0 :: w1 :: t, ∀ y ∈ w0 :: w1 :: t, x.length = y.length) (h8 : w0.length < 8) : Wags (w0 :: (w0 ++ ("a" : Str)) :: t) w0 := by
  have la : (w0 ++ ("a" : Str)).length = w0.length + 1 := by rw [strLen_append]; rfl
  have nd := h.nd
  rw [List.nodup_cons, List.nodup_cons] at nd
  have lt : ∀ x ∈ t, x.length = w0.length := fun x hx => al x (List.mem_cons_of_mem _ (List.mem_cons_of_mem _ hx)) w0 List.mem_cons_self
  refine ⟨⟨fun x hx => ?_, ?_⟩, rfl, by show 2 ≤ t.length + 1 + 1; omega, few, fun x hx => ?_⟩
  · rcases List.mem_cons.mp hx with rfl | hx
    · exact h.ok _ List.mem_cons_self
    · rcases List.mem_cons.mp hx with rfl | hx
      · exact name_a (h.ok _ List.mem_cons_self) h8
      · exact h.ok _ (List.mem_cons_of_mem _ (List.mem_cons_of_mem _ hx))
  · rw [List.nodup_cons, List.nodup_cons]
    refine ⟨fun z => ?_, fun z => ?_, nd.2.2⟩
    · rcases List.mem_cons.mp z with z | z
      · have := congrArg Str.length z
        omega
      · exact nd.1 (List.mem_cons_of_mem _ z)
    · have := lt _ z
      omega
  · rcases List.mem_cons.mp hx with rfl | hx
    · omega
    · rcases List.mem_cons.mp hx with rfl | hx
      · omega
      · have := lt x hx
        omega
theorem row_of {names : List Str} {r : List (Str × Int)} (nm : Names names) (few : names.length ≤ 12) (er : r.map (·.1) = names) (dr : Dirs r) (h0 : names ≠ []) : RowOk r ∧ r ≠ [] := by
  have le : r.length = names.length := by rw [← er, List.length_map]
  exact ⟨⟨fun x hx => nm.ok _ (er ▸ List.mem_map_of_mem hx), dr, by rw [er]; exact nm.nd, by omega⟩, fun z => h0 (by rw [← er, z]; rfl)⟩
theorem Names.sub {xs ys : List Str} (h : Names xs) (p : ys.Sublist xs) : Names ys := ⟨fun x hx => h.ok x (p.subset hx), h.nd.sublist p⟩
theorem BareT.penP {H H' : Hp} {p c a : Addr} {n : Nat} (h : BareT H a) (G : PenAt H p c n) (s : SameP p H H') : BareT H' a := by
  obtain ⟨ob, xs, e, d⟩ := h
  obtain ⟨ns, t, r, e1, _⟩ := G.ex
  exact ⟨ob, xs, s _ _ (fun z => by rw [z, e1] at e; cases e) e, d⟩
/-- a value that is none of these texts -/
def NotIn (K : PySem.W.Frag) (p : Addr) (ns : List Str) (H : Hp) (v : V) : Prop := ∃ d, Da K p H v d ∧ inTx ns d = false
theorem NotIn.same {K : PySem.W.Frag} {p : Addr} {ns : List Str} {H H' : Hp} {v : V} (h : NotIn K p ns H v) (s : Same H H') : NotIn K p ns H' v := by
  obtain ⟨d, D, e⟩ := h
  exact ⟨d, da_keep s.keepA D, e⟩
theorem NotIn.str {K : PySem.W.Frag} {p : Addr} {ns : List Str} {H : Hp} {x : Str} (h : x ∉ ns) : NotIn K p ns H (.str x) := ⟨.str x, .str x, decide_eq_false h⟩
theorem not_name {x : Str} {c : Nat} (h : c ∈ x.cps.toList) (hc : c < 97) : ¬ NameOk x := fun z => by
  have := (z.2.2 c h).1
  omega
theorem in_left {x y : Str} {c : Nat} (h : c ∈ x.cps.toList) : c ∈ (x ++ y).cps.toList := by
  rw [Str.cps_append, Array.toList_append]
  exact List.mem_append_left _ h
theorem in_right {x y : Str} {c : Nat} (h : c ∈ y.cps.toList) : c ∈ (x ++ y).cps.toList := by
  rw [Str.cps_append, Array.toList_append]
  exact List.mem_append_right _ h
theorem txt_len {r : List (Str × Int)} (h : RowOk r) (ring : Bool) : (txtR r ring).length ≤ 400 := by
  have := text_len h
  unfold txtR
  split
  · rw [strLen_append, strLen_append]
    show 1 + _ + 1 ≤ 400
    omega
  · omega
section
variable {P : Program} {w : World} {K : PySem.W.Frag} {mg : Str → Option Value} {base : Heap}
def spLaw (K : PySem.W.Frag) (T : List (Addr × Str)) : Sp := fun vs H Q _ => ∃ (a : Addr) (ns : List Int), vs = [.ref a] ∧ SqL K H a (ns.map V.int) ∧ ns.length ≤ 63 ∧ Tabs T H ∧ ∀ H', Q (.bl true) H'
theorem ok_law {T : List (Addr × Str)} {f fD fP fS f1 f2 f3 f4 f5 f6 CL CR m1 m2 v1 v2 : Addr} {fd dD dP dS d1 d2 d3 d4 d5 d6 n1 n2 w1 w2 : FuncData} (F : Fun K "law" "law" sLaw f fd) (B : Glb mg) (D : Draws P w K mg base fD fP fS dD dP dS)
    (CN : Has P w K mg base 1 "_law_pen" ["script"] (spPen K) f1 d1) (CW : Has P w K mg base 3 "_law_wagons" ["pen", "many"] (spWagL K) f2 d2) (CRw : Has P w K mg base 3 "_law_row" ["pen", "wagons"] (spRowB K) f3 d3)
    (CF : Has P w K mg base 2 "_law_form" ["row", "is_ring"] (spLForm K T) f4 d4) (CX : Has P w K mg base 1 "_law_text" ["row", "is_ring"] (spLText K) f5 d5) (CM : Has P w K mg base 9 "_law_made" ["row", "is_ring"] (spLMade K CL CR) f6 d6)
    (RL : RowCls K CL) (RR : RowCls K CR) (TL : HasM P w K mg base 2 "text" ["self"] (spTxtM K CL id) CL m1 n1) (TR : HasM P w K mg base 2 "text" ["self"] (spTxtM K CR fun t => ("(" : Str) ++ t ++ (")" : Str)) CR m2 n2)
    (VL : HasX P w K mg base 2 "__contains__" ["self", "name"] (spCon K CL) CL v1 w1) (VR : HasX P w K mg base 2 "__contains__" ["self", "name"] (spCon K CR) CR v2 w2) : FnOk P w K mg base CX0 10 f fd ["script"] (spLaw K T) := by
  refine F.ok scLaw (fun vs H Q E h => ?_) (fun cdv A outer s H vs Q E hr h => ?_)
  · obtain ⟨a, ns, rfl, _⟩ := h
    rfl
  · obtain ⟨a, ns, rfl, hS, hl, hT, q⟩ := h
    have hr1 := hr.mono (show 1 ≤ 9 by decide)
    have hr2 := hr.mono (show 2 ≤ 9 by decide)
    have hr3 := hr.mono (show 3 ≤ 9 by decide)
    have hu : (A.deeper (envOfC "law" (defScope sLaw) s.heap.objs.size f cdv)).units + 64 < cLine := by
      have := hr.un
      omega
    have CD : Has P w K mg base 1 "_law_draw" ["pen", "size"] spDraw fD dD := ⟨D.oD, D.gD, D.kD, D.bD⟩
    have CP : Has P w K mg base 2 "_law_pick" ["pen", "options"] (spPick K) fP dP := ⟨D.oP, D.gP, D.kP, D.bP⟩
    refine ⟨_, pss_cons (ps_set (i := 1) scLaw.nd rfl (.inl rfl) (pe_has CN hr1 (by rfl) (pa_cons (pv 0) pa_nil)))
      (pss_cons (ps_for PassesOwn.never rfl (pi_range1 (by rfl) B.range (pa_cons pe_int pa_nil)) (pg_name (i := 2) scLaw.nd rfl (.inl rfl))
        (pss_cons (ps_set (i := 3) scLaw.nd rfl (.inl rfl) (pe_has CW hr3 (by rfl) (pa_cons (pv 1) (pa_cons (pe_op op_add pe_int (pe_has CD hr1 (by rfl) (pa_cons (pv 1) (pa_cons pe_int pa_nil)))) pa_nil))))
        (Evl.pss_cut (ps_if (PW.pt (pw_and (pt_cmpR op_lt (pe_callB call_len_str (by rfl) B.len PySem.boot_len (pa_cons (pe_ix ix_list (pv 3) pe_int (fun _ _ => rfl)) pa_nil)) pe_int (nomark _))
            (pw_and1 (pt_cmpR op_eq (pe_has CD hr1 (by rfl) (pa_cons (pv 1) (pa_cons pe_int pa_nil))) pe_int (nomark _)))))
          (pss_one (ps_asg (pe_op op_add_str (pe_ix ix_list (pv 3) pe_int (fun _ _ => rfl)) pe_str) (pg_sub (pv 3) pe_int set_list))) pss_nil)
        (pss_cons (ps_set (i := 4) scLaw.nd rfl (.inl rfl) (pe_op op_add pe_int (pe_has CD hr1 (by rfl) (pa_cons (pv 1) (pa_cons (pe_op op_sub (pe_callB call_len_seq (by rfl) B.len PySem.boot_len (pa_cons (pv 3) pa_nil)) pe_int) pa_nil)))))
        (pss_cons (ps_par (i := 5) (j := 6) (by rfl) scLaw.nd rfl rfl (by decide) rfl rfl (pa_cons (pe_has CRw hr3 (by rfl) (pa_cons (pv 1) (pa_cons (pe_slice sl_list (pv 3) po_none (po_some (pv 4))) pa_nil)))
          (pa_cons (pe_has CRw hr3 (by rfl) (pa_cons (pv 1) (pa_cons (pe_has CP hr2 (by rfl) (pa_cons (pv 1) (pa_cons (pe_lst (pa_cons (pe_slice sl_list (pv 3) (po_some (pv 4)) po_none) (pa_cons (pv 3) pa_nil))) pa_nil))) pa_nil))) pa_nil)) (by rfl))
        (pss_cons (ps_par (i := 7) (j := 8) (by rfl) scLaw.nd rfl rfl (by decide) rfl rfl (pa_cons (pe_cmpR op_eq (pe_has CD hr1 (by rfl) (pa_cons (pv 1) (pa_cons pe_int pa_nil))) pe_int (nomark _)) (pa_cons (pe_cmpR op_eq (pe_has CD hr1 (by rfl) (pa_cons (pv 1) (pa_cons pe_int pa_nil))) pe_int (nomark _)) pa_nil)) (by rfl))
        (pss_cons (ps_par (i := 9) (j := 10) (by rfl) scLaw.nd rfl rfl (by decide) rfl rfl (pa_cons (pe_has CM hr (by rfl) (pa_cons (pv 5) (pa_cons (pv 7) pa_nil))) (pa_cons (pe_has CM hr (by rfl) (pa_cons (pv 6) (pa_cons (pv 8) pa_nil))) pa_nil)) (by rfl))
        (pss_cons (ps_if (pt_cmpR op_ne (pe_or2 (pe_meth0 (pv 9) RL.c TL.m TL.o hr2 TL.b .nil pass0) (pe_meth0 (pv 9) RR.c TR.m TR.o hr2 TR.b .nil pass0)) (pe_has CX hr1 (by rfl) (pa_cons (pe_has CF hr2 (by rfl) (pa_cons (pv 5) (pa_cons (pv 7) pa_nil))) (pa_cons (pv 7) pa_nil))) (nomark _)) (pss_one (ps_ret pe_bl)) pss_nil)
        (pss_cons (ps_if (pt_cmpR op_ne (pe_or2 (pe_meth0 (pv 10) RL.c TL.m TL.o hr2 TL.b .nil pass0) (pe_meth0 (pv 10) RR.c TR.m TR.o hr2 TR.b .nil pass0)) (pe_has CX hr1 (by rfl) (pa_cons (pe_has CF hr2 (by rfl) (pa_cons (pv 6) (pa_cons (pv 8) pa_nil))) (pa_cons (pv 8) pa_nil))) (nomark _)) (pss_one (ps_ret pe_bl)) pss_nil)
        (pss_cons (ps_for PassesOwn.never rfl (pi_list (pv 3)) (pg_name (i := 11) scLaw.nd rfl (.inl rfl))
          (pss_one (ps_if (PW.pt (pw_or (pt_cmpR op_ne (pe_cmpR (op_or2 (op_inOwn VL.o hr2 VL.b VL.s VL.n) (op_inOwn VR.o hr2 VR.b VR.s VR.n)) (pv 11) (pv 9) (by rfl)) (pe_cmpR (op_inTx hu) (pv 11) (pe_slice sl_list (pv 3) po_none (po_some (pv 4))) (by rfl)) (nomark _))
            (pw_or1 (pt_cmpR op_ne (pe_cmpR (op_or2 (op_notInOwn VL.o hr2 VL.b VL.s VL.n) (op_notInOwn VR.o hr2 VR.b VR.s VR.n)) (pv 11) (pv 9) (by rfl)) (pe_cmpR (op_notInTx hu) (pv 11) (pe_slice sl_list (pv 3) po_none (po_some (pv 4))) (by rfl)) (nomark _))))) (pss_one (ps_ret pe_bl)) pss_nil)))
        (pss_cons (ps_set (i := 12) scLaw.nd rfl (.inl rfl) (pe_lst (pa_cons pe_str (pa_cons pe_non (pa_cons pe_int (pa_cons pe_bl (pa_cons (pe_lstN pa_nil) (pa_cons (pe_tup pa_nil) (pa_cons pe_dnewK (pa_cons (pe_ix ix_tup (pv 5) pe_int (fun _ _ => rfl)) (pa_cons (pe_tup (pa_cons (pe_ix ix_list (pv 3) pe_int (fun _ _ => rfl)) pa_nil))
          (pa_cons (pe_op op_add_str (pe_ix ix_list (pv 3) pe_int (fun _ _ => rfl)) pe_str) (pa_cons (pe_op op_add_str pe_str (pe_ix ix_list (pv 3) pe_int (fun _ _ => rfl))) pa_nil)))))))))))))
        (pss_one (ps_for PassesOwn.never rfl (pi_list (pe_op op_cat (pv 12) (pe_lst (pa_cons (pe_lstN (pa_cons (pe_ix ix_list (pv 3) pe_int (fun _ _ => rfl)) pa_nil)) (pa_cons (pv 5) (pa_cons (pe_op op_add_str (pe_or2 (pe_meth0 (pv 9) RL.c TL.m TL.o hr2 TL.b .nil pass0) (pe_meth0 (pv 9) RR.c TR.m TR.o hr2 TR.b .nil pass0)) pe_str) pa_nil)))))) (pg_name (i := 13) scLaw.nd rfl (.inl rfl))
          (pss_one (ps_if (pt_cmpR op_isnot_bl (pe_cmpR (op_or2 (op_inOwn VL.o hr2 VL.b VL.s VL.n) (op_inOwn VR.o hr2 VR.b VR.s VR.n)) (pv 13) (pv 9) (by rfl)) pe_bl (nomark _)) (pss_one (ps_ret pe_bl)) pss_nil)))))))))))))))
      (pss_one (ps_ret pe_bl))), ?_⟩
    refine ⟨_, rfl, a, ns, rfl, hS, hl, fun p c H0 hp0 s0 G0 => ?_⟩
    have hT0 := hT.ext s0
    refine ⟨10, rfl, by omega, by omega, ?_⟩
    refine for_range (lo := 0) (n := (10 : Int).toNat) (fun i σ H' => ∃ y2 y3 y4 y5 y6 y7 y8 y9 y10 y11 y12 y13, σ = [some (.ref a), some (.ref p), y2, y3, y4, y5, y6, y7, y8, y9, y10, y11, y12, y13] ∧ PenAt H' p c (300 * i) ∧ Tabs T H') ⟨_, _, _, _, _, _, _, _, _, _, _, _, rfl, G0, hT0⟩ (fun i σ H hi hp => ?_) (fun σ H hp => ?_)
    · obtain ⟨y2, y3, y4, y5, y6, y7, y8, y9, y10, y11, y12, y13, rfl, G, hT⟩ := hp
      have hi10 : i < 10 := by omega
      refine ⟨_, rfl, _, rfl, p, c, _, 11, rfl, G, by omega, by decide, by decide, fun d H1 d0 d1 s1 G1 => ?_⟩
      have hT1 := tabs_pen hT G s1
      obtain ⟨dn, rfl⟩ : ∃ dn : Nat, d = (dn : Int) := ⟨d.toNat, by omega⟩
      refine ⟨_, _, rfl, rfl, p, c, _, 2 + dn, by show [V.ref p, V.int (2 + (dn : Int))] = _; rw [show (2 : Int) + (dn : Int) = ((2 + dn : Nat) : Int) by omega], G1, by omega, by omega, fun l names H2 nm ln hl0 el s2 G2 alike => ?_⟩
      have hT2 := tabs_pen hT1 G1 s2
      have alike := alike (by omega)
      obtain ⟨w0, w1, tl, rfl⟩ : ∃ w0 w1 tl, names = w0 :: w1 :: tl := by
        match names, ln with
        | [], z => rw [List.length_nil] at z; omega
        | [_], z => rw [List.length_singleton] at z; omega
        | x :: y :: t, _ => exact ⟨x, y, t, rfl⟩
      have few12 : (w0 :: w1 :: tl).length ≤ 12 := by omega
      have l8 := (nm.ok w0 List.mem_cons_self).2.1
      have W0 : Wags (w0 :: w1 :: tl) w0 := ⟨nm, rfl, by show 2 ≤ tl.length + 1 + 1; omega, few12, fun x hx => by rw [alike x hx w0 List.mem_cons_self]; omega⟩
      refine ⟨fun σ' H' => ∃ names, σ' = [some (.ref a), some (.ref p), some (.int (0 + (i : Int))), some (.ref l), y4, y5, y6, y7, y8, y9, y10, y11, y12, y13] ∧ PenAt H' p c (300 * i + 1 + 61 + 1) ∧ Tabs T H' ∧ H' l = some (.lst (names.map V.str)) ∧ Wags names w0, ?_, ?_⟩
      · refine ⟨_, rfl, l, _, 0, _, rfl, rfl, .inl (.inl el), atI_nat (j := 0) rfl, w0, rfl, by rw [sizeLine_eq]; omega, _, _, rfl, rfl, _, rfl, ?_⟩
        by_cases h8 : w0.length < 8
        · rw [decide_eq_true (by omega)]
          refine iteT ?_
          refine ⟨_, rfl, p, c, _, 2, rfl, G2, by omega, by decide, by decide, fun e H3 e0 e2 s3 G3 => ?_⟩
          have hT3 := tabs_pen hT2 G2 s3
          have el3 := s3.lst G2 el
          refine ⟨rfl, _, rfl, ?_⟩
          by_cases hz : e = 0
          · rw [decide_eq_true (by rw [hz])]
            refine iteT ?_
            refine ⟨_, rfl, l, _, 0, _, rfl, rfl, .inl (.inl el3), atI_nat (j := 0) rfl, _, _, rfl, rfl, by rw [sizeLine_eq]; show w0.length + 1 ≤ _; omega, _, rfl, l, _, 1, 1, rfl, rfl, el3, by simp [ixN]; omega, ?_⟩
            exact ⟨w0 :: (w0 ++ ("a" : Str)) :: tl, rfl, G3.upd (G1.apart' hl0) (G1.apart hl0), tabs_lst hT3 el3, upd_same, wags_set nm few12 alike h8⟩
          · rw [decide_eq_false fun z => hz (V.int.inj z)]
            refine iteF ?_
            exact ⟨_, rfl, G3, hT3, el3, W0⟩
        · rw [decide_eq_false (by omega)]
          refine iteF ?_
          refine iteF ?_
          exact ⟨_, rfl, G2.mono (by omega), hT2, el, W0⟩
      · rintro _ H3 ⟨names, rfl, G3, hT3, el3, W⟩
        have nl2 := W.two
        have nl12 := W.few
        refine ⟨_, rfl, _, rfl, l, _, rfl, .inl (.inl (.inl el3)), _, _, rfl, rfl, p, c, _, _, rfl, G3, by omega, by rw [List.length_map]; omega, by rw [List.length_map]; omega, fun e H4 e0 e1 s4 G4 => ?_⟩
        rw [List.length_map] at e1
        have hT4 := tabs_pen hT3 G3 s4
        have el4 := s4.lst G3 el3
        obtain ⟨en, rfl⟩ : ∃ en : Nat, e = (en : Int) := ⟨e.toNat, by omega⟩
        refine ⟨_, _, rfl, rfl, ?_⟩
        have ek : (1 : Int) + (en : Int) = ((1 + en : Nat) : Int) := by omega
        have ecut : cutV (names.map V.str) none (some ((1 : Int) + (en : Int))) = (names.take (1 + en)).map V.str := by rw [ek, cutV_to, List.map_take]
        have ecut2 : cutV (names.map V.str) (some ((1 : Int) + (en : Int))) none = (names.drop (1 + en)).map V.str := by rw [ek, cutV_from, List.map_drop]
        have kl : 1 + en < names.length := by omega
        -- one_row
        refine ⟨_, rfl, _, rfl, _, rfl, _, rfl, l, _, rfl, .inl (.inl el4), fun sl hsl => ?_⟩
        have ss := same_new (o := HO.lst (cutV (names.map V.str) none (some ((1 : Int) + (en : Int))))) hsl
        have ltk : (names.take (1 + en)).length = 1 + en := by rw [List.length_take]; omega
        refine ⟨p, c, sl, _, names.take (1 + en), rfl, G4.same ss, by omega, .inl (.inl (by rw [ecut]; exact upd_same)), by omega, fun b r H5 er dr hb0 R5 B5 s5 G5 => ?_⟩
        have hT5 := tabs_pen (hT4.ext ss) (G4.same ss) s5
        have el5 := s5.lst (G4.same ss) (ss _ _ el4)
        rw [ltk] at G5
        obtain ⟨ok, hne⟩ := row_of (W.nm.sub (List.take_sublist _ _)) (by omega) er dr (fun z => by rw [z, List.length_nil] at ltk; omega)
        -- other_row
        refine ⟨_, rfl, _, rfl, _, rfl, _, rfl, _, rfl, ?_⟩
        unfold tNoPart
        dsimp only []
        refine ⟨l, _, rfl, .inl (.inl el5), fun sl2 hsl2 => ?_⟩
        have ss2 := same_new (o := HO.lst (cutV (names.map V.str) (some ((1 : Int) + (en : Int))) none)) hsl2
        refine ⟨_, rfl, by show 2 ≤ sizeLine; decide, fun o1 ho1 => ?_⟩
        have so1 := same_new (o := HO.lst [.ref sl2, .ref l]) ho1
        refine ⟨p, c, _, .ref o1, [.ref sl2, .ref l], rfl, (G5.same ss2).same so1, by omega, .lst (.inl (.inl upd_same)), Nat.succ_pos _, by show 2 < 1073741824; decide, fun j v H6 hv s6 G6 => ?_⟩
        have es6 : SameP p H5 H6 := ((SameP.of ss2).trans (SameP.of so1)).trans s6
        have hT6 := tabs_pen hT5 G5 es6
        have el6 := es6.lst G5 el5
        obtain ⟨lo, ns2, rfl, hlo, sub2, ne2⟩ : ∃ lo ns2, v = .ref lo ∧ H6 lo = some (.lst (ns2.map V.str)) ∧ List.Sublist ns2 names ∧ ns2 ≠ [] := by
          match j, hv with
          | 0, hv =>
            cases hv
            exact ⟨sl2, names.drop (1 + en), rfl, s6.lst ((G5.same ss2).same so1) (so1 _ _ (by rw [ecut2]; exact upd_same)), List.drop_sublist _ _, fun z => by
              have := congrArg List.length z
              rw [List.length_drop, List.length_nil] at this
              omega⟩
          | 1, hv =>
            cases hv
            exact ⟨l, names, rfl, el6, List.Sublist.refl _, fun z => by rw [z, List.length_nil] at nl2; omega⟩
        have fw2 : ns2.length ≤ 12 := Nat.le_trans sub2.length_le nl12
        refine ⟨p, c, lo, _, ns2, rfl, G6, by omega, .inl (.inl hlo), by omega, fun b2 r2 H7 er2 dr2 hb20 R7 B7 s7 G7 => ?_⟩
        obtain ⟨ok2, hne2⟩ := row_of (W.nm.sub sub2) fw2 er2 dr2 ne2
        have hT7 := tabs_pen hT6 G6 s7
        have el7 := s7.lst G6 el6
        have G7 : PenAt H7 p c (300 * i + 100) := G7.mono (by omega)
        have k57 : KeepsT K H5 H7 := (es6.trans s7).keepsT G5
        have R5 := dt_keep k57 R5
        have B5 := B5.penP G5 (es6.trans s7)
        refine ⟨_, _, rfl, ?_⟩
        -- one_is, other_is
        refine ⟨_, rfl, p, c, _, 2, rfl, G7, by omega, by decide, by decide, fun q1 H8 a0 a1 s8 G8 => ⟨rfl, ?_⟩⟩
        refine ⟨_, rfl, p, c, _, 2, rfl, G8, by omega, by decide, by decide, fun q2 H9 a2 a3 s9 G9 => ⟨rfl, ?_⟩⟩
        have hT9 := tabs_pen (tabs_pen hT7 G7 s8) G8 s9
        have el9 := s9.lst G8 (s8.lst G7 el7)
        have R9 := dt_keep ((s8.trans s9).keepsT G7) R5
        have B9 := B5.penP G7 (s8.trans s9)
        have Ro9 := dt_keep ((s8.trans s9).keepsT G7) R7
        have Bo9 := B7.penP G7 (s8.trans s9)
        have G9 : PenAt H9 p c (300 * (i + 1)) := G9.mono (by omega)
        generalize decide (V.int q1 = V.int 0) = is1
        generalize decide (V.int q2 = V.int 0) = is2
        refine ⟨_, _, rfl, ?_⟩
        -- one, other
        refine ⟨_, rfl, _, rfl, b, r, is1, rfl, R9, ok, hne, B9, fun x1 dx1 bb1 fs1 H10 s10 e10 l10 o10 d10 => ?_⟩
        have T1 : Trn K CL CR H10 x1 r is1 := ⟨dx1, bb1, fs1, e10, l10, o10, d10⟩
        refine ⟨_, rfl, _, rfl, b2, r2, is2, rfl, dt_keep s10.keepsT Ro9, ok2, hne2, Bo9.keep s10, fun x2 dx2 bb2 fs2 H11 s11 e11 l11 o11 d11 => ?_⟩
        have T2 : Trn K CL CR H11 x2 r2 is2 := ⟨dx2, bb2, fs2, e11, l11, o11, d11⟩
        have T1 := T1.ext (ExtN.same s11)
        have s911 := s10.trans s11
        have hT11 := hT9.ext s911
        have el11 := s911 _ _ el9
        have G11 := G9.same s911
        have R11 := dt_keep s911.keepsT R9
        have Ro11 := dt_keep s911.keepsT Ro9
        refine ⟨_, _, rfl, ?_⟩
        -- the texts
        refine text_ans rfl T1 ok hne fun H12 s12 => ?_
        refine ⟨_, rfl, _, rfl, b, r, is1, rfl, dt_keep s12.keepsT R11, ok, hne, hT11.ext s12, fun bf1 H13 x13 hT13 d13 => ?_⟩
        refine ⟨_, rfl, bf1, _, is1, rfl, d13, form_ok ok hne is1, fun H14 s14 => ⟨rfl, _, rfl, ?_⟩⟩
        have x1114 : ExtN H11 H14 := ((ExtN.same s12).trans x13).trans (ExtN.same s14)
        have hT14 := hT13.ext s14
        rw [decide_eq_true rfl]
        refine iteF ?_
        refine text_ans rfl (T2.ext x1114) ok2 hne2 fun H15 s15 => ?_
        refine ⟨_, rfl, _, rfl, b2, r2, is2, rfl, dt_keep s15.keepsT (dt_keep (ExtN.keepsT x1114) Ro11), ok2, hne2, hT14.ext s15, fun bf2 H16 x16 hT16 d16 => ?_⟩
        refine ⟨_, rfl, bf2, _, is2, rfl, d16, form_ok ok2 hne2 is2, fun H17 s17 => ⟨rfl, _, rfl, ?_⟩⟩
        have x1117 : ExtN H11 H17 := ((x1114.trans (ExtN.same s15)).trans x16).trans (ExtN.same s17)
        have hT17 := hT16.ext s17
        rw [decide_eq_true rfl]
        refine iteF ?_
        have el17 := x1117 _ _ el11 fun ps z => by cases z
        have G17 := G11.ext x1117
        have T17 := T1.ext x1117
        have R17 := dt_keep (ExtN.keepsT x1117) R11
        have inEq : ∀ z : Str, inTx ((formR r is1).map (·.1)) (.str z) = inTx (names.take (1 + en)) (.str z) := fun z => by
          show decide (z ∈ (formR r is1).map (·.1)) = decide (z ∈ names.take (1 + en))
          rw [Bool.eq_iff_iff, decide_eq_true_iff, decide_eq_true_iff, mem_form ok hne is1 z, er]
        refine ⟨_, rfl, l, rfl, ⟨_, .inl (.inl el17)⟩, ?_⟩
        refine for_list (K := K) (a := l) (xs := names.map V.str) (fun k σ H' => ∃ y11 y12 y13, σ = [some (.ref a), some (.ref p), some (.int (0 + (i : Int))), some (.ref l), some (.int ((1 : Int) + (en : Int))), some (.ref b), some (.ref b2), some (.bl is1), some (.bl is2), some (.ref x1), some (.ref x2), y11, y12, y13] ∧ Same H17 H') ⟨_, _, _, rfl, .refl _⟩ (fun k σ Hn _ hp => ?_) (fun k x σ Hn hx hp => ?_) (fun σ Hn hp => ?_)
        · obtain ⟨_, _, _, _, sm⟩ := hp
          exact .inl (.inl (sm _ _ el17))
        · obtain ⟨y11, y12, y13, rfl, sm⟩ := hp
          rw [List.getElem?_map] at hx
          obtain ⟨z, hz, rfl⟩ := Option.map_eq_some_iff.mp hx
          refine ⟨_, rfl, _, rfl, con_ans (p := p) (T17.ext (ExtN.same sm)) ok hne (.str z) fun H18 s18 => ?_⟩
          have sm18 := sm.trans s18
          refine ⟨_, rfl, _, rfl, _, rfl, _, rfl, l, _, rfl, .inl (.inl (sm18 _ _ el17)), fun sl3 hsl3 => ?_⟩
          have ss3 := same_new (o := HO.lst (cutV (names.map V.str) none (some ((1 : Int) + (en : Int))))) hsl3
          refine ⟨p, .str z, sl3, names.take (1 + en), rfl, .str z, .inl (.inl (by rw [ecut]; exact upd_same)), rfl, _, rfl, ?_⟩
          rw [if_neg Bool.false_ne_true, if_neg Bool.false_ne_true, inEq z, decide_eq_true rfl]
          refine iteF ?_
          have sm19 := sm18.trans ss3
          generalize upd H18 sl3 (.lst (cutV (names.map V.str) none (some ((1 : Int) + (en : Int))))) = H19 at sm19
          refine ⟨_, rfl, _, rfl, con_ans (p := p) (T17.ext (ExtN.same sm19)) ok hne (.str z) fun H20 s20 => ?_⟩
          have sm20 := sm19.trans s20
          refine ⟨_, rfl, _, rfl, _, rfl, _, rfl, l, _, rfl, .inl (.inl (sm20 _ _ el17)), fun sl4 hsl4 => ?_⟩
          have ss4 := same_new (o := HO.lst (cutV (names.map V.str) none (some ((1 : Int) + (en : Int))))) hsl4
          refine ⟨p, .str z, sl4, names.take (1 + en), rfl, .str z, .inl (.inl (by rw [ecut]; exact upd_same)), rfl, _, rfl, ?_⟩
          rw [if_pos rfl, if_pos rfl, inEq z, decide_eq_true rfl]
          refine iteF ?_
          exact ⟨_, _, _, rfl, sm20.trans ss4⟩
        · obtain ⟨y11, y12, y13, rfl, sm⟩ := hp
          have NF : ∀ z ∈ (formR r is1).map (·.1), NameOk z ∧ z.length ≤ w0.length + 1 := fun z hz => by
            have h1 := (mem_form ok hne is1 z).mp hz
            rw [er] at h1
            have h2 := List.mem_of_mem_take h1
            exact ⟨W.nm.ok z h2, W.le z h2⟩
          generalize hF : (formR r is1).map (·.1) = F at NF
          have l8' := (W.nm.ok w0 (List.mem_of_getElem? W.at0)).2.1
          have at0 : atI (names.map V.str) 0 = some (.str w0) := atI_nat (j := 0) (by rw [List.getElem?_map, W.at0]; rfl)
          obtain ⟨xsr, hsr, hlr, dar⟩ := row_at R17
          have xr0 : 0 < xsr.length := by
            rw [hlr]
            exact List.length_pos_iff.mpr hne
          obtain ⟨rb, rx, _, erb, hrb⟩ := dt_items dar 0 xsr[0] (List.getElem?_eq_getElem xr0)
          have atr : atI xsr 0 = some (.ref rb) := by
            rw [← erb]
            exact atI_nat (j := 0) (List.getElem?_eq_getElem xr0)
          have sx : sizeLine = 1073741824 ∨ True := .inr trivial
          refine ⟨by show 0 ≤ sizeLine; decide, fun a1 h1 n1 => ?_⟩
          have S1 := sm.trans (same_new (o := HO.lst []) h1)
          have v1 : NotIn K p F (upd Hn a1 (.lst [])) (.ref a1) := ⟨.list [], .lst n1 (.inl (.inl upd_same)) .nil, rfl⟩
          generalize upd Hn a1 (.lst []) = I1 at S1 v1
          refine ⟨by show 0 ≤ sizeLine; decide, fun a2 h2 => ?_⟩
          have t2 := same_new (o := HO.tup []) h2
          have v2 : NotIn K p F (upd I1 a2 (.tup [])) (.ref a2) := ⟨.tuple [], .tup (.inl (.inl upd_same)) .nil, rfl⟩
          generalize upd I1 a2 (.tup []) = I2 at t2 v2
          have S2 := S1.trans t2
          intro a3 h3
          have np3 : a3 ≠ p := ((G17.same S2).apart' h3).symm
          have t3 := same_new (o := HO.dK []) h3
          have v3 : NotIn K p F (upd I2 a3 (.dK [])) (.ref a3) := ⟨.dict [], .dct np3 upd_same .nil, rfl⟩
          generalize upd I2 a3 (.dK []) = I3 at t3 v3
          have S3 := S2.trans t3
          refine ⟨_, rfl, b, xsr, 0, _, rfl, rfl, S3.keepsT _ _ hsr, atr, ?_⟩
          refine ⟨_, rfl, l, _, 0, _, rfl, rfl, .inl (.inl (S3 _ _ el17)), at0, by show 1 ≤ sizeLine; decide, fun a4 h4 => ?_⟩
          have t4 := same_new (o := HO.tup [.str w0]) h4
          have v4 : NotIn K p F (upd I3 a4 (.tup [.str w0])) (.ref a4) := ⟨.tuple [.str w0], .tup (.inl (.inl upd_same)) (.cons (.str _) .nil), rfl⟩
          generalize upd I3 a4 (.tup [.str w0]) = I4 at t4 v4
          have S4 := S3.trans t4
          refine ⟨_, rfl, l, _, 0, _, rfl, rfl, .inl (.inl (S4 _ _ el17)), at0, _, _, rfl, rfl, by rw [sizeLine_eq]; show w0.length + 7 ≤ _; omega, ?_⟩
          refine ⟨_, rfl, l, _, 0, _, rfl, rfl, .inl (.inl (S4 _ _ el17)), at0, _, _, rfl, rfl, by rw [sizeLine_eq]; show 1 + w0.length ≤ _; omega, ?_⟩
          refine ⟨by show 11 ≤ sizeLine; decide, fun lo hlo => ?_⟩
          have A0 : ∀ v ∈ [V.str ("" : Str), .non, .int 0, .bl true, .ref a1, .ref a2, .ref a3, .ref rb, .ref a4, .str (w0 ++ ("zzzzzzz" : Str)), .str (("-" : Str) ++ w0)], NotIn K p F I4 v := by
            intro v hv
            simp only [List.mem_cons, List.not_mem_nil, or_false] at hv
            rcases hv with rfl | rfl | rfl | rfl | rfl | rfl | rfl | rfl | rfl | rfl | rfl
            · exact NotIn.str fun z => by
                have := (NF _ z).1.1
                exact absurd this (by decide)
            · exact ⟨.none, .non, rfl⟩
            · exact ⟨.int 0, .int _, rfl⟩
            · exact ⟨.bool true, .bl _, rfl⟩
            · exact v1.same ((t2.trans t3).trans t4)
            · exact v2.same (t3.trans t4)
            · exact v3.same t4
            · exact ⟨.tuple [.str rx.1, .int rx.2], .tup (S4.keepsT _ _ hrb) (.cons (.str _) (.cons (.int _) .nil)), rfl⟩
            · exact v4
            · exact NotIn.str fun z => by
                have := (NF _ z).2
                rw [strLen_append, show ("zzzzzzz" : Str).length = 7 from rfl] at this
                omega
            · exact NotIn.str fun z => not_name (in_left (show 45 ∈ ("-" : Str).cps.toList by decide +kernel)) (by decide) (NF _ z).1
          generalize hv1 : [V.str ("" : Str), .non, .int 0, .bl true, .ref a1, .ref a2, .ref a3, .ref rb, .ref a4, .str (w0 ++ ("zzzzzzz" : Str)), .str (("-" : Str) ++ w0)] = vs1 at A0
          have lv1 : vs1.length = 11 := by rw [← hv1]; rfl
          have t5 := same_new (o := HO.lst vs1) hlo
          have e5 : (upd I4 lo (.lst vs1)) lo = some (.lst vs1) := upd_same
          have A5 : ∀ v ∈ vs1, NotIn K p F (upd I4 lo (.lst vs1)) v := fun v hv => (A0 v hv).same t5
          generalize upd I4 lo (.lst vs1) = I5 at t5 e5 A5
          have S5 := S4.trans t5
          -- odd + [..]
          refine ⟨_, rfl, _, rfl, l, _, 0, _, rfl, rfl, .inl (.inl (S5 _ _ el17)), at0, by show 1 ≤ sizeLine; decide, fun a6 h6 n6 => ?_⟩
          have t6 := same_new (o := HO.lst [.str w0]) h6
          have v6 : NotIn K p F (upd I5 a6 (.lst [.str w0])) (.ref a6) := ⟨.list [.str w0], .lst n6 (.inl (.inl upd_same)) (.cons (.str _) .nil), rfl⟩
          generalize upd I5 a6 (.lst [.str w0]) = I6 at t6 v6
          have S6 := S5.trans t6
          have fl := txt_len (form_ok ok hne is1) is1
          refine ⟨_, rfl, text_ans rfl (T17.ext (ExtN.same S6)) ok hne fun I7 t7 => ⟨_, _, rfl, rfl, by rw [sizeLine_eq]; show (txtR (formR r is1) is1).length + 1 ≤ _; omega, ?_⟩⟩
          have S7 := S6.trans t7
          refine ⟨by show 3 ≤ sizeLine; decide, fun l2 hl2 => ?_⟩
          have B0 : ∀ v ∈ [V.ref a6, .ref b, .str (txtR (formR r is1) is1 ++ (" " : Str))], NotIn K p F I7 v := by
            intro v hv
            simp only [List.mem_cons, List.not_mem_nil, or_false] at hv
            rcases hv with rfl | rfl | rfl
            · exact v6.same t7
            · exact ⟨rowD r, dt_da (dt_keep S7.keepsT R17), rfl⟩
            · exact NotIn.str fun z => not_name (in_right (show 32 ∈ (" " : Str).cps.toList by decide +kernel)) (by decide) (NF _ z).1
          generalize hv2 : [V.ref a6, .ref b, .str (txtR (formR r is1) is1 ++ (" " : Str))] = vs2 at B0
          have lv2 : vs2.length = 3 := by rw [← hv2]; rfl
          have t8 := same_new (o := HO.lst vs2) hl2
          have e8 : (upd I7 l2 (.lst vs2)) l2 = some (.lst vs2) := upd_same
          generalize upd I7 l2 (.lst vs2) = I8 at t8 e8
          have S58 := (t6.trans t7).trans t8
          refine ⟨lo, l2, vs1, vs2, rfl, rfl, S58 _ _ e5, e8, by rw [lv1, lv2, sizeLine_eq]; omega, fun lc hlc => ?_⟩
          have t9 := same_new (o := HO.lst (vs1 ++ vs2)) hlc
          have e9 : (upd I8 lc (.lst (vs1 ++ vs2))) lc = some (.lst (vs1 ++ vs2)) := upd_same
          have A9 : ∀ v ∈ vs1 ++ vs2, NotIn K p F (upd I8 lc (.lst (vs1 ++ vs2))) v := fun v hv => by
            rcases List.mem_append.mp hv with hv | hv
            · exact (A5 v hv).same (S58.trans t9)
            · exact (B0 v hv).same (t8.trans t9)
          generalize upd I8 lc (.lst (vs1 ++ vs2)) = I9 at t9 e9 A9
          have S9 := (S7.trans t8).trans t9
          refine ⟨lc, rfl, ⟨_, .inl (.inl e9)⟩, ?_⟩
          refine for_list (K := K) (a := lc) (xs := vs1 ++ vs2) (fun k σ H' => ∃ y11 y12 y13, σ = [some (.ref a), some (.ref p), some (.int (0 + (i : Int))), some (.ref l), some (.int ((1 : Int) + (en : Int))), some (.ref b), some (.ref b2), some (.bl is1), some (.bl is2), some (.ref x1), some (.ref x2), y11, y12, y13] ∧ Same I9 H') ⟨_, _, _, rfl, .refl _⟩ (fun k σ Hn _ hp => ?_) (fun k x σ Hn hx hp => ?_) (fun σ Hn hp => ?_)
          · obtain ⟨_, _, _, _, sm⟩ := hp
            exact .inl (.inl (sm _ _ e9))
          · obtain ⟨y11, y12, y13, rfl, sn⟩ := hp
            obtain ⟨dv, Dv, ev⟩ := (A9 x (List.mem_of_getElem? hx)).same sn
            refine ⟨_, rfl, _, rfl, con_ans (p := p) (T17.ext (ExtN.same (S9.trans sn))) ok hne Dv fun H20 s20 => ?_⟩
            rw [hF, ev]
            refine ⟨_, _, rfl, rfl, _, rfl, ?_⟩
            rw [if_neg Bool.false_ne_true, decide_eq_true rfl]
            refine iteF ?_
            exact ⟨_, _, _, rfl, sn.trans s20⟩
          · obtain ⟨y11, y12, y13, rfl, sn⟩ := hp
            exact ⟨_, _, _, _, _, _, _, _, _, _, _, _, rfl, G17.same (S9.trans sn), hT17.ext (S9.trans sn)⟩
    · exact q H
end
end My
set_option Elab.async false
set_option linter.all false
set_option maxRecDepth 100000
set_option maxHeartbeats 4000000
namespace My
open PySem PySem.Spec PyProof.Rows L2 NdefX
/-! ### what the top has written -/
theorem all_mk {l : PySem.W.OpenLaw} {w : World} {K : PySem.W.Frag} {h : Heap} {mg : Str → Option Value} {fa f1 f2 f3 f4 f5 f6 f7 f8 f9 f10 f11 f12 f13 f14 f15 f16 f17 f18 f19 f20 f21 f22 co19 P19 CL fiL coL ccL fmLtext fmL__contains__ CR fiR coR ccR fmRtext fmR__contains__ fiT : Addr} {tfL tfR t1 t2 t3 : Tok} (X : K.In h) (G : h.Ns mainGlobals mg) (hfa : mg "law" = some (.ref fa))
    {od1 an1 od2 an2 od3 an3 od4 an4 od5 an5 od6 an6 od7 an7 od8 an8 od9 an9 od10 an10 od11 an11 od12 an12 od13 an13 od14 an14 od15 an15 od16 an16 od17 an17 od18 an18 od19 an19 xd19 od20 an20 od21 an21 od22 an22 odiL aniL rdL celL odmLtext anmLtext odmL__contains__ anmL__contains__ odiR aniR rdR celR odmRtext anmRtext odmR__contains__ anmR__contains__ odiT aniT : Option Addr} {sl1 sl2 sl3 sl4 sl5 sl6 sl7 sl8 sl9 sl10 sl11 sl12 sl13 sl14 sl15 sl16 sl17 sl18 sl19 xs19 sl20 sl21 sl22 sliL rsL cesL slmLtext slmL__contains__ sliR rsR cesR slmRtext slmR__contains__ sliT : Array (Option Value)} {oc1 kV1 dc1 pm1 cd1 ct1 oc2 kV2 dc2 pm2 cd2 ct2 oc3 kV3 dc3 pm3 cd3 ct3 oc4 kV4 dc4 pm4 cd4 ct4 oc5 kV5 dc5 pm5 cd5 ct5 oc6 kV6 dc6 pm6 cd6 ct6 oc7 kV7 dc7 pm7 cd7 ct7 oc8 kV8 dc8 pm8 cd8 ct8 oc9 kV9 dc9 pm9 cd9 ct9 oc10 kV10 dc10 pm10 cd10 ct10 oc11 kV11 dc11 pm11 cd11 ct11 oc12 kV12 dc12 pm12 cd12 ct12 oc13 kV13 dc13 pm13 cd13 ct13 oc14 kV14 dc14 pm14 cd14 ct14 oc15 kV15 dc15 pm15 cd15 ct15 oc16 kV16 dc16 pm16 cd16 ct16 oc17 kV17 dc17 pm17 cd17 ct17 oc18 kV18 dc18 pm18 cd18 ct18 oc19 kV19 dc19 pm19 ct19 xc19 oc20 kV20 dc20 pm20 cd20 ct20 oc21 kV21 dc21 pm21 cd21 ct21 oc22 kV22 dc22 pm22 cd22 ct22 ociL kViL dciL pmiL ctiL rcL ceL ocmLtext kVmLtext dcmLtext pmmLtext cdmLtext ctmLtext ocmL__contains__ kVmL__contains__ dcmL__contains__ pmmL__contains__ cdmL__contains__ ctmL__contains__ ociR kViR dciR pmiR ctiR rcR ceR ocmRtext kVmRtext dcmRtext pmmRtext cdmRtext ctmRtext ocmR__contains__ kVmR__contains__ dcmR__contains__ pmmR__contains__ cdmR__contains__ ctmR__contains__ ociT kViT dciT pmiT cdiT ctiT : Value} {xv19 rvL rvR : Array Value} {fileL fileR : Str} {kdL kdR : ClassData}
    (a1 : PySem.W.nsIn K mainGlobals "is_integer" = some (some (.ref f1)))
    (l1 : K.lookup f1 = some ⟨oc1, od1, .func (PySem.W.fnOf "is_integer" "is_integer" (defArgs sIsInt) (defBody sIsInt) (defScope sIsInt) .none kV1 dc1 pm1 an1 cd1 ct1), sl1⟩)
    (c1 : PySem.W.codeIn K cd1 "is_integer" = true)
    (k1 : PySem.W.keepIn K (.ref f1) = true)
    (a2 : PySem.W.nsIn K mainGlobals "is_name" = some (some (.ref f2)))
    (l2 : K.lookup f2 = some ⟨oc2, od2, .func (PySem.W.fnOf "is_name" "is_name" (defArgs sIsName) (defBody sIsName) (defScope sIsName) .none kV2 dc2 pm2 an2 cd2 ct2), sl2⟩)
    (c2 : PySem.W.codeIn K cd2 "is_name" = true)
    (k2 : PySem.W.keepIn K (.ref f2) = true)
    (a3 : PySem.W.nsIn K mainGlobals "is_name_with" = some (some (.ref f3)))
    (l3 : K.lookup f3 = some ⟨oc3, od3, .func (PySem.W.fnOf "is_name_with" "is_name_with" (defArgs sIsWith) (defBody sIsWith) (defScope sIsWith) .none kV3 dc3 pm3 an3 cd3 ct3), sl3⟩)
    (c3 : PySem.W.codeIn K cd3 "is_name_with" = true)
    (k3 : PySem.W.keepIn K (.ref f3) = true)
    (a4 : PySem.W.nsIn K mainGlobals "is_directed" = some (some (.ref f4)))
    (l4 : K.lookup f4 = some ⟨oc4, od4, .func (PySem.W.fnOf "is_directed" "is_directed" (defArgs sIsDir) (defBody sIsDir) (defScope sIsDir) .none kV4 dc4 pm4 an4 cd4 ct4), sl4⟩)
    (c4 : PySem.W.codeIn K cd4 "is_directed" = true)
    (k4 : PySem.W.keepIn K (.ref f4) = true)
    (a5 : PySem.W.nsIn K mainGlobals "is_row" = some (some (.ref f5)))
    (l5 : K.lookup f5 = some ⟨oc5, od5, .func (PySem.W.fnOf "is_row" "is_row" (defArgs sIsRow) (defBody sIsRow) (defScope sIsRow) .none kV5 dc5 pm5 an5 cd5 ct5), sl5⟩)
    (c5 : PySem.W.codeIn K cd5 "is_row" = true)
    (k5 : PySem.W.keepIn K (.ref f5) = true)
    (a6 : PySem.W.nsIn K mainGlobals "check_filled_row" = some (some (.ref f6)))
    (l6 : K.lookup f6 = some ⟨oc6, od6, .func (PySem.W.fnOf "check_filled_row" "check_filled_row" (defArgs sChkF) (defBody sChkF) (defScope sChkF) .none kV6 dc6 pm6 an6 cd6 ct6), sl6⟩)
    (c6 : PySem.W.codeIn K cd6 "check_filled_row" = true)
    (k6 : PySem.W.keepIn K (.ref f6) = true)
    (a7 : PySem.W.nsIn K mainGlobals "turned" = some (some (.ref f7)))
    (l7 : K.lookup f7 = some ⟨oc7, od7, .func (PySem.W.fnOf "turned" "turned" (defArgs sTurn) (defBody sTurn) (defScope sTurn) .none kV7 dc7 pm7 an7 cd7 ct7), sl7⟩)
    (c7 : PySem.W.codeIn K cd7 "turned" = true)
    (k7 : PySem.W.keepIn K (.ref f7) = true)
    (a8 : PySem.W.nsIn K mainGlobals "names_of" = some (some (.ref f8)))
    (l8 : K.lookup f8 = some ⟨oc8, od8, .func (PySem.W.fnOf "names_of" "names_of" (defArgs sNames) (defBody sNames) (defScope sNames) .none kV8 dc8 pm8 an8 cd8 ct8), sl8⟩)
    (c8 : PySem.W.codeIn K cd8 "names_of" = true)
    (k8 : PySem.W.keepIn K (.ref f8) = true)
    (a9 : PySem.W.nsIn K mainGlobals "row_text" = some (some (.ref f9)))
    (l9 : K.lookup f9 = some ⟨oc9, od9, .func (PySem.W.fnOf "row_text" "row_text" (defArgs sText) (defBody sText) (defScope sText) .none kV9 dc9 pm9 an9 cd9 ct9), sl9⟩)
    (c9 : PySem.W.codeIn K cd9 "row_text" = true)
    (k9 : PySem.W.keepIn K (.ref f9) = true)
    (a10 : PySem.W.nsIn K mainGlobals "line_form" = some (some (.ref f10)))
    (l10 : K.lookup f10 = some ⟨oc10, od10, .func (PySem.W.fnOf "line_form" "line_form" (defArgs sLineF) (defBody sLineF) (defScope sLineF) .none kV10 dc10 pm10 an10 cd10 ct10), sl10⟩)
    (c10 : PySem.W.codeIn K cd10 "line_form" = true)
    (k10 : PySem.W.keepIn K (.ref f10) = true)
    (a11 : PySem.W.nsIn K mainGlobals "ring_form" = some (some (.ref f11)))
    (l11 : K.lookup f11 = some ⟨oc11, od11, .func (PySem.W.fnOf "ring_form" "ring_form" (defArgs sRingF) (defBody sRingF) (defScope sRingF) .none kV11 dc11 pm11 an11 cd11 ct11), sl11⟩)
    (c11 : PySem.W.codeIn K cd11 "ring_form" = true)
    (k11 : PySem.W.keepIn K (.ref f11) = true)
    (a12 : PySem.W.nsIn K mainGlobals "_law_pen" = some (some (.ref f12)))
    (l12 : K.lookup f12 = some ⟨oc12, od12, .func (PySem.W.fnOf "_law_pen" "_law_pen" (defArgs sPen) (defBody sPen) (defScope sPen) .none kV12 dc12 pm12 an12 cd12 ct12), sl12⟩)
    (c12 : PySem.W.codeIn K cd12 "_law_pen" = true)
    (k12 : PySem.W.keepIn K (.ref f12) = true)
    (a13 : PySem.W.nsIn K mainGlobals "_law_draw" = some (some (.ref f13)))
    (l13 : K.lookup f13 = some ⟨oc13, od13, .func (PySem.W.fnOf "_law_draw" "_law_draw" (defArgs sDraw) (defBody sDraw) (defScope sDraw) .none kV13 dc13 pm13 an13 cd13 ct13), sl13⟩)
    (c13 : PySem.W.codeIn K cd13 "_law_draw" = true)
    (k13 : PySem.W.keepIn K (.ref f13) = true)
    (a14 : PySem.W.nsIn K mainGlobals "_law_pick" = some (some (.ref f14)))
    (l14 : K.lookup f14 = some ⟨oc14, od14, .func (PySem.W.fnOf "_law_pick" "_law_pick" (defArgs sPick) (defBody sPick) (defScope sPick) .none kV14 dc14 pm14 an14 cd14 ct14), sl14⟩)
    (c14 : PySem.W.codeIn K cd14 "_law_pick" = true)
    (k14 : PySem.W.keepIn K (.ref f14) = true)
    (a15 : PySem.W.nsIn K mainGlobals "_law_shuffled" = some (some (.ref f15)))
    (l15 : K.lookup f15 = some ⟨oc15, od15, .func (PySem.W.fnOf "_law_shuffled" "_law_shuffled" (defArgs sShuf) (defBody sShuf) (defScope sShuf) .none kV15 dc15 pm15 an15 cd15 ct15), sl15⟩)
    (c15 : PySem.W.codeIn K cd15 "_law_shuffled" = true)
    (k15 : PySem.W.keepIn K (.ref f15) = true)
    (a16 : PySem.W.nsIn K mainGlobals "_law_wagons" = some (some (.ref f16)))
    (l16 : K.lookup f16 = some ⟨oc16, od16, .func (PySem.W.fnOf "_law_wagons" "_law_wagons" (defArgs sWag) (defBody sWag) (defScope sWag) .none kV16 dc16 pm16 an16 cd16 ct16), sl16⟩)
    (c16 : PySem.W.codeIn K cd16 "_law_wagons" = true)
    (k16 : PySem.W.keepIn K (.ref f16) = true)
    (a17 : PySem.W.nsIn K mainGlobals "_law_row" = some (some (.ref f17)))
    (l17 : K.lookup f17 = some ⟨oc17, od17, .func (PySem.W.fnOf "_law_row" "_law_row" (defArgs sRow) (defBody sRow) (defScope sRow) .none kV17 dc17 pm17 an17 cd17 ct17), sl17⟩)
    (c17 : PySem.W.codeIn K cd17 "_law_row" = true)
    (k17 : PySem.W.keepIn K (.ref f17) = true)
    (a18 : PySem.W.nsIn K mainGlobals "_law_turned" = some (some (.ref f18)))
    (l18 : K.lookup f18 = some ⟨oc18, od18, .func (PySem.W.fnOf "_law_turned" "_law_turned" (defArgs sLTurn) (defBody sLTurn) (defScope sLTurn) .none kV18 dc18 pm18 an18 cd18 ct18), sl18⟩)
    (c18 : PySem.W.codeIn K cd18 "_law_turned" = true)
    (k18 : PySem.W.keepIn K (.ref f18) = true)
    (a19 : PySem.W.nsIn K mainGlobals "_law_form" = some (some (.ref f19)))
    (l19 : K.lookup f19 = some ⟨oc19, od19, .func (PySem.W.fnOf "_law_form" "_law_form" (defArgs sLForm) (defBody sLForm) (defScope sLForm) .none kV19 dc19 pm19 an19 (.ref co19) ct19), sl19⟩)
    (c19 : PySem.W.codeIn K (.ref co19) "_law_form" = true)
    (k19 : PySem.W.keepIn K (.ref f19) = true)
    (x119 : K.lookup co19 = some ⟨xc19, xd19, .fields xv19, xs19⟩)
    (x219 : xv19[11]? = some (.ref P19))
    (x319 : PySem.W.codeHdIn K co19 P19 = true)
    (x419 : K.lookup P19 = none)
    (x519 : h.get? P19 = some (PySem.W.tabObj #[]))
    (a20 : PySem.W.nsIn K mainGlobals "_law_text" = some (some (.ref f20)))
    (l20 : K.lookup f20 = some ⟨oc20, od20, .func (PySem.W.fnOf "_law_text" "_law_text" (defArgs sLText) (defBody sLText) (defScope sLText) .none kV20 dc20 pm20 an20 cd20 ct20), sl20⟩)
    (c20 : PySem.W.codeIn K cd20 "_law_text" = true)
    (k20 : PySem.W.keepIn K (.ref f20) = true)
    (a21 : PySem.W.nsIn K mainGlobals "_law_made" = some (some (.ref f21)))
    (l21 : K.lookup f21 = some ⟨oc21, od21, .func (PySem.W.fnOf "_law_made" "_law_made" (defArgs sLMade) (defBody sLMade) (defScope sLMade) .none kV21 dc21 pm21 an21 cd21 ct21), sl21⟩)
    (c21 : PySem.W.codeIn K cd21 "_law_made" = true)
    (k21 : PySem.W.keepIn K (.ref f21) = true)
    (a22 : PySem.W.nsIn K mainGlobals "law" = some (some (.ref f22)))
    (l22 : K.lookup f22 = some ⟨oc22, od22, .func (PySem.W.fnOf "law" "law" (defArgs sLaw) (defBody sLaw) (defScope sLaw) .none kV22 dc22 pm22 an22 cd22 ct22), sl22⟩)
    (c22 : PySem.W.codeIn K cd22 "law" = true)
    (k22 : PySem.W.keepIn K (.ref f22) = true)
    (caL : PySem.W.nsIn K mainGlobals "Line" = some (some (.ref CL)))
    (pgL : PySem.W.plainGet K CL Str.empty = true)
    (hdL : PySem.W.hasDictIn K CL = true)
    (poL : PySem.W.plainOver K CL = true)
    (saL : PySem.W.findIn K (.ref CL) "__setattr__" = some (some (.builtin "object.__setattr__")))
    (noL0 : PySem.W.findIn K (.ref CL) "_row" = some none)
    (mkL : PySem.W.makesIn K CL = true)
    (inL : PySem.W.findIn K (.ref CL) "__init__" = some (some (.ref fiL)))
    (fnL : PySem.W.isFn K (.ref fiL) = true)
    (kpL : PySem.W.keepIn K (.ref CL) = true)
    (liL : K.lookup fiL = some ⟨ociL, odiL, .func (PySem.W.fnX "__init__" "Line.__init__" (defArgs sLnInit) (defBody sLnInit) (defScope sLnInit) [(("__class__" : Str), ccL)] .none kViL dciL pmiL aniL (.ref coL) ctiL), sliL⟩)
    (ciL : PySem.W.codeIn K (.ref coL) "Line.__init__" = true)
    (r1L : K.lookup coL = some ⟨rcL, rdL, .fields rvL, rsL⟩)
    (r2L : rvL[2]? = some (.str fileL tfL))
    (r3L : ((l.prog.main.file : Str) == fileL) = true)
    (e1L : K.lookup ccL = some ⟨ceL, celL, .cell (some (.ref CL)), cesL⟩)
    (kcL : PySem.W.clsIn K CL = some kdL)
    (mrL : PySem.W.mroIn K CL (.ref CL) = some true)
    (nxL : PySem.W.ks_superIn K CL CL "__init__" = some (some (.ref fiT)))
    (tf_L : PySem.W.fnIn K fiT = true)
    (tyL : PySem.W.typeIn K (.ref fiT) = some (.type "function"))
    (maLtext : PySem.W.findIn K (.ref CL) "text" = some (some (.ref fmLtext)))
    (mfLtext : PySem.W.isFn K (.ref fmLtext) = true)
    (lmLtext : K.lookup fmLtext = some ⟨ocmLtext, odmLtext, .func (PySem.W.fnOf "text" "Line.text" (defArgs sLnText) (defBody sLnText) (defScope sLnText) .none kVmLtext dcmLtext pmmLtext anmLtext cdmLtext ctmLtext), slmLtext⟩)
    (cmLtext : PySem.W.codeIn K cdmLtext "Line.text" = true)
    (kmLtext : PySem.W.keepIn K (.ref fmLtext) = true)
    (maL__contains__ : PySem.W.findIn K (.ref CL) "__contains__" = some (some (.ref fmL__contains__)))
    (mfL__contains__ : PySem.W.isFn K (.ref fmL__contains__) = true)
    (lmL__contains__ : K.lookup fmL__contains__ = some ⟨ocmL__contains__, odmL__contains__, .func (PySem.W.fnOf "__contains__" "Line.__contains__" (defArgs sLnCon) (defBody sLnCon) (defScope sLnCon) .none kVmL__contains__ dcmL__contains__ pmmL__contains__ anmL__contains__ cdmL__contains__ ctmL__contains__), slmL__contains__⟩)
    (cmL__contains__ : PySem.W.codeIn K cdmL__contains__ "Line.__contains__" = true)
    (kmL__contains__ : PySem.W.keepIn K (.ref fmL__contains__) = true)
    (caR : PySem.W.nsIn K mainGlobals "Ring" = some (some (.ref CR)))
    (pgR : PySem.W.plainGet K CR Str.empty = true)
    (hdR : PySem.W.hasDictIn K CR = true)
    (poR : PySem.W.plainOver K CR = true)
    (saR : PySem.W.findIn K (.ref CR) "__setattr__" = some (some (.builtin "object.__setattr__")))
    (noR0 : PySem.W.findIn K (.ref CR) "_row" = some none)
    (mkR : PySem.W.makesIn K CR = true)
    (inR : PySem.W.findIn K (.ref CR) "__init__" = some (some (.ref fiR)))
    (fnR : PySem.W.isFn K (.ref fiR) = true)
    (kpR : PySem.W.keepIn K (.ref CR) = true)
    (liR : K.lookup fiR = some ⟨ociR, odiR, .func (PySem.W.fnX "__init__" "Ring.__init__" (defArgs sRgInit) (defBody sRgInit) (defScope sRgInit) [(("__class__" : Str), ccR)] .none kViR dciR pmiR aniR (.ref coR) ctiR), sliR⟩)
    (ciR : PySem.W.codeIn K (.ref coR) "Ring.__init__" = true)
    (r1R : K.lookup coR = some ⟨rcR, rdR, .fields rvR, rsR⟩)
    (r2R : rvR[2]? = some (.str fileR tfR))
    (r3R : ((l.prog.main.file : Str) == fileR) = true)
    (e1R : K.lookup ccR = some ⟨ceR, celR, .cell (some (.ref CR)), cesR⟩)
    (kcR : PySem.W.clsIn K CR = some kdR)
    (mrR : PySem.W.mroIn K CR (.ref CR) = some true)
    (nxR : PySem.W.ks_superIn K CR CR "__init__" = some (some (.ref fiT)))
    (tf_R : PySem.W.fnIn K fiT = true)
    (tyR : PySem.W.typeIn K (.ref fiT) = some (.type "function"))
    (maRtext : PySem.W.findIn K (.ref CR) "text" = some (some (.ref fmRtext)))
    (mfRtext : PySem.W.isFn K (.ref fmRtext) = true)
    (lmRtext : K.lookup fmRtext = some ⟨ocmRtext, odmRtext, .func (PySem.W.fnOf "text" "Ring.text" (defArgs sRgText) (defBody sRgText) (defScope sRgText) .none kVmRtext dcmRtext pmmRtext anmRtext cdmRtext ctmRtext), slmRtext⟩)
    (cmRtext : PySem.W.codeIn K cdmRtext "Ring.text" = true)
    (kmRtext : PySem.W.keepIn K (.ref fmRtext) = true)
    (maR__contains__ : PySem.W.findIn K (.ref CR) "__contains__" = some (some (.ref fmR__contains__)))
    (mfR__contains__ : PySem.W.isFn K (.ref fmR__contains__) = true)
    (lmR__contains__ : K.lookup fmR__contains__ = some ⟨ocmR__contains__, odmR__contains__, .func (PySem.W.fnOf "__contains__" "Ring.__contains__" (defArgs sRgCon) (defBody sRgCon) (defScope sRgCon) .none kVmR__contains__ dcmR__contains__ pmmR__contains__ anmR__contains__ cdmR__contains__ ctmR__contains__), slmR__contains__⟩)
    (cmR__contains__ : PySem.W.codeIn K cdmR__contains__ "Ring.__contains__" = true)
    (kmR__contains__ : PySem.W.keepIn K (.ref fmR__contains__) = true)
    (liT : K.lookup fiT = some ⟨ociT, odiT, .func (PySem.W.fnOf "__init__" "Train.__init__" (defArgs sTrInit) (defBody sTrInit) (defScope sTrInit) .none kViT dciT pmiT aniT cdiT ctiT), sliT⟩)
    (ciT : PySem.W.codeIn K cdiT "Train.__init__" = true)
    (kiT : PySem.W.keepIn K (.ref fiT) = true)
    (zisinstance : PySem.W.nsIn K mainGlobals "isinstance" = some none)
    (zint : PySem.W.nsIn K mainGlobals "int" = some none)
    (zbool : PySem.W.nsIn K mainGlobals "bool" = some none)
    (zstr : PySem.W.nsIn K mainGlobals "str" = some none)
    (ztuple : PySem.W.nsIn K mainGlobals "tuple" = some none)
    (zlist : PySem.W.nsIn K mainGlobals "list" = some none)
    (zlen : PySem.W.nsIn K mainGlobals "len" = some none)
    (zall : PySem.W.nsIn K mainGlobals "all" = some none)
    (zset : PySem.W.nsIn K mainGlobals "set" = some none)
    (zrange : PySem.W.nsIn K mainGlobals "range" = some none)
    (zabs : PySem.W.nsIn K mainGlobals "abs" = some none)
    (zrepr : PySem.W.nsIn K mainGlobals "repr" = some none)
    (zmin : PySem.W.nsIn K mainGlobals "min" = some none)
    (zsuper : PySem.W.nsIn K mainGlobals "super" = some none)
    (zany : PySem.W.nsIn K cStatics "thirdparty.any" = some none)
    (ztop : (l.prog.main.scope.names.lookup ("super" : Str)).isSome = false)
    (gk0 : PySem.W.nsIn K mainGlobals "NAME_LENGTH" = some (some (.int 8 t1)))
    (gk1 : PySem.W.nsIn K mainGlobals "LETTERS" = some (some (.str "abcdefghijklmnopqrstuvwxyz" t2)))
    (gk2 : PySem.W.nsIn K mainGlobals "MOST_WAGONS" = some (some (.int 30 t3)))
    : LamX.LawAtS l w K CX0 10 63 "script" mg fa h := by
  have e := hfa.symm.trans (PySem.W.mg_of X G a22)
  cases e
  have F1 := fun_mk (st := sIsInt) l1 c1 k1
  have F2 := fun_mk (st := sIsName) l2 c2 k2
  have F3 := fun_mk (st := sIsWith) l3 c3 k3
  have F4 := fun_mk (st := sIsDir) l4 c4 k4
  have F5 := fun_mk (st := sIsRow) l5 c5 k5
  have F6 := fun_mk (st := sChkF) l6 c6 k6
  have F7 := fun_mk (st := sTurn) l7 c7 k7
  have F8 := fun_mk (st := sNames) l8 c8 k8
  have F9 := fun_mk (st := sText) l9 c9 k9
  have F10 := fun_mk (st := sLineF) l10 c10 k10
  have F11 := fun_mk (st := sRingF) l11 c11 k11
  have F12 := fun_mk (st := sPen) l12 c12 k12
  have F13 := fun_mk (st := sDraw) l13 c13 k13
  have F14 := fun_mk (st := sPick) l14 c14 k14
  have F15 := fun_mk (st := sShuf) l15 c15 k15
  have F16 := fun_mk (st := sWag) l16 c16 k16
  have F17 := fun_mk (st := sRow) l17 c17 k17
  have F18 := fun_mk (st := sLTurn) l18 c18 k18
  have F19 : FunC K "_law_form" "_law_form" sLForm f19 _ co19 := ⟨⟨oc19, od19, kV19, dc19, pm19, an19, ct19, sl19, rfl, l19, c19⟩⟩
  have F20 := fun_mk (st := sLText) l20 c20 k20
  have F21 := fun_mk (st := sLMade) l21 c21 k21
  have F22 := fun_mk (st := sLaw) l22 c22 k22
  have b1 := F1.binds (ps := ["value"]) fun _ _ _ _ _ _ us hl => match us, hl with | [_], _ => rfl
  have m1 := PySem.W.mg_of X G a1
  have b2 := F2.binds (ps := ["value"]) fun _ _ _ _ _ _ us hl => match us, hl with | [_], _ => rfl
  have m2 := PySem.W.mg_of X G a2
  have b3 := F3.binds (ps := ["value", "numbers"]) fun _ _ _ _ _ _ us hl => match us, hl with | [_, _], _ => rfl
  have m3 := PySem.W.mg_of X G a3
  have b4 := F4.binds (ps := ["value"]) fun _ _ _ _ _ _ us hl => match us, hl with | [_], _ => rfl
  have m4 := PySem.W.mg_of X G a4
  have b5 := F5.binds (ps := ["value"]) fun _ _ _ _ _ _ us hl => match us, hl with | [_], _ => rfl
  have m5 := PySem.W.mg_of X G a5
  have b6 := F6.binds (ps := ["value"]) fun _ _ _ _ _ _ us hl => match us, hl with | [_], _ => rfl
  have m6 := PySem.W.mg_of X G a6
  have b7 := F7.binds (ps := ["row"]) fun _ _ _ _ _ _ us hl => match us, hl with | [_], _ => rfl
  have m7 := PySem.W.mg_of X G a7
  have b8 := F8.binds (ps := ["row"]) fun _ _ _ _ _ _ us hl => match us, hl with | [_], _ => rfl
  have m8 := PySem.W.mg_of X G a8
  have b9 := F9.binds (ps := ["row"]) fun _ _ _ _ _ _ us hl => match us, hl with | [_], _ => rfl
  have m9 := PySem.W.mg_of X G a9
  have b10 := F10.binds (ps := ["row"]) fun _ _ _ _ _ _ us hl => match us, hl with | [_], _ => rfl
  have m10 := PySem.W.mg_of X G a10
  have b11 := F11.binds (ps := ["row"]) fun _ _ _ _ _ _ us hl => match us, hl with | [_], _ => rfl
  have m11 := PySem.W.mg_of X G a11
  have b12 := F12.binds (ps := ["script"]) fun _ _ _ _ _ _ us hl => match us, hl with | [_], _ => rfl
  have m12 := PySem.W.mg_of X G a12
  have b13 := F13.binds (ps := ["pen", "size"]) fun _ _ _ _ _ _ us hl => match us, hl with | [_, _], _ => rfl
  have m13 := PySem.W.mg_of X G a13
  have b14 := F14.binds (ps := ["pen", "options"]) fun _ _ _ _ _ _ us hl => match us, hl with | [_, _], _ => rfl
  have m14 := PySem.W.mg_of X G a14
  have b15 := F15.binds (ps := ["pen", "some"]) fun _ _ _ _ _ _ us hl => match us, hl with | [_, _], _ => rfl
  have m15 := PySem.W.mg_of X G a15
  have b16 := F16.binds (ps := ["pen", "many"]) fun _ _ _ _ _ _ us hl => match us, hl with | [_, _], _ => rfl
  have m16 := PySem.W.mg_of X G a16
  have b17 := F17.binds (ps := ["pen", "wagons"]) fun _ _ _ _ _ _ us hl => match us, hl with | [_, _], _ => rfl
  have m17 := PySem.W.mg_of X G a17
  have b18 := F18.binds (ps := ["row"]) fun _ _ _ _ _ _ us hl => match us, hl with | [_], _ => rfl
  have m18 := PySem.W.mg_of X G a18
  have b19 : Binds K (PySem.W.fnOf "_law_form" "_law_form" (defArgs sLForm) (defBody sLForm) (defScope sLForm) .none kV19 dc19 pm19 an19 (.ref co19) ct19) ["row", "is_ring"] [] := .all fun us hl => match us, hl with | [_, _], _ => rfl
  have m19 := PySem.W.mg_of X G a19
  have b20 := F20.binds (ps := ["row", "is_ring"]) fun _ _ _ _ _ _ us hl => match us, hl with | [_, _], _ => rfl
  have m20 := PySem.W.mg_of X G a20
  have b21 := F21.binds (ps := ["row", "is_ring"]) fun _ _ _ _ _ _ us hl => match us, hl with | [_, _], _ => rfl
  have m21 := PySem.W.mg_of X G a21
  have FiT := fun_mk (st := sTrInit) liT ciT kiT
  have biT := FiT.binds (ps := ["self", "row"]) fun _ _ _ _ _ _ us hl => match us, hl with | [_, _], _ => rfl
  have mCL := PySem.W.mg_of X G caL
  have FmLtext := fun_mk (st := sLnText) lmLtext cmLtext kmLtext
  have bmLtext := FmLtext.binds (ps := ["self"]) fun _ _ _ _ _ _ us hl => match us, hl with | [_], _ => rfl
  have MmLtext : Meth K CL "text" fmLtext := ⟨maLtext, mfLtext, kmLtext⟩
  have FmL__contains__ := fun_mk (st := sLnCon) lmL__contains__ cmL__contains__ kmL__contains__
  have bmL__contains__ := FmL__contains__.binds (ps := ["self", "name"]) fun _ _ _ _ _ _ us hl => match us, hl with | [_, _], _ => rfl
  have MmL__contains__ : Meth K CL "__contains__" fmL__contains__ := ⟨maL__contains__, mfL__contains__, kmL__contains__⟩
  have TL : SupFn l.prog K mg (nfLn ccL coL) ["self", "row"] fiL CL fiT ccL _ := ⟨⟨ociL, kViL, dciL, pmiL, ctiL, odiL, aniL, sliL, rfl, liL⟩, rfl, ciL, ⟨rcL, rdL, rvL, rsL, fileL, tfL, r1L, r2L, r3L⟩, ⟨_, rfl, rfl⟩, rfl, ⟨ceL, celL, cesL, e1L⟩, ⟨kdL, kcL⟩, mrL, nxL, tf_L, tyL, zany, PySem.W.mg_none_of X G zsuper, ztop⟩
  have biL : Binds K (PySem.W.fnX "__init__" "Line.__init__" (defArgs sLnInit) (defBody sLnInit) (defScope sLnInit) [(("__class__" : Str), ccL)] .none kViL dciL pmiL aniL (.ref coL) ctiL) ["self", "row"] [] := .all fun us hl => match us, hl with | [_, _], _ => rfl
  have MkL : Mk K CL fiL := ⟨mkL, inL, fnL, kpL⟩
  have ClL : Cls K CL := ⟨pgL, hdL, poL, saL⟩
  have mCR := PySem.W.mg_of X G caR
  have FmRtext := fun_mk (st := sRgText) lmRtext cmRtext kmRtext
  have bmRtext := FmRtext.binds (ps := ["self"]) fun _ _ _ _ _ _ us hl => match us, hl with | [_], _ => rfl
  have MmRtext : Meth K CR "text" fmRtext := ⟨maRtext, mfRtext, kmRtext⟩
  have FmR__contains__ := fun_mk (st := sRgCon) lmR__contains__ cmR__contains__ kmR__contains__
  have bmR__contains__ := FmR__contains__.binds (ps := ["self", "name"]) fun _ _ _ _ _ _ us hl => match us, hl with | [_, _], _ => rfl
  have MmR__contains__ : Meth K CR "__contains__" fmR__contains__ := ⟨maR__contains__, mfR__contains__, kmR__contains__⟩
  have TR : SupFn l.prog K mg (nfRg ccR coR) ["self", "row"] fiR CR fiT ccR _ := ⟨⟨ociR, kViR, dciR, pmiR, ctiR, odiR, aniR, sliR, rfl, liR⟩, rfl, ciR, ⟨rcR, rdR, rvR, rsR, fileR, tfR, r1R, r2R, r3R⟩, ⟨_, rfl, rfl⟩, rfl, ⟨ceR, celR, cesR, e1R⟩, ⟨kdR, kcR⟩, mrR, nxR, tf_R, tyR, zany, PySem.W.mg_none_of X G zsuper, ztop⟩
  have biR : Binds K (PySem.W.fnX "__init__" "Ring.__init__" (defArgs sRgInit) (defBody sRgInit) (defScope sRgInit) [(("__class__" : Str), ccR)] .none kViR dciR pmiR aniR (.ref coR) ctiR) ["self", "row"] [] := .all fun us hl => match us, hl with | [_, _], _ => rfl
  have MkR : Mk K CR fiR := ⟨mkR, inR, fnR, kpR⟩
  have ClR : Cls K CR := ⟨pgR, hdR, poR, saR⟩
  have n_isinstance := PySem.W.mg_none_of X G zisinstance
  have n_int := PySem.W.mg_none_of X G zint
  have n_bool := PySem.W.mg_none_of X G zbool
  have n_str := PySem.W.mg_none_of X G zstr
  have n_tuple := PySem.W.mg_none_of X G ztuple
  have n_list := PySem.W.mg_none_of X G zlist
  have n_len := PySem.W.mg_none_of X G zlen
  have n_all := PySem.W.mg_none_of X G zall
  have n_set := PySem.W.mg_none_of X G zset
  have n_range := PySem.W.mg_none_of X G zrange
  have n_abs := PySem.W.mg_none_of X G zabs
  have n_repr := PySem.W.mg_none_of X G zrepr
  have n_min := PySem.W.mg_none_of X G zmin
  have inT : ∀ p : Addr × Addr, p ∈ [(co19, P19)] → p = (co19, P19) := fun p hp => List.mem_singleton.mp hp
  refine ⟨PySem.W.fnOf "law" "law" (defArgs sLaw) (defBody sLaw) (defScope sLaw) .none kV22 dc22 pm22 an22 cd22 ct22, [(co19, P19)], spLaw K [(P19, qLam)], fun p hp => by rw [inT p hp]; exact x519, fun p hp => by rw [inT p hp]; exact x419, fun p hp => by rw [inT p hp]; exact PySem.W.codeHd_of_K X x319, fun s v => .of_eq rfl, fun H a ns hl _ ht hS => ⟨a, ns, rfl, hS, hl, tabs_none (ht _ List.mem_cons_self), fun _ => rfl⟩, fun base _ _ TBs => ?_⟩
  have TB := TBs _ List.mem_cons_self
  have B : Glb mg := ⟨n_isinstance, n_int, n_bool, n_str, n_tuple, n_list, n_len, n_all, n_set, n_range, n_abs, n_repr⟩
  have oInt := ok_isint (P := l.prog) (w := w) (base := base) F1 B
  have oName := ok_isname (P := l.prog) (w := w) (base := base) F2 B (PySem.W.mg_of X G gk0) (PySem.W.mg_of X G gk1)
  have oWith := ok_iswith F3 B oInt m1 k1 b1 oName m2 k2 b2
  have oDir := ok_isdir F4 oWith m3 k3 b3
  have oRow := ok_isrow F5 B (PySem.W.mg_of X G gk2) oDir m4 k4 b4
  have oChk := ok_chkF F6 oRow m5 k5 b5
  have oTurn := ok_turned F7 B oRow m5 k5 b5
  have oNames := ok_names (P := l.prog) (w := w) (mg := mg) (base := base) F8
  have oText := ok_text (P := l.prog) (w := w) (mg := mg) (base := base) F9
  have oLineF := ok_line F10 B oTurn m7 k7 b7
  have oRingF := ok_ring F11 n_min oNames m8 k8 b8 oTurn m7 k7 b7
  have RL : RowCls K CL := ⟨ClL, noL0⟩
  have RR : RowCls K CR := ⟨ClR, noR0⟩
  have oLI := ok_lineInit TL RL (ok_train CL FiT oChk m6 k6 b6 RL) biT oLineF m10 k10 b10
  have oRI := ok_ringInit TR RR (ok_train CR FiT oChk m6 k6 b6 RR) biT oRingF m11 k11 b11
  have oLT := ok_lineText FmLtext RL oText m9 k9 b9
  have oRT := ok_ringText FmRtext RR oText m9 k9 b9
  have oLC := ok_lncon FmL__contains__ RL ⟨oNames, m8, k8, b8⟩
  have oRC := ok_rgcon FmR__contains__ RR ⟨oNames, m8, k8, b8⟩
  have oPen := ok_pen (P := l.prog) (w := w) (base := base) F12 B.list
  have oDraw := ok_draw (P := l.prog) (w := w) (base := base) (k := 0) F13 B.len B.abs
  have oPick := ok_pick F14 B.len oDraw m13 k13 b13
  have oShuf := ok_shuf F15 B.len B.list oDraw m13 k13 b13
  have T : Draws l.prog w K mg base _ _ _ _ _ _ := ⟨oDraw, m13, k13, b13, oPick, m14, k14, b14, oShuf, m15, k15, b15⟩
  have oWag := ok_wagL F16 T B.range B.int
  have oLRow := ok_rowB F17 T B.tuple
  have oLTurn := ok_lturn (P := l.prog) (w := w) (base := base) F18 B
  have oLForm := ok_lform (T := [(P19, qLam)]) F19 B n_min TB List.mem_cons_self (fun p hp _ => by rw [List.mem_singleton.mp hp]) ⟨oLTurn, m18, k18, b18⟩
  have oLText := ok_ltext (P := l.prog) (w := w) (base := base) F20 B
  have ML : HasC l.prog w K mg base 7 "Line" ["self", "row"] (spInit K 2 CL lineR (fun _ _ => True) (fun _ _ => True)) CL _ _ := ⟨MkL, oLI, mCL, biL⟩
  have MR : HasC l.prog w K mg base 7 "Ring" ["self", "row"] (spInit K 2 CR ringR (fun a H => BareT H a) (fun _ _ => True)) CR _ _ := ⟨MkR, oRI, mCR, biR⟩
  have oLMade := ok_lmade F21 ML MR
  exact ok_law F22 B T ⟨oPen, m12, k12, b12⟩ ⟨oWag, m16, k16, b16⟩ ⟨oLRow, m17, k17, b17⟩ ⟨oLForm, m19, k19, b19⟩ ⟨oLText, m20, k20, b20⟩ ⟨oLMade, m21, k21, b21⟩ RL RR ⟨MmLtext, oLT, bmLtext⟩ ⟨MmRtext, oRT, bmRtext⟩ ⟨maL__contains__, mfL__contains__, oLC, bmL__contains__⟩ ⟨maR__contains__, mfR__contains__, oRC, bmR__contains__⟩
theorem walk {l : PySem.W.OpenLaw} {q : Program} {loose : List Str} {XP : (Str → Option Value) → Heap → Prop} {YP : World → Heap → Prop} {d : DefRec} {K : Params → PySem.W.Frag} (hn : l.most = some 63) (hdf : d.params.defaults = [])
    (hY : ∀ (w : World) (h : Heap), YP w h → (K w.params).In h)
    (F : ∀ (w : World) (mg : Str → Option Value) (fa : Addr) (h : Heap), YP w h → (K w.params).In h → h.Ns mainGlobals mg → mg d.name = some (.ref fa) → LamX.LawAtS l w (K w.params) CX0 10 63 "script" mg fa h) :
    PySem.W.WalkO q loose XP YP l.row.toRowW d [] (fun f vs => PySem.call f vs) :=
  LamX.walk_ofTs (n := 63) (k := 10) (x := "script") (CX := fun _ => CX0) hn (by decide) hdf ⟨rfl, by decide, by decide⟩ hY F fun _ _ _ _ _ z => z
end My
open PySem PySem.W PyProof.Rows
set_option Elab.async false
set_option maxRecDepth 100000 in
set_option maxHeartbeats 0 in
theorem PySem.Challenge.cw_shuntplan_k04_trains_as_values_holds : PySem.Challenge.rw_shuntplan_k04_trains_as_values.Holds := by
  w_on; o_law; k_head; (case hw => w_witness2)
  k_fill
  refine My.walk (l := PySem.Challenge.rw_shuntplan_k04_trains_as_values) rfl rfl (fun w h Y => PySem.W.km_in_of Y) ?F
  case F =>
    intro w mg fa h Y KX G hmg
    refine' My.all_mk KX G hmg ?a1 ?l1 ?c1 ?k1 ?a2 ?l2 ?c2 ?k2 ?a3 ?l3 ?c3 ?k3 ?a4 ?l4 ?c4 ?k4 ?a5 ?l5 ?c5 ?k5 ?a6 ?l6 ?c6 ?k6 ?a7 ?l7 ?c7 ?k7 ?a8 ?l8 ?c8 ?k8 ?a9 ?l9 ?c9 ?k9 ?a10 ?l10 ?c10 ?k10 ?a11 ?l11 ?c11 ?k11 ?a12 ?l12 ?c12 ?k12 ?a13 ?l13 ?c13 ?k13 ?a14 ?l14 ?c14 ?k14 ?a15 ?l15 ?c15 ?k15 ?a16 ?l16 ?c16 ?k16 ?a17 ?l17 ?c17 ?k17 ?a18 ?l18 ?c18 ?k18 ?a19 ?l19 ?c19 ?k19 ?x119 ?x219 ?x319 ?x419 ?x519 ?a20 ?l20 ?c20 ?k20 ?a21 ?l21 ?c21 ?k21 ?a22 ?l22 ?c22 ?k22 ?caL ?pgL ?hdL ?poL ?saL ?noL0 ?mkL ?inL ?fnL ?kpL ?liL ?ciL ?r1L ?r2L ?r3L ?e1L ?kcL ?mrL ?nxL ?tf_L ?tyL ?maLtext ?mfLtext ?lmLtext ?cmLtext ?kmLtext ?maL__contains__ ?mfL__contains__ ?lmL__contains__ ?cmL__contains__ ?kmL__contains__ ?caR ?pgR ?hdR ?poR ?saR ?noR0 ?mkR ?inR ?fnR ?kpR ?liR ?ciR ?r1R ?r2R ?r3R ?e1R ?kcR ?mrR ?nxR ?tf_R ?tyR ?maRtext ?mfRtext ?lmRtext ?cmRtext ?kmRtext ?maR__contains__ ?mfR__contains__ ?lmR__contains__ ?cmR__contains__ ?kmR__contains__ ?liT ?ciT ?kiT ?zisinstance ?zint ?zbool ?zstr ?ztuple ?zlist ?zlen ?zall ?zset ?zrange ?zabs ?zrepr ?zmin ?zsuper ?zany ?ztop ?gk0 ?gk1 ?gk2
    (case a1 => k_is)
    (case l1 => k_is)
    (case c1 => k_is)
    (case k1 => k_is)
    (case a2 => k_is)
    (case l2 => k_is)
    (case c2 => k_is)
    (case k2 => k_is)
    (case a3 => k_is)
    (case l3 => k_is)
    (case c3 => k_is)
    (case k3 => k_is)
    (case a4 => k_is)
    (case l4 => k_is)
    (case c4 => k_is)
    (case k4 => k_is)
    (case a5 => k_is)
    (case l5 => k_is)
    (case c5 => k_is)
    (case k5 => k_is)
    (case a6 => k_is)
    (case l6 => k_is)
    (case c6 => k_is)
    (case k6 => k_is)
    (case a7 => k_is)
    (case l7 => k_is)
    (case c7 => k_is)
    (case k7 => k_is)
    (case a8 => k_is)
    (case l8 => k_is)
    (case c8 => k_is)
    (case k8 => k_is)
    (case a9 => k_is)
    (case l9 => k_is)
    (case c9 => k_is)
    (case k9 => k_is)
    (case a10 => k_is)
    (case l10 => k_is)
    (case c10 => k_is)
    (case k10 => k_is)
    (case a11 => k_is)
    (case l11 => k_is)
    (case c11 => k_is)
    (case k11 => k_is)
    (case a12 => k_is)
    (case l12 => k_is)
    (case c12 => k_is)
    (case k12 => k_is)
    (case a13 => k_is)
    (case l13 => k_is)
    (case c13 => k_is)
    (case k13 => k_is)
    (case a14 => k_is)
    (case l14 => k_is)
    (case c14 => k_is)
    (case k14 => k_is)
    (case a15 => k_is)
    (case l15 => k_is)
    (case c15 => k_is)
    (case k15 => k_is)
    (case a16 => k_is)
    (case l16 => k_is)
    (case c16 => k_is)
    (case k16 => k_is)
    (case a17 => k_is)
    (case l17 => k_is)
    (case c17 => k_is)
    (case k17 => k_is)
    (case a18 => k_is)
    (case l18 => k_is)
    (case c18 => k_is)
    (case k18 => k_is)
    (case a19 => k_is)
    (case l19 => k_is)
    (case c19 => k_is)
    (case k19 => k_is)
    (case x119 => k_is)
    (case x219 => rfl)
    (case x319 => rfl)
    (case x419 => rfl)
    (case x519 => exact PySem.W.km_tabs_of Y _ (by decide))
    (case a20 => k_is)
    (case l20 => k_is)
    (case c20 => k_is)
    (case k20 => k_is)
    (case a21 => k_is)
    (case l21 => k_is)
    (case c21 => k_is)
    (case k21 => k_is)
    (case a22 => k_is)
    (case l22 => k_is)
    (case c22 => k_is)
    (case k22 => k_is)
    (case caL => k_is)
    (case pgL => k_is)
    (case hdL => k_is)
    (case poL => k_is)
    (case saL => k_is)
    (case noL0 => k_is)
    (case mkL => k_is)
    (case inL => k_is)
    (case fnL => k_is)
    (case kpL => k_is)
    (case liL => k_is)
    (case ciL => k_is)
    (case r1L => k_is)
    (case r2L => rfl)
    (case r3L => decide +kernel)
    (case e1L => k_is)
    (case kcL => k_is)
    (case mrL => k_is)
    (case nxL => ks_is)
    (case tf_L => k_is)
    (case tyL => k_is)
    (case maLtext => k_is)
    (case mfLtext => k_is)
    (case lmLtext => k_is)
    (case cmLtext => k_is)
    (case kmLtext => k_is)
    (case maL__contains__ => k_is)
    (case mfL__contains__ => k_is)
    (case lmL__contains__ => k_is)
    (case cmL__contains__ => k_is)
    (case kmL__contains__ => k_is)
    (case caR => k_is)
    (case pgR => k_is)
    (case hdR => k_is)
    (case poR => k_is)
    (case saR => k_is)
    (case noR0 => k_is)
    (case mkR => k_is)
    (case inR => k_is)
    (case fnR => k_is)
    (case kpR => k_is)
    (case liR => k_is)
    (case ciR => k_is)
    (case r1R => k_is)
    (case r2R => rfl)
    (case r3R => decide +kernel)
    (case e1R => k_is)
    (case kcR => k_is)
    (case mrR => k_is)
    (case nxR => ks_is)
    (case tf_R => k_is)
    (case tyR => k_is)
    (case maRtext => k_is)
    (case mfRtext => k_is)
    (case lmRtext => k_is)
    (case cmRtext => k_is)
    (case kmRtext => k_is)
    (case maR__contains__ => k_is)
    (case mfR__contains__ => k_is)
    (case lmR__contains__ => k_is)
    (case cmR__contains__ => k_is)
    (case kmR__contains__ => k_is)
    (case liT => k_is)
    (case ciT => k_is)
    (case kiT => k_is)
    (case zisinstance => k_is)
    (case zint => k_is)
    (case zbool => k_is)
    (case zstr => k_is)
    (case ztuple => k_is)
    (case zlist => k_is)
    (case zlen => k_is)
    (case zall => k_is)
    (case zset => k_is)
    (case zrange => k_is)
    (case zabs => k_is)
    (case zrepr => k_is)
    (case zmin => k_is)
    (case zsuper => k_is)
    (case zany => k_is)
    (case ztop => rfl)
    (case gk0 => k_is)
    (case gk1 => k_is)
    (case gk2 => k_is)
