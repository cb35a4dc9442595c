import PyProof.Rows.All
import Wide.All
import OpenK.AllK
import Wide.FinOn
import HandS.ForMost
import HandS.Wide
import HandS.EndBits
import HandS.TupAny
import HandS.IsInst
import KE.KStateDown
import HandS.Head0
import HandS.Head1
import HandS.Head2
import HandS.EndTab
import HandS.Lambda
import HandS.HeadHook4
import HandS.Words
import HandS.Defaults
import HandS.ExcInit
import KE.KExcInit
import KE.KDictDisplayH
import HandS.ExcOwn
import HandS.Evl
import HandS.SetBool
import HandS.SetKeys
import HandS.Strs
import HandS.Style
import HandS.DeepEq
import KE.KIndexOf
import KE.DatumOrd
import HandS.Nested
import HandS.ClsMeth
import KE.KSuper
import KE.SortData
import HandS.Zip
import HandS.Walk
import HandS.Property
import KE.DataEq
import PyProof.ExcBaseAll.LookupError
import HandS.WordsExc
import KE.DataMinMax
import HandS.TryOnly
import HandS.Star
import HandS.OwnEq
import HandS.More
import HandS.SlotsOwn
import OpenK.KMeth
import PyProof.EqKinds
import KE.Datum
import HandS.ForExc
import HandS.TryMany
import HandS.ExcValue
import KE.KExcIs
import KE.KTryMore
import HandS.ExcField
import PySem.Challenge.RW_shuntplan_k73_neighbours_or_not
set_option Elab.async false
set_option linter.all false
set_option maxRecDepth 100000
set_option maxHeartbeats 4000000
/-! Defs that show values: a promise that may lean on «nothing is being shown around the call», its callers, its end, and repr of data. -/
namespace My
open PySem PySem.Spec PyProof.Rows L2

/-- no value is being shown around here -/
def Still (A : Around) : Prop := A.guards = some []
theorem Still.deeper {A : Around} (h : Still A) (e : Env) : Still (A.deeper e) := h

section
variable (P : Program) (w : World) (K : PySem.W.Frag) (mg : Str → Option Value) (base : Heap) (CX : CXT)
/-- a def's promise, kept wherever nothing is being shown -/
structure FnG (k : Nat) (f : Addr) (fd : FuncData) (ps : List Str) (sp : Sp) : Prop where
  len : ∀ vs H Q E, sp vs H Q E → vs.length = ps.length
  run : ∀ (A : Around) (stk : List Env) (s : Shared) (H : Hp) (g : Args) (us : List Value) (vs : List V) (Q : VK) (E : XK), Still A → Room k A → Env0 P w K mg base A stk s H →
    BindsTo s fd g (ps.zip us) → Vals vs us → sp vs H Q E → codeAny (model P w) A (.call (.ref f) g) (CR CX stk P w H s Q E) s
end

section
variable {P : Program} {w : World} {K : PySem.W.Frag} {mg : Str → Option Value} {base : Heap} {CX : CXT}
theorem FnG.of {k : Nat} {f : Addr} {fd : FuncData} {ps : List Str} {sp : Sp} (F : FnOk P w K mg base CX k f fd ps sp) : FnG P w K mg base CX k f fd ps sp :=
  ⟨F.len, fun A stk s H g us vs Q E _ r e b v h => F.run A stk s H g us vs Q E r e b v h⟩
theorem FnG.mono {i k : Nat} {f : Addr} {fd : FuncData} {ps : List Str} {sp : Sp} (F : FnG P w K mg base CX i f fd ps sp) (h : i ≤ k) : FnG P w K mg base CX k f fd ps sp :=
  ⟨F.len, fun A stk s H g us vs Q E st r e b v q => F.run A stk s H g us vs Q E st (r.mono h) e b v q⟩
theorem FnG.imp {k : Nat} {f : Addr} {fd : FuncData} {ps : List Str} {sp sp' : Sp} (F : FnG P w K mg base CX k f fd ps sp) (h : ∀ vs H Q E, sp' vs H Q E → sp vs H Q E) : FnG P w K mg base CX k f fd ps sp' :=
  ⟨fun vs H Q E q => F.len vs H Q E (h _ _ _ _ q), fun A stk s H g us vs Q E st r e b v q => F.run A stk s H g us vs Q E st r e b v (h _ _ _ _ q)⟩
end

section
variable {X : Cx} {CX : CXT} {k : Nat} {f C : Addr} {fd : FuncData} {ps : List Str} {sp : Sp} {dvs : List V} {ds : List Value} {E : XK} {x : Str} {p pos : Pos} {e : Expr} {es : List Expr} {t : TA}
theorem runG {pins : List (Addr × Obj)} {σ : L2.St} {H : Hp} {s : Shared} {Q : VK} {us : List Value} {vs : List V} (F : FnG X.prog X.w X.K X.mg X.base CX k f fd ps sp) (st : Still X.A) (hr : Room k X.A)
    (hb : Binds X.K fd ps ds) (hd : Vals dvs ds) (hx : Passes CX X E) (I : Inv X pins σ H s) (rv : Vals vs us) (hp : sp (vs ++ dvs) H Q E) :
    wpAny (model X.prog X.w) X.A (call (.ref f) us) (EP X pins σ Q) X.xe s := by
  have all : Vals (vs ++ dvs) (us ++ ds) := rv.append hd
  have many : (us ++ ds).length = ps.length := all.length.symm.trans (F.len _ _ _ _ hp)
  refine wpAny_call (codeAny_mono (F.run X.A X.stack s H ⟨us, []⟩ (us ++ ds) (vs ++ dvs) Q E st hr I.env0 (hb s us I.kIn many) all hp) ?_)
  intro res s' end_
  match res, end_ with
  | .error er, z => exact hx pins σ H s er s' I z
  | .ok (.ret u), z => exact I.after z
  | .ok .next, z => exact z.elim
  | .ok .brk, z => exact z.elim
  | .ok .cont, z => exact z.elim

theorem pe_callG (F : FnG X.prog X.w X.K X.mg X.base CX k f fd ps sp) (st : Still X.A) (hr : Room k X.A) (hg : Gl X x) (hm : X.mg x = some (.ref f)) (kp : PySem.W.keepIn X.K (.ref f) = true)
    (hb : Binds X.K fd ps ds) (hd : Vals dvs ds) (hx : Passes CX X E) (ha : PA X (e :: es) t) (nd : (x == ("__debug__" : Str)) = false := by decide)
    (he : starEach (e :: es) X.env = (false, eval e X.env) :: starEach es X.env := by rfl) (hp : (backTo pos (starEach es X.env)).any (·.1) = false := by rfl) :
    PE X (.Call (.Name x p) (e :: es) [] pos) (tCall sp dvs E t) :=
  ⟨fun pins s σ H Q I q => wpAny_Call_Name_kw (ld_glob I hg hm
    (PySem.W.callWith_K (h₀ := X.base) I.ok.mod.kin kp (thn (ha.run pos pins s σ H _ I q) fun _ _ ⟨_, _, J, rv, z⟩ => ⟨J.kIn, runG F st hr hb hd hx J rv z⟩) he hp) nd)⟩
theorem pe_callG0 (F : FnG X.prog X.w X.K X.mg X.base CX k f fd ps sp) (st : Still X.A) (hr : Room k X.A) (hg : Gl X x) (hm : X.mg x = some (.ref f)) (kp : PySem.W.keepIn X.K (.ref f) = true)
    (hb : Binds X.K fd ps ds) (hd : Vals dvs ds) (hx : Passes CX X E) (nd : (x == ("__debug__" : Str)) = false := by decide) : PE X (.Call (.Name x p) [] [] pos) (tCall sp dvs E tNil) :=
  ⟨fun pins s σ H Q I q => wpAny_Call_Name_kw (ld_glob I hg hm (PySem.W.callWith_K0 I.kIn kp (runG (us := []) F st hr hb hd hx I .nil q)) nd)⟩
end

/-! ### a def by its body -/
theorem fn_ofG {CX : CXT} {P : Program} {w : World} {K : PySem.W.Frag} {mg : Str → Option Value} {base : Heap} {k : Nat} {f : Addr} {name qual : Str} {params : Arguments} {body : List Stmt} {sc : Scope} {dV kV doc pm cdv ct oc : Value} {an od : Option Addr}
    {osl : Array (Option Value)} {N ps : List Str} {sp : Sp} (lk : K.lookup f = some ⟨oc, od, .func (PySem.W.fnOf name qual params body sc dV kV doc pm an cdv ct), osl⟩) (hc : PySem.W.codeIn K cdv qual = true) (S : FnScope N ps sc)
    (len : ∀ vs H Q E, sp vs H Q E → vs.length = ps.length)
    (hbody : ∀ (A : Around) (stk : List Env) (s : Shared) (H : Hp) (vs : List V) (Q : VK) (E : XK), Still A → Room k (A.deeper (envOfC qual sc s.heap.objs.size f cdv)) → sp vs H Q E →
      ∃ t, PSs (cxOf CX P w K mg base N qual sc f cdv A stk s H E) body t ∧ t { nx := fun _ H' => Q .non H', rt := Q } (start N vs) H) :
    FnG P w K mg base CX (k + 1) f (PySem.W.fnOf name qual params body sc dV kV doc pm an cdv ct) ps sp := by
  refine ⟨len, fun A stk s H g us vs Q E st hr e0 hb rv hp => ?_⟩
  have many := len _ _ _ _ hp
  have keep : ∀ b o, base.get? b = some o → s.heap.get? b = some o := fun b o e => (e0.bs b o e).1
  have KX : K.In s.heap := e0.mod.kin.keeps keep
  have lim : s.heap.NoLimit := e0.mod.nolimit.keeps keep
  refine codeAny_call_function hr.depth (KX _ _ lk) rfl S.co S.gen rfl (PySem.W.codeRec_of KX hc) (hb _ _ _ _ (wpAny_newFunctionEnv_cells S.kind ?_ ?_))
  · rintro ⟨n, v⟩ hy
    rcases S.par n (List.of_mem_zip hy).1 with q | q
    · exact .inl q
    · exact .inr ⟨q, PySem.W.cellsFrom_some _ _ _ (.inl q)⟩
  · rintro env rfl s1 x
    obtain ⟨t, ht, hq⟩ := hbody A stk s H vs Q E st (hr.deeper _) hp
    refine ⟨lim.keeps x.toInCall.keep, codeAny_func (wpAny_mono (ht.run [] s1 (start N vs) H _ (inv_start S hr.hd e0 many rv x) hq) ?_ fun _ _ z => z)⟩
    intro fl s' z
    match fl, z with
    | .ret u, ⟨v, _, H', J, r, q⟩ => exact ⟨v, H', J.os, J.bare, J.base, J.hok, r, q⟩
    | .next, ⟨_, H', J, q⟩ => exact ⟨V.non, H', J.os, J.bare, J.base, J.hok, (rfl : Value.none = Value.none), q⟩
    | .brk, ⟨_, _, _, q⟩ => exact q.elim
    | .cont, ⟨_, _, _, q⟩ => exact q.elim

section
variable {P : Program} {w : World} {K : PySem.W.Frag} {mg : Str → Option Value} {base : Heap}
theorem okG {x qual : Str} {st : Stmt} {f : Addr} {fd : FuncData} {N ps : List Str} {k : Nat} {sp : Sp} (F : Fun K x qual st f fd) (S : FnScope N ps (defScope st)) (len : ∀ vs H Q E, sp vs H Q E → vs.length = ps.length)
    (hbody : ∀ (cdv : Value) (A : Around) (stk : List Env) (s : Shared) (H : Hp) (vs : List V) (Q : VK) (E : XK), Still A → Room k (A.deeper (envOfC qual (defScope st) s.heap.objs.size f cdv)) → sp vs H Q E →
      ∃ t, PSs (cxOf CX0 P w K mg base N qual (defScope st) f cdv A stk s H E).nox (defBody st) t ∧ t { nx := fun _ H' => Q .non H', rt := Q } (start N vs) H) : FnG P w K mg base CX0 (k + 1) f fd ps sp := by
  obtain ⟨oc, od, kV, doc, pm, an, cdv, ct, osl, rfl, lk, hc⟩ := F.ex
  exact fn_ofG lk hc S len fun A stk s H vs Q E sl hr hp => let ⟨t, h, q⟩ := hbody cdv A stk s H vs Q E sl hr hp; ⟨t, h.nox, q⟩
end

/-! ### repr of data -/
section
variable {X : Cx}
def rRepr (K : PySem.W.Frag) : List V → Hp → VK → Prop := fun xs H Q => ∃ v d, xs = [v] ∧ Dp K H v d ∧ d.showable = true ∧ d.depth ≤ 60 ∧ d.shown.length ≤ sizeLine ∧ Q (.str d.shown) H
mutual
theorem noDict {K : PySem.W.Frag} {H : Hp} : ∀ (d : PyData) (v : V), Dp K H v d → d.hasDict = false
  | .none, _, _ => by simp only [PyData.hasDict]
  | .bool _, _, _ => by simp only [PyData.hasDict]
  | .int _, _, _ => by simp only [PyData.hasDict]
  | .str _, _, _ => by simp only [PyData.hasDict]
  | .list ds, _, h => by
    cases h with
    | lst _ a =>
      simp only [PyData.hasDict]
      exact noDictAll ds _ a
  | .tuple ds, _, h => by
    cases h with
    | tup _ a =>
      simp only [PyData.hasDict]
      exact noDictAll ds _ a
  | .dict _, _, h => by cases h
theorem noDictAll {K : PySem.W.Frag} {H : Hp} : ∀ (ds : List PyData) (vs : List V), DpAll K H vs ds → PyData.hasDictAll ds = false
  | [], _, _ => by simp only [PyData.hasDictAll]
  | d :: ds, _, h => by
    cases h with
    | cons a b =>
      simp only [PyData.hasDictAll, noDict d _ a, noDictAll ds _ b]
      rfl
end
theorem inv_more {pins : List (Addr × Obj)} {σ : L2.St} {H : Hp} {s : Shared} {h' : Heap} {tk : Nat} (I : Inv X pins σ H s) (k : ∀ b o, s.heap.get? b = some o → h'.get? b = some o) : Inv X pins σ H { s with heap := h', toks := tk } :=
  I.un (Un.kept k) (I.hok.kept k)
theorem call_repr (hg : Still X.A) (hu : X.A.units + 64 < cLine) : CallR X (.builtin "repr") (rRepr X.K) := by
  intro pins s σ H xs us Q I r h
  obtain ⟨v, d, rfl, hd, hs, hdp, hz, q⟩ := h
  obtain ⟨u, rfl, rv⟩ := vals1 r
  have nd := noDict d v hd
  obtain ⟨as, rd⟩ := Dp.reads I d v u hd rv
  have fin : ∀ (h' : Heap) (t tk : Tok), (∀ b o, s.heap.get? b = some o → h'.get? b = some o) → EP X pins σ Q (.str d.shown t) { s with heap := h', toks := tk } :=
    fun h' t tk k => ⟨.str d.shown, H, inv_more I k, ⟨t, rfl⟩, q⟩
  cases hd with
  | non =>
    cases rv
    exact PySem.P.repr_of_none (by simpa only [PyData.shown] using fin s.heap _ _ fun _ _ e => e)
  | bl b =>
    cases rv
    exact PySem.P.repr_of_bool (by simpa only [PyData.shown] using fin s.heap _ _ fun _ _ e => e)
  | int i =>
    obtain ⟨t, rfl⟩ := rv
    exact PySem.P.repr_of_int (by simpa [PyData.showable] using hs) (by simpa only [PyData.shown] using fin s.heap _ _ fun _ _ e => e)
  | str x =>
    obtain ⟨t, rfl⟩ := rv
    exact PySem.P.repr_of_str (by simpa only [PyData.shown] using fin s.heap _ _ fun _ _ e => e) (by simpa only [PyData.shown] using hz)
  | lst _ _ =>
    cases rv
    exact PySem.repr_of_reads' rd hs (PyData.noDict_hsm nd) hg (by omega) (fun _ _ e => e) (fun h' u tk k => fin h' u tk k) hz
  | tup _ _ =>
    cases rv
    exact PySem.repr_of_reads' rd hs (PyData.noDict_hsm nd) hg (by omega) (fun _ _ e => e) (fun h' u tk k => fin h' u tk k) hz
end
end My
set_option Elab.async false
set_option linter.all false
set_option maxRecDepth 100000
set_option maxHeartbeats 4000000
/-! The end of a law whose def shows values. -/
namespace My
open PySem PySem.Spec PyProof.Rows L2

section
variable {P : Program} {w : World} {K : PySem.W.Frag} {mg mb : Str → Option Value} {CX : CXT} {k : Nat} {fa a : Addr} {fd : FuncData} {x : Str} {sp : Sp} {s : Shared} {vs : List Value} {ns : List Int}
/-- what the law's call asks of the state behind the top -/
structure Behind (K : PySem.W.Frag) (mg mb : Str → Option Value) (a : Addr) (vs : List Value) (s : Shared) : Prop where
  kin : K.In s.heap
  glob : s.heap.Ns mainGlobals mg
  blt : s.heap.Ns builtinsNs mb
  boot : ∀ y : Str, y ≠ "__name__" → mb y = bootBuiltins y
  lim : s.heap.NoLimit
  gens : s.gens = #[]
  ob : s.heap.get? a = some { cls := .type "list", data := .seq vs.toArray }
/-- the abstract heap in which at most the script is tracked -/
structure Bare (K : PySem.W.Frag) (a : Addr) (H : Hp) : Prop where
  only : Only H
  at_ : ∀ b, H b ≠ none → b = a
  free : H a ≠ none → K.lookup a = none
theorem law_at (B : Behind K mg mb a vs s) (hr : Room k callerA) (F : ∀ base : Heap, K.In base → base.Ns mainGlobals mg → FnG P w K mg base CX k fa fd [x] sp)
    (bind : ∀ (s : Shared) (u : Value), BindsTo s fd ⟨[u], []⟩ [(x, u)]) (hCX : ∀ H e s', CX [] H s (fun _ _ _ => False) e s' → False)
    (H : Hp) (W : Bare K a H) (hok : HOk P w H s.heap) (hp : sp [.ref a] H (fun v _ => v = .bl true) fun _ _ _ => False) :
    codeAny (model P w) callerA (.call (.ref fa) ⟨[.ref a], []⟩) (fun r s' => r = .ok (.ret (.bool true)) ∧ OldK s.heap s'.heap ∧ s'.os = s.os ∧ AllBare s'.gens) s := by
  have apart : ∀ {b : Addr} {o : Obj}, s.heap.get? b = some o → (b = a → H a = none) → (hidT s.heap H).get? b = some o := fun {b o} e z => hidT_get e (by
    by_cases q : H b = none
    · exact q
    · have ba := W.at_ b q
      rw [ba]
      exact z ba)
  have ns : ∀ {b : Addr} {m : Str → Option Value}, s.heap.Ns b m → (hidT s.heap H).Ns b m := fun {b m} ⟨o, es, ep, e, d, r⟩ => ⟨o, es, ep, apart e (fun z => by
    subst z
    rw [B.ob] at e
    cases e
    exact absurd d (fun q => nomatch q)), d, r⟩
  have kb : K.In (hidT s.heap H) := fun b o e => apart (B.kin b o e) (fun z => by
    subst z
    by_cases q : H b = none
    · exact q
    · have := W.free q
      rw [e] at this
      cases this)
  have md : Mod K mg (hidT s.heap H) := ⟨kb, ns B.glob, ⟨mb, ns B.blt, B.boot⟩, match B.lim with | ⟨m, p, q⟩ => ⟨m, ns p, q⟩⟩
  have e0 : Env0 P w K mg (hidT s.heap H) callerA [] s H :=
    { frames := rfl, mod := md, bs := fun _ _ e => of_hidT e, bsz := Nat.le_of_eq (hidT_size _ _), funs := trivial, frf := fun _ z => (List.not_mem_nil z).elim, hok := hok, bare := .of_eq B.gens }
  refine codeAny_mono ((F _ kb (ns B.glob)).run callerA [] s H ⟨[.ref a], []⟩ [.ref a] [.ref a] _ _ rfl hr e0 (bind s (.ref a)) (.cons rfl .nil) hp) ?_
  intro res s' z
  match res, z with
  | .error e, z => exact (hCX H e s' z).elim
  | .ok .next, z => exact z.elim
  | .ok .brk, z => exact z.elim
  | .ok .cont, z => exact z.elim
  | .ok (.ret u), ⟨v, H', os, bare, un, hok', rv, q⟩ =>
    subst q
    cases (show u = Value.bool true from rv)
    refine ⟨rfl, OldK.of_keep fun b o e => ?_, os, bare⟩
    rcases W.only b with z | ⟨ob, xs, z⟩
    · exact un.keep b o e z List.not_mem_nil List.not_mem_nil
    · have h1 := (hok b _ z).1
      have h2 := (hok' b _ (un.frzs b ob _ z)).1
      rw [e] at h1
      cases h1
      exact h2
theorem law_endG (B : Behind K mg mb a vs s) (hi : IntsAre vs ns) (hl : ns.length ≤ sizeLine) (hr : Room k callerA)
    (F : ∀ base : Heap, K.In base → base.Ns mainGlobals mg → FnG P w K mg base CX k fa fd [x] sp) (bind : ∀ (s : Shared) (u : Value), BindsTo s fd ⟨[u], []⟩ [(x, u)])
    (hsp : ∀ H : Hp, Only H → SqL K H a (ns.map V.int) → sp [.ref a] H (fun v _ => v = .bl true) fun _ _ _ => False) (hCX : ∀ H e s', CX [] H s (fun _ _ _ => False) e s' → False) :
    codeAny (model P w) callerA (.call (.ref fa) ⟨[.ref a], []⟩) (fun r s' => r = .ok (.ret (.bool true)) ∧ OldK s.heap s'.heap ∧ s'.os = s.os ∧ AllBare s'.gens) s := by
  have rv := vals_ints hi
  have le := hi.length
  have lm : (ns.map V.int).length ≤ sizeLine := by
    rw [List.length_map]
    exact hl
  cases q : K.lookup a with
  | some o =>
    have e := B.kin a o q
    rw [B.ob] at e
    cases e
    have hS : SqL K (fun _ => none) a (ns.map V.int) := .inr ⟨_, vs.toArray, _, q, rfl, rfl, rfl, by simpa using (le ▸ hl), by simpa using rv⟩
    exact law_at B hr F bind hCX (fun _ => none) ⟨fun _ => .inl rfl, fun _ z => absurd rfl z, fun z => absurd rfl z⟩ (fun _ _ z => nomatch z) (hsp _ (fun _ => .inl rfl) hS)
  | none =>
    let fz : HO := .frz { cls := .type "list", data := .seq vs.toArray } (.lst (ns.map V.int))
    have oth : ∀ b, b ≠ a → (fun c => if c = a then some fz else none : Hp) b = none := fun b z => if_neg z
    have own : (fun c => if c = a then some fz else none : Hp) a = some fz := if_pos rfl
    have on : Only (fun c => if c = a then some fz else none) := fun b => (Decidable.em (b = a)).elim (fun z => .inr ⟨{ cls := .type "list", data := .seq vs.toArray }, ns.map V.int, if_pos z⟩) fun z => .inl (oth b z)
    refine law_at B hr F bind hCX _ ⟨on, fun b z => Decidable.byContradiction fun y => z (oth b y), fun _ => q⟩ (fun b u z => ?_) (hsp _ on (.inl (.inr ⟨_, own⟩)))
    by_cases y : b = a
    · subst y
      rw [if_pos rfl] at z
      cases z
      exact ⟨B.ob, lm, vs, _, rv, B.ob⟩
    · rw [if_neg y] at z
      cases z
end
/-- the goal that the head leaves, from a promise that may lean on «nothing is being shown»; the script's bits are told -/
theorem walk_G {l : PySem.W.OpenLaw} {n k : Nat} {q : Program} {loose : List Str} {XP : (Str → Option Value) → Heap → Prop} {YP : World → Heap → Prop} {d : DefRec} {K : Params → PySem.W.Frag} {sp : PySem.W.Frag → Sp} {x : Str}
    (hn : l.most = some n) (h2 : n ≤ sizeLine) (hd : d.params.defaults = []) (hr : Room k callerA) (hY : ∀ (w : World) (h : Heap), YP w h → (K w.params).In h)
    (F : ∀ (w : World) (mg : Str → Option Value) (fa : Addr) (h : Heap), (K w.params).In h → h.Ns mainGlobals mg → mg d.name = some (.ref fa) →
      ∃ fd : FuncData, (∀ (s : Shared) (u : Value), BindsTo s fd ⟨[u], []⟩ [(x, u)]) ∧ ∀ base : Heap, (K w.params).In base → base.Ns mainGlobals mg → FnG l.prog w (K w.params) mg base CX0 k fa fd [x] (sp (K w.params)))
    (hsp : ∀ (K : PySem.W.Frag) (H : Hp) (a : Addr) (ns : List Int), ns.length ≤ n → (∀ z ∈ ns, Builtin.Int.intBits z ≤ 1048576) → SqL K H a (ns.map V.int) → sp K [.ref a] H (fun v _ => v = .bl true) fun _ _ _ => False) :
    PySem.W.WalkO q loose XP YP l.row.toRowW d [] (fun f vs => PySem.call f vs) :=
  Att.attach_callB hn hd fun w s₀ s mg mb fa o pm cd doc a vs ns G Y _ _ _ hmg hob hi hl hb hg =>
    let ⟨_, bd, hF⟩ := F w mg fa _ (hY w _ Y) G.T.g hmg
    law_endG ⟨hY w _ Y, G.T.g, G.T.b, G.T.builtins, G.T.nolimit, hg, hob⟩ hi (Nat.le_trans hl h2) hr hF bd (fun H _ hS => hsp _ H a ns hl hb hS) fun _ _ _ z => z
end My
set_option Elab.async false
set_option linter.all false
set_option maxRecDepth 100000
set_option maxHeartbeats 4000000
namespace My
open PySem PySem.Spec PyProof.Rows L2
def topS (i : Nat) : Stmt := PySem.Challenge.pw_shuntplan_k73_neighbours_or_not.main.body.getD i (.Pass ⟨0, 0, 0, 0⟩)
abbrev sInvalidNameInit : Stmt := inClass (topS 1) 0
abbrev sInvalidEndInit : Stmt := inClass (topS 2) 0
abbrev sInvInit : Stmt := inClass (topS 3) 0
abbrev sInvalidCouplingInit : Stmt := inClass (topS 4) 0
abbrev sInvalidLayoutInit : Stmt := inClass (topS 5) 0
abbrev sParseErrorInit : Stmt := inClass (topS 7) 0
abbrev sNoWagonInit : Stmt := inClass (topS 8) 0
abbrev sNotCoupledInit : Stmt := inClass (topS 9) 0
abbrev sTooLargeInit : Stmt := inClass (topS 10) 0
abbrev sAlreadyCoupledInit : Stmt := inClass (topS 11) 0
abbrev sIsInt : Stmt := topS 16
abbrev sIsName : Stmt := topS 17
abbrev sIsWith : Stmt := topS 18
abbrev sIsEnd : Stmt := topS 19
abbrev sIsDir : Stmt := topS 20
abbrev sIsRow : Stmt := topS 21
abbrev sChkF : Stmt := topS 22
abbrev sTurn : Stmt := topS 23
abbrev sNames : Stmt := topS 24
abbrev sEntry : Stmt := topS 25
abbrev sDirectedBy : Stmt := topS 26
abbrev sOpp : Stmt := topS 27
abbrev sCoup : Stmt := topS 28
abbrev sLinks : Stmt := topS 29
abbrev sText : Stmt := topS 30
abbrev sLineF : Stmt := topS 31
abbrev sRingF : Stmt := topS 32
abbrev sTrInit : Stmt := inClass (topS 33) 0
abbrev sTrRow : Stmt := inClass (topS 33) 1
abbrev sTrText : Stmt := inClass (topS 33) 2
abbrev sTrLinks : Stmt := inClass (topS 33) 3
abbrev sTrEq : Stmt := inClass (topS 33) 4
abbrev sTrLen : Stmt := inClass (topS 33) 5
abbrev sTrCon : Stmt := inClass (topS 33) 6
abbrev sLnInit : Stmt := inClass (topS 34) 0
abbrev sLnRow : Stmt := inClass (topS 34) 1
abbrev sLnText : Stmt := inClass (topS 34) 2
abbrev sLnLinks : Stmt := inClass (topS 34) 3
abbrev sLnEq : Stmt := inClass (topS 34) 4
abbrev sLnLen : Stmt := inClass (topS 34) 5
abbrev sLnCon : Stmt := inClass (topS 34) 6
abbrev sRgInit : Stmt := inClass (topS 35) 0
abbrev sRgRow : Stmt := inClass (topS 35) 1
abbrev sRgText : Stmt := inClass (topS 35) 2
abbrev sRgLinks : Stmt := inClass (topS 35) 3
abbrev sRgEq : Stmt := inClass (topS 35) 4
abbrev sRgLen : Stmt := inClass (topS 35) 5
abbrev sRgCon : Stmt := inClass (topS 35) 6
abbrev sCanBecomeNew : Stmt := topS 38
abbrev sReaderInit : Stmt := inClass (topS 39) 0
abbrev sReaderTake : Stmt := inClass (topS 39) 1
abbrev sReaderEndName : Stmt := inClass (topS 39) 2
abbrev sReaderCanEnd : Stmt := inClass (topS 39) 3
abbrev sCheckReadable : Stmt := topS 40
abbrev sDirectedRead : Stmt := topS 41
abbrev sRowRead : Stmt := topS 42
abbrev sTrainRead : Stmt := topS 43
abbrev sTrainsRead : Stmt := topS 44
abbrev sIsNameList : Stmt := topS 46
abbrev sEndsOf : Stmt := topS 47
abbrev sIsEndPair : Stmt := topS 48
abbrev sCanBeAdded : Stmt := topS 49
abbrev sPartnersBy : Stmt := topS 50
abbrev sRowFrom : Stmt := topS 51
abbrev sTrainWith : Stmt := topS 52
abbrev sLayoutInit : Stmt := inClass (topS 53) 0
abbrev sLayoutOf : Stmt := inClass (topS 53) 1
abbrev sLayoutRead : Stmt := inClass (topS 53) 2
abbrev sLayoutWagons : Stmt := inClass (topS 53) 3
abbrev sLayoutCouplings : Stmt := inClass (topS 53) 4
abbrev sLayoutFree : Stmt := inClass (topS 53) 5
abbrev sLayoutTrains : Stmt := inClass (topS 53) 6
abbrev sLayoutText : Stmt := inClass (topS 53) 7
abbrev sLayoutLen : Stmt := inClass (topS 53) 8
abbrev sLayoutEq : Stmt := inClass (topS 53) 9
abbrev sLayoutGetitem : Stmt := inClass (topS 53) 10
abbrev sLayoutCon : Stmt := inClass (topS 53) 11
abbrev sLayoutIter : Stmt := inClass (topS 53) 12
abbrev sCheckLayout : Stmt := topS 54
abbrev sCheckSameWagons : Stmt := topS 55
abbrev sDifference : Stmt := topS 56
abbrev sCheckWagons : Stmt := topS 58
abbrev sRelinked : Stmt := topS 59
abbrev sStepInit : Stmt := inClass (topS 60) 0
abbrev sStepEnds : Stmt := inClass (topS 60) 1
abbrev sStepCall : Stmt := inClass (topS 60) 2
abbrev sStepEq : Stmt := inClass (topS 60) 3
abbrev sCoupleInit : Stmt := inClass (topS 61) 0
abbrev sCoupleEnds : Stmt := inClass (topS 61) 1
abbrev sCoupleCall : Stmt := inClass (topS 61) 2
abbrev sCoupleEq : Stmt := inClass (topS 61) 3
abbrev sCutInit : Stmt := inClass (topS 62) 0
abbrev sCutEnds : Stmt := inClass (topS 62) 1
abbrev sCutCall : Stmt := inClass (topS 62) 2
abbrev sCutEq : Stmt := inClass (topS 62) 3
abbrev sStepTowards : Stmt := topS 63
abbrev sAreNeighbours : Stmt := topS 64
abbrev sPen : Stmt := topS 66
abbrev sDraw : Stmt := topS 67
abbrev sPick : Stmt := topS 68
abbrev sShuf : Stmt := topS 69
abbrev sLNames : Stmt := topS 70
abbrev sLEnds : Stmt := topS 71
abbrev sLPairs : Stmt := topS 72
abbrev sLPartner : Stmt := topS 73
abbrev sLPair : Stmt := topS 74
abbrev sLCoupled : Stmt := topS 75
abbrev sLCut : Stmt := topS 76
abbrev sLAnyValue : Stmt := topS 77
abbrev sLTold : Stmt := topS 78
abbrev sLMoved : Stmt := topS 79
abbrev sLIsNear : Stmt := topS 80
abbrev sLaw : Stmt := topS 81
theorem scInvalidNameInit : FnScope ["self", "value"] ["self", "value"] (defScope sInvalidNameInit) := ⟨rfl, rfl, rfl, by decide +kernel, rfl, by decide +kernel, by decide +kernel⟩
theorem scInvalidEndInit : FnScope ["self", "value"] ["self", "value"] (defScope sInvalidEndInit) := ⟨rfl, rfl, rfl, by decide +kernel, rfl, by decide +kernel, by decide +kernel⟩
theorem scInvInit : FnScope ["self", "value"] ["self", "value"] (defScope sInvInit) := ⟨rfl, rfl, rfl, by decide +kernel, rfl, by decide +kernel, by decide +kernel⟩
theorem scInvalidCouplingInit : FnScope ["self", "value"] ["self", "value"] (defScope sInvalidCouplingInit) := ⟨rfl, rfl, rfl, by decide +kernel, rfl, by decide +kernel, by decide +kernel⟩
theorem scInvalidLayoutInit : FnScope ["self", "value"] ["self", "value"] (defScope sInvalidLayoutInit) := ⟨rfl, rfl, rfl, by decide +kernel, rfl, by decide +kernel, by decide +kernel⟩
theorem scParseErrorInit : FnScope ["self", "offset"] ["self", "offset"] (defScope sParseErrorInit) := ⟨rfl, rfl, rfl, by decide +kernel, rfl, by decide +kernel, by decide +kernel⟩
theorem scNoWagonInit : FnScope ["self", "name"] ["self", "name"] (defScope sNoWagonInit) := ⟨rfl, rfl, rfl, by decide +kernel, rfl, by decide +kernel, by decide +kernel⟩
theorem scNotCoupledInit : FnScope ["self", "end"] ["self", "end"] (defScope sNotCoupledInit) := ⟨rfl, rfl, rfl, by decide +kernel, rfl, by decide +kernel, by decide +kernel⟩
theorem scTooLargeInit : FnScope ["self", "limit"] ["self", "limit"] (defScope sTooLargeInit) := ⟨rfl, rfl, rfl, by decide +kernel, rfl, by decide +kernel, by decide +kernel⟩
theorem scAlreadyCoupledInit : FnScope ["self", "end"] ["self", "end"] (defScope sAlreadyCoupledInit) := ⟨rfl, rfl, rfl, by decide +kernel, rfl, by decide +kernel, by decide +kernel⟩
theorem scIsInt : FnScope ["value"] ["value"] (defScope sIsInt) := ⟨rfl, rfl, rfl, by decide +kernel, rfl, by decide +kernel, by decide +kernel⟩
theorem scIsName : FnScope ["value", "letter"] ["value"] (defScope sIsName) := ⟨rfl, rfl, rfl, by decide +kernel, rfl, by decide +kernel, by decide +kernel⟩
theorem scIsWith : FnScope ["value", "numbers"] ["value", "numbers"] (defScope sIsWith) := ⟨rfl, rfl, rfl, by decide +kernel, rfl, by decide +kernel, by decide +kernel⟩
theorem scIsEnd : FnScope ["value"] ["value"] (defScope sIsEnd) := ⟨rfl, rfl, rfl, by decide +kernel, rfl, by decide +kernel, by decide +kernel⟩
theorem scIsDir : FnScope ["value"] ["value"] (defScope sIsDir) := ⟨rfl, rfl, rfl, by decide +kernel, rfl, by decide +kernel, by decide +kernel⟩
theorem scIsRow : FnScope ["value", "wagon", "name", "_"] ["value"] (defScope sIsRow) := ⟨rfl, rfl, rfl, by decide +kernel, rfl, by decide +kernel, by decide +kernel⟩
theorem scChkF : FnScope ["value"] ["value"] (defScope sChkF) := ⟨rfl, rfl, rfl, by decide +kernel, rfl, by decide +kernel, by decide +kernel⟩
theorem scTurn : FnScope ["row", "name", "direction"] ["row"] (defScope sTurn) := ⟨rfl, rfl, rfl, by decide +kernel, rfl, by decide +kernel, by decide +kernel⟩
theorem scNames : FnScope ["row", "name", "_"] ["row"] (defScope sNames) := ⟨rfl, rfl, rfl, by decide +kernel, rfl, by decide +kernel, by decide +kernel⟩
theorem scEntry : FnScope ["wagon", "name", "direction"] ["wagon"] (defScope sEntry) := ⟨rfl, rfl, rfl, by decide +kernel, rfl, by decide +kernel, by decide +kernel⟩
theorem scDirectedBy : FnScope ["end", "name", "side"] ["end"] (defScope sDirectedBy) := ⟨rfl, rfl, rfl, by decide +kernel, rfl, by decide +kernel, by decide +kernel⟩
theorem scOpp : FnScope ["end", "name", "side"] ["end"] (defScope sOpp) := ⟨rfl, rfl, rfl, by decide +kernel, rfl, by decide +kernel, by decide +kernel⟩
theorem scCoup : FnScope ["one", "other"] ["one", "other"] (defScope sCoup) := ⟨rfl, rfl, rfl, by decide +kernel, rfl, by decide +kernel, by decide +kernel⟩
theorem scLinks : FnScope ["row", "one", "other"] ["row"] (defScope sLinks) := ⟨rfl, rfl, rfl, by decide +kernel, rfl, by decide +kernel, by decide +kernel⟩
theorem scText : FnScope ["row", "name", "direction"] ["row"] (defScope sText) := ⟨rfl, rfl, rfl, by decide +kernel, rfl, by decide +kernel, by decide +kernel⟩
theorem scLineF : FnScope ["row"] ["row"] (defScope sLineF) := ⟨rfl, rfl, rfl, by decide +kernel, rfl, by decide +kernel, by decide +kernel⟩
theorem scRingF : FnScope ["row", "least", "at"] ["row"] (defScope sRingF) := ⟨rfl, rfl, rfl, by decide +kernel, rfl, by decide +kernel, by decide +kernel⟩
theorem scTrInit : FnScope ["self", "row"] ["self", "row"] (defScope sTrInit) := ⟨rfl, rfl, rfl, by decide +kernel, rfl, by decide +kernel, by decide +kernel⟩
theorem scTrRow : FnScope ["self"] ["self"] (defScope sTrRow) := ⟨rfl, rfl, rfl, by decide +kernel, rfl, by decide +kernel, by decide +kernel⟩
theorem scTrText : FnScope ["self"] ["self"] (defScope sTrText) := ⟨rfl, rfl, rfl, by decide +kernel, rfl, by decide +kernel, by decide +kernel⟩
theorem scTrLinks : FnScope ["self"] ["self"] (defScope sTrLinks) := ⟨rfl, rfl, rfl, by decide +kernel, rfl, by decide +kernel, by decide +kernel⟩
theorem scTrEq : FnScope ["self", "other"] ["self", "other"] (defScope sTrEq) := ⟨rfl, rfl, rfl, by decide +kernel, rfl, by decide +kernel, by decide +kernel⟩
theorem scTrLen : FnScope ["self"] ["self"] (defScope sTrLen) := ⟨rfl, rfl, rfl, by decide +kernel, rfl, by decide +kernel, by decide +kernel⟩
theorem scTrCon : FnScope ["self", "name"] ["self", "name"] (defScope sTrCon) := ⟨rfl, rfl, rfl, by decide +kernel, rfl, by decide +kernel, by decide +kernel⟩
theorem scLnRow : FnScope ["self"] ["self"] (defScope sLnRow) := ⟨rfl, rfl, rfl, by decide +kernel, rfl, by decide +kernel, by decide +kernel⟩
theorem scLnText : FnScope ["self"] ["self"] (defScope sLnText) := ⟨rfl, rfl, rfl, by decide +kernel, rfl, by decide +kernel, by decide +kernel⟩
theorem scLnLinks : FnScope ["self"] ["self"] (defScope sLnLinks) := ⟨rfl, rfl, rfl, by decide +kernel, rfl, by decide +kernel, by decide +kernel⟩
theorem scLnEq : FnScope ["self", "other"] ["self", "other"] (defScope sLnEq) := ⟨rfl, rfl, rfl, by decide +kernel, rfl, by decide +kernel, by decide +kernel⟩
theorem scLnLen : FnScope ["self"] ["self"] (defScope sLnLen) := ⟨rfl, rfl, rfl, by decide +kernel, rfl, by decide +kernel, by decide +kernel⟩
theorem scLnCon : FnScope ["self", "name"] ["self", "name"] (defScope sLnCon) := ⟨rfl, rfl, rfl, by decide +kernel, rfl, by decide +kernel, by decide +kernel⟩
theorem scRgRow : FnScope ["self"] ["self"] (defScope sRgRow) := ⟨rfl, rfl, rfl, by decide +kernel, rfl, by decide +kernel, by decide +kernel⟩
theorem scRgText : FnScope ["self"] ["self"] (defScope sRgText) := ⟨rfl, rfl, rfl, by decide +kernel, rfl, by decide +kernel, by decide +kernel⟩
theorem scRgLinks : FnScope ["self"] ["self"] (defScope sRgLinks) := ⟨rfl, rfl, rfl, by decide +kernel, rfl, by decide +kernel, by decide +kernel⟩
theorem scRgEq : FnScope ["self", "other"] ["self", "other"] (defScope sRgEq) := ⟨rfl, rfl, rfl, by decide +kernel, rfl, by decide +kernel, by decide +kernel⟩
theorem scRgLen : FnScope ["self"] ["self"] (defScope sRgLen) := ⟨rfl, rfl, rfl, by decide +kernel, rfl, by decide +kernel, by decide +kernel⟩
theorem scRgCon : FnScope ["self", "name"] ["self", "name"] (defScope sRgCon) := ⟨rfl, rfl, rfl, by decide +kernel, rfl, by decide +kernel, by decide +kernel⟩
theorem scCanBecomeNew : FnScope ["name", "used", "letter"] ["name", "used"] (defScope sCanBecomeNew) := ⟨rfl, rfl, rfl, by decide +kernel, rfl, by decide +kernel, by decide +kernel⟩
theorem scReaderInit : FnScope ["self"] ["self"] (defScope sReaderInit) := ⟨rfl, rfl, rfl, by decide +kernel, rfl, by decide +kernel, by decide +kernel⟩
theorem scReaderTake : FnScope ["self", "char", "letter"] ["self", "char"] (defScope sReaderTake) := ⟨rfl, rfl, rfl, by decide +kernel, rfl, by decide +kernel, by decide +kernel⟩
theorem scReaderEndName : FnScope ["self"] ["self"] (defScope sReaderEndName) := ⟨rfl, rfl, rfl, by decide +kernel, rfl, by decide +kernel, by decide +kernel⟩
theorem scReaderCanEnd : FnScope ["self"] ["self"] (defScope sReaderCanEnd) := ⟨rfl, rfl, rfl, by decide +kernel, rfl, by decide +kernel, by decide +kernel⟩
theorem scCheckReadable : FnScope ["text", "reader", "offset", "char"] ["text"] (defScope sCheckReadable) := ⟨rfl, rfl, rfl, by decide +kernel, rfl, by decide +kernel, by decide +kernel⟩
theorem scDirectedRead : FnScope ["word"] ["word"] (defScope sDirectedRead) := ⟨rfl, rfl, rfl, by decide +kernel, rfl, by decide +kernel, by decide +kernel⟩
theorem scRowRead : FnScope ["text", "word"] ["text"] (defScope sRowRead) := ⟨rfl, rfl, rfl, by decide +kernel, rfl, by decide +kernel, by decide +kernel⟩
theorem scTrainRead : FnScope ["text"] ["text"] (defScope sTrainRead) := ⟨rfl, rfl, rfl, by decide +kernel, rfl, by decide +kernel, by decide +kernel⟩
theorem scTrainsRead : FnScope ["text", "part"] ["text"] (defScope sTrainsRead) := ⟨rfl, rfl, rfl, by decide +kernel, rfl, by decide +kernel, by decide +kernel⟩
theorem scIsNameList : FnScope ["value", "name"] ["value"] (defScope sIsNameList) := ⟨rfl, rfl, rfl, by decide +kernel, rfl, by decide +kernel, by decide +kernel⟩
theorem scEndsOf : FnScope ["wagons", "name", "side"] ["wagons"] (defScope sEndsOf) := ⟨rfl, rfl, rfl, by decide +kernel, rfl, by decide +kernel, by decide +kernel⟩
theorem scIsEndPair : FnScope ["value"] ["value"] (defScope sIsEndPair) := ⟨rfl, rfl, rfl, by decide +kernel, rfl, by decide +kernel, by decide +kernel⟩
theorem scCanBeAdded : FnScope ["value", "wagons", "partners", "end"] ["value", "wagons", "partners"] (defScope sCanBeAdded) := ⟨rfl, rfl, rfl, by decide +kernel, rfl, by decide +kernel, by decide +kernel⟩
theorem scPartnersBy : FnScope ["couplings", "wagons", "partners", "coupling", "one", "other"] ["couplings", "wagons"] (defScope sPartnersBy) := ⟨rfl, rfl, rfl, by decide +kernel, rfl, by decide +kernel, by decide +kernel⟩
theorem scRowFrom : FnScope ["entry", "partners", "row", "end"] ["entry", "partners"] (defScope sRowFrom) := ⟨rfl, rfl, rfl, by decide +kernel, rfl, by decide +kernel, by decide +kernel⟩
theorem scTrainWith : FnScope ["name", "partners", "entry"] ["name", "partners"] (defScope sTrainWith) := ⟨rfl, rfl, rfl, by decide +kernel, rfl, by decide +kernel, by decide +kernel⟩
theorem scLayoutInit : FnScope ["self", "wagons", "couplings", "partners", "ends", "end"] ["self", "wagons", "couplings"] (defScope sLayoutInit) := ⟨rfl, rfl, rfl, by decide +kernel, rfl, by decide +kernel, by decide +kernel⟩
theorem scLayoutOf : FnScope ["cls", "trains", "wagons", "couplings", "train", "name"] ["cls", "trains"] (defScope sLayoutOf) := ⟨rfl, rfl, rfl, by decide +kernel, rfl, by decide +kernel, by decide +kernel⟩
theorem scLayoutRead : FnScope ["cls", "text", "parts"] ["cls", "text"] (defScope sLayoutRead) := ⟨rfl, rfl, rfl, by decide +kernel, rfl, by decide +kernel, by decide +kernel⟩
theorem scLayoutWagons : FnScope ["self"] ["self"] (defScope sLayoutWagons) := ⟨rfl, rfl, rfl, by decide +kernel, rfl, by decide +kernel, by decide +kernel⟩
theorem scLayoutCouplings : FnScope ["self"] ["self"] (defScope sLayoutCouplings) := ⟨rfl, rfl, rfl, by decide +kernel, rfl, by decide +kernel, by decide +kernel⟩
theorem scLayoutFree : FnScope ["self"] ["self"] (defScope sLayoutFree) := ⟨rfl, rfl, rfl, by decide +kernel, rfl, by decide +kernel, by decide +kernel⟩
theorem scLayoutText : FnScope ["self", "train"] ["self"] (defScope sLayoutText) := ⟨rfl, rfl, rfl, by decide +kernel, rfl, by decide +kernel, by decide +kernel⟩
theorem scLayoutLen : FnScope ["self"] ["self"] (defScope sLayoutLen) := ⟨rfl, rfl, rfl, by decide +kernel, rfl, by decide +kernel, by decide +kernel⟩
theorem scLayoutEq : FnScope ["self", "other"] ["self", "other"] (defScope sLayoutEq) := ⟨rfl, rfl, rfl, by decide +kernel, rfl, by decide +kernel, by decide +kernel⟩
theorem scLayoutGetitem : FnScope ["self", "end"] ["self", "end"] (defScope sLayoutGetitem) := ⟨rfl, rfl, rfl, by decide +kernel, rfl, by decide +kernel, by decide +kernel⟩
theorem scLayoutCon : FnScope ["self", "coupling"] ["self", "coupling"] (defScope sLayoutCon) := ⟨rfl, rfl, rfl, by decide +kernel, rfl, by decide +kernel, by decide +kernel⟩
theorem scLayoutIter : FnScope ["self"] ["self"] (defScope sLayoutIter) := ⟨rfl, rfl, rfl, by decide +kernel, rfl, by decide +kernel, by decide +kernel⟩
theorem scCheckLayout : FnScope ["value"] ["value"] (defScope sCheckLayout) := ⟨rfl, rfl, rfl, by decide +kernel, rfl, by decide +kernel, by decide +kernel⟩
theorem scCheckSameWagons : FnScope ["layouts", "layout"] ["layouts"] (defScope sCheckSameWagons) := ⟨rfl, rfl, rfl, by decide +kernel, rfl, by decide +kernel, by decide +kernel⟩
theorem scDifference : FnScope ["one", "other", "coupling"] ["one", "other"] (defScope sDifference) := ⟨rfl, rfl, rfl, by decide +kernel, rfl, by decide +kernel, by decide +kernel⟩
theorem scCheckWagons : FnScope ["layout", "names", "name"] ["layout", "names"] (defScope sCheckWagons) := ⟨rfl, rfl, rfl, by decide +kernel, rfl, by decide +kernel, by decide +kernel⟩
theorem scRelinked : FnScope ["layout", "ends", "couplings", "partners", "pair", "coupling", "end"] ["layout", "ends"] (defScope sRelinked) := ⟨rfl, rfl, rfl, by decide +kernel, rfl, by decide +kernel, by decide +kernel⟩
theorem scStepInit : FnScope ["self", "ends", "end"] ["self", "ends"] (defScope sStepInit) := ⟨rfl, rfl, rfl, by decide +kernel, rfl, by decide +kernel, by decide +kernel⟩
theorem scStepEnds : FnScope ["self"] ["self"] (defScope sStepEnds) := ⟨rfl, rfl, rfl, by decide +kernel, rfl, by decide +kernel, by decide +kernel⟩
theorem scStepCall : FnScope ["self", "layout"] ["self", "layout"] (defScope sStepCall) := ⟨rfl, rfl, rfl, by decide +kernel, rfl, by decide +kernel, by decide +kernel⟩
theorem scStepEq : FnScope ["self", "other"] ["self", "other"] (defScope sStepEq) := ⟨rfl, rfl, rfl, by decide +kernel, rfl, by decide +kernel, by decide +kernel⟩
theorem scCoupleEnds : FnScope ["self"] ["self"] (defScope sCoupleEnds) := ⟨rfl, rfl, rfl, by decide +kernel, rfl, by decide +kernel, by decide +kernel⟩
theorem scCoupleCall : FnScope ["self", "layout", "one", "other"] ["self", "layout"] (defScope sCoupleCall) := ⟨rfl, rfl, rfl, by decide +kernel, rfl, by decide +kernel, by decide +kernel⟩
theorem scCoupleEq : FnScope ["self", "other"] ["self", "other"] (defScope sCoupleEq) := ⟨rfl, rfl, rfl, by decide +kernel, rfl, by decide +kernel, by decide +kernel⟩
theorem scCutEnds : FnScope ["self"] ["self"] (defScope sCutEnds) := ⟨rfl, rfl, rfl, by decide +kernel, rfl, by decide +kernel, by decide +kernel⟩
theorem scCutCall : FnScope ["self", "layout", "end"] ["self", "layout"] (defScope sCutCall) := ⟨rfl, rfl, rfl, by decide +kernel, rfl, by decide +kernel, by decide +kernel⟩
theorem scCutEq : FnScope ["self", "other"] ["self", "other"] (defScope sCutEq) := ⟨rfl, rfl, rfl, by decide +kernel, rfl, by decide +kernel, by decide +kernel⟩
theorem scStepTowards : FnScope ["one", "other", "made", "end", "partner"] ["one", "other"] (defScope sStepTowards) := ⟨rfl, rfl, rfl, by decide +kernel, rfl, by decide +kernel, by decide +kernel⟩
theorem scAreNeighbours : FnScope ["one", "other", "step"] ["one", "other"] (defScope sAreNeighbours) := ⟨rfl, rfl, rfl, by decide +kernel, rfl, by decide +kernel, by decide +kernel⟩
theorem scPen : FnScope ["script"] ["script"] (defScope sPen) := ⟨rfl, rfl, rfl, by decide +kernel, rfl, by decide +kernel, by decide +kernel⟩
theorem scDraw : FnScope ["pen", "count", "digit", "index", "cell", "mixed"] ["pen", "count"] (defScope sDraw) := ⟨rfl, rfl, rfl, by decide +kernel, rfl, by decide +kernel, by decide +kernel⟩
theorem scPick : FnScope ["pen", "options"] ["pen", "options"] (defScope sPick) := ⟨rfl, rfl, rfl, by decide +kernel, rfl, by decide +kernel, by decide +kernel⟩
theorem scShuf : FnScope ["pen", "items", "left", "found"] ["pen", "items"] (defScope sShuf) := ⟨rfl, rfl, rfl, by decide +kernel, rfl, by decide +kernel, by decide +kernel⟩
theorem scLNames : FnScope ["pen", "many", "letters", "base", "first", "stride", "found", "k"] ["pen", "many"] (defScope sLNames) := ⟨rfl, rfl, rfl, by decide +kernel, rfl, by decide +kernel, by decide +kernel⟩
theorem scLEnds : FnScope ["names", "found", "name"] ["names"] (defScope sLEnds) := ⟨rfl, rfl, rfl, by decide +kernel, rfl, by decide +kernel, by decide +kernel⟩
theorem scLPairs : FnScope ["pen", "names", "left", "found", "share", "one"] ["pen", "names"] (defScope sLPairs) := ⟨rfl, rfl, rfl, by decide +kernel, rfl, by decide +kernel, by decide +kernel⟩
theorem scLPartner : FnScope ["pairs", "end", "one", "other"] ["pairs", "end"] (defScope sLPartner) := ⟨rfl, rfl, rfl, by decide +kernel, rfl, by decide +kernel, by decide +kernel⟩
theorem scLPair : FnScope ["one", "other"] ["one", "other"] (defScope sLPair) := ⟨rfl, rfl, rfl, by decide +kernel, rfl, by decide +kernel, by decide +kernel⟩
theorem scLCoupled : FnScope ["pairs", "one", "other", "left", "right", "found", "pair"] ["pairs", "one", "other"] (defScope sLCoupled) := ⟨rfl, rfl, rfl, by decide +kernel, rfl, by decide +kernel, by decide +kernel⟩
theorem scLCut : FnScope ["pairs", "end", "pair"] ["pairs", "end"] (defScope sLCut) := ⟨rfl, rfl, rfl, by decide +kernel, rfl, by decide +kernel, by decide +kernel⟩
theorem scLAnyValue : FnScope ["pen", "some"] ["pen"] (defScope sLAnyValue) := ⟨rfl, rfl, rfl, by decide +kernel, rfl, by decide +kernel, by decide +kernel⟩
theorem scLTold : FnScope ["call", "e"] ["call"] (defScope sLTold) := ⟨rfl, rfl, rfl, by decide +kernel, rfl, by decide +kernel, by decide +kernel⟩
theorem scLMoved : FnScope ["pen", "names", "pairs", "one", "other"] ["pen", "names", "pairs"] (defScope sLMoved) := ⟨rfl, rfl, rfl, by decide +kernel, rfl, by decide +kernel, by decide +kernel⟩
theorem scLIsNear : FnScope ["pairs", "others", "fresh", "pair"] ["pairs", "others"] (defScope sLIsNear) := ⟨rfl, rfl, rfl, by decide +kernel, rfl, by decide +kernel, by decide +kernel⟩
theorem scLaw : FnScope ["script", "pen", "turn", "names", "pairs", "others", "k", "other", "due", "one", "strange", "value"] ["script"] (defScope sLaw) := ⟨rfl, rfl, rfl, by decide +kernel, rfl, by decide +kernel, by decide +kernel⟩
end My
set_option Elab.async false
set_option linter.all false
set_option maxRecDepth 100000
set_option maxHeartbeats 4000000
/-! a head whose top is run by the kernel but for one statement, which goes by its promise (wpAny): the bridge between both -/
noncomputable section
namespace Hm
open PySem PySem.W PySem.Calls PyProof.Rows HandSHeadRun
section
variable {α β : Type}
theorem wp_wrapped (M : Model) (Γ : Ctx) (x : Sem α) (K : α → Sem β) (Hn : Value → Sem β) (gd : Bool → Bool) (lv : List Value → List Value) (Q : β → Pos → Shared → Prop) (E : Value → Pos → Shared → Prop) (p : Pos) (s : Shared) :
    Sem.wp M Γ (x.wrap K Hn gd lv) Q E p s = Sem.wp M Γ x (fun a p' s' => Sem.wp M Γ (K a) Q E p' s') (fun e p' s' => Sem.wp M Γ (Hn e) Q E p' s') p s := by
  induction x generalizing p s <;> simp only [Sem.wrap, Sem.wp, *]
end
/-- no generator goes or waits -/
def noGen : Sem Fin → Bool
  | .resume .. => false
  | .yield .. => false
  | _ => true
theorem stepK_base {den : Code → Sem Fin} {p : Program} {w : World} {s s1 : Shared} {cur : Sem Fin} {code : Code} {pos : Pos} {pre : List Frame} {B : Frame} {t1 : Thread} (ng : noGen cur = true)
    (h : stepK den p w s ⟨cur, code, pos, pre ++ [B]⟩ = .go s1 t1) (ne : t1.stack ≠ []) : ∃ pre1, t1.stack = pre1 ++ [B] := by
  obtain ⟨heap, gens, drawn, toks, os⟩ := s
  cases cur with
  | pure f =>
    cases f with
    | done f =>
      cases pre with
      | nil => cases B <;> (simp only [stepK, step, List.nil_append, Step.go.injEq] at h; obtain ⟨_, rfl⟩ := h; exact absurd rfl ne)
      | cons F r => cases F <;> (simp only [stepK, step, List.cons_append, Step.go.injEq] at h; obtain ⟨_, rfl⟩ := h; exact ⟨r, rfl⟩)
    | again c => simp only [stepK, Step.go.injEq] at h; obtain ⟨_, rfl⟩ := h; exact ⟨pre, rfl⟩
  | raise e =>
    cases pre with
    | nil => cases B <;> (simp only [stepK, step, List.nil_append, Step.go.injEq] at h; obtain ⟨_, rfl⟩ := h; exact absurd rfl ne)
    | cons F r => cases F <;> (simp only [stepK, step, List.cons_append, Step.go.injEq] at h; obtain ⟨_, rfl⟩ := h; exact ⟨r, rfl⟩)
  | call c hh g l k => simp only [stepK, Step.go.injEq] at h; obtain ⟨_, rfl⟩ := h; exact ⟨_ :: pre, rfl⟩
  | resume | «yield» => cases ng
  | unsupported | register | fork | await => simp only [stepK, step] at h; cases h
  | finish e => simp only [stepK, step] at h; split at h <;> cases h
  | rule | «at» | alloc | loadIfAlive | point | fresh | ask | newGen | thread | os | stack | handled => simp only [stepK, step, Step.go.injEq] at h; obtain ⟨_, rfl⟩ := h; exact ⟨pre, rfl⟩
  | load a q k =>
    cases e : heap.get? a with
    | none => simp only [stepK, step, e] at h; cases h
    | some o => simp only [stepK, step, e, Step.go.injEq] at h; obtain ⟨_, rfl⟩ := h; exact ⟨pre, rfl⟩
  | update a q f k =>
    cases e : (heap.get? a).isSome with
    | false => simp only [stepK, step, e, Bool.false_eq_true, if_false] at h; cases h
    | true => simp only [stepK, step, e, if_true, Step.go.injEq] at h; obtain ⟨_, rfl⟩ := h; exact ⟨pre, rfl⟩
  | choose src n k =>
    by_cases e : n = 0
    · simp only [stepK, step, e, if_true] at h; cases h
    · simp only [stepK, step, e, if_false, Step.go.injEq] at h; obtain ⟨_, rfl⟩ := h; exact ⟨pre, rfl⟩
  | genState g k =>
    cases e : gens[g]? with
    | none => simp only [stepK, step, e] at h; cases h
    | some st => simp only [stepK, step, e, Step.go.injEq] at h; obtain ⟨_, rfl⟩ := h; exact ⟨pre, rfl⟩
/-- one step of the kernel's run is one of the logic's -/
theorem step_one {p : Program} {w : World} {s s' : SharedT} {t t' : Thread} (h : stepT (denote treeTable) p w s t = some (s', t')) (calm : t.calm = true) {sK : Shared} {tK : Thread} (es : sK.forget = s.abs.forget) (et : tK.forget = t.forget) :
    ∃ sK' tK', (model p w).step sK tK = .go sK' tK' ∧ stepK (denote table) p w sK tK = .go sK' tK' ∧ sK'.forget = s'.abs.forget ∧ tK'.forget = t'.forget := by
  have hs := stepT_spec h
  have c2 : tK.calm = true := by rw [← Thread.calm_forget, et, Thread.calm_forget]; exact calm
  have lo : tK.loud = false := by
    rw [Thread.calm_eq] at c2
    cases e : tK.loud with
    | false => rfl
    | true => rw [e] at c2; cases c2
  have e1 : (stepK (denote table) p w sK tK).forget = (Step.go s'.abs t').forget := by
    rw [stepK_forget, step_same _ _ _ es et, table_eq_tree, hs]
  cases e2 : stepK (denote table) p w sK tK with
  | halt o s2 => rw [e2] at e1; cases e1
  | go s2 t2 =>
    rw [e2] at e1
    have e3 : s2.forget = s'.abs.forget ∧ t2.forget = t'.forget := by
      simp only [Step.forget] at e1
      injection e1 with a b
      exact ⟨a, b⟩
    exact ⟨s2, t2, ((model p w).step_quiet lo).trans e2, rfl, e3.1, e3.2⟩
theorem cur_of {t t' : Thread} (h : t.forget = t'.forget) : t.cur = t'.cur ∧ t.code = t'.code ∧ t.pos = t'.pos ∧ forgetAll t.stack = forgetAll t'.stack := by
  obtain ⟨a, b, c, d⟩ := t
  obtain ⟨a', b', c', d'⟩ := t'
  simp only [Thread.forget, Thread.mk.injEq] at h
  exact h
theorem forget_len {a b : List Frame} (h : forgetAll a = forgetAll b) : a.length = b.length := by
  have := congrArg List.length h
  unfold forgetAll at this
  rw [List.length_map, List.length_map] at this
  exact this
/-- what a step asks besides -/
def okQ (t : Thread) : Bool := t.calm && noGen t.cur
/-- a block, to its end; nothing returns from under it -/
def segF (st : SharedT → Thread → Option (SharedT × Thread)) : Nat → SharedT → Thread → Option (Flow × SharedT)
  | 0, _, _ => none
  | m + 1, s, t => match endAt 1 t with
    | some f => some (f, s)
    | none => match okQ t with
      | false => none
      | true => match st s t with
        | some (s', t') => (match t'.stack with
          | [] => none
          | _ :: _ => frS s' fun s' => segF st m s' t')
        | none => none
theorem seg_reach {p : Program} {w : World} {B : Frame} : ∀ (m : Nat) (s : SharedT) (t : Thread) (f : Flow) (s' : SharedT), segF (stepT (denote treeTable) p w) m s t = some (f, s') →
    ∀ (sK : Shared) (pre : List Frame), sK.forget = s.abs.forget → forgetAll (pre ++ [B]) = forgetAll t.stack → ∃ sK', sK'.forget = s'.abs.forget ∧ Reach (model p w) [B] sK t.cur t.code t.pos pre sK' (.ret (.ok f))
  | 0, _, _, _, _, h, _, _, _, _ => by cases h
  | m + 1, s, t, f, s', h, sK, pre, es, et => by
    have h1 : (match endAt 1 t with
      | some f => some (f, s)
      | none => match okQ t with
        | false => none
        | true => match stepT (denote treeTable) p w s t with
          | some (s', t') => (match t'.stack with
            | [] => none
            | _ :: _ => frS s' fun s' => segF (stepT (denote treeTable) p w) m s' t')
          | none => none) = some (f, s') := h
    cases he : endAt 1 t with
    | some g =>
      rw [he] at h1
      obtain ⟨rfl, rfl⟩ : g = f ∧ s = s' := by
        have := Option.some.inj h1
        injection this with a b
        exact ⟨a, b⟩
      obtain ⟨cur, code, pos, st⟩ := t
      have hl : st.length = 1 ∧ cur = .pure (.done g) := by
        unfold endAt at he
        cases e1 : (st.length == 1) with
        | false =>
          simp only [e1] at he
          cases he
        | true =>
          simp only [e1] at he
          cases cur with
          | pure fin =>
            cases fin with
            | done f2 =>
              simp only [Option.some.injEq] at he
              rw [he]
              exact ⟨beq_iff_eq.mp e1, rfl⟩
            | again c => cases he
          | _ => cases he
      have lp := forget_len et
      rw [List.length_append, hl.1] at lp
      have pn : pre = [] := List.length_eq_zero_iff.mp (by simpa using lp)
      subst pn
      refine ⟨sK, es, ?_⟩
      show Reach _ _ _ cur _ _ _ _ _
      rw [hl.2]
      exact .exit ⟨rfl, rfl⟩
    | none =>
      rw [he] at h1
      cases hk : okQ t with
      | false => rw [hk] at h1; cases h1
      | true =>
        rw [hk] at h1
        obtain ⟨cm, ng⟩ := Bool.and_eq_true_iff.mp (show (t.calm && noGen t.cur) = true from hk)
        cases hs : stepT (denote treeTable) p w s t with
        | none => rw [hs] at h1; cases h1
        | some r =>
          obtain ⟨s2, t2⟩ := r
          rw [hs] at h1
          have h2 : (match t2.stack with
            | [] => none
            | _ :: _ => frS s2 fun s' => segF (stepT (denote treeTable) p w) m s' t2) = some (f, s') := h1
          cases hst : t2.stack with
          | nil => rw [hst] at h2; cases h2
          | cons F r =>
            rw [hst] at h2
            have h3 : (frS s2 fun s' => segF (stepT (denote treeTable) p w) m s' t2) = some (f, s') := h2
            rw [frS_eq] at h3
            obtain ⟨sK2, tK2, k1, k2, k3, k4⟩ := step_one hs cm (sK := sK) (tK := ⟨t.cur, t.code, t.pos, pre ++ [B]⟩) es (by
              obtain ⟨cur, code, pos, st⟩ := t
              simp only [Thread.forget, et])
            obtain ⟨c1, c2, c3, c4⟩ := cur_of k4
            obtain ⟨pre1, hp⟩ := stepK_base ng k2 fun z => by
              rw [z, hst] at c4
              cases c4
            obtain ⟨sK', q1, q2⟩ := seg_reach m s2 t2 f s' h3 sK2 pre1 k3 (by rw [← hp]; exact c4)
            refine ⟨sK', q1, .step (s₁ := sK2) (t₁ := t2.cur) (c₁ := t2.code) (p₁ := t2.pos) (pre₁ := pre1) ?_ q2⟩
            rw [k1, ← c1, ← c2, ← c3, ← hp]
/-- a block that the kernel runs, in the logic -/
theorem seg_wp {p : Program} {w : World} {B : Frame} {α : Type} {x : Sem α} {res : α → Flow} {c : Code} {pos : Pos} {m : Nat} {s s' : SharedT} {f : Flow} (h : segF (stepT (denote treeTable) p w) m s ⟨x.wrap (fun a => .pure (.done (res a))) deadEnd id id, c, pos, [B]⟩ = some (f, s')) (hg : s'.gens = #[])
    {Q : α → Pos → Shared → Prop} {E : Value → Pos → Shared → Prop} (q : ∀ a p', res a = f → Q a p' s'.abs) : Sem.wp (model p w) (Ctx.of c [B]) x Q E pos s.abs := by
  obtain ⟨sK, e1, e2⟩ := seg_reach (B := B) m s _ f s' h s.abs [] rfl rfl
  have eK : sK = s'.abs := Shared.eq_of_forget_eq e1 hg
  subst eK
  have z : Sem.wp (model p w) (Ctx.of c [B]) (x.wrap (fun a => (.pure (.done (res a)) : Sem Fin)) deadEnd id id) (Sem.finPost (model p w) (Ctx.of c [B]) fun r s2 => r = .ok f ∧ s2 = s'.abs) (fun e _ s2 => (Except.error e : Result) = .ok f ∧ s2 = s'.abs) pos s.abs :=
    (wp_iff_reach (R := fun r s2 => r = .ok f ∧ s2 = s'.abs) _ _ _).mpr ⟨_, _, e2, rfl, rfl⟩
  rw [wp_wrapped] at z
  refine Sem.wp_mono _ _ _ (fun a p' s2 y => ?_) (fun e p' s2 y => ?_) _ _ z
  · simp only [Sem.wp] at y
    obtain ⟨y1, rfl⟩ : Except.ok (res a) = Except.ok f ∧ s2 = s'.abs := y
    injection y1 with y1
    exact q a p' y1
  · simp only [deadEnd, Sem.wp] at y
/-- so many steps -/
def stepsF (st : SharedT → Thread → Option (SharedT × Thread)) : Nat → SharedT → Thread → Option (SharedT × Thread)
  | 0, s, t => some (s, t)
  | m + 1, s, t => match t.calm with
    | false => none
    | true => match st s t with
      | some (s', t') => frS s' fun s' => stepsF st m s' t'
      | none => none
theorem steps_run {p : Program} {w : World} : ∀ (m : Nat) (s : SharedT) (t : Thread) (s' : SharedT) (t' : Thread), stepsF (stepT (denote treeTable) p w) m s t = some (s', t') →
    ∀ (sK : Shared) (tK : Thread), sK.forget = s.abs.forget → tK.forget = t.forget → ∃ sK' tK', (model p w).runN m sK tK = .running sK' tK' ∧ sK'.forget = s'.abs.forget ∧ tK'.forget = t'.forget
  | 0, s, t, s', t', h, sK, tK, es, et => by
    obtain ⟨rfl, rfl⟩ : s = s' ∧ t = t' := by
      have := Option.some.inj h
      injection this with a b
      exact ⟨a, b⟩
    exact ⟨sK, tK, rfl, es, et⟩
  | m + 1, s, t, s', t', h, sK, tK, es, et => by
    have h1 : (match t.calm with
      | false => none
      | true => match stepT (denote treeTable) p w s t with
        | some (s', t') => frS s' fun s' => stepsF (stepT (denote treeTable) p w) m s' t'
        | none => none) = some (s', t') := h
    cases hk : t.calm with
    | false => rw [hk] at h1; cases h1
    | true =>
      rw [hk] at h1
      cases hs : stepT (denote treeTable) p w s t with
      | none => rw [hs] at h1; cases h1
      | some r =>
        obtain ⟨s2, t2⟩ := r
        rw [hs] at h1
        have h3 : (frS s2 fun s' => stepsF (stepT (denote treeTable) p w) m s' t2) = some (s', t') := h1
        rw [frS_eq] at h3
        obtain ⟨sK2, tK2, k1, k2, k3, k4⟩ := step_one hs hk es et
        obtain ⟨sK', tK', q1, q2, q3⟩ := steps_run m s2 t2 s' t' h3 sK2 tK2 k3 k4
        refine ⟨sK', tK', ?_, q2, q3⟩
        rw [runN_succ, k1]
        exact q1
/-- a run of the logic's machine is one of the scheduler's -/
theorem run_sched {p : Program} {w : World} : ∀ (n : Nat) (s : Shared) (t : Thread) (s1 : Shared) (t1 : Thread), (model p w).runN n s t = .running s1 t1 → ∀ (sR : Shared) (tR : Thread), sR.forget = s.forget → tR.forget = t.forget → sR.asleep →
    ∃ sR1 tR1, schedN (denote table) p w n (.single sR tR) = .running (.single sR1 tR1) ∧ sR1.forget = s1.forget ∧ tR1.forget = t1.forget ∧ sR1.heap.life = sR.heap.life
  | 0, s, t, s1, t1, h, sR, tR, es, et, _ => by
    have h' : Run.running s t = .running s1 t1 := h
    injection h' with a b
    subst a b
    exact ⟨sR, tR, rfl, es, et, rfl⟩
  | n + 1, s, t, s1, t1, h, sR, tR, es, et, hr => by
    rw [runN_succ] at h
    cases hs : (model p w).step s t with
    | halt o s2 => rw [hs] at h; cases h
    | go s2 t2 =>
      rw [hs] at h
      have h2 : (model p w).runN n s2 t2 = .running s1 t1 := h
      have lo : t.loud = false := by
        cases e : t.loud with
        | false => rfl
        | true => rw [(model p w).step_loud e] at hs; cases hs
      have hk : stepK (denote table) p w s t = .go s2 t2 := ((model p w).step_quiet lo).symm.trans hs
      have rf : t.refused = false := by
        cases e : t.refused with
        | false => rfl
        | true =>
          obtain ⟨wh, z⟩ := stepK_refused (denote table) p w (s := s) e
          rw [z] at hk
          cases hk
      have cm : tR.calm = true := by rw [← Thread.calm_forget, et, Thread.calm_forget, Thread.calm_eq, lo, rf]; rfl
      have e1 : (step (denote table) p w sR tR).forget = (Step.go s2 t2).forget := by
        rw [step_same _ _ _ es et, ← stepK_forget, hk]
      cases e2 : step (denote table) p w sR tR with
      | halt o s3 => rw [e2] at e1; cases e1
      | go s3 t3 =>
        rw [e2] at e1
        have e3 : s3.forget = s2.forget ∧ t3.forget = t2.forget := by
          simp only [Step.forget] at e1
          injection e1 with a b
          exact ⟨a, b⟩
        have es : sstep (denote table) p w (.single sR tR) = .go (.single s3 t3) := by
          rcases sstep_single (denote table) p w sR tR cm hr with e | e
          · rw [e, e2]; rfl
          · rw [e2] at e; cases e
        have hl := step_life (denote table) p w sR s3 tR t3 e2
        obtain ⟨sR1, tR1, q1, q2, q3, q4⟩ := run_sched n s2 t2 s1 t1 h2 s3 t3 e3.1 e3.2 (Shared.asleep_of_life hl hr)
        refine ⟨sR1, tR1, ?_, q2, q3, q4.trans hl⟩
        show (match sstep (denote table) p w (.single sR tR) with
          | .go c' => schedN (denote table) p w n c'
          | .halt o s => .halted o s) = _
        rw [es]
        exact q1
theorem runN_add {M : Model} : ∀ (a b : Nat) (s : Shared) (t : Thread) (s1 : Shared) (t1 : Thread), M.runN a s t = .running s1 t1 → M.runN (a + b) s t = M.runN b s1 t1
  | 0, b, s, t, s1, t1, h => by
    have h' : Run.running s t = .running s1 t1 := h
    injection h' with e1 e2
    subst e1 e2
    rw [Nat.zero_add]
  | a + 1, b, s, t, s1, t1, h => by
    rw [runN_succ] at h
    rw [show a + 1 + b = a + b + 1 by omega, runN_succ]
    cases hs : M.step s t with
    | halt o s2 => rw [hs] at h; cases h
    | go s2 t2 =>
      rw [hs] at h
      exact runN_add a b s2 t2 s1 t1 h
end Hm
set_option Elab.async false
set_option linter.all false
set_option maxRecDepth 100000
set_option maxHeartbeats 4000000
/-! the whole top: run by the kernel but for one statement -/
noncomputable section
namespace Hm
open PySem PySem.W PySem.Calls PyProof.Rows HandSHeadRun
/-- the top, cut at a statement: what it does to the state is told by mid where chk holds -/
structure Cut where
  env : Env
  q : Pos
  pos0 : Pos
  k0 : Nat
  m : Nat
  l1 : List Stmt
  st : Stmt
  l2 : List Stmt
  chk : World → SharedT → Bool
  mid : World → SharedT → SharedT
def segN (st : SharedT → Thread → Option (SharedT × Thread)) (m : Nat) (s : SharedT) (t : Thread) : Option SharedT := match segF st m s t with
  | some (.next, s') => (match s'.gens.isEmpty with
    | true => some s'
    | false => none)
  | _ => none
theorem segN_of {st : SharedT → Thread → Option (SharedT × Thread)} {m : Nat} {s s' : SharedT} {t : Thread} (h : segN st m s t = some s') : segF st m s t = some (.next, s') ∧ s'.gens = #[] := by
  unfold segN at h
  cases e : segF st m s t with
  | none => rw [e] at h; cases h
  | some r =>
    obtain ⟨f, s2⟩ := r
    rw [e] at h
    cases f with
    | next =>
      cases g : s2.gens.isEmpty with
      | false => simp only [g] at h; cases h
      | true =>
        simp only [g] at h
        obtain rfl := Option.some.inj h
        exact ⟨rfl, Array.isEmpty_iff.mp g⟩
    | _ => cases h
abbrev Cut.body (C : Cut) : List Stmt := C.l1 ++ C.st :: C.l2
abbrev Cut.code (C : Cut) : Code := .body C.body C.env
section
variable (stp : SharedT → Thread → Option (SharedT × Thread)) (p : Program) (C : Cut) (w : World)
def run3 (pos2 : Pos) (s1 : SharedT) : Option SharedT := match C.chk w s1 with
  | true => segN stp C.m (C.mid w s1) (piecesOf C.l2 C.env C.code pos2 [topFrame C.q])
  | false => none
def run2 (pos1 pos2 : Pos) (sb : SharedT) : Option SharedT := (segN stp C.m sb (piecesOf C.l1 C.env C.code pos1 [topFrame C.q])).bind (run3 stp C w pos2)
def run1 (pos1 pos2 : Pos) (sa : SharedT) : Option SharedT := (segN stp C.m sa (blockOf C.body C.env C.code C.pos0 [topFrame C.q])).bind (run2 stp C w pos1 pos2)
def run0 (os : OsState) (pos1 pos2 : Pos) : Option SharedT := (putAll (boot_heap w.params).objs.toList .nil 0).bind fun r => (stepsF stp C.k0 (bootT w os r) (topStub p)).bind fun x => run1 stp C w pos1 pos2 x.1
/-- the thread behind the first steps -/
def thr0 (os : OsState) : Option (Thread × Bool) := (putAll (boot_heap w.params).objs.toList .nil 0).bind fun r => (stepsF stp C.k0 (bootT w os r) (topStub p)).map fun x => (x.2, x.1.gens.isEmpty)
end
theorem boot_abs {w : World} {os : OsState} {r : PySem.W.BT × Nat} (e : putAll (boot_heap w.params).objs.toList .nil 0 = some r) : (bootT w os r).abs = ⟨boot_heap w.params, #[], boot_drawn, boot_toks, os⟩ := by
  obtain ⟨t, n⟩ := r
  show (⟨absHeap t n (boot_heap w.params).life, #[], boot_drawn, boot_toks, os⟩ : Shared) = _
  rw [putAll_heap e]
theorem sched_add {den : Code → Sem Fin} {p : Program} {w : World} : ∀ (a b : Nat) (c c' : Config), schedN den p w a c = .running c' → schedN den p w (a + b) c = schedN den p w b c'
  | 0, b, c, c', h => by
    have h' : SRun.running c = .running c' := h
    injection h' with e
    rw [e, Nat.zero_add]
  | a + 1, b, c, c', h => by
    have h1 : (match sstep den p w c with
      | .go c2 => schedN den p w a c2
      | .halt o s => .halted o s) = .running c' := h
    rw [show a + 1 + b = a + b + 1 by omega]
    show (match sstep den p w c with
      | .go c2 => schedN den p w (a + b) c2
      | .halt o s => .halted o s) = _
    cases e : sstep den p w c with
    | halt o s => rw [e] at h1; cases h1
    | go c2 =>
      rw [e] at h1
      exact sched_add a b c2 c' h1
section
variable {p : Program} {C : Cut} {w : World} {os : OsState} {γ : Type} {fin : SharedT → γ} {v : γ}
/-- the body keeps its promise -/
theorem body_wp {sa : SharedT} (run : ∀ pos1 pos2, (run1 (stepT (denote treeTable) p w) C w pos1 pos2 sa).map fin = some v)
    (mid : ∀ s1 : SharedT, C.chk w s1 = true → s1.gens = #[] → ∀ pos, Sem.wp (model p w) (Ctx.of C.code [topFrame C.q]) (exec C.st C.env) (fun f _ s' => f = .next ∧ s' = (C.mid w s1).abs) (fun _ _ _ => False) pos s1.abs) :
    Sem.wp (model p w) (Ctx.of C.code [topFrame C.q]) (denote table C.code) (Sem.finPost (model p w) (Ctx.of C.code [topFrame C.q]) fun r s' => r = .ok .next ∧ ∃ s3 : SharedT, s' = s3.abs ∧ s3.gens = #[] ∧ fin s3 = v)
      (fun e _ s' => (Except.error e : Result) = .ok .next ∧ ∃ s3 : SharedT, s' = s3.abs ∧ s3.gens = #[] ∧ fin s3 = v) C.pos0 sa.abs := by
  rw [body_wrap, wp_wrapped]
  obtain ⟨sb, hb⟩ : ∃ sb, segN (stepT (denote treeTable) p w) C.m sa (blockOf C.body C.env C.code C.pos0 [topFrame C.q]) = some sb := by
    have z := run default default
    unfold run1 at z
    cases e : segN (stepT (denote treeTable) p w) C.m sa (blockOf C.body C.env C.code C.pos0 [topFrame C.q]) with
    | none => rw [e] at z; cases z
    | some sb => exact ⟨sb, rfl⟩
  have run : ∀ pos1 pos2, (run2 (stepT (denote treeTable) p w) C w pos1 pos2 sb).map fin = some v := fun p1 p2 => by
    have z := run p1 p2
    unfold run1 at z
    rw [hb] at z
    exact z
  obtain ⟨hb1, hb2⟩ := segN_of hb
  refine seg_wp (res := fun _ : Unit => Flow.next) hb1 hb2 fun _ p1 _ => ?_
  obtain ⟨s1, hs1⟩ : ∃ s1, segN (stepT (denote treeTable) p w) C.m sb (piecesOf C.l1 C.env C.code p1 [topFrame C.q]) = some s1 := by
    have z := run p1 default
    unfold run2 at z
    cases e : segN (stepT (denote treeTable) p w) C.m sb (piecesOf C.l1 C.env C.code p1 [topFrame C.q]) with
    | none => rw [e] at z; cases z
    | some sb => exact ⟨sb, rfl⟩
  have run : ∀ pos2, (run3 (stepT (denote treeTable) p w) C w pos2 s1).map fin = some v := fun p2 => by
    have z := run p1 p2
    unfold run2 at z
    rw [hs1] at z
    exact z
  obtain ⟨h11, h12⟩ := segN_of hs1
  show Sem.wp _ _ ((execs (C.l1 ++ C.st :: C.l2) C.env).wrap doneF (leaveH C.env) id id) _ _ _ _
  rw [execs_app_wrap, wp_wrapped]
  refine seg_wp (res := fun f : Flow => f) h11 h12 fun f p2 hf => ?_
  subst hf
  show Sem.wp _ _ ((execs (C.st :: C.l2) C.env).wrap doneF (leaveH C.env) id id) _ _ _ _
  rw [execs_cons_wrap, wp_wrapped]
  have ck : C.chk w s1 = true := by
    have z := run default
    unfold run3 at z
    cases e : C.chk w s1 with
    | false => rw [e] at z; cases z
    | true => rfl
  refine Sem.wp_mono _ _ _ (fun f p3 s' y => ?_) (fun _ _ _ y => y.elim) _ _ (mid s1 ck h12 p2)
  obtain ⟨rfl, rfl⟩ := y
  have z := run p3
  unfold run3 at z
  rw [ck] at z
  obtain ⟨s3, z1, z2⟩ := Option.map_eq_some_iff.mp (show (segN (stepT (denote treeTable) p w) C.m (C.mid w s1) (piecesOf C.l2 C.env C.code p3 [topFrame C.q])).map fin = some v from z)
  obtain ⟨h31, h32⟩ := segN_of z1
  show Sem.wp _ _ ((execs C.l2 C.env).wrap doneF (leaveH C.env) id id) _ _ _ _
  rw [wp_wrapped]
  refine seg_wp (res := fun f : Flow => f) h31 h32 fun f p4 hf => ?_
  subst hf
  show Sem.wp _ _ (Sem.pure (Fin.done Flow.next)) _ _ _ _
  rw [Sem.wp_pure]
  exact ⟨rfl, s3, rfl, h32, z2⟩
theorem top_good (hp : behindTheImports p = C.body) (hT : thr0 (stepT (denote treeTable) p w) p C w os = some (⟨denote treeTable C.code, C.code, C.pos0, [topFrame C.q]⟩, true))
    (run : ∀ pos1 pos2, (run0 (stepT (denote treeTable) p w) p C w os pos1 pos2).map fin = some v)
    (mid : ∀ s1 : SharedT, C.chk w s1 = true → s1.gens = #[] → ∀ pos, Sem.wp (model p w) (Ctx.of C.code [topFrame C.q]) (exec C.st C.env) (fun f _ s' => f = .next ∧ s' = (C.mid w s1).abs) (fun _ _ _ => False) pos s1.abs)
    (hr : Shared.asleep ⟨boot_heap w.params, #[], boot_drawn, boot_toks, os⟩) :
    ∃ n t, ∃ s3 : SharedT, schedN (denote table) p w n (.single ⟨boot_heap w.params, #[], boot_drawn, boot_toks, os⟩ (topStub p)) = .running (.single s3.abs t) ∧ through t = true ∧ s3.gens = #[] ∧ fin s3 = v ∧ s3.abs.heap.life = (boot_heap w.params).life := by
  obtain ⟨r, hr0, hr1⟩ := Option.bind_eq_some_iff.mp hT
  obtain ⟨⟨sa, ta⟩, hs, hs2⟩ := Option.map_eq_some_iff.mp hr1
  obtain ⟨rfl, ga⟩ : ta = ⟨denote treeTable C.code, C.code, C.pos0, [topFrame C.q]⟩ ∧ sa.gens.isEmpty = true := by
    injection hs2 with a b
    exact ⟨a, b⟩
  have ga : sa.gens = #[] := Array.isEmpty_iff.mp ga
  have run : ∀ pos1 pos2, (run1 (stepT (denote treeTable) p w) C w pos1 pos2 sa).map fin = some v := fun p1 p2 => by
    have z := run p1 p2
    unfold run0 at z
    rw [hr0] at z
    have z2 : ((stepsF (stepT (denote treeTable) p w) C.k0 (bootT w os r) (topStub p)).bind fun x => run1 (stepT (denote treeTable) p w) C w p1 p2 x.1).map fin = some v := z
    rw [hs] at z2
    exact z2
  have B := body_wp run mid
  obtain ⟨n2, rr, s', c', p', hn, rfl, s3, rfl, g3, f3⟩ := wp_runN B
  -- the first steps
  obtain ⟨sK, tK, k1, k2, k3⟩ := steps_run _ _ _ _ _ hs (bootT w os r).abs (topStub p) rfl rfl
  rw [boot_abs hr0] at k1
  obtain ⟨sR1, tR1, q1, q2, q3, q4⟩ := run_sched _ _ _ _ _ k1 _ _ rfl rfl hr
  -- the body
  have hr1 : sR1.asleep := Shared.asleep_of_life q4 hr
  obtain ⟨sR2, tR2, w1, w2, w3, w4⟩ := run_sched _ _ _ _ _ hn sR1 tR1 (q2.trans k2) (by rw [q3, k3, table_eq_tree]) hr1
  have e2 : sR2 = s3.abs := Shared.eq_of_forget_eq w2 g3
  subst e2
  -- its end
  have hr2 : s3.abs.asleep := Shared.asleep_of_life w4 hr1
  have hl : (model p w).runN 1 s3.abs ⟨leafOf (.ok .next), c', p', [topFrame C.q]⟩ = .running s3.abs ⟨topAfter (.ok .next), .builtin "claim.caller" {}, C.q, []⟩ := by
    rw [runN_succ, step_leaf_ret]
    rfl
  obtain ⟨sR3, tR3, x1, x2, x3, x4⟩ := run_sched _ _ _ _ _ hl s3.abs tR2 rfl w3 hr2
  have e3 : sR3 = s3.abs := Shared.eq_of_forget_eq x2 g3
  subst e3
  refine ⟨C.k0 + (n2 + 1), tR3, s3, ?_, ?_, g3, f3, w4.trans q4⟩
  · rw [sched_add _ _ _ _ q1, sched_add _ _ _ _ w1, x1]
  · obtain ⟨c1, _, _, c4⟩ := cur_of x3
    have l0 := forget_len c4
    unfold through
    rw [c1, List.length_eq_zero_iff.mp (show tR3.stack.length = 0 from l0)]
    rfl
end
end Hm
set_option Elab.async false
set_option linter.all false
set_option maxRecDepth 100000
set_option maxHeartbeats 4000000
/-! a law over a top that is run by the kernel but for one statement -/
noncomputable section
namespace Hm
open PySem PySem.W PySem.Calls PyProof.Rows HandSHeadRun
/-- the boot's objects that the top leaves alone -/
def lows : List Addr := [0, 1, 4, 5, 7, 8, 9, 10]
theorem nat_low (b : Nat) (h : b < 11) (n2 : b ≠ 2) (n3 : b ≠ 3) (n6 : b ≠ 6) : b ∈ ([0, 1, 4, 5, 7, 8, 9, 10] : List Nat) := by
  have : b = 0 ∨ b = 1 ∨ b = 4 ∨ b = 5 ∨ b = 7 ∨ b = 8 ∨ b = 9 ∨ b = 10 := by omega
  rcases this with rfl | rfl | rfl | rfl | rfl | rfl | rfl | rfl <;> decide
theorem low_or (P : Params) {b : Addr} {o : Obj} (h : (boot_heap P).get? b = some o) (n : ¬ theTopsOwn (boot_heap P) b) : b ∈ lows := by
  have lt : b < 11 := Heap.lt_size h
  have c2 : cStatics = 2 := rfl
  have c3 : mainNs = 3 := rfl
  have c6 : globalOf (boot_heap P) "__annotations__" = some (.ref 6) := by kernel_rfl
  have n2 : b ≠ 2 := fun z => n (.inr (.inl (z.trans c2.symm)))
  have n3 : b ≠ 3 := fun z => n (.inl (z.trans c3.symm))
  have n6 : b ≠ 6 := fun z => n (.inr (.inr (by rw [z]; exact c6)))
  exact nat_low b lt n2 n3 n6
/-- what is looked at behind the top -/
def finT {α : Type} (p q : Program) (loose : List Str) (Xt : Shared → Bool) (ob : SharedT → α) (w : World) (s : SharedT) := (looksF p (boot_heap w.params) s.abs, openSeen q loose (importedModules p.main.body) Xt true s.abs, ob s, lows.map (getT s), s.os)
/-- what there is to be seen -/
def finV {α : Type} (p q : Program) (loose : List Str) (val : World → α) (w : World) (os : OsState) := (true, openGood q loose, val w, lows.map (boot_heap w.params).get?, os)
/-- the world's run of the top -/
structure TopOf (p q : Program) (loose : List Str) (Xt : Shared → Bool) {α : Type} (ob : SharedT → α) (val : World → α) (w : World) (s₀ s₁ : Shared) : Prop where
  ran : TopRan p w s₀ s₁
  slp : s₁.asleep
  gn : s₁.gens = #[]
  ns : s₁.heap.isNs mainGlobals = true
  seen : openSeen q loose (importedModules p.main.body) Xt true s₁ = openGood q loose
  ob : ∃ sT : SharedT, sT.abs = s₁ ∧ ob sT = val w
section
variable {p q : Program} {loose : List Str} {Xt : Shared → Bool} {α : Type} {ob : SharedT → α} {val : World → α} {C : Cut}
/-- what the kernel shows, world by world -/
structure Shown (p q : Program) (loose : List Str) (Xt : Shared → Bool) {α : Type} (ob : SharedT → α) (val : World → α) (C : Cut) : Prop where
  pl : opening p = plainProg p.main.scope.names
  fe : ∀ s, fenceModules? p s = some s
  bd : behindTheImports p = C.body
  th : ∀ w os, thr0 (stepT (denote treeTable) p w) p C w os = some (⟨denote treeTable C.code, C.code, C.pos0, [topFrame C.q]⟩, true)
  rn : ∀ w os pos1 pos2, (run0 (stepT (denote treeTable) p w) p C w os pos1 pos2).map (finT p q loose Xt ob w) = some (finV p q loose val w os)
  md : ∀ (w : World) (s1 : SharedT), C.chk w s1 = true → s1.gens = #[] → ∀ pos, Sem.wp (model p w) (Ctx.of C.code [topFrame C.q]) (exec C.st C.env) (fun f _ s' => f = .next ∧ s' = (C.mid w s1).abs) (fun _ _ _ => False) pos s1.abs
theorem Shown.at (S : Shown p q loose Xt ob val C) (hch : chainsOk q = true) (w : World) : (∃ s, AfterRun (opening p) w s) ∧ ∀ s, AfterRun (opening p) w s → ∃ s₀, fenceModules? p s = some s₀ ∧ s₀.gens = #[] ∧ ∃ s₁, TopOf p q loose Xt ob val w s₀ s₁ := by
  obtain ⟨⟨hp, gs, dr, tk, os⟩, a, b⟩ := Option.map_eq_some_iff.mp (boot_open (N := 600) S.pl (by rfl) S.fe w)
  obtain ⟨rfl, rfl, rfl, rfl⟩ : hp = boot_heap w.params ∧ gs = Array.mk [] ∧ dr = boot_drawn ∧ tk = boot_toks := by simpa using b
  rw [← table_eq_tree] at a
  obtain ⟨si, hi, hf⟩ := Option.bind_eq_some_iff.mp a
  have Ai := AfterImport.of_importEnds hi
  refine ⟨⟨si, Ai⟩, fun s' hs' => ?_⟩
  obtain rfl : s' = si := AfterImport.unique hs' Ai
  have zz : Shared.asleep ⟨boot_heap w.params, #[], boot_drawn, boot_toks, os⟩ := Shared.asleep_of_life (fence_lifeW hf) Ai.life
  obtain ⟨n, t, s3, h1, h2, h3, h4, h5⟩ := top_good (fin := finT p q loose Xt ob w) S.bd (S.th w os) (S.rn w os) (S.md w) zz
  refine ⟨_, hf, rfl, s3.abs, ?_⟩
  have y1 : looksF p (boot_heap w.params) s3.abs = true := congrArg (fun x => x.1) h4
  have y2 : openSeen q loose (importedModules p.main.body) Xt true s3.abs = openGood q loose := congrArg (fun x => x.2.1) h4
  have y3 : ob s3 = val w := congrArg (fun x => x.2.2.1) h4
  have y4 : lows.map (getT s3) = lows.map (boot_heap w.params).get? := congrArg (fun x => x.2.2.2.1) h4
  have y5 : s3.os = os := congrArg (fun x => x.2.2.2.2) h4
  obtain ⟨y11, ylk⟩ := Bool.and_eq_true_iff.mp (show (_ && laidKept (boot_heap w.params) s3.abs.heap) = true from y1)
  obtain ⟨y12, ygd⟩ := Bool.and_eq_true_iff.mp y11
  obtain ⟨yst, ynb⟩ := Bool.and_eq_true_iff.mp y12
  obtain ⟨_, _, g1, g2, g3, g4, g5⟩ := ground_of_open (w := w) (XP := fun _ _ => True) (fun _ _ => trivial) hch y2
  have low : ∀ b o, (boot_heap w.params).get? b = some o → ¬ theTopsOwn (boot_heap w.params) b → s3.abs.heap.get? b = some o := fun b o hb hn => by
    have hm := low_or w.params hb hn
    have e : getT s3 b = (boot_heap w.params).get? b := List.map_inj_left.mp y4 b hm
    rw [getT_eq, hb] at e
    exact e
  exact { ran := ⟨⟨n, t, h1, h2⟩, h5, Shared.rest_eq y5, low, g2, statics_of_ok yst, g3, g4, g5, gens_of_done ygd, names_of_bound ynb, laid_of_kept ylk⟩, slp := Shared.asleep_of_life h5 zz, gn := h3, ns := g1, seen := y2, ob := ⟨s3, rfl, y3⟩ }
end
/-- the law's end over such a top -/
theorem holds_cut {r : OpenRow} {q : Program} {loose : List Str} {H : Hook} {ob : SharedT → H.α} {C : Cut} {d : DefRec} {kwd : List (Str × Expr)} (ho : ∀ s : SharedT, ob s = H.obs s.abs)
    (S : Shown r.prog q loose (fun s => xlAt q [] s && recOk r.toRowW.records s) ob H.val C)
    (hdef : defOf q r.name = some (d, kwd)) (hpr : r.prog.theDef r.name = some (d.params, d.body, d.scope)) (hkw : kwWritten? d.params.kwonlyargs d.params.kw_defaults = some kwd)
    (hwr : (!r.writes || r.records.isEmpty) = true) (said : r.wellSaid = true) (okc : (chainsOk q && opensWell r.prog && (frees r.toRowW && r.within.isEmpty)) = true) (bare : r.prog.bare) (prom : r.toRowW.promised)
    (walk : WalkO q loose (XL q []) H.says r.toRowW d kwd fun f vs => PySem.call f vs) : r.Holds := by
  obtain ⟨⟨hch, hop⟩, hfr, hwn⟩ : (chainsOk q = true ∧ opensWell r.prog = true) ∧ frees r.toRowW = true ∧ r.within.isEmpty = true := by simpa only [Bool.and_eq_true] using okc
  obtain ⟨hsame, hund, haft, happ, hmk⟩ := frees_parts hfr
  have hwithin : r.toRowW.claim.within = [] := List.isEmpty_iff.mp hwn
  have hid := ident_freeW hund haft happ
  refine ⟨said, prom, ⟨bare, hop, ?_⟩, prom.witness, fun w => ⟨(S.at hch w).1, fun sA hA => ?_⟩⟩
  · show r.makers.map _ = []
    rw [hmk]
    rfl
  obtain ⟨s₀, hfence, hgen0, sT, T⟩ := (S.at hch w).2 sA hA
  have hXt : ∀ s, (xlAt q [] s && recOk r.toRowW.records s) = true → XL q [] (s.heap.nsMap mainGlobals) s.heap ∧ RecFacts r.records s.heap := fun s z => ⟨xl_of s (Bool.and_eq_true_iff.mp z).1, recFacts_of (Bool.and_eq_true_iff.mp z).2⟩
  obtain ⟨GX, _, _⟩ := ground_of_open (w := w) (XP := fun mg h => XL q [] mg h ∧ RecFacts r.records h) hXt hch T.seen
  have RF : RecFacts r.records sT.heap := GX.X.2
  have G0 : Ground q loose [] (XL q []) w sT (sT.heap.nsMap mainGlobals) (sT.heap.nsMap builtinsNs) sT.heap := { T := GX.T, B := GX.B, D := GX.D, TE := GX.TE, TD := GX.TD, W := GX.W, X := GX.X.1, cls := GX.cls, has := GX.has, apart := GX.apart, once := GX.once, K := GX.K }
  have GR : Ground q loose r.records (XL q []) w sT (sT.heap.nsMap mainGlobals) (sT.heap.nsMap builtinsNs) sT.heap := RF.ground G0
  have sayT : H.says w sT.heap := by
    obtain ⟨sx, e1, e2⟩ := T.ob
    refine H.of w sT ?_
    rw [← e1, ← ho]
    exact e2
  have pinned : ∀ n ∈ (if r.pinned then [r.name] else []), isTheDefsW r.prog sT.heap n := fun n hn => by
    obtain rfl : n = r.name := by split at hn <;> simp_all
    exact pinned_of_view T.ns G0 hdef hpr hkw
  refine ⟨s₀, hfence, hgen0, sT, T.ran, pinned, RF.1, RF.2.1, ClaimW.callFrom_of_specG (c := r.toRowW.claim) T.slp T.gn fun args hpre hlay ord hord => ?_⟩
  obtain ⟨⟨vs, sL⟩, hl⟩ := Option.isSome_iff_exists.mp (layAllW_isSome (P := w.params) (ord := ord) GR.has args r.args sT (pre_splitW hpre).1)
  obtain ⟨kp, rst⟩ := And.intro (layAllW_keeps _ _ _ hl) (layAllW_rest _ _ _ hl)
  obtain ⟨as, rd, ins, old⟩ := reads_layAllW hord _ _ _ hl hlay sL.heap (fun _ _ z => z)
  have La : Laid r.records w sT sL args vs as := { laid := ⟨ord, hord, hl⟩, reads := rd, within := ins, old := old, keeps := kp, gens := rst.1.trans T.gn, os := rst.2.2.1 }
  have GL := GR.keeps XL.keeps kp
  obtain ⟨a, o, pm, cd, doc, dV, kV, e1, e2, e3, e4, e5⟩ := GL.fn hdef
  have wk := walk w sT sL _ _ GL (H.keeps _ _ _ sayT kp) a o pm cd doc dV kV e2 e3 e4 e5 (defOf_name hdef ▸ e1) La.gens args vs as hpre hlay La.reads La.well (La.low GR.low)
  have fin : ∀ {rs : Result} {s' : Shared}, GoodWG r.toRowW.claim (classAt sT.heap) (ExcName.means sT.heap) args sL rs s' → r.toRowW.claim.Ends sT args vs sL rs s' ∧ s'.os = sT.os ∧ AllBare s'.gens ∧ (r.writes = true → namesKept r.prog r.keeps sT.heap s'.heap ∧ ∀ x ∈ r.records, ∀ a, classAt sT.heap x.1 = some a → recordClass s'.heap a x.1 (x.2.map (·.1)) = true) := fun g => by
    obtain ⟨z1, z2, z3⟩ := g.laid (c := r.toRowW.claim) hsame hwithin hid La
    exact ⟨z1, z2, z3, fun qq => ⟨namesKept_of T.ran T.ns r.keeps kp g.2.1.old, noTable hwr qq⟩⟩
  refine ⟨vs, sL, hl, wpAny_bind (wpAny_nsGet GL.T.g ?_)⟩
  rw [e1]
  exact wpAny_bind (wpAny_mono wk (fun _ _ g => wpAny_pure ⟨_, rfl, fin g⟩) fun _ _ g => fin g)
end Hm
set_option Elab.async false
set_option linter.all false
set_option maxRecDepth 100000
set_option maxHeartbeats 4000000
/-! The end of a law whose def shows values, with tables of code objects. -/
namespace My
open PySem PySem.Spec PyProof.Rows L2
section
variable {P : Program} {w : World} {K : PySem.W.Frag} {mg mb : Str → Option Value} {CX : CXT} {k : Nat} {fa a : Addr} {fd : FuncData} {x : Str} {sp : Sp} {s : Shared} {vs : List Value} {ns : List Int} {cs : List (Addr × Addr)}
/-- what is said of the tables -/
structure TabsAt (K : PySem.W.Frag) (cs : List (Addr × Addr)) (mg : Str → Option Value) (h : Heap) : Prop where
  tb : ∀ p ∈ cs, h.get? p.2 = some { cls := .none, data := .fields #[] }
  lk : ∀ p ∈ cs, K.lookup p.2 = none
  hd : ∀ p ∈ cs, PySem.W.CodeHd h p.1 p.2
  bm : ∃ bm ob, mg "__builtins__" = some (.ref bm) ∧ bm ≠ builtinsNs ∧ h.get? bm = some ob ∧ ob.cls = .type "module" ∧ ob.dict = some builtinsNs ∧ ob.data = .plain
/-- the abstract heap in which at most the script and the tables are tracked -/
structure BareTab (K : PySem.W.Frag) (a : Addr) (cs : List (Addr × Addr)) (H : Hp) : Prop where
  only : ∀ b, H b = none ∨ (b = a ∧ ∃ o xs, H b = some (.frz o (.lst xs))) ∨ (∃ p ∈ cs, b = p.2 ∧ H b = some (.tbl #[]))
  free : H a ≠ none → K.lookup a = none
theorem law_atT (B : Behind K mg mb a vs s) (TA : TabsAt K cs mg s.heap) (hr : Room k callerA) (F : ∀ base : Heap, K.In base → base.Ns mainGlobals mg → (∀ p ∈ cs, LamX.TabB base mg p.1 p.2) → FnG P w K mg base CX k fa fd [x] sp)
    (bind : ∀ (s : Shared) (u : Value), BindsTo s fd ⟨[u], []⟩ [(x, u)]) (hCX : ∀ H e s', CX [] H s (fun _ _ _ => False) e s' → False)
    (H : Hp) (W : BareTab K a cs H) (hok : HOk P w H s.heap) (hp : sp [.ref a] H (fun v _ => v = .bl true) fun _ _ _ => False) :
    codeAny (model P w) callerA (.call (.ref fa) ⟨[.ref a], []⟩) (fun r s' => r = .ok (.ret (.bool true)) ∧ OldK s.heap s'.heap ∧ s'.os = s.os ∧ AllBare s'.gens) s := by
  have nz : ∀ {b : Addr} {o : Obj}, s.heap.get? b = some o → (∀ xs n, o.data ≠ .seq xs n) → (∀ fs, o.data = .fields fs → o.cls ≠ .none) → H b = none := fun {b o} e h1 h2 => by
    rcases W.only b with z | ⟨rfl, _⟩ | ⟨p, hp, rfl, _⟩
    · exact z
    · rw [B.ob] at e
      cases e
      exact absurd rfl (h1 _ _)
    · rw [TA.tb p hp] at e
      cases e
      exact absurd rfl (h2 _ rfl)
  have apart : ∀ {b : Addr} {o : Obj}, s.heap.get? b = some o → (∀ xs n, o.data ≠ .seq xs n) → (∀ fs, o.data = .fields fs → o.cls ≠ .none) → (hidT s.heap H).get? b = some o := fun {b o} e h1 h2 => hidT_get e (nz e h1 h2)
  have ns : ∀ {b : Addr} {m : Str → Option Value}, s.heap.Ns b m → (hidT s.heap H).Ns b m := fun {b m} ⟨o, es, ep, e, d, r⟩ => ⟨o, es, ep, apart e (fun _ _ z => by rw [d] at z; cases z) (fun _ z => by rw [d] at z; cases z), d, r⟩
  have kb : K.In (hidT s.heap H) := fun b o e => by
    refine hidT_get (B.kin b o e) ?_
    rcases W.only b with z | ⟨rfl, _⟩ | ⟨p, hp, rfl, _⟩
    · exact z
    · by_cases q : H b = none
      · exact q
      · have := W.free q
        rw [e] at this
        cases this
    · have := TA.lk p hp
      rw [e] at this
      cases this
  obtain ⟨bm, ob, b1, b2, b3, b4, b5, b6⟩ := TA.bm
  obtain ⟨og, eg, pg, e1, e2, _⟩ := B.glob
  have tbs : ∀ p ∈ cs, LamX.TabB (hidT s.heap H) mg p.1 p.2 := fun p hp => by
    obtain ⟨o, vs', file, tf, flags, tg, inF, text, tt, c1, c2, c3, c4⟩ := TA.hd p hp
    have gp : mainGlobals ≠ p.2 := fun z => by
      rw [z, TA.tb p hp] at e1
      cases e1
      cases e2
    refine ⟨⟨o, vs', file, tf, flags, tg, inF, text, tt, apart c1 (fun _ _ z => by rw [c3] at z; cases z) (fun _ _ z => by rw [c2] at z; cases z), c2, c3, c4⟩, ⟨bm, ob, b1, b2, fun z => ?_, fun z => ?_, apart b3 (fun _ _ z => by rw [b6] at z; cases z) (fun _ z => by rw [b6] at z; cases z), b4, b5, b6⟩, gp⟩
    · rw [z, e1] at b3
      cases b3
      rw [e2] at b6
      cases b6
    · rw [z, TA.tb p hp] at b3
      cases b3
      cases b6
  have md : Mod K mg (hidT s.heap H) := ⟨kb, ns B.glob, ⟨mb, ns B.blt, B.boot⟩, match B.lim with | ⟨m, p, q⟩ => ⟨m, ns p, q⟩⟩
  have e0 : Env0 P w K mg (hidT s.heap H) callerA [] s H :=
    { frames := rfl, mod := md, bs := fun _ _ e => of_hidT e, bsz := Nat.le_of_eq (hidT_size _ _), funs := trivial, frf := fun _ z => (List.not_mem_nil z).elim, hok := hok, bare := .of_eq B.gens }
  refine codeAny_mono ((F _ kb (ns B.glob) tbs).run callerA [] s H ⟨[.ref a], []⟩ [.ref a] [.ref a] _ _ rfl hr e0 (bind s (.ref a)) (.cons rfl .nil) hp) ?_
  intro res s' z
  match res, z with
  | .error e, z => exact (hCX H e s' z).elim
  | .ok .next, z => exact z.elim
  | .ok .brk, z => exact z.elim
  | .ok .cont, z => exact z.elim
  | .ok (.ret u), ⟨v, H', os, bare, un, hok', rv, q⟩ =>
    subst q
    cases (show u = Value.bool true from rv)
    refine ⟨rfl, ⟨fun b o e => ?_, fun b o e => un.there b o e List.not_mem_nil⟩, os, bare⟩
    rcases W.only b with z | ⟨_, ob, xs, z⟩ | ⟨p, hp, rfl, z⟩
    · exact .inl (un.keep b o e z List.not_mem_nil List.not_mem_nil)
    · have h1 := (hok b _ z).1
      have h2 := (hok' b _ (un.frzs b ob _ z)).1
      rw [e] at h1
      cases h1
      exact .inl h2
    · obtain ⟨more, e'⟩ := un.tbls p.2 _ z
      have h2 : s'.heap.get? p.2 = some { cls := .none, data := .fields (#[] ++ more) } := hok' p.2 _ e'
      rw [TA.tb p hp] at e
      cases e
      obtain ⟨o, vs', file, tf, flags, tg, inF, text, tt, c1, c2, c3, c4, _⟩ := TA.hd p hp
      exact .inr (.inl ⟨⟨p.1, o, vs', c1, c2, c3, c4⟩, rfl, #[], more, rfl, h2⟩)
theorem law_endT (B : Behind K mg mb a vs s) (TA : TabsAt K cs mg s.heap) (hi : IntsAre vs ns) (hl : ns.length ≤ sizeLine) (hr : Room k callerA)
    (F : ∀ base : Heap, K.In base → base.Ns mainGlobals mg → (∀ p ∈ cs, LamX.TabB base mg p.1 p.2) → FnG P w K mg base CX k fa fd [x] sp) (bind : ∀ (s : Shared) (u : Value), BindsTo s fd ⟨[u], []⟩ [(x, u)])
    (hsp : ∀ H : Hp, (∀ p ∈ cs, H p.2 = some (.tbl #[])) → SqL K H a (ns.map V.int) → sp [.ref a] H (fun v _ => v = .bl true) fun _ _ _ => False) (hCX : ∀ H e s', CX [] H s (fun _ _ _ => False) e s' → False) :
    codeAny (model P w) callerA (.call (.ref fa) ⟨[.ref a], []⟩) (fun r s' => r = .ok (.ret (.bool true)) ∧ OldK s.heap s'.heap ∧ s'.os = s.os ∧ AllBare s'.gens) s := by
  have rv := vals_ints hi
  have le := hi.length
  have lm : (ns.map V.int).length ≤ sizeLine := by
    rw [List.length_map]
    exact hl
  have na : ∀ p ∈ cs, p.2 ≠ a := fun p hp z => by
    have := TA.tb p hp
    rw [z, B.ob] at this
    cases this
  let fz : HO := .frz { cls := .type "list", data := .seq vs.toArray } (.lst (ns.map V.int))
  let T0 : Hp := fun c => if c ∈ cs.map (·.2) then some (.tbl #[]) else none
  have t0 : ∀ p ∈ cs, T0 p.2 = some (.tbl #[]) := fun p hp => if_pos (List.mem_map_of_mem hp)
  have t1 : ∀ b, T0 b = none ∨ ∃ p ∈ cs, b = p.2 ∧ T0 b = some (.tbl #[]) := fun b => (Decidable.em (b ∈ cs.map (·.2))).elim (fun z => by
    obtain ⟨p, hp, e⟩ := List.mem_map.mp z
    exact .inr ⟨p, hp, e.symm, if_pos z⟩) fun z => .inl (if_neg z)
  have ok0 : ∀ b o, T0 b = some o → ∃ p ∈ cs, b = p.2 ∧ o = .tbl #[] := fun b o e => by
    rcases t1 b with z | ⟨p, hp, eb, z⟩
    · rw [z] at e
      cases e
    · rw [z] at e
      cases e
      exact ⟨p, hp, eb, rfl⟩
  cases q : K.lookup a with
  | some o =>
    have e := B.kin a o q
    rw [B.ob] at e
    cases e
    have hS : SqL K T0 a (ns.map V.int) := .inr ⟨_, vs.toArray, _, q, rfl, rfl, rfl, by simpa using (le ▸ hl), by simpa using rv⟩
    refine law_atT B TA hr F bind hCX T0 ⟨fun b => (t1 b).imp id .inr, fun z => ?_⟩ (fun b u z => ?_) (hsp _ t0 hS)
    · rcases t1 a with y | ⟨p, hp, eb, _⟩
      · exact absurd y z
      · exact absurd eb.symm (na p hp)
    · obtain ⟨p, hp, rfl, rfl⟩ := ok0 b u z
      exact TA.tb p hp
  | none =>
    let H : Hp := fun c => if c = a then some fz else T0 c
    have own : H a = some fz := if_pos rfl
    have oth : ∀ b, b ≠ a → H b = T0 b := fun b z => if_neg z
    refine law_atT B TA hr F bind hCX H ⟨fun b => ?_, fun _ => q⟩ (fun b u z => ?_) (hsp _ (fun p hp => (oth _ (na p hp)).trans (t0 p hp)) (.inl (.inr ⟨_, own⟩)))
    · by_cases y : b = a
      · exact .inr (.inl ⟨y, _, _, by rw [y]; exact own⟩)
      · rw [oth b y]
        exact (t1 b).imp id .inr
    · by_cases y : b = a
      · subst y
        rw [own] at z
        cases z
        exact ⟨B.ob, lm, vs, _, rv, B.ob⟩
      · rw [oth b y] at z
        obtain ⟨p, hp, rfl, rfl⟩ := ok0 b u z
        exact TA.tb p hp
end
/-- what the law's def asks for the end -/
def LawAtG (l : PySem.W.OpenLaw) (w : World) (K : PySem.W.Frag) (k n : Nat) (x : Str) (mg : Str → Option Value) (fa : Addr) (h : Heap) : Prop :=
  ∃ (fd : FuncData) (cs : List (Addr × Addr)) (sp : Sp), (∀ p ∈ cs, h.get? p.2 = some { cls := .none, data := .fields #[] }) ∧ (∀ p ∈ cs, K.lookup p.2 = none) ∧ (∀ p ∈ cs, PySem.W.CodeHd h p.1 p.2) ∧
    (∀ (s : Shared) (u : Value), BindsTo s fd ⟨[u], []⟩ [(x, u)]) ∧
    (∀ (H : Hp) (a : Addr) (ns : List Int), ns.length ≤ n → (∀ z ∈ ns, Builtin.Int.intBits z ≤ 1048576) → (∀ p ∈ cs, H p.2 = some (.tbl #[])) → SqL K H a (ns.map V.int) → sp [.ref a] H (fun v _ => v = .bl true) fun _ _ _ => False) ∧
    ∀ base : Heap, K.In base → base.Ns mainGlobals mg → (∀ p ∈ cs, LamX.TabB base mg p.1 p.2) → FnG l.prog w K mg base CX0 k fa fd [x] sp
/-- the end: a law that shows values, with tables of code objects -/
theorem walk_GT {l : PySem.W.OpenLaw} {n k : Nat} {q : Program} {loose : List Str} {XP : (Str → Option Value) → Heap → Prop} {YP : World → Heap → Prop} {d : DefRec} {K : Params → PySem.W.Frag} {x : Str}
    (hn : l.most = some n) (h2 : n ≤ sizeLine) (hd : d.params.defaults = []) (hr : Room k callerA) (hY : ∀ (w : World) (h : Heap), YP w h → (K w.params).In h)
    (F : ∀ (w : World) (mg : Str → Option Value) (fa : Addr) (h : Heap), YP w h → (K w.params).In h → h.Ns mainGlobals mg → mg d.name = some (.ref fa) → LawAtG l w (K w.params) k n x mg fa h) :
    PySem.W.WalkO q loose XP YP l.row.toRowW d [] (fun f vs => PySem.call f vs) :=
  Att.attach_callB hn hd fun w s₀ s mg mb fa o pm cd doc a vs ns G Y _ _ _ hmg hob hi hl hb hg =>
    let ⟨_, cs, sp, ht, hk, hc, bd, hsp, hF⟩ := F w mg fa _ Y (hY w _ Y) G.T.g hmg
    law_endT ⟨hY w _ Y, G.T.g, G.T.b, G.T.builtins, G.T.nolimit, hg, hob⟩ ⟨ht, hk, hc, G.T.bmain⟩ hi (Nat.le_trans hl h2) hr hF bd (fun H h1 hS => hsp H a ns hl hb h1 hS) fun _ _ _ z => z
end My
set_option Elab.async false
set_option linter.all false
set_option maxRecDepth 100000
set_option maxHeartbeats 4000000
/-! what is told of the heap behind the top, by a Hook: the defs of some addresses, facts of a part of the heap, empty tables -/
namespace Hm
open PySem PySem.Spec PyProof.Rows L2
/-! ### the part of the heap: the module's names, and what some of them reach -/
def rootsF (g : Addr → Option Obj) (xs : List Str) : List Addr := match g mainGlobals with
  | some ⟨_, _, .dict es _, _⟩ => es.toList.filterMap fun e => match e.key, e.val with
    | .str x _, .ref a => (match xs.contains x with
      | true => some a
      | false => none)
    | _, _ => none
  | _ => []
/-- each once: what was met is a number's bits -/
def onceF : Nat → List Addr → List Addr
  | _, [] => []
  | m, a :: r => if Nat.land (Nat.shiftRight m a) 1 = 1 then onceF m r else a :: onceF (Nat.lor m (Nat.shiftLeft 1 a)) r
def growF (g : Addr → Option Obj) (as : List Addr) : List Addr := onceF 0 (as ++ as.flatMap fun a => match g a with
  | some o => He.refsD o
  | none => [])
def asF (g : Addr → Option Obj) (xs : List Str) : Nat → List Addr
  | 0 => rootsF g xs
  | n + 1 => growF g (asF g xs n)
def partF (g : Addr → Option Obj) (xs : List Str) (n : Nat) : PySem.W.Frag := He.frT g (mainGlobals :: cStatics :: asF g xs n)
/-! ### defs -/
structure Df where
  at_ : PySem.W.Frag → Addr
  name : Str
  qual : Str
  st : Stmt
  dfl : List He.Dv := []
  clo : List Str := []
/-- what is told of a def: its closure by the names -/
abbrev FnN : Type := Option (Str × Str × Arguments × FuncBody × Scope × Addr × List Str × Addr)
def Df.val (d : Df) : FnN := some (d.name, d.qual, defArgs d.st, .stmts (defBody d.st), defScope d.st, mainGlobals, d.clo, builtinsNs)
def Df.dvs (K : PySem.W.Frag) (d : Df) : List V := d.dfl.map (He.Dv.v K)
def fnAt (K : PySem.W.Frag) (a : Addr) : FnN := match K.lookup a with
  | some ⟨_, _, .func fd, _⟩ => some (fd.name, fd.qualname, fd.params, fd.body, fd.scope, fd.globals, fd.closure.map (·.1), fd.builtins)
  | _ => none
/-- the cell of the class that a def's super() looks up -/
def ccF (K : PySem.W.Frag) (a : Addr) : Addr := match K.lookup a with
  | some ⟨_, _, .func fd, _⟩ => (match fd.closure with
    | [(_, c)] => c
    | _ => 0)
  | _ => 0
def Df.ok (K : PySem.W.Frag) (d : Df) : Bool := PySem.W.keepIn K (.ref (d.at_ K)) && (match K.lookup (d.at_ K) with
  | some ⟨_, _, .func fd, _⟩ => PySem.W.codeIn K fd.code d.qual && He.dflB K fd.defaults (d.dvs K)
  | _ => false)
theorem Df.rawC {K : PySem.W.Frag} {d : Df} (e : fnAt K (d.at_ K) = d.val) (c : d.ok K = true) : ∃ (oc : Value) (od : Option Addr) (cl : List (Str × Addr)) (dV kV doc pm : Value) (an : Option Addr) (cdv ct : Value) (osl : Array (Option Value)),
    K.lookup (d.at_ K) = some ⟨oc, od, .func (PySem.W.fnX d.name d.qual (defArgs d.st) (defBody d.st) (defScope d.st) cl dV kV doc pm an cdv ct), osl⟩ ∧ cl.map (·.1) = d.clo ∧ PySem.W.codeIn K cdv d.qual = true ∧ DflV K dV (d.dvs K) ∧ PySem.W.keepIn K (.ref (d.at_ K)) = true := by
  obtain ⟨kp, c2⟩ := He.ba c
  unfold fnAt at e
  cases q : K.lookup (d.at_ K) with
  | none =>
    rw [q] at c2
    cases c2
  | some o =>
    obtain ⟨oc, od, dt, osl⟩ := o
    rw [q] at c2 e
    cases dt with
    | func fd =>
      obtain ⟨n1, n2, n3, n4, n5, n6, n7, n8, n9, n10, n11, n12, n13, n14, n15⟩ := fd
      have e2 : (some (n1, n2, n3, n4, n5, n6, n7.map (·.1), n15) : FnN) = some (d.name, d.qual, defArgs d.st, .stmts (defBody d.st), defScope d.st, mainGlobals, d.clo, builtinsNs) := e
      simp only [Option.some.injEq, Prod.mk.injEq] at e2
      obtain ⟨h1, h2, h3, h4, h5, h6, h7, h8⟩ := e2
      subst h1 h2 h3 h4 h5 h6 h8
      obtain ⟨k1, k2⟩ := He.ba (show (PySem.W.codeIn K n13 d.qual && He.dflB K n8 (d.dvs K)) = true from c2)
      exact ⟨oc, od, n7, n8, n9, n10, n11, n12, n13, n14, osl, rfl, h7, k1, He.dflB_ok k2, kp⟩
    | _ => cases c2
theorem Df.raw {K : PySem.W.Frag} {d : Df} (hc : d.clo = []) (e : fnAt K (d.at_ K) = d.val) (c : d.ok K = true) : ∃ (oc : Value) (od : Option Addr) (dV kV doc pm : Value) (an : Option Addr) (cdv ct : Value) (osl : Array (Option Value)),
    K.lookup (d.at_ K) = some ⟨oc, od, .func (PySem.W.fnOf d.name d.qual (defArgs d.st) (defBody d.st) (defScope d.st) dV kV doc pm an cdv ct), osl⟩ ∧ PySem.W.codeIn K cdv d.qual = true ∧ DflV K dV (d.dvs K) ∧ PySem.W.keepIn K (.ref (d.at_ K)) = true := by
  obtain ⟨oc, od, cl, dV, kV, doc, pm, an, cdv, ct, osl, h1, hcl, h2, h3, h4⟩ := Df.rawC e c
  rw [hc] at hcl
  obtain rfl : cl = [] := List.map_eq_nil_iff.mp hcl
  exact ⟨oc, od, dV, kV, doc, pm, an, cdv, ct, osl, h1, h2, h3, h4⟩
/-- a def without defaults -/
theorem Df.plain {K : PySem.W.Frag} {d : Df} (hd : d.dfl = []) (hc : d.clo = []) (e : fnAt K (d.at_ K) = d.val) (c : d.ok K = true) : ∃ (oc : Value) (od : Option Addr) (kV doc pm : Value) (an : Option Addr) (cdv ct : Value) (osl : Array (Option Value)),
    K.lookup (d.at_ K) = some ⟨oc, od, .func (PySem.W.fnOf d.name d.qual (defArgs d.st) (defBody d.st) (defScope d.st) .none kV doc pm an cdv ct), osl⟩ ∧ PySem.W.codeIn K cdv d.qual = true ∧ PySem.W.keepIn K (.ref (d.at_ K)) = true := by
  obtain ⟨oc, od, dV, kV, doc, pm, an, cdv, ct, osl, h1, h2, h3, h4⟩ := Df.raw hc e c
  rcases h3 with ⟨_, rfl⟩ | ⟨z, _⟩
  · exact ⟨oc, od, kV, doc, pm, an, cdv, ct, osl, h1, h2, h4⟩
  · exact absurd (show d.dfl.map (He.Dv.v K) = [] by rw [hd] <;> rfl) z
/-- a def, its defaults told -/
theorem Df.funD {K : PySem.W.Frag} {d : Df} (hc : d.clo = []) (e : fnAt K (d.at_ K) = d.val) (c : d.ok K = true) : ∃ fd, FunD K d.name d.qual (defArgs d.st) (defBody d.st) (defScope d.st) (d.dvs K) [] (d.at_ K) fd := by
  obtain ⟨oc, od, dV, kV, doc, pm, an, cdv, ct, osl, h1, h2, h3, h4⟩ := Df.raw hc e c
  exact ⟨_, ⟨oc, od, dV, kV, doc, pm, an, cdv, ct, osl, rfl, h1, h2, h3, .inl rfl⟩, h4⟩
/-! ### tables -/
/-- a def's code object -/
def codeF (K : PySem.W.Frag) (a : Addr) : Addr := match K.lookup a with
  | some ⟨_, _, .func fd, _⟩ => (match fd.code with
    | .ref c => c
    | _ => 0)
  | _ => 0
theorem codeF_eq {K : PySem.W.Frag} {a : Addr} {oc : Value} {od : Option Addr} {osl : Array (Option Value)} {fd : FuncData} (lk : K.lookup a = some ⟨oc, od, .func fd, osl⟩) {q : Str} (h : PySem.W.codeIn K fd.code q = true) : fd.code = .ref (codeF K a) := by
  obtain ⟨c, e⟩ := He.codeIn_ref h
  unfold codeF
  rw [lk]
  show fd.code = .ref (match fd.code with | .ref c => c | _ => 0)
  rw [e]
/-- a def's table -/
def tabF (K : PySem.W.Frag) (a : Addr) : Addr := He.tabOf K (codeF K a)
/-! ### the Hook -/
structure SaysF (ds : List Df) (fs : List (PySem.W.Frag → Bool)) (tf : List (PySem.W.Frag → Addr)) (h : Heap) (K : PySem.W.Frag) : Prop where
  fns : ds.map (fun d => fnAt K (d.at_ K)) = ds.map Df.val
  oks : (ds.all fun d => d.ok K) = true
  facts : (fs.all fun f => f K) = true
  hd : ∀ p ∈ tf, PySem.W.codeHdIn K (codeF K (p K)) (tabF K (p K)) = true
  out : ∀ p ∈ tf, K.lookup (tabF K (p K)) = none
  empty : ∀ p ∈ tf, h.get? (tabF K (p K)) = some { cls := .none, data := .fields #[] }
def tabsF (g : Addr → Option Obj) (tf : List (PySem.W.Frag → Addr)) (K : PySem.W.Frag) : Bool := tf.all fun p => PySem.W.codeHdIn K (codeF K (p K)) (tabF K (p K)) && (match g (tabF K (p K)) with
  | some o => He.emptyTab o
  | none => false)
abbrev AlF : Type := List FnN × Bool
def obsK (ds : List Df) (fs : List (PySem.W.Frag → Bool)) (tf : List (PySem.W.Frag → Addr)) (g : Addr → Option Obj) (K : PySem.W.Frag) : AlF := (ds.map fun d => fnAt K (d.at_ K), (ds.all fun d => d.ok K) && (fs.all fun f => f K) && tabsF g tf K)
def obsF (xs : List Str) (n : Nat) (ds : List Df) (fs : List (PySem.W.Frag → Bool)) (tf : List (PySem.W.Frag → Addr)) (g : Addr → Option Obj) : AlF := obsK ds fs tf g (partF g xs n)
def valF (ds : List Df) : AlF := (ds.map Df.val, true)
theorem saysF_of {xs : List Str} {n : Nat} {ds : List Df} {fs : List (PySem.W.Frag → Bool)} {tf : List (PySem.W.Frag → Addr)} {h : Heap} (e : obsF xs n ds fs tf h.get? = valF ds) : SaysF ds fs tf h (partF h.get? xs n) := by
  have e1 : ds.map (fun d => fnAt (partF h.get? xs n) (d.at_ (partF h.get? xs n))) = ds.map Df.val := congrArg (fun z : AlF => z.1) e
  have e2 : (((ds.all fun d => d.ok (partF h.get? xs n)) && (fs.all fun f => f (partF h.get? xs n))) && tabsF h.get? tf (partF h.get? xs n)) = true := congrArg (fun z : AlF => z.2) e
  obtain ⟨h0, h2⟩ := He.ba e2
  obtain ⟨h3, h4⟩ := He.ba h0
  have key : ∀ p ∈ tf, PySem.W.codeHdIn (partF h.get? xs n) (codeF (partF h.get? xs n) (p (partF h.get? xs n))) (tabF (partF h.get? xs n) (p (partF h.get? xs n))) = true ∧ ∃ o, h.get? (tabF (partF h.get? xs n) (p (partF h.get? xs n))) = some o ∧ He.emptyTab o = true := fun p hp => by
    obtain ⟨h5, h6⟩ := He.ba (List.all_eq_true.mp h2 p hp)
    refine ⟨h5, ?_⟩
    cases q : h.get? (tabF (partF h.get? xs n) (p (partF h.get? xs n))) with
    | none =>
      rw [q] at h6
      cases h6
    | some o =>
      rw [q] at h6
      exact ⟨o, rfl, h6⟩
  exact ⟨e1, h3, h4, fun p hp => (key p hp).1, fun p hp => by
    obtain ⟨_, o, q, z⟩ := key p hp
    exact He.frT_none q z, fun p hp => by
    obtain ⟨_, o, q, z⟩ := key p hp
    rw [q, He.emptyTab_eq z]⟩
def hookF (xs : List Str) (n : Nat) (ds : List Df) (fs : List (PySem.W.Frag → Bool)) (tf : List (PySem.W.Frag → Addr)) : PySem.W.Hook where
  α := AlF
  obs := fun s => obsF xs n ds fs tf s.heap.get?
  val := fun _ => valF ds
  says := fun _ h => ∃ K : PySem.W.Frag, K.In h ∧ SaysF ds fs tf h K
  of := fun _ _ e => ⟨_, He.frT_in, saysF_of e⟩
  keeps := fun _ _ _ ⟨K, hK, c⟩ k => ⟨K, PySem.W.Frag.In.keeps hK k, ⟨c.fns, c.oks, c.facts, c.hd, c.out, fun p hp => k _ _ (c.empty p hp)⟩⟩
theorem obsF_eq {xs : List Str} {n : Nat} {ds : List Df} {fs : List (PySem.W.Frag → Bool)} {tf : List (PySem.W.Frag → Addr)} (s : PySem.W.SharedT) : obsF xs n ds fs tf (HandSHeadRun.getT s) = (hookF xs n ds fs tf).obs s.abs := by
  have e : HandSHeadRun.getT s = s.abs.heap.get? := funext fun a => HandSHeadRun.getT_eq s a
  rw [e] <;> rfl
section
variable {ds : List Df} {fs : List (PySem.W.Frag → Bool)} {tf : List (PySem.W.Frag → Addr)} {h : Heap} {K : PySem.W.Frag}
theorem SaysF.fact (c : SaysF ds fs tf h K) (i : Nat) {f : PySem.W.Frag → Bool} (e : fs[i]? = some f := by rfl) : f K = true := List.all_eq_true.mp c.facts f (List.mem_of_getElem? e)
theorem SaysF.is (c : SaysF ds fs tf h K) (i : Nat) {p : PySem.W.Frag → Prop} {dp : ∀ K, Decidable (p K)} (e : fs[i]? = some (fun K => @decide (p K) (dp K)) := by rfl) : p K := @of_decide_eq_true (p K) (dp K) (c.fact i e)
theorem SaysF.def0 (c : SaysF ds fs tf h K) (i : Nat) {d : Df} (e : ds[i]? = some d) : fnAt K (d.at_ K) = d.val ∧ d.ok K = true := by
  have e2 : (ds.map fun d => fnAt K (d.at_ K))[i]? = (ds.map Df.val)[i]? := by rw [c.fns]
  rw [List.getElem?_map, List.getElem?_map, e] at e2
  exact ⟨Option.some.inj e2, List.all_eq_true.mp c.oks d (List.mem_of_getElem? e)⟩
theorem SaysF.plain (c : SaysF ds fs tf h K) (i : Nat) {d : Df} (e : ds[i]? = some d := by rfl) (hd : d.dfl = [] := by rfl) (hc : d.clo = [] := by rfl) : ∃ (oc : Value) (od : Option Addr) (kV doc pm : Value) (an : Option Addr) (cdv ct : Value) (osl : Array (Option Value)),
    K.lookup (d.at_ K) = some ⟨oc, od, .func (PySem.W.fnOf d.name d.qual (defArgs d.st) (defBody d.st) (defScope d.st) .none kV doc pm an cdv ct), osl⟩ ∧ PySem.W.codeIn K cdv d.qual = true ∧ PySem.W.keepIn K (.ref (d.at_ K)) = true := Df.plain hd hc (c.def0 i e).1 (c.def0 i e).2
theorem SaysF.funD (c : SaysF ds fs tf h K) (i : Nat) {d : Df} (e : ds[i]? = some d := by rfl) (hc : d.clo = [] := by rfl) : ∃ fd, FunD K d.name d.qual (defArgs d.st) (defBody d.st) (defScope d.st) (d.dvs K) [] (d.at_ K) fd := Df.funD hc (c.def0 i e).1 (c.def0 i e).2
/-- a def whose closure is the class alone (super) -/
theorem SaysF.sup (c : SaysF ds fs tf h K) (i : Nat) {d : Df} (e : ds[i]? = some d := by rfl) (hd : d.dfl = [] := by rfl) (hc : d.clo = [("__class__" : Str)] := by rfl) : ∃ (oc : Value) (od : Option Addr) (kV doc pm : Value) (an : Option Addr) (ct : Value) (osl : Array (Option Value)),
    K.lookup (d.at_ K) = some ⟨oc, od, .func (PySem.W.fnX d.name d.qual (defArgs d.st) (defBody d.st) (defScope d.st) [(("__class__" : Str), ccF K (d.at_ K))] .none kV doc pm an (.ref (codeF K (d.at_ K))) ct), osl⟩ ∧ PySem.W.codeIn K (.ref (codeF K (d.at_ K))) d.qual = true ∧ PySem.W.keepIn K (.ref (d.at_ K)) = true := by
  obtain ⟨e1, e2⟩ := c.def0 i e
  obtain ⟨oc, od, cl, dV, kV, doc, pm, an, cdv, ct, osl, h1, hcl, h2, h3, h4⟩ := Df.rawC e1 e2
  rw [hc] at hcl
  match cl, hcl, h1 with
  | [(n, a)], hcl, h1 =>
    obtain rfl : n = "__class__" := by simpa using hcl
    have ea : ccF K (d.at_ K) = a := by
      unfold ccF
      rw [h1]
    obtain rfl := codeF_eq h1 h2
    rcases h3 with ⟨_, rfl⟩ | ⟨z, _⟩
    · rw [ea]
      exact ⟨oc, od, kV, doc, pm, an, ct, osl, h1, h2, h4⟩
    · exact absurd (show d.dfl.map (He.Dv.v K) = [] by rw [hd] <;> rfl) z
end
/-- the file that a code object names -/
def fileB (file : Str) (K : PySem.W.Frag) (a : Addr) : Bool := match K.lookup a with
  | some ⟨_, _, .fields vs, _⟩ => (match (vs[2]? : Option Value) with
    | some (Value.str f _) => file == f
    | _ => false)
  | _ => false
theorem fileB_ok {file : Str} {K : PySem.W.Frag} {a : Addr} (h : fileB file K a = true) : ∃ (ccl : Value) (cdd : Option Addr) (vs : Array Value) (ccs : Array (Option Value)) (f : Str) (tf : Tok), K.lookup a = some ⟨ccl, cdd, .fields vs, ccs⟩ ∧ vs[2]? = some (.str f tf) ∧ (file == f) = true := by
  unfold fileB at h
  split at h
  · rename_i q
    split at h
    · rename_i f tf z
      exact ⟨_, _, _, _, f, tf, q, z, h⟩
    · cases h
  · cases h
/-- a cell that holds a class -/
def cellB (K : PySem.W.Frag) (a C : Addr) : Bool := match K.lookup a with
  | some ⟨_, _, .cell (some (.ref c)), _⟩ => decide (c = C)
  | _ => false
theorem cellB_ok {K : PySem.W.Frag} {a C : Addr} (h : cellB K a C = true) : ∃ (cl : Value) (cld : Option Addr) (csl : Array (Option Value)), K.lookup a = some ⟨cl, cld, .cell (some (.ref C)), csl⟩ := by
  unfold cellB at h
  split at h
  · rename_i q
    obtain rfl := of_decide_eq_true h
    exact ⟨_, _, _, q⟩
  · cases h
/-! ### parts that are not told by name -/
/-- an empty tuple -/
def tupEmp (K : PySem.W.Frag) (a : Addr) : Bool := match K.lookup a with
  | some ⟨.type c, _, .seq its _, _⟩ => decide (c = "tuple") && decide (its.toList = [])
  | _ => false
theorem tupEmp_ok {K : PySem.W.Frag} {a : Addr} (h : tupEmp K a = true) (H : Hp) : SqT K H a [] := by
  unfold tupEmp at h
  cases q : K.lookup a with
  | none =>
    rw [q] at h
    cases h
  | some o =>
    obtain ⟨oc, od, dt, osl⟩ := o
    rw [q] at h
    cases oc with
    | type c =>
      cases dt with
      | seq its n =>
        obtain ⟨h1, h2⟩ := He.ba (show (decide (c = "tuple") && decide (its.toList = [])) = true from h)
        have e : its.toList = [] := of_decide_eq_true h2
        refine .inr ⟨_, its, n, q, congrArg Value.type (of_decide_eq_true h1), rfl, ?_, ?_⟩
        · rw [show its.size = its.toList.length from rfl, e]
          exact Nat.zero_le _
        · rw [e]
          exact .nil
      | _ => cases h
    | _ => cases dt <;> cases h
def tokAt (K : PySem.W.Frag) (x : Str) : Tok := match PySem.W.nsIn K mainGlobals x with
  | some (some (.int _ t)) => t
  | some (some (.str _ t)) => t
  | _ => default
/-- a property's object, its getter, what else it holds -/
def propG (K : PySem.W.Frag) (p : Addr) : Addr := match PySem.W.recIn K p "property" with
  | some (.ref a :: _) => a
  | _ => 0
def propR (K : PySem.W.Frag) (p : Addr) : List Value := match PySem.W.recIn K p "property" with
  | some (_ :: r) => r
  | _ => []
end Hm
/-! ### the end of a law over such a Hook -/
namespace My
open PySem PySem.Spec PyProof.Rows L2
theorem walk_GX {l : PySem.W.OpenLaw} {n k : Nat} {q : Program} {loose : List Str} {XP : (Str → Option Value) → Heap → Prop} {YP : World → Heap → Prop} {d : DefRec} {x : Str}
    (hn : l.most = some n) (h2 : n ≤ sizeLine) (hd : d.params.defaults = []) (hr : Room k callerA)
    (F : ∀ (w : World) (mg : Str → Option Value) (fa : Addr) (h : Heap), YP w h → h.Ns mainGlobals mg → mg d.name = some (.ref fa) → ∃ K : PySem.W.Frag, K.In h ∧ LawAtG l w K k n x mg fa h) :
    PySem.W.WalkO q loose XP YP l.row.toRowW d [] (fun f vs => PySem.call f vs) :=
  Att.attach_callB hn hd fun w s₀ s mg mb fa o pm cd doc a vs ns G Y _ _ _ hmg hob hi hl hb hg =>
    let ⟨_, hK, _, cs, sp, ht, hk, hc, bd, hsp, hF⟩ := F w mg fa _ Y G.T.g hmg
    law_endT ⟨hK, G.T.g, G.T.b, G.T.builtins, G.T.nolimit, hg, hob⟩ ⟨ht, hk, hc, G.T.bmain⟩ hi (Nat.le_trans hl h2) hr hF bd (fun H h1 hS => hsp H a ns hl hb h1 hS) fun _ _ _ z => z
end My
set_option Elab.async false
set_option linter.all false
set_option maxRecDepth 100000
set_option maxHeartbeats 4000000
/-! OexIs: a Bool of a part of the heap: there is an exception's class with a dict, its next classes as `tl` asks. -/
namespace L2
open PySem PySem.Spec PyProof.Rows
def oexIn (K : PySem.W.Frag) (C : Addr) (newId : String) (tl : List Value → Bool) : Bool :=
  match K.lookup C with
  | some ⟨.type "type", _, .cls ⟨_, _, .ref C' :: bm, _, _, true, _, _, _, _, false⟩, ⟨[_, _, _, _, some (.builtin n), _]⟩⟩ => C' == C && (n == newId && tl bm)
  | _ => false
theorem oexIn_of {K : PySem.W.Frag} {C : Addr} {newId : String} {tl : List Value → Bool} (q : oexIn K C newId tl = true) :
    ∃ nm qn N bs bm sn sub ab col dd k0 k1 k2 k3 k5, K.lookup C = some (excClassObj nm qn C N bs bm true sn sub ab col dd k0 k1 k2 k3 k5 newId) ∧ tl bm = true := by
  unfold oexIn at q
  split at q
  · rename_i dd nm bs C' bm ns qn sn sub ab col k0 k1 k2 k3 n k5 ho
    rw [Bool.and_eq_true, Bool.and_eq_true, beq_iff_eq, beq_iff_eq] at q
    obtain ⟨rfl, rfl, ht⟩ := q
    exact ⟨_, _, _, _, _, _, _, _, _, _, _, _, _, _, _, ho, ht⟩
  · cases q
theorem oexC_of {K : PySem.W.Frag} {C : Addr} (q : oexIn K C "ValueError.__new__" PySem.HandSPX.refsVE = true) (sa : PySem.W.findIn K (.ref C) "__setattr__" = some (some (.builtin "object.__setattr__")))
    (exC : PySem.W.subIn K (.ref C) (.type "BaseException") = some true) (tyC : PySem.W.typeIn K (.ref C) = some (.type "type")) (kC : PySem.W.keepIn K (.ref C) = true) : OexC K C := ⟨oexIn_of q, sa, exC, tyC, kC⟩
/-! the same for a class over another built-in exception -/
structure OexB (K : PySem.W.Frag) (C : Addr) (bmB : List Value) (newId : String) : Prop where
  cls : ∃ nm q N bs bm sn sub ab col dd k0 k1 k2 k3 k5, K.lookup C = some (excClassObj nm q C N bs bm true sn sub ab col dd k0 k1 k2 k3 k5 newId) ∧ PySem.W.excTail bmB bm = true
  sa : PySem.W.findIn K (.ref C) "__setattr__" = some (some (.builtin "object.__setattr__"))
  exC : PySem.W.subIn K (.ref C) (.type "BaseException") = some true
  tyC : PySem.W.typeIn K (.ref C) = some (.type "type")
  kC : PySem.W.keepIn K (.ref C) = true
section
open Builtin Builtin.ObjectAttr PySem.W PySem.Calls PySem.HandSPX
variable {prog : Program} {w : World} {A : Around} {E : Value → Shared → Prop} {R : Result → Shared → Prop} {hp : Heap} {g : Array GenState} {d : Drawn} {t : Nat} {os : OsState}
theorem osaB {K : PySem.W.Frag} {name : Str} {tk : Tok} {v : Value} {x C : Addr} {fv : Array Value} {B : String} {bmB : List Value} (SF : StoreFacts B bmB "object.__setattr__" "object")
    (X : K.In hp) (hx : hp.get? x = some { cls := .ref C, data := .fields fv }) (ho : excOver K C bmB = true) {cd : ClassData} (hcd : clsIn K C = some cd) (hh : cd.hasDict = true) (ha : findIn K (.ref C) name = some none)
    (hq : ∀ h' tk' dx, (∀ b o, b ≠ x → hp.get? b = some o → h'.get? b = some o) → hp.objs.size ≤ dx → dx ≠ x → h'.get? x = some { cls := .ref C, dict := some dx, data := .fields fv } →
      h'.Ns1 dx (fun y => if y = name then some v else none) → R (.ok (.ret .none)) ⟨h', g, d, tk', os⟩) :
    codeAny (model prog w) A (.call (.builtin "object.__setattr__") ⟨[.ref x, .str name tk, v], []⟩) R ⟨hp, g, d, t, os⟩ := by
  have ht : takerIn K C name = some none := by
    unfold takerIn
    rw [ha]
    rfl
  refine osa_openX (s := ⟨hp, g, d, t, os⟩) SF X (od := none) ⟨hx, rfl, rfl, trivial⟩ ho ht fun b => ?_
  have hcls : Looks (model prog w) hp (classData C) cd := looks_clsIn X hcd
  have hxs : x ≠ hp.objs.size := Nat.ne_of_lt (Heap.lt_size hx)
  obtain ⟨nm, bs, mro, ns, qn, hd, sn, sb, ab, col, del⟩ := cd
  dsimp only at hh
  subst hh
  dsimp only
  unfold storeInOwnDict ownDictForStores
  repeat (first | with_reducible refine store_in_new ?_ ?_ | with_reducible refine wpAny_loadPart_at hx ?_ | with_reducible refine hcls.at ?_ | wp_step)
  · exact ⟨_, #[], _, (Heap.get?_update_ne _ _ _ _ hxs.symm).trans (Heap.get?_push_at rfl rfl), rfl, fun e he => absurd he (by simp), fun _ => rfl⟩
  · intro h' tk' hn' hs
    refine hq h' tk' hp.objs.size (fun b o hb ho => (hs.2 b (Nat.ne_of_lt (Heap.lt_size ho))).trans ((Heap.get?_update_ne _ _ _ _ hb).trans (Heap.get?_push_of_some _ ho))) (Nat.le_refl _) hxs.symm ?_ hn'
    exact (hs.2 x hxs).trans (Heap.get?_update_self _ (Heap.get?_push_of_some _ hx) rfl)
end

section
variable {X : Cx} {pins : List (Addr × Obj)} {σ : St} {H : Hp} {s : Shared} {a C dx : Addr} {f : Str} {y : V} {u : Value} {Q : Unit → Shared → Prop} {E : Value → Shared → Prop} {A : Around} {B newId initId : String} {bmB : List Value}
/-- the first field of an exception of such a class -/
theorem ostB (SF : PySem.StoreFacts B bmB "object.__setattr__" "object") (T : OexB X.K C bmB newId) (I : Inv X pins σ H s) (e : H a = some (exo a C none)) (hno : PySem.W.findIn X.K (.ref C) f = some none) (ry : RelV y u)
    (h : ∀ dx s', H dx = none → dx ≠ a → Inv X pins σ (upd (upd H dx (exd dx [(f, y)])) a (exo a C (some dx))) s' → Q () s') : wpAny (model X.prog X.w) A (setAttr (.ref a) f u) Q E s := by
  obtain ⟨nm, q, N, bs, bm, sn, sub, ab, col, dd, k0, k1, k2, k3, k5, hC, hbm⟩ := T.cls
  have hcl : PySem.W.clsIn X.K C = some { name := nm, bases := bs, mro := .ref C :: bm, ns := N, qualname := q, hasDict := true, slotNames := sn, subclasses := sub, abstract := ab, collection := col, hasDel := false } := by
    unfold PySem.W.clsIn
    rw [hC] <;> rfl
  have hov : PySem.W.excOver X.K C bmB = true := by
    unfold PySem.W.excOver
    rw [hcl]
    show ((C == C) && PySem.W.excTail bmB bm) = true
    rw [beq_self_eq_true, hbm]
    rfl
  obtain ⟨t1, ho⟩ := exo_at I.hok e
  obtain ⟨hp, g, d, t, os⟩ := s
  refine PySem.W.set_plain I.kIn (ox := { cls := .ref C, dict := none, data := .fields #[.ref t1, .none, .none, .none, .bool false, .none] }) (od := none) ⟨ho, rfl, rfl, trivial⟩ T.sa ?_
  refine osaB SF I.kIn ho hov hcl rfl hno (fun h' tk' dx k dn dne hx hn => ?_)
  have hnd : H dx = none := I.hok.fresh dn
  have old : ∀ {b : Addr} {o : HO}, H b = some o → b ≠ dx := fun {b o} q => ne_of_none q hnd
  have nd : ∀ {b : Addr} {o : Obj}, hp.get? b = some o → b ≠ dx := fun {b o} q => Nat.ne_of_lt (Nat.lt_of_lt_of_le (Heap.lt_size q) dn)
  have na : ∀ {b : Addr}, H b = none → b ≠ a := fun {b} n z => by
    rw [z, e] at n
    cases n
  have stays : ∀ {b : Addr} {o : HO}, H b = some o → b ≠ a → (upd (upd H dx (exd dx [(f, y)])) a (exo a C (some dx))) b = some o := fun {b o} q n => by rw [upd_ne n, upd_ne (old q)]; exact q
  show Q () _
  refine h dx _ hnd dne (I.un (t' := tk') (show Un X.fs [] H (upd (upd H dx (exd dx [(f, y)])) a (exo a C (some dx))) hp h' from {
    keep := fun b o q n _ _ => k b o (na n) q
    slot := fun b o q n _ _ => ⟨o.slots, k b o (na n) q⟩
    free := fun b o q n _ => by rw [upd_ne (na n), upd_ne (nd q)]; exact n
    there := fun b o q _ => (Decidable.em (b = a)).elim (fun z => ⟨_, z.symm ▸ hx⟩) fun z => ⟨o, k b o z q⟩
    tups := fun b xs q => stays q (at_ne e q exo_tup)
    frzs := fun b o v q => stays q (at_ne e q exo_frz)
    tbls := fun b ps q => ⟨#[], by rw [stays q (at_ne e q exo_tbl)]; simp⟩ }) fun b o q => ?_)
  by_cases hb : b = a
  · subst hb
    rw [upd_same] at q
    cases q
    exact exo_ok hx
  · rw [upd_ne hb] at q
    by_cases hd : b = dx
    · subst hd
      rw [upd_same] at q
      cases q
      exact exd_ok hn (relO_put (fs := []) ry fun g => True.intro)
    · rw [upd_ne hd] at q
      exact (I.hok b o q).stay (fun c v hc z => k c v (hc.elim (fun hc => hc ▸ hb) fun hc => at_ne e hc exo_own) z)
        (fun c hc => stays hc (at_ne e hc exo_own)) (fun c xs hc => stays hc (at_ne e hc exo_tup))
def tOstB (K : PySem.W.Frag) (bmB : List Value) (newId : String) (f : Str) (to te : TE) : TS := fun D σ H => te σ H fun y H1 => to σ H1 fun x H2 => ∃ a C : Addr, x = .ref a ∧ OexB K C bmB newId ∧ PySem.W.findIn K (.ref C) f = some none ∧
  (H2 a = some (exo a C none) ∧ ∀ dx, H2 dx = none → dx ≠ a → D.nx σ (upd (upd H2 dx (exd dx [(f, y)])) a (exo a C (some dx))))
theorem ps_ostB {o e : Expr} {to te : TE} {p' pos : Pos} (newId : String) (SF : PySem.StoreFacts B bmB "object.__setattr__" "object") (ho : PE X o to) (he : PE X e te) (hs : swapsWith e (some (.Attribute o f p')) pos.line X.env = pure false := by rfl) : PS X (.Assign [.Attribute o f p'] e pos) (tOstB X.K bmB newId f to te) := by
  refine ⟨fun pins s σ H D I h => ?_⟩
  refine plainObj_wpAny_Assign_Attribute (thn (he.run pins s σ H _ I h) fun v s1 ⟨y, H1, I1, r1, q1⟩ => thn (ho.run pins s1 σ H1 _ I1 q1) fun u s2 ⟨x, H2, I2, r2, a, C, ex, T, hno, ea, q⟩ => ?_) hs
  subst ex
  obtain rfl : u = Value.ref a := r2
  exact ostB SF T I2 ea hno r1 fun dx s' n ne J => ⟨σ, _, J, q dx n ne⟩
theorem pmk_oexB {CX : CXT} {x : Str} {fI : Addr} {k : Nat} {fd : FuncData} {ps : List Str} {sp : Sp} {ds : List Value} {dvs : List V} {p pos : Pos} {e : Expr} {es : List Expr} {ta : TA} (FB : PySem.ExcBaseFacts B newId initId bmB) (T : OexB X.K C bmB newId) (iC : PySem.W.findIn X.K (.ref C) "__init__" = some (some (.ref fI))) (tI : PySem.W.typeIn X.K (.ref fI) = some (.type "function"))
    (F1 : FnOk X.prog X.w X.K X.mg X.base CX k fI fd ps sp) (hr : Room (k + 1) X.A) (hb : Binds X.K fd ps ds) (hd : Vals dvs ds) (hx : Passes CX X (fun _ _ _ => False)) (hg : Gl X x) (hm : X.mg x = some (.ref C)) (ha : PA X (e :: es) ta)
    (hdb : (x == ("__debug__" : Str)) = false := by decide) (he : starEach (e :: es) X.env = (false, eval e X.env) :: starEach es X.env := by rfl) (hpl : (backTo pos (starEach es X.env)).any (·.1) = false := by rfl) :
    PMk X (.Call (.Name x p) (e :: es) [] pos) (tMkO C sp dvs ta) := by
  intro pins s σ H Q I h
  obtain ⟨nm, q, N, bs, bm, sn, sub, ab, col, dd, k0, k1, k2, k3, k5, hC, hbm⟩ := T.cls
  refine wpAny_Call_Name_kw (ld_glob I hg hm ?_ hdb)
  refine PySem.W.callWith_K (h₀ := X.base) I.ok.mod.kin T.kC (thn (ha.run pos pins s σ H _ I h) fun us s1 ⟨vs, H1, I1, r1, hz, q1⟩ => ⟨I1.kIn, ?_⟩) he hpl
  show wpAny _ _ (call (.ref C) us) _ _ _
  obtain ⟨hp, g, dr, tk, os⟩ := s1
  have hsz : hp.objs.size ≤ hp.objs.size + 1 := Nat.le_succ _
  have hq := q1 (hp.objs.size + 1) (I1.hok.fresh hsz)
  have I2 := I1.laid (t' := tk) (a := hp.objs.size + 1) (o := exo (hp.objs.size + 1) C none) (h' := (hp.push (PySem.W.kdv_tup us)).push (PySem.HandSPX.excO C hp.objs.size))
    (fun b o e => Heap.get?_push_of_some _ (Heap.get?_push_of_some _ e)) hsz (exo_ok (t1 := hp.objs.size) (by heap_get))
  have r2 : Vals (V.ref (hp.objs.size + 1) :: (vs ++ dvs)) (Value.ref (hp.objs.size + 1) :: (us ++ ds)) := .cons rfl (r1.append hd)
  have hl : (Value.ref (hp.objs.size + 1) :: us ++ ds).length = ps.length := by
    have e := r2.length
    rw [F1.len _ _ _ _ hq] at e
    exact e.symm
  have hus : us.length ≤ sizeLine := by
    rw [← Paired.length r1, sizeLine_eq]
    omega
  refine wpAny_call (PySem.HandSPX.call_own FB (fun Y => PySem.W.excTail_contains Y bm hbm) (I1.kIn _ _ hC) (PySem.W.looks_findIn I1.kIn iC) (fun self => PySem.W.bind_fn I1.kIn self tI) hus
    (codeAny_mono (F1.run _ X.stack _ _ ⟨Value.ref (hp.objs.size + 1) :: us, []⟩ (Value.ref (hp.objs.size + 1) :: (us ++ ds)) _ _ (fun _ _ _ => False) (hr.make C us []) (I2.env0.make C us []) (hb _ (Value.ref (hp.objs.size + 1) :: us) I2.kIn hl) r2 hq) fun r s' hq' => ?_))
  cases r with
  | error er => exact hx pins σ _ _ er s' I2 hq'
  | ok fl =>
    cases fl with
    | ret u =>
      obtain ⟨v, H2, os2, bare2, un2, hok2, rv, ev, d, fs, ea, ed, hd1, q2⟩ := hq'
      subst ev
      obtain ⟨h2, g2, d2, t2, os'⟩ := s'
      exact ⟨rv, mk_end (raises_own T.exC T.tyC) I1 hsz (fun b o e => Heap.get?_push_of_some _ (Heap.get?_push_of_some _ e)) un2 hok2 os2 bare2 ea ed hd1 q2⟩
    | _ => exact False.elim hq'
end
end L2
set_option Elab.async false
set_option linter.all false
set_option maxRecDepth 100000
set_option maxHeartbeats 4000000
/-! a module's dict of eighteen pairs whose keys are pairs of texts: what its statement leaves, exactly -/
noncomputable section
namespace Hm
open PySem PySem.W PySem.Calls PyProof.Rows HandSHeadRun
/-- a pair of texts and its text -/
structure Tri where
  a : Str
  b : Str
  v : Str
def Tri.key (t : Tri) : List Str := [t.a, t.b]
abbrev kd (prog : Program) (w : World) : HeapKind prog w (List Str) := tupleKind (strKind prog w)
def tupO (t : Tri) (k : Nat) : Obj := { cls := .type "tuple", data := .seq #[.str t.a k, .str t.b (k + 1)] }
def newD : Obj := { cls := .type "dict", data := .dict #[] }
/-- the entry of a pair whose tuple stands at a; k: the token of its first text -/
def entT (prog : Program) (w : World) (t : Tri) (a : Addr) (k : Nat) : DictEntry := ⟨(kd prog w).hash t.key, .ref a, .str t.v (k + 2)⟩
def putT (prog : Program) (w : World) (t : Tri) (a : Addr) (k : Nat) : Obj → Obj := Obj.mapDictKeys fun es => es.push (entT prog w t a k)
/-- one pair more -/
def stepS (prog : Program) (w : World) (d : Addr) (t : Tri) (s : Shared) : Shared :=
  { s with heap := (s.heap.push (tupO t s.toks)).update d (putT prog w t s.heap.objs.size s.toks), toks := s.toks + 6 }
section
variable {prog : Program} {w : World} {A : Around} {E : Value → Shared → Prop}
abbrev trip (t : Tri) (a : Addr) (k : Nat) : List Str × Addr × Value := (t.key, a, .str t.v (k + 2))
theorem is_tup {h : Heap} {t : Tri} {a : Addr} {k : Nat} (e : h.get? a = some (tupO t k)) : (kd prog w).is h t.key a :=
  ⟨_, _, _, e, rfl, rfl, .cons (by show (t.a == t.a) = true; exact beq_iff_eq.mpr rfl) (.cons (by show (t.b == t.b) = true; exact beq_iff_eq.mpr rfl) .nil)⟩
theorem get_push {h : Heap} {o : Obj} (nf : o.isFreed = false) : (h.push o).get? h.objs.size = some o := Heap.get?_push_size _ nf
/-- a new key is put -/
theorem put_new {d a : Addr} {xs : List (List Str × Addr × Value)} {t : Tri} {k : Nat} {s : Shared} {Q : Unit → Shared → Prop} (hu : A.units < cLine) (hkey : (kd prog w).is s.heap t.key a) (hm : s.heap.DictOfH (kd prog w) d xs) (new : t.key ∉ xs.map (·.1)) (hsz : xs.length ≤ 100)
    (hQ : (s.heap.update d (putT prog w t a k)).DictOfH (kd prog w) d (xs ++ [trip t a k]) → Q () { s with heap := s.heap.update d (putT prog w t a k) }) :
    wpAny (model prog w) A (do
      match ← dictFind d (.ref a) ((kd prog w).hash t.key) with
      | some i => updateDict d (·.modify i fun e => { e with val := .str t.v (k + 2) })
      | none => updateDictKeys d (·.push ⟨(kd prog w).hash t.key, .ref a, .str t.v (k + 2)⟩) : Sem Unit) Q E s ∧
    (∀ part, wpAny (model prog w) A (updateDictKeys d (·.push ⟨(kd prog w).hash t.key, .ref a, .str t.v (k + 2)⟩) part) Q E s) := by
  obtain ⟨o, es, ep, ho, hc, hd, he, his, hn⟩ := hm
  have hes : es.size = xs.length := by
    have := congrArg List.length he
    rw [List.length_map] at this
    simpa using this
  have upd : ∀ part, wpAny (model prog w) A (updateDictKeys d (·.push ⟨(kd prog w).hash t.key, .ref a, .str t.v (k + 2)⟩) part) Q E s := fun part => by
    refine wpAny_updateDictKeysTo ho hd (hQ ⟨_, _, ep + 1, Heap.get?_update_self _ ho (Obj.isFreed_of_dict (Obj.data_mapDictKeys hd _)), hc.mapDictKeys _, Obj.data_mapDictKeys hd _, ?_, ?_, ?_⟩) ?_
    · rw [List.map_append, ← he]
      simp [entT, entryOfKey]
    · intro x hx
      rcases List.mem_append.mp hx with hx | hx
      · exact (kd prog w).keeps (his x hx) ho hd (Heap.SameBut.update ..)
      · rw [List.mem_singleton.mp hx]
        exact (kd prog w).keeps hkey ho hd (Heap.SameBut.update ..)
    · rw [List.map_append, List.nodup_append]
      refine ⟨hn, List.nodup_cons.mpr ⟨List.not_mem_nil, List.nodup_nil⟩, fun x hx y hy => ?_⟩
      rw [List.map_cons, List.map_nil, List.mem_singleton] at hy
      subst hy
      exact fun z => new (by rw [← show x = t.key from z]; exact hx)
    · rw [Array.size_push, hes, sizeLine_eq]
      omega
  refine ⟨wpAny_bind (wpAny_dictFind_heap hu hkey ho hd he his hn (fun hno => upd none) fun j p hj => ?_), upd⟩
  exact absurd (List.mem_map.mpr ⟨_, List.mem_of_getElem? hj, rfl⟩) new
theorem set_new {d a : Addr} {xs : List (List Str × Addr × Value)} {t : Tri} {k : Nat} {s : Shared} {Q : Unit → Shared → Prop} (hu : A.units < cLine) (hkey : (kd prog w).is s.heap t.key a) (hm : s.heap.DictOfH (kd prog w) d xs) (new : t.key ∉ xs.map (·.1)) (hsz : xs.length ≤ 100)
    (hQ : (s.heap.update d (putT prog w t a k)).DictOfH (kd prog w) d (xs ++ [trip t a k]) → Q () { s with heap := s.heap.update d (putT prog w t a k), toks := s.toks + 3 }) :
    wpAny (model prog w) A (dictSet d (.ref a) (.str t.v (k + 2))) Q E s := by
  have pn := put_new (k := k) (E := E) (s := { s with toks := s.toks + 3 }) (Q := Q) hu hkey hm new hsz hQ
  obtain ⟨o, es, ep, ho, hc, hd, he, his, hn⟩ := hm
  unfold dictSet
  refine wpAny_holding (wpAny_bind ((kd prog w).pyHash hu hkey ?_))
  unfold dictSetHashed
  refine wpAny_holding (wpAny_bind (wpAny_dictFind_heap (s := { s with toks := s.toks + 3 }) hu hkey ho hd he his hn (fun hno => wpAny_bind (wpAny_rule (pn.2 _))) fun j p hj => ?_))
  exact absurd (List.mem_map.mpr ⟨_, List.mem_of_getElem? hj, rfl⟩) new
/-- a pair as it is evaluated -/
structure PairT (prog : Program) (w : World) (A : Around) (x : Sem Value × Sem Value) (t : Tri) : Prop where
  key : ∀ {E : Value → Shared → Prop} {s : Shared} {Q : Value → Shared → Prop}, Q (.ref s.heap.objs.size) { s with heap := s.heap.push (tupO t s.toks), toks := s.toks + 2 } → wpAny (model prog w) A x.1 Q E s
  val : ∀ {E : Value → Shared → Prop} {s : Shared} {Q : Value → Shared → Prop}, Q (.str t.v s.toks) { s with toks := s.toks + 1 } → wpAny (model prog w) A x.2 Q E s
theorem dict_push {h : Heap} {d : Addr} {xs : List (List Str × Addr × Value)} {o : Obj} (hm : h.DictOfH (kd prog w) d xs) : (h.push o).DictOfH (kd prog w) d xs := by
  obtain ⟨x, es, ep, ho, hc, hd, he, his, hn⟩ := hm
  refine ⟨x, es, ep, Heap.get?_push_of_some o ho, hc, hd, he, fun y hy => ?_, hn⟩
  obtain ⟨ob, items, n, e1, e2, e3, e4⟩ := his y hy
  exact ⟨ob, items, n, Heap.get?_push_of_some o e1, e2, e3, e4⟩
/-- the long way: pair by pair -/
theorem loop_long {d : Addr} (hu : A.units < cLine) : ∀ (ps : List (Sem Value × Sem Value)) (ts : List Tri) (xs : List (List Str × Addr × Value)) (s : Shared) (Q : PUnit → Shared → Prop), ps.length = ts.length → (∀ (i : Nat) (x : Sem Value × Sem Value) (t : Tri), ps[i]? = some x → ts[i]? = some t → PairT prog w A x t) → s.heap.DictOfH (kd prog w) d xs →
    (xs.map (·.1) ++ ts.map Tri.key).Nodup → xs.length + ts.length ≤ 100 → (∀ xs', (ts.foldl (fun s t => stepS prog w d t s) s).heap.DictOfH (kd prog w) d xs' → xs'.map (·.1) = xs.map (·.1) ++ ts.map Tri.key → xs'.length = xs.length + ts.length → Q PUnit.unit (ts.foldl (fun s t => stepS prog w d t s) s)) →
    wpAny (model prog w) A (forIn ps PUnit.unit fun (x : Sem Value × Sem Value) (_ : PUnit) => (do
        let kv ← x.1
        let vv ← holding [kv] x.2
        holding [kv, vv] (dictSet d kv vv)
        pure (ForInStep.yield PUnit.unit) : Sem (ForInStep PUnit))) Q E s
  | [], [], xs, s, Q, _, _, hm, _, _, hQ => by
    rw [List.forIn_nil]
    exact wpAny_pure (hQ xs hm (by simp) rfl)
  | [], t :: r, _, _, _, h, _, _, _, _, _ => by simp at h
  | x :: r, [], _, _, _, h, _, _, _, _, _ => by simp at h
  | x :: r, t :: rt, xs, s, Q, hl, hp, hm, nd, hz, hQ => by
    rw [List.forIn_cons]
    have hpt := hp 0 x t rfl rfl
    refine wpAny_bind (wpAny_bind (hpt.key (wpAny_bind (wpAny_holding (hpt.val (wpAny_bind (wpAny_holding ?_)))))))
    have ndt : t.key ∉ xs.map (·.1) := fun z => by
      rw [List.nodup_append] at nd
      exact nd.2.2 _ z _ (List.mem_map.mpr ⟨t, List.mem_cons_self, rfl⟩) rfl
    rw [List.length_cons] at hz
    refine set_new (k := s.toks) (s := { s with heap := s.heap.push (tupO t s.toks), toks := s.toks + 2 + 1 }) hu (is_tup (get_push rfl)) (dict_push hm) ndt (by omega) fun hm' => wpAny_pure ?_
    refine loop_long hu r rt (xs ++ [trip t s.heap.objs.size s.toks]) (stepS prog w d t s) Q (by simpa using hl) (fun i y u hy hu' => hp (i + 1) y u hy hu') hm' ?_ ?_ fun xs' h1 h2 h3 => hQ xs' h1 ?_ ?_
    · rw [List.map_append, List.append_assoc]
      exact nd
    · rw [List.length_append]
      show _ + 1 + _ ≤ _
      omega
    · rw [h2, List.map_append, List.append_assoc]
      rfl
    · have e1 : (xs ++ [trip t s.heap.objs.size s.toks]).length = xs.length + 1 := by
        rw [List.length_append]
        rfl
      rw [h3, e1, List.length_cons]
      omega
theorem iter_dict : typeLookup (.type "dict") "__iter__" = pure (some (.builtin "dict.__iter__")) := by
  rw [typeLookup_type]
  kernel_rfl
theorem dict_new (h : Heap) : (h.push newD).DictOfH (kd prog w) h.objs.size [] := Heap.DictOfH.new h
theorem sub_long {ps : List (Sem Value × Sem Value)} {ts : List Tri} {s : Shared} {Q : Addr → Shared → Prop} (hu : A.units < cLine) (hl : ps.length = ts.length) (h15 : ¬ ps.length ≤ 15) (hp : ∀ (i : Nat) (x : Sem Value × Sem Value) (t : Tri), ps[i]? = some x → ts[i]? = some t → PairT prog w A x t)
    (nd : (ts.map Tri.key).Nodup) (hz : ts.length ≤ 100)
    (hQ : ∀ xs', (ts.foldl (fun s' t => stepS prog w s.heap.objs.size t s') { s with heap := s.heap.push newD }).heap.DictOfH (kd prog w) s.heap.objs.size xs' → xs'.map (·.1) = ts.map Tri.key → xs'.length = ts.length → Q s.heap.objs.size (ts.foldl (fun s' t => stepS prog w s.heap.objs.size t s') { s with heap := s.heap.push newD })) :
    wpAny (model prog w) A (subDict ps) Q E s := by
  unfold subDict
  refine wpAny_bind (wpAny_alloc (wpAny_bind (wpAny_holding ?_)))
  rw [if_neg h15]
  refine wpAny_bind (wpAny_rule (wpAny_bind ?_))
  refine loop_long hu ps ts [] { s with heap := s.heap.push newD } _ hl hp (dict_new _) ?_ ?_ fun xs' h1 h2 h3 => wpAny_pure (wpAny_pure (hQ xs' h1 ?_ ?_))
  · exact nd
  · show 0 + _ ≤ _
    omega
  · exact h2
  · rw [h3]
    show 0 + _ = _
    omega
theorem sub_one {x : Sem Value × Sem Value} {t : Tri} {s : Shared} {Q : Addr → Shared → Prop} (hu : A.units < cLine) (hp : PairT prog w A x t)
    (hQ : (stepS prog w s.heap.objs.size t { s with heap := s.heap.push newD }).heap.DictOfH (kd prog w) s.heap.objs.size [trip t (s.heap.push newD).objs.size s.toks] → Q s.heap.objs.size (stepS prog w s.heap.objs.size t { s with heap := s.heap.push newD })) :
    wpAny (model prog w) A (subDict [x]) Q E s := by
  unfold subDict
  refine wpAny_bind (wpAny_alloc (wpAny_bind (wpAny_holding ?_)))
  rw [if_pos (show [x].length ≤ 15 by show 1 ≤ 15; decide)]
  refine wpAny_bind ?_
  refine wpAny_bind (hp.key (s := { s with heap := s.heap.push newD }) (wpAny_bind (wpAny_holding (hp.val (wpAny_bind (wpAny_holding (wpAny_pure (wpAny_pure ?_))))))))
  refine wpAny_holding (wpAny_bind ?_)
  rw [List.forIn_cons]
  refine wpAny_bind (wpAny_bind ?_)
  refine set_new (k := s.toks) (s := { s with heap := (s.heap.push newD).push (tupO t s.toks), toks := s.toks + 2 + 1 }) hu (is_tup (get_push rfl)) (dict_push (dict_new _)) (fun z => by cases z) (by show 0 ≤ 100; decide) fun hm' => wpAny_pure ?_
  dsimp only
  rw [List.forIn_nil]
  exact wpAny_pure (wpAny_pure (wpAny_pure (hQ hm')))
/-- one dict of one pair is merged into another -/
theorem merge_one {d sub a : Addr} {xs : List (List Str × Addr × Value)} {t : Tri} {k : Nat} {s : Shared} {Q : Unit → Shared → Prop} (hu : A.units < cLine) (hm : s.heap.DictOfH (kd prog w) d xs) (hs : s.heap.DictOfH (kd prog w) sub [trip t a k]) (ne : d ≠ sub) (ns : sub ≠ sysModules) (nx : xs ≠ []) (new : t.key ∉ xs.map (·.1)) (hsz : xs.length ≤ 100)
    (hQ : Q () { s with heap := s.heap.update d (putT prog w t a k) }) : wpAny (model prog w) A (mergeMapping d (.ref sub) false) Q E s := by
  have hkey : (kd prog w).is s.heap t.key a := by
    obtain ⟨_, _, _, _, _, _, _, his, _⟩ := id hs
    exact his _ List.mem_cons_self
  obtain ⟨o, es, ep, ho, hc, hd, he, his, hn⟩ := id hm
  obtain ⟨o2, es2, ep2, ho2, hc2, hd2, he2, his2, hn2⟩ := id hs
  have e2 : es2[0]? = some ⟨(kd prog w).hash t.key, .ref a, .str t.v (k + 2)⟩ := by
    rw [entry_at he2 0]
    rfl
  have z2 : es2.size = 1 := by
    have := congrArg List.length he2
    simpa using this
  have z1 : es.isEmpty = false := by
    have := congrArg List.length he
    rw [List.length_map] at this
    have p : 0 < xs.length := List.length_pos_iff.mpr nx
    rw [Array.isEmpty_eq_false_iff]
    intro z
    rw [z] at this
    simp at this
    omega
  unfold mergeMapping
  refine wpAny_bind (wpAny_isInstance hs.typeIs isSubtype_dict_dict ?_)
  rw [if_pos rfl]
  refine wpAny_bind (wpAny_specialOf hs.typeIs iter_dict ?_)
  have eb : ((some (Value.builtin "dict.__iter__")) == some (.builtin "dict.__iter__")) = true := by decide
  rw [eb]
  refine wpAny_bind (wpAny_pure ?_)
  dsimp only
  rw [if_neg (show ¬ (sub == sysModules) = true from fun z => ns (beq_iff_eq.mp z))]
  refine wpAny_bind (wpAny_dictEntries ho hd ?_)
  rw [z1]
  rw [if_neg (show ¬ (false : Bool) = true by decide)]
  refine wpAny_bind (wpAny_dictEntries ho2 hd2 ?_)
  rw [z2]
  refine wpAny_bind (wpAny_dictEpoch ho2 hd2 ?_)
  rw [show List.range 1 = [0] from rfl, List.forIn_cons]
  refine wpAny_bind (wpAny_bind (wpAny_bind (wpAny_dictEntries ho2 hd2 ?_)))
  rw [e2]
  dsimp only
  rw [if_neg (show ¬ (false : Bool) = true by decide)]
  refine wpAny_bind (wpAny_holding ?_)
  unfold dictPut
  have pn := put_new (k := k) (E := E) (s := s) hu hkey hm new hsz (Q := fun _ s' => s' = { s with heap := s.heap.update d (putT prog w t a k) }) fun _ => rfl
  refine wpAny_mono pn.1 (fun _ s' e => ?_) fun _ _ e => e
  subst e
  have ho3 : (s.heap.update d (putT prog w t a k)).get? sub = some o2 := (Heap.get?_update_ne _ _ _ _ ne.symm).trans ho2
  refine wpAny_bind (wpAny_dictEpoch ho3 hd2 ?_)
  rw [if_neg (show ¬ (ep2 != ep2) = true by simp)]
  refine wpAny_pure ?_
  dsimp only
  rw [List.forIn_nil]
  exact wpAny_pure (wpAny_pure hQ)
theorem gather2 (f : (Option (Sem Value) × Sem Value) → (Option Addr × List (Sem Value × Sem Value)) → Sem (ForInStep (Option Addr × List (Sem Value × Sem Value))))
    (hf : ∀ (p : Sem Value × Sem Value) (run : List (Sem Value × Sem Value)), run.length + 1 < 17 → f (some p.1, p.2) (none, run) = pure (.yield (none, run ++ [p]))) (rest : List (Option (Sem Value) × Sem Value)) :
    ∀ (l run : List (Sem Value × Sem Value)), run.length + l.length < 17 → forIn (l.map (fun p => (some p.1, p.2)) ++ rest) ((none : Option Addr), run) f = forIn rest ((none : Option Addr), run ++ l) f
  | [], run, _ => by rw [List.append_nil]; rfl
  | p :: r, run, h => by
    rw [List.length_cons] at h
    rw [List.map_cons, List.cons_append, List.forIn_cons, hf p run (by omega), pure_bind]
    have z := gather2 f hf rest r (run ++ [p]) (by rw [List.length_append]; show _ + 1 + _ < _; omega)
    rw [List.append_assoc] at z
    exact z
/-- what a display of eighteen leaves -/
def dispS (prog : Program) (w : World) (ts : List Tri) (t : Tri) (s : Shared) : Shared :=
  let d := s.heap.objs.size
  let s1 := ts.foldl (fun s' t => stepS prog w d t s') { s with heap := s.heap.push newD }
  let b := s1.heap.objs.size
  let s2 := stepS prog w b t { s1 with heap := s1.heap.push newD }
  { s2 with heap := s2.heap.update d (putT prog w t (s1.heap.push newD).objs.size s1.toks) }
theorem size_step {d : Addr} {t : Tri} {s : Shared} : (stepS prog w d t s).heap.objs.size = s.heap.objs.size + 1 := by
  show ((s.heap.push (tupO t s.toks)).update d _).objs.size = _
  rw [Heap.size_update, Heap.size_push]
theorem size_fold {d : Addr} : ∀ (ts : List Tri) (s : Shared), (ts.foldl (fun s' t => stepS prog w d t s') s).heap.objs.size = s.heap.objs.size + ts.length
  | [], s => rfl
  | t :: r, s => by
    rw [List.foldl_cons, size_fold r, size_step, List.length_cons]
    omega
theorem dict_upd {h : Heap} {d b : Addr} {xs ys : List (List Str × Addr × Value)} {f : Obj → Obj} (hm : h.DictOfH (kd prog w) d xs) (hb : h.DictOfH (kd prog w) b ys) (ne : d ≠ b) : (h.update b f).DictOfH (kd prog w) d xs := by
  obtain ⟨o, es, ep, ho, hc, hd, he, his, hn⟩ := hm
  obtain ⟨o2, es2, ep2, ho2, hc2, hd2, he2, his2, hn2⟩ := hb
  exact ⟨o, es, ep, (Heap.get?_update_ne _ _ _ _ ne).trans ho, hc, hd, he, fun x hx => (kd prog w).keeps (his x hx) ho2 hd2 (Heap.SameBut.update ..), hn⟩
theorem display18 {l : List (Sem Value × Sem Value)} {y x : Sem Value × Sem Value} {ts : List Tri} {t : Tri} {s : Shared} {Q : Value → Shared → Prop} (hu : A.units < cLine) (h16 : l.length = 16) (hts : ts.length = 17) (hp : ∀ (i : Nat) (z : Sem Value × Sem Value) (u : Tri), (l ++ [y])[i]? = some z → ts[i]? = some u → PairT prog w A z u) (hx : PairT prog w A x t)
    (nd : ((ts ++ [t]).map Tri.key).Nodup) (big : sysModules < s.heap.objs.size) (hQ : Q (.ref s.heap.objs.size) (dispS prog w ts t s)) :
    wpAny (model prog w) A (dictDisplay ((l ++ [y, x]).map fun p => (some p.1, p.2))) Q E s := by
  unfold dictDisplay
  dsimp only
  rw [List.map_append, gather2 _ (fun p run h => by
    have hne : ((run ++ [(p.1, p.2)]).length == 17) = false := by simp; omega
    simp only [hne, Bool.false_eq_true, if_false]) _ l [] (by show 0 + _ < _; omega)]
  rw [List.map_cons, List.map_cons, List.map_nil, List.forIn_cons]
  refine wpAny_bind (wpAny_bind ?_)
  dsimp only
  have c17 : (([] ++ l ++ [(y.fst, y.snd)]).length == 17) = true := by simp [h16]
  have ce : ¬ ([] ++ l ++ [(y.fst, y.snd)]).isEmpty = true := by simp
  rw [if_pos c17, if_neg ce]
  refine wpAny_bind (wpAny_bind ?_)
  have e17 : (l ++ [y]).length = 17 := by rw [List.length_append, h16]; rfl
  have ndl : (ts.map Tri.key).Nodup := by
    rw [List.map_append] at nd
    exact (List.nodup_append.mp nd).1
  have ndt : t.key ∉ ts.map Tri.key := fun z => by
    rw [List.map_append] at nd
    exact (List.nodup_append.mp nd).2.2 _ z _ (List.mem_map.mpr ⟨t, List.mem_cons_self, rfl⟩) rfl
  refine sub_long (ps := l ++ [y]) (ts := ts) hu (e17.trans hts.symm) (by rw [e17]; decide) hp ndl (by omega) fun xs hm hk hlx => ?_
  refine wpAny_pure (wpAny_pure ?_)
  dsimp only
  rw [List.forIn_cons]
  refine wpAny_bind ?_
  dsimp only
  have c1 : ¬ (([] ++ [(x.fst, x.snd)]).length == 17) = true := by simp
  rw [if_neg c1]
  refine wpAny_pure ?_
  dsimp only
  rw [List.forIn_nil]
  refine wpAny_pure ?_
  have ci : ¬ (some s.heap.objs.size, [] ++ [(x.fst, x.snd)]).snd.isEmpty = true := by simp
  refine wpAny_bind ?_
  rw [if_neg ci]
  dsimp only
  have sz := size_fold (prog := prog) (w := w) (d := s.heap.objs.size) ts { s with heap := s.heap.push newD }
  have sp : (s.heap.push newD).objs.size = s.heap.objs.size + 1 := Heap.size_push ..
  have hQ2 : Q (.ref s.heap.objs.size) (dispS prog w ts t s) := hQ
  unfold dispS at hQ2
  dsimp only at hQ2
  generalize ts.foldl (fun s' t => stepS prog w s.heap.objs.size t s') { s with heap := s.heap.push newD } = s1 at hm sz hQ2
  have sz : s1.heap.objs.size = s.heap.objs.size + 1 + ts.length := sz.trans (by rw [show ({ s with heap := s.heap.push newD } : Shared).heap.objs.size = _ from sp])
  have ne : s.heap.objs.size ≠ s1.heap.objs.size := by omega
  have nsy : s1.heap.objs.size ≠ sysModules := by
    have b1 : (1 : Nat) < s.heap.objs.size := big
    exact Nat.ne_of_gt (show (1 : Nat) < s1.heap.objs.size by omega)
  refine wpAny_bind (wpAny_holding (sub_one hu hx fun hb => ?_))
  have hm2 : (stepS prog w s1.heap.objs.size t { s1 with heap := s1.heap.push newD }).heap.DictOfH (kd prog w) s.heap.objs.size xs := dict_upd (dict_push (dict_push hm)) (dict_push (dict_new _)) ne
  refine wpAny_bind (wpAny_onRaise (wpAny_holding (merge_one hu hm2 hb ne nsy (fun z => ?_) (by rw [hk]; exact ndt) (by omega) ?_)))
  · rw [z] at hlx
    rw [hts] at hlx
    cases hlx
  · exact wpAny_pure (wpAny_pure hQ2)
end
end Hm
set_option Elab.async false
set_option linter.all false
set_option maxRecDepth 100000
set_option maxHeartbeats 4000000
/-! the statement, and its state as a tree -/
noncomputable section
namespace Hm
open PySem PySem.W PySem.Calls PyProof.Rows HandSHeadRun
def triE : Option Expr → Expr → Option Tri
  | some (.Tuple [.Constant (.str a) _ _, .Constant (.str b) _ _] _ _), .Constant (.str v) _ _ => some ⟨a, b, v⟩
  | _, _ => none
def trisE : List (Option Expr) → List Expr → Option (List Tri)
  | [], [] => some []
  | k :: ks, v :: vs => match triE k v, trisE ks vs with
    | some t, some ts => some (t :: ts)
    | _, _ => none
  | _, _ => none
section
variable {prog : Program} {w : World} {A : Around} {E : Value → Shared → Prop}
theorem triE_of {k : Option Expr} {v : Expr} {t : Tri} (h : triE k v = some t) : ∃ k1 p1 k2 p2 k3 p3 k4 p4, k = some (.Tuple [.Constant (.str t.a) k1 p1, .Constant (.str t.b) k2 p2] k3 p3) ∧ v = .Constant (.str t.v) k4 p4 := by
  unfold triE at h
  split at h
  · cases h
    exact ⟨_, _, _, _, _, _, _, _, rfl, rfl⟩
  · cases h
theorem pair_of {k : Expr} {v : Expr} {t : Tri} {env : Env} {pos : Pos} (h : triE (some k) v = some t) : PairT prog w A (eval k env, do let x ← eval v env; standAt pos; pure x) t := by
  obtain ⟨k1, p1, k2, p2, k3, p3, k4, p4, ek, ev⟩ := triE_of h
  cases ek
  subst ev
  refine ⟨fun {E s Q} q => ?_, fun {E s Q} q => ?_⟩
  · refine wpAny_Tuple (k := k3) ?_
    show wpAny (model prog w) A (do
      let v ← eval (.Constant (.str t.a) k1 p1) env
      let here ← (pure [v] : Sem (List Value))
      return here ++ (← holding here (do
        let v ← eval (.Constant (.str t.b) k2 p2) env
        let here ← (pure [v] : Sem (List Value))
        return here ++ (← holding here (pure []))))) _ E s
    refine wpAny_bind (wpAny_Constant_str (wpAny_bind (wpAny_pure (wpAny_bind (wpAny_holding (wpAny_bind (wpAny_Constant_str (wpAny_bind (wpAny_pure (wpAny_bind (wpAny_holding (wpAny_pure (wpAny_pure (wpAny_pure ⟨by show 2 ≤ sizeLine; decide, q⟩))))))))))))))
  · exact wpAny_bind (wpAny_Constant_str (wpAny_bind (wpAny_standAt (wpAny_pure q))))
theorem trees_of {env : Env} {pos : Pos} : ∀ {ks : List (Option Expr)} {vs : List Expr} {ts : List Tri}, trisE ks vs = some ts → ks.all (·.isSome) = true ∧ ks.length = vs.length ∧ (pairTrees ks vs env pos).length = ts.length ∧
    ∀ (i : Nat) (z : Sem Value × Sem Value) (u : Tri), (pairTrees ks vs env pos)[i]? = some z → ts[i]? = some u → PairT prog w A z u
  | [], [], ts, h => by
    cases h
    exact ⟨rfl, rfl, rfl, fun i z u e _ => by cases i <;> cases e⟩
  | [], v :: vs, ts, h => by cases h
  | k :: ks, [], ts, h => by cases h
  | k :: ks, v :: vs, ts, h => by
    have h1 : (match triE k v, trisE ks vs with
      | some t, some ts => some (t :: ts)
      | _, _ => none) = some ts := h
    cases e1 : triE k v with
    | none => rw [e1] at h1; cases h1
    | some t =>
      cases e2 : trisE ks vs with
      | none => rw [e1, e2] at h1; cases h1
      | some r =>
        rw [e1, e2] at h1
        obtain rfl := Option.some.inj h1
        obtain ⟨a, b, c, d⟩ := trees_of (env := env) (pos := pos) e2
        obtain ⟨k1, p1, k2, p2, k3, p3, k4, p4, ek, ev⟩ := triE_of e1
        subst ek
        refine ⟨a, congrArg (· + 1) b, congrArg (· + 1) c, fun i z u ez eu => ?_⟩
        cases i with
        | zero =>
          cases ez
          cases eu
          exact pair_of e1
        | succ i => exact d i z u ez eu
theorem last_two {α : Type} : ∀ (n : Nat) (l : List α), l.length = n + 2 → ∃ a y x, l = a ++ [y, x] ∧ a.length = n
  | 0, l, h => by
    match l, h with
    | [y, x], _ => exact ⟨[], y, x, rfl, rfl⟩
  | n + 1, [], h => by cases h
  | n + 1, z :: r, h => by
    obtain ⟨a, y, x, e, l⟩ := last_two n r (by simpa using h)
    exact ⟨z :: a, y, x, by rw [e]; rfl, by rw [List.length_cons, l]⟩
theorem eval_disp {env : Env} {ks : List (Option Expr)} {vs : List Expr} {pos : Pos} {ts : List Tri} {t : Tri} {s : Shared} {Q : Value → Shared → Prop} (hu : A.units < cLine) (ht : trisE ks vs = some (ts ++ [t])) (h17 : ts.length = 17) (nd : ((ts ++ [t]).map Tri.key).Nodup) (big : sysModules < s.heap.objs.size)
    (hQ : Q (.ref s.heap.objs.size) (dispS prog w ts t s)) : wpAny (model prog w) A (eval (.Dict ks vs pos) env) Q E s := by
  obtain ⟨h1, h2, h3, h4⟩ := trees_of (prog := prog) (w := w) (A := A) (env := env) (pos := pos) ht
  rw [arm_eval_Dict, zip_pairTrees _ _ _ _ h1 h2]
  refine wpAny_bind (wpAny_standAt ?_)
  have h18 : (pairTrees ks vs env pos).length = 16 + 2 := by rw [h3, List.length_append, h17]; rfl
  obtain ⟨l, y, x, e, l16⟩ := last_two 16 _ h18
  rw [e] at h4 ⊢
  refine display18 hu l16 h17 (fun i z u hz hv => ?_) (h4 17 x t ?_ ?_) nd big hQ
  · have li : i < 17 := by
      have := (List.getElem?_eq_some_iff.mp hv).1
      omega
    refine h4 i z u ?_ (by rw [List.getElem?_append_left (by omega)]; exact hv)
    rw [show l ++ [y, x] = (l ++ [y]) ++ [x] by simp, List.getElem?_append_left (by simp; omega)]
    exact hz
  · rw [List.getElem?_append_right (by omega), l16]
    rfl
  · rw [List.getElem?_append_right (by omega), h17]
    rfl
theorem nsSet_exact {ns : Addr} {nm : Str} {v : Value} {s : Shared} {o : Obj} {es : Array DictEntry} {ep : Nat} {Q : Unit → Shared → Prop} (ho : s.heap.get? ns = some o) (hd : o.data = .dict es ep) (hk : aRefKeyMayBeTheName nm es = false)
    (hQ : Q () { s with heap := s.heap.update ns (Obj.putName nm (hashStr w nm) (.str nm s.toks) v), toks := s.toks + 1 }) : wpAny (model prog w) A (nsSet ns nm v) Q E s := by
  unfold nsSet
  refine wpAny_bind ?_
  unfold strHash
  refine wpAny_bind (wpAny_askSetting (wpAny_pure ?_))
  refine wpAny_bind (wpAny_mkText ?_)
  refine wpAny_bind (wpAny_loadPart (s := { s with toks := s.toks + 1 }) ho ?_)
  rw [hd]
  dsimp only
  rw [hk]
  rw [if_neg (show ¬ (false : Bool) = true by decide)]
  exact wpAny_updatePart (s := { s with toks := s.toks + 1 }) ho hQ
/-- what the statement leaves -/
def stmtS (prog : Program) (w : World) (nm : Str) (ns : Addr) (ts : List Tri) (t : Tri) (s : Shared) : Shared :=
  let s' := dispS prog w ts t s
  { s' with heap := s'.heap.update ns (Obj.putName nm (hashStr w nm) (.str nm s'.toks) (.ref s.heap.objs.size)), toks := s'.toks + 1 }
theorem get_step {d : Addr} {t : Tri} {s : Shared} {a : Addr} (n1 : a ≠ s.heap.objs.size) (n2 : a ≠ d) : (stepS prog w d t s).heap.get? a = s.heap.get? a := by
  show ((s.heap.push (tupO t s.toks)).update d _).get? a = _
  rw [Heap.get?_update_ne _ _ _ _ n2, Heap.get?_push_ne _ _ _ n1]
theorem get_fold {d : Addr} {a : Addr} : ∀ (ts : List Tri) (s : Shared), a < s.heap.objs.size → a ≠ d → (ts.foldl (fun s' t => stepS prog w d t s') s).heap.get? a = s.heap.get? a
  | [], s, _, _ => rfl
  | t :: r, s, lt, nd => by
    rw [List.foldl_cons, get_fold r _ (by rw [size_step]; exact Nat.lt_succ_of_lt lt) nd, get_step (Nat.ne_of_lt lt) nd]
theorem get_disp {ts : List Tri} {t : Tri} {s : Shared} {a : Addr} (lt : a < s.heap.objs.size) : (dispS prog w ts t s).heap.get? a = s.heap.get? a := by
  unfold dispS
  dsimp only
  have sz := size_fold (prog := prog) (w := w) (d := s.heap.objs.size) ts { s with heap := s.heap.push newD }
  have sp : (s.heap.push newD).objs.size = s.heap.objs.size + 1 := Heap.size_push ..
  have g1 := get_fold (prog := prog) (w := w) (d := s.heap.objs.size) (a := a) ts { s with heap := s.heap.push newD } (by show a < (s.heap.push newD).objs.size; rw [sp]; exact Nat.lt_succ_of_lt lt) (Nat.ne_of_lt lt)
  generalize ts.foldl (fun s' t => stepS prog w s.heap.objs.size t s') { s with heap := s.heap.push newD } = s1 at sz g1
  have sz : s1.heap.objs.size = s.heap.objs.size + 1 + ts.length := sz.trans (by rw [show ({ s with heap := s.heap.push newD } : Shared).heap.objs.size = _ from sp])
  have l1 : a < s1.heap.objs.size := Nat.lt_of_lt_of_le lt (by omega)
  rw [Heap.get?_update_ne _ _ _ _ (Nat.ne_of_lt lt), get_step (Nat.ne_of_lt (by show a < (s1.heap.push newD).objs.size; rw [Heap.size_push]; exact Nat.lt_succ_of_lt l1)) (Nat.ne_of_lt l1)]
  show (s1.heap.push newD).get? a = _
  rw [Heap.get?_push_ne _ _ _ (Nat.ne_of_lt l1), g1]
  exact Heap.get?_push_ne _ _ _ (Nat.ne_of_lt lt)
theorem stmt_wp {env : Env} {nm : Str} {p1 p2 p3 : Pos} {ks : List (Option Expr)} {vs : List Expr} {ts : List Tri} {t : Tri} {s : Shared} {o : Obj} {es : Array DictEntry} {ep : Nat} (hu : A.units < cLine) (hs : swapsWith (.Dict ks vs p2) (some (.Name nm p1)) p3.line env = pure false)
    (ht : trisE ks vs = some (ts ++ [t])) (h17 : ts.length = 17) (nd : ((ts ++ [t]).map Tri.key).Nodup) (hl : env.kindOf nm = some .local) (hm : (env.scope.kind == .class || (env.scope.kind == .module && env.locals != env.globals)) = false)
    (big : sysModules < s.heap.objs.size) (lt : env.locals < s.heap.objs.size) (ho : s.heap.get? env.locals = some o) (hd : o.data = .dict es ep) (hk : aRefKeyMayBeTheName nm es = false) :
    wpAny (model prog w) A (exec (.Assign [.Name nm p1] (.Dict ks vs p2) p3) env) (fun f s' => f = .next ∧ s' = stmtS prog w nm env.locals ts t s) E s := by
  rw [exec_Assign_Name _ _ _ _ _ hs]
  refine wpAny_bind (wpAny_standAt (wpAny_bind (eval_disp hu ht h17 nd big (wpAny_bind (wpAny_standAt (wpAny_bind (wpAny_bindName ?_)))))))
  rw [storeName_local hl hm]
  exact nsSet_exact ((get_disp lt).trans ho) hd hk (wpAny_pure ⟨rfl, rfl⟩)
end
/-! ### as a tree -/
def pushT (s : SharedT) (o : Obj) : Option SharedT := match ((s.tree.ins s.n o).get s.n).isSome with
  | true => some { s with tree := s.tree.ins s.n o, n := s.n + 1 }
  | false => none
theorem pushT_abs {s s' : SharedT} {o : Obj} (h : pushT s o = some s') : s'.abs = { s.abs with heap := s.abs.heap.push o } ∧ s'.toks = s.toks ∧ s'.n = s.n + 1 := by
  unfold pushT at h
  cases e : ((s.tree.ins s.n o).get s.n).isSome with
  | false => rw [e] at h; cases h
  | true =>
    rw [e] at h
    obtain rfl := Option.some.inj h
    refine ⟨?_, rfl, rfl⟩
    show (⟨absHeap (s.tree.ins s.n o) (s.n + 1) s.life, s.gens, s.drawn, s.toks, s.os⟩ : Shared) = _
    rw [absHeap_ins e]
    rfl
def updT (s : SharedT) (a : Addr) (f : Obj → Obj) : Option SharedT := match s.tree.get a with
  | some _ => some { s with tree := s.tree.set a f }
  | none => none
theorem updT_abs {s s' : SharedT} {a : Addr} {f : Obj → Obj} (h : updT s a f = some s') : s'.abs = { s.abs with heap := s.abs.heap.update a f } ∧ s'.toks = s.toks ∧ s'.n = s.n := by
  unfold updT at h
  cases e : s.tree.get a with
  | none => rw [e] at h; cases h
  | some o =>
    rw [e] at h
    obtain rfl := Option.some.inj h
    refine ⟨?_, rfl, rfl⟩
    show (⟨absHeap (s.tree.set a f) s.n s.life, s.gens, s.drawn, s.toks, s.os⟩ : Shared) = _
    rw [absHeap_set e]
    rfl
theorem abs_size (s : SharedT) : s.abs.heap.objs.size = s.n := absHeap_size ..
def stepT' (prog : Program) (w : World) (d : Addr) (t : Tri) (s : SharedT) : Option SharedT := (pushT s (tupO t s.toks)).bind fun s1 => (updT s1 d (putT prog w t s.n s.toks)).map fun s2 => { s2 with toks := s.toks + 6 }
section
variable {prog : Program} {w : World}
theorem stepT'_abs {d : Addr} {t : Tri} {s s' : SharedT} (h : stepT' prog w d t s = some s') : s'.abs = stepS prog w d t s.abs := by
  obtain ⟨s1, h1, h2⟩ := Option.bind_eq_some_iff.mp h
  obtain ⟨s2, h3, rfl⟩ := Option.map_eq_some_iff.mp h2
  obtain ⟨a1, a2, a3⟩ := pushT_abs h1
  obtain ⟨b1, b2, b3⟩ := updT_abs h3
  have e : ({ s2 with toks := s.toks + 6 } : SharedT).abs = { s2.abs with toks := s.toks + 6 } := rfl
  rw [e, b1, a1]
  unfold stepS
  rw [abs_size]
  rfl
def foldT (prog : Program) (w : World) (d : Addr) : List Tri → SharedT → Option SharedT
  | [], s => some s
  | t :: r, s => (stepT' prog w d t s).bind (foldT prog w d r)
theorem foldT_abs {d : Addr} : ∀ {ts : List Tri} {s s' : SharedT}, foldT prog w d ts s = some s' → s'.abs = ts.foldl (fun s' t => stepS prog w d t s') s.abs
  | [], s, s', h => by
    obtain rfl := Option.some.inj h
    rfl
  | t :: r, s, s', h => by
    obtain ⟨s1, h1, h2⟩ := Option.bind_eq_some_iff.mp h
    rw [foldT_abs h2, stepT'_abs h1, List.foldl_cons]
/-- the state behind the statement, as a tree -/
def midO (prog : Program) (nm : Str) (ns : Addr) (ts : List Tri) (t : Tri) (w : World) (s : SharedT) : Option SharedT :=
  (pushT s newD).bind fun s0 => (foldT prog w s.n ts s0).bind fun s1 => (pushT s1 newD).bind fun s2 => (stepT' prog w s1.n t s2).bind fun s3 => (updT s3 s.n (putT prog w t (s1.n + 1) s1.toks)).bind fun s4 =>
    (updT s4 ns (Obj.putName nm (hashStr w nm) (.str nm s4.toks) (.ref s.n))).map fun s5 => { s5 with toks := s4.toks + 1 }
theorem midO_abs {nm : Str} {ns : Addr} {ts : List Tri} {t : Tri} {s s' : SharedT} (h : midO prog nm ns ts t w s = some s') : s'.abs = stmtS prog w nm ns ts t s.abs := by
  obtain ⟨s0, h0, h⟩ := Option.bind_eq_some_iff.mp h
  obtain ⟨s1, h1, h⟩ := Option.bind_eq_some_iff.mp h
  obtain ⟨s2, h2, h⟩ := Option.bind_eq_some_iff.mp h
  obtain ⟨s3, h3, h⟩ := Option.bind_eq_some_iff.mp h
  obtain ⟨s4, h4, h⟩ := Option.bind_eq_some_iff.mp h
  obtain ⟨s5, h5, rfl⟩ := Option.map_eq_some_iff.mp h
  obtain ⟨a0, _, _⟩ := pushT_abs h0
  have a1 := foldT_abs h1
  obtain ⟨a2, _, _⟩ := pushT_abs h2
  have a3 := stepT'_abs h3
  obtain ⟨a4, t4, _⟩ := updT_abs h4
  obtain ⟨a5, _, _⟩ := updT_abs h5
  have e : ({ s5 with toks := s4.toks + 1 } : SharedT).abs = { s5.abs with toks := s4.toks + 1 } := rfl
  have e4 : s4.abs.toks = s4.toks := rfl
  have e1 : s1.abs.toks = s1.toks := rfl
  have d4 : s4.abs = dispS prog w ts t s.abs := by
    unfold dispS
    dsimp only
    rw [abs_size, ← a0, ← a1, abs_size, ← a2, ← a3, a4, Heap.size_push, abs_size, e1]
  rw [e, a5, d4]
  unfold stmtS
  dsimp only
  rw [abs_size, ← d4, e4]
/-- what is asked of the state ahead of it -/
def chkO (prog : Program) (nm : Str) (ns : Addr) (ts : List Tri) (t : Tri) (w : World) (s : SharedT) : Bool := (midO prog nm ns ts t w s).isSome && (Nat.blt 1 s.n && (Nat.blt ns s.n && (match getT s ns with
  | some o => (match o.data with
    | .dict es _ => !aRefKeyMayBeTheName nm es
    | _ => false)
  | none => false)))
theorem mid_wp {nm : Str} {ts : List Tri} {t : Tri} {env : Env} {p1 p2 p3 : Pos} {ks : List (Option Expr)} {vs : List Expr} {s : SharedT} {c : Code} {B : List Frame} (hu : (Ctx.of c B).units < cLine) (hh : topHandled B = none) (hs : swapsWith (.Dict ks vs p2) (some (.Name nm p1)) p3.line env = pure false)
    (ht : trisE ks vs = some (ts ++ [t])) (h17 : ts.length = 17) (nd : ((ts ++ [t]).map Tri.key).Nodup) (hl : env.kindOf nm = some .local) (hm : (env.scope.kind == .class || (env.scope.kind == .module && env.locals != env.globals)) = false)
    (ck : chkO prog nm env.locals ts t w s = true) (pos : Pos) :
    Sem.wp (model prog w) (Ctx.of c B) (exec (.Assign [.Name nm p1] (.Dict ks vs p2) p3) env) (fun f _ s' => f = .next ∧ s' = ((midO prog nm env.locals ts t w s).getD s).abs) (fun _ _ _ => False) pos s.abs := by
  obtain ⟨c1, ck⟩ := Bool.and_eq_true_iff.mp (show (_ && _) = true from ck)
  obtain ⟨c2, ck⟩ := Bool.and_eq_true_iff.mp ck
  obtain ⟨c3, c4⟩ := Bool.and_eq_true_iff.mp ck
  obtain ⟨s', hs'⟩ := Option.isSome_iff_exists.mp c1
  have b2 : (1 : Nat) < s.n := Nat.le_of_ble_eq_true c2
  have b3 : env.locals < s.n := Nat.le_of_ble_eq_true c3
  obtain ⟨o, es, ep, ho, hd, hk⟩ : ∃ o es ep, s.abs.heap.get? env.locals = some o ∧ o.data = .dict es ep ∧ aRefKeyMayBeTheName nm es = false := by
    cases e : getT s env.locals with
    | none => rw [e] at c4; cases c4
    | some o =>
      rw [e] at c4
      obtain ⟨oc, od, dt, osl⟩ := o
      cases dt with
      | dict es ep =>
        refine ⟨_, es, ep, (getT_eq s _).symm.trans e, rfl, ?_⟩
        have z : (!aRefKeyMayBeTheName nm es) = true := c4
        simpa using z
      | _ => cases c4
  have W : wpAny (model prog w) { handled := none, depth := frameCount (Ctx.of c B).below + (Ctx.of c B).code.weight, frames := none, guards := none, units := (Ctx.of c B).units } (exec (.Assign [.Name nm p1] (.Dict ks vs p2) p3) env) (fun f s' => f = .next ∧ s' = stmtS prog w nm env.locals ts t s.abs) (fun _ _ => False) s.abs :=
    stmt_wp hu hs ht h17 nd hl hm (by rw [abs_size]; exact b2) (by rw [abs_size]; exact b3) ho hd hk
  have Z := W (Ctx.of c B) pos ⟨hh, Nat.le_refl _, (fun _ z => by cases z), (fun _ z => by cases z), Nat.le_refl _⟩
  rw [hs']
  show Sem.wp _ _ _ (fun f _ s2 => f = Flow.next ∧ s2 = s'.abs) _ _ _
  rw [midO_abs hs']
  exact Z
end
end Hm
set_option Elab.async false
set_option linter.all false
set_option maxRecDepth 1000000
set_option maxHeartbeats 0
noncomputable section
namespace Hk
open PySem PySem.W PySem.Calls PyProof.Rows HandSHeadRun Hm
abbrev R : OpenRow := OpenLaw.row PySem.Challenge.rw_shuntplan_k73_neighbours_or_not
abbrev P : Program := PySem.Challenge.pw_shuntplan_k73_neighbours_or_not
abbrev bodyP : List Stmt := P.main.body
abbrev qv : Program := view P [81]
def loose0 : List PySem.Str := ["InvalidName", "InvalidEnd", "InvalidRow", "InvalidCoupling", "InvalidLayout", "OtherWagons", "ParseError", "NoWagon", "NotCoupled", "TooLarge", "AlreadyCoupled", "LETTERS", "NAME_LENGTH", "MOST_WAGONS", "is_integer", "is_name", "is_name_with", "is_end", "is_directed", "is_row", "check_filled_row", "turned", "names_of", "entry_of", "directed_by", "opposite", "coupling_of", "row_links", "row_text", "line_form"]
def loose1 : List PySem.Str := ["ring_form", "Train", "Line", "Ring", "FOLLOWERS", "can_become_new", "Reader", "check_readable", "directed_read", "row_read", "train_read", "trains_read", "is_name_list", "ends_of", "is_end_pair", "can_be_added", "partners_by", "row_from", "train_with", "Layout", "check_layout", "check_same_wagons", "difference", "check_wagons", "relinked", "Step", "Couple", "Cut", "step_towards", "are_neighbours"]
def loose2 : List PySem.Str := ["_law_pen", "_law_draw", "_law_pick", "_law_shuffled", "_law_names", "_law_ends", "_law_pairs", "_law_partner", "_law_pair", "_law_coupled", "_law_cut", "_law_any_value", "_law_told", "_law_moved", "_law_is_near"]
def loose : List PySem.Str := loose0 ++ loose1 ++ loose2
def tris : List Tri := [⟨"train", "(", "ring"⟩, ⟨"train", "-", "line sign"⟩, ⟨"train", "a", "line name"⟩, ⟨"line", "/", "slash"⟩, ⟨"line", "-", "line sign"⟩, ⟨"line", "a", "line name"⟩, ⟨"line sign", "a", "line name"⟩, ⟨"line name", "a", "line name"⟩, ⟨"line name", " ", "line"⟩, ⟨"ring", "-", "ring sign"⟩, ⟨"ring", "a", "ring name"⟩, ⟨"ring sign", "a", "ring name"⟩, ⟨"ring name", "a", "ring name"⟩, ⟨"ring name", " ", "ring"⟩, ⟨"ring name", ")", "closed"⟩, ⟨"closed", " ", "gap"⟩, ⟨"gap", "/", "slash"⟩]
def triL : Tri := ⟨"slash", " ", "train"⟩
abbrev envP : Env := { scope := P.main.scope, locals := mainNs, globals := mainNs, cells := [], code := .ref 13, frame := some 14 }
def C : Cut where
  env := envP
  q := ⟨0, 0, 0, 0⟩
  pos0 := ⟨0, 0, 0, 0⟩
  k0 := 12
  m := 20000
  l1 := bodyP.take 37
  st := bodyP.getD 37 (.Pass ⟨0, 0, 0, 0⟩)
  l2 := bodyP.drop 38
  chk := chkO P "FOLLOWERS" mainNs tris triL
  mid := fun w s => (midO P "FOLLOWERS" mainNs tris triL w s).getD s
theorem bd : behindTheImports P = C.body := by kernel_rfl
end Hk
set_option Elab.async false
set_option linter.all false
set_option maxRecDepth 1000000
set_option maxHeartbeats 0
namespace Hk
open PySem PySem.Spec PyProof.Rows L2 Hm My
def xs : List PySem.Str := [("is_integer" : PySem.Str), ("is_name" : PySem.Str), ("is_name_with" : PySem.Str), ("is_end" : PySem.Str), ("is_name_list" : PySem.Str), ("ends_of" : PySem.Str), ("is_end_pair" : PySem.Str), ("can_be_added" : PySem.Str), ("partners_by" : PySem.Str), ("check_layout" : PySem.Str), ("check_same_wagons" : PySem.Str), ("difference" : PySem.Str), ("names_of" : PySem.Str), ("check_wagons" : PySem.Str), ("relinked" : PySem.Str), ("step_towards" : PySem.Str), ("are_neighbours" : PySem.Str), ("_law_pen" : PySem.Str), ("_law_draw" : PySem.Str), ("_law_pick" : PySem.Str), ("_law_shuffled" : PySem.Str), ("_law_names" : PySem.Str), ("_law_ends" : PySem.Str), ("_law_pairs" : PySem.Str), ("_law_partner" : PySem.Str), ("_law_pair" : PySem.Str), ("_law_coupled" : PySem.Str), ("_law_cut" : PySem.Str), ("_law_any_value" : PySem.Str), ("_law_moved" : PySem.Str), ("_law_is_near" : PySem.Str), ("_law_told" : PySem.Str), ("law" : PySem.Str), ("Layout" : PySem.Str), ("Step" : PySem.Str), ("Couple" : PySem.Str), ("Cut" : PySem.Str), ("InvalidLayout" : PySem.Str), ("OtherWagons" : PySem.Str), ("InvalidEnd" : PySem.Str), ("NoWagon" : PySem.Str), ("InvalidName" : PySem.Str), ("NotCoupled" : PySem.Str), ("AlreadyCoupled" : PySem.Str), ("TooLarge" : PySem.Str)]
abbrev a_f1 (K : PySem.W.Frag) : Addr := He.ga K "is_integer"
abbrev a_f2 (K : PySem.W.Frag) : Addr := He.ga K "is_name"
abbrev a_f3 (K : PySem.W.Frag) : Addr := He.ga K "is_name_with"
abbrev a_f4 (K : PySem.W.Frag) : Addr := He.ga K "is_end"
abbrev a_f5 (K : PySem.W.Frag) : Addr := He.ga K "is_name_list"
abbrev a_f6 (K : PySem.W.Frag) : Addr := He.ga K "ends_of"
abbrev a_f7 (K : PySem.W.Frag) : Addr := He.ga K "is_end_pair"
abbrev a_f8 (K : PySem.W.Frag) : Addr := He.ga K "can_be_added"
abbrev a_f9 (K : PySem.W.Frag) : Addr := He.ga K "partners_by"
abbrev a_f10 (K : PySem.W.Frag) : Addr := He.ga K "check_layout"
abbrev a_f11 (K : PySem.W.Frag) : Addr := He.ga K "check_same_wagons"
abbrev a_f12 (K : PySem.W.Frag) : Addr := He.ga K "difference"
abbrev a_f13 (K : PySem.W.Frag) : Addr := He.ga K "names_of"
abbrev a_f14 (K : PySem.W.Frag) : Addr := He.ga K "check_wagons"
abbrev a_f15 (K : PySem.W.Frag) : Addr := He.ga K "relinked"
abbrev a_f16 (K : PySem.W.Frag) : Addr := He.ga K "step_towards"
abbrev a_f17 (K : PySem.W.Frag) : Addr := He.ga K "are_neighbours"
abbrev a_f18 (K : PySem.W.Frag) : Addr := He.ga K "_law_pen"
abbrev a_f19 (K : PySem.W.Frag) : Addr := He.ga K "_law_draw"
abbrev a_f20 (K : PySem.W.Frag) : Addr := He.ga K "_law_pick"
abbrev a_f21 (K : PySem.W.Frag) : Addr := He.ga K "_law_shuffled"
abbrev a_f22 (K : PySem.W.Frag) : Addr := He.ga K "_law_names"
abbrev a_f23 (K : PySem.W.Frag) : Addr := He.ga K "_law_ends"
abbrev a_f24 (K : PySem.W.Frag) : Addr := He.ga K "_law_pairs"
abbrev a_f25 (K : PySem.W.Frag) : Addr := He.ga K "_law_partner"
abbrev a_f26 (K : PySem.W.Frag) : Addr := He.ga K "_law_pair"
abbrev a_f27 (K : PySem.W.Frag) : Addr := He.ga K "_law_coupled"
abbrev a_f28 (K : PySem.W.Frag) : Addr := He.ga K "_law_cut"
abbrev a_f29 (K : PySem.W.Frag) : Addr := He.ga K "_law_any_value"
abbrev a_f30 (K : PySem.W.Frag) : Addr := He.ga K "_law_moved"
abbrev a_f31 (K : PySem.W.Frag) : Addr := He.ga K "_law_is_near"
abbrev a_f32 (K : PySem.W.Frag) : Addr := He.ga K "_law_told"
abbrev a_f33 (K : PySem.W.Frag) : Addr := He.ga K "law"
abbrev a_co33 (K : PySem.W.Frag) : Addr := codeF K (a_f33 K)
abbrev a_P33 (K : PySem.W.Frag) : Addr := tabF K (a_f33 K)
abbrev a_CA (K : PySem.W.Frag) : Addr := He.ga K "Layout"
abbrev a_fiA (K : PySem.W.Frag) : Addr := He.ma K (a_CA K) "__init__"
abbrev a_dvA (K : PySem.W.Frag) : Addr := He.dflAt ("Layout", some "__init__") 0 K
abbrev a_ppAwagons (K : PySem.W.Frag) : Addr := He.ma K (a_CA K) "wagons"
abbrev a_pgAwagons (K : PySem.W.Frag) : Addr := propG K (a_ppAwagons K)
abbrev a_prAwagons (K : PySem.W.Frag) : List Value := propR K (a_ppAwagons K)
abbrev a_ppAcouplings (K : PySem.W.Frag) : Addr := He.ma K (a_CA K) "couplings"
abbrev a_pgAcouplings (K : PySem.W.Frag) : Addr := propG K (a_ppAcouplings K)
abbrev a_prAcouplings (K : PySem.W.Frag) : List Value := propR K (a_ppAcouplings K)
abbrev a_fmA__contains__ (K : PySem.W.Frag) : Addr := He.ma K (a_CA K) "__contains__"
abbrev a_fmA__getitem__ (K : PySem.W.Frag) : Addr := He.ma K (a_CA K) "__getitem__"
abbrev a_fmA__eq__ (K : PySem.W.Frag) : Addr := He.ma K (a_CA K) "__eq__"
abbrev a_CS (K : PySem.W.Frag) : Addr := He.ga K "Step"
abbrev a_fiS (K : PySem.W.Frag) : Addr := He.ma K (a_CS K) "__init__"
abbrev a_CY (K : PySem.W.Frag) : Addr := He.ga K "Couple"
abbrev a_fiY (K : PySem.W.Frag) : Addr := He.ma K (a_CY K) "__init__"
abbrev a_coY (K : PySem.W.Frag) : Addr := codeF K (a_fiY K)
abbrev a_ccY (K : PySem.W.Frag) : Addr := ccF K (a_fiY K)
abbrev a_fmY__call__ (K : PySem.W.Frag) : Addr := He.ma K (a_CY K) "__call__"
abbrev a_CZ (K : PySem.W.Frag) : Addr := He.ga K "Cut"
abbrev a_fiZ (K : PySem.W.Frag) : Addr := He.ma K (a_CZ K) "__init__"
abbrev a_coZ (K : PySem.W.Frag) : Addr := codeF K (a_fiZ K)
abbrev a_ccZ (K : PySem.W.Frag) : Addr := ccF K (a_fiZ K)
abbrev a_fmZ__call__ (K : PySem.W.Frag) : Addr := He.ma K (a_CZ K) "__call__"
abbrev a_CL (K : PySem.W.Frag) : Addr := He.ga K "InvalidLayout"
abbrev a_fiL (K : PySem.W.Frag) : Addr := He.ma K (a_CL K) "__init__"
abbrev a_CW (K : PySem.W.Frag) : Addr := He.ga K "OtherWagons"
abbrev a_CE (K : PySem.W.Frag) : Addr := He.ga K "InvalidEnd"
abbrev a_fiE (K : PySem.W.Frag) : Addr := He.ma K (a_CE K) "__init__"
abbrev a_CG (K : PySem.W.Frag) : Addr := He.ga K "NoWagon"
abbrev a_fiG (K : PySem.W.Frag) : Addr := He.ma K (a_CG K) "__init__"
abbrev a_CN (K : PySem.W.Frag) : Addr := He.ga K "InvalidName"
abbrev a_CQ (K : PySem.W.Frag) : Addr := He.ga K "NotCoupled"
abbrev a_CJ (K : PySem.W.Frag) : Addr := He.ga K "AlreadyCoupled"
abbrev a_CT (K : PySem.W.Frag) : Addr := He.ga K "TooLarge"
abbrev a_t1 (K : PySem.W.Frag) : Tok := tokAt K "NAME_LENGTH"
abbrev a_t2 (K : PySem.W.Frag) : Tok := tokAt K "LETTERS"
abbrev a_t3 (K : PySem.W.Frag) : Tok := tokAt K "MOST_WAGONS"
def ds : List Df := [(⟨a_f1, "is_integer", "is_integer", sIsInt, [], []⟩ : Df),
  (⟨a_f2, "is_name", "is_name", sIsName, [], []⟩ : Df),
  (⟨a_f3, "is_name_with", "is_name_with", sIsWith, [], []⟩ : Df),
  (⟨a_f4, "is_end", "is_end", sIsEnd, [], []⟩ : Df),
  (⟨a_f5, "is_name_list", "is_name_list", sIsNameList, [], []⟩ : Df),
  (⟨a_f6, "ends_of", "ends_of", sEndsOf, [], []⟩ : Df),
  (⟨a_f7, "is_end_pair", "is_end_pair", sIsEndPair, [], []⟩ : Df),
  (⟨a_f8, "can_be_added", "can_be_added", sCanBeAdded, [], []⟩ : Df),
  (⟨a_f9, "partners_by", "partners_by", sPartnersBy, [], []⟩ : Df),
  (⟨a_f10, "check_layout", "check_layout", sCheckLayout, [], []⟩ : Df),
  (⟨a_f11, "check_same_wagons", "check_same_wagons", sCheckSameWagons, [], []⟩ : Df),
  (⟨a_f12, "difference", "difference", sDifference, [], []⟩ : Df),
  (⟨a_f13, "names_of", "names_of", sNames, [], []⟩ : Df),
  (⟨a_f14, "check_wagons", "check_wagons", sCheckWagons, [], []⟩ : Df),
  (⟨a_f15, "relinked", "relinked", sRelinked, [], []⟩ : Df),
  (⟨a_f16, "step_towards", "step_towards", sStepTowards, [], []⟩ : Df),
  (⟨a_f17, "are_neighbours", "are_neighbours", sAreNeighbours, [], []⟩ : Df),
  (⟨a_f18, "_law_pen", "_law_pen", sPen, [], []⟩ : Df),
  (⟨a_f19, "_law_draw", "_law_draw", sDraw, [], []⟩ : Df),
  (⟨a_f20, "_law_pick", "_law_pick", sPick, [], []⟩ : Df),
  (⟨a_f21, "_law_shuffled", "_law_shuffled", sShuf, [], []⟩ : Df),
  (⟨a_f22, "_law_names", "_law_names", sLNames, [], []⟩ : Df),
  (⟨a_f23, "_law_ends", "_law_ends", sLEnds, [], []⟩ : Df),
  (⟨a_f24, "_law_pairs", "_law_pairs", sLPairs, [], []⟩ : Df),
  (⟨a_f25, "_law_partner", "_law_partner", sLPartner, [], []⟩ : Df),
  (⟨a_f26, "_law_pair", "_law_pair", sLPair, [], []⟩ : Df),
  (⟨a_f27, "_law_coupled", "_law_coupled", sLCoupled, [], []⟩ : Df),
  (⟨a_f28, "_law_cut", "_law_cut", sLCut, [], []⟩ : Df),
  (⟨a_f29, "_law_any_value", "_law_any_value", sLAnyValue, [], []⟩ : Df),
  (⟨a_f30, "_law_moved", "_law_moved", sLMoved, [], []⟩ : Df),
  (⟨a_f31, "_law_is_near", "_law_is_near", sLIsNear, [], []⟩ : Df),
  (⟨a_f32, "_law_told", "_law_told", sLTold, [], []⟩ : Df),
  (⟨a_f33, "law", "law", sLaw, [], []⟩ : Df),
  (⟨a_fiA, "__init__", "Layout.__init__", sLayoutInit, [.adr (He.dflAt ("Layout", some "__init__") 0)], []⟩ : Df),
  (⟨a_pgAwagons, "wagons", "Layout.wagons", sLayoutWagons, [], []⟩ : Df),
  (⟨a_pgAcouplings, "couplings", "Layout.couplings", sLayoutCouplings, [], []⟩ : Df),
  (⟨a_fmA__contains__, "__contains__", "Layout.__contains__", sLayoutCon, [], []⟩ : Df),
  (⟨a_fmA__getitem__, "__getitem__", "Layout.__getitem__", sLayoutGetitem, [], []⟩ : Df),
  (⟨a_fmA__eq__, "__eq__", "Layout.__eq__", sLayoutEq, [], []⟩ : Df),
  (⟨a_fiS, "__init__", "Step.__init__", sStepInit, [], []⟩ : Df),
  (⟨a_fiY, "__init__", "Couple.__init__", sCoupleInit, [], [("__class__" : PySem.Str)]⟩ : Df),
  (⟨a_fmY__call__, "__call__", "Couple.__call__", sCoupleCall, [], []⟩ : Df),
  (⟨a_fiZ, "__init__", "Cut.__init__", sCutInit, [], [("__class__" : PySem.Str)]⟩ : Df),
  (⟨a_fmZ__call__, "__call__", "Cut.__call__", sCutCall, [], []⟩ : Df),
  (⟨a_fiL, "__init__", "InvalidLayout.__init__", sInvalidLayoutInit, [], []⟩ : Df),
  (⟨a_fiE, "__init__", "InvalidEnd.__init__", sInvalidEndInit, [], []⟩ : Df),
  (⟨a_fiG, "__init__", "NoWagon.__init__", sNoWagonInit, [], []⟩ : Df)]
def fs : List (PySem.W.Frag → Bool) := [fun K => decide (PySem.W.nsIn K mainGlobals "is_integer" = some (some (.ref (a_f1 K)))),
  fun K => decide (PySem.W.nsIn K mainGlobals "is_name" = some (some (.ref (a_f2 K)))),
  fun K => decide (PySem.W.nsIn K mainGlobals "is_name_with" = some (some (.ref (a_f3 K)))),
  fun K => decide (PySem.W.nsIn K mainGlobals "is_end" = some (some (.ref (a_f4 K)))),
  fun K => decide (PySem.W.nsIn K mainGlobals "is_name_list" = some (some (.ref (a_f5 K)))),
  fun K => decide (PySem.W.nsIn K mainGlobals "ends_of" = some (some (.ref (a_f6 K)))),
  fun K => decide (PySem.W.nsIn K mainGlobals "is_end_pair" = some (some (.ref (a_f7 K)))),
  fun K => decide (PySem.W.nsIn K mainGlobals "can_be_added" = some (some (.ref (a_f8 K)))),
  fun K => decide (PySem.W.nsIn K mainGlobals "partners_by" = some (some (.ref (a_f9 K)))),
  fun K => decide (PySem.W.nsIn K mainGlobals "check_layout" = some (some (.ref (a_f10 K)))),
  fun K => decide (PySem.W.nsIn K mainGlobals "check_same_wagons" = some (some (.ref (a_f11 K)))),
  fun K => decide (PySem.W.nsIn K mainGlobals "difference" = some (some (.ref (a_f12 K)))),
  fun K => decide (PySem.W.nsIn K mainGlobals "names_of" = some (some (.ref (a_f13 K)))),
  fun K => decide (PySem.W.nsIn K mainGlobals "check_wagons" = some (some (.ref (a_f14 K)))),
  fun K => decide (PySem.W.nsIn K mainGlobals "relinked" = some (some (.ref (a_f15 K)))),
  fun K => decide (PySem.W.nsIn K mainGlobals "step_towards" = some (some (.ref (a_f16 K)))),
  fun K => decide (PySem.W.nsIn K mainGlobals "are_neighbours" = some (some (.ref (a_f17 K)))),
  fun K => decide (PySem.W.nsIn K mainGlobals "_law_pen" = some (some (.ref (a_f18 K)))),
  fun K => decide (PySem.W.nsIn K mainGlobals "_law_draw" = some (some (.ref (a_f19 K)))),
  fun K => decide (PySem.W.nsIn K mainGlobals "_law_pick" = some (some (.ref (a_f20 K)))),
  fun K => decide (PySem.W.nsIn K mainGlobals "_law_shuffled" = some (some (.ref (a_f21 K)))),
  fun K => decide (PySem.W.nsIn K mainGlobals "_law_names" = some (some (.ref (a_f22 K)))),
  fun K => decide (PySem.W.nsIn K mainGlobals "_law_ends" = some (some (.ref (a_f23 K)))),
  fun K => decide (PySem.W.nsIn K mainGlobals "_law_pairs" = some (some (.ref (a_f24 K)))),
  fun K => decide (PySem.W.nsIn K mainGlobals "_law_partner" = some (some (.ref (a_f25 K)))),
  fun K => decide (PySem.W.nsIn K mainGlobals "_law_pair" = some (some (.ref (a_f26 K)))),
  fun K => decide (PySem.W.nsIn K mainGlobals "_law_coupled" = some (some (.ref (a_f27 K)))),
  fun K => decide (PySem.W.nsIn K mainGlobals "_law_cut" = some (some (.ref (a_f28 K)))),
  fun K => decide (PySem.W.nsIn K mainGlobals "_law_any_value" = some (some (.ref (a_f29 K)))),
  fun K => decide (PySem.W.nsIn K mainGlobals "_law_moved" = some (some (.ref (a_f30 K)))),
  fun K => decide (PySem.W.nsIn K mainGlobals "_law_is_near" = some (some (.ref (a_f31 K)))),
  fun K => decide (PySem.W.nsIn K mainGlobals "_law_told" = some (some (.ref (a_f32 K)))),
  fun K => decide (PySem.W.nsIn K mainGlobals "law" = some (some (.ref (a_f33 K)))),
  fun K => decide (PySem.W.nsIn K mainGlobals "Layout" = some (some (.ref (a_CA K)))),
  fun K => decide (PySem.W.plainGet K (a_CA K) Str.empty = true),
  fun K => decide (PySem.W.hasDictIn K (a_CA K) = true),
  fun K => decide (PySem.W.plainOver K (a_CA K) = true),
  fun K => decide (PySem.W.findIn K (.ref (a_CA K)) "__setattr__" = some (some (.builtin "object.__setattr__"))),
  fun K => decide (PySem.W.findIn K (.ref (a_CA K)) "_wagons" = some none),
  fun K => decide (PySem.W.findIn K (.ref (a_CA K)) "_couplings" = some none),
  fun K => decide (PySem.W.findIn K (.ref (a_CA K)) "_free" = some none),
  fun K => decide (PySem.W.findIn K (.ref (a_CA K)) "_partners" = some none),
  fun K => decide (PySem.W.makesIn K (a_CA K) = true),
  fun K => decide (PySem.W.findIn K (.ref (a_CA K)) "__init__" = some (some (.ref (a_fiA K)))),
  fun K => decide (PySem.W.isFn K (.ref (a_fiA K)) = true),
  fun K => decide (PySem.W.keepIn K (.ref (a_CA K)) = true),
  fun K => decide (Hm.tupEmp K (a_dvA K) = true),
  fun K => decide (PySem.W.findIn K (.ref (a_CA K)) "wagons" = some (some (.ref (a_ppAwagons K)))),
  fun K => decide (PySem.W.specialIn K (.ref (a_ppAwagons K)) "__get__" = some (some (.builtin "property.__get__"))),
  fun K => decide (PySem.W.takesIn K (.ref (a_ppAwagons K)) = some true),
  fun K => decide (PySem.W.recIn K (a_ppAwagons K) "property" = some (.ref (a_pgAwagons K) :: (a_prAwagons K))),
  fun K => decide (PySem.W.findIn K (.ref (a_CA K)) "couplings" = some (some (.ref (a_ppAcouplings K)))),
  fun K => decide (PySem.W.specialIn K (.ref (a_ppAcouplings K)) "__get__" = some (some (.builtin "property.__get__"))),
  fun K => decide (PySem.W.takesIn K (.ref (a_ppAcouplings K)) = some true),
  fun K => decide (PySem.W.recIn K (a_ppAcouplings K) "property" = some (.ref (a_pgAcouplings K) :: (a_prAcouplings K))),
  fun K => decide (PySem.W.findIn K (.ref (a_CA K)) "__contains__" = some (some (.ref (a_fmA__contains__ K)))),
  fun K => decide (PySem.W.isFn K (.ref (a_fmA__contains__ K)) = true),
  fun K => decide (PySem.W.findIn K (.ref (a_CA K)) "__getitem__" = some (some (.ref (a_fmA__getitem__ K)))),
  fun K => decide (PySem.W.isFn K (.ref (a_fmA__getitem__ K)) = true),
  fun K => decide (PySem.W.findIn K (.ref (a_CA K)) "__eq__" = some (some (.ref (a_fmA__eq__ K)))),
  fun K => decide (PySem.W.isFn K (.ref (a_fmA__eq__ K)) = true),
  fun K => decide (PySem.W.nsIn K mainGlobals "Step" = some (some (.ref (a_CS K)))),
  fun K => decide (PySem.W.plainGet K (a_CS K) Str.empty = true),
  fun K => decide (PySem.W.hasDictIn K (a_CS K) = true),
  fun K => decide (PySem.W.plainOver K (a_CS K) = true),
  fun K => decide (PySem.W.findIn K (.ref (a_CS K)) "__setattr__" = some (some (.builtin "object.__setattr__"))),
  fun K => decide (PySem.W.makesIn K (a_CS K) = true),
  fun K => decide (PySem.W.findIn K (.ref (a_CS K)) "__init__" = some (some (.ref (a_fiS K)))),
  fun K => decide (PySem.W.isFn K (.ref (a_fiS K)) = true),
  fun K => decide (PySem.W.keepIn K (.ref (a_CS K)) = true),
  fun K => decide (PySem.W.nsIn K mainGlobals "Couple" = some (some (.ref (a_CY K)))),
  fun K => decide (PySem.W.plainGet K (a_CY K) Str.empty = true),
  fun K => decide (PySem.W.hasDictIn K (a_CY K) = true),
  fun K => decide (PySem.W.plainOver K (a_CY K) = true),
  fun K => decide (PySem.W.findIn K (.ref (a_CY K)) "__setattr__" = some (some (.builtin "object.__setattr__"))),
  fun K => decide (PySem.W.findIn K (.ref (a_CY K)) "_ends" = some none),
  fun K => decide (PySem.W.makesIn K (a_CY K) = true),
  fun K => decide (PySem.W.findIn K (.ref (a_CY K)) "__init__" = some (some (.ref (a_fiY K)))),
  fun K => decide (PySem.W.isFn K (.ref (a_fiY K)) = true),
  fun K => decide (PySem.W.keepIn K (.ref (a_CY K)) = true),
  fun K => decide (Hm.fileB PySem.Challenge.rw_shuntplan_k73_neighbours_or_not.prog.main.file K (a_coY K) = true),
  fun K => decide (Hm.cellB K (a_ccY K) (a_CY K) = true),
  fun K => decide ((PySem.W.clsIn K (a_CY K)).isSome = true),
  fun K => decide (PySem.W.mroIn K (a_CY K) (.ref (a_CY K)) = some true),
  fun K => decide (PySem.W.ks_superIn K (a_CY K) (a_CY K) "__init__" = some (some (.ref (a_fiS K)))),
  fun K => decide (PySem.W.fnIn K (a_fiS K) = true),
  fun K => decide (PySem.W.typeIn K (.ref (a_fiS K)) = some (.type "function")),
  fun K => decide (PySem.W.findIn K (.ref (a_CY K)) "__call__" = some (some (.ref (a_fmY__call__ K)))),
  fun K => decide (PySem.W.isFn K (.ref (a_fmY__call__ K)) = true),
  fun K => decide (PySem.W.nsIn K mainGlobals "Cut" = some (some (.ref (a_CZ K)))),
  fun K => decide (PySem.W.plainGet K (a_CZ K) Str.empty = true),
  fun K => decide (PySem.W.hasDictIn K (a_CZ K) = true),
  fun K => decide (PySem.W.plainOver K (a_CZ K) = true),
  fun K => decide (PySem.W.findIn K (.ref (a_CZ K)) "__setattr__" = some (some (.builtin "object.__setattr__"))),
  fun K => decide (PySem.W.findIn K (.ref (a_CZ K)) "_ends" = some none),
  fun K => decide (PySem.W.makesIn K (a_CZ K) = true),
  fun K => decide (PySem.W.findIn K (.ref (a_CZ K)) "__init__" = some (some (.ref (a_fiZ K)))),
  fun K => decide (PySem.W.isFn K (.ref (a_fiZ K)) = true),
  fun K => decide (PySem.W.keepIn K (.ref (a_CZ K)) = true),
  fun K => decide (Hm.fileB PySem.Challenge.rw_shuntplan_k73_neighbours_or_not.prog.main.file K (a_coZ K) = true),
  fun K => decide (Hm.cellB K (a_ccZ K) (a_CZ K) = true),
  fun K => decide ((PySem.W.clsIn K (a_CZ K)).isSome = true),
  fun K => decide (PySem.W.mroIn K (a_CZ K) (.ref (a_CZ K)) = some true),
  fun K => decide (PySem.W.ks_superIn K (a_CZ K) (a_CZ K) "__init__" = some (some (.ref (a_fiS K)))),
  fun K => decide (PySem.W.fnIn K (a_fiS K) = true),
  fun K => decide (PySem.W.typeIn K (.ref (a_fiS K)) = some (.type "function")),
  fun K => decide (PySem.W.findIn K (.ref (a_CZ K)) "__call__" = some (some (.ref (a_fmZ__call__ K)))),
  fun K => decide (PySem.W.isFn K (.ref (a_fmZ__call__ K)) = true),
  fun K => decide (PySem.W.specialIn K (.builtin "object.__class__") "__get__" = some (some (.builtin "getset_descriptor.__get__"))),
  fun K => decide (PySem.W.takesIn K (.builtin "object.__class__") = some true),
  fun K => decide (PySem.W.nsIn K mainGlobals "InvalidLayout" = some (some (.ref (a_CL K)))),
  fun K => decide ((PySem.W.clsIn K (a_CL K)).isSome = true),
  fun K => decide (PySem.W.findIn K (.ref (a_CL K)) "__getattribute__" = some (some (.builtin "BaseException.__getattribute__"))),
  fun K => decide (PySem.W.findIn K (.ref (a_CL K)) "__getattr__" = some none),
  fun K => decide (PySem.W.subIn K (.ref (a_CL K)) (.type "BaseException") = some true),
  fun K => decide (PySem.W.findIn K (.ref (a_CL K)) "__class__" = some (some (.builtin "object.__class__"))),
  fun K => decide (PySem.W.mroIn K (a_CL K) (.type "object") = some true),
  fun K => decide (PySem.W.typeIn K (.ref (a_CL K)) = some (.type "type")),
  fun K => decide (PySem.W.keepIn K (.ref (a_CL K)) = true),
  fun K => decide (PySem.W.hasDictIn K (a_CL K) = true),
  fun K => decide (PySem.W.findIn K (.ref (a_CL K)) "value" = some none),
  fun K => decide (oexIn K (a_CL K) "ValueError.__new__" PySem.HandSPX.refsVE = true),
  fun K => decide (PySem.W.findIn K (.ref (a_CL K)) "__setattr__" = some (some (.builtin "object.__setattr__"))),
  fun K => decide (PySem.W.findIn K (.ref (a_CL K)) "__init__" = some (some (.ref (a_fiL K)))),
  fun K => decide (PySem.W.typeIn K (.ref (a_fiL K)) = some (.type "function")),
  fun K => decide (PySem.W.nsIn K mainGlobals "OtherWagons" = some (some (.ref (a_CW K)))),
  fun K => decide ((PySem.W.clsIn K (a_CW K)).isSome = true),
  fun K => decide (PySem.W.findIn K (.ref (a_CW K)) "__getattribute__" = some (some (.builtin "BaseException.__getattribute__"))),
  fun K => decide (PySem.W.findIn K (.ref (a_CW K)) "__getattr__" = some none),
  fun K => decide (PySem.W.subIn K (.ref (a_CW K)) (.type "BaseException") = some true),
  fun K => decide (PySem.W.findIn K (.ref (a_CW K)) "__class__" = some (some (.builtin "object.__class__"))),
  fun K => decide (PySem.W.mroIn K (a_CW K) (.type "object") = some true),
  fun K => decide (PySem.W.typeIn K (.ref (a_CW K)) = some (.type "type")),
  fun K => decide (PySem.W.keepIn K (.ref (a_CW K)) = true),
  fun K => decide (PySem.W.excIn K (a_CW K) [.type "ValueError", .type "Exception", .type "BaseException", .type "object"] "ValueError.__new__" = true),
  fun K => decide (PySem.W.nsIn K mainGlobals "InvalidEnd" = some (some (.ref (a_CE K)))),
  fun K => decide ((PySem.W.clsIn K (a_CE K)).isSome = true),
  fun K => decide (PySem.W.findIn K (.ref (a_CE K)) "__getattribute__" = some (some (.builtin "BaseException.__getattribute__"))),
  fun K => decide (PySem.W.findIn K (.ref (a_CE K)) "__getattr__" = some none),
  fun K => decide (PySem.W.subIn K (.ref (a_CE K)) (.type "BaseException") = some true),
  fun K => decide (PySem.W.findIn K (.ref (a_CE K)) "__class__" = some (some (.builtin "object.__class__"))),
  fun K => decide (PySem.W.mroIn K (a_CE K) (.type "object") = some true),
  fun K => decide (PySem.W.typeIn K (.ref (a_CE K)) = some (.type "type")),
  fun K => decide (PySem.W.keepIn K (.ref (a_CE K)) = true),
  fun K => decide (PySem.W.hasDictIn K (a_CE K) = true),
  fun K => decide (PySem.W.findIn K (.ref (a_CE K)) "value" = some none),
  fun K => decide (oexIn K (a_CE K) "ValueError.__new__" PySem.HandSPX.refsVE = true),
  fun K => decide (PySem.W.findIn K (.ref (a_CE K)) "__setattr__" = some (some (.builtin "object.__setattr__"))),
  fun K => decide (PySem.W.findIn K (.ref (a_CE K)) "__init__" = some (some (.ref (a_fiE K)))),
  fun K => decide (PySem.W.typeIn K (.ref (a_fiE K)) = some (.type "function")),
  fun K => decide (PySem.W.nsIn K mainGlobals "NoWagon" = some (some (.ref (a_CG K)))),
  fun K => decide ((PySem.W.clsIn K (a_CG K)).isSome = true),
  fun K => decide (PySem.W.findIn K (.ref (a_CG K)) "__getattribute__" = some (some (.builtin "BaseException.__getattribute__"))),
  fun K => decide (PySem.W.findIn K (.ref (a_CG K)) "__getattr__" = some none),
  fun K => decide (PySem.W.subIn K (.ref (a_CG K)) (.type "BaseException") = some true),
  fun K => decide (PySem.W.findIn K (.ref (a_CG K)) "__class__" = some (some (.builtin "object.__class__"))),
  fun K => decide (PySem.W.mroIn K (a_CG K) (.type "object") = some true),
  fun K => decide (PySem.W.typeIn K (.ref (a_CG K)) = some (.type "type")),
  fun K => decide (PySem.W.keepIn K (.ref (a_CG K)) = true),
  fun K => decide (PySem.W.hasDictIn K (a_CG K) = true),
  fun K => decide (PySem.W.findIn K (.ref (a_CG K)) "name" = some none),
  fun K => decide (oexIn K (a_CG K) "LookupError.__new__" (PySem.W.excTail [.type "LookupError", .type "Exception", .type "BaseException", .type "object"]) = true),
  fun K => decide (PySem.W.findIn K (.ref (a_CG K)) "__setattr__" = some (some (.builtin "object.__setattr__"))),
  fun K => decide (PySem.W.findIn K (.ref (a_CG K)) "__init__" = some (some (.ref (a_fiG K)))),
  fun K => decide (PySem.W.typeIn K (.ref (a_fiG K)) = some (.type "function")),
  fun K => decide (PySem.W.nsIn K mainGlobals "InvalidName" = some (some (.ref (a_CN K)))),
  fun K => decide (PySem.W.nsIn K mainGlobals "NotCoupled" = some (some (.ref (a_CQ K)))),
  fun K => decide (PySem.W.nsIn K mainGlobals "AlreadyCoupled" = some (some (.ref (a_CJ K)))),
  fun K => decide (PySem.W.nsIn K mainGlobals "TooLarge" = some (some (.ref (a_CT K)))),
  fun K => decide (PySem.W.findIn K (.ref (a_CA K)) "__class__" = some (some (.builtin "object.__class__"))),
  fun K => decide (PySem.W.mroIn K (a_CA K) (.type "object") = some true),
  fun K => decide (PySem.W.kitOne K (.ref (a_CA K)) (.ref (a_CA K)) = some true),
  fun K => decide (PySem.W.kitOne K (.type "NoneType") (.ref (a_CA K)) = some false),
  fun K => decide (PySem.W.kitOne K (.type "bool") (.ref (a_CA K)) = some false),
  fun K => decide (PySem.W.kitOne K (.type "int") (.ref (a_CA K)) = some false),
  fun K => decide (PySem.W.kitOne K (.type "str") (.ref (a_CA K)) = some false),
  fun K => decide (PySem.W.kitOne K (.type "list") (.ref (a_CA K)) = some false),
  fun K => decide (PySem.W.kitOne K (.type "tuple") (.ref (a_CA K)) = some false),
  fun K => decide (PySem.W.kitOne K (.type "dict") (.ref (a_CA K)) = some false),
  fun K => decide (PySem.W.exmAny K (.ref (a_CL K)) [.ref (a_CL K)] = some true),
  fun K => decide (PySem.W.exmAny K (.ref (a_CW K)) [.ref (a_CL K)] = some false),
  fun K => decide (PySem.W.exmAny K (.ref (a_CW K)) [.ref (a_CE K)] = some false),
  fun K => decide (PySem.W.exmAny K (.ref (a_CW K)) [.ref (a_CN K)] = some false),
  fun K => decide (PySem.W.exmAny K (.ref (a_CW K)) [.ref (a_CW K)] = some true),
  fun K => decide (PySem.W.kitOne K (.ref (a_CL K)) (.type "ValueError") = some true),
  fun K => decide (PySem.W.kitOne K (.ref (a_CW K)) (.type "ValueError") = some true),
  fun K => decide (PySem.W.notFirst K (a_CA K) (.ref (a_CA K)) = true),
  fun K => decide (PySem.W.fnIn K (a_fmA__getitem__ K) = true),
  fun K => decide (PySem.W.fnIn K (a_fmY__call__ K) = true),
  fun K => decide (PySem.W.fnIn K (a_fmZ__call__ K) = true),
  fun K => decide (PySem.W.nsIn K mainGlobals "isinstance" = some none),
  fun K => decide (PySem.W.nsIn K mainGlobals "int" = some none),
  fun K => decide (PySem.W.nsIn K mainGlobals "bool" = some none),
  fun K => decide (PySem.W.nsIn K mainGlobals "str" = some none),
  fun K => decide (PySem.W.nsIn K mainGlobals "tuple" = some none),
  fun K => decide (PySem.W.nsIn K mainGlobals "list" = some none),
  fun K => decide (PySem.W.nsIn K mainGlobals "len" = some none),
  fun K => decide (PySem.W.nsIn K mainGlobals "all" = some none),
  fun K => decide (PySem.W.nsIn K mainGlobals "any" = some none),
  fun K => decide (PySem.W.nsIn K mainGlobals "set" = some none),
  fun K => decide (PySem.W.nsIn K mainGlobals "range" = some none),
  fun K => decide (PySem.W.nsIn K mainGlobals "abs" = some none),
  fun K => decide (PySem.W.nsIn K mainGlobals "repr" = some none),
  fun K => decide (PySem.W.nsIn K mainGlobals "sorted" = some none),
  fun K => decide (PySem.W.nsIn K mainGlobals "min" = some none),
  fun K => decide (PySem.W.nsIn K mainGlobals "max" = some none),
  fun K => decide (PySem.W.nsIn K mainGlobals "ValueError" = some none),
  fun K => decide (PySem.W.nsIn K mainGlobals "super" = some none),
  fun K => decide (PySem.W.nsIn K cStatics "thirdparty.any" = some none),
  fun K => decide ((PySem.Challenge.rw_shuntplan_k73_neighbours_or_not.prog.main.scope.names.lookup ("super" : Str)).isSome = false),
  fun K => decide (PySem.W.nsIn K mainGlobals "NAME_LENGTH" = some (some (.int 8 (a_t1 K)))),
  fun K => decide (PySem.W.nsIn K mainGlobals "LETTERS" = some (some (.str "abcdefghijklmnopqrstuvwxyz" (a_t2 K)))),
  fun K => decide (PySem.W.nsIn K mainGlobals "MOST_WAGONS" = some (some (.int 30 (a_t3 K))))]
def tf : List (PySem.W.Frag → Addr) := [a_f33]
def obS (s : PySem.W.SharedT) : AlF := obsF xs 4 ds fs tf (HandSHeadRun.getT s)
end Hk
set_option Elab.async false
set_option linter.all false
set_option maxRecDepth 1000000
set_option maxHeartbeats 0
noncomputable section
namespace Hk
open PySem PySem.W PySem.Calls PyProof.Rows HandSHeadRun Hm
abbrev stQ (w : World) := stepQ (denQ tabQ) P w
/-- what is looked at, by the library's twins -/
def finQ (w : World) (s : SharedT) := (looksF P (boot_heap w.params) s.abs, seenQ qv loose (importedModules P.main.body) (fun s => xlAt qv [] s && recOk R.toRowW.records s) s.abs, obS s, lows.map (getT s), s.os)
theorem rn (w : World) (os : OsState) (pos1 pos2 : Pos) : (run0 (stQ w) P C w os pos1 pos2).map (finQ w) = some (finV P qv loose (fun _ => valF ds) w os) := by kernel_rfl
end Hk
set_option Elab.async false
set_option linter.all false
set_option maxRecDepth 1000000
set_option maxHeartbeats 0
noncomputable section
namespace Hk
open PySem PySem.W PySem.Calls PyProof.Rows HandSHeadRun Hm
theorem units : (Ctx.of C.code [topFrame C.q]).units < cLine := by decide +kernel
theorem md (w : World) (s1 : SharedT) (ck : C.chk w s1 = true) (hg : s1.gens = #[]) (pos : Pos) : Sem.wp (model P w) (Ctx.of C.code [topFrame C.q]) (exec C.st C.env) (fun f _ s' => f = .next ∧ s' = (C.mid w s1).abs) (fun _ _ _ => False) pos s1.abs :=
  mid_wp (prog := P) (nm := "FOLLOWERS") (ts := tris) (t := triL) (env := envP) (c := C.code) (B := [topFrame C.q]) units rfl (by rfl) (by kernel_rfl) rfl (by decide +kernel) (by kernel_rfl) (by kernel_rfl) ck pos
end Hk
set_option Elab.async false
set_option linter.all false
set_option maxRecDepth 1000000
set_option maxHeartbeats 0
noncomputable section
namespace Hk
open PySem PySem.W PySem.Calls PyProof.Rows HandSHeadRun Hm
theorem th (w : World) (os : OsState) : thr0 (stQ w) P C w os = some (⟨denQ tabQ C.code, C.code, C.pos0, [topFrame C.q]⟩, true) := by kernel_rfl
theorem fin_eq (w : World) : finT P qv loose (fun s => xlAt qv [] s && recOk R.toRowW.records s) obS w = finQ w := by
  funext s
  unfold finT finQ
  rw [seenQ_eq]
theorem shown : Shown P qv loose (fun s => xlAt qv [] s && recOk R.toRowW.records s) obS (fun _ => valF ds) C where
  pl := by rfl
  fe := fun _ => rfl
  bd := bd
  th := fun w os => by
    rw [stepQ_eq, denQ_eq, tabQ_eq]
    exact th w os
  rn := fun w os pos1 pos2 => by
    rw [stepQ_eq, denQ_eq, tabQ_eq, fin_eq]
    exact rn w os pos1 pos2
  md := md
end Hk
end
set_option Elab.async false
set_option linter.all false
set_option maxRecDepth 100000
set_option maxHeartbeats 4000000
namespace My
open PySem PySem.Spec PyProof.Rows L2
/-- a callee's promise and its name -/
structure Has (P : Program) (w : World) (K : PySem.W.Frag) (mg : Str → Option Value) (base : Heap) (k : Nat) (x : Str) (ps : List Str) (sp : Sp) (f : Addr) (fd : FuncData) : Prop where
  o : FnOk P w K mg base CX0 k f fd ps sp
  g : mg x = some (.ref f)
  k : PySem.W.keepIn K (.ref f) = true
  b : Binds K fd ps []
/-- what is not reached -/
theorem ps_no {X : Cx} {st : Stmt} : PS X st (fun _ _ _ => False) := ⟨fun _ _ _ _ _ _ h => h.elim⟩
section
variable {X : Cx} {k : Nat} {x : Str} {ps : List Str} {sp : Sp} {f : Addr} {fd : FuncData}
/-- the call of such a def by its name -/
theorem pe_has {e : Expr} {es : List Expr} {t : TA} {p pos : Pos} (G : Has X.prog X.w X.K X.mg X.base k x ps sp f fd) (hr : Room k X.A) (hg : Gl X x) (ha : PA X (e :: es) t) (nd : (x == ("__debug__" : Str)) = false := by decide)
    (he : starEach (e :: es) X.env = (false, eval e X.env) :: starEach es X.env := by rfl) (hp : (backTo pos (starEach es X.env)).any (·.1) = false := by rfl) : PE X (.Call (.Name x p) (e :: es) [] pos) (tCall sp [] E0 t) :=
  pe_call G.o hr hg G.g G.k G.b .nil pass0 ha nd he hp
end
end My
set_option Elab.async false
set_option linter.all false
set_option maxRecDepth 100000
set_option maxHeartbeats 4000000
namespace My
open PySem PySem.Spec PyProof.Rows L2
/-- a promise without errors -/
def sp0 (sp : Sp) : Sp := fun vs H Q _ => sp vs H Q E0
section
variable {P : Program} {w : World} {K : PySem.W.Frag} {mg : Str → Option Value} {base : Heap}
/-- a def that may raise, where it does not -/
theorem fnok_to0 {k : Nat} {f : Addr} {fd : FuncData} {ps : List Str} {sp : Sp} (F : FnOk P w K mg base (L2.CX P w) k f fd ps sp) : FnOk P w K mg base CX0 k f fd ps (sp0 sp) :=
  ⟨fun vs H Q E h => F.len _ _ _ _ h, fun A outer s H args us vs Q E hr he hb hv hs => codeAny_mono (F.run A outer s H args us vs Q E0 hr he hb hv hs) fun r s' h => match r, h with
    | .ok (.ret _), h => h
    | .ok .next, h => h
    | .ok .brk, h => h
    | .ok .cont, h => h
    | .error _, ⟨_, _, _, _, _, _, _, _, _, _, _, _, z⟩ => z.elim⟩
end
end My
set_option Elab.async false
set_option linter.all false
set_option maxRecDepth 100000
set_option maxHeartbeats 4000000
namespace My
open PySem PySem.Spec PyProof.Rows L2

/-! ### the pen: where the drawing stands -/
def kCells : Key := .inr "cells"
def kTurn : Key := .inr "index"
def kRest : Key := .inr "left"
theorem k12 : ¬ kCells = kTurn := by decide +kernel
theorem k13 : ¬ kCells = kRest := by decide +kernel
theorem k23 : ¬ kTurn = kRest := by decide +kernel
def penL (c : Addr) (t r : Int) : List (Key × V) := [(kCells, .ref c), (kTurn, .int t), (kRest, .int r)]
theorem penL_cells (c : Addr) (t r : Int) : valV (penL c t r) kCells = some (.ref c) := valV_pos (p := (kCells, V.ref c)) rfl
theorem penL_turn (c : Addr) (t r : Int) : valV (penL c t r) kTurn = some (.int t) := (valV_neg (p := (kCells, V.ref c)) k12).trans (valV_pos (p := (kTurn, V.int t)) rfl)
theorem penL_rest (c : Addr) (t r : Int) : valV (penL c t r) kRest = some (.int r) :=
  ((valV_neg (p := (kCells, V.ref c)) k13).trans (valV_neg (p := (kTurn, V.int t)) k23)).trans (valV_pos (p := (kRest, V.int r)) rfl)
theorem put_turn (c : Addr) (t r y : Int) : putK (penL c t r) kTurn (.int y) = penL c y r := by
  unfold putK penL
  rw [if_pos (by simp)]
  simp only [List.map_cons, List.map_nil]
  rw [if_neg k12, if_pos trivial, if_neg fun z => k23 z.symm]
theorem put_rest (c : Addr) (t r y : Int) : putK (penL c t r) kRest (.int y) = penL c t y := by
  unfold putK penL
  rw [if_pos (by simp)]
  simp only [List.map_cons, List.map_nil]
  rw [if_neg k13, if_neg k23, if_pos trivial]
/-- at most n draws were made; the cells stand at c -/
structure PenAt (H : Hp) (p c : Addr) (n : Nat) : Prop where
  ex : ∃ (ns : List Int) (t r : Int), H p = some (.dK (penL c t r)) ∧ H c = some (.lst (ns.map V.int)) ∧ ns.length ≤ 63 ∧ 0 ≤ t ∧ t ≤ n
theorem PenAt.mono {H : Hp} {p c : Addr} {n m : Nat} (h : PenAt H p c n) (k : n ≤ m) : PenAt H p c m := let ⟨⟨ns, t, r, a, b, d, e, f⟩⟩ := h; ⟨⟨ns, t, r, a, b, d, e, by omega⟩⟩
theorem PenAt.ne {H : Hp} {p c : Addr} {n : Nat} (h : PenAt H p c n) : c ≠ p := let ⟨⟨_, _, _, a, b, _⟩⟩ := h; ne_of b a (fun z => nomatch z)
theorem penAt_of {H : Hp} {p c : Addr} {n : Nat} {kvs : List (Key × V)} {ns : List Int} {t r : Int} (e : kvs = penL c t r) (h : H p = some (.dK kvs)) (hc : H c = some (.lst (ns.map V.int))) (hl : ns.length ≤ 63) (h0 : 0 ≤ t) (h1 : t ≤ n) : PenAt H p c n :=
  ⟨⟨ns, t, r, e ▸ h, hc, hl, h0, h1⟩⟩
/-- all that was tracked is as it was, but the pen -/
def SameP (p : Addr) (H H' : Hp) : Prop := ∀ b o, b ≠ p → H b = some o → H' b = some o
theorem SameP.refl (p : Addr) (H : Hp) : SameP p H H := fun _ _ _ h => h
theorem SameP.trans {p : Addr} {H H1 H2 : Hp} (a : SameP p H H1) (b : SameP p H1 H2) : SameP p H H2 := fun c o n h => b c o n (a c o n h)
theorem SameP.of {p : Addr} {H H' : Hp} (a : Same H H') : SameP p H H' := fun c o _ h => a c o h
theorem same_new {H : Hp} {q : Addr} {o : HO} (h : H q = none) : Same H (upd H q o) := fun b x e => by rw [upd_ne (ne_of_none e h)]; exact e
theorem SameP.new {p : Addr} {H : Hp} {q : Addr} {o : HO} (h : H q = none) : SameP p H (upd H q o) := .of (same_new h)
theorem SameP.pen {p : Addr} {H : Hp} {o : HO} : SameP p H (upd H p o) := fun b x n e => by rw [upd_ne n]; exact e
theorem PenAt.same {H H' : Hp} {p c : Addr} {n : Nat} (h : PenAt H p c n) (s : Same H H') : PenAt H' p c n := let ⟨⟨ns, t, r, a, b, d, e, f⟩⟩ := h; ⟨⟨ns, t, r, s _ _ a, s _ _ b, d, e, f⟩⟩

/-! ### the draw's numbers -/
theorem mod_lo (a : Int) {b : Int} (h : 0 < b) : 0 ≤ a % b := Int.emod_nonneg a (by omega)
theorem mod_hi (a : Int) {b : Int} (h : 0 < b) : a % b < b := Int.emod_lt_of_pos a h
def primesL : List Int := [2147483629, 2147483647, 2147483563, 2147483587, 2147483579]
theorem prime_at (t : Int) : ∃ q : Int, atI (primesL.map V.int) (t % 5) = some (.int q) ∧ 0 < q ∧ q < 2147483648 := by
  have h1 := mod_lo t (b := 5) (by decide)
  have h2 := mod_hi t (b := 5) (by decide)
  have h3 : t % 5 = 0 ∨ t % 5 = 1 ∨ t % 5 = 2 ∨ t % 5 = 3 ∨ t % 5 = 4 := by omega
  rcases h3 with e | e | e | e | e <;> rw [e]
  · exact ⟨2147483629, rfl, by decide, by decide⟩
  · exact ⟨2147483647, rfl, by decide, by decide⟩
  · exact ⟨2147483563, rfl, by decide, by decide⟩
  · exact ⟨2147483587, rfl, by decide, by decide⟩
  · exact ⟨2147483579, rfl, by decide, by decide⟩
theorem cmul_l {i j : Int} (h0 : 0 ≤ i) (h1 : i ≤ 10 ^ 19) : CMul i j := .inl ⟨by omega, by
  have h : (10 : Int) ^ 19 < 2 ^ 64 := by decide
  exact Int.lt_of_le_of_lt h1 h⟩

/-! ### lists of ints as data -/
theorem dp_ints (K : PySem.W.Frag) (H : Hp) : ∀ ns : List Int, DpAll K H (ns.map V.int) (ns.map PyData.int)
  | [] => .nil
  | n :: r => .cons (.int n) (dp_ints K H r)
theorem lay_ints : ∀ ns : List Int, PyData.canLayAll0 (ns.map PyData.int) = true
  | [] => by simp only [List.map_nil, PyData.canLayAll0]
  | n :: r => by simp only [List.map_cons, PyData.canLayAll0, PyData.canLay0, lay_ints r, Bool.and_self]
theorem depth_ints : ∀ ns : List Int, PyData.depthAll (ns.map PyData.int) = 0
  | [] => by simp only [List.map_nil, PyData.depthAll]
  | n :: r => by simp only [List.map_cons, PyData.depthAll, PyData.depth, depth_ints r, Nat.max_self]
theorem shaped_ints (ns : List Int) : SeqAt.shaped (.list (ns.map PyData.int)) = true := by
  unfold SeqAt.shaped
  simp only [PyData.canLay0, lay_ints, PyData.depth, depth_ints]
  decide
theorem eqv_nil (ds : List PyData) : PyData.eqv (.list ds) (.list []) = ds.isEmpty := by
  cases ds <;> simp only [PyData.eqv, PyData.eqvAll, List.isEmpty]

section
variable {P : Program} {w : World} {K : PySem.W.Frag} {mg : Str → Option Value} {base : Heap}
/-- a number below size is drawn; nothing but the pen is touched -/
def spDraw : Sp := fun vs H Q _ => ∃ (p c : Addr) (n : Nat) (size : Int), vs = [.ref p, .int size] ∧ PenAt H p c n ∧ n ≤ 1000000000 ∧ 0 < size ∧ size < 1073741824 ∧
  ∀ (d : Int) (H' : Hp), 0 ≤ d → d < size → SameP p H H' → PenAt H' p c (n + 1) → Q (.int d) H'
theorem ok_draw {f : Addr} {fd : FuncData} {k : Nat} (F : Fun K "_law_draw" "_law_draw" sDraw f fd) (ml : mg "len" = none) (ma : mg "abs" = none) : FnOk P w K mg base CX0 (k + 1) f fd ["pen", "count"] spDraw := by
  refine F.ok scDraw (fun vs H Q E h => ?_) (fun cdv A outer s H vs Q E hr h => ?_)
  · obtain ⟨p, c, n, size, rfl, _⟩ := h
    rfl
  · obtain ⟨p, c, n, size, rfl, ⟨⟨ns, t, r, hp, hc, hlen, t0, tn⟩⟩, hn, s0, s1, q⟩ := h
    have hu := hu_of hr
    have hcp : c ≠ p := ne_of hc hp (fun z => nomatch z)
    refine ⟨_, pss_cons (ps_if (pt_cmpR op_gt (pe_dget hu (pv 0) pe_str (fun _ _ => rfl)) pe_int (nomark _))
        (pss_cons (ps_set (i := 2) scDraw.nd rfl (.inl rfl) (pe_op op_mod (pe_dget hu (pv 0) pe_str (fun _ _ => rfl)) (pv 1)))
        (pss_cons (ps_dput hu (pv 0) pe_str (pe_op op_fdiv (pe_dget hu (pv 0) pe_str (fun _ _ => rfl)) (pv 1)) rfl)
        (pss_one (ps_ret (pv 2))))) pss_nil)
      (pss_cons (ps_set (i := 3) scDraw.nd rfl (.inl rfl) (pe_dget hu (pv 0) pe_str (fun _ _ => rfl)))
      (pss_cons (ps_dput hu (pv 0) pe_str (pe_op op_add (pv 3) pe_int) rfl)
      (pss_cons (ps_set (i := 4) scDraw.nd rfl (.inl rfl) (pe_op op_add (pe_op op_mul pe_int (pv 3)) pe_int))
      (Evl.pss_cut (ps_if (pt_cmpR (op_neD hr.units) (pe_dget hu (pv 0) pe_str (fun _ _ => rfl)) (pe_lst pa_nil) (nomark _))
        (pss_one (ps_set (i := 4) scDraw.nd rfl (.inl rfl) (pe_ix ix_list (pe_dget hu (pv 0) pe_str (fun _ _ => rfl)) (pe_op op_mod (pv 3) (pe_callB call_len_seq (by rfl) ml PySem.boot_len (pa_cons (pe_dget hu (pv 0) pe_str (fun _ _ => rfl)) pa_nil))) (fun _ _ => rfl)))) pss_nil)
      (Evl.pss_cut (ps_if (PW.pt (pw_and (pt_cmpR op_lt (pv 3) (pe_callB call_len_seq (by rfl) ml PySem.boot_len (pa_cons (pe_dget hu (pv 0) pe_str (fun _ _ => rfl)) pa_nil)) (nomark _))
            (pw_and1 (pt_cmpR op_ge (pe_callB call_abs (by rfl) ma (by decide +kernel) (pa_cons (pv 4) pa_nil)) (pe_op op_pow pe_int pe_int) (nomark _)))))
          (pss_cons (ps_dput hu (pv 0) pe_str (pe_op op_fdiv (pe_op op_sub (pe_callB call_abs (by rfl) ma (by decide +kernel) (pa_cons (pv 4) pa_nil)) (pe_op op_pow pe_int pe_int)) (pv 1)) rfl)
          (pss_one (ps_ret (pe_op op_mod (pe_op op_sub (pe_callB call_abs (by rfl) ma (by decide +kernel) (pa_cons (pv 4) pa_nil)) (pe_op op_pow pe_int pe_int)) (pv 1))))) pss_nil)
      (pss_cons (ps_set (i := 5) scDraw.nd rfl (.inl rfl) (pe_op op_add (pe_op op_mul (pe_op op_mod (pv 4) pe_int) pe_int) (pe_op op_mul (pe_op op_mul pe_int (pv 3)) (pv 3))))
      (pss_cons (ps_set (i := 5) scDraw.nd rfl (.inl rfl) (pe_op op_mod (pe_op op_add (pe_op op_add (pv 5) (pe_op op_mul pe_int (pv 3))) pe_int) pe_int))
      (pss_cons (ps_set (i := 5) scDraw.nd rfl (.inl rfl) (pe_op op_mod (pe_op op_add (pe_op op_add (pe_op op_add (pe_op op_mul (pv 5) (pv 5)) (pe_op op_mul pe_int (pv 5))) (pe_op op_mul pe_int (pv 3))) pe_int) pe_int))
      (pss_one (ps_ret (pe_op op_mod (pe_op op_fdiv (pe_op op_mod (pe_op op_mul (pv 5) (pe_op op_add (pv 5) pe_int)) pe_int) pe_int) (pv 1)))))))))))), ?_⟩
    -- if pen['rest'] > 0
    refine ⟨_, rfl, p, _, rfl, penL_rest c t r ▸ DGet.k (k := kRest) hp, r, 0, rfl, rfl, _, rfl, ite2 (fun _ => ?_) (fun _ => ?_)⟩
    · refine ⟨_, rfl, p, _, rfl, penL_rest c t r ▸ DGet.k (k := kRest) hp, _, rfl, r, size, rfl, rfl, s0, ?_⟩
      refine ⟨_, rfl, p, _, rfl, penL_rest c t r ▸ DGet.k (k := kRest) hp, _, rfl, r, size, rfl, rfl, ⟨s0, s1⟩, _, rfl, p, _, rfl, DPut.k (k := kRest) hp (by show 3 < sizeLine; decide), ?_⟩
      exact ⟨_, rfl, q _ _ (mod_lo r s0) (mod_hi r s0) SameP.pen (penAt_of (put_rest c t r _) upd_same ((upd_ne hcp).trans hc) hlen t0 (by omega))⟩
    -- turn = pen['turn']; pen['turn'] = turn + 1; cell = 61 * turn + 17
    · refine ⟨_, rfl, p, _, rfl, penL_turn c t r ▸ DGet.k (k := kTurn) hp, ?_⟩
      refine ⟨_, rfl, _, _, rfl, rfl, _, rfl, p, _, rfl, DPut.k (k := kTurn) hp (by show 3 < sizeLine; decide), ?_⟩
      rw [put_turn]
      generalize hH1 : upd H p (.dK (penL c (t + 1) r)) = H1
      have p1 : H1 p = some (.dK (penL c (t + 1) r)) := by rw [← hH1, upd_same]
      have c1 : H1 c = some (.lst (ns.map V.int)) := by rw [← hH1, upd_ne hcp]; exact hc
      have sm : SameP p H H1 := by rw [← hH1]; exact SameP.pen
      refine ⟨_, rfl, _, _, rfl, rfl, .inl ⟨by decide, by decide⟩, _, _, rfl, rfl, ?_⟩
      -- if pen['cells'] != []
      refine ⟨fun σ H2 => ∃ cell : Int, σ = [some (.ref p), some (.int size), none, some (.int t), some (.int cell), none] ∧ Same H1 H2, ?_, ?_⟩
      · refine ⟨_, rfl, p, _, rfl, penL_cells c (t + 1) r ▸ DGet.k (k := kCells) p1, by show 0 ≤ sizeLine; decide, fun l hl => ?_⟩
        have sl : Same H1 (upd H1 l (.lst [])) := same_new hl
        have c2 := sl _ _ c1
        have p2 := sl _ _ p1
        refine ⟨.list (ns.map PyData.int), .list [], .lst (.inl (.inl c2)) (dp_ints K _ ns), .lst (.inl (.inl upd_same)) .nil, shaped_ints ns, shaped_ints [], _, rfl, ?_⟩
        rw [eqv_nil]
        cases ns with
        | nil => exact iteF ⟨_, rfl, sl⟩
        | cons n0 nr =>
          refine iteT ?_
          have lp : (0 : Int) < (((n0 :: nr).map V.int).length : Int) := by simp
          obtain ⟨j, hj⟩ : ∃ j : Nat, t % (((n0 :: nr).map V.int).length : Int) = (j : Int) := ⟨(t % (((n0 :: nr).map V.int).length : Int)).toNat, by have := mod_lo t lp; omega⟩
          have hjl : j < (n0 :: nr).length := by
            have h2 := mod_hi t lp
            rw [hj, List.length_map] at h2
            omega
          refine ⟨_, rfl, p, _, rfl, penL_cells c (t + 1) r ▸ DGet.k (k := kCells) p2, _, rfl, _, rfl, p, _, rfl, penL_cells c (t + 1) r ▸ DGet.k (k := kCells) p2, c, _, rfl, .inl (.inl (.inl c2)), t, _, rfl, rfl, lp, ?_⟩
          refine ⟨c, _, _, .int (n0 :: nr)[j], rfl, rfl, .inl (.inl c2), ?_, ⟨_, rfl, sl⟩⟩
          rw [hj]
          refine atI_nat ?_
          rw [List.getElem?_map, List.getElem?_eq_getElem hjl]
          rfl
      · -- if turn < len(cells) and abs(cell) >= 10 ** 18
        rintro σ H2 ⟨cell, rfl, s2⟩
        have c2 := s2 _ _ c1
        have p2 := s2 _ _ p1
        have sm2 : SameP p H H2 := sm.trans (.of s2)
        refine ⟨fun σ H3 => σ = [some (.ref p), some (.int size), none, some (.int t), some (.int cell), none] ∧ H3 = H2, ?_, ?_⟩
        · refine ⟨_, rfl, _, rfl, p, _, rfl, penL_cells c (t + 1) r ▸ DGet.k (k := kCells) p2, c, _, rfl, .inl (.inl (.inl c2)), _, _, rfl, rfl, _, rfl, ite2 (fun _ => ?_) (fun _ => iteF ⟨rfl, rfl⟩)⟩
          refine ⟨_, rfl, _, rfl, _, _, rfl, rfl, ⟨by decide, by decide, by decide⟩, _, _, rfl, rfl, _, rfl, ite2 (fun _ => ?_) (fun _ => ⟨rfl, rfl⟩)⟩
          refine ⟨_, rfl, _, rfl, _, _, rfl, rfl, ⟨by decide, by decide, by decide⟩, _, _, rfl, rfl, _, rfl, _, _, rfl, rfl, ⟨s0, s1⟩, _, rfl, p, _, rfl, DPut.k (k := kRest) p2 (by show 3 < sizeLine; decide), ?_⟩
          refine ⟨_, rfl, _, rfl, _, _, rfl, rfl, ⟨by decide, by decide, by decide⟩, _, _, rfl, rfl, _, rfl, _, _, rfl, rfl, s0, ?_⟩
          exact q _ _ (mod_lo _ s0) (mod_hi _ s0) (sm2.trans SameP.pen) (penAt_of (put_rest c (t + 1) r _) upd_same ((upd_ne hcp).trans c2) hlen (by omega) (by omega))
        · rintro σ H3 ⟨rfl, rfl⟩
          have tb : t ≤ 1000000000 := by omega
          have m1 := mod_lo cell (b := 2147483629) (by decide)
          have m2 := mod_hi cell (b := 2147483629) (by decide)
          -- mixed
          refine ⟨_, rfl, _, _, rfl, rfl, (by show (0 : Int) < 2147483629; decide), _, _, rfl, rfl, cmul_l m1 (by omega), _, rfl, _, _, rfl, rfl, cmul_l (by decide) (by decide), _, rfl, _, _, rfl, rfl, cmul_l (by omega) (by omega), _, _, rfl, rfl, ?_⟩
          have lt1 : ∀ a : Int, a % 2147483647 ≤ 10 ^ 19 := fun a => Int.le_trans (Int.le_of_lt (mod_hi a (by decide))) (by decide)
          have lt2 : ∀ a : Int, a % 2147483587 ≤ 10 ^ 19 := fun a => Int.le_trans (Int.le_of_lt (mod_hi a (by decide))) (by decide)
          refine ⟨_, rfl, _, rfl, _, _, rfl, rfl, cmul_l (by decide) (by decide), _, _, rfl, rfl, _, _, rfl, rfl, _, _, rfl, rfl, (by show (0 : Int) < 2147483647; decide), ?_⟩
          refine ⟨_, rfl, _, rfl, _, _, rfl, rfl, cmul_l (mod_lo _ (by decide)) (lt1 _), _, rfl, _, _, rfl, rfl, cmul_l (by decide) (by decide), _, _, rfl, rfl, _, rfl, _, _, rfl, rfl, cmul_l (by decide) (by decide), _, _, rfl, rfl, _, _, rfl, rfl, _, _, rfl, rfl, (by show (0 : Int) < 2147483587; decide), ?_⟩
          refine ⟨_, rfl, _, rfl, _, _, rfl, rfl, _, _, rfl, rfl, cmul_l (mod_lo _ (by decide)) (lt2 _), _, _, rfl, rfl, (by show (0 : Int) < 2147483563; decide), _, _, rfl, rfl, ⟨by decide, by decide⟩, _, rfl, _, _, rfl, rfl, s0, ?_⟩
          exact q _ _ (mod_lo _ s0) (mod_hi _ s0) sm2 (penAt_of (t := t + 1) (r := r) rfl p2 c2 hlen (by omega) (by omega))
end
/-! ### what stays when a pen draws -/
theorem sameP_ne {p c : Addr} {H : Hp} {n : Nat} (g : PenAt H p c n) {a : Addr} {o : HO} (e : H a = some o) (h : ∀ kvs, o ≠ .dK kvs) : a ≠ p := by
  obtain ⟨⟨_, _, _, hp, _⟩⟩ := g
  rintro rfl
  rw [e] at hp
  exact h _ (Option.some.inj hp)
section
variable {K : PySem.W.Frag} {H H' : Hp} {p c : Addr} {n : Nat}
theorem SameP.lst (s : SameP p H H') (g : PenAt H p c n) {a : Addr} {xs : List V} (e : H a = some (.lst xs)) : H' a = some (.lst xs) := s _ _ (sameP_ne g e fun _ z => nomatch z) e
theorem SameP.tup (s : SameP p H H') (g : PenAt H p c n) {a : Addr} {xs : List V} (e : H a = some (.tup xs)) : H' a = some (.tup xs) := s _ _ (sameP_ne g e fun _ z => nomatch z) e
theorem SameP.sqL (s : SameP p H H') (g : PenAt H p c n) {a : Addr} {xs : List V} (e : SqL K H a xs) : SqL K H' a xs := by
  rcases e with (e | ⟨o, e⟩) | e
  · exact .inl (.inl (s.lst g e))
  · exact .inl (.inr ⟨o, s _ _ (sameP_ne g e fun _ z => nomatch z) e⟩)
  · exact .inr e
theorem SameP.sqT (s : SameP p H H') (g : PenAt H p c n) {a : Addr} {xs : List V} (e : SqT K H a xs) : SqT K H' a xs := by
  rcases e with (e | ⟨o, e⟩) | e
  · exact .inl (.inl (s.tup g e))
  · exact .inl (.inr ⟨o, s _ _ (sameP_ne g e fun _ z => nomatch z) e⟩)
  · exact .inr e
/-- lists and tuples that were read are read so again -/
structure Keeps (K : PySem.W.Frag) (H H' : Hp) : Prop where
  l : ∀ a xs, SqL K H a xs → SqL K H' a xs
  t : ∀ a xs, SqT K H a xs → SqT K H' a xs
theorem SameP.keeps (s : SameP p H H') (g : PenAt H p c n) : Keeps K H H' := ⟨fun _ _ e => s.sqL g e, fun _ _ e => s.sqT g e⟩
theorem _root_.L2.Same.keeps (s : Same H H') : Keeps K H H' := ⟨fun _ _ e => s.seq e, fun a xs e => by
  rcases e with (e | ⟨o, e⟩) | e
  · exact .inl (.inl (s _ _ e))
  · exact .inl (.inr ⟨o, s _ _ e⟩)
  · exact .inr e⟩
mutual
theorem dp_keep (s : Keeps K H H') : ∀ (d : PyData) (v : V), Dp K H v d → Dp K H' v d
  | .none, _, h => by cases h; exact .non
  | .bool _, _, h => by cases h; exact .bl _
  | .int _, _, h => by cases h; exact .int _
  | .str _, _, h => by cases h; exact .str _
  | .list ds, _, h => by
    cases h with
    | lst a b => exact .lst (s.l _ _ a) (dp_keepAll s ds _ b)
  | .tuple ds, _, h => by
    cases h with
    | tup a b => exact .tup (s.t _ _ a) (dp_keepAll s ds _ b)
  | .dict _, _, h => by cases h
theorem dp_keepAll (s : Keeps K H H') : ∀ (ds : List PyData) (vs : List V), DpAll K H vs ds → DpAll K H' vs ds
  | [], _, h => by cases h; exact .nil
  | d :: ds, _, h => by
    cases h with
    | cons a b => exact .cons (dp_keep s d _ a) (dp_keepAll s ds _ b)
end
/-- a list, a tuple, a text, by its items -/
inductive SeqOf (K : PySem.W.Frag) (H : Hp) : V → List V → Prop
  | lst {a : Addr} {xs : List V} : SqL K H a xs → SeqOf K H (.ref a) xs
  | tup {a : Addr} {xs : List V} : SqT K H a xs → SeqOf K H (.ref a) xs
  | str {z : Str} : z.length ≤ sizeLine → SeqOf K H (.str z) (z.cps.toList.map fun c => .str ⟨#[c]⟩)
theorem SeqOf.keep (s : Keeps K H H') {x : V} {xs : List V} (h : SeqOf K H x xs) : SeqOf K H' x xs := by
  cases h with
  | lst e => exact .lst (s.l _ _ e)
  | tup e => exact .tup (s.t _ _ e)
  | str e => exact .str e
theorem SeqOf.len {x : V} {xs : List V} (h : SeqOf K H x xs) : LenV K x H xs.length := by
  cases h with
  | lst e => exact .inl ⟨_, e, rfl⟩
  | tup e => exact .inr ⟨_, e, rfl⟩
  | @str z e =>
    refine ⟨e, ?_⟩
    rw [List.length_map, Array.length_toList]
    rfl
theorem SeqOf.ix {x : V} {xs : List V} (h : SeqOf K H x xs) {i : Nat} {v : V} (hi : xs[i]? = some v) {Q : VK} (q : Q v H) : rIx K x (.int i) H Q := by
  cases h with
  | lst e => exact .inl ⟨_, _, _, _, rfl, rfl, e, atI_nat hi, q⟩
  | tup e => exact .inr (.inl ⟨_, _, _, _, rfl, rfl, e, atI_nat hi, q⟩)
  | @str z e =>
    rw [List.getElem?_map] at hi
    obtain ⟨cd, h1, rfl⟩ := Option.map_eq_some_iff.mp hi
    exact .inr (.inr ⟨_, _, _, rfl, rfl, e, atI_nat h1, q⟩)
end

section
variable {P : Program} {w : World} {K : PySem.W.Frag} {mg : Str → Option Value} {base : Heap}
/-- one of the options -/
def spPick (K : PySem.W.Frag) : Sp := fun vs H Q _ => ∃ (p c : Addr) (n : Nat) (o : V) (xs : List V), vs = [.ref p, o] ∧ PenAt H p c n ∧ n ≤ 1000000000 ∧ SeqOf K H o xs ∧ 0 < xs.length ∧ xs.length < 1073741824 ∧
  ∀ (i : Nat) (v : V) (H' : Hp), xs[i]? = some v → SameP p H H' → PenAt H' p c (n + 1) → Q v H'
theorem ok_pick {f fD : Addr} {fd fdD : FuncData} {k : Nat} (F : Fun K "_law_pick" "_law_pick" sPick f fd) (ml : mg "len" = none) (GD : FnOk P w K mg base CX0 k fD fdD ["pen", "count"] spDraw) (gD : mg "_law_draw" = some (.ref fD)) (kD : PySem.W.keepIn K (.ref fD) = true)
    (bD : Binds K fdD ["pen", "count"] []) : FnOk P w K mg base CX0 (k + 1) f fd ["pen", "options"] (spPick K) := by
  refine F.ok scPick (fun vs H Q E h => ?_) (fun cdv A outer s H vs Q E hr h => ?_)
  · obtain ⟨p, c, n, o, xs, rfl, _⟩ := h
    rfl
  · obtain ⟨p, c, n, o, xs, rfl, G, hn, hx, h0, h1, q⟩ := h
    refine ⟨_, pss_one (ps_ret (pe_ix ix_seq (pv 1) (pe_call GD hr (by rfl) gD kD bD .nil pass0 (pa_cons (pv 0) (pa_cons (pe_callB call_len (by rfl) ml PySem.boot_len (pa_cons (pv 1) pa_nil)) pa_nil))) (fun _ _ => rfl))), ?_⟩
    refine ⟨_, rfl, _, rfl, _, rfl, o, xs.length, rfl, hx.len, p, c, n, _, rfl, G, hn, by omega, by omega, fun d H' d0 d1 s G' => ?_⟩
    obtain ⟨i, rfl⟩ : ∃ i : Nat, d = (i : Int) := ⟨d.toNat, by omega⟩
    have hi : i < xs.length := by omega
    exact SeqOf.ix (hx.keep (s.keeps G)) (List.getElem?_eq_getElem hi) (q i _ H' (List.getElem?_eq_getElem hi) s G')
end
end My
set_option Elab.async false
set_option linter.all false
set_option maxRecDepth 100000
set_option maxHeartbeats 4000000
/-! xs != [], t != (), == likewise, whatever the items are. -/
namespace My
open PySem PySem.Spec PyProof.Rows L2 SeqAt
section
variable {X : Cx}
/-- a list beside an empty list, a tuple beside an empty tuple -/
def rNil (K : PySem.W.Frag) (f : Bool → Bool) : R2 := fun x y H Q => ∃ a b xs, x = .ref a ∧ y = .ref b ∧ ((SqL K H a xs ∧ SqL K H b []) ∨ (SqT K H a xs ∧ SqT K H b [])) ∧ Q (.bl (f xs.isEmpty)) H
theorem vals_nil {its : List Value} (r : Vals [] its) : its = [] := by cases r; rfl
theorem vals_emp {xs : List V} {its : List Value} (r : Vals xs its) : (its.toArray.size == 0) = xs.isEmpty := by
  cases r <;> rfl
theorem op_neNil (hu : X.A.units + 64 < cLine) : OpR X (compareOp .NotEq) (rNil X.K not) := by
  intro pins s σ H x y v u Q I rx ry h
  obtain ⟨a, b, xs, rfl, rfl, h, q⟩ := h
  cases rx
  cases ry
  rcases h with ⟨ha, hb⟩ | ⟨ha, hb⟩
  · obtain ⟨its, rv, ⟨o, n, ho, hc, _, hd⟩, _⟩ := I.list ha
    obtain ⟨its2, rv2, ⟨o2, n2, ho2, hc2, _, hd2⟩, _⟩ := I.list hb
    cases vals_nil rv2
    have l1 : s.heap.IsList a its.toArray := ⟨o, ho, hc, n, hd⟩
    have l2 : s.heap.IsList b #[] := ⟨o2, ho2, hc2, n2, hd2⟩
    cases rv with
    | nil => exact RcNeAt.lists (e := fun _ => true) l1 l2 rfl (by omega) (fun j h1 => absurd h1 (Nat.not_lt_zero j)) _ _ _ _ ⟨.bl _, H, I, rfl, q⟩
    | cons r t => exact RcNeAt.lists_lengths l1 l2 (by simp) (by omega) _ _ _ _ ⟨.bl _, H, I, rfl, q⟩
  · obtain ⟨its, rv, ⟨o, ho, hc, n, hd⟩, _⟩ := I.tuple ha
    obtain ⟨its2, rv2, ⟨o2, ho2, hc2, n2, hd2⟩, _⟩ := I.tuple hb
    cases vals_nil rv2
    have l1 : s.heap.IsTuple a its.toArray := ⟨o, ho, hc, n, hd⟩
    have l2 : s.heap.IsTuple b #[] := ⟨o2, ho2, hc2, n2, hd2⟩
    refine RcNeAt.tuples (e := fun _ => true) l1 l2 (by omega) (fun j _ h2 => absurd h2 (Nat.not_lt_zero j)) _ _ _ _ ?_
    rw [show min its.toArray.size (#[] : Array Value).size = 0 from Nat.min_zero _]
    refine ⟨.bl (!xs.isEmpty), H, I, ?_, q⟩
    show Value.bool _ = Value.bool _
    rw [← vals_emp rv]
    simp
end
end My
set_option Elab.async false
set_option linter.all false
set_option maxRecDepth 100000
set_option maxHeartbeats 4000000
namespace My
open PySem PySem.Spec PyProof.Rows L2

theorem PenAt.apart {H : Hp} {p c a : Addr} {n : Nat} (G : PenAt H p c n) (h : H a = none) : c ≠ a := let ⟨⟨_, _, _, _, hc, _⟩⟩ := G; ne_of_none hc h
theorem PenAt.apart' {H : Hp} {p c a : Addr} {n : Nat} (G : PenAt H p c n) (h : H a = none) : p ≠ a := let ⟨⟨_, _, _, hp, _⟩⟩ := G; ne_of_none hp h
theorem PenAt.upd {H : Hp} {p c a : Addr} {n : Nat} {o : HO} (G : PenAt H p c n) (h : p ≠ a) (k : c ≠ a) : PenAt (upd H a o) p c n :=
  let ⟨⟨ns, t, r, hp, hc, e⟩⟩ := G; ⟨⟨ns, t, r, (upd_ne h).trans hp, (upd_ne k).trans hc, e⟩⟩
theorem SameP.free {H H' : Hp} {p c a : Addr} {n : Nat} (s : SameP p H H') (G : PenAt H' p c n) (h : H' a = none) : H a = none := by
  cases e : H a with
  | none => rfl
  | some o => rw [s a o (Ne.symm (G.apart' h)) e] at h; cases h
theorem perm_erase {α : Type} : ∀ (xs : List α) (i : Nat) (h : i < xs.length), (xs[i] :: xs.eraseIdx i).Perm xs
  | x :: r, 0, _ => .refl _
  | x :: r, i + 1, h => ((List.Perm.swap x (r[i]'(Nat.lt_of_succ_lt_succ h)) (r.eraseIdx i)).trans ((perm_erase r i (Nat.lt_of_succ_lt_succ h)).cons x))

section
variable {P : Program} {w : World} {K : PySem.W.Frag} {mg : Str → Option Value} {base : Heap}
/-- a new list of the same things in some order -/
def spShuf (K : PySem.W.Frag) : Sp := fun vs H Q _ => ∃ (p c a : Addr) (n : Nat) (xs : List V), vs = [.ref p, .ref a] ∧ PenAt H p c n ∧ n ≤ 900000000 ∧ SeqOf K H (.ref a) xs ∧ xs.length ≤ 100000 ∧
  ∀ (l : Addr) (ys : List V) (H' : Hp), ys.Perm xs → H l = none → H' l = some (.lst ys) → SameP p H H' → PenAt H' p c (n + xs.length) → Q (.ref l) H'
theorem ok_shuf {f fD : Addr} {fd fdD : FuncData} {k : Nat} (F : Fun K "_law_shuffled" "_law_shuffled" sShuf f fd) (ml : mg "len" = none) (mli : mg "list" = none) (GD : FnOk P w K mg base CX0 k fD fdD ["pen", "count"] spDraw) (gD : mg "_law_draw" = some (.ref fD)) (kD : PySem.W.keepIn K (.ref fD) = true)
    (bD : Binds K fdD ["pen", "count"] []) : FnOk P w K mg base CX0 (k + 1) f fd ["pen", "items"] (spShuf K) := by
  refine F.ok scShuf (fun vs H Q E h => ?_) (fun cdv A outer s H vs Q E hr h => ?_)
  · obtain ⟨p, c, a, n, xs, rfl, _⟩ := h
    rfl
  · obtain ⟨p, c, a, n, xs, rfl, G, hn, hx, h1, q⟩ := h
    refine ⟨_, pss_cons (ps_par (i := 2) (j := 3) (by rfl) scShuf.nd rfl rfl (by decide) rfl rfl (pa_cons (pe_callTy call_list_of (by rfl) mli (by decide +kernel) (pa_cons (pv 1) pa_nil)) (pa_cons (pe_lst pa_nil) pa_nil)) (by rfl))
      (pss_cons (ps_while PassesOwn.never (pt_cmpR (op_neNil hr.units) (pv 2) (pe_lst pa_nil) (nomark _))
        (pss_one (ps_expr (pe_bm PySem.F.plainAttrs_list PySem.F.slot_list_append PySem.F.type_list_append mt_append (pv 3) (pa_cons
          (pe_bm PySem.F.plainAttrs_list PySem.F.slot_list_pop PySem.F.type_list_pop mt_popAt (pv 2) (pa_cons (pe_call GD hr (by rfl) gD kD bD .nil pass0 (pa_cons (pv 0) (pa_cons (pe_callB call_len_seq (by rfl) ml PySem.boot_len (pa_cons (pv 2) pa_nil)) pa_nil))) pa_nil)) pa_nil)))))
      (pss_one (ps_ret (pv 3)))), ?_⟩
    -- left, found = list(some), []
    have hs : SqL K H a xs ∨ SqT K H a xs := by
      cases hx with
      | lst e => exact .inl e
      | tup e => exact .inr e
    refine ⟨_, rfl, a, xs, rfl, hs, fun l hl => ?_⟩
    refine ⟨by show 0 ≤ sizeLine; decide, fun g hg => ?_⟩
    have nlg : l ≠ g := fun z => by rw [z, upd_same] at hg; cases hg
    have g0 : H g = none := by
      rw [upd_ne (Ne.symm nlg)] at hg
      exact hg
    have s1 : Same H (upd (upd H l (.lst xs)) g (.lst [])) := (same_new hl).trans (same_new hg)
    refine ⟨_, _, rfl, ?_⟩
    -- while left != []
    refine ⟨fun m σ H2 => ∃ (left found : List V), σ = [some (.ref p), some (.ref a), some (.ref l), some (.ref g)] ∧ m = left.length ∧ SameP p H H2 ∧ H2 l = some (.lst left) ∧ H2 g = some (.lst found) ∧ (found ++ left).Perm xs ∧ PenAt H2 p c (n + found.length),
      ⟨_, xs, [], rfl, rfl, .of s1, by rw [upd_ne nlg, upd_same], upd_same, .refl _, G.same s1⟩, fun m σ H2 hW => ?_⟩
    obtain ⟨left, found, rfl, rfl, s2, el, eg, pm, G2⟩ := hW
    have hlen : found.length + left.length = xs.length := by
      have := pm.length_eq
      rwa [List.length_append] at this
    refine ⟨_, rfl, by show 0 ≤ sizeLine; decide, fun e he => ?_⟩
    have se : Same H2 (upd H2 e (.lst [])) := same_new he
    refine ⟨l, e, left, rfl, rfl, .inl ⟨.inl (.inl (se _ _ el)), .inl (.inl upd_same)⟩, _, rfl, ?_⟩
    generalize hH3 : upd H2 e (.lst []) = H3 at se
    have el3 := se _ _ el
    have eg3 := se _ _ eg
    have G3 := G2.same se
    cases left with
    | nil =>
      refine iteF ⟨_, rfl, ?_⟩
      rw [List.append_nil] at pm
      refine q g found H3 pm g0 eg3 (s2.trans (.of se)) (G3.mono ?_)
      rw [pm.length_eq]
      exact Nat.le_refl _
    | cons y0 yr =>
      refine iteT ⟨_, fun _ _ z => z, ?_⟩
      -- found.append(left.pop(draw))
      refine ⟨_, rfl, .inl ⟨rfl, _, .inl (.inl eg3)⟩, _, rfl, .inl ⟨rfl, _, .inl (.inl el3)⟩, _, rfl, _, rfl, l, _, rfl, .inl (.inl (.inl el3)), p, c, _, _, rfl, G3, by omega, by simp, by rw [List.length_cons] at *; omega, fun d H4 d0 d1 s4 G4 => ?_⟩
      obtain ⟨i, rfl⟩ : ∃ i : Nat, d = (i : Int) := ⟨d.toNat, by omega⟩
      have hi : i < (y0 :: yr).length := by omega
      have el4 := s4.lst G3 el3
      have eg4 := s4.lst G3 eg3
      refine ⟨l, _, _, i, (y0 :: yr)[i], rfl, rfl, el4, by omega, by omega, by rw [seqIndex_of (by omega) (by omega)]; rfl, List.getElem?_eq_getElem hi, ?_⟩
      refine ⟨g, found, _, rfl, rfl, by rw [upd_ne (Ne.symm nlg)]; exact eg4, Evl.sz_lt (by omega), ?_⟩
      have lp := sameP_ne G3 el3 fun _ z => nomatch z
      have gp := sameP_ne G3 eg3 fun _ z => nomatch z
      have cl : c ≠ l := G.apart hl
      have cg : c ≠ g := G.apart g0
      refine ⟨_, ?_, (y0 :: yr).eraseIdx i, found ++ [(y0 :: yr)[i]], rfl, rfl, ?_, ?_, upd_same, ?_, ?_⟩
      · rw [List.length_eraseIdx, if_pos hi]
        simp
      · intro b o nb e0
        rw [upd_ne (ne_of_none e0 g0), upd_ne (ne_of_none e0 hl)]
        exact (s2.trans (SameP.of se)).trans s4 b o nb e0
      · rw [upd_ne nlg, upd_same]
      · rw [List.append_assoc]
        exact (List.Perm.append_left found (perm_erase (y0 :: yr) i hi)).trans pm
      · exact ((G4.upd (Ne.symm lp) cl).upd (Ne.symm gp) cg).mono (by rw [List.length_append, List.length_singleton]; omega)
end
end My
set_option Elab.async false
set_option linter.all false
set_option maxRecDepth 100000
set_option maxHeartbeats 4000000
/-! Comprehensions without a test, over a name. -/
namespace My
open PySem PySem.Spec PyProof.Rows L2
section
variable {K : PySem.W.Frag} {te : TE} {vs : List Nat} {σ : L2.St} {H1 : Hp} {D : Addr} {Qd : Hp → Prop} {j : Nat}
def Grows (te : TE) (D : Addr) (Pv : Hp → Prop) (σ : L2.St) (H : Hp) : Prop := te σ H fun y H4 => ∃ acc, H4 D = some (.lst acc) ∧ acc.length < sizeLine ∧ Pv (upd H4 D (.lst (acc ++ [y])))
theorem yes_turn {te : TE} {σ0 σ2 : L2.St} {H : Hp} {vs : List Nat} {R : V → Hp → Prop} {N : Hp → Prop} (a : wipe σ2 vs = wipe σ0 vs) (b : te σ2 H R) : wipe σ2 vs = wipe σ0 vs ∧ tYes σ2 H fun b H3 => if b = true then te σ2 H3 R else N H3 :=
  ⟨a, (if_pos rfl : (if true = true then te σ2 H R else N H) = te σ2 H R).mpr b⟩
def lcN_range {lo : Int} {n : Nat} (Pv : Nat → Hp → Prop) (h0 : Pv 0 (upd H1 D (.lst [])))
    (hs : ∀ i H, i < n → Pv i H → wipe ((wipe σ vs).set j (some (.int (lo + i)))) vs = wipe σ vs ∧ Grows te D (Pv (i + 1)) ((wipe σ vs).set j (some (.int (lo + i)))) H) (hd : ∀ H, Pv n H → Qd H) :=
  lc_range (lo := lo) (n := n) (g := gName j) (tt := tYes) (te := te) (vs := vs) (σ := σ) (H1 := H1) (D := D) (Qd := Qd) Pv h0 (fun i H hi p => yes_turn (hs i H hi p).1 (hs i H hi p).2) hd
def lcN_list {a : Addr} {xs : List V} (Pv : Nat → Hp → Prop) (h0 : Pv 0 (upd H1 D (.lst []))) (hl : ∀ i H, i ≤ xs.length → Pv i H → SqL K H a xs)
    (hs : ∀ i x H, xs[i]? = some x → Pv i H → wipe ((wipe σ vs).set j (some x)) vs = wipe σ vs ∧ Grows te D (Pv (i + 1)) ((wipe σ vs).set j (some x)) H) (hd : ∀ H, Pv xs.length H → Qd H) :=
  lc_list (K := K) (a := a) (xs := xs) (g := gName j) (tt := tYes) (te := te) (vs := vs) (σ := σ) (H1 := H1) (D := D) (Qd := Qd) Pv h0 hl (fun i x H hi p => yes_turn (hs i x H hi p).1 (hs i x H hi p).2) hd
def lcN_tup {a : Addr} {xs : List V} (Pv : Nat → Hp → Prop) (h0 : Pv 0 (upd H1 D (.lst []))) (hl : ∀ i H, i ≤ xs.length → Pv i H → SqT K H a xs)
    (hs : ∀ i x H, xs[i]? = some x → Pv i H → wipe ((wipe σ vs).set j (some x)) vs = wipe σ vs ∧ Grows te D (Pv (i + 1)) ((wipe σ vs).set j (some x)) H) (hd : ∀ H, Pv xs.length H → Qd H) :=
  lc_tup (K := K) (a := a) (xs := xs) (g := gName j) (tt := tYes) (te := te) (vs := vs) (σ := σ) (H1 := H1) (D := D) (Qd := Qd) Pv h0 hl (fun i x H hi p => yes_turn (hs i x H hi p).1 (hs i x H hi p).2) hd
end
end My
set_option Elab.async false
set_option linter.all false
set_option maxRecDepth 100000
set_option maxHeartbeats 4000000
namespace My
open PySem PySem.Spec PyProof.Rows L2

/-! ### a short text some few times -/
def rMulS : R2 := fun x y H Q => ∃ (z : Str) (i : Int), x = .str z ∧ y = .int i ∧ z.length ≤ 1000 ∧ i ≤ 1000 ∧ -1000 ≤ i ∧ Q (.str (Txt.mul z i)) H
theorem mulOk_small {x : Str} {n : Int} (h : x.length ≤ 1000) (h1 : n ≤ 1000) (h2 : -1000 ≤ n) : MulOk x n := by
  refine ⟨?_, fun a _ => ?_, fun a _ => ?_⟩
  · have e1 : decide (n < -(2 ^ 63 : Int)) = false := decide_eq_false (by omega)
    have e2 : decide (n ≥ (2 : Int) ^ 63) = false := decide_eq_false (by omega)
    rw [e1, e2]
    rfl
  · have h3 : (1000 : Int) ≤ (2 ^ 63 - 1) / n := Int.le_ediv_of_mul_le (by omega) (by omega)
    omega
  · have h3 : x.length * n.toNat ≤ 1000 * 1000 := Nat.mul_le_mul h (by omega)
    exact decide_eq_false (Nat.not_lt.mpr (Nat.le_trans h3 (by decide)))
theorem op_mulS {X : Cx} : OpR X (binaryOp .Mult) rMulS := by
  intro pins s σ H x y v u Q I rx ry h
  obtain ⟨z, i, rfl, rfl, h1, h2, h3, q⟩ := h
  obtain ⟨t, rfl⟩ := rx
  obtain ⟨t', rfl⟩ := ry
  exact SB.mul (mulOk_small h1 h2 h3) fun t2 k => ⟨.str _, H, I.tok _, ⟨_, rfl⟩, q⟩

/-! ### names -/
def NameOk (x : Str) : Prop := 1 ≤ x.length ∧ x.length ≤ 8 ∧ ∀ c ∈ x.cps.toList, 97 ≤ c ∧ c ≤ 122
def abc : Str := "abcdefghijklmnopqrstuvwxyz"
theorem abc_codes : abc.cps.toList = (List.range 26).map (97 + ·) := by decide +kernel
theorem abc_len : abc.length = 26 := by decide +kernel
theorem abc_at {j : Nat} (h : j < 26) : abc.cps.toList[j]? = some (97 + j) := by
  rw [abc_codes, List.getElem?_map, List.getElem?_range h]
  rfl
/-- the name at the k-th place -/
def wName (front : Str) (first step k : Nat) : Str := front ++ ⟨#[97 + (first + step * k) % 26]⟩ ++ (if 25 < k then ⟨#[97 + k % 26]⟩ else Str.empty)
theorem wName_codes (front : Str) (first step k : Nat) : (wName front first step k).cps.toList = front.cps.toList ++ [97 + (first + step * k) % 26] ++ (if 25 < k then [97 + k % 26] else []) := by
  unfold wName
  rw [Str.cps_append, Array.toList_append, Str.cps_append, Array.toList_append]
  by_cases h : 25 < k
  · rw [if_pos h, if_pos h]
  · rw [if_neg h, if_neg h]
    rfl
theorem str_len (x : Str) : x.length = x.cps.toList.length := by
  rw [Array.length_toList]
  rfl
theorem wName_ok {front : Str} (hf : front.length ≤ 6) (hc : ∀ c ∈ front.cps.toList, 97 ≤ c ∧ c ≤ 122) (first step k : Nat) : NameOk (wName front first step k) := by
  rw [str_len] at hf
  unfold NameOk
  rw [str_len, wName_codes, List.length_append, List.length_append, List.length_singleton]
  refine ⟨by omega, ?_, fun c h => ?_⟩
  · by_cases h : 25 < k
    · rw [if_pos h, List.length_singleton]
      omega
    · rw [if_neg h, List.length_nil]
      omega
  · rcases List.mem_append.mp h with h | h
    · rcases List.mem_append.mp h with h | h
      · exact hc c h
      · rw [List.mem_singleton.mp h]
        omega
    · by_cases g : 25 < k
      · rw [if_pos g] at h
        rw [List.mem_singleton.mp h]
        omega
      · rw [if_neg g] at h
        cases h
theorem step_inj {first step i j : Nat} (hs : step = 1 ∨ step = 3 ∨ step = 5 ∨ step = 7 ∨ step = 9 ∨ step = 11) (hi : i < 26) (hj : j < 26) (h : (first + step * i) % 26 = (first + step * j) % 26) : i = j := by
  rcases hs with rfl | rfl | rfl | rfl | rfl | rfl <;> omega
theorem wName_inj {front : Str} {first step i j : Nat} (hs : step = 1 ∨ step = 3 ∨ step = 5 ∨ step = 7 ∨ step = 9 ∨ step = 11) (hi : i < 52) (hj : j < 52) (h : wName front first step i = wName front first step j) : i = j := by
  have e : (wName front first step i).cps.toList = (wName front first step j).cps.toList := by rw [h]
  rw [wName_codes, wName_codes, List.append_assoc, List.append_assoc] at e
  have e := List.append_cancel_left e
  by_cases a : 25 < i
  · by_cases b : 25 < j
    · rw [if_pos a, if_pos b] at e
      simp only [List.singleton_append, List.cons.injEq, and_true] at e
      omega
    · rw [if_pos a, if_neg b] at e
      simp at e
  · by_cases b : 25 < j
    · rw [if_neg a, if_pos b] at e
      simp at e
    · rw [if_neg a, if_neg b] at e
      simp only [List.append_nil, List.cons.injEq, and_true] at e
      exact step_inj (first := first) hs (by omega) (by omega) (by omega)
def wNames (front : Str) (first step many : Nat) : List Str := (List.range many).map (wName front first step)
theorem nodup_map_on {α β : Type} {f : α → β} : ∀ {xs : List α}, xs.Nodup → (∀ a ∈ xs, ∀ b ∈ xs, f a = f b → a = b) → (xs.map f).Nodup
  | [], _, _ => List.nodup_nil
  | x :: r, h, g => by
    rw [List.nodup_cons] at h
    rw [List.map_cons, List.nodup_cons]
    refine ⟨fun z => ?_, nodup_map_on h.2 fun a ha b hb => g a (List.mem_cons_of_mem _ ha) b (List.mem_cons_of_mem _ hb)⟩
    obtain ⟨y, hy, e⟩ := List.mem_map.mp z
    have := g y (List.mem_cons_of_mem _ hy) x List.mem_cons_self e
    exact h.1 (this ▸ hy)
theorem wNames_nodup {front : Str} {first step many : Nat} (hs : step = 1 ∨ step = 3 ∨ step = 5 ∨ step = 7 ∨ step = 9 ∨ step = 11) (hm : many ≤ 52) : (wNames front first step many).Nodup :=
  nodup_map_on List.nodup_range fun a ha b hb e => wName_inj hs (Nat.lt_of_lt_of_le (List.mem_range.mp ha) hm) (Nat.lt_of_lt_of_le (List.mem_range.mp hb) hm) e
/-- many names, all different -/
structure Names (xs : List Str) : Prop where
  ok : ∀ x ∈ xs, NameOk x
  nd : xs.Nodup
theorem Names.perm {xs ys : List Str} (h : Names xs) (p : ys.Perm xs) : Names ys := ⟨fun x hx => h.ok x (p.subset hx), p.nodup_iff.mpr h.nd⟩
def unS : V → Str
  | .str z => z
  | _ => Str.empty
theorem perm_strs {ys : List V} {xs : List Str} (p : ys.Perm (xs.map V.str)) : ∃ zs : List Str, ys = zs.map V.str ∧ zs.Perm xs := by
  refine ⟨ys.map unS, ?_, ?_⟩
  · rw [List.map_map]
    have : ∀ v ∈ ys, (V.str ∘ unS) v = v := fun v hv => by
      obtain ⟨x, _, rfl⟩ := List.mem_map.mp (p.subset hv)
      rfl
    rw [List.map_congr_left this, List.map_id']
  · have := p.map unS
    rwa [List.map_map, show (unS ∘ V.str) = id from rfl, List.map_id] at this
def sign (cd : Nat) : Str := ⟨#[cd]⟩
theorem join_signs : ∀ cs : List Nat, (Str.join Str.empty (cs.map sign)).cps.toList = cs
  | [] => rfl
  | [_] => rfl
  | x :: y :: r => by
    have ih := join_signs (y :: r)
    show (sign x ++ Str.empty ++ Str.join Str.empty ((y :: r).map sign)).cps.toList = x :: y :: r
    rw [Str.cps_append, Array.toList_append, ih, Str.cps_append, Array.toList_append]
    rfl
theorem sum_signs : ∀ cs : List Nat, ((cs.map sign).map (·.length)).sum = cs.length
  | [] => rfl
  | x :: r => by
    rw [List.map_cons, List.map_cons, List.sum_cons, sum_signs r, List.length_cons]
    show 1 + r.length = r.length + 1
    omega
theorem signs_V (cs : List Nat) : (cs.map sign).map V.str = cs.map fun cd => V.str (sign cd) := by rw [List.map_map]; rfl
theorem abc_item {i : Nat} {v : V} (h : (abc.cps.toList.map fun cd => V.str ⟨#[cd]⟩)[i]? = some v) : ∃ cd, v = .str (sign cd) ∧ 97 ≤ cd ∧ cd ≤ 122 := by
  rw [abc_codes, List.map_map, List.getElem?_map] at h
  obtain ⟨j, h1, rfl⟩ := Option.map_eq_some_iff.mp h
  have h2 := List.mem_range.mp (List.mem_of_getElem? h1)
  exact ⟨97 + j, rfl, by omega, by omega⟩
theorem steps_item {i : Nat} {v : V} (h : ([.int 1, .int 3, .int 5, .int 7, .int 9, .int 11] : List V)[i]? = some v) : ∃ st : Nat, v = .int (st : Int) ∧ (st = 1 ∨ st = 3 ∨ st = 5 ∨ st = 7 ∨ st = 9 ∨ st = 11) := by
  have := List.mem_of_getElem? h
  simp only [List.mem_cons, List.not_mem_nil, or_false] at this
  rcases this with rfl | rfl | rfl | rfl | rfl | rfl
  · exact ⟨1, rfl, by omega⟩
  · exact ⟨3, rfl, by omega⟩
  · exact ⟨5, rfl, by omega⟩
  · exact ⟨7, rfl, by omega⟩
  · exact ⟨9, rfl, by omega⟩
  · exact ⟨11, rfl, by omega⟩
theorem place_nat (f st k : Nat) : ((f : Int) + (st : Int) * ((0 : Int) + (k : Int))) % 26 = (((f + st * k) % 26 : Nat) : Int) := by
  rw [Int.zero_add, ← Int.natCast_mul]
  omega
theorem mul_sign (cd : Nat) (b : Bool) : Txt.mul (sign cd) (if b then 1 else 0) = if b = true then sign cd else Str.empty := by
  cases b <;> rfl

section
variable {P : Program} {w : World} {K : PySem.W.Frag} {mg : Str → Option Value} {base : Heap}
/-- what the draw, the pick and the shuffling have promised -/
structure Draws (P : Program) (w : World) (K : PySem.W.Frag) (mg : Str → Option Value) (base : Heap) (fD fP fS : Addr) (dD dP dS : FuncData) : Prop where
  oD : FnOk P w K mg base CX0 1 fD dD ["pen", "count"] spDraw
  gD : mg "_law_draw" = some (.ref fD)
  kD : PySem.W.keepIn K (.ref fD) = true
  bD : Binds K dD ["pen", "count"] []
  oP : FnOk P w K mg base CX0 2 fP dP ["pen", "options"] (spPick K)
  gP : mg "_law_pick" = some (.ref fP)
  kP : PySem.W.keepIn K (.ref fP) = true
  bP : Binds K dP ["pen", "options"] []
  oS : FnOk P w K mg base CX0 2 fS dS ["pen", "items"] (spShuf K)
  gS : mg "_law_shuffled" = some (.ref fS)
  kS : PySem.W.keepIn K (.ref fS) = true
  bS : Binds K dS ["pen", "items"] []
end
end My
set_option Elab.async false
set_option linter.all false
set_option maxRecDepth 100000
set_option maxHeartbeats 4000000
namespace My
open PySem PySem.Spec PyProof.Rows L2

/-! ### data that never changes: None, bools, ints, texts, tuples of such -/
mutual
inductive Dt (K : PySem.W.Frag) (H : Hp) : V → PyData → Prop
  | non : Dt K H .non .none
  | bl (b : Bool) : Dt K H (.bl b) (.bool b)
  | int (i : Int) : Dt K H (.int i) (.int i)
  | str (x : Str) : Dt K H (.str x) (.str x)
  | tup {a : Addr} {xs : List V} {ds : List PyData} : SqT K H a xs → DtAll K H xs ds → Dt K H (.ref a) (.tuple ds)
inductive DtAll (K : PySem.W.Frag) (H : Hp) : List V → List PyData → Prop
  | nil : DtAll K H [] []
  | cons {v : V} {vs : List V} {d : PyData} {ds : List PyData} : Dt K H v d → DtAll K H vs ds → DtAll K H (v :: vs) (d :: ds)
end
/-- tuples that were read are read so again -/
def KeepsT (K : PySem.W.Frag) (H H' : Hp) : Prop := ∀ a xs, SqT K H a xs → SqT K H' a xs
section
variable {K : PySem.W.Frag} {H H' H2 : Hp}
mutual
theorem dt_keep (s : KeepsT K H H') : ∀ {d : PyData} {v : V}, Dt K H v d → Dt K H' v d
  | .none, _, h => by cases h; exact .non
  | .bool _, _, h => by cases h; exact .bl _
  | .int _, _, h => by cases h; exact .int _
  | .str _, _, h => by cases h; exact .str _
  | .tuple ds, _, h => by
    cases h with
    | tup a b => exact .tup (s _ _ a) (dt_keepAll s b)
  | .list _, _, h => by cases h
  | .dict _, _, h => by cases h
theorem dt_keepAll (s : KeepsT K H H') : ∀ {ds : List PyData} {vs : List V}, DtAll K H vs ds → DtAll K H' vs ds
  | [], _, h => by cases h; exact .nil
  | d :: ds, _, h => by
    cases h with
    | cons a b => exact .cons (dt_keep s a) (dt_keepAll s b)
end
mutual
theorem dt_dp : ∀ {d : PyData} {v : V}, Dt K H v d → Dp K H v d
  | .none, _, h => by cases h; exact .non
  | .bool _, _, h => by cases h; exact .bl _
  | .int _, _, h => by cases h; exact .int _
  | .str _, _, h => by cases h; exact .str _
  | .tuple ds, _, h => by
    cases h with
    | tup a b => exact .tup a (dt_dpAll b)
  | .list _, _, h => by cases h
  | .dict _, _, h => by cases h
theorem dt_dpAll : ∀ {ds : List PyData} {vs : List V}, DtAll K H vs ds → DpAll K H vs ds
  | [], _, h => by cases h; exact .nil
  | d :: ds, _, h => by
    cases h with
    | cons a b => exact .cons (dt_dp a) (dt_dpAll b)
end
theorem KeepsT.refl : KeepsT K H H := fun _ _ h => h
theorem KeepsT.trans (a : KeepsT K H H') (b : KeepsT K H' H2) : KeepsT K H H2 := fun _ _ h => b _ _ (a _ _ h)
theorem _root_.L2.Same.keepsT (s : Same H H') : KeepsT K H H' := s.keeps.t
theorem SameP.keepsT {p c : Addr} {n : Nat} (s : SameP p H H') (G : PenAt H p c n) : KeepsT K H H' := (s.keeps G).t
/-- a change at a place where no tuple stands -/
theorem KeepsT.at {a : Addr} {o : HO} (h : ∀ xs, H a ≠ some (.tup xs)) (h' : ∀ ob u, H a ≠ some (.frz ob u)) : KeepsT K H (upd H a o) := fun b xs e => by
  rcases e with (e | ⟨ob, e⟩) | e
  · exact .inl (.inl ((upd_ne (fun z : b = a => h xs (z ▸ e))).trans e))
  · exact .inl (.inr ⟨ob, (upd_ne (fun z : b = a => h' _ _ (z ▸ e))).trans e⟩)
  · exact .inr e
theorem KeepsT.lst {a : Addr} {xs : List V} {o : HO} (h : H a = some (.lst xs)) : KeepsT K H (upd H a o) := .at (fun _ z => by rw [h] at z; cases z) (fun _ _ z => by rw [h] at z; cases z)
theorem KeepsT.new {a : Addr} {o : HO} (h : H a = none) : KeepsT K H (upd H a o) := (same_new h).keepsT
theorem DtAll.append : ∀ {xs ys : List V} {ds es : List PyData}, DtAll K H xs ds → DtAll K H ys es → DtAll K H (xs ++ ys) (ds ++ es)
  | _, _, _, _, .nil, h => h
  | _, _, _, _, .cons a b, h => .cons a (b.append h)
theorem DtAll.length : ∀ {xs : List V} {ds : List PyData}, DtAll K H xs ds → xs.length = ds.length
  | _, _, .nil => rfl
  | _, _, .cons _ b => congrArg (· + 1) b.length
theorem DtAll.at : ∀ {xs : List V} {ds : List PyData} {i : Nat} {v : V}, DtAll K H xs ds → xs[i]? = some v → ∃ d, ds[i]? = some d ∧ Dt K H v d
  | _, _, 0, _, .cons a _, h => by
    cases h
    exact ⟨_, rfl, a⟩
  | _, _, i + 1, _, .cons _ b, h => b.at (i := i) h
theorem DtAll.two {x y : V} {d e : PyData} (a : Dt K H x d) (b : Dt K H y e) : DtAll K H [x, y] [d, e] := .cons a (.cons b .nil)
end

/-! ### rows -/
def dwD (r : Str × Int) : PyData := .tuple [.str r.1, .int r.2]
def rowD (r : List (Str × Int)) : PyData := .tuple (r.map dwD)
def Dirs (r : List (Str × Int)) : Prop := ∀ x ∈ r, x.2 = 1 ∨ x.2 = -1

end My
set_option Elab.async false
set_option linter.all false
set_option maxRecDepth 100000
set_option maxHeartbeats 4000000
/-! Values of any kind: None, bools, ints, texts, tuples, lists, dicts (keys ints and texts), nested; none of them is the pen at p. -/
namespace My
open PySem PySem.Spec PyProof.Rows L2

def keyD : Key → PyData
  | .inl i => .int i
  | .inr x => .str x
mutual
inductive Da (K : PySem.W.Frag) (p : Addr) (H : Hp) : V → PyData → Prop
  | non : Da K p H .non .none
  | bl (b : Bool) : Da K p H (.bl b) (.bool b)
  | int (i : Int) : Da K p H (.int i) (.int i)
  | str (x : Str) : Da K p H (.str x) (.str x)
  | lst {a : Addr} {xs : List V} {ds : List PyData} : a ≠ sysModules → SqL K H a xs → DaAll K p H xs ds → Da K p H (.ref a) (.list ds)
  | tup {a : Addr} {xs : List V} {ds : List PyData} : SqT K H a xs → DaAll K p H xs ds → Da K p H (.ref a) (.tuple ds)
  | dct {a : Addr} {kvs : List (Key × V)} {es : List (PyData × PyData)} : a ≠ p → H a = some (.dK kvs) → DaKv K p H kvs es → Da K p H (.ref a) (.dict es)
inductive DaAll (K : PySem.W.Frag) (p : Addr) (H : Hp) : List V → List PyData → Prop
  | nil : DaAll K p H [] []
  | cons {v : V} {vs : List V} {d : PyData} {ds : List PyData} : Da K p H v d → DaAll K p H vs ds → DaAll K p H (v :: vs) (d :: ds)
inductive DaKv (K : PySem.W.Frag) (p : Addr) (H : Hp) : List (Key × V) → List (PyData × PyData) → Prop
  | nil : DaKv K p H [] []
  | cons {k : Key} {v : V} {r : List (Key × V)} {d : PyData} {es : List (PyData × PyData)} : Da K p H v d → DaKv K p H r es → DaKv K p H ((k, v) :: r) ((keyD k, d) :: es)
end
section
variable {K : PySem.W.Frag} {p c : Addr} {n : Nat} {H H' H2 : Hp}
/-- what is read of lists, tuples, dicts (but p) stays -/
structure KeepA (K : PySem.W.Frag) (p : Addr) (H H' : Hp) : Prop where
  l : ∀ a xs, SqL K H a xs → SqL K H' a xs
  t : ∀ a xs, SqT K H a xs → SqT K H' a xs
  d : ∀ a kvs, a ≠ p → H a = some (.dK kvs) → H' a = some (.dK kvs)
theorem KeepA.refl : KeepA K p H H := ⟨fun _ _ h => h, fun _ _ h => h, fun _ _ _ h => h⟩
theorem KeepA.trans (a : KeepA K p H H') (b : KeepA K p H' H2) : KeepA K p H H2 := ⟨fun _ _ h => b.l _ _ (a.l _ _ h), fun _ _ h => b.t _ _ (a.t _ _ h), fun _ _ n h => b.d _ _ n (a.d _ _ n h)⟩
theorem _root_.L2.Same.keepA (s : Same H H') : KeepA K p H H' := ⟨s.keeps.l, s.keeps.t, fun _ _ _ e => s _ _ e⟩
theorem SameP.keepA (s : SameP p H H') (G : PenAt H p c n) : KeepA K p H H' := ⟨(s.keeps G).l, (s.keeps G).t, fun _ _ ne e => s _ _ ne e⟩
mutual
theorem da_keep (s : KeepA K p H H') : ∀ {d : PyData} {v : V}, Da K p H v d → Da K p H' v d
  | .none, _, h => by cases h; exact .non
  | .bool _, _, h => by cases h; exact .bl _
  | .int _, _, h => by cases h; exact .int _
  | .str _, _, h => by cases h; exact .str _
  | .tuple ds, _, h => by
    cases h with
    | tup a b => exact .tup (s.t _ _ a) (da_keepAll s b)
  | .list _, _, h => by
    cases h with
    | lst a b c => exact .lst a (s.l _ _ b) (da_keepAll s c)
  | .dict es, _, h => by
    cases h with
    | dct a b c => exact .dct a (s.d _ _ a b) (da_keepKv s c)
theorem da_keepAll (s : KeepA K p H H') : ∀ {ds : List PyData} {vs : List V}, DaAll K p H vs ds → DaAll K p H' vs ds
  | [], _, h => by cases h; exact .nil
  | d :: ds, _, h => by
    cases h with
    | cons a b => exact .cons (da_keep s a) (da_keepAll s b)
theorem da_keepKv (s : KeepA K p H H') : ∀ {es : List (PyData × PyData)} {kvs : List (Key × V)}, DaKv K p H kvs es → DaKv K p H' kvs es
  | [], _, h => by cases h; exact .nil
  | (k, d) :: es, _, h => by
    cases h with
    | cons a b => exact .cons (da_keep s a) (da_keepKv s b)
end
mutual
theorem dt_da : ∀ {d : PyData} {v : V}, Dt K H v d → Da K p H v d
  | .none, _, h => by cases h; exact .non
  | .bool _, _, h => by cases h; exact .bl _
  | .int _, _, h => by cases h; exact .int _
  | .str _, _, h => by cases h; exact .str _
  | .tuple ds, _, h => by
    cases h with
    | tup a b => exact .tup a (dt_daAll b)
  | .list _, _, h => by cases h
  | .dict _, _, h => by cases h
theorem dt_daAll : ∀ {ds : List PyData} {vs : List V}, DtAll K H vs ds → DaAll K p H vs ds
  | [], _, h => by cases h; exact .nil
  | d :: ds, _, h => by
    cases h with
    | cons a b => exact .cons (dt_da a) (dt_daAll b)
end
theorem DaAll.append : ∀ {xs ys : List V} {ds es : List PyData}, DaAll K p H xs ds → DaAll K p H ys es → DaAll K p H (xs ++ ys) (ds ++ es)
  | _, _, _, _, .nil, h => h
  | _, _, _, _, .cons a b, h => .cons a (b.append h)
theorem DaAll.length : ∀ {xs : List V} {ds : List PyData}, DaAll K p H xs ds → xs.length = ds.length
  | _, _, .nil => rfl
  | _, _, .cons _ b => congrArg (· + 1) b.length
theorem DaAll.at : ∀ {xs : List V} {ds : List PyData} {i : Nat} {v : V}, DaAll K p H xs ds → xs[i]? = some v → ∃ d, ds[i]? = some d ∧ Da K p H v d
  | _, _, 0, _, .cons a _, h => by
    cases h
    exact ⟨_, rfl, a⟩
  | _, _, i + 1, _, .cons _ b, h => b.at (i := i) h
theorem DaAll.take : ∀ {xs : List V} {ds : List PyData} (i : Nat), DaAll K p H xs ds → DaAll K p H (xs.take i) (ds.take i)
  | _, _, 0, _ => .nil
  | _, _, _ + 1, .nil => .nil
  | _, _, i + 1, .cons a b => .cons a (b.take i)
theorem DaAll.drop : ∀ {xs : List V} {ds : List PyData} (i : Nat), DaAll K p H xs ds → DaAll K p H (xs.drop i) (ds.drop i)
  | _, _, 0, h => h
  | _, _, _ + 1, .nil => .nil
  | _, _, i + 1, .cons _ b => b.drop i
theorem DaAll.reverse : ∀ {xs : List V} {ds : List PyData}, DaAll K p H xs ds → DaAll K p H xs.reverse ds.reverse
  | _, _, .nil => .nil
  | _, _, .cons a b => by
    rw [List.reverse_cons, List.reverse_cons]
    exact b.reverse.append (.cons a .nil)
end

/-! ### its repr -/
section
variable {X : Cx} {pins : List (Addr × Obj)} {σ : L2.St} {H : Hp} {s : Shared} {p : Addr}
theorem keys_read {P : Program} {w : World} {h : Heap} : ∀ {vs : List (Key × Value)} {es : List DictEntry}, Pairs (mixKind P w) es vs → ReadsAll h (es.map (·.key)) (vs.map fun kv => keyD kv.1) []
  | _, _, .nil => .nil
  | _, _, .cons (e := e) (kv := kv) h1 h2 r => by
    have ih := keys_read (h := h) r
    rcases keyIs_shape (k := kv.1) (v := e.key) h1 with ⟨i, t, e1, e2⟩ | ⟨x, t, e1, e2⟩
    · rw [List.map_cons, List.map_cons, e1, e2]
      exact ReadsAll.cons (.int i t) ih
    · rw [List.map_cons, List.map_cons, e1, e2]
      exact ReadsAll.cons (.str x t) ih
theorem vals_read {P : Program} {w : World} : ∀ {vs : List (Key × Value)} {es : List DictEntry}, Pairs (mixKind P w) es vs → es.map (·.val) = vs.map (·.2)
  | _, _, .nil => rfl
  | _, _, .cons h1 h2 r => by rw [List.map_cons, List.map_cons, h2, vals_read r]
mutual
theorem da_reads (I : Inv X pins σ H s) : ∀ (d : PyData) (v : V) (u : Value), Da X.K p H v d → RelV v u → ∃ as, Reads s.heap u d as ∧ sysModules ∉ as
  | .none, _, _, h, r => by
    cases h
    cases r
    exact ⟨_, .none, List.not_mem_nil⟩
  | .bool b, _, _, h, r => by
    cases h
    cases r
    exact ⟨_, .bool b, List.not_mem_nil⟩
  | .int i, _, _, h, r => by
    cases h
    obtain ⟨t, rfl⟩ := r
    exact ⟨_, .int i t, List.not_mem_nil⟩
  | .str x, _, _, h, r => by
    cases h
    obtain ⟨t, rfl⟩ := r
    exact ⟨_, .str x t, List.not_mem_nil⟩
  | .list ds, _, _, h, r => by
    cases h with
    | lst hne hs ha =>
      cases r
      obtain ⟨its, rv, ⟨o, n, ho, hc, _, hd⟩, _⟩ := I.list hs
      obtain ⟨as, hr, ns⟩ := da_readsAll I ds _ its ha rv
      exact ⟨_, .list ho hc hd hr, fun z => (List.mem_cons.mp z).elim (fun e => hne e.symm) ns⟩
  | .tuple ds, _, _, h, r => by
    cases h with
    | tup hs ha =>
      cases r
      obtain ⟨its, rv, ⟨o, ho, hc, n, hd⟩, _⟩ := I.tuple hs
      obtain ⟨as, hr, ns⟩ := da_readsAll I ds _ its ha rv
      exact ⟨_, .tuple ho hc hd hr, ns⟩
  | .dict es, _, _, h, r => by
    cases h with
    | @dct a kvs _ hn ho hv =>
      cases r
      obtain ⟨_, ns, vs, kv, o, ents, ep, h1, h2, h3, _, h5, _⟩ := dk_of I.hok ho
      obtain ⟨as, hr, nsr, ek⟩ := da_readsKv I es _ vs hv kv
      have r1 := keys_read (h := s.heap) h5
      rw [ek] at r1
      refine ⟨_, .dict h1 h2.1 h3 r1 (by rw [vals_read h5]; exact hr), fun z => ?_⟩
      rcases List.mem_cons.mp (by simpa using z) with e | e
      · rw [← e] at ns
        simp at ns
      · exact nsr e
theorem da_readsAll (I : Inv X pins σ H s) : ∀ (ds : List PyData) (vs : List V) (us : List Value), DaAll X.K p H vs ds → Vals vs us → ∃ as, ReadsAll s.heap us ds as ∧ sysModules ∉ as
  | [], _, _, h, r => by
    cases h
    cases r
    exact ⟨_, .nil, List.not_mem_nil⟩
  | d :: ds, _, _, h, r => by
    cases h with
    | cons h1 h2 =>
      cases r with
      | cons r1 r2 =>
        obtain ⟨as, q1, n1⟩ := da_reads I d _ _ h1 r1
        obtain ⟨bs, q2, n2⟩ := da_readsAll I ds _ _ h2 r2
        exact ⟨_, .cons q1 q2, fun z => (List.mem_append.mp z).elim n1 n2⟩
theorem da_readsKv (I : Inv X pins σ H s) : ∀ (es : List (PyData × PyData)) (kvs : List (Key × V)) (vs : List (Key × Value)), DaKv X.K p H kvs es → KV kvs vs →
    ∃ as, ReadsAll s.heap (vs.map (·.2)) (es.map (·.2)) as ∧ sysModules ∉ as ∧ (vs.map fun kv => keyD kv.1) = es.map (·.1)
  | [], _, _, h, r => by
    cases h
    cases r
    exact ⟨_, .nil, List.not_mem_nil, rfl⟩
  | (k, d) :: es, _, _, h, r => by
    cases h with
    | cons h1 h2 =>
      cases r with
      | cons r1 r2 =>
        obtain ⟨as, q1, n1⟩ := da_reads I d _ _ h1 r1.2
        obtain ⟨bs, q2, n2, e⟩ := da_readsKv I es _ _ h2 r2
        refine ⟨_, .cons q1 q2, fun z => (List.mem_append.mp z).elim n1 n2, ?_⟩
        rw [List.map_cons, List.map_cons, e, ← r1.1]
end
end
section
variable {X : Cx}
def rReprA (K : PySem.W.Frag) : List V → Hp → VK → Prop := fun xs H Q => ∃ p v d, xs = [v] ∧ Da K p H v d ∧ d.showable = true ∧ d.depth ≤ 60 ∧ d.shown.length ≤ sizeLine ∧ Q (.str d.shown) H
theorem call_reprA (hg : Still X.A) (hu : X.A.units + 64 < cLine) : CallR X (.builtin "repr") (rReprA X.K) := by
  intro pins s σ H xs us Q I r h
  obtain ⟨p, v, d, rfl, hd, hs, hdp, hz, q⟩ := h
  obtain ⟨u, rfl, rv⟩ := vals1 r
  obtain ⟨as, rd, nsys⟩ := da_reads I d v u hd rv
  have fin : ∀ (h' : Heap) (t tk : Tok), (∀ b o, s.heap.get? b = some o → h'.get? b = some o) → EP X pins σ Q (.str d.shown t) { s with heap := h', toks := tk } :=
    fun h' t tk k => ⟨.str d.shown, H, inv_more I k, ⟨t, rfl⟩, q⟩
  cases hd with
  | non =>
    cases rv
    exact PySem.P.repr_of_none (by simpa only [PyData.shown] using fin s.heap _ _ fun _ _ e => e)
  | bl b =>
    cases rv
    exact PySem.P.repr_of_bool (by simpa only [PyData.shown] using fin s.heap _ _ fun _ _ e => e)
  | int i =>
    obtain ⟨t, rfl⟩ := rv
    exact PySem.P.repr_of_int (by simpa [PyData.showable] using hs) (by simpa only [PyData.shown] using fin s.heap _ _ fun _ _ e => e)
  | str x =>
    obtain ⟨t, rfl⟩ := rv
    exact PySem.P.repr_of_str (by simpa only [PyData.shown] using fin s.heap _ _ fun _ _ e => e) (by simpa only [PyData.shown] using hz)
  | lst _ _ _ =>
    cases rv
    exact PySem.repr_of_reads' rd hs (fun _ => nsys) hg (by omega) (fun _ _ e => e) (fun h' u tk k => fin h' u tk k) hz
  | tup _ _ =>
    cases rv
    exact PySem.repr_of_reads' rd hs (fun _ => nsys) hg (by omega) (fun _ _ e => e) (fun h' u tk k => fin h' u tk k) hz
  | dct _ _ _ =>
    cases rv
    exact PySem.repr_of_reads' rd hs (fun _ => nsys) hg (by omega) (fun _ _ e => e) (fun h' u tk k => fin h' u tk k) hz
end
/-! ### new lists: not at sys.modules -/
section
variable {X : Cx}
def tLstN (t : TA) : TE := fun σ H Q => t σ H fun xs H1 => xs.length ≤ sizeLine ∧ ∀ p, H1 p = none → p ≠ sysModules → Q (.ref p) (upd H1 p (.lst xs))
theorem pe_lstN {es : List Expr} {pos : Pos} {t : TA} (ha : PA X es t) : PE X (.List es pos) (tLstN t) := by
  constructor
  intro pins s0 σ H Q I q0
  refine wpAny_List_spliced (thn (ha.run pos pins s0 σ H _ I q0) fun us s1 ⟨ys, H2, I2, rv, zz, q1⟩ => ⟨by have := rv.length; omega, ?_⟩)
  have fresh := I2.hok.fresh (Nat.le_refl s1.heap.objs.size)
  have nsys : s1.heap.objs.size ≠ sysModules := Nat.ne_of_gt I2.big
  exact ⟨.ref s1.heap.objs.size, upd H2 s1.heap.objs.size (.lst ys), I2.laid (t' := s1.toks) (fun _ _ e => Heap.get?_push_of_some _ e) (Nat.le_refl _) ⟨zz, us, 0, rv, Heap.get?_push_size _ rfl⟩, rfl, q1 _ fresh nsys⟩
/-- list(t) of a tuple -/
theorem call_listN : CallR X (.type "list") (fun xs H Q => ∃ p ys, xs = [.ref p] ∧ SqT X.K H p ys ∧ ∀ l, H l = none → l ≠ sysModules → Q (.ref l) (upd H l (.lst ys))) := by
  intro pins s σ H xs us Q I rv ⟨p, ys, ex, ht, q⟩
  subst ex
  obtain ⟨u, rfl, r1⟩ := vals1 rv
  cases r1
  obtain ⟨its, rr, ⟨o, ho, hc, n, hd⟩, hz⟩ := I.tuple ht
  have ll := rr.length
  refine call_list_seq p (.inr rfl) ho hc hd (fun h' c' kp e => ?_) (by simp only [List.size_toArray]; omega)
  exact ⟨.ref s.heap.objs.size, _, I.laid (t' := s.toks) kp (Nat.le_refl _) (show ObjOk X.prog X.w _ h' _ (.lst ys) from ⟨hz, its, c', rr, e⟩), rfl, q _ (I.hok.fresh (Nat.le_refl _)) (Nat.ne_of_gt I.big)⟩
end
end My
set_option Elab.async false
set_option linter.all false
set_option maxRecDepth 100000
set_option maxHeartbeats 4000000
/-! {e for target in it}, e an int or a text; len of such a set. -/
namespace My
open PySem PySem.Spec PyProof.Rows L2
section
variable {X : Cx} {pins : List (Addr × Obj)} {σ : L2.St} {H : Hp} {s : Shared}
def noKeys : Key → Bool := fun _ => false
def withKey (S : Key → Bool) (k : Key) : Key → Bool := fun j => S j || decide (j = k)
def more (S : Key → Bool) (k : Key) (n : Nat) : Nat := if S k = true then n else n + 1
theorem keys_fresh {P : Program} {w : World} {h : Heap} : (h.push { cls := .type "set", dict := none, data := .set #[] 0 (.fresh 0 0 (!w.params.followText "set-order")) }).SetOf (mixKind P w) h.objs.size noKeys 0 := by
  refine ⟨_, #[], 0, _, Heap.get?_push_size _ rfl, ⟨rfl, rfl, rfl⟩, rfl, fun e z => ?_, fun k => ?_, by decide, by rfl, rfl⟩
  · exact absurd z (by simp)
  · unfold noKeys
    simp
/-- a key is added -/
theorem key_added {E : Value → Shared → Prop} {D : Addr} {S : Key → Bool} {n : Nat} {k : Key} {u : Value} {Q : Value → Shared → Prop} (I : Inv X pins σ H s) (e : H D = some (SetK X.prog X.w D S n)) (r : RelV (kV k) u) (room : n + 1 < scanBound)
    (q : ∀ s', Inv X pins σ (upd H D (SetK X.prog X.w D (withKey S k) (more S k n))) s' → Q .none s') : wpAny (model X.prog X.w) X.A (call (.builtin "set.add") [.ref D, u]) Q E s := by
  refine call_set_add (kV_is r) (key_scan r) (setK_get I e) room fun h' same now => ?_
  obtain ⟨ob, _, _, _, there, _⟩ := id now
  refine q _ (I.write (e := D) (t' := s.toks + 1) ?_ (.inl rfl) (fun b u ne hu => (same.2 b ne).trans hu) ⟨ob, there⟩ (setK_new now))
  rw [e]
  trivial
/-- what one turn wants of the element's key -/
def keyEnd (P : Program) (w : World) (D : Addr) (Nx : Hp → Prop) : VK := fun y H => ∃ (k : Key) (S : Key → Bool) (n : Nat), y = kV k ∧ H D = some (SetK P w D S n) ∧ n + 1 < scanBound ∧ Nx (upd H D (SetK P w D (withKey S k) (more S k n)))
/-- the comprehension's reading; D is the new set -/
def tSetC (P : Program) (w : World) (wi : TI) (g : TG) (te : TE) (vs : List Nat) : TE := fun σ H Q => wi σ H fun J H1 => ∀ D, H1 D = none →
  ∃ W : Nat → Nat → Hp → Prop, (∃ m, W 0 m (upd H1 D (SetK P w D noKeys 0))) ∧ ∀ i m H, W i m H → (J.stop i H ∧ Q (.ref D) H) ∨
    (J.go i H ∧ ∃ Nx : Hp → Prop, (∀ H', Nx H' → ∃ m', m' < m ∧ W (i + 1) m' H') ∧ ∀ x H', J.yld i H x H' → g x (wipe σ vs) H' fun σ2 H2 => wipe σ2 vs = wipe σ vs ∧ te σ2 H2 (keyEnd P w D Nx))
theorem pe_setc {elt tg iter : Expr} {scope : Scope} {own : List (PySem.Str × Nat)} {pos : Pos} {wi : TI} {g : TG} {te : TE} (calm : X.calm = true) (nd : X.N.Nodup) (hi : PI X tg iter wi) (ok : BlkOk X.N X.env.scope scope own)
    (hg : ∀ (s : Shared) (H : Hp) (C : Addr) (cl : List (PySem.Str × Addr)) (fp : List Addr), PG (X.blk s H scope (compEnvC scope cl C X.env) fp) tg g)
    (he : ∀ (s : Shared) (H : Hp) (C : Addr) (cl : List (PySem.Str × Addr)) (fp : List Addr), PE (X.blk s H scope (compEnvC scope cl C X.env) fp) elt te)
    (plain : ∀ x, foldedSetIterable iter X.env x = pure x := by intro _; rfl) : PE X (.SetComp elt [⟨tg, iter, [], 0⟩] scope pos) (tSetC X.prog X.w wi g te (own.map (·.2))) := by
  refine ⟨fun pins s σ H Q I h => ?_⟩
  rw [PpSet.eval_SetComp]
  have cells : ∀ y ∈ scope.names, y.2 = .free → ∃ c, X.env.cells.lookup y.1 = some c := fun y hy e =>
    (ok.free y hy e).elim (fun k => I.ok.has _ (.inl k)) fun k => I.ok.has _ (.inr k)
  refine wpAny_comprehension_free (use := none) rfl plain (closure_ok cells) ok.kind (fun y hy e => (ok.uniq y hy).trans (congrArg some e)) ?_
  refine thn (hi.run pins s σ H _ I h) fun xv sa walks => thn walks fun itv sb z => ?_
  obtain ⟨it, fp, tn, J, Hb, rfl, Ib, T, st, foot, q⟩ := z
  refine PpSet.newSet_ok (newEnv_comp ?_)
  generalize hD : sb.heap.objs.size = D
  have freeD : Hb D = none := Ib.hok.fresh (Nat.le_of_eq hD)
  obtain ⟨W, ⟨m0, w0⟩, turn⟩ := q D freeD
  generalize hc : ({ sb with heap := sb.heap.push { cls := .type "set", dict := none, data := .set #[] 0 (.fresh 0 0 (!X.w.params.followText "set-order")) } } : Shared) = sc
  have heapC : sc.heap = sb.heap.push { cls := .type "set", dict := none, data := .set #[] 0 (.fresh 0 0 (!X.w.params.followText "set-order")) } := by rw [← hc]
  have Ic : Inv X pins σ (upd Hb D (SetK X.prog X.w D noKeys 0)) sc := by
    rw [← hc]
    refine Ib.laid (t' := sb.toks) (fun b o e => Heap.get?_push_of_some _ e) (Nat.le_of_eq hD) ?_
    rw [← hD]
    exact setK_new keys_fresh
  have small : ∀ b ∈ fp, b < sb.heap.objs.size := fun b hb => let ⟨_, e, _⟩ := T.obj _ _ st b hb; Heap.lt_size e
  have footC : ∀ b ∈ fp, FpOk X pins (upd Hb D (SetK X.prog X.w D noKeys 0)) b ∧ b < sc.heap.objs.size := fun b hb => by
    have lt := small b hb
    refine ⟨⟨(upd_ne (hD ▸ Nat.ne_of_lt lt)).trans (foot b hb).1, (foot b hb).2⟩, ?_⟩
    rw [heapC, Heap.size_push]
    exact Nat.lt_succ_of_lt lt
  have stc : tn 0 sc.heap := T.keep _ _ _ st fun b _ o e => heapC ▸ Heap.get?_push_of_some _ e
  have In := block_start Ic ok nd footC
  let ce := compEnvC scope (cellsFrom (sc.heap.objs.size + 1) scope.names (cloFrom X.env.cells scope.names [])) sc.heap.objs.size X.env
  let Hc := upd Hb D (SetK X.prog X.w D noKeys 0)
  have pg : PG (X.blk sc Hc scope ce fp) tg g := hg _ _ _ _ _
  have pe : PE (X.blk sc Hc scope ce fp) elt te := he _ _ _ _ _
  let B := X.blk sc Hc scope ce fp
  have nfp : ∀ b ∈ fp, Hc b = none := fun b hb => (footC b hb).1.1
  generalize hd : ({ sc with heap := pushCells (sc.heap.push { cls := .type "dict", data := .dict #[] }) scope.names } : Shared) = sd at In
  have Id : Inv B [] (wipe σ (own.map (·.2))) Hc sd := In
  have std : tn 0 sd.heap := T.keep _ _ _ stc fun b _ o e => by rw [← hd]; exact pushCells_keeps _ _ _ _ (Heap.get?_push_of_some _ e)
  have stay : ∀ {σ' : L2.St} {H' : Hp} {s' : Shared}, Inv B [] σ' H' s' → (∀ b ∈ fp, H' b = none) → ∀ b ∈ fp, FpOk B [] H' b := fun {_ _ _} J no b hb =>
    ⟨no b hb, (J.ok.exf b hb).1, J.ok.exfs b hb, .inl hb, fun x c e => (J.ok.exf b hb).2 x c e, fun p hp => (List.not_mem_nil (List.append_nil ([] : List (Addr × Obj)) ▸ hp)).elim⟩
  have loop : codeAny (model X.prog X.w) X.A (.compLoop (.SetComp elt [⟨tg, iter, [], 0⟩] scope pos) 0 (.ref it) (.ref D) ce) (compPost (model X.prog X.w) X.A X.xe none (EP X pins σ Q) (.ref D) sc.heap.objs.size) sd := by
    refine PpSet.compLoopS_any (fun n s' => ∃ i H', Inv B [] (wipe σ (own.map (·.2))) H' s' ∧ tn i s'.heap ∧ (∀ b ∈ fp, H' b = none) ∧ W i n H') ?_ m0 ⟨0, Hc, Id, std, nfp, w0⟩
    rintro n se ⟨i, He, Ie, ste, ne, we⟩
    rcases turn i n He we with ⟨stop, fin⟩ | ⟨go, Nx, fall, step⟩
    · refine thnF (T.done B rfl rfl rfl calm i [] se _ He (fun _ _ => False) Ie (stay Ie ne) ste stop) fun r sf ⟨er, If⟩ => ?_
      subst er
      have Ig : Inv X pins σ He sf := Ic.call' (ch := fp) If.os If.base If.hok If.bare fun b hb => let f := (footC b hb).1; ⟨f.2.2.2.1, f.2.1, f.2.2.2.2.1, f.2.2.2.2.2⟩
      have noC : He sc.heap.objs.size = none := If.free
      obtain ⟨m, hn, _⟩ := If.loc
      obtain ⟨f0, f1, f2, f3, f4, f5⟩ := Ic.fpOk (Nat.le_refl _) noC
      exact ⟨m, hn, fun h'' sm => ⟨.ref D, He, Ig.turned (t' := sf.toks) (fun b o hb e => (sm.2 b hb).trans e) f0 f1 f3 f4 f5, rfl, fin⟩⟩
    · refine thnF (T.item B rfl rfl rfl calm i [] se _ He (fun _ _ => False) Ie (stay Ie ne) ste go) fun r sf ⟨u, er, hf⟩ => ?_
      subst er
      refine thnF hf fun _ sg ⟨x, Hg, Ig, rg, yg, stg, ng⟩ => ?_
      have Ip := Ig.pinned (stay Ig ng) (T.obj _ _ stg)
      refine thnF (pg.run _ sg _ Hg x u _ Ip rg (step x Hg yg)) fun _ sh ⟨σh, Hh, Ih, same, qh⟩ => ?_
      refine wpAny_tests_nil ?_
      rw [if_pos rfl]
      refine thnF (pe.run _ sh σh Hh _ Ih qh) fun v si ⟨yv, Hi, Ii, rv, k, S, c, ey, hDi, room, nx⟩ => ?_
      subst ey
      refine key_added (X := B) Ii hDi rv room fun sj Ij => ?_
      obtain ⟨m', lt, w'⟩ := fall _ nx
      have held : ∀ b ∈ fp, ∀ o, sg.heap.get? b = some o → sj.heap.get? b = some o ∧ (upd Hi D (SetK X.prog X.w D (withKey S k) (more S k c))) b = none := fun b hb o e =>
        let z := Ij.pin (b, o) (List.mem_append_right _ (List.mem_append_right _ (mem_pinsAt hb e)))
        ⟨z.1, z.2.1⟩
      have len : (wipe σ (own.map (·.2))).length = σh.length := by rw [← same, wipe_length]
      refine ⟨m', lt, i + 1, _, (Ij.unpinned (pins := [])).weak len (fun j v e => ?_), T.keep _ _ _ stg fun b hb o e => (held b hb o e).1, fun b hb => ?_, w'⟩
      · rw [← same] at e
        exact (wipe_some e).1
      · obtain ⟨o, e, _⟩ := T.obj _ _ stg b hb
        exact (held b hb o e).2
  exact PpSet.codeAny_compStart_set loop (T.self X.A 0 _ _ _ std loop)
end
end My
set_option Elab.async false
set_option linter.all false
set_option maxRecDepth 100000
set_option maxHeartbeats 8000000
/-! set(xs), xs a list (or a tuple) of ints and texts, any number of them; len of a set of such. -/
namespace My
open PySem PySem.Spec PyProof.Rows L2

theorem one_nodup {α : Type} (x : α) : [x].Nodup := List.nodup_cons.mpr ⟨List.not_mem_nil, List.nodup_nil⟩
open Classical in
/-- the keys met so far, each once -/
noncomputable def metK : List Key → List Key → List Key
  | seen, [] => seen
  | seen, k :: r => metK (if k ∈ seen then seen else seen ++ [k]) r
open Classical in
theorem metK_snoc : ∀ (xs seen : List Key) (k : Key), metK seen (xs ++ [k]) = if k ∈ metK seen xs then metK seen xs else metK seen xs ++ [k]
  | [], seen, k => rfl
  | x :: r, seen, k => metK_snoc r _ k
open Classical in
theorem mem_metK : ∀ (xs seen : List Key) (k : Key), k ∈ metK seen xs ↔ k ∈ seen ∨ k ∈ xs
  | [], seen, k => by simp [metK]
  | x :: r, seen, k => by
    rw [metK, mem_metK r]
    split
    · rename_i h
      constructor
      · rintro (z | z)
        · exact .inl z
        · exact .inr (List.mem_cons_of_mem _ z)
      · rintro (z | z)
        · exact .inl z
        · rcases List.mem_cons.mp z with e | z
          · subst e
            exact .inl h
          · exact .inr z
    · rw [List.mem_append, List.mem_singleton, List.mem_cons, or_assoc]
open Classical in
theorem nodup_metK : ∀ (xs seen : List Key), seen.Nodup → (metK seen xs).Nodup
  | [], _, h => h
  | x :: r, seen, h => by
    rw [metK]
    refine nodup_metK r _ ?_
    split
    · exact h
    · rename_i z
      exact List.nodup_append.mpr ⟨h, one_nodup x, fun a ha b hb e => z (by rw [List.mem_singleton.mp hb] at e; exact e ▸ ha)⟩
open Classical in
theorem len_metK_le : ∀ (xs seen : List Key), (metK seen xs).length ≤ seen.length + xs.length
  | [], _ => Nat.le_refl _
  | x :: r, seen => by
    rw [metK]
    have h := len_metK_le r (if x ∈ seen then seen else seen ++ [x])
    have : (if x ∈ seen then seen else seen ++ [x]).length ≤ seen.length + 1 := by
      split
      · omega
      · rw [List.length_append]; exact Nat.le_refl _
    rw [List.length_cons]
    omega
open Classical in
/-- as many as items just where all differ -/
theorem len_metK_eq : ∀ (xs seen : List Key), seen.Nodup → ((metK seen xs).length = seen.length + xs.length ↔ (seen ++ xs).Nodup)
  | [], seen, h => by simp [metK, h]
  | x :: r, seen, h => by
    rw [metK]
    by_cases z : x ∈ seen
    · rw [if_pos z]
      constructor
      · intro e
        have := len_metK_le r seen
        rw [List.length_cons] at e
        omega
      · intro nd
        have := (List.nodup_append.mp nd).2.2 x z x List.mem_cons_self
        exact absurd rfl this
    · rw [if_neg z]
      have nd : (seen ++ [x]).Nodup := List.nodup_append.mpr ⟨h, one_nodup x, fun a ha b hb e => z (by rw [List.mem_singleton.mp hb] at e; exact e ▸ ha)⟩
      have ih := len_metK_eq r (seen ++ [x]) nd
      rw [List.length_append, List.length_singleton, List.append_assoc] at ih
      rw [List.length_cons, show seen.length + (r.length + 1) = seen.length + 1 + r.length by omega]
      exact ih
open Classical in
noncomputable def inK (xs : List Key) : Key → Bool := fun k => decide (k ∈ xs)

section
variable {prog : Program} {w : World}
theorem setOf_eq {h : Heap} {a : Addr} {S T : Key → Bool} {n m : Nat} (R : h.SetOf (mixKind prog w) a S n) (e : ∀ k, S k = T k) (en : n = m) : h.SetOf (mixKind prog w) a T m := by
  cases (funext e : S = T)
  cases en
  exact R
open Classical in
theorem met_add {h : Heap} {a : Addr} {xs : List Key} {k : Key} (R : h.SetOf (mixKind prog w) a (fun j => inK (metK [] xs) j || decide (j = k)) (if inK (metK [] xs) k = true then (metK [] xs).length else (metK [] xs).length + 1)) :
    h.SetOf (mixKind prog w) a (inK (metK [] (xs ++ [k]))) (metK [] (xs ++ [k])).length := by
  refine setOf_eq R (fun j => ?_) ?_
  · unfold inK
    rw [metK_snoc]
    by_cases z : k ∈ metK [] xs
    · rw [if_pos z]
      by_cases e : j = k
      · subst e
        simp [z]
      · simp [e]
    · rw [if_neg z]
      by_cases e : j = k
      · simp [e]
      · simp [e]
  · unfold inK
    rw [metK_snoc]
    by_cases z : k ∈ metK [] xs
    · rw [if_pos z, if_pos (decide_eq_true z)]
    · rw [if_neg z, if_neg (by simpa using z), List.length_append]
      rfl
variable {A : Around} {R : Result → Shared → Prop} {it : Addr} {fp wr : List Addr} {G : Array GenState → Array GenState → Prop} {n : Nat} {Y : Nat → Value → Prop} {St : Nat → Shared → Prop}
/-- the filling loop -/
theorem fill_loop (W : WalksS prog w A.in1 it fp wr G n Y St) {D : Addr} (apart : D ∉ fp) {ks : List Key} (len : ks.length = n) (keys : ∀ i v, Y i v → ∃ k, ks[i]? = some k ∧ keyIs k v = true) (room : n + 1 < scanBound) :
    ∀ (left i : Nat) (s : Shared), i + left = n → St i s → s.heap.SetOf (mixKind prog w) D (inK (metK [] (ks.take i))) (metK [] (ks.take i)).length →
      (∀ s', Moved (D :: wr) G s s' → s'.heap.SetOf (mixKind prog w) D (inK (metK [] ks)) (metK [] ks).length → R (.ok (.ret .none)) s') → codeAny (model prog w) A (.builtin "set.update.loop" ⟨[.ref D, .ref it], []⟩) R s := by
  have notW : D ∉ wr := fun h => apart (W.sub _ h)
  have wide : ∀ b ∈ wr, b ∈ D :: wr := fun _ h => List.mem_cons_of_mem _ h
  have kept : ∀ {s s' : Shared} {S : Key → Bool} {m : Nat}, Moved wr G s s' → s.heap.SetOf (mixKind prog w) D S m → s'.heap.SetOf (mixKind prog w) D S m := fun mv q => setOf_at q fun o e => mv.heap D o notW e
  intro left
  induction left with
  | zero =>
    intro i s e st have_ go
    have all : i = n := e
    subst all
    refine codeAny_builtin PyProof.Rows.F.entry_set_update_loop ?_
    rw [Around.under_plainId PyProof.Rows.F.plain_set_update_loop _]
    refine (show wpAny _ A.in1 (pyNext (.ref it) >>= _) _ _ s from wpAny_bind (W.done s _ _ st fun s' mv => ?_))
    refine (show wpAny _ A.in1 (ret Value.none) _ _ s' from wpAny_pure (go s' (mv.mono wide) ?_))
    have q := kept mv have_
    rwa [List.take_of_length_le (Nat.le_of_eq len)] at q
  | succ left ih =>
    intro i s e st have_ go
    refine codeAny_builtin PyProof.Rows.F.entry_set_update_loop ?_
    rw [Around.under_plainId PyProof.Rows.F.plain_set_update_loop _]
    refine (show wpAny _ A.in1 (pyNext (.ref it) >>= _) _ _ s from wpAny_bind (W.item i s _ _ (by omega) st fun v s' yv st' mv => ?_))
    obtain ⟨k, hk, isk⟩ := keys i v yv
    have q := kept mv have_
    have few : (metK [] (ks.take i)).length ≤ i := by
      have h := len_metK_le (ks.take i) []
      rw [List.length_take, List.length_nil] at h
      omega
    have scan : v.scannable = true := by
      rcases keyIs_shape isk with ⟨_, _, _, rfl⟩ | ⟨_, _, _, rfl⟩ <;> rfl
    refine (show wpAny _ A.in1 (holding [v] (setAdd D v) >>= _) _ _ s' from wpAny_bind (wpAny_holding ?_))
    unfold setAdd
    refine wpAny_holding (wpAny_bind ((mixKind prog w).pyHash (k := k) isk ?_))
    refine wpAny_setAddHashed_of (knd := mixKind prog w) (s := { s' with toks := s'.toks + 1 }) isk scan q (by omega) fun h' same now => ?_
    have nowK := met_add now
    rw [show ks.take i ++ [k] = ks.take (i + 1) by rw [List.take_add_one, hk]; rfl] at nowK
    refine wpAny_pure ⟨plainId_quiet PyProof.Rows.F.plain_set_update_loop _, ih (i + 1) _ (by omega) (W.frame _ s' _ _ st' (Nat.le_succ _) fun b hb o e => ?_) nowK fun s'' mv' end_ => ?_⟩
    · exact (same.2 b fun z => apart (z ▸ hb)).trans e
    · exact go s'' (Moved.trans W.gtrans ((mv.mono wide).then_heap (Nat.le_succ _) fun b o hb e => (same.2 b fun z => hb (z ▸ List.mem_cons_self)).trans e) mv') end_
end

section
variable {prog : Program} {w : World} {A : Around} {E : Value → Shared → Prop} {s : Shared}
abbrev setOb (led : Bool) : Obj := { cls := .type "set", dict := none, data := .set #[] 0 (.fresh 0 0 led) }
theorem setFrom_list {l : Addr} {items : Array Value} {ks : List Key} {Q : Value → Shared → Prop} (calm : A.handled = none) (src : s.heap.IsList l items) (len : ks.length = items.size) (keys : ∀ (i : Nat) (v : Value), items[i]? = some v → ∃ k, ks[i]? = some k ∧ keyIs k v = true)
    (room : items.size + 1 < scanBound) (q : ∀ (h' : Heap) (tk : Nat), h'.SetOf (mixKind prog w) s.heap.objs.size (inK (metK [] ks)) (metK [] ks).length → (∀ b o, b < s.heap.objs.size → s.heap.get? b = some o → h'.get? b = some o) →
      Q (.ref s.heap.objs.size) { s with heap := h', toks := tk }) : wpAny (model prog w) A (call (.type "set") [.ref l]) Q E s := by
  obtain ⟨c0, t0, mro0⟩ := PySem.F.called_set.mro
  have made0 := PySem.F.called_set.made
  have sub0 := PySem.F.called_set.sub
  refine wpAny_call (codeAny_of_tree (show wpAny _ _ (callAny (.type "set") _) _ _ _ from ?_))
  refine wpAny_pure ⟨Code.quiet_builtin _ (by decide +kernel), codeAny_builtin PySem.F.entry_type_call ?_⟩
  rw [Around.under_plain (weight_type_call_type "set" [.ref l] []) rfl]
  have nt0 := PySem.F.called_set.notType
  have cc0 := PySem.F.called_set.canCreate
  have tc0 := PySem.F.typeCall_set_1 (.ref l)
  repeat (any_goals (first | assumption | wp_step))
  refine codeAny_mono (code_set_new_1 (.ref l) (E := E) (Q₁ := fun ob s1 => ∃ led : Bool, ob = .ref s.heap.objs.size ∧ s1 = { s with heap := s.heap.push (setOb led) }) fun led => ⟨led, rfl, rfl⟩) fun res s1 z => ?_
  match res, z with
  | .error e, z => exact z
  | .ok .next, z => exact z.elim
  | .ok .brk, z => exact z.elim
  | .ok .cont, z => exact z.elim
  | .ok (.ret ob), ⟨led, e1, e2⟩ =>
    subst e1
    subst e2
    have at0 : (s.heap.push (setOb led)).get? s.heap.objs.size = some (setOb led) := Heap.get?_push_size _ rfl
    have ty0 : Shared.TypeIs { s with heap := s.heap.push (setOb led) } (.ref s.heap.objs.size) "set" := ⟨_, at0, rfl⟩
    have li0 := PySem.F.called_set.init.lookup
    have bi0 := PySem.F.called_set.init.bind (.ref s.heap.objs.size)
    repeat (any_goals (first | assumption | wp_step))
    refine codeAny_mono (codeAny_call_builtin (R := wants (fun r s2 => r = .none ∧ ∃ h' tk, s2 = { s with heap := h', toks := tk } ∧ h'.SetOf (mixKind prog w) s.heap.objs.size (inK (metK [] ks)) (metK [] ks).length ∧
        (∀ b o, b < s.heap.objs.size → s.heap.get? b = some o → h'.get? b = some o)) E) PySem.F.called_set.init.plain PySem.F.entry_set_init (check_set_init_1 ty0 ?_)) fun res2 s2 z2 => ?_
    · obtain ⟨⟨cl, dc, dt, sl⟩, hol, hcl, nl, hdl⟩ := src
      simp only at hcl hdl
      subst hcl
      subst hdl
      have here : (s.heap.push (setOb led)).get? l = some { cls := .type "list", dict := dc, data := .seq items nl, slots := sl } := Heap.get?_push_of_some _ hol
      have su1 := PySem.F.sub_list_set
      have su2 := PySem.F.sub_list_frozenset
      have nd0 : (Value.type "list" == Value.type "dict") = false := by decide
      have src' : (s.heap.push (setOb led)).IsList l items := ⟨_, here, rfl, nl, rfl⟩
      unfold Builtin.«set.__init__» noKeywords Builtin.Frozenset.updateFrom
      generalize pz : pyIter = pzI
      wp_walk
      subst pz
      refine wpAny_pyIter_list src' (wpAny_bind (wpAny_runValue ?_))
      have below : l < s.heap.objs.size := Heap.lt_size hol
      have calm3 : A.in1.in1.in1.handled = none := by simp [calm]
      have sz1 : (s.heap.push (setOb led)).objs.size = s.heap.objs.size + 1 := Heap.size_push _ _
      have ne1 : l ≠ (s.heap.push (setOb led)).objs.size := by
        rw [sz1]
        exact Nat.ne_of_lt (Nat.lt_succ_of_lt below)
      have out : s.heap.objs.size ∉ [(s.heap.push (setOb led)).objs.size, l] := by
        rw [sz1]
        simp only [List.mem_cons, List.not_mem_nil, or_false, not_or]
        exact ⟨Nat.ne_of_lt (Nat.lt_succ_self _), Nat.ne_of_gt below⟩
      refine fill_loop ((Walks.list calm3 _ l ne1 items).toS) out len keys room items.size 0 _ (Nat.zero_add _) ⟨⟨_, Heap.get?_push_size _ rfl, rfl, rfl⟩, (src'.push _)⟩ ?_ fun s' mv end_ => ?_
      · have get0 : ((s.heap.push (setOb led)).push { cls := .type "list_iterator", data := .fields #[.ref l, .int 0 0] }).get? s.heap.objs.size = some (setOb led) := Heap.get?_push_of_some _ at0
        refine ⟨_, #[], 0, _, get0, ⟨rfl, rfl, rfl⟩, rfl, fun e z => absurd z (by simp), fun k => ?_, by decide, by rfl, rfl⟩
        simp [inK, metK]
      · obtain ⟨h', g', d', tk', os'⟩ := s'
        cases (show g' = s.gens from mv.gens)
        cases (show d' = s.drawn from mv.drawn)
        cases (show os' = s.os from mv.os)
        refine (show wpAny _ _ _ _ _ _ from wpAny_pure (show wpAny _ _ (ret Value.none) _ _ _ from wpAny_pure ⟨rfl, h', tk', rfl, end_, fun b o hb e => ?_⟩))
        refine mv.heap b o ?_ (Heap.get?_push_of_some _ (Heap.get?_push_of_some _ e))
        simp only [List.mem_cons, List.not_mem_nil, or_false, not_or]
        refine ⟨Nat.ne_of_lt hb, ?_⟩
        rw [sz1]
        exact Nat.ne_of_lt (Nat.lt_succ_of_lt hb)
    · match res2, z2 with
      | .error e, z2 => exact z2
      | .ok .next, z2 => exact z2.elim
      | .ok .brk, z2 => exact z2.elim
      | .ok .cont, z2 => exact z2.elim
      | .ok (.ret r), ⟨e1, h', tk, e2, end_, keep⟩ =>
        subst e1
        subst e2
        repeat (any_goals (first | assumption | wp_step))
        exact q _ _ end_ keep
end

section
variable {prog : Program} {w : World} {A : Around} {E : Value → Shared → Prop} {s : Shared}
theorem setFrom_tuple {l : Addr} {items : Array Value} {ks : List Key} {Q : Value → Shared → Prop} (calm : A.handled = none) (src : s.heap.IsTuple l items) (len : ks.length = items.size) (keys : ∀ (i : Nat) (v : Value), items[i]? = some v → ∃ k, ks[i]? = some k ∧ keyIs k v = true)
    (room : items.size + 1 < scanBound) (q : ∀ (h' : Heap) (tk : Nat), h'.SetOf (mixKind prog w) s.heap.objs.size (inK (metK [] ks)) (metK [] ks).length → (∀ b o, b < s.heap.objs.size → s.heap.get? b = some o → h'.get? b = some o) →
      Q (.ref s.heap.objs.size) { s with heap := h', toks := tk }) : wpAny (model prog w) A (call (.type "set") [.ref l]) Q E s := by
  obtain ⟨c0, t0, mro0⟩ := PySem.F.called_set.mro
  have made0 := PySem.F.called_set.made
  have sub0 := PySem.F.called_set.sub
  refine wpAny_call (codeAny_of_tree (show wpAny _ _ (callAny (.type "set") _) _ _ _ from ?_))
  refine wpAny_pure ⟨Code.quiet_builtin _ (by decide +kernel), codeAny_builtin PySem.F.entry_type_call ?_⟩
  rw [Around.under_plain (weight_type_call_type "set" [.ref l] []) rfl]
  have nt0 := PySem.F.called_set.notType
  have cc0 := PySem.F.called_set.canCreate
  have tc0 := PySem.F.typeCall_set_1 (.ref l)
  repeat (any_goals (first | assumption | wp_step))
  refine codeAny_mono (code_set_new_1 (.ref l) (E := E) (Q₁ := fun ob s1 => ∃ led : Bool, ob = .ref s.heap.objs.size ∧ s1 = { s with heap := s.heap.push (setOb led) }) fun led => ⟨led, rfl, rfl⟩) fun res s1 z => ?_
  match res, z with
  | .error e, z => exact z
  | .ok .next, z => exact z.elim
  | .ok .brk, z => exact z.elim
  | .ok .cont, z => exact z.elim
  | .ok (.ret ob), ⟨led, e1, e2⟩ =>
    subst e1
    subst e2
    have at0 : (s.heap.push (setOb led)).get? s.heap.objs.size = some (setOb led) := Heap.get?_push_size _ rfl
    have ty0 : Shared.TypeIs { s with heap := s.heap.push (setOb led) } (.ref s.heap.objs.size) "set" := ⟨_, at0, rfl⟩
    have li0 := PySem.F.called_set.init.lookup
    have bi0 := PySem.F.called_set.init.bind (.ref s.heap.objs.size)
    repeat (any_goals (first | assumption | wp_step))
    refine codeAny_mono (codeAny_call_builtin (R := wants (fun r s2 => r = .none ∧ ∃ h' tk, s2 = { s with heap := h', toks := tk } ∧ h'.SetOf (mixKind prog w) s.heap.objs.size (inK (metK [] ks)) (metK [] ks).length ∧
        (∀ b o, b < s.heap.objs.size → s.heap.get? b = some o → h'.get? b = some o)) E) PySem.F.called_set.init.plain PySem.F.entry_set_init (check_set_init_1 ty0 ?_)) fun res2 s2 z2 => ?_
    · obtain ⟨⟨cl, dc, dt, sl⟩, hol, hcl, nl, hdl⟩ := src
      simp only at hcl hdl
      subst hcl
      subst hdl
      have here : (s.heap.push (setOb led)).get? l = some { cls := .type "tuple", dict := dc, data := .seq items nl, slots := sl } := Heap.get?_push_of_some _ hol
      have su1 := PySem.F.sub_tuple_set
      have su2 := PySem.F.sub_tuple_frozenset
      have nd0 : (Value.type "tuple" == Value.type "dict") = false := by decide
      have src' : (s.heap.push (setOb led)).IsTuple l items := ⟨_, here, rfl, nl, rfl⟩
      unfold Builtin.«set.__init__» noKeywords Builtin.Frozenset.updateFrom
      generalize pz : pyIter = pzI
      wp_walk
      subst pz
      refine wpAny_pyIter_tuple src' (wpAny_bind (wpAny_runValue ?_))
      have below : l < s.heap.objs.size := Heap.lt_size hol
      have calm3 : A.in1.in1.in1.handled = none := by simp [calm]
      have sz1 : (s.heap.push (setOb led)).objs.size = s.heap.objs.size + 1 := Heap.size_push _ _
      have ne1 : l ≠ (s.heap.push (setOb led)).objs.size := by
        rw [sz1]
        exact Nat.ne_of_lt (Nat.lt_succ_of_lt below)
      have out : s.heap.objs.size ∉ [(s.heap.push (setOb led)).objs.size, l] := by
        rw [sz1]
        simp only [List.mem_cons, List.not_mem_nil, or_false, not_or]
        exact ⟨Nat.ne_of_lt (Nat.lt_succ_self _), Nat.ne_of_gt below⟩
      refine fill_loop ((Walks.tuple calm3 _ l ne1 items).toS) out len keys room items.size 0 _ (Nat.zero_add _) ⟨⟨_, Heap.get?_push_size _ rfl, rfl, rfl⟩, (src'.push _)⟩ ?_ fun s' mv end_ => ?_
      · have get0 : ((s.heap.push (setOb led)).push { cls := .type "tuple_iterator", data := .fields #[.ref l, .int 0 0] }).get? s.heap.objs.size = some (setOb led) := Heap.get?_push_of_some _ at0
        refine ⟨_, #[], 0, _, get0, ⟨rfl, rfl, rfl⟩, rfl, fun e z => absurd z (by simp), fun k => ?_, by decide, by rfl, rfl⟩
        simp [inK, metK]
      · obtain ⟨h', g', d', tk', os'⟩ := s'
        cases (show g' = s.gens from mv.gens)
        cases (show d' = s.drawn from mv.drawn)
        cases (show os' = s.os from mv.os)
        refine (show wpAny _ _ _ _ _ _ from wpAny_pure (show wpAny _ _ (ret Value.none) _ _ _ from wpAny_pure ⟨rfl, h', tk', rfl, end_, fun b o hb e => ?_⟩))
        refine mv.heap b o ?_ (Heap.get?_push_of_some _ (Heap.get?_push_of_some _ e))
        simp only [List.mem_cons, List.not_mem_nil, or_false, not_or]
        refine ⟨Nat.ne_of_lt hb, ?_⟩
        rw [sz1]
        exact Nat.ne_of_lt (Nat.lt_succ_of_lt hb)
    · match res2, z2 with
      | .error e, z2 => exact z2
      | .ok .next, z2 => exact z2.elim
      | .ok .brk, z2 => exact z2.elim
      | .ok .cont, z2 => exact z2.elim
      | .ok (.ret r), ⟨e1, h', tk, e2, end_, keep⟩ =>
        subst e1
        subst e2
        repeat (any_goals (first | assumption | wp_step))
        exact q _ _ end_ keep
end
end My
set_option Elab.async false
set_option linter.all false
set_option maxRecDepth 100000
set_option maxHeartbeats 4000000
/-! set(xs), len of a set, {.. for .. in t}: the rules and their turns. -/
namespace My
open PySem PySem.Spec PyProof.Rows L2
section
variable {X : Cx}
theorem vals_keys : ∀ {ks : List Key} {us : List Value}, Vals (ks.map kV) us → ∀ (i : Nat) (v : Value), us[i]? = some v → ∃ k, ks[i]? = some k ∧ keyIs k v = true
  | [], _, .nil, i, v, h => by simp at h
  | k :: r, _, .cons a b, 0, v, h => ⟨k, rfl, by
    cases h
    cases k with
    | inl i =>
      obtain ⟨t, rfl⟩ := a
      exact keyIs_int i t
    | inr x =>
      obtain ⟨t, rfl⟩ := a
      exact keyIs_str x t⟩
  | k :: r, _, .cons a b, i + 1, v, h => vals_keys b i v h
/-- set(xs) -/
def rSetOf (K : PySem.W.Frag) (P : Program) (w : World) : List V → Hp → VK → Prop := fun xs H Q => ∃ (a : Addr) (ks : List Key), xs = [.ref a] ∧ (SqL K H a (ks.map kV) ∨ SqT K H a (ks.map kV)) ∧ ks.length ≤ 1000 ∧
  ∀ p, H p = none → Q (.ref p) (upd H p (SetK P w p (inK (metK [] ks)) (metK [] ks).length))
theorem call_setOf (calm : X.calm = true) : CallR X (.type "set") (rSetOf X.K X.prog X.w) := by
  intro pins s σ H xs us Q I r h
  obtain ⟨a, ks, rfl, hs, hl, q⟩ := h
  obtain ⟨u, rfl, rx⟩ := vals1 r
  cases rx
  have fin : ∀ (h' : Heap) (tk : Nat), h'.SetOf (mixKind X.prog X.w) s.heap.objs.size (inK (metK [] ks)) (metK [] ks).length → (∀ b o, b < s.heap.objs.size → s.heap.get? b = some o → h'.get? b = some o) →
      EP X pins σ Q (.ref s.heap.objs.size) { s with heap := h', toks := tk } := fun h' tk R k =>
    ⟨.ref _, upd H s.heap.objs.size (SetK X.prog X.w s.heap.objs.size (inK (metK [] ks)) (metK [] ks).length), I.laid (t' := tk) (fun b o e => k b o (Heap.lt_size e) e) (Nat.le_refl _) (setK_new R), rfl, q _ (I.hok.fresh (Nat.le_refl _))⟩
  have sb : ks.length + 1 < scanBound := by unfold scanBound; omega
  rcases hs with hs | hs
  · obtain ⟨its, rv, pl, _⟩ := I.list hs
    have el : ks.length = its.toArray.size := by rw [List.size_toArray, ← rv.length, List.length_map]
    exact setFrom_list (I.ok.hd calm) pl.isList el (fun i v e => vals_keys rv i v (by simpa using e)) (by rw [← el]; exact sb) fin
  · obtain ⟨its, rv, pl, _⟩ := I.tuple hs
    have el : ks.length = its.toArray.size := by rw [List.size_toArray, ← rv.length, List.length_map]
    exact setFrom_tuple (I.ok.hd calm) pl el (fun i v e => vals_keys rv i v (by simpa using e)) (by rw [← el]; exact sb) fin
/-- len of a set -/
def rLenK (P : Program) (w : World) : List V → Hp → VK → Prop := fun xs H Q => ∃ (a : Addr) (S : Key → Bool) (n : Nat), xs = [.ref a] ∧ H a = some (SetK P w a S n) ∧ n ≤ 100000 ∧ Q (.int (n : Int)) H
theorem call_lenK : CallR X (.builtin "len") (rLenK X.prog X.w) := by
  intro pins s σ H xs us Q I r h
  obtain ⟨a, S, n, rfl, hs, hn, q⟩ := h
  obtain ⟨u, rfl, rx⟩ := vals1 r
  cases rx
  obtain ⟨o, es, ep, t, ho, hex, hd, _, _, _, hf, en⟩ := setK_get I hs
  exact call_len_set ho hex hd hf (by rw [en] <;> omega) ⟨.int (n : Int), H, I.tok _, ⟨_, by rw [en]⟩, q⟩
end
/-- a set comprehension over a tuple that the block leaves as it is -/
theorem setc_tup {P : Program} {w : World} {K : PySem.W.Frag} {a : Addr} {xs : List V} {g : TG} {te : TE} {vs : List Nat} {σ : L2.St} {H1 : Hp} {D : Addr} {Qd : Hp → Prop} (Pv : Nat → Hp → Prop) (h0 : Pv 0 (upd H1 D (SetK P w D noKeys 0)))
    (hl : ∀ i H, i ≤ xs.length → Pv i H → SqT K H a xs) (hs : ∀ i x H, xs[i]? = some x → Pv i H → g x (wipe σ vs) H fun σ2 H2 => wipe σ2 vs = wipe σ vs ∧ te σ2 H2 (keyEnd P w D (Pv (i + 1)))) (hd : ∀ H, Pv xs.length H → Qd H) :
    ∃ W : Nat → Nat → Hp → Prop, (∃ m, W 0 m (upd H1 D (SetK P w D noKeys 0))) ∧ ∀ i m H, W i m H → ((Itt K a).stop i H ∧ Qd H) ∨
      ((Itt K a).go i H ∧ ∃ Nx : Hp → Prop, (∀ H', Nx H' → ∃ m', m' < m ∧ W (i + 1) m' H') ∧ ∀ x H', (Itt K a).yld i H x H' → g x (wipe σ vs) H' fun σ2 H2 => wipe σ2 vs = wipe σ vs ∧ te σ2 H2 (keyEnd P w D Nx)) := by
  refine ⟨fun i m H => i + m = xs.length ∧ Pv i H, ⟨xs.length, Nat.zero_add _, h0⟩, fun i m H ⟨e, p⟩ => ?_⟩
  have there := hl i H (by omega) p
  cases m with
  | zero =>
    cases e
    exact .inl ⟨⟨xs, there, Nat.le_refl _⟩, hd H p⟩
  | succ m =>
    have lt : i < xs.length := by omega
    refine .inr ⟨⟨xs, xs[i], there, List.getElem?_eq_getElem lt⟩, Pv (i + 1), fun H' p' => ⟨m, Nat.lt_succ_self m, by omega, p'⟩, fun x H' y => ?_⟩
    obtain ⟨rfl, y⟩ := y
    exact hs i x _ (y xs there) p
end My
set_option Elab.async false
set_option linter.all false
set_option maxRecDepth 100000
set_option maxHeartbeats 4000000
namespace My
open PySem PySem.Spec PyProof.Rows L2 SeqAt
section
variable {X : Cx}
theorem op_eqNil (hu : X.A.units + 64 < cLine) : OpR X (compareOp .Eq) (rNil X.K id) := by
  intro pins s σ H x y v u Q I rx ry h
  obtain ⟨a, b, xs, rfl, rfl, h, q⟩ := h
  cases rx
  cases ry
  rcases h with ⟨ha, hb⟩ | ⟨ha, hb⟩
  · obtain ⟨its, rv, ⟨o, n, ho, hc, _, hd⟩, _⟩ := I.list ha
    obtain ⟨its2, rv2, ⟨o2, n2, ho2, hc2, _, hd2⟩, _⟩ := I.list hb
    cases vals_nil rv2
    have l1 : s.heap.IsList a its.toArray := ⟨o, ho, hc, n, hd⟩
    have l2 : s.heap.IsList b #[] := ⟨o2, ho2, hc2, n2, hd2⟩
    cases rv with
    | nil => exact RcAt.lists (e := fun _ => true) l1 l2 rfl (by omega) (fun j h1 => absurd h1 (Nat.not_lt_zero j)) _ _ _ _ ⟨.bl _, H, I, rfl, q⟩
    | cons r t => exact RcAt.lists_lengths l1 l2 (by simp) (by omega) _ _ _ _ ⟨.bl _, H, I, rfl, q⟩
  · obtain ⟨its, rv, ⟨o, ho, hc, n, hd⟩, _⟩ := I.tuple ha
    obtain ⟨its2, rv2, ⟨o2, ho2, hc2, n2, hd2⟩, _⟩ := I.tuple hb
    cases vals_nil rv2
    have l1 : s.heap.IsTuple a its.toArray := ⟨o, ho, hc, n, hd⟩
    have l2 : s.heap.IsTuple b #[] := ⟨o2, ho2, hc2, n2, hd2⟩
    refine RcAt.tuples (e := fun _ => true) l1 l2 (by omega) (fun j _ h2 => absurd h2 (Nat.not_lt_zero j)) _ _ _ _ ?_
    rw [show min its.toArray.size (#[] : Array Value).size = 0 from Nat.min_zero _]
    refine ⟨.bl xs.isEmpty, H, I, ?_, q⟩
    show Value.bool _ = Value.bool _
    rw [← vals_emp rv]
    simp
end
/-! ### a comprehension over anything of a known length -/
theorem lcJ {J : It} {n : Nat} {g : TG} {tt : TT} {te : TE} {vs : List Nat} {σ : L2.St} {H1 : Hp} {D : Addr} {Qd : Hp → Prop} (Pv : Nat → Hp → Prop) (h0 : Pv 0 (upd H1 D (.lst []))) (go : ∀ i H, i < n → Pv i H → J.go i H) (stop : ∀ H, Pv n H → J.stop n H)
    (hs : ∀ i H x H', i < n → Pv i H → J.yld i H x H' → g x (wipe σ vs) H' fun σ2 H2 => wipe σ2 vs = wipe σ vs ∧ tt σ2 H2 fun b H3 =>
      if b = true then te σ2 H3 fun y H4 => ∃ acc, H4 D = some (.lst acc) ∧ acc.length < sizeLine ∧ Pv (i + 1) (upd H4 D (.lst (acc ++ [y]))) else Pv (i + 1) H3) (hd : ∀ H, Pv n H → Qd H) :
    ∃ W : Nat → Nat → Hp → Prop, (∃ m, W 0 m (upd H1 D (.lst []))) ∧ ∀ i m H, W i m H → (J.stop i H ∧ Qd H) ∨
      (J.go i H ∧ ∃ Nx : Hp → Prop, (∀ H', Nx H' → ∃ m', m' < m ∧ W (i + 1) m' H') ∧ ∀ x H', J.yld i H x H' → g x (wipe σ vs) H' fun σ2 H2 => wipe σ2 vs = wipe σ vs ∧ tt σ2 H2 fun b H3 =>
        if b = true then te σ2 H3 fun y H4 => ∃ acc, H4 D = some (.lst acc) ∧ acc.length < sizeLine ∧ Nx (upd H4 D (.lst (acc ++ [y]))) else Nx H3) := by
  refine ⟨fun i m H => i + m = n ∧ Pv i H, ⟨n, Nat.zero_add _, h0⟩, fun i m H ⟨e, p⟩ => ?_⟩
  cases m with
  | zero =>
    cases e
    exact .inl ⟨stop H p, hd H p⟩
  | succ m => exact .inr ⟨go i H (by omega) p, Pv (i + 1), fun H' p' => ⟨m, Nat.lt_succ_self m, by omega, p'⟩, fun x H' y => hs i H x H' (by omega) p y⟩
/-- .. over a text's signs, no test -/
def lcN_str {x : Str} {te : TE} {vs : List Nat} {σ : L2.St} {H1 : Hp} {D : Addr} {Qd : Hp → Prop} {j : Nat} (Pv : Nat → Hp → Prop) (h0 : Pv 0 (upd H1 D (.lst [])))
    (hs : ∀ i c H, x.cps.toList[i]? = some c → Pv i H → wipe ((wipe σ vs).set j (some (.str (sign c)))) vs = wipe σ vs ∧ Grows te D (Pv (i + 1)) ((wipe σ vs).set j (some (.str (sign c)))) H) (hd : ∀ H, Pv x.length H → Qd H) :=
  lcJ (J := Its x) (n := x.length) (g := gName j) (tt := tYes) (te := te) (vs := vs) (σ := σ) (H1 := H1) (D := D) (Qd := Qd) Pv h0 (fun i H lt _ => lt) (fun H _ => Nat.le_refl _)
    (fun i H v H' lt p y => by
      obtain ⟨rfl, c, e, rfl⟩ := y
      have e' : x.cps.toList[i]? = some c := by rw [Array.getElem?_toList]; exact e
      exact yes_turn (hs i c _ e' p).1 (hs i c _ e' p).2) hd
/-- .. with a test whose answer is known and which leaves the heap -/
def lcT_str {x : Str} {tt : TT} {te : TE} {vs : List Nat} {σ : L2.St} {H1 : Hp} {D : Addr} {Qd : Hp → Prop} {j : Nat} (b : Nat → Bool) (Pv : Nat → Hp → Prop) (h0 : Pv 0 (upd H1 D (.lst [])))
    (hs : ∀ i c H, x.cps.toList[i]? = some c → Pv i H → wipe ((wipe σ vs).set j (some (.str (sign c)))) vs = wipe σ vs ∧ (∀ Q : Bool → Hp → Prop, Q (b c) H → tt ((wipe σ vs).set j (some (.str (sign c)))) H Q) ∧
      (b c = true → Grows te D (Pv (i + 1)) ((wipe σ vs).set j (some (.str (sign c)))) H) ∧ (b c = false → Pv (i + 1) H)) (hd : ∀ H, Pv x.length H → Qd H) :=
  lcJ (J := Its x) (n := x.length) (g := gName j) (tt := tt) (te := te) (vs := vs) (σ := σ) (H1 := H1) (D := D) (Qd := Qd) Pv h0 (fun i H lt _ => lt) (fun H _ => Nat.le_refl _)
    (fun i H v H' lt p y => by
      obtain ⟨rfl, c, e, rfl⟩ := y
      have e' : x.cps.toList[i]? = some c := by rw [Array.getElem?_toList]; exact e
      obtain ⟨w1, w2, w3, w4⟩ := hs i c _ e' p
      refine ⟨w1, w2 _ ?_⟩
      cases hb : b c with
      | true => exact iteT (w3 hb)
      | false => exact iteF (w4 hb)) hd

/-! ### kinds -/
def kindD : PyData → String
  | .none => "NoneType"
  | .bool _ => "bool"
  | .int _ => "int"
  | .str _ => "str"
  | .list _ => "list"
  | .tuple _ => "tuple"
  | .dict _ => "dict"
theorem da_ty {K : PySem.W.Frag} {p : Addr} {H : Hp} : ∀ {d : PyData} {v : V}, Da K p H v d → TyX K H v (.type (kindD d))
  | _, _, .non => .base .non
  | _, _, .bl b => .base (.bl b)
  | _, _, .int i => .base (.int i)
  | _, _, .str x => .base (.str x)
  | _, _, .lst _ h _ => by
    rcases h with (h | ⟨o, h⟩) | ⟨o, its, n, h, c, _⟩
    · exact .base (.lst h)
    · exact .base (.frz h)
    · exact .kList h c
  | _, _, .tup h _ => by
    rcases h with (h | ⟨o, h⟩) | ⟨o, its, n, h, c, _⟩
    · exact .base (.tup h)
    · exact .fTuple h
    · exact .kTuple h c
  | _, _, .dct _ h _ => .base (.dK h)
def isStr : PyData → Bool
  | .str _ => true
  | _ => false
def isTup : PyData → Bool
  | .tuple _ => true
  | _ => false
def isInt : PyData → Bool
  | .int _ => true
  | .bool _ => true
  | _ => false
def isBool : PyData → Bool
  | .bool _ => true
  | _ => false
theorem kit_str : ∀ d : PyData, kitB (kindD d) "str" = some (isStr d)
  | .none => (show kitB "NoneType" "str" = some false by decide +kernel)
  | .bool _ => (show kitB "bool" "str" = some false by decide +kernel)
  | .int _ => (show kitB "int" "str" = some false by decide +kernel)
  | .str _ => (show kitB "str" "str" = some true by decide +kernel)
  | .list _ => (show kitB "list" "str" = some false by decide +kernel)
  | .tuple _ => (show kitB "tuple" "str" = some false by decide +kernel)
  | .dict _ => (show kitB "dict" "str" = some false by decide +kernel)
theorem kit_tuple : ∀ d : PyData, kitB (kindD d) "tuple" = some (isTup d)
  | .none => (show kitB "NoneType" "tuple" = some false by decide +kernel)
  | .bool _ => (show kitB "bool" "tuple" = some false by decide +kernel)
  | .int _ => (show kitB "int" "tuple" = some false by decide +kernel)
  | .str _ => (show kitB "str" "tuple" = some false by decide +kernel)
  | .list _ => (show kitB "list" "tuple" = some false by decide +kernel)
  | .tuple _ => (show kitB "tuple" "tuple" = some true by decide +kernel)
  | .dict _ => (show kitB "dict" "tuple" = some false by decide +kernel)
theorem kit_int : ∀ d : PyData, kitB (kindD d) "int" = some (isInt d)
  | .none => (show kitB "NoneType" "int" = some false by decide +kernel)
  | .bool _ => (show kitB "bool" "int" = some true by decide +kernel)
  | .int _ => (show kitB "int" "int" = some true by decide +kernel)
  | .str _ => (show kitB "str" "int" = some false by decide +kernel)
  | .list _ => (show kitB "list" "int" = some false by decide +kernel)
  | .tuple _ => (show kitB "tuple" "int" = some false by decide +kernel)
  | .dict _ => (show kitB "dict" "int" = some false by decide +kernel)
theorem kit_bool : ∀ d : PyData, kitB (kindD d) "bool" = some (isBool d)
  | .none => (show kitB "NoneType" "bool" = some false by decide +kernel)
  | .bool _ => (show kitB "bool" "bool" = some true by decide +kernel)
  | .int _ => (show kitB "int" "bool" = some false by decide +kernel)
  | .str _ => (show kitB "str" "bool" = some false by decide +kernel)
  | .list _ => (show kitB "list" "bool" = some false by decide +kernel)
  | .tuple _ => (show kitB "tuple" "bool" = some false by decide +kernel)
  | .dict _ => (show kitB "dict" "bool" = some false by decide +kernel)
section
variable {K : PySem.W.Frag} {p : Addr} {H : Hp} {v : V} {d : PyData} {Q : VK}
theorem isi_str (h : Da K p H v d) (q : Q (.bl (isStr d)) H) : rIsi K [v, .ty "str"] H Q := ⟨v, _, _, _, _, rfl, .ty _, da_ty h, kit_ty (kit_str d), q⟩
theorem isi_tup (h : Da K p H v d) (q : Q (.bl (isTup d)) H) : rIsi K [v, .ty "tuple"] H Q := ⟨v, _, _, _, _, rfl, .ty _, da_ty h, kit_ty (kit_tuple d), q⟩
theorem isi_int (h : Da K p H v d) (q : Q (.bl (isInt d)) H) : rIsi K [v, .ty "int"] H Q := ⟨v, _, _, _, _, rfl, .ty _, da_ty h, kit_ty (kit_int d), q⟩
theorem isi_bool (h : Da K p H v d) (q : Q (.bl (isBool d)) H) : rIsi K [v, .ty "bool"] H Q := ⟨v, _, _, _, _, rfl, .ty _, da_ty h, kit_ty (kit_bool d), q⟩
end
end My
set_option Elab.async false
set_option linter.all false
set_option maxRecDepth 100000
set_option maxHeartbeats 4000000
namespace My
open PySem PySem.Spec PyProof.Rows L2

/-! ### what is a name, an integer, an end, a row -/
def lowC (c : Nat) : Bool := decide (97 ≤ c ∧ c ≤ 122)
def nmS (x : Str) : Bool := decide (1 ≤ x.length ∧ x.length ≤ 8) && x.cps.toList.all lowC
def nmD : PyData → Bool
  | .str x => nmS x
  | _ => false
def intD : PyData → Bool
  | .int _ => true
  | _ => false
theorem mem_abc (c : Nat) : decide (c ∈ abc.cps.toList) = lowC c := by
  rw [abc_codes]
  unfold lowC
  by_cases h : 97 ≤ c ∧ c ≤ 122
  · rw [decide_eq_true h, decide_eq_true (List.mem_map.mpr ⟨c - 97, List.mem_range.mpr (by omega), by omega⟩)]
  · rw [decide_eq_false h, decide_eq_false fun z => ?_]
    obtain ⟨j, hj, rfl⟩ := List.mem_map.mp z
    have := List.mem_range.mp hj
    exact h (by omega)
/-- texts and lists of a length that the model carries -/
def fitS (x : Str) : Prop := x.length ≤ 100000

section
variable {P : Program} {w : World} {K : PySem.W.Frag} {mg : Str → Option Value} {base : Heap} {t1 t2 : Tok}
/-- the names of the module that these defs read -/
structure Glb (mg : Str → Option Value) : Prop where
  isi : mg "isinstance" = none
  int : mg "int" = none
  bool : mg "bool" = none
  str : mg "str" = none
  tuple : mg "tuple" = none
  list : mg "list" = none
  len : mg "len" = none
  all : mg "all" = none
  set : mg "set" = none
  range : mg "range" = none
  abs : mg "abs" = none
  repr : mg "repr" = none
/-- is_name: of any value, for texts of a length that is carried; nothing that is tracked changes -/
def spIsName (K : PySem.W.Frag) : Sp := fun vs H Q _ => ∃ (p : Addr) (v : V) (d : PyData), vs = [v] ∧ Da K p H v d ∧ (∀ x, d = .str x → x.length ≤ 100000) ∧ ∀ H', Same H H' → Q (.bl (nmD d)) H'
theorem str_case {d : PyData} (h : isStr d = true) : ∃ x, d = .str x := by cases d <;> first | exact ⟨_, rfl⟩ | cases h
theorem nm_not {d : PyData} (h : isStr d = false) : nmD d = false := by cases d <;> first | rfl | cases h
theorem all_map (f : Nat → Bool) : ∀ l : List Nat, ((l.map f).all id) = l.all f
  | [] => rfl
  | c :: r => by rw [List.map_cons, List.all_cons, List.all_cons, all_map f r]; rfl
theorem ok_isname {f : Addr} {fd : FuncData} (F : Fun K "is_name" "is_name" sIsName f fd) (B : Glb mg) (g1 : mg "NAME_LENGTH" = some (.int 8 t1)) (g2 : mg "LETTERS" = some (.str abc t2)) : FnOk P w K mg base CX0 1 f fd ["value"] (spIsName K) := by
  refine F.ok scIsName (fun vs H Q E h => ?_) (fun cdv A outer s H vs Q E hr h => ?_)
  · obtain ⟨p, v, d, rfl, _⟩ := h
    rfl
  · obtain ⟨p, v, d, rfl, D, hx, q⟩ := h
    refine ⟨_, pss_cons (ps_if (PW.pt (pw_or (pt_not (pt_val (pe_callB call_isi (by rfl) B.isi boot_isinstance (pa_cons (pv 0) (pa_cons (pe_bltn (v := .ty "str") (by rfl) B.str boot_str rfl) pa_nil)))))
        (pw_or1 (pt_not (pt_chain op_le op_le pe_int (pe_callB call_len (by rfl) B.len PySem.boot_len (pa_cons (pv 0) pa_nil)) (pe_glob (v := .int 8) (by rfl) g1 ⟨_, rfl⟩)))))) (pss_one (ps_ret pe_bl)) pss_nil)
      (pss_one (ps_ret (pe_callB (cr_all rfl) (by rfl) B.all (by decide +kernel) (pa_cons (pe_lc (own := [("letter", 1)]) (g := gName 1) (tt := tYes) rfl scIsName.nd (pi_str (pv 0))
        (blkOk_by (own := [("letter", 1)]) (N := ["value", "letter"]) (sc := defScope sIsName) (by decide +kernel)) (fun _ _ _ _ _ => pg_name (i := 1) scIsName.nd rfl (Or.inl rfl)) (fun _ _ _ _ _ => pts_nil)
        (fun _ _ _ _ _ => pe_cmpR op_in_sign (pv 1) (pe_glob (v := .str abc) (by rfl) g2 ⟨_, rfl⟩) (by rfl))) pa_nil)))), ?_⟩
    refine ⟨_, rfl, v, _, _, _, _, rfl, .ty _, da_ty D, kit_ty (kit_str d), _, rfl, ?_⟩
    cases hi : isStr d with
    | false =>
      refine iteT ?_
      rw [← nm_not hi]
      exact q H (.refl H)
    | true =>
      obtain ⟨x, rfl⟩ := str_case hi
      cases D
      have hxl := hx x rfl
      have e0 : nmD (.str x) = nmS x := rfl
      refine iteF ⟨_, rfl, .str x, x.length, rfl, ⟨Evl.sz_of hxl, rfl⟩, _, _, rfl, rfl, _, rfl, ?_⟩
      have e1 : decide ((1 : Int) ≤ (x.length : Int)) = decide (1 ≤ x.length) := decide_eq_decide.mpr (by omega)
      have e2 : decide ((x.length : Int) ≤ (8 : Int)) = decide (x.length ≤ 8) := decide_eq_decide.mpr (by omega)
      rw [e1]
      by_cases h1 : 1 ≤ x.length
      · rw [decide_eq_true h1]
        refine iteT ⟨_, _, rfl, rfl, _, rfl, ?_⟩
        rw [e2]
        by_cases h8 : x.length ≤ 8
        · rw [decide_eq_true h8]
          refine iteF ⟨_, rfl, x, rfl, fun Dl hD => ?_⟩
          refine lcN_str (x := x) (fun i H' => H' Dl = some (.lst (((x.cps.toList.take i).map lowC).map V.bl)) ∧ Same H H') ⟨upd_same, same_new hD⟩ (fun i c H' hc hp => ⟨rfl, ?_⟩) (fun H' hp => ?_)
          · refine ⟨_, rfl, c, abc, rfl, rfl, _, hp.1, Evl.sz_lt ?_, ?_, ?_⟩
            · rw [List.length_map, List.length_map, List.length_take]
              have := str_len x
              omega
            · rw [upd_same, mem_abc, List.take_add_one, hc, List.map_append, List.map_append]
              rfl
            · intro b o e
              rw [upd_ne (ne_of_none e hD)]
              exact hp.2 b o e
          · obtain ⟨eD, sm⟩ := hp
            rw [str_len, List.take_length] at eD
            refine ⟨Dl, x.cps.toList.map lowC, rfl, .inl (.inl eD), ?_⟩
            rw [all_map]
            have e : x.cps.toList.all lowC = nmD (.str x) := by
              rw [e0, nmS, decide_eq_true ⟨h1, h8⟩]
              rfl
            rw [e]
            exact q H' sm
        · rw [decide_eq_false h8]
          refine iteT ?_
          have e : false = nmD (.str x) := by rw [e0, nmS, decide_eq_false fun z => h8 z.2]; rfl
          rw [e]
          exact q H (.refl H)
      · rw [decide_eq_false h1]
        refine iteF ⟨_, rfl, iteT ?_⟩
        have e : false = nmD (.str x) := by rw [e0, nmS, decide_eq_false fun z => h1 z.1]; rfl
        rw [e]
        exact q H (.refl H)
end
end My
set_option Elab.async false
set_option linter.all false
set_option maxRecDepth 100000
set_option maxHeartbeats 4000000
namespace My
open PySem PySem.Spec PyProof.Rows L2
section
variable {P : Program} {w : World} {K : PySem.W.Frag} {mg : Str → Option Value} {base : Heap}
def spIsInt (K : PySem.W.Frag) : Sp := fun vs H Q _ => ∃ (p : Addr) (v : V) (d : PyData), vs = [v] ∧ Da K p H v d ∧ Q (.bl (intD d)) H
theorem ok_isint {f : Addr} {fd : FuncData} (F : Fun K "is_integer" "is_integer" sIsInt f fd) (B : Glb mg) : FnOk P w K mg base CX0 1 f fd ["value"] (spIsInt K) := by
  refine F.ok scIsInt (fun vs H Q E h => ?_) (fun cdv A outer s H vs Q E hr h => ?_)
  · obtain ⟨p, v, d, rfl, _⟩ := h
    rfl
  · obtain ⟨p, v, d, rfl, D, q⟩ := h
    refine ⟨_, pss_one (ps_ret (pe_and (pe_callB call_isi (by rfl) B.isi boot_isinstance (pa_cons (pv 0) (pa_cons (pe_bltn (v := .ty "int") (by rfl) B.int boot_int rfl) pa_nil)))
      (pe_one (pe_not (pe_callB call_isi (by rfl) B.isi boot_isinstance (pa_cons (pv 0) (pa_cons (pe_bltn (v := .ty "bool") (by rfl) B.bool boot_bool rfl) pa_nil))))))), ?_⟩
    refine ⟨_, rfl, v, _, _, _, _, rfl, .ty _, da_ty D, kit_ty (kit_int d), _, rfl, ?_⟩
    cases hi : isInt d with
    | true =>
      refine iteT ⟨_, rfl, v, _, _, _, _, rfl, .ty _, da_ty D, kit_ty (kit_bool d), _, rfl, ?_⟩
      have e : (!isBool d) = intD d := by cases d <;> first | rfl | cases hi
      rw [e]
      exact q
    | false =>
      refine iteF ?_
      have e : false = intD d := by cases d <;> first | rfl | cases hi
      rw [e]
      exact q
end
end My
set_option Elab.async false
set_option linter.all false
set_option maxRecDepth 100000
set_option maxHeartbeats 4000000
namespace My
open PySem PySem.Spec PyProof.Rows L2
/-- the texts of a value, its lists and dicts are of a length that is carried -/
def Fit : PyData → Prop
  | .str x => x.length ≤ 100000
  | .tuple ds => ds.length ≤ 100000
  | .list ds => ds.length ≤ 100000
  | _ => True
def Fit1 (d : PyData) : Prop := Fit d ∧ ∀ ds, d = .tuple ds → ∀ e ∈ ds, Fit e
def Fit2 (d : PyData) : Prop := Fit d ∧ ∀ ds, d = .tuple ds → ∀ e ∈ ds, Fit1 e
end My
set_option Elab.async false
set_option linter.all false
set_option maxRecDepth 100000
set_option maxHeartbeats 4000000
namespace My
open PySem PySem.Spec PyProof.Rows L2
section
variable {P : Program} {w : World} {K : PySem.W.Frag} {mg : Str → Option Value} {base : Heap} {t1 t2 : Tok}
/-! ### a tuple of a name and a number -/
def inD (ns : List Int) : PyData → Bool
  | .int i => decide (i ∈ ns)
  | _ => false
def withD (ns : List Int) : PyData → Bool
  | .tuple [a, b] => nmD a && (intD b && inD ns b)
  | _ => false
def spIsWith (K : PySem.W.Frag) : Sp := fun vs H Q _ => ∃ (p b : Addr) (v : V) (d : PyData) (ns : List Int), vs = [v, .ref b] ∧ Da K p H v d ∧ Fit1 d ∧ SqT K H b (ns.map V.int) ∧ ∀ H', Same H H' → Q (.bl (withD ns d)) H'
theorem in_ints (i : Int) : ∀ ns : List Int, inV (.int i) (ns.map V.int) = decide (i ∈ ns)
  | [] => rfl
  | n :: r => by
    have ih := in_ints i r
    unfold inV at ih ⊢
    rw [List.map_cons, List.any_cons, ih]
    by_cases e : n = i
    · subst e
      have : eqV (V.int n) (V.int n) = true := by unfold eqV; simp
      simp [this]
    · have : eqV (V.int n) (V.int i) = false := by unfold eqV; simpa using e
      have e' : ¬ i = n := fun z => e z.symm
      simp [this, e']
theorem flat_ints : ∀ ns : List Int, (ns.map V.int).all flatV = true
  | [] => rfl
  | n :: r => by rw [List.map_cons, List.all_cons, flat_ints r]; rfl
theorem ok_iswith {f fI fN : Addr} {fd dI dN : FuncData} (F : Fun K "is_name_with" "is_name_with" sIsWith f fd) (B : Glb mg) (GI : FnOk P w K mg base CX0 1 fI dI ["value"] (spIsInt K)) (gI : mg "is_integer" = some (.ref fI)) (kI : PySem.W.keepIn K (.ref fI) = true) (bI : Binds K dI ["value"] [])
    (GN : FnOk P w K mg base CX0 1 fN dN ["value"] (spIsName K)) (gN : mg "is_name" = some (.ref fN)) (kN : PySem.W.keepIn K (.ref fN) = true) (bN : Binds K dN ["value"] []) : FnOk P w K mg base CX0 2 f fd ["value", "numbers"] (spIsWith K) := by
  refine F.ok scIsWith (fun vs H Q E h => ?_) (fun cdv A outer s H vs Q E hr h => ?_)
  · obtain ⟨p, b, v, d, ns, rfl, _⟩ := h
    rfl
  · obtain ⟨p, b, v, d, ns, rfl, D, hf, hb, q⟩ := h
    refine ⟨_, pss_cons (ps_if (PW.pt (pw_or (pt_not (pt_val (pe_callB call_isi (by rfl) B.isi boot_isinstance (pa_cons (pv 0) (pa_cons (pe_bltn (v := .ty "tuple") (by rfl) B.tuple boot_tuple rfl) pa_nil)))))
        (pw_or1 (pt_cmpR op_ne (pe_callB call_len (by rfl) B.len PySem.boot_len (pa_cons (pv 0) pa_nil)) pe_int (nomark _))))) (pss_one (ps_ret pe_bl)) pss_nil)
      (pss_one (ps_ret (pe_and (pe_call GN hr (by rfl) gN kN bN .nil pass0 (pa_cons (pe_ix ix_tup (pv 0) pe_int (fun _ _ => rfl)) pa_nil))
        (pe_and (pe_call GI hr (by rfl) gI kI bI .nil pass0 (pa_cons (pe_ix ix_tup (pv 0) pe_int (fun _ _ => rfl)) pa_nil))
        (pe_one (pe_cmpR op_in_seq (pe_ix ix_tup (pv 0) pe_int (fun _ _ => rfl)) (pv 1) (by rfl))))))), ?_⟩
    refine ⟨_, rfl, v, _, _, _, _, rfl, .ty _, da_ty D, kit_ty (kit_tuple d), _, rfl, ?_⟩
    cases hi : isTup d with
    | false =>
      refine iteT ?_
      have e : false = withD ns d := by cases d <;> first | rfl | cases hi
      rw [e]
      exact q H (.refl H)
    | true =>
      obtain ⟨ds, rfl⟩ : ∃ ds, d = .tuple ds := by cases d <;> first | exact ⟨_, rfl⟩ | cases hi
      obtain ⟨hf0, hf1⟩ := hf
      cases D with
      | @tup a xs _ hs hd =>
        have hl := hd.length
        refine iteF ⟨_, rfl, .ref a, xs.length, rfl, .inr ⟨_, hs, rfl⟩, rfl, _, rfl, ?_⟩
        by_cases h2 : xs.length = 2
        · rw [h2]
          refine iteF ?_
          obtain ⟨d1, d2, rfl⟩ : ∃ d1 d2, ds = [d1, d2] := by
            rw [h2] at hl
            match ds, hl with
            | [x, y], _ => exact ⟨x, y, rfl⟩
          cases hd with
          | @cons x1 xr _ _ D1 hd =>
            cases hd with
            | @cons x2 xr _ _ D2 hd =>
              cases hd
              have i0 : atI [x1, x2] 0 = some x1 := atI_nat (j := 0) rfl
              have i1 : atI [x1, x2] 1 = some x2 := atI_nat (j := 1) rfl
              refine ⟨_, rfl, a, _, _, _, rfl, rfl, hs, i0, p, x1, d1, rfl, D1, fun x e => (by have := hf1 _ rfl d1 List.mem_cons_self; rw [e] at this; exact this), fun H1 s1 => ⟨_, rfl, ?_⟩⟩
              have ew : withD ns (.tuple [d1, d2]) = (nmD d1 && (intD d2 && inD ns d2)) := rfl
              cases hn : nmD d1 with
              | false =>
                refine iteF ?_
                rw [show false = withD ns (.tuple [d1, d2]) by rw [ew, hn]; rfl]
                exact q H1 s1
              | true =>
                refine iteT ?_
                refine ⟨_, rfl, a, _, _, _, rfl, rfl, s1.keepsT _ _ hs, i1, p, x2, d2, rfl, da_keep s1.keepA D2, _, rfl, ?_⟩
                cases hj : intD d2 with
                | false =>
                  refine iteF ?_
                  rw [show false = withD ns (.tuple [d1, d2]) by rw [ew, hn, hj]; rfl]
                  exact q H1 s1
                | true =>
                  obtain ⟨i, rfl⟩ : ∃ i, d2 = .int i := by cases d2 <;> first | exact ⟨_, rfl⟩ | cases hj
                  cases D2
                  refine iteT ⟨_, rfl, a, _, _, _, rfl, rfl, s1.keepsT _ _ hs, i1, _, rfl, b, _, rfl, .inr (s1.keepsT _ _ hb), rfl, flat_ints ns, ?_⟩
                  show Q (.bl (if false = true then !inV (.int i) (ns.map V.int) else inV (.int i) (ns.map V.int))) H1
                  rw [if_neg Bool.false_ne_true, in_ints, show decide (i ∈ ns) = withD ns (.tuple [d1, .int i]) by rw [ew, hn]; rfl]
                  exact q H1 s1
        · have e1 : decide (V.int (xs.length : Int) = V.int 2) = false := decide_eq_false fun z => h2 (by have := V.int.inj z; omega)
          rw [e1]
          refine iteT ?_
          have e : false = withD ns (.tuple ds) := by
            match ds, hl with
            | [], _ => rfl
            | [_], _ => rfl
            | [_, _], z => exact absurd z h2
            | _ :: _ :: _ :: _, _ => rfl
          rw [e]
          exact q H (.refl H)
end
end My
set_option Elab.async false
set_option linter.all false
set_option maxRecDepth 100000
set_option maxHeartbeats 4000000
namespace My
open PySem PySem.Spec PyProof.Rows L2
open Classical in
theorem withKey_met (xs : List Key) (k : Key) : withKey (inK (metK [] xs)) k = inK (metK [] (xs ++ [k])) := by
  funext j
  unfold withKey inK
  rw [metK_snoc]
  by_cases z : k ∈ metK [] xs
  · rw [if_pos z]
    by_cases e : j = k
    · subst e
      simp [z]
    · simp [e]
  · rw [if_neg z]
    by_cases e : j = k
    · simp [e]
    · simp [e]
open Classical in
theorem more_met (xs : List Key) (k : Key) : more (inK (metK [] xs)) k (metK [] xs).length = (metK [] (xs ++ [k])).length := by
  unfold more inK
  rw [metK_snoc]
  by_cases z : k ∈ metK [] xs
  · rw [if_pos z, if_pos (decide_eq_true z)]
  · rw [if_neg z, if_neg (by simpa using z), List.length_append]
    rfl
def fstK : PyData → Key
  | .tuple (.str x :: _) => .inr x
  | _ => .inl 0
noncomputable def cntK (ds : List PyData) : Nat := (metK [] (ds.map fstK)).length
open Classical in
noncomputable def isRowD : PyData → Bool
  | .tuple ds => decide (ds.length ≤ 30) && (ds.all (withD [1, -1]) && decide (cntK ds = ds.length))
  | _ => false
theorem isRowD_not {d : PyData} (h : isTup d = false) : isRowD d = false := by cases d <;> first | (simp only [isRowD]; done) | cases h
theorem with_shape {ns : List Int} {d : PyData} (h : withD ns d = true) : ∃ x i, d = .tuple [.str x, .int i] ∧ nmS x = true ∧ i ∈ ns := by
  match d, h with
  | .tuple [a, b], h =>
    have h1 : nmD a = true ∧ intD b = true ∧ inD ns b = true := by simpa [withD] using h
    obtain ⟨h1, h2, h3⟩ := h1
    match a, b, h1, h2, h3 with
    | .str x, .int i, h1, _, h3 => exact ⟨x, i, rfl, h1, of_decide_eq_true h3⟩
section
variable {P : Program} {w : World} {K : PySem.W.Frag} {mg : Str → Option Value} {base : Heap} {t1 t2 t3 : Tok}
def spKind (K : PySem.W.Frag) (g : PyData → Bool) : Sp := fun vs H Q _ => ∃ (p : Addr) (v : V) (d : PyData), vs = [v] ∧ Da K p H v d ∧ Fit1 d ∧ ∀ H', Same H H' → Q (.bl (g d)) H'
theorem ok_isdir {f fW : Addr} {fd dW : FuncData} (F : Fun K "is_directed" "is_directed" sIsDir f fd) (GW : FnOk P w K mg base CX0 2 fW dW ["value", "numbers"] (spIsWith K)) (gW : mg "is_name_with" = some (.ref fW)) (kW : PySem.W.keepIn K (.ref fW) = true) (bW : Binds K dW ["value", "numbers"] []) :
    FnOk P w K mg base CX0 3 f fd ["value"] (spKind K (withD [1, -1])) := by
  refine F.ok scIsDir (fun vs H Q E h => ?_) (fun cdv A outer s H vs Q E hr h => ?_)
  · obtain ⟨p, v, d, rfl, _⟩ := h
    rfl
  · obtain ⟨p, v, d, rfl, D, hf, q⟩ := h
    refine ⟨_, pss_one (ps_ret (pe_call GW hr (by rfl) gW kW bW .nil pass0 (pa_cons (pv 0) (pa_cons (pe_tup (pa_cons pe_int (pa_cons (pe_un un_neg pe_int) pa_nil))) pa_nil)))), ?_⟩
    refine ⟨_, rfl, _, rfl, by show 2 ≤ sizeLine; decide, fun b hb => ?_⟩
    have sb := same_new (o := HO.tup [.int 1, .int (-1)]) hb
    exact ⟨p, b, v, d, [1, -1], rfl, da_keep sb.keepA D, hf, .inl (.inl upd_same), fun H' s => q H' (sb.trans s)⟩
def spIsRow (K : PySem.W.Frag) : Sp := fun vs H Q _ => ∃ (p : Addr) (v : V) (d : PyData), vs = [v] ∧ Da K p H v d ∧ Fit2 d ∧ ∀ H', Same H H' → Q (.bl (isRowD d)) H'
theorem all_with (g : PyData → Bool) : ∀ l : List PyData, ((l.map g).all id) = l.all g
  | [] => rfl
  | c :: r => by rw [List.map_cons, List.all_cons, List.all_cons, all_with g r]; rfl
open Classical in
theorem ok_isrow {f fD : Addr} {fd dD : FuncData} (F : Fun K "is_row" "is_row" sIsRow f fd) (B : Glb mg) (g3 : mg "MOST_WAGONS" = some (.int 30 t3)) (GD : FnOk P w K mg base CX0 3 fD dD ["value"] (spKind K (withD [1, -1]))) (gD : mg "is_directed" = some (.ref fD)) (kD : PySem.W.keepIn K (.ref fD) = true)
    (bD : Binds K dD ["value"] []) : FnOk P w K mg base CX0 4 f fd ["value"] (spIsRow K) := by
  refine F.ok scIsRow (fun vs H Q E h => ?_) (fun cdv A outer s H vs Q E hr h => ?_)
  · obtain ⟨p, v, d, rfl, _⟩ := h
    rfl
  · obtain ⟨p, v, d, rfl, D, hf, q⟩ := h
    refine ⟨_, pss_cons (ps_if (PW.pt (pw_or (pt_not (pt_val (pe_callB call_isi (by rfl) B.isi boot_isinstance (pa_cons (pv 0) (pa_cons (pe_bltn (v := .ty "tuple") (by rfl) B.tuple boot_tuple rfl) pa_nil)))))
        (pw_or1 (pt_cmpR op_gt (pe_callB call_len (by rfl) B.len PySem.boot_len (pa_cons (pv 0) pa_nil)) (pe_glob (v := .int 30) (by rfl) g3 ⟨_, rfl⟩) (nomark _))))) (pss_one (ps_ret pe_bl)) pss_nil)
      (pss_cons (ps_if (pt_not (pt_val (pe_callB (cr_all rfl) (by rfl) B.all (by decide +kernel) (pa_cons (pe_lc (own := [("wagon", 1)]) (g := gName 1) (tt := tYes) rfl scIsRow.nd (pi_tup (pv 0))
          (blkOk_by (own := [("wagon", 1)]) (N := ["value", "wagon", "name", "_"]) (sc := defScope sIsRow) (by decide +kernel)) (fun _ _ _ _ _ => pg_name (i := 1) scIsRow.nd rfl (Or.inl rfl)) (fun _ _ _ _ _ => pts_nil)
          (fun _ _ _ _ _ => pe_call GD hr (by rfl) gD kD bD .nil pass0 (pa_cons (pv 1) pa_nil))) pa_nil)))) (pss_one (ps_ret pe_bl)) pss_nil)
      (pss_one (ps_ret (pe_cmpR op_eq (pe_callB call_lenK (by rfl) B.len PySem.boot_len (pa_cons (pe_setc (own := [("name", 2), ("_", 3)]) (g := gTup K 2 (gCons (gName 2) (gCons (gName 3) gNil))) rfl scIsRow.nd (pi_tup (pv 0))
          (blkOk_by (own := [("name", 2), ("_", 3)]) (N := ["value", "wagon", "name", "_"]) (sc := defScope sIsRow) (by decide +kernel))
          (fun _ _ _ _ _ => pg_tup rfl (pgs_cons (pg_name (i := 2) scIsRow.nd rfl (Or.inl rfl) (Or.inr rfl)) (pgs_cons (pg_name (i := 3) scIsRow.nd rfl (Or.inl rfl) (Or.inr rfl)) pgs_nil)))
          (fun _ _ _ _ _ => pv 2)) pa_nil)) (pe_callB call_len (by rfl) B.len PySem.boot_len (pa_cons (pv 0) pa_nil)) (nomark _))))), ?_⟩
    refine ⟨_, rfl, v, _, _, _, _, rfl, .ty _, da_ty D, kit_ty (kit_tuple d), _, rfl, ?_⟩
    cases hi : isTup d with
    | false =>
      refine iteT ?_
      rw [← isRowD_not hi]
      exact q H (.refl H)
    | true =>
      obtain ⟨ds, rfl⟩ : ∃ ds, d = .tuple ds := by cases d <;> first | exact ⟨_, rfl⟩ | cases hi
      obtain ⟨hf0, hf1⟩ := hf
      cases D with
      | @tup a xs _ hs hd =>
        have hl := hd.length
        have er : isRowD (.tuple ds) = (decide (ds.length ≤ 30) && (ds.all (withD [1, -1]) && decide (cntK ds = ds.length))) := rfl
        refine iteF ⟨_, rfl, .ref a, xs.length, rfl, .inr ⟨_, hs, rfl⟩, _, _, rfl, rfl, _, rfl, ?_⟩
        by_cases h30 : ds.length ≤ 30
        · rw [decide_eq_false (by omega)]
          refine iteF ⟨_, rfl, a, rfl, ⟨_, hs⟩, fun Dl hD => ?_⟩
          refine lcN_tup (K := K) (a := a) (xs := xs) (fun i H' => H' Dl = some (.lst (((ds.take i).map (withD [1, -1])).map V.bl)) ∧ Same H H') ⟨upd_same, same_new hD⟩ (fun i H' _ hp => hp.2.keepsT _ _ hs) (fun i x H' hx hp => ⟨rfl, ?_⟩) (fun H' hp => ?_)
          · obtain ⟨e, he, De⟩ := hd.at hx
            refine ⟨_, rfl, p, x, e, rfl, da_keep hp.2.keepA De, hf1 ds rfl e (List.mem_of_getElem? he), fun H2 s2 => ?_⟩
            refine ⟨_, s2 _ _ hp.1, Evl.sz_lt ?_, ?_, ?_⟩
            · rw [List.length_map, List.length_map, List.length_take]
              omega
            · rw [upd_same, List.take_add_one, he, List.map_append, List.map_append]
              rfl
            · intro b o z
              rw [upd_ne (ne_of_none z hD)]
              exact s2 b o (hp.2 b o z)
          · obtain ⟨eD, sm⟩ := hp
            rw [hl, List.take_length] at eD
            refine ⟨Dl, ds.map (withD [1, -1]), rfl, .inl (.inl eD), _, rfl, ?_⟩
            rw [all_with]
            cases ha : ds.all (withD [1, -1]) with
            | false =>
              refine iteT ?_
              rw [show false = isRowD (.tuple ds) by rw [er, ha, decide_eq_true h30]; rfl]
              exact q H' sm
            | true =>
              have hs' : SqT K H' a xs := sm.keepsT _ _ hs
              refine iteF ⟨_, rfl, a, rfl, ⟨_, hs'⟩, fun Ds hDs => ?_⟩
              refine setc_tup (K := K) (a := a) (xs := xs) (fun i H2 => H2 Ds = some (SetK P w Ds (inK (metK [] ((ds.map fstK).take i))) (metK [] ((ds.map fstK).take i)).length) ∧ Same H' H2)
                ⟨?_, same_new hDs⟩ (fun i H2 _ hp => hp.2.keepsT _ _ hs') (fun i x H2 hx hp => ?_) (fun H2 hp => ?_)
              · rw [upd_same]
                congr 2
                funext k
                simp [noKeys, inK, metK]
              · obtain ⟨e, he, De⟩ := hd.at hx
                obtain ⟨nm, dir, rfl, _, _⟩ := with_shape (List.all_eq_true.mp ha e (List.mem_of_getElem? he))
                have sm2 : Same H H2 := sm.trans hp.2
                have De' := da_keep (p := p) sm2.keepA De
                cases De' with
                | @tup b ys _ hb hy =>
                  cases hy with
                  | cons y1 hy =>
                    cases hy with
                    | cons y2 hy =>
                      cases hy
                      cases y1
                      cases y2
                      refine ⟨b, _, rfl, hb, rfl, _, _, rfl, _, _, rfl, rfl, rfl, ?_⟩
                      have few := len_metK_le ((ds.map fstK).take i) []
                      rw [List.length_take, List.length_nil] at few
                      refine ⟨_, rfl, .inr nm, _, _, rfl, hp.1, by unfold scanBound; rw [List.length_map] at few; omega, ?_, ?_⟩
                      · rw [upd_same, withKey_met, more_met]
                        have e2 : (ds.map fstK).take i ++ [Sum.inr nm] = (ds.map fstK).take (i + 1) := by
                          rw [List.take_add_one, List.getElem?_map, he]
                          rfl
                        rw [e2]
                        rfl
                      · intro b o z
                        rw [upd_ne (ne_of_none z hDs)]
                        exact hp.2 b o z
              · obtain ⟨eS, s2⟩ := hp
                have lk : (ds.map fstK).length = xs.length := by rw [List.length_map, hl]
                rw [← lk, List.take_length] at eS
                have few := len_metK_le (ds.map fstK) []
                refine ⟨Ds, _, _, rfl, eS, by rw [List.length_nil] at few; omega, _, rfl, .ref a, xs.length, rfl, .inr ⟨_, (sm.trans s2).keepsT _ _ hs, rfl⟩, rfl, ?_⟩
                have ee : decide (V.int ((metK [] (ds.map fstK)).length : Int) = V.int (xs.length : Int)) = isRowD (.tuple ds) := by
                  rw [er, ha, decide_eq_true h30]
                  show _ = (true && (true && decide (cntK ds = ds.length)))
                  rw [Bool.true_and, Bool.true_and]
                  refine decide_eq_decide.mpr ⟨fun z => ?_, fun z => ?_⟩
                  · have := V.int.inj z
                    unfold cntK
                    omega
                  · unfold cntK at z
                    rw [z, hl]
                rw [ee]
                exact q H2 (sm.trans s2)
        · rw [decide_eq_true (by omega)]
          refine iteT ?_
          rw [show false = isRowD (.tuple ds) by rw [er, decide_eq_false h30]; rfl]
          exact q H (.refl H)
end
end My
set_option Elab.async false
set_option linter.all false
set_option maxRecDepth 100000
set_option maxHeartbeats 4000000
/-! t[::-1] of a tuple -/
namespace My
open PySem PySem.Spec PyProof.Rows L2 HT
section
variable {prog : Program} {w : World} {A : Around} {E : Value → Shared → Prop} {s : Shared}
theorem adj_rev (n : Nat) : Builtin.Slice.sliceAdjust none none (-1) (n : Int) = ((n : Int) - 1, -1) := rfl
theorem places_rev (n : Nat) : Builtin.Slice.slicePlaces ((n : Int) - 1) (-1) (-1) = n := by
  unfold Builtin.Slice.slicePlaces
  rw [if_neg (by decide)]
  split
  · rw [show (-(-1) : Int) = 1 by decide, Int.ediv_one]
    omega
  · omega
theorem fm_map {α β : Type} (f : α → Option β) (g : α → β) : ∀ l : List α, (∀ a ∈ l, f a = some (g a)) → l.filterMap f = l.map g
  | [], _ => rfl
  | a :: r, h => by rw [List.filterMap_cons_some (h a List.mem_cons_self), List.map_cons, fm_map f g r fun b hb => h b (List.mem_cons_of_mem _ hb)]
theorem pick_rev (xs : Array Value) : ((List.range xs.size).filterMap fun (m : Nat) => xs[((xs.size : Int) - 1 + (m : Int) * (-1)).toNat]?).toArray = xs.toList.reverse.toArray := by
  congr 1
  apply List.ext_getElem?
  intro j
  have hl : ((List.range xs.size).filterMap fun (m : Nat) => xs[((xs.size : Int) - 1 + (m : Int) * (-1)).toNat]?) = (List.range xs.size).map fun m => xs.toList.getD (xs.size - 1 - m) .none := by
    refine fm_map _ _ _ fun m hm => ?_
    have hm := List.mem_range.mp hm
    have e : ((xs.size : Int) - 1 + (m : Int) * (-1)).toNat = xs.size - 1 - m := by omega
    rw [e, Array.getElem?_eq_getElem (by omega)]
    simp [List.getD_eq_getElem?_getD, Array.getElem?_toList, Array.getElem?_eq_getElem (show xs.size - 1 - m < xs.size by omega)]
  rw [hl]
  by_cases hj : j < xs.size
  · rw [List.getElem?_map, List.getElem?_range hj, List.getElem?_reverse (by simpa using hj), Option.map_some, List.getD_eq_getElem?_getD, List.getElem?_eq_getElem (by simp; omega)]
    simp only [Option.getD_some]
    rw [List.getElem?_eq_getElem (by simp; omega)]
    congr 1
  · rw [List.getElem?_eq_none (by simp; omega), List.getElem?_eq_none (by simp; omega)]
theorem applied_rev {sl : Addr} {vl vu vs : Value} {n : Nat} {Q : Int × Int × Nat → Shared → Prop} (hs : s.heap.IsSliceOf sl vl vu vs) (pl : IsPart vl none) (pu : IsPart vu none) (ps : IsPart vs (some (-1))) (h : Q ((n : Int) - 1, -1, n) s) :
    wpAny (model prog w) A (Builtin.Slice.sliceApplied (.ref sl) (pure (n : Int))) Q E s := by
  obtain ⟨os, hos, hcs, hds⟩ := id hs
  unfold Builtin.Slice.sliceApplied Builtin.Slice.sliceFields
  refine wpAny_bind (wpAny_bind (wpAny_field hos hds (x := vl) rfl (wpAny_bind (wpAny_field hos hds (x := vu) rfl (wpAny_bind (wpAny_field hos hds (x := vs) rfl (wpAny_pure ?_)))))))
  refine wpAny_bind (slicePart_ ps ?_)
  show wpAny _ _ (if ((-1 : Int) == 0) = true then _ else _) _ _ s
  rw [if_neg (by decide)]
  refine wpAny_bind (slicePart_ pl (wpAny_bind (slicePart_ pu (wpAny_bind (wpAny_pure ?_)))))
  show wpAny _ _ (pure ((n : Int) - 1, (-1 : Int), Builtin.Slice.slicePlaces ((n : Int) - 1) (-1) (-1))) _ _ s
  rw [places_rev]
  exact wpAny_pure h
theorem get_rev {t sl : Addr} {items : Array Value} {vl vu vs : Value} {Q : Value → Shared → Prop} (ht : IsTup s.heap t items) (hs : s.heap.IsSliceOf sl vl vu vs) (pl : IsPart vl none) (pu : IsPart vu none) (ps : IsPart vs (some (-1)))
    (h : Q (.ref s.heap.objs.size) { s with heap := s.heap.push { cls := .type "tuple", data := .seq items.toList.reverse.toArray } }) (hsz : items.size ≤ sizeLine) : wpAny (model prog w) A (getItem (.ref t) (.ref sl)) Q E s := by
  have ok : sizeOk (.seq items.toList.reverse.toArray) := by
    show items.toList.reverse.toArray.size ≤ sizeLine
    rw [List.size_toArray, List.length_reverse, Array.length_toList]
    exact hsz
  obtain ⟨os, hos, hcs, hds⟩ := id hs
  have hTs : s.TypeIs (.ref sl) "slice" := ⟨os, hos, hcs⟩
  unfold getItem
  try with_reducible refine wpAny_holding ?_
  first | refine wpAny_bind (wpAny_pure ?_) | skip
  refine wpAny_bind (wpAny_sequenceKey ht.typeIs (by decide) ?_)
  refine wpAny_bind (wpAny_callSpecial?_slot (name := Str.ofString "__getitem__") ht.typeIs PyProof.Rows.slot_tuple_getitem
    (wpAny_call_entry PyProof.Rows.slot_tuple_getitem ht.typeIs entry_tuple_getitem ?_ (args_tuple_getitem _ _)))
  show wpAny _ _ (Builtin.Tuple.tupleItemsOf (.ref t) >>= _) _ _ s
  refine wpAny_bind (tupleItemsOf_ ht ?_)
  refine wpAny_bind (wpAny_typeOf hTs ?_)
  rw [if_pos (by decide)]
  refine wpAny_bind (applied_rev hs pl pu ps ?_)
  have no : ¬ (((items.size : Int) - 1 == 0 && (-1 : Int) == 1 && items.size == items.size) = true) := by simp
  show wpAny _ _ (if ((items.size : Int) - 1 == 0 && (-1 : Int) == 1 && items.size == items.size) = true then _ else _) _ _ s
  rw [if_neg no, pick_rev]
  first
    | exact wpAny_bind (m := Builtin.Tuple.tupleExact _) (wpAny_newObj_type (wpAny_pure ⟨_, rfl, wpAny_pure h⟩) ok)
    | exact wpAny_bind (m := Builtin.Tuple.tupleExact _) (wpAny_newObj_type (wpAny_bind (wpAny_pure (wpAny_pure ⟨_, rfl, wpAny_pure h⟩))) ok)
end
def tRevT (K : PySem.W.Frag) (te : TE) : TE := fun σ H Q => te σ H fun x H1 => ∃ a xs, x = .ref a ∧ SqT K H1 a xs ∧ ∀ p, H1 p = none → Q (.ref p) (upd H1 p (.tup xs.reverse))
section
variable {X : Cx}
theorem pe_revT {e : Expr} {te : TE} {k : Nat} {p1 p2 p3 pos : Pos} (he : PE X e te) : PE X (.Subscript e (.Slice none none (some (.UnaryOp .USub (.Constant (.int 1) k p1) p2)) p3) pos) (tRevT X.K te) := by
  refine ⟨fun pins s σ H Q I h => ?_⟩
  refine Subscript_ (thn (he.run pins s σ H _ I h) fun v s1 ⟨x, H1, I1, r1, q1⟩ => ?_)
  obtain ⟨a, xs, ex, hx, q⟩ := q1
  subst ex
  cases r1
  have hst : PO X (some (.UnaryOp .USub (.Constant (.int 1) k p1) p2)) (tPart (tUn (rU fun i => .int (-i)) (tC (.int 1)))) := po_some (pe_un un_neg pe_int)
  refine wpAny_Slice (thn (po_none.run pins s1 σ H1 (fun o H2 => o = none ∧ H2 = H1) I1 ⟨rfl, rfl⟩) fun vl s2 ⟨l, H2, I2, pl, el, e2⟩ => ?_)
  subst el e2
  refine thn (po_none.run pins s2 σ H2 (fun o H3 => o = none ∧ H3 = H2) I2 ⟨rfl, rfl⟩) fun vu s3 ⟨u, H3, I3, pu, eu, e3⟩ => ?_
  subst eu e3
  refine thn (hst.run pins s3 σ H3 (fun o H4 => o = some (-1) ∧ H4 = H3) I3 ⟨1, rfl, -1, rfl, rfl, rfl⟩) fun vs s4 ⟨o, H4, I4, ps, eo, e4⟩ => ?_
  subst eo e4
  have I5 : Inv X pins σ H4 { s4 with heap := s4.heap.push { cls := .type "slice", data := .fields #[vl, vu, vs] } } := I4.kept (t' := s4.toks) fun b ob q => Heap.get?_push_of_some _ q
  obtain ⟨its, r, ht, hz⟩ := I5.tuple hx
  have hlen := r.length
  show wpAny (model X.prog X.w) X.A (subscriptTail e (.Slice none none (some (.UnaryOp .USub (.Constant (.int 1) k p1) p2)) p3) (.ref a) (.ref s4.heap.objs.size)) (EP X pins σ Q) X.xe { s4 with heap := s4.heap.push { cls := .type "slice", data := .fields #[vl, vu, vs] } }
  refine tail_any (ops := [.ref a, .ref s4.heap.objs.size]) ht.typeIs (PyProof.Rows.slot_tuple_getitem.lookup) ?_ (by with_unfolding_all rfl)
  refine get_rev ht (Heap.IsSliceOf.new _ vl vu vs) pl pu ps ?_ (by rw [List.size_toArray]; omega)
  refine ⟨.ref _, _, I5.laid (t' := s4.toks) (o := .tup xs.reverse) (fun b ob q => Heap.get?_push_of_some _ q) (Nat.le_refl _) ?_, rfl, q _ (I5.hok.fresh (Nat.le_refl _))⟩
  exact ⟨by rw [List.length_reverse]; exact hz, _, r.reverse, IsTup.new _ _⟩
end
end My
set_option Elab.async false
set_option linter.all false
set_option maxRecDepth 100000
set_option maxHeartbeats 4000000
/-! (name, direction) in a row, row.index((name, direction)), == of such pairs, the least of some texts -/
namespace My
open PySem PySem.Spec PyProof.Rows L2
theorem dw_eqv (p q : Str × Int) : PyData.eqv (dwD p) (dwD q) = decide (p = q) := by
  obtain ⟨a, b⟩ := p
  obtain ⟨c, d⟩ := q
  show ((a == c) && ((b == d) && true)) = _
  rw [Bool.and_true, Bool.eq_iff_iff, Bool.and_eq_true, beq_iff_eq, beq_iff_eq, decide_eq_true_iff, Prod.mk.injEq]
/-- the names can be laid -/
def LayR (r : List (Str × Int)) : Prop := ∀ x ∈ r, PyData.strOk x.1 = true
theorem lay_dw {p : Str × Int} (h : PyData.strOk p.1 = true) : (dwD p).canLay0 = true := by
  show (PyData.strOk p.1 && (true && true)) = true
  rw [h]
  rfl
theorem lay_row : ∀ {r : List (Str × Int)}, LayR r → PyData.canLayAll0 (r.map dwD) = true
  | [], _ => rfl
  | x :: r, h => by
    show ((dwD x).canLay0 && PyData.canLayAll0 (r.map dwD)) = true
    rw [lay_dw (h x List.mem_cons_self), lay_row fun y hy => h y (List.mem_cons_of_mem _ hy)]
    rfl
theorem depth_dw (p : Str × Int) : (dwD p).depth = 1 := rfl
theorem any_dw (q : Str × Int) : ∀ r : List (Str × Int), ((r.map dwD).any fun z => PyData.eqv z (dwD q)) = decide (q ∈ r)
  | [] => rfl
  | x :: r => by
    rw [List.map_cons, List.any_cons, any_dw q r, dw_eqv, Bool.eq_iff_iff, Bool.or_eq_true, decide_eq_true_iff, decide_eq_true_iff, decide_eq_true_iff, List.mem_cons]
    exact or_congr ⟨fun e => e.symm, fun e => e.symm⟩ Iff.rfl
section
variable {X : Cx}
/-- what stands behind such a tuple -/
theorem row_reads {pins : List (Addr × Obj)} {σ : L2.St} {H : Hp} {s : Shared} {a : Addr} {r : List (Str × Int)} (I : Inv X pins σ H s) (h : Dt X.K H (.ref a) (rowD r)) :
    ∃ (its : List Value) (as : List Addr), s.heap.IsTuple a its.toArray ∧ ReadsAll s.heap its (r.map dwD) as ∧ its.length = r.length := by
  cases h with
  | tup hs hd =>
    obtain ⟨its, rv, ⟨o, ho, hc, n, hdd⟩, _⟩ := I.tuple hs
    obtain ⟨as, ra⟩ := Dp.readsAll I (r.map dwD) _ its (dt_dpAll hd) rv
    have e := SeqAt.ReadsAll.length (r.map dwD) its as ra
    rw [List.length_map] at e
    exact ⟨its, as, ⟨o, ho, hc, n, hdd⟩, ra, e⟩
def rInRow (K : PySem.W.Frag) (neg : Bool) : R2 := fun x y H Q => ∃ (q : Str × Int) (a : Addr) (r : List (Str × Int)), y = .ref a ∧ Dt K H x (dwD q) ∧ Dt K H (.ref a) (rowD r) ∧ PyData.strOk q.1 = true ∧ LayR r ∧ Q (.bl (if neg then !decide (q ∈ r) else decide (q ∈ r))) H
theorem items_row {pins : List (Addr × Obj)} {σ : L2.St} {H : Hp} {s : Shared} {x : V} {v : Value} {q : Str × Int} {r : List (Str × Int)} {its : List Value} {as : List Addr} {A : Around} (hu : A.units + 65 < cLine) (I : Inv X pins σ H s) (rx : RelV x v) (hx : Dt X.K H x (dwD q)) (ra : ReadsAll s.heap its (r.map dwD) as)
    (hq : PyData.strOk q.1 = true) (hr : LayR r) : ∀ y, y ∈ its.toArray → SeqAt.EqAt A.in1 s y v (PyData.eqv (SeqAt.readOf s.heap y) (dwD q)) := by
  obtain ⟨bs, rb⟩ := Dp.reads I (dwD q) x v (dt_dp hx) rx
  refine SeqAt.items_eqAt (vs := its.toArray) ra rb (lay_row hr) (lay_dw hq) ?_
  have : min (PyData.depthAll (r.map dwD)) (dwD q).depth ≤ 1 := Nat.min_le_right _ _
  omega
theorem op_inRow (hu : X.A.units + 65 < cLine) : OpR X (compareOp .In) (rInRow X.K false) := by
  intro pins s σ H x y v u Q I rx ry ⟨q, a, r, ey, hx, hy, lq, lr, k⟩
  subst ey
  cases ry
  obtain ⟨its, as, tp, ra, le⟩ := row_reads I hy
  refine SeqAt.in_tupleAt (fun z => PyData.eqv (SeqAt.readOf s.heap z) (dwD q)) tp (items_row hu I rx hx ra lq lr) ⟨.bl _, H, I, rfl, ?_⟩
  rw [show its.toArray.any (fun z => PyData.eqv (SeqAt.readOf s.heap z) (dwD q)) = decide (q ∈ r) by
    rw [← any_dw, ← SeqAt.readsAll_map (r.map dwD) its as (lay_row lr) ra]
    simp
    rfl]
  exact k
theorem op_notInRow (hu : X.A.units + 65 < cLine) : OpR X (compareOp .NotIn) (rInRow X.K true) := by
  intro pins s σ H x y v u Q I rx ry ⟨q, a, r, ey, hx, hy, lq, lr, k⟩
  subst ey
  cases ry
  obtain ⟨its, as, tp, ra, le⟩ := row_reads I hy
  refine SeqAt.notIn_tupleAt (fun z => PyData.eqv (SeqAt.readOf s.heap z) (dwD q)) tp (items_row hu I rx hx ra lq lr) ⟨.bl _, H, I, rfl, ?_⟩
  rw [show its.toArray.any (fun z => PyData.eqv (SeqAt.readOf s.heap z) (dwD q)) = decide (q ∈ r) by
    rw [← any_dw, ← SeqAt.readsAll_map (r.map dwD) its as (lay_row lr) ra]
    simp
    rfl]
  exact k
/-- row.index((name, direction)), there -/
def rIxRow (K : PySem.W.Frag) : V → List V → Hp → VK → Prop := fun x xs H Q => ∃ (q : Str × Int) (y : V) (a : Addr) (r : List (Str × Int)), x = .ref a ∧ xs = [y] ∧ Dt K H y (dwD q) ∧ Dt K H (.ref a) (rowD r) ∧ PyData.strOk q.1 = true ∧ LayR r ∧ q ∈ r ∧ Q (.int (@List.idxOf _ instBEqOfDecidableEq q r : Nat)) H
theorem mt_ixRow (hu : X.A.units + 65 < cLine) : MtR X "tuple.index" (rIxRow X.K) := by
  intro pins s σ H x xs v us Q I rx rxs ⟨q, y, a, r, ex, exs, hy, hr, lq, lr, hm, k⟩
  subst ex exs
  cases rx
  obtain ⟨u, rfl, ry⟩ := vals1 rxs
  obtain ⟨its, as, tp, ra, le⟩ := row_reads I hr
  have eqs := items_row (A := X.A) hu I ry hy ra lq lr
  have mp := SeqAt.readsAll_map (r.map dwD) its as (lay_row lr) ra
  refine PySem.SeqAt.call_tuple_index (ks := r) (k := q) tp ⟨le, fun j h1 h2 => ?_⟩ hm ⟨.int _, H, I.tok _, ⟨_, rfl⟩, k⟩
  have e1 := eqs its[j] (by simp)
  have e2 : SeqAt.readOf s.heap its[j] = dwD r[j] := by
    have : (its.map (SeqAt.readOf s.heap))[j]? = (r.map dwD)[j]? := by rw [mp]
    rw [List.getElem?_map, List.getElem?_map, List.getElem?_eq_getElem h1, List.getElem?_eq_getElem h2] at this
    exact Option.some.inj this
  rw [e2, dw_eqv] at e1
  exact e1
end
end My
set_option Elab.async false
set_option linter.all false
set_option maxRecDepth 100000
set_option maxHeartbeats 4000000
/-! min of a list of texts -/
namespace My
open PySem PySem.Spec PyProof.Rows L2
/-- the first of the least of y :: t -/
abbrev minS (y : Str) (t : List Str) : Str := PySem.W.minOf y t
def ltS (a b : Str) : Bool := decide (a.cps.toList < b.cps.toList)
theorem minS_mem : ∀ (t : List Str) (y : Str), minS y t ∈ y :: t
  | [], y => List.mem_cons_self
  | z :: t, y => by
    have ih := minS_mem t (if ltS z y = true then z else y)
    show minS (if ltS z y = true then z else y) t ∈ _
    rcases List.mem_cons.mp ih with e | e
    · rw [e]
      split
      · exact List.mem_cons_of_mem _ List.mem_cons_self
      · exact List.mem_cons_self
    · exact List.mem_cons_of_mem _ (List.mem_cons_of_mem _ e)
theorem ltS_le {a b c : Str} (h1 : ltS a b = true) (h2 : ltS c b = false) : ltS c a = false := by
  unfold ltS at *
  have h1 := of_decide_eq_true h1
  have h2 := of_decide_eq_false h2
  exact decide_eq_false fun z => h2 (List.lt_trans z h1)
theorem minS_le : ∀ (t : List Str) (y : Str), ∀ x ∈ y :: t, ltS x (minS y t) = false
  | [], y, x, hx => by
    rw [List.mem_singleton.mp hx]
    exact decide_eq_false (List.lt_irrefl _)
  | z :: t, y, x, hx => by
    have ih := minS_le t (if ltS z y = true then z else y)
    show ltS x (minS (if ltS z y = true then z else y) t) = false
    cases hz : ltS z y with
    | true =>
      rw [if_pos rfl]
      rw [hz, if_pos rfl] at ih
      rcases List.mem_cons.mp hx with rfl | hx
      · have hm := ih z List.mem_cons_self
        unfold ltS at *
        have hz := of_decide_eq_true hz
        have hm := of_decide_eq_false hm
        exact decide_eq_false fun q => hm (List.lt_trans hz q)
      · exact ih x hx
    | false =>
      rw [if_neg Bool.false_ne_true]
      rw [hz, if_neg Bool.false_ne_true] at ih
      rcases List.mem_cons.mp hx with rfl | hx
      · exact ih x List.mem_cons_self
      · rcases List.mem_cons.mp hx with rfl | hx
        · have hm := ih y List.mem_cons_self
          unfold ltS at *
          have hz := of_decide_eq_false hz
          have hm := of_decide_eq_false hm
          exact decide_eq_false (List.not_lt.mpr (List.le_trans (List.not_lt.mp hm) (List.not_lt.mp hz)))
        · exact ih x (List.mem_cons_of_mem _ hx)
section
variable {X : Cx}
theorem reads_strs {h : Heap} : ∀ {ys : List Str} {its : List Value}, Vals (ys.map V.str) its → ∃ as, ReadsAll h its (ys.map PyData.str) as
  | [], _, r => by cases r; exact ⟨_, .nil⟩
  | y :: ys, _, r => by
    cases r with
    | cons r1 r2 =>
      obtain ⟨t, rfl⟩ := r1
      obtain ⟨as, h2⟩ := reads_strs (h := h) r2
      exact ⟨_, .cons (.str y t) h2⟩
theorem call_minS (hc : X.calm = true) (hu : X.A.units + 65 < cLine) : CallR X (.builtin "min") (fun xs H Q => ∃ (p : Addr) (y : Str) (t : List Str), xs = [.ref p] ∧ SqL X.K H p ((y :: t).map V.str) ∧ Q (.str (minS y t)) H) := by
  intro pins s σ H xs us Q I r ⟨p, y, t, ex, hs, q⟩
  subst ex
  obtain ⟨u, rfl, r1⟩ := vals1 r
  cases r1
  obtain ⟨its, rv, ⟨o, n, ho, hcl, _, hd⟩, hz⟩ := I.list hs
  obtain ⟨as, ra⟩ := reads_strs (h := s.heap) rv
  refine PySem.W.min_list_datum (α := Str) (x := y) (xs := t) (I.ok.hd hc) ⟨o, ho, hcl, n, hd⟩ ⟨as, ra⟩ (by show X.A.units + 1 + 0 < cLine; omega) fun i v h' tk hi hv k => ?_
  obtain ⟨bs, rd⟩ := hv
  have rd : Reads h' v (.str (minS y t)) bs := rd
  cases rd with
  | str _ tt => exact ⟨.str _, H, I.kept k, ⟨_, rfl⟩, q⟩
end
end My
set_option Elab.async false
set_option linter.all false
set_option maxRecDepth 100000
set_option maxHeartbeats 4000000
/-! super().__init__(..) as the first statement of an own class's __init__ -/
namespace My
open PySem PySem.Spec PyProof.Rows L2 NdefX
section
variable {P : Program} {w : World} {K : PySem.W.Frag} {mg : Str → Option Value} {base : Heap}
/-- what the top has written of such an __init__, at f, of the class at C, whose next __init__ stands at g -/
structure SupFn (P : Program) (K : PySem.W.Frag) (mg : Str → Option Value) (F : NF) (ps : List Str) (f C g cc : Addr) (fd : FuncData) : Prop where
  ex : ∃ (oc kV doc pm ct : Value) (od an : Option Addr) (osl : Array (Option Value)), fd = PySem.W.fnX F.name F.qual F.params F.body F.scope F.cl .none kV doc pm an (.ref F.c) ct ∧ K.lookup f = some ⟨oc, od, .func fd, osl⟩
  cl : F.cl = [(("__class__" : Str), cc)]
  code : PySem.W.codeIn K (.ref F.c) F.qual = true
  rcd : ∃ (ccl : Value) (cdd : Option Addr) (vs : Array Value) (ccs : Array (Option Value)) (file : Str) (tf : Tok), K.lookup F.c = some ⟨ccl, cdd, .fields vs, ccs⟩ ∧ vs[2]? = some (.str file tf) ∧ ((P.main.file : Str) == file) = true
  par : ∃ ar, (F.params.posonlyargs ++ F.params.args).head? = some ar ∧ ps[0]? = some ar.arg
  sup : F.scope.names.lookup ("super" : Str) = some .globalImplicit
  cell : ∃ (cl : Value) (cld : Option Addr) (csl : Array (Option Value)), K.lookup cc = some ⟨cl, cld, .cell (some (.ref C)), csl⟩
  cls : ∃ cd, PySem.W.clsIn K C = some cd
  sub : PySem.W.mroIn K C (.ref C) = some true
  nxt : PySem.W.ks_superIn K C C "__init__" = some (some (.ref g))
  fn : PySem.W.fnIn K g = true
  ty : PySem.W.typeIn K (.ref g) = some (.type "function")
  any : PySem.W.nsIn K cStatics "thirdparty.any" = some none
  free : mg "super" = none
  top : (P.main.scope.names.lookup ("super" : Str)).isSome = false
theorem cells_sup {F : NF} {ps : List Str} {f C g cc : Addr} {fd : FuncData} {A : Around} {stk : List Env} {s : Shared} {H : Hp} (T : SupFn P K mg F ps f C g cc fd) (e0 : Env0 P w K mg base A stk s H) : CellsAt F.cl [("__class__" : Str)] [none] s.heap H := by
  obtain ⟨cl, cld, csl, hk⟩ := T.cell
  have hb := e0.mod.kin _ _ hk
  have hs := e0.bs _ _ hb
  have one : ∀ (y : Str) (c : Addr), F.cl.lookup y = some c → y = ("__class__" : Str) ∧ c = cc := fun y c e => by
    rw [T.cl] at e
    by_cases h : y = ("__class__" : Str)
    · subst h
      exact ⟨rfl, (Option.some.inj e).symm⟩
    · have : ([(("__class__" : Str), cc)] : List (Str × Addr)).lookup y = none := by
        simp only [List.lookup]
        split
        · rename_i z
          exact absurd (eq_of_beq z) h
        · rfl
      rw [this] at e
      cases e
  refine ⟨rfl, fun y c e => ?_, fun x y c e1 e2 => (one x c e1).1.trans (one y c e2).1.symm, fun i y e => ?_⟩
  · rw [(one y c e).2]
    exact ⟨hs.2, _, _, hs.1, rfl⟩
  · have : i = 0 := by
      have := (List.getElem?_eq_some_iff.mp e).1
      simp at this
      exact this
    subst this
    cases e
    refine ⟨cc, by rw [T.cl]; rfl, fun v z => ?_⟩
    cases z
/-- a def whose body begins super().__init__(e) -/
theorem fn_super {F : NF} {N ps : List Str} {f C g cc : Addr} {fd gd : FuncData} {gps : List Str} {k : Nat} {sp spI : Sp} {e : Expr} {rest : List Stmt} {p0 p1 p2 p3 p4 : Pos} (T : SupFn P K mg F ps f C g cc fd) (S : NScope N ps [("__class__" : Str)] F.scope)
    (hb : F.body = .Expr (.Call (.Attribute (.Call (.Name "super" p0) [] [] p1) "__init__" p2) [e] [] p3) p4 :: rest) (GI : FnOk P w K mg base CX0 k g gd gps spI) (bI : Binds K gd gps []) (len : ∀ vs H Q E, sp vs H Q E → vs.length = ps.length)
    (hbody : ∀ (A : Around) (stk : List Env) (s : Shared) (H : Hp) (vs : List V) (Q : VK) (E : XK), Room k (A.deeper (envF F f s.heap.objs.size)) → sp vs H Q E →
      ∃ ta t, PA (ncx CX0 P w K mg base N F f A stk s H E).nox [e] ta ∧ PSs (ncx CX0 P w K mg base N F f A stk s H E).nox rest t ∧ ∃ x dx fs, vs[0]? = some (.ref x) ∧ H x = some (.ins C dx fs) ∧
        ta (startF N vs [none]) H fun ws H1 => spI (.ref x :: ws) H1 (fun _ H2 => t { nx := fun _ H' => Q .non H', rt := Q } (startF N vs [none]) H2) E0)
    (he : ∀ env : Env, starEach [e] env = (false, eval e env) :: starEach [] env)
    (hcall : ∀ env : Env, ∃ pl : Sem Bool, eval (.Call (.Attribute (.Call (.Name "super" p0) [] [] p1) "__init__" p2) [e] [] p3) env = (do
      let ov ← attributeBase (.Call (.Name "super" p0) [] [] p1) "__init__" env (eval (.Call (.Name "super" p0) [] [] p1) env)
      standAt p2.atName
      let (f, first) ← holding [ov] (getMethod ov "__init__" pl)
      callWith p3 f first (backTo p3 (starEach [e] env)) [])) : FnOk P w K mg base CX0 (k + 1) f fd ps sp := by
  obtain ⟨oc, kV, doc, pm, ct, od, an, osl, rfl, lk⟩ := T.ex
  refine ⟨len, fun A stk s H a us vs Q E hr e0 hbind rv hsp => ?_⟩
  have hl := len _ _ _ _ hsp
  have keep : ∀ b o, base.get? b = some o → s.heap.get? b = some o := fun b o z => (e0.bs b o z).1
  have KX : K.In s.heap := e0.mod.kin.keeps keep
  have lim : s.heap.NoLimit := e0.mod.nolimit.keeps keep
  refine codeAny_call_function hr.depth (KX _ _ lk) rfl S.co S.gen rfl (PySem.W.codeRec_of KX T.code) (hbind _ _ _ _ (wpAny_newFunctionEnv S.nocell (fun ⟨n, _⟩ hy => S.par n (List.of_mem_zip hy).1) (fun h1 hns hsb => ⟨lim.fresh _ hsb, ?_⟩) S.kind))
  have kp : ∀ b o, s.heap.get? b = some o → h1.get? b = some o := fun b o z => hsb.extBut b o (Nat.ne_of_lt (Heap.lt_size z)) (Heap.get?_push_of_some _ z)
  have C0 := cells_sup T e0
  obtain ⟨ta, t, hta, ht, x, dx, fs, hv0, hx, hq⟩ := hbody A stk s H vs Q E (hr.deeper _) hsp
  have I := (inv_startN (f := f) (CX := CX0) (E := E) (tk := s.toks + (ps.zip us).length) S hr.hd e0 hl rv C0 hns kp).wish fun _ _ => False
  show codeAny _ _ (.func F.body (envF F f s.heap.objs.size)) _ _
  refine PySem.ks_codeAny_funcAt (PySem.ks_wpAt_mono (E := fun _ _ => False) ?_ (fun _ _ z => z) fun _ _ z => z.elim)
  rw [hb]
  have KX1 : K.In h1 := KX.keeps kp
  obtain ⟨ccl, cdd, vs0, ccs, file, tf, hcode, hvs, hfile⟩ := T.rcd
  obtain ⟨ar, hp, hp0⟩ := T.par
  obtain ⟨cl, cld, csl, hcell⟩ := T.cell
  obtain ⟨cd, hC⟩ := T.cls
  obtain ⟨mb, hbl, hboot⟩ := e0.mod.blt
  obtain ⟨mA, ob, _⟩ := ins_get I.hok hx
  obtain ⟨odx, Ix, _⟩ := ob.look
  obtain ⟨oC, hC1, hC2⟩ : ∃ oC, h1.get? C = some oC ∧ oC.data = .cls cd := by
    unfold PySem.W.clsIn at hC
    split at hC
    · rename_i z1 z2 z3 z4 z5
      cases hC
      exact ⟨_, KX1 _ _ z5, rfl⟩
    · cases hC
  have hself : ∃ u, us[0]? = some u ∧ u = .ref x := by
    obtain ⟨u, hu, ru⟩ := rv.get hv0
    exact ⟨u, hu, ru⟩
  obtain ⟨u0, hu0, rfl⟩ := hself
  obtain ⟨pl, hpl⟩ := hcall (envF F f s.heap.objs.size)
  refine PySem.ks_wpAt_execs_cons (PySem.ks_wpAt_Expr_any (hi := by unfold interactive; rw [S.kind]; rfl) (PySem.ks_wpAt_MethodCall (pl := pl) (he := hpl) (PySem.ks_wpAt_super_base T.sup (S.frk _ List.mem_cons_self) (by decide) rfl (KX1 _ _ lk) rfl hp rfl (KX1 _ _ hcode) rfl hvs hfile T.top ?_)))
  refine PySem.W.ks_loadName_global S.kind T.sup (PySem.Calls.loadGlobal_builtin (e0.mod.glob.keeps fun b o z => kp _ _ (keep b o z)) T.free (hbl.keeps fun b o z => kp _ _ (keep b o z)) ((hboot _ (by decide +kernel)).trans (by decide +kernel : bootBuiltins "super" = some (.type "super"))) ⟨rfl, ?_⟩)
  refine wpAny_loadName_free S.kind (S.frk _ List.mem_cons_self) (by show F.cl.lookup _ = some cc; rw [T.cl]; rfl) ⟨_, KX1 _ _ hcell, rfl⟩ ?_
  have ndP : ps.Nodup := by
    have q0 := S.nd.sublist (List.take_sublist (ps.length + [("__class__" : Str)].length) N)
    rw [S.pre] at q0
    exact (List.nodup_append.mp q0).1
  refine wpAny_loadName_local S.kind (S.par _ (List.mem_of_getElem? hp0)) hns (zip_look ndP hp0 hu0) ?_
  refine PySem.ks_wpAny_isType_cls hC1 hC2 ⟨rfl, ?_⟩
  refine PySem.ks_wpAny_call_super hC1 hC2 Ix.at_ Ix.cls (fun c z => ?_) (PySem.W.looks_mroIn KX1 T.sub) (fun h2 e2 k2 => ?_)
  · have no := Ix.no
    unfold PySem.W.notCls at no
    rw [z] at no
    exact Bool.noConfusion no
  have KX2 : K.In h2 := KX1.keeps k2
  obtain ⟨of, hof, hofc⟩ : ∃ of, h2.get? g = some of ∧ of.cls = .type "function" := by
    have ty : (K.lookup g).map (·.cls) = some (.type "function") := T.ty
    cases z : K.lookup g with
    | none => rw [z] at ty; cases ty
    | some o => rw [z] at ty; exact ⟨o, KX2 _ _ z, Option.some.inj ty⟩
  have nxt := T.nxt
  unfold PySem.W.ks_superIn at nxt
  rw [hC] at nxt
  refine PySem.ks_wpAny_getMethod_super e2 (PySem.W.looks_opaque KX2 T.any) (l₀ := cd.mro) (fun A Q E s k q => wpAny_bind ((PySem.W.looks_clsIn KX2 hC) A _ E s k (wpAny_pure q))) rfl KX2 nxt hof hofc (PySem.W.ks_ne KX1 Ix hC) (by decide) ?_
  have I1 := I.kept (h' := h2) (t' := s.toks + (ps.zip us).length) k2
  have I2 := ClX.met_new (g := g) (C := x) I1
  refine ClX.callwith_cm I2 (ClX.base_none I1 (Nat.le_refl _)) T.fn (thn (hta.run p3 _ _ _ _ _ I2 hq) fun vs1 s3 ⟨ws, H1, I3, rv1, q3⟩ => ⟨⟨ClX.pin_at I3, I3.kIn⟩, thn (ClX.run_cm (Q := fun _ H2 => t { nx := fun _ H' => Q .non H', rt := Q } (startF N vs [none]) H2) (GI.raw bI .nil) (hr.deeper _) pass0 I3 rv1 (by rw [List.append_nil]; exact q3)) fun u s4 z4 => ?_⟩) (he _) rfl
  obtain ⟨v4, H2, I4, r4, q4⟩ := z4
  refine wpAt_of_any ?_
  refine wpAny_mono (ht.run [] s4 _ H2 _ I4 q4) (fun fl s5 hs => ?_) fun _ _ z => z
  have fin : ∀ {σ' : L2.St} {H' : Hp} {v : V} {u : Value}, Inv (ncx CX0 P w K mg base N F f A stk s H E).nox [] σ' H' s5 → L2.RelV v u → Q v H' → CE stk P w H s Q u s5 :=
    fun {σ' H' v u} J rr qq => ⟨v, H', J.os, J.bare, J.base, J.hok, rr, qq⟩
  cases fl with
  | ret u =>
    obtain ⟨v, σ', H', J, rr, qq⟩ := hs
    exact fin J rr qq
  | next =>
    obtain ⟨σ', H', J, qq⟩ := hs
    exact fin (v := V.non) (u := Value.none) J rfl qq
  | brk =>
    obtain ⟨_, _, _, qq⟩ := hs
    exact qq.elim
  | cont =>
    obtain ⟨_, _, _, qq⟩ := hs
    exact qq.elim
end
end My
set_option Elab.async false
set_option linter.all false
set_option maxRecDepth 100000
set_option maxHeartbeats 4000000
/-! comprehensions with a pair as target, no test -/
namespace My
open PySem PySem.Spec PyProof.Rows L2
abbrev gPair (K : PySem.W.Frag) (i j : Nat) : TG := gTup K 2 (gCons (gName i) (gCons (gName j) gNil))
section
variable {K : PySem.W.Frag} {te : TE} {vs : List Nat} {σ : L2.St} {H1 : Hp} {D : Addr} {Qd : Hp → Prop} {i1 i2 : Nat}
def lcP_tup {a : Addr} {xs : List V} (Pv : Nat → Hp → Prop) (h0 : Pv 0 (upd H1 D (.lst []))) (hl : ∀ i H, i ≤ xs.length → Pv i H → SqT K H a xs)
    (hs : ∀ i v H, xs[i]? = some v → Pv i H → ∃ b x y, v = .ref b ∧ SqT K H b [x, y] ∧ wipe (((wipe σ vs).set i1 (some x)).set i2 (some y)) vs = wipe σ vs ∧ Grows te D (Pv (i + 1)) (((wipe σ vs).set i1 (some x)).set i2 (some y)) H) (hd : ∀ H, Pv xs.length H → Qd H) :=
  lc_tup (K := K) (a := a) (xs := xs) (g := gPair K i1 i2) (tt := tYes) (te := te) (vs := vs) (σ := σ) (H1 := H1) (D := D) (Qd := Qd) Pv h0 hl (fun i v H hi p => by
    obtain ⟨b, x, y, rfl, hb, h1, h2⟩ := hs i v H hi p
    exact ⟨b, [x, y], rfl, hb, rfl, x, [y], rfl, y, [], rfl, rfl, yes_turn h1 h2⟩) hd
end
end My
set_option Elab.async false
set_option linter.all false
set_option maxRecDepth 100000
set_option maxHeartbeats 4000000
/-! new tuples that are known to bear no dict, and their methods -/
namespace My
open PySem PySem.Spec PyProof.Rows L2
def BareT (H : Hp) (a : Addr) : Prop := ∃ ob xs, H a = some (.frz ob (.tup xs)) ∧ ob.dict = none
theorem BareT.keep {H H' : Hp} {a : Addr} (h : BareT H a) (s : Same H H') : BareT H' a := let ⟨ob, xs, e, d⟩ := h; ⟨ob, xs, s _ _ e, d⟩
theorem BareT.keepP {H H' : Hp} {p c a : Addr} {n : Nat} (h : BareT H a) (s : SameP p H H') (G : PenAt H p c n) : BareT H' a := let ⟨ob, xs, e, d⟩ := h; ⟨ob, xs, s _ _ (sameP_ne G e fun _ z => nomatch z) e, d⟩
section
variable {X : Cx}
/-- tuple(list): a new tuple -/
theorem call_tupleF : CallR X (.type "tuple") (fun xs H Q => ∃ p ys, xs = [.ref p] ∧ SqL X.K H p ys ∧ ∀ l ob, H l = none → ob.dict = none → Q (.ref l) (upd H l (.frz ob (.tup ys)))) := by
  intro pins s σ H xs us Q I rv ⟨p, ys, ex, hl, q⟩
  subst ex
  obtain ⟨u, rfl, r1⟩ := vals1 rv
  cases r1
  obtain ⟨its, rr, pl, hz⟩ := I.list hl
  have ll := rr.length
  refine call_tuple_list pl.isList (fun h1 kp => ?_) (by simp only [List.size_toArray]; omega)
  have I1 : Inv X pins σ H { s with heap := h1 } := I.kept (t' := s.toks) kp
  have nw := IsTup.new h1 its.toArray
  have I2 : Inv X pins σ (upd H h1.objs.size (.frz { cls := .type "tuple", data := .seq its.toArray } (.tup ys))) { s with heap := h1.push { cls := .type "tuple", data := .seq its.toArray } } :=
    I1.laid (t' := s.toks) (fun _ _ e => Heap.get?_push_of_some _ e) (Nat.le_refl _) ⟨Heap.get?_push_size _ rfl, hz, its, rr, nw⟩
  exact ⟨.ref h1.objs.size, _, I2, rfl, q _ _ (I1.hok.fresh (Nat.le_refl _)) rfl⟩
def tTM (r : V → List V → Hp → VK → Prop) (to : TE) (t : TA) : TE := fun σ H Q => to σ H fun x H1 => (∃ a, x = .ref a ∧ BareT H1 a) ∧ t σ H1 fun xs H2 => r x xs H2 Q
/-- t.m(e), t such a tuple -/
theorem pe_tm {o e : Expr} {es : List Expr} {to : TE} {t : TA} {name : Str} {apos cpos : Pos} {id : String} {r : V → List V → Hp → VK → Prop} (slot : Slot "tuple" name id) (hty : typeOf (.builtin id) = pure (.type "method_descriptor")) (hm : MtR X id r) (ho : PE X o to) (ha : PA X (e :: es) t)
    (hbase : attributeBase o name X.env (eval o X.env) = eval o X.env := by rfl)
    (hfew : ((backTo cpos (starEach (e :: es) X.env)).all (fun x => !x.1) && (backToKw cpos (keywordEach [] X.env)).all (fun x => x.1.isSome) &&
      decide ((e :: es).length + ([] : List Keyword).length + (if ([] : List Keyword).isEmpty then 0 else 1) < 30)) = true := by rfl)
    (hline : (apos.endLine == cpos.line) = true := by rfl) (hs : starEach (e :: es) X.env = (false, eval e X.env) :: starEach es X.env := by rfl) (hplain : (backTo cpos (starEach es X.env)).any (·.1) = false := by rfl) :
    PE X (.Call (.Attribute o name apos) (e :: es) [] cpos) (tTM r to t) := by
  constructor
  intro pins s σ H Q I h
  refine wpAny_Call_method_late hbase hfew hline rfl (thn (ho.run pins s σ H _ I h) fun v s1 ⟨x, H1, I1, r1, ty, q1⟩ => ?_)
  obtain ⟨a, rfl, ob, ys, ea, hdn⟩ := ty
  cases r1
  obtain ⟨g1, _, its, _, o2, g2, hc2, _⟩ := I1.hok a _ ea
  rw [g1] at g2
  cases g2
  refine ⟨"tuple", id, PySem.F.plainAttrs_tuple, slot, hty, ⟨ob, g1, hc2⟩, fun b e => ?_, ?_⟩
  · cases e
    exact ⟨ob, g1, hdn⟩
  have hA := ha.run cpos pins s1 σ H1 _ I1 q1
  rw [hs] at hA ⊢
  refine Calls.callWith_builtin (by show (false || (backTo cpos (starEach es X.env)).any (·.1)) = false; rw [hplain] <;> rfl) (Calls.evalArgs_plain ?_)
  exact thn hA fun us s2 ⟨ws, H2, I2, r2, q2⟩ => hm pins s2 σ H2 (.ref a) ws (.ref a) us Q I2 rfl r2 q2
end
end My
set_option Elab.async false
set_option linter.all false
set_option maxRecDepth 100000
set_option maxHeartbeats 4000000
namespace My
open PySem PySem.Spec PyProof.Rows L2
section
variable {K : PySem.W.Frag} {p c L o : Addr} {n m : Nat} {H H' : Hp} {x : V} {lo hi : Option Int} {Q : VK} {a b : Addr} {xs ys ls : List V}
/-! ### cuts of tuples -/
theorem cutV_to (k : Nat) : cutV xs none (some (k : Int)) = xs.take k := by
  unfold cutV
  rw [HT.sIx_none, HT.sIx_nat, List.drop_zero, Nat.sub_zero]
  rcases Nat.le_total k xs.length with h | h
  · rw [Nat.min_eq_left h]
  · rw [Nat.min_eq_right h, List.take_of_length_le h, List.take_length]
theorem cutV_from (k : Nat) : cutV xs (some (k : Int)) none = xs.drop k := by
  unfold cutV
  rw [HT.sIx_none, HT.sIx_nat]
  rcases Nat.le_total k xs.length with h | h
  · rw [Nat.min_eq_left h, List.take_of_length_le (by rw [List.length_drop]; exact Nat.le_refl _)]
  · rw [Nat.min_eq_right h, Nat.sub_self, List.take_zero, List.drop_eq_nil_of_le h]
theorem sl_to (ht : SqT K H a xs) (q : ∀ (b : Addr) (H' : Hp), Same H H' → SqT K H' b (cutV xs lo hi) → Q (.ref b) H') : rSlA K (.ref a) lo hi H Q := by
  refine ⟨a, xs, rfl, ht, fun hw => q a H (.refl H) ?_, fun _ b hb => q b _ (same_new hb) (.inl (.inl upd_same))⟩
  have e : cutV xs lo hi = xs := by
    unfold cutV
    rw [hw.1, hw.2, List.drop_zero, Nat.sub_zero, List.take_length]
  rw [e]
  exact ht
theorem cat_to (hx : SqT K H a xs) (hy : SqT K H b ys) (hz : xs.length + ys.length ≤ sizeLine) (q : ∀ (b : Addr) (H' : Hp), Same H H' → SqT K H' b (xs ++ ys) → Q (.ref b) H') : rCatA K (.ref a) (.ref b) H Q := by
  refine ⟨a, b, xs, ys, rfl, rfl, hx, hy, hz, fun e => q b H (.refl H) ?_, fun _ e => q a H (.refl H) ?_, fun _ _ d hd => q d _ (same_new hd) (.inl (.inl upd_same))⟩
  · rw [e]
    exact hy
  · rw [e, List.append_nil]
    exact hx
end
end My
set_option Elab.async false
set_option linter.all false
set_option maxRecDepth 100000
set_option maxHeartbeats 4000000
namespace My
open PySem PySem.Spec PyProof.Rows L2
/-! ### rows -/
def turnR (r : List (Str × Int)) : List (Str × Int) := (r.reverse).map fun x => (x.1, -x.2)
/-- a row of the document: names, each once, directions; few -/
structure RowOk (r : List (Str × Int)) : Prop where
  nm : ∀ x ∈ r, NameOk x.1
  dir : Dirs r
  nd : (r.map (·.1)).Nodup
  few : r.length ≤ 30
theorem fit_row {r : List (Str × Int)} (h : RowOk r) : Fit2 (rowD r) := by
  refine ⟨?_, fun ds e x hx => ?_⟩
  · have := h.few
    show (r.map dwD).length ≤ 100000
    rw [List.length_map]
    omega
  · cases e
    obtain ⟨y, hy, rfl⟩ := List.mem_map.mp hx
    refine ⟨by show 2 ≤ 100000; decide, fun ds e z hz => ?_⟩
    cases e
    rcases List.mem_cons.mp hz with rfl | hz
    · have := (h.nm y hy).2.1
      show y.1.length ≤ 100000
      omega
    · rw [List.mem_singleton.mp hz]
      trivial
theorem nm_ok {x : Str} (h : NameOk x) : nmS x = true := by
  unfold nmS
  rw [Bool.and_eq_true, List.all_eq_true]
  exact ⟨decide_eq_true ⟨h.1, h.2.1⟩, fun c hc => decide_eq_true (h.2.2 c hc)⟩
theorem with_dw {x : Str × Int} (h : NameOk x.1) (d : x.2 = 1 ∨ x.2 = -1) : withD [1, -1] (dwD x) = true := by
  show (nmS x.1 && (true && decide (x.2 ∈ [1, -1]))) = true
  rw [nm_ok h, decide_eq_true (by rcases d with d | d <;> rw [d] <;> decide)]
  rfl
theorem keys_row (r : List (Str × Int)) : (r.map dwD).map fstK = r.map fun x => (Sum.inr x.1 : Key) := by
  rw [List.map_map]
  rfl
theorem is_row {r : List (Str × Int)} (h : RowOk r) : isRowD (rowD r) = true := by
  have e : isRowD (rowD r) = (decide ((r.map dwD).length ≤ 30) && ((r.map dwD).all (withD [1, -1]) && decide (cntK (r.map dwD) = (r.map dwD).length))) := rfl
  have e2 : (r.map dwD).all (withD [1, -1]) = true := List.all_eq_true.mpr fun d hd => by
    obtain ⟨x, hx, rfl⟩ := List.mem_map.mp hd
    exact with_dw (h.nm x hx) (h.dir x hx)
  have e3 : cntK (r.map dwD) = (r.map dwD).length := by
    unfold cntK
    rw [keys_row]
    have z := (len_metK_eq (r.map fun x => (Sum.inr x.1 : Key)) [] List.nodup_nil).mpr (by
      rw [List.nil_append]
      have e4 : (r.map fun x => (Sum.inr x.1 : Key)) = (r.map (·.1)).map Sum.inr := by rw [List.map_map]; rfl
      rw [e4]
      exact nodup_map_on h.nd fun a _ b _ q => Sum.inr.inj q)
    rw [z, List.length_map, List.length_map, List.length_nil, Nat.zero_add]
  rw [e, e2, decide_eq_true e3, decide_eq_true (show (r.map dwD).length ≤ 30 by rw [List.length_map]; exact h.few)]
  rfl
section
variable {K : PySem.W.Frag} {H H' : Hp} {a : Addr} {r : List (Str × Int)}
theorem dt_items : ∀ {xs : List V} {r : List (Str × Int)}, DtAll K H xs (r.map dwD) → ∀ (i : Nat) (v : V), xs[i]? = some v → ∃ b x, r[i]? = some x ∧ v = .ref b ∧ SqT K H b [.str x.1, .int x.2]
  | [], _, _, i, v, e => by simp at e
  | x :: xs, [], h, _, _, _ => by cases h
  | x :: xs, y :: r, h, 0, v, e => by
    cases h with
    | cons h1 h2 =>
      cases e
      cases h1 with
      | tup hs hd =>
        cases hd with
        | cons d1 d2 =>
          cases d1
          cases d2 with
          | cons d3 d4 =>
            cases d3
            cases d4
            exact ⟨_, y, rfl, rfl, hs⟩
  | x :: xs, y :: r, h, i + 1, v, e => by
    cases h with
    | cons h1 h2 => exact dt_items h2 i v e
theorem dtAll_rev : ∀ {xs : List V} {ds : List PyData}, DtAll K H xs ds → DtAll K H xs.reverse ds.reverse
  | _, _, .nil => .nil
  | _, _, .cons a b => by
    rw [List.reverse_cons, List.reverse_cons]
    exact (dtAll_rev b).append (.cons a .nil)
theorem row_at (h : Dt K H (.ref a) (rowD r)) : ∃ xs, SqT K H a xs ∧ xs.length = r.length ∧ DtAll K H xs (r.map dwD) := by
  cases h with
  | tup hs hd =>
    have := hd.length
    rw [List.length_map] at this
    exact ⟨_, hs, this, hd⟩
end
theorem turn_len (r : List (Str × Int)) : (turnR r).length = r.length := by rw [turnR, List.length_map, List.length_reverse]
theorem turn_ok {r : List (Str × Int)} (h : RowOk r) : RowOk (turnR r) := by
  refine ⟨fun x hx => ?_, fun x hx => ?_, ?_, by rw [turn_len]; exact h.few⟩
  · obtain ⟨y, hy, rfl⟩ := List.mem_map.mp hx
    exact h.nm y (List.mem_reverse.mp hy)
  · obtain ⟨y, hy, rfl⟩ := List.mem_map.mp hx
    have := h.dir y (List.mem_reverse.mp hy)
    show -y.2 = 1 ∨ -y.2 = -1
    omega
  · unfold turnR
    rw [List.map_map]
    show (r.reverse.map (·.1)).Nodup
    rw [List.map_reverse]
    exact (List.reverse_perm _).nodup_iff.mpr h.nd
section
variable {P : Program} {w : World} {K : PySem.W.Frag} {mg : Str → Option Value} {base : Heap}
/-- a new row that is made of a row -/
def spRowTo (K : PySem.W.Frag) (f : List (Str × Int) → List (Str × Int)) : Sp := fun vs H Q _ => ∃ (a : Addr) (r : List (Str × Int)), vs = [.ref a] ∧ Dt K H (.ref a) (rowD r) ∧ RowOk r ∧ ∀ (b : Addr) (H' : Hp), Same H H' → Dt K H' (.ref b) (rowD (f r)) → Q (.ref b) H'
def spTurn (K : PySem.W.Frag) : Sp := fun vs H Q _ => ∃ (a : Addr) (r : List (Str × Int)), vs = [.ref a] ∧ Dt K H (.ref a) (rowD r) ∧ RowOk r ∧ ∀ (b : Addr) (H' : Hp), Same H H' → Dt K H' (.ref b) (rowD (turnR r)) → BareT H' b → Q (.ref b) H'
/-- the comprehension [(name, -direction) for name, direction in row[::-1]] grows -/
theorem turn_grows {te : TE} {H Hn : Hp} {Dl : Addr} {xs : List V} {r : List (Str × Int)} (hD : H Dl = none) {i : Nat} {v : V} (hv : xs[i]? = some v) (da : DtAll K H xs (r.reverse.map dwD)) (hn : xs.length ≤ 1000)
    (hp : ∃ cs, Hn Dl = some (.lst cs) ∧ DtAll K Hn cs (((turnR r).take i).map dwD) ∧ Same H Hn) :
    ∃ b nm z, v = .ref b ∧ SqT K Hn b [.str nm, .int z] ∧ ∀ (σ' : L2.St), (∀ R : VK, (∀ t, Hn t = none → R (.ref t) (upd Hn t (.tup [.str nm, .int (-z)]))) → te σ' Hn R) →
      Grows te Dl (fun H' => ∃ cs, H' Dl = some (.lst cs) ∧ DtAll K H' cs (((turnR r).take (i + 1)).map dwD) ∧ Same H H') σ' Hn := by
  obtain ⟨cs, eD, dc, sm⟩ := hp
  obtain ⟨b, x, hx, rfl, hb⟩ := dt_items da i v hv
  have hi := (List.getElem?_eq_some_iff.mp hx).1
  refine ⟨b, x.1, x.2, rfl, sm.keepsT _ _ hb, fun σ' hte => ?_⟩
  unfold Grows
  refine hte _ fun t ht => ?_
  have st := same_new (o := HO.tup [.str x.1, .int (-x.2)]) ht
  have eD2 := st _ _ eD
  have lc : cs.length ≤ 1000 := by
    have l1 := dc.length
    have l2 := da.length
    rw [List.length_map, List.length_take] at l1
    rw [List.length_map] at l2
    omega
  refine ⟨cs, eD2, Evl.sz_lt (Nat.lt_of_le_of_lt lc (by decide)), cs ++ [.ref t], upd_same, ?_, fun c o z => ?_⟩
  · have ti : (turnR r)[i]? = some (x.1, -x.2) := by
      unfold turnR
      rw [List.getElem?_map, hx]
      rfl
    rw [List.take_add_one, ti, List.map_append]
    exact (dt_keepAll (st.keepsT.trans (KeepsT.lst eD2)) dc).append (.cons (.tup (KeepsT.lst eD2 _ _ (.inl (.inl upd_same))) (.two (.str _) (.int _))) .nil)
  · rw [upd_ne (ne_of_none z hD)]
    exact st _ _ (sm _ _ z)
end
end My
set_option Elab.async false
set_option linter.all false
set_option maxRecDepth 100000
set_option maxHeartbeats 4000000
/-! turned -/
namespace My
open PySem PySem.Spec PyProof.Rows L2
section
variable {P : Program} {w : World} {K : PySem.W.Frag} {mg : Str → Option Value} {base : Heap}
theorem ok_turned {f fR : Addr} {fd dR : FuncData} (F : Fun K "turned" "turned" sTurn f fd) (B : Glb mg) (GR : FnOk P w K mg base CX0 4 fR dR ["value"] (spIsRow K)) (gR : mg "is_row" = some (.ref fR)) (kR : PySem.W.keepIn K (.ref fR) = true) (bR : Binds K dR ["value"] []) :
    FnOk P w K mg base CX0 5 f fd ["row"] (spTurn K) := by
  refine F.ok scTurn (fun vs H Q E h => ?_) (fun cdv A outer s H vs Q E hr h => ?_)
  · obtain ⟨a, r, rfl, _⟩ := h
    rfl
  · obtain ⟨a, r, rfl, hd, ok, q⟩ := h
    obtain ⟨xs, hs, hl, da⟩ := row_at hd
    have few := ok.few
    refine ⟨_, pss_cons (ps_if (pt_not (pt_val (pe_call GR hr (by rfl) gR kR bR .nil pass0 (pa_cons (pv 0) pa_nil)))) (pss_one ps_no) pss_nil)
      (pss_one (ps_ret (pe_callTy call_tupleF (by rfl) B.tuple (by decide +kernel) (pa_cons (pe_lc (own := [("name", 1), ("direction", 2)]) (g := gPair K 1 2) (tt := tYes) rfl scTurn.nd (pi_tup (pe_revT (pv 0)))
        (blkOk_by (own := [("name", 1), ("direction", 2)]) (N := ["row", "name", "direction"]) (sc := defScope sTurn) (by decide +kernel))
        (fun _ _ _ _ _ => pg_tup rfl (pgs_cons (pg_name (i := 1) scTurn.nd rfl (Or.inl rfl) (Or.inr rfl)) (pgs_cons (pg_name (i := 2) scTurn.nd rfl (Or.inl rfl) (Or.inr rfl)) pgs_nil)))
        (fun _ _ _ _ _ => pts_nil) (fun _ _ _ _ _ => pe_tup (pa_cons (pv 1) (pa_cons (pe_un un_neg (pv 2)) pa_nil)))) pa_nil)))), ?_⟩
    refine ⟨_, rfl, a, .ref a, rowD r, rfl, dt_da hd, fit_row ok, fun H1 s1 => ⟨_, rfl, ?_⟩⟩
    rw [is_row ok]
    refine iteF ⟨_, rfl, a, xs, rfl, s1.keepsT _ _ hs, fun b hb => ?_⟩
    have s2 := s1.trans (same_new (o := HO.tup xs.reverse) hb)
    have t2 : SqT K (upd H1 b (.tup xs.reverse)) b xs.reverse := .inl (.inl upd_same)
    generalize upd H1 b (.tup xs.reverse) = H2 at s2 t2
    have dr : DtAll K H2 xs.reverse (r.reverse.map dwD) := by
      rw [List.map_reverse]
      exact dtAll_rev (dt_keepAll s2.keepsT da)
    refine ⟨b, rfl, ⟨_, t2⟩, fun Dl hDl => ?_⟩
    refine lcP_tup (K := K) (a := b) (xs := xs.reverse) (fun i Hn => ∃ cs, Hn Dl = some (.lst cs) ∧ DtAll K Hn cs (((turnR r).take i).map dwD) ∧ Same H2 Hn) ⟨[], upd_same, .nil, same_new hDl⟩ (fun i Hn _ hp => ?_) (fun i v Hn hv hp => ?_) (fun Hn hp => ?_)
    · obtain ⟨_, _, _, sm⟩ := hp
      exact sm.keepsT _ _ t2
    · obtain ⟨b2, nm, z, rfl, hb2, gr⟩ := turn_grows hDl hv dr (by rw [List.length_reverse]; omega) hp
      exact ⟨b2, .str nm, .int z, rfl, hb2, rfl, gr _ fun R hR => ⟨_, rfl, _, rfl, z, rfl, by show 2 ≤ sizeLine; decide, fun t ht => hR t ht⟩⟩
    · obtain ⟨cs, eD, dc, sm⟩ := hp
      rw [List.length_reverse, hl, ← turn_len r, List.take_length] at dc
      refine ⟨Dl, cs, rfl, .inl (.inl eD), fun c ob hc hob => ?_⟩
      have sc := same_new (o := HO.frz ob (.tup cs)) hc
      exact q c _ ((s2.trans sm).trans sc) (.tup (.inl (.inr ⟨ob, upd_same⟩)) (dt_keepAll sc.keepsT dc)) ⟨ob, cs, upd_same, hob⟩
end
end My
set_option Elab.async false
set_option linter.all false
set_option maxRecDepth 100000
set_option maxHeartbeats 4000000
/-! sorted(list), a < b, a == b of tuples (of tuples ..) that are alike -/
namespace My
open PySem PySem.Spec PyProof.Rows L2
open PySem.W (Datum DatumOrd EachIs)
section
variable {α : Type} [DecidableEq α] [DatumOrd α]
abbrev leO (a b : α) : Bool := !DatumOrd.lt b a
abbrev sortO (xs : List α) : List α := xs.mergeSort leO
theorem leO_eq : PySem.W.dataLe false (fun b : α => Datum.toD b) = leO := by
  funext a b
  rw [PySem.W.dataLe_eq]
  show (!PySem.W.dataLt (Datum.toD b) (Datum.toD a)) = _
  rw [DatumOrd.lt_eq]
theorem leO_total : PySem.W.TotalLe (leO (α := α)) := by
  rw [← leO_eq]
  exact PySem.W.sortLe_total _ _ _
end
/-- a value that stands for x -/
abbrev Hd1 {α : Type} [DecidableEq α] [Datum α] (K : PySem.W.Frag) (H : Hp) (v : V) (x : α) : Prop := Dt K H v (Datum.toD x)
abbrev HdAll {α : Type} [DecidableEq α] [Datum α] (K : PySem.W.Frag) (H : Hp) (vs : List V) (xs : List α) : Prop := DtAll K H vs (xs.map Datum.toD)
section
variable {X : Cx} {α : Type} [DecidableEq α] [DatumOrd α]
def rSortD (α : Type) [DecidableEq α] [DatumOrd α] (K : PySem.W.Frag) : List V → Hp → VK → Prop := fun xs H Q => ∃ (a : Addr) (vs : List V) (bs : List α), xs = [.ref a] ∧ SqL K H a vs ∧ HdAll K H vs bs ∧ bs.length ≤ 1000 ∧
  ∀ (p : Addr) (ws : List V), H p = none → HdAll K H ws (sortO bs) → Q (.ref p) (upd H p (.lst ws))
theorem each_vals {pins : List (Addr × Obj)} {σ : L2.St} {H : Hp} {s : Shared} (I : Inv X pins σ H s) : ∀ {bs : List α} {vs : List V} {its : List Value}, Vals vs its → HdAll X.K H vs bs →
    EachIs (fun v b => ∃ x, RelV x v ∧ Hd1 X.K H x b) its bs ∧ EachIs (fun v b => ∃ as, Reads s.heap v (Datum.toD b) as) its bs
  | [], _, _, r, h => by
    cases h
    cases r
    exact ⟨.nil, .nil⟩
  | b :: bs, _, _, r, h => by
    cases h with
    | cons h1 h2 =>
      cases r with
      | cons r1 r2 =>
        obtain ⟨e1, e2⟩ := each_vals I r2 h2
        exact ⟨.cons ⟨_, r1, h1⟩ e1, .cons (Dp.reads I _ _ _ (dt_dp h1) r1) e2⟩
theorem vals_each {K : PySem.W.Frag} {H : Hp} : ∀ {bs : List α} {out : List Value}, EachIs (fun v b => ∃ x, RelV x v ∧ Hd1 K H x b) out bs → ∃ ws : List V, Vals ws out ∧ HdAll K H ws bs
  | _, _, .nil => ⟨[], .nil, .nil⟩
  | _, _, .cons h r => by
    obtain ⟨x, rx, hx⟩ := h
    obtain ⟨ws, h1, h2⟩ := vals_each r
    exact ⟨x :: ws, .cons rx h1, .cons hx h2⟩
theorem call_sortD (hs : ∀ b : α, ∃ x r, Datum.toD b = .tuple (x :: r)) (hu : X.A.units + 2 + Datum.depth α < cLine) : CallR X (.builtin "sorted") (rSortD α X.K) := by
  intro pins s σ H xs us Q I rv h
  obtain ⟨a, vs, bs, rfl, hl, hb, few, q⟩ := h
  obtain ⟨its, rr, il, hz⟩ := I.list hl
  rw [Vals.ref1 rv]
  obtain ⟨e1, e2⟩ := each_vals I rr hb
  refine PySem.W.sorted_data (R := fun v b => ∃ x, RelV x v ∧ Hd1 X.K H x b) (enc := fun b : α => Datum.toD b) il.isList e1 e2 (PySem.W.AllAlike.of fun b b' => DatumOrd.alike b b') (PySem.W.Sortable.tuples hs) (by rw [sizeLine_eq]; omega)
    (fun b _ => Nat.lt_of_le_of_lt (Nat.add_le_add_left (Datum.depth_le b) _) hu) fun out hlen ho => ?_
  rw [leO_eq] at ho
  obtain ⟨ws, rw', hw⟩ := vals_each ho
  obtain ⟨ep, he'⟩ := PyProof.Rows.sortedAll_at s.heap its out.toArray
  have hws : ws.length ≤ sizeLine := by
    have := rw'.length
    rw [sizeLine_eq]
    omega
  exact ⟨.ref _, upd H (s.heap.objs.size + 1) (.lst ws), I.laid (t' := s.toks) (fun _ _ => PyProof.Rows.sortedAll_old) (Nat.le_succ _) ⟨hws, out, ep, rw', he'⟩, rfl, q _ _ (I.hok.fresh (Nat.le_succ _)) hw⟩
def rLtD (α : Type) [DecidableEq α] [DatumOrd α] (K : PySem.W.Frag) : R2 := fun x y H Q => ∃ p q : α, Hd1 K H x p ∧ Hd1 K H y q ∧ Q (.bl (DatumOrd.lt p q)) H
theorem op_ltD (hu : X.A.units + Datum.depth α < cLine) : OpR X (compareOp .Lt) (rLtD α X.K) := by
  intro pins s σ H x y v u Q I rx ry ⟨p, q, hp, hq, k⟩
  exact PySem.W.lt_datum (Dp.reads I _ _ _ (dt_dp hp) rx) (Dp.reads I _ _ _ (dt_dp hq) ry) hu ⟨.bl _, H, I, rfl, k⟩
def rEqD (α : Type) [DecidableEq α] [Datum α] (K : PySem.W.Frag) : R2 := fun x y H Q => ∃ p q : α, Hd1 K H x p ∧ Hd1 K H y q ∧ Q (.bl (decide (p = q))) H
theorem op_eqDt (hu : X.A.units + Datum.depth α < cLine) : OpR X (compareOp .Eq) (rEqD α X.K) := by
  intro pins s σ H x y v u Q I rx ry ⟨p, q, hp, hq, k⟩
  exact PySem.W.eq_datum (Dp.reads I _ _ _ (dt_dp hp) rx) (Dp.reads I _ _ _ (dt_dp hq) ry) hu ⟨.bl _, H, I, rfl, k⟩
end
end My
set_option Elab.async false
set_option linter.all false
set_option maxRecDepth 100000
set_option maxHeartbeats 4000000
/-! entry_of, opposite, coupling_of -/
namespace My
open PySem PySem.Spec PyProof.Rows L2
open PySem.W (Datum DatumOrd)
abbrev EndT := Str × Int
abbrev CoupT := EndT × EndT
def entR (x : Str × Int) : EndT := (x.1, if x.2 = 1 then 0 else 1)
def oppE (e : EndT) : EndT := (e.1, 1 - e.2)
def coupE (p q : EndT) : CoupT := if DatumOrd.lt p q = true then (p, q) else (q, p)
section
variable {P : Program} {w : World} {K : PySem.W.Frag} {mg : Str → Option Value} {base : Heap}
/-- of one pair to another -/
def spPair (K : PySem.W.Frag) (g : Str × Int → EndT) : Sp := fun vs H Q _ => ∃ (v : V) (x : Str × Int), vs = [v] ∧ Hd1 K H v x ∧ ∀ (u : V) (H' : Hp), Same H H' → Hd1 K H' u (g x) → Q u H'
theorem dw_at {H : Hp} {v : V} {x : Str × Int} (h : Hd1 K H v x) : ∃ a, v = .ref a ∧ SqT K H a [.str x.1, .int x.2] := by
  have h : Dt K H v (.tuple [.str x.1, .int x.2]) := h
  cases h with
  | tup hs hd =>
    cases hd with
    | cons d1 d2 =>
      cases d1
      cases d2 with
      | cons d3 d4 =>
        cases d3
        cases d4
        exact ⟨_, rfl, hs⟩
theorem dw_new {H : Hp} {t : Addr} (ht : H t = none) (x : Str) (i : Int) : Same H (upd H t (.tup [.str x, .int i])) ∧ Hd1 K (upd H t (.tup [.str x, .int i])) (.ref t) ((x, i) : Str × Int) :=
  ⟨same_new ht, .tup (.inl (.inl upd_same)) (.two (.str _) (.int _))⟩
theorem ok_entry {f : Addr} {fd : FuncData} (F : Fun K "entry_of" "entry_of" sEntry f fd) : FnOk P w K mg base CX0 1 f fd ["wagon"] (spPair K entR) := by
  refine F.ok scEntry (fun vs H Q E h => ?_) (fun cdv A outer s H vs Q E hr h => ?_)
  · obtain ⟨v, x, rfl, _⟩ := h
    rfl
  · obtain ⟨v, x, rfl, hx, q⟩ := h
    obtain ⟨a, rfl, ha⟩ := dw_at hx
    refine ⟨_, pss_cons (ps_asg (pv 0) (pg_tup rfl (pgs_cons (pg_name (i := 1) scEntry.nd rfl (.inl rfl)) (pgs_cons (pg_name (i := 2) scEntry.nd rfl (.inl rfl)) pgs_nil))))
      (pss_one (ps_ret (pe_ifExp (pt_cmpR op_eq (pv 2) pe_int (nomark _)) (pe_tup (pa_cons (pv 1) (pa_cons pe_int pa_nil))) (pe_tup (pa_cons (pv 1) (pa_cons pe_int pa_nil)))))), ?_⟩
    refine ⟨_, rfl, a, _, rfl, ha, rfl, _, _, rfl, _, _, rfl, rfl, ?_⟩
    refine ⟨_, rfl, rfl, _, rfl, ?_⟩
    by_cases h1 : x.2 = 1
    · rw [decide_eq_true (by rw [h1])]
      refine iteT ⟨_, rfl, by show 2 ≤ sizeLine; decide, fun t ht => ?_⟩
      have e : entR x = (x.1, 0) := by unfold entR; rw [if_pos h1]
      exact q _ _ (dw_new (K := K) ht x.1 0).1 (e ▸ (dw_new ht x.1 0).2)
    · rw [decide_eq_false fun z => h1 (V.int.inj z)]
      refine iteF ⟨_, rfl, by show 2 ≤ sizeLine; decide, fun t ht => ?_⟩
      have e : entR x = (x.1, 1) := by unfold entR; rw [if_neg h1]
      exact q _ _ (dw_new (K := K) ht x.1 1).1 (e ▸ (dw_new ht x.1 1).2)
theorem ok_opp {f : Addr} {fd : FuncData} (F : Fun K "opposite" "opposite" sOpp f fd) : FnOk P w K mg base CX0 1 f fd ["end"] (spPair K oppE) := by
  refine F.ok scOpp (fun vs H Q E h => ?_) (fun cdv A outer s H vs Q E hr h => ?_)
  · obtain ⟨v, x, rfl, _⟩ := h
    rfl
  · obtain ⟨v, x, rfl, hx, q⟩ := h
    obtain ⟨a, rfl, ha⟩ := dw_at hx
    refine ⟨_, pss_cons (ps_asg (pv 0) (pg_tup rfl (pgs_cons (pg_name (i := 1) scOpp.nd rfl (.inl rfl)) (pgs_cons (pg_name (i := 2) scOpp.nd rfl (.inl rfl)) pgs_nil))))
      (pss_one (ps_ret (pe_tup (pa_cons (pv 1) (pa_cons (pe_op op_sub pe_int (pv 2)) pa_nil))))), ?_⟩
    refine ⟨_, rfl, a, _, rfl, ha, rfl, _, _, rfl, _, _, rfl, rfl, ?_⟩
    refine ⟨_, rfl, _, rfl, _, _, rfl, rfl, by show 2 ≤ sizeLine; decide, fun t ht => ?_⟩
    exact q _ _ (dw_new (K := K) ht x.1 (1 - x.2)).1 (dw_new ht x.1 (1 - x.2)).2
def spCoup (K : PySem.W.Frag) : Sp := fun vs H Q _ => ∃ (v u : V) (p q : EndT), vs = [v, u] ∧ Hd1 K H v p ∧ Hd1 K H u q ∧ ∀ (z : V) (H' : Hp), Same H H' → Hd1 K H' z (coupE p q) → Q z H'
theorem coup_new {H : Hp} {t : Addr} (ht : H t = none) {v u : V} {p q : EndT} (h1 : Hd1 K H v p) (h2 : Hd1 K H u q) : Same H (upd H t (.tup [v, u])) ∧ Hd1 K (upd H t (.tup [v, u])) (.ref t) ((p, q) : CoupT) :=
  ⟨same_new ht, .tup (.inl (.inl upd_same)) (.two (dt_keep (same_new ht).keepsT h1) (dt_keep (same_new ht).keepsT h2))⟩
theorem ok_coup {f : Addr} {fd : FuncData} (F : Fun K "coupling_of" "coupling_of" sCoup f fd) : FnOk P w K mg base CX0 1 f fd ["one", "other"] (spCoup K) := by
  refine F.ok scCoup (fun vs H Q E h => ?_) (fun cdv A outer s H vs Q E hr h => ?_)
  · obtain ⟨v, u, p, q, rfl, _⟩ := h
    rfl
  · obtain ⟨v, u, p, q, rfl, h1, h2, k⟩ := h
    have hu : (A.deeper (envOfC "coupling_of" (defScope sCoup) s.heap.objs.size f cdv)).units + Datum.depth EndT < cLine := by
      have := hr.units
      show _ + 1 < cLine
      omega
    refine ⟨_, pss_one (ps_ret (pe_ifExp (pt_cmpR (op_ltD (α := EndT) hu) (pv 0) (pv 1) (nomark _)) (pe_tup (pa_cons (pv 0) (pa_cons (pv 1) pa_nil))) (pe_tup (pa_cons (pv 1) (pa_cons (pv 0) pa_nil))))), ?_⟩
    refine ⟨_, rfl, _, rfl, p, q, h1, h2, _, rfl, ?_⟩
    cases hlt : (DatumOrd.lt p q : Bool) with
    | true =>
      refine iteT ⟨_, rfl, _, rfl, by show 2 ≤ sizeLine; decide, fun t ht => ?_⟩
      have e : coupE p q = (p, q) := by unfold coupE; rw [if_pos hlt]
      exact k _ _ (coup_new (K := K) ht h1 h2).1 (e ▸ (coup_new ht h1 h2).2)
    | false =>
      refine iteF ⟨_, rfl, _, rfl, by show 2 ≤ sizeLine; decide, fun t ht => ?_⟩
      have e : coupE p q = (q, p) := by unfold coupE; rw [if_neg (by rw [hlt]; exact Bool.false_ne_true)]
      exact k _ _ (coup_new (K := K) ht h2 h1).1 (e ▸ (coup_new ht h2 h1).2)
end
end My
set_option Elab.async false
set_option linter.all false
set_option maxRecDepth 100000
set_option maxHeartbeats 4000000
/-! [e for x, y in zip(s, t)], s and t tuples -/
namespace My
open PySem PySem.Spec PyProof.Rows L2 RZ
section
variable {K : PySem.W.Frag} {te : TE} {vs : List Nat} {σ : L2.St} {H1 : Hp} {D : Addr} {Qd : Hp → Prop} {i1 i2 : Nat}
theorem lcP_zipT {a b : Addr} {xs ys : List V} (hl : ys.length ≤ xs.length) (Pv : Nat → Hp → Prop) (h0 : Pv 0 (upd H1 D (.lst []))) (hq : ∀ i H, Pv i H → SqT K H a xs ∧ SqT K H b ys)
    (hs : ∀ i x y T H, xs[i]? = some x → ys[i]? = some y → Pv i H → H T = none → wipe (((wipe σ vs).set i1 (some x)).set i2 (some y)) vs = wipe σ vs ∧ Grows te D (Pv (i + 1)) (((wipe σ vs).set i1 (some x)).set i2 (some y)) (upd H T (.tup [x, y]))) (hd : ∀ H, Pv ys.length H → Qd H) :
    ∃ W : Nat → Nat → Hp → Prop, (∃ m, W 0 m (upd H1 D (.lst []))) ∧ ∀ i m H, W i m H →
      ((ItzT K a b).stop i H ∧ Qd H) ∨ ((ItzT K a b).go i H ∧ ∃ Nx : Hp → Prop, (∀ H', Nx H' → ∃ m', m' < m ∧ W (i + 1) m' H') ∧ ∀ x H', (ItzT K a b).yld i H x H' → gPair K i1 i2 x (wipe σ vs) H' fun σ2 H2 => wipe σ2 vs = wipe σ vs ∧ tYes σ2 H2 fun b H3 =>
        if b = true then te σ2 H3 fun y H4 => ∃ acc, H4 D = some (.lst acc) ∧ acc.length < sizeLine ∧ Nx (upd H4 D (.lst (acc ++ [y]))) else Nx H3) := by
  refine ⟨fun i m H => m = ys.length - i ∧ i ≤ ys.length ∧ Pv i H, ⟨ys.length, rfl, Nat.zero_le _, h0⟩, ?_⟩
  rintro i m H ⟨rfl, hi, p⟩
  obtain ⟨qx, qy⟩ := hq i H p
  by_cases hlt : i < ys.length
  · have hy : ys[i]? = some ys[i] := List.getElem?_eq_getElem hlt
    have hlt2 : i < xs.length := by omega
    have hx : xs[i]? = some xs[i] := List.getElem?_eq_getElem hlt2
    refine .inr ⟨⟨xs, ys, _, _, qx, qy, hx, hy⟩, Pv (i + 1), fun H' p' => ⟨ys.length - (i + 1), by omega, rfl, hlt, p'⟩, fun v H' yl => ?_⟩
    obtain ⟨T, x', y', rfl, hT, rfl, f1, f2⟩ := yl
    obtain ⟨h1, h2⟩ := hs i x' y' T H (f1 xs qx) (f2 ys qy) p hT
    exact ⟨T, [x', y'], rfl, .inl (.inl upd_same), rfl, x', [y'], rfl, y', [], rfl, rfl, yes_turn h1 h2⟩
  · have e : i = ys.length := by omega
    subst e
    exact .inl ⟨⟨xs, ys, qx, qy, Or.inr (Nat.le_refl _)⟩, hd H p⟩
end
end My
set_option Elab.async false
set_option linter.all false
set_option maxRecDepth 100000
set_option maxHeartbeats 4000000
/-! row_links -/
namespace My
open PySem PySem.Spec PyProof.Rows L2 RZ
open PySem.W (Datum DatumOrd)
def pairOf (x y : Str × Int) : CoupT := coupE (oppE (entR x)) (entR y)
def linksU (r : List (Str × Int)) : List CoupT := List.zipWith pairOf r (r.drop 1)
def linksR (r : List (Str × Int)) : List CoupT := sortO (linksU r)
theorem linksU_len (r : List (Str × Int)) : (linksU r).length = r.length - 1 := by
  unfold linksU
  rw [List.length_zipWith, List.length_drop]
  omega
section
variable {P : Program} {w : World} {K : PySem.W.Frag} {mg : Str → Option Value} {base : Heap}
def spLinks (K : PySem.W.Frag) : Sp := fun vs H Q _ => ∃ (a : Addr) (r : List (Str × Int)), vs = [.ref a] ∧ Dt K H (.ref a) (rowD r) ∧ r.length ≤ 100 ∧ ∀ (l : Addr) (ws : List V) (H' : Hp), H l = none → H' l = some (.lst ws) → HdAll K H' ws (linksR r) → Same H H' → Q (.ref l) H'
theorem ok_links {f fE fO fC : Addr} {fd dE dO dC : FuncData} (F : Fun K "row_links" "row_links" sLinks f fd) (ms : mg "sorted" = none) (mz : mg "zip" = none) (GE : Has P w K mg base 1 "entry_of" ["wagon"] (spPair K entR) fE dE) (GO : Has P w K mg base 1 "opposite" ["end"] (spPair K oppE) fO dO)
    (GC : Has P w K mg base 1 "coupling_of" ["one", "other"] (spCoup K) fC dC) : FnOk P w K mg base CX0 2 f fd ["row"] (spLinks K) := by
  refine F.ok scLinks (fun vs H Q E h => ?_) (fun cdv A outer s H vs Q E hr h => ?_)
  · obtain ⟨a, r, rfl, _⟩ := h
    rfl
  · obtain ⟨a, r, rfl, hd, few, q⟩ := h
    obtain ⟨xs, hs, hl, da⟩ := row_at hd
    have hu : (A.deeper (envOfC "row_links" (defScope sLinks) s.heap.objs.size f cdv)).units + 2 + Datum.depth CoupT < cLine := by
      have := hr.units
      show _ + 2 + 2 < cLine
      omega
    refine ⟨_, pss_one (ps_ret (pe_callB (call_sortD (α := CoupT) (fun b => ⟨_, _, rfl⟩) hu) (by rfl) ms (by decide +kernel) (pa_cons (pe_lc (own := [("one", 1), ("other", 2)]) (g := gPair K 1 2) (tt := tYes) rfl scLinks.nd
        (pi_zipA (by rfl) mz (pa_cons (pv 0) (pa_cons (pe_slice sl_tupA (pv 0) (po_some pe_int) po_none) pa_nil)))
        (blkOk_by (own := [("one", 1), ("other", 2)]) (N := ["row", "one", "other"]) (sc := defScope sLinks) (by decide +kernel))
        (fun _ _ _ _ _ => pg_tup rfl (pgs_cons (pg_name (i := 1) scLinks.nd rfl (Or.inl rfl) (Or.inr rfl)) (pgs_cons (pg_name (i := 2) scLinks.nd rfl (Or.inl rfl) (Or.inr rfl)) pgs_nil)))
        (fun _ _ _ _ _ => pts_nil)
        (fun _ _ _ _ _ => pe_has GC hr (by rfl) (pa_cons (pe_has GO hr (by rfl) (pa_cons (pe_has GE hr (by rfl) (pa_cons (pv 1) pa_nil)) pa_nil)) (pa_cons (pe_has GE hr (by rfl) (pa_cons (pv 2) pa_nil)) pa_nil)))) pa_nil))), ?_⟩
    refine ⟨_, rfl, _, rfl, _, rfl, ?_⟩
    unfold tNoPart
    dsimp only []
    refine sl_to (lo := some 1) (hi := none) hs fun b H1 s1 t1 => ?_
    rw [show (some (1 : Int)) = some ((1 : Nat) : Int) from rfl, cutV_from] at t1
    refine ⟨a, b, xs, xs.drop 1, rfl, .inr ⟨s1.keepsT _ _ hs, t1, fun Dl hDl => ?_⟩⟩
    have da1 := dt_keepAll s1.keepsT da
    refine lcP_zipT (K := K) (a := a) (b := b) (xs := xs) (ys := xs.drop 1) (by rw [List.length_drop]; omega) (fun i Hn => ∃ cs, Hn Dl = some (.lst cs) ∧ HdAll K Hn cs ((linksU r).take i) ∧ Same H1 Hn) ⟨[], upd_same, .nil, same_new hDl⟩ (fun i Hn hp => ?_) (fun i x y T Hn hx hy hp hT => ?_) (fun Hn hp => ?_)
    · obtain ⟨_, _, _, sm⟩ := hp
      exact ⟨sm.keepsT _ _ (s1.keepsT _ _ hs), sm.keepsT _ _ t1⟩
    · obtain ⟨cs, eD, dc, sm⟩ := hp
      rw [List.getElem?_drop] at hy
      obtain ⟨d1, e1, h1⟩ := da1.at hx
      obtain ⟨d2, e2, h2⟩ := da1.at hy
      rw [List.getElem?_map] at e1 e2
      obtain ⟨r1, er1, rfl⟩ := Option.map_eq_some_iff.mp e1
      obtain ⟨r2, er2, rfl⟩ := Option.map_eq_some_iff.mp e2
      have sT := same_new (o := HO.tup [x, y]) hT
      refine ⟨rfl, ?_⟩
      unfold Grows
      refine ⟨_, rfl, x, r1, rfl, dt_keep (sm.trans sT).keepsT h1, fun u1 H2 s2 k1 => ⟨u1, _, rfl, k1, fun u2 H3 s3 k2 => ⟨_, rfl, y, r2, rfl, dt_keep (((sm.trans sT).trans s2).trans s3).keepsT h2, fun u3 H4 s4 k3 => ⟨u2, u3, _, _, rfl, dt_keep s4.keepsT k2, k3, fun z H5 s5 k5 => ?_⟩⟩⟩⟩
      have st := (((sT.trans s2).trans s3).trans s4).trans s5
      have eD2 := st _ _ eD
      have lc : cs.length ≤ 1000 := by
        have l1 := dc.length
        rw [List.length_map, List.length_take, linksU_len] at l1
        omega
      refine ⟨cs, eD2, Evl.sz_lt (Nat.lt_of_le_of_lt lc (by decide)), cs ++ [z], upd_same, ?_, fun c o hc => ?_⟩
      · have ti : (linksU r)[i]? = some (pairOf r1 r2) := by
          unfold linksU
          rw [List.getElem?_zipWith, List.getElem?_drop, er1, er2]
        show DtAll K _ _ (List.map Datum.toD _)
        rw [List.take_add_one, ti, List.map_append]
        exact (dt_keepAll (st.keepsT.trans (KeepsT.lst eD2)) dc).append (.cons (dt_keep (KeepsT.lst eD2) k5) .nil)
      · rw [upd_ne (ne_of_none hc hDl)]
        exact st _ _ (sm _ _ hc)
    · obtain ⟨cs, eD, dc, sm⟩ := hp
      rw [show (xs.drop 1).length = (linksU r).length by rw [List.length_drop, linksU_len, hl], List.take_length] at dc
      refine ⟨Dl, cs, linksU r, rfl, .inl (.inl eD), dc, by rw [linksU_len]; omega, fun p ws hp hw => ?_⟩
      have sp := same_new (o := HO.lst ws) hp
      exact q p ws _ ((s1.trans sm).free hp) upd_same (dt_keepAll sp.keepsT hw) ((s1.trans sm).trans sp)
end
end My
set_option Elab.async false
set_option linter.all false
set_option maxRecDepth 100000
set_option maxHeartbeats 4000000
namespace My
open PySem PySem.Spec PyProof.Rows L2
section
variable {P : Program} {w : World} {K : PySem.W.Frag} {mg : Str → Option Value} {base : Heap}
def spNames (K : PySem.W.Frag) : Sp := fun vs H Q _ => ∃ (a : Addr) (r : List (Str × Int)), vs = [.ref a] ∧ Dt K H (.ref a) (rowD r) ∧ r.length ≤ 1000 ∧ ∀ (l : Addr) (H' : Hp), H l = none → H' l = some (.lst ((r.map (·.1)).map V.str)) → Same H H' → Q (.ref l) H'
theorem ok_names {f : Addr} {fd : FuncData} (F : Fun K "names_of" "names_of" sNames f fd) : FnOk P w K mg base CX0 1 f fd ["row"] (spNames K) := by
  refine F.ok scNames (fun vs H Q E h => ?_) (fun cdv A outer s H vs Q E hr h => ?_)
  · obtain ⟨a, r, rfl, _⟩ := h
    rfl
  · obtain ⟨a, r, rfl, hd, few, q⟩ := h
    obtain ⟨xs, hs, hl, da⟩ := row_at hd
    refine ⟨_, pss_one (ps_ret (pe_lc (own := [("name", 1), ("_", 2)]) (g := gPair K 1 2) (tt := tYes) rfl scNames.nd (pi_tup (pv 0))
        (blkOk_by (own := [("name", 1), ("_", 2)]) (N := ["row", "name", "_"]) (sc := defScope sNames) (by decide +kernel))
        (fun _ _ _ _ _ => pg_tup rfl (pgs_cons (pg_name (i := 1) scNames.nd rfl (Or.inl rfl) (Or.inr rfl)) (pgs_cons (pg_name (i := 2) scNames.nd rfl (Or.inl rfl) (Or.inr rfl)) pgs_nil)))
        (fun _ _ _ _ _ => pts_nil) (fun _ _ _ _ _ => pv 1))), ?_⟩
    refine ⟨_, rfl, a, rfl, ⟨_, hs⟩, fun Dl hD => ?_⟩
    refine lcP_tup (K := K) (a := a) (xs := xs) (fun i Hn => Hn Dl = some (.lst (((r.map (·.1)).take i).map V.str)) ∧ Same H Hn) ⟨upd_same, same_new hD⟩ (fun i Hn _ hp => hp.2.keepsT _ _ hs) (fun i v Hn hv hp => ?_) (fun Hn hp => ?_)
    · obtain ⟨b, x, hx, rfl, hb⟩ := dt_items da i v hv
      have hi := (List.getElem?_eq_some_iff.mp hx).1
      refine ⟨b, .str x.1, .int x.2, rfl, hp.2.keepsT _ _ hb, rfl, _, rfl, _, hp.1, Evl.sz_lt (by rw [List.length_map, List.length_take]; omega), ?_, fun c o z => ?_⟩
      · rw [upd_same, List.take_add_one, List.getElem?_map, hx, List.map_append]
        rfl
      · rw [upd_ne (ne_of_none z hD)]
        exact hp.2 c o z
    · refine q Dl Hn hD ?_ hp.2
      rw [hp.1, hl, ← List.length_map (f := fun x : Str × Int => x.1), List.take_length]
/-- of a row that isn't empty -/
def spNe (K : PySem.W.Frag) (g : List (Str × Int) → List (Str × Int)) (pre : Addr → Hp → Prop) : Sp := fun vs H Q _ => ∃ (a : Addr) (r : List (Str × Int)), vs = [.ref a] ∧ Dt K H (.ref a) (rowD r) ∧ RowOk r ∧ r ≠ [] ∧ pre a H ∧ ∀ (b : Addr) (H' : Hp), Same H H' → Dt K H' (.ref b) (rowD (g r)) → Q (.ref b) H'
/-! ### a line's normal form -/
def nthN (r : List (Str × Int)) (i : Nat) : Str := (r.getD i (Str.empty, 0)).1
def fstN (r : List (Str × Int)) : Str := nthN r 0
def lstN (r : List (Str × Int)) : Str := nthN r (r.length - 1)
theorem nthN_of {r : List (Str × Int)} {i : Nat} {x : Str × Int} (h : r[i]? = some x) : nthN r i = x.1 := by
  unfold nthN
  rw [List.getD_eq_getElem?_getD, h]
  rfl
theorem atI_neg1 {α : Type} {xs : List α} {v : α} (h : xs[xs.length - 1]? = some v) (h0 : xs ≠ []) : atI xs (-1) = some v := by
  obtain ⟨ys, z, rfl⟩ : ∃ ys z, xs = ys ++ [z] := ⟨xs.dropLast, xs.getLast h0, (List.dropLast_concat_getLast h0).symm⟩
  have e : (ys ++ [z]).length - 1 = ys.length := by simp
  rw [e, List.getElem?_append_right (Nat.le_refl _), Nat.sub_self] at h
  cases h
  exact atI_last ys v
def lineR (r : List (Str × Int)) : List (Str × Int) := if r.length = 1 then [(fstN r, 1)] else if ltS (fstN r) (lstN r) = true then r else turnR r
theorem ok_line {f fT : Addr} {fd dT : FuncData} (F : Fun K "line_form" "line_form" sLineF f fd) (B : Glb mg) (GT : FnOk P w K mg base CX0 5 fT dT ["row"] (spTurn K)) (gT : mg "turned" = some (.ref fT)) (kT : PySem.W.keepIn K (.ref fT) = true) (bT : Binds K dT ["row"] []) :
    FnOk P w K mg base CX0 6 f fd ["row"] (spNe K lineR fun _ _ => True) := by
  refine F.ok scLineF (fun vs H Q E h => ?_) (fun cdv A outer s H vs Q E hr h => ?_)
  · obtain ⟨a, r, rfl, _⟩ := h
    rfl
  · obtain ⟨a, r, rfl, hd, ok, hne, _, q⟩ := h
    obtain ⟨xs, hs, hl, da⟩ := row_at hd
    have few := ok.few
    refine ⟨_, pss_cons (ps_if (pt_cmpR op_eq (pe_callB call_len (by rfl) B.len PySem.boot_len (pa_cons (pv 0) pa_nil)) pe_int (nomark _))
        (pss_one (ps_ret (pe_tup (pa_cons (pe_tup (pa_cons (pe_ix ix_tup (pe_ix ix_tup (pv 0) pe_int (fun _ _ => rfl)) pe_int (fun _ _ => rfl)) (pa_cons pe_int pa_nil))) pa_nil)))) pss_nil)
      (pss_one (ps_ret (pe_ifExp (pt_cmpR op_lt_str (pe_ix ix_tup (pe_ix ix_tup (pv 0) pe_int (fun _ _ => rfl)) pe_int (fun _ _ => rfl)) (pe_ix ix_tup (pe_ix ix_tup (pv 0) (pe_un un_neg pe_int) (fun _ _ => rfl)) pe_int (fun _ _ => rfl)) (nomark _))
        (pv 0) (pe_call GT hr (by rfl) gT kT bT .nil pass0 (pa_cons (pv 0) pa_nil))))), ?_⟩
    have xl : 0 < xs.length := by
      cases r with
      | nil => exact absurd rfl hne
      | cons x t => rw [hl]; exact Nat.succ_pos _
    obtain ⟨b0, x0, hx0, e0, hb0⟩ := dt_items da 0 xs[0] (List.getElem?_eq_getElem xl)
    have at0 : atI xs 0 = some (.ref b0) := by
      rw [← e0]
      exact atI_nat (j := 0) (List.getElem?_eq_getElem xl)
    refine ⟨_, rfl, .ref a, xs.length, rfl, .inr ⟨_, hs, rfl⟩, rfl, _, rfl, ?_⟩
    by_cases h1 : xs.length = 1
    · rw [h1]
      refine iteT ⟨_, rfl, a, xs, 0, _, rfl, rfl, hs, at0, b0, _, 0, _, rfl, rfl, hb0, atI_nat (j := 0) rfl, by show 2 ≤ sizeLine; decide, fun t ht => ⟨by show 1 ≤ sizeLine; decide, fun t2 ht2 => ?_⟩⟩
      have s1 := same_new (o := HO.tup [.str x0.1, .int 1]) ht
      have s2 := same_new (o := HO.tup [.ref t]) ht2
      refine q t2 _ (s1.trans s2) ?_
      have el : lineR r = [(x0.1, 1)] := by
        unfold lineR
        rw [if_pos (by omega), show fstN r = x0.1 from nthN_of hx0]
      rw [el]
      exact .tup (.inl (.inl upd_same)) (.cons (.tup (s2.keepsT _ _ (.inl (.inl upd_same))) (.two (.str _) (.int _))) .nil)
    · have e1 : decide (V.int (xs.length : Int) = V.int 1) = false := decide_eq_false fun z => h1 (by have := V.int.inj z; omega)
      rw [e1]
      obtain ⟨b1, x1, hx1, e1', hb1⟩ := dt_items da (xs.length - 1) xs[xs.length - 1] (List.getElem?_eq_getElem (by omega))
      have at1 : atI xs (-1) = some (.ref b1) := by
        rw [← e1']
        exact atI_neg1 (List.getElem?_eq_getElem (by omega)) (fun z => by rw [z] at xl; exact absurd xl (Nat.lt_irrefl 0))
      refine iteF ⟨_, rfl, a, xs, 0, _, rfl, rfl, hs, at0, b0, _, 0, _, rfl, rfl, hb0, atI_nat (j := 0) rfl, _, rfl, 1, rfl, a, xs, -1, _, rfl, rfl, hs, at1, b1, _, 0, _, rfl, rfl, hb1, atI_nat (j := 0) rfl, x0.1, x1.1, rfl, rfl, _, rfl, ?_⟩
      have el : lineR r = if ltS x0.1 x1.1 = true then r else turnR r := by
        unfold lineR
        rw [if_neg (by omega), show fstN r = x0.1 from nthN_of hx0, show lstN r = x1.1 from nthN_of (by rw [← hl]; exact hx1)]
      show if ltS x0.1 x1.1 = true then _ else _
      cases hlt : ltS x0.1 x1.1 with
      | true =>
        rw [hlt, if_pos rfl] at el
        refine iteT ⟨_, rfl, q a H (.refl H) ?_⟩
        rw [el]
        exact hd
      | false =>
        rw [hlt, if_neg Bool.false_ne_true] at el
        refine iteF ⟨_, rfl, a, r, rfl, hd, ok, fun b H' s' d' _ => q b H' s' ?_⟩
        rw [el]
        exact d'
end
end My
set_option Elab.async false
set_option linter.all false
set_option maxRecDepth 100000
set_option maxHeartbeats 4000000
namespace My
open PySem PySem.Spec PyProof.Rows L2
def leastN (r : List (Str × Int)) : Str := match r.map (·.1) with
  | [] => Str.empty
  | y :: t => minS y t
theorem leastN_mem {r : List (Str × Int)} (h : r ≠ []) : leastN r ∈ r.map (·.1) := by
  cases r with
  | nil => exact absurd rfl h
  | cons x t => exact minS_mem (t.map (·.1)) x.1
def upR (r : List (Str × Int)) : List (Str × Int) := if (leastN r, (1 : Int)) ∈ r then r else turnR r
def atR (r : List (Str × Int)) : Nat := @List.idxOf _ instBEqOfDecidableEq (leastN r, (1 : Int)) (upR r)
def ringR (r : List (Str × Int)) : List (Str × Int) := (upR r).drop (atR r) ++ (upR r).take (atR r)
theorem up_ok {r : List (Str × Int)} (h : RowOk r) : RowOk (upR r) := by
  unfold upR
  split
  · exact h
  · exact turn_ok h
theorem up_has {r : List (Str × Int)} (h : RowOk r) (h0 : r ≠ []) : (leastN r, (1 : Int)) ∈ upR r := by
  unfold upR
  split
  · assumption
  · rename_i z
    obtain ⟨x, hx, e⟩ := List.mem_map.mp (leastN_mem h0)
    rcases h.dir x hx with d | d
    · exact absurd (show (leastN r, (1 : Int)) ∈ r by rw [← e, ← d]; exact hx) z
    · exact List.mem_map.mpr ⟨x, List.mem_reverse.mpr hx, by rw [e, d]; rfl⟩
theorem str_ok {x : Str} (h : NameOk x) : PyData.strOk x = true := by
  unfold PyData.strOk
  rw [Array.all_eq_true_iff_forall_mem]
  intro c hc
  have := h.2.2 c (Array.mem_toList_iff.mpr hc)
  exact decide_eq_true (by omega)
theorem RowOk.lay {r : List (Str × Int)} (h : RowOk r) : LayR r := fun x hx => str_ok (h.nm x hx)
section
variable {K : PySem.W.Frag} {H H' : Hp}
theorem dtAll_take : ∀ {xs : List V} {ds : List PyData} (i : Nat), DtAll K H xs ds → DtAll K H (xs.take i) (ds.take i)
  | _, _, 0, _ => .nil
  | _, _, _ + 1, .nil => .nil
  | _, _, i + 1, .cons a b => .cons a (dtAll_take i b)
theorem dtAll_drop : ∀ {xs : List V} {ds : List PyData} (i : Nat), DtAll K H xs ds → DtAll K H (xs.drop i) (ds.drop i)
  | _, _, 0, h => h
  | _, _, _ + 1, .nil => .nil
  | _, _, i + 1, .cons _ b => dtAll_drop i b
end
section
variable {P : Program} {w : World} {K : PySem.W.Frag} {mg : Str → Option Value} {base : Heap}
theorem ok_ring {f fT fN : Addr} {fd dT dN : FuncData} (F : Fun K "ring_form" "ring_form" sRingF f fd) (mm : mg "min" = none) (GN : FnOk P w K mg base CX0 1 fN dN ["row"] (spNames K)) (gN : mg "names_of" = some (.ref fN)) (kN : PySem.W.keepIn K (.ref fN) = true) (bN : Binds K dN ["row"] [])
    (GT : FnOk P w K mg base CX0 5 fT dT ["row"] (spTurn K)) (gT : mg "turned" = some (.ref fT)) (kT : PySem.W.keepIn K (.ref fT) = true) (bT : Binds K dT ["row"] []) :
    FnOk P w K mg base CX0 6 f fd ["row"] (spNe K ringR fun a H => BareT H a) := by
  refine F.ok scRingF (fun vs H Q E h => ?_) (fun cdv A outer s H vs Q E hr h => ?_)
  · obtain ⟨a, r, rfl, _⟩ := h
    rfl
  · obtain ⟨a, r, rfl, hd, ok, hne, hbt, q⟩ := h
    have few := ok.few
    have hr1 := hr.mono (show 1 ≤ 5 by decide)
    have hu : (A.deeper (envOfC "ring_form" (defScope sRingF) s.heap.objs.size f cdv)).units + 65 < cLine := by
      have := hr.un
      omega
    refine ⟨_, pss_cons (ps_set (i := 1) scRingF.nd rfl (.inl rfl) (pe_callB (call_minS rfl hu) (by rfl) mm boot_min (pa_cons (pe_call GN hr1 (by rfl) gN kN bN .nil pass0 (pa_cons (pv 0) pa_nil)) pa_nil)))
      (Evl.pss_cut (ps_if (pt_cmpR (op_notInRow hu) (pe_tup (pa_cons (pv 1) (pa_cons pe_int pa_nil))) (pv 0) (by rfl)) (pss_one (ps_set (i := 0) scRingF.nd rfl (.inl rfl) (pe_call GT hr (by rfl) gT kT bT .nil pass0 (pa_cons (pv 0) pa_nil)))) pss_nil)
      (pss_cons (ps_set (i := 2) scRingF.nd rfl (.inl rfl) (pe_tm PySem.F.slot_tuple_index PySem.F.type_tuple_index (mt_ixRow hu) (pv 0) (pa_cons (pe_tup (pa_cons (pv 1) (pa_cons pe_int pa_nil))) pa_nil)))
      (pss_one (ps_ret (pe_op op_catA (pe_slice sl_tupA (pv 0) (po_some (pv 2)) po_none) (pe_slice sl_tupA (pv 0) po_none (po_some (pv 2)))))))), ?_⟩
    refine ⟨_, rfl, a, r, rfl, hd, by omega, fun l H1 hl el s1 => ?_⟩
    obtain ⟨y, t, ert⟩ : ∃ y t, r.map (·.1) = y :: t := by
      cases r with
      | nil => exact absurd rfl hne
      | cons x t => exact ⟨x.1, t.map (·.1), rfl⟩
    refine ⟨l, y, t, rfl, by rw [← ert]; exact .inl (.inl el), ?_⟩
    have em : minS y t = leastN r := by
      unfold leastN
      rw [ert]
    rw [em]
    have nml : NameOk (leastN r) := by
      obtain ⟨x, hx, e⟩ := List.mem_map.mp (leastN_mem hne)
      rw [← e]
      exact ok.nm x hx
    refine ⟨fun σ' H' => ∃ a', σ' = [some (.ref a'), some (.str (leastN r)), none] ∧ Same H H' ∧ Dt K H' (.ref a') (rowD (upR r)) ∧ BareT H' a', ?_, ?_⟩
    · refine ⟨_, rfl, by show 2 ≤ sizeLine; decide, fun b hb => ?_⟩
      have s2 := same_new (o := HO.tup [.str (leastN r), .int 1]) hb
      have hd2 := dt_keep (s1.trans s2).keepsT hd
      refine ⟨_, rfl, (leastN r, 1), a, r, rfl, .tup (.inl (.inl upd_same)) (.two (.str _) (.int _)), hd2, str_ok nml, ok.lay, _, rfl, ?_⟩
      by_cases hm : (leastN r, (1 : Int)) ∈ r
      · rw [decide_eq_true hm]
        refine iteF ⟨a, rfl, s1.trans s2, ?_, hbt.keep (s1.trans s2)⟩
        unfold upR
        rw [if_pos hm]
        exact hd2
      · rw [decide_eq_false hm]
        refine iteT ⟨_, rfl, a, r, rfl, hd2, ok, fun c H' s' d' b' => ⟨c, rfl, (s1.trans s2).trans s', ?_, b'⟩⟩
        unfold upR
        rw [if_neg hm]
        exact d'
    · rintro _ H2 ⟨a', rfl, s2, d2, b2⟩
      refine ⟨_, rfl, ⟨a', rfl, b2⟩, _, rfl, by show 2 ≤ sizeLine; decide, fun b hb => ?_⟩
      have s3 := same_new (o := HO.tup [.str (leastN r), .int 1]) hb
      have d3 := dt_keep s3.keepsT d2
      refine ⟨(leastN r, 1), _, a', upR r, rfl, rfl, .tup (.inl (.inl upd_same)) (.two (.str _) (.int _)), d3, str_ok nml, (up_ok ok).lay, up_has ok hne, ?_⟩
      obtain ⟨xs, hs, hlx, da⟩ := row_at d3
      generalize upd H2 b (.tup [.str (leastN r), .int 1]) = H3 at s3 d3 hs da
      refine ⟨_, rfl, _, rfl, _, rfl, ?_⟩
      unfold tNoPart
      dsimp only []
      refine sl_to hs fun c1 H4 s4 t4 => ?_
      rw [cutV_from] at t4
      refine ⟨_, rfl, _, rfl, _, rfl, ?_⟩
      refine sl_to (s4.keepsT _ _ hs) fun c2 H5 s5 t5 => ?_
      rw [cutV_to] at t5
      have fx : xs.length ≤ 1000 := by
        have := (up_ok ok).few
        omega
      refine cat_to (s5.keepsT _ _ t4) t5 (by rw [List.length_drop, List.length_take, sizeLine_eq]; omega) fun c3 H6 s6 t6 => ?_
      have da6 := dt_keepAll ((s4.trans s5).trans s6).keepsT da
      refine q c3 H6 ((((s2.trans s3).trans s4).trans s5).trans s6) ?_
      have e : rowD (ringR r) = .tuple (((upR r).map dwD).drop (atR r) ++ ((upR r).map dwD).take (atR r)) := by
        unfold rowD ringR
        rw [List.map_append, List.map_drop, List.map_take]
      rw [e]
      exact .tup t6 ((dtAll_drop _ da6).append (dtAll_take _ da6))
end
end My
set_option Elab.async false
set_option linter.all false
set_option maxRecDepth 100000
set_option maxHeartbeats 4000000
namespace My
open PySem PySem.Spec PyProof.Rows L2
open PySem.W (Datum DatumOrd)
/-! ### orders in which no two are alike -/
def Anti (α : Type) [DecidableEq α] [DatumOrd α] : Prop := ∀ a b : α, DatumOrd.lt a b = false → DatumOrd.lt b a = false → a = b
theorem anti_int : Anti Int := fun a b h1 h2 => by
  have h1 := of_decide_eq_false (p := a < b) h1
  have h2 := of_decide_eq_false (p := b < a) h2
  omega
theorem anti_str : Anti Str := fun a b h1 h2 => by
  have h1 := of_decide_eq_false (p := a.cps.toList < b.cps.toList) h1
  have h2 := of_decide_eq_false (p := b.cps.toList < a.cps.toList) h2
  have e : a.cps.toList = b.cps.toList := List.le_antisymm (List.not_lt.mp h2) (List.not_lt.mp h1)
  cases a
  cases b
  rw [Str.mk.injEq]
  exact Array.toList_inj.mp e
theorem anti_pair {α β : Type} [DecidableEq α] [DatumOrd α] [DecidableEq β] [DatumOrd β] (ha : Anti α) (hb : Anti β) : Anti (α × β) := fun p q h1 h2 => by
  have h1 : (if p.1 = q.1 then DatumOrd.lt p.2 q.2 else DatumOrd.lt p.1 q.1) = false := h1
  have h2 : (if q.1 = p.1 then DatumOrd.lt q.2 p.2 else DatumOrd.lt q.1 p.1) = false := h2
  by_cases e : p.1 = q.1
  · rw [if_pos e] at h1
    rw [if_pos e.symm] at h2
    exact Prod.ext e (hb _ _ h1 h2)
  · rw [if_neg e] at h1
    rw [if_neg fun z => e z.symm] at h2
    exact absurd (ha _ _ h1 h2) e
theorem sortO_perm {α : Type} [DecidableEq α] [DatumOrd α] (A : Anti α) {xs ys : List α} (p : xs.Perm ys) : sortO xs = sortO ys := by
  refine List.Perm.eq_of_pairwise (le := fun a b => leO a b = true) (fun a b _ _ h1 h2 => ?_) (PySem.W.sort_pairwise leO_total xs) (PySem.W.sort_pairwise leO_total ys) (((List.mergeSort_perm xs leO).trans p).trans (List.mergeSort_perm ys leO).symm)
  exact A a b (by simpa using h2) (by simpa using h1)
theorem lt_asym {α : Type} [DecidableEq α] [DatumOrd α] {a b : α} (h : DatumOrd.lt a b = true) : DatumOrd.lt b a = false := by
  rcases leO_total.total a b with q | q
  · simpa using q
  · have q : (!DatumOrd.lt a b) = true := q
    rw [h] at q
    cases q
end My
set_option Elab.async false
set_option linter.all false
set_option maxRecDepth 100000
set_option maxHeartbeats 4000000
/-! The couplings of a line and of a ring do not depend on the reading. -/
namespace My
open PySem PySem.Spec PyProof.Rows L2
open PySem.W (Datum DatumOrd)
theorem anti_end : Anti EndT := anti_pair anti_str anti_int
theorem anti_coup : Anti CoupT := anti_pair anti_end anti_end
theorem coupE_comm (p q : EndT) : coupE p q = coupE q p := by
  unfold coupE
  cases h1 : (DatumOrd.lt p q : Bool) with
  | true =>
    rw [lt_asym h1]
    rfl
  | false =>
    cases h2 : (DatumOrd.lt q p : Bool) with
    | true => rfl
    | false => rw [anti_end p q h1 h2]
theorem sort_two (p q : EndT) : sortO [p, q] = [(coupE p q).1, (coupE p q).2] := by
  have e : sortO [p, q] = sortO [(coupE p q).1, (coupE p q).2] := by
    refine sortO_perm anti_end ?_
    unfold coupE
    split
    · exact .refl _
    · exact .swap _ _ _
  rw [e]
  refine List.mergeSort_of_pairwise (List.pairwise_pair.mpr ?_)
  unfold coupE
  show (!DatumOrd.lt _ _) = true
  cases h : (DatumOrd.lt p q : Bool) with
  | true =>
    rw [if_pos rfl, lt_asym h]
    rfl
  | false =>
    rw [if_neg Bool.false_ne_true, h]
    rfl
/-! ### the couplings along a row -/
theorem links_cons2 (x y : Str × Int) (t : List (Str × Int)) : linksU (x :: y :: t) = pairOf x y :: linksU (y :: t) := rfl
theorem links_nil : linksU [] = [] := rfl
theorem links_one (x : Str × Int) : linksU [x] = [] := rfl
theorem links_over : ∀ (a : List (Str × Int)) (z : Str × Int) (b : List (Str × Int)), linksU (a ++ z :: b) = linksU (a ++ [z]) ++ linksU (z :: b)
  | [], z, b => rfl
  | [x], z, b => rfl
  | x :: y :: a, z, b => by
    have ih := links_over (y :: a) z b
    show pairOf x y :: linksU (y :: a ++ z :: b) = pairOf x y :: linksU (y :: a ++ [z]) ++ linksU (z :: b)
    rw [ih]
    rfl
def turn1 (x : Str × Int) : Str × Int := (x.1, -x.2)
theorem turnR_map (r : List (Str × Int)) : turnR r = r.reverse.map turn1 := rfl
theorem opp_turn {x : Str × Int} (d : x.2 = 1 ∨ x.2 = -1) : oppE (entR (turn1 x)) = entR x := by
  obtain ⟨n, d0⟩ := x
  rcases d with d | d
  · have : d0 = 1 := d
    subst this
    rfl
  · have : d0 = -1 := d
    subst this
    rfl
theorem ent_turn {x : Str × Int} (d : x.2 = 1 ∨ x.2 = -1) : entR (turn1 x) = oppE (entR x) := by
  obtain ⟨n, d0⟩ := x
  rcases d with d | d
  · have : d0 = 1 := d
    subst this
    rfl
  · have : d0 = -1 := d
    subst this
    rfl
theorem pair_turn {x y : Str × Int} (dx : x.2 = 1 ∨ x.2 = -1) (dy : y.2 = 1 ∨ y.2 = -1) : pairOf (turn1 y) (turn1 x) = pairOf x y := by
  unfold pairOf
  rw [opp_turn dy, ent_turn dx, coupE_comm]
theorem links_turn : ∀ r : List (Str × Int), Dirs r → linksU (turnR r) = (linksU r).reverse
  | [], _ => rfl
  | [x], _ => rfl
  | x :: y :: t, d => by
    have ih := links_turn (y :: t) fun z hz => d z (List.mem_cons_of_mem _ hz)
    have e : turnR (x :: y :: t) = turnR t ++ turn1 y :: [turn1 x] := by
      rw [turnR_map, turnR_map, List.reverse_cons, List.reverse_cons, List.map_append, List.map_append, List.append_assoc]
      rfl
    have e2 : turnR (y :: t) = turnR t ++ [turn1 y] := by
      rw [turnR_map, turnR_map, List.reverse_cons, List.map_append]
      rfl
    rw [e, links_over, ← e2, ih, links_cons2 x y t, List.reverse_cons, links_cons2, links_one, pair_turn (d x List.mem_cons_self) (d y (List.mem_cons_of_mem _ List.mem_cons_self))]
theorem dirs_turn {r : List (Str × Int)} (d : Dirs r) : Dirs (turnR r) := fun x hx => by
  obtain ⟨y, hy, rfl⟩ := List.mem_map.mp hx
  have := d y (List.mem_reverse.mp hy)
  show -y.2 = 1 ∨ -y.2 = -1
  omega
/-! ### around -/
def cycU (r : List (Str × Int)) : List CoupT := linksU (r ++ r.take 1)
theorem cyc_swap : ∀ a b : List (Str × Int), (cycU (a ++ b)).Perm (cycU (b ++ a))
  | [], b => by rw [List.nil_append, List.append_nil]
  | x :: a, [] => by rw [List.nil_append, List.append_nil]
  | x :: a, y :: b => by
    have e1 : cycU (x :: a ++ y :: b) = linksU (x :: a ++ [y]) ++ linksU (y :: b ++ [x]) := by
      show linksU (x :: a ++ y :: b ++ [x]) = _
      rw [List.append_assoc, show (y :: b) ++ [x] = y :: (b ++ [x]) from rfl, links_over]
    have e2 : cycU (y :: b ++ x :: a) = linksU (y :: b ++ [x]) ++ linksU (x :: a ++ [y]) := by
      show linksU (y :: b ++ x :: a ++ [y]) = _
      rw [List.append_assoc, show (x :: a) ++ [y] = x :: (a ++ [y]) from rfl, links_over]
    rw [e1, e2]
    exact List.perm_append_comm
theorem cyc_turn : ∀ r : List (Str × Int), Dirs r → (cycU (turnR r)).Perm (cycU r)
  | [], _ => .refl _
  | x :: t, d => by
    have e : turnR (x :: t) = turnR t ++ [turn1 x] := by
      rw [turnR_map, turnR_map, List.reverse_cons, List.map_append]
      rfl
    have e2 : cycU ([turn1 x] ++ turnR t) = linksU (turnR (x :: t ++ [x])) := by
      show linksU ([turn1 x] ++ turnR t ++ [turn1 x]) = _
      rw [turnR_map, turnR_map, show (x :: t ++ [x]).reverse = x :: (t.reverse ++ [x]) by simp, List.map_cons, List.map_append]
      rfl
    have d2 : Dirs (x :: t ++ [x]) := fun z hz => by
      rcases List.mem_append.mp hz with hz | hz
      · exact d z hz
      · rw [List.mem_singleton.mp hz]
        exact d x List.mem_cons_self
    have e3 : cycU (x :: t) = linksU (x :: t ++ [x]) := rfl
    rw [e, e3]
    refine (cyc_swap _ _).trans ?_
    rw [e2, links_turn _ d2]
    exact List.reverse_perm _
/-! ### the normal forms -/
theorem line_links {r : List (Str × Int)} (ok : RowOk r) : (linksU (lineR r)).Perm (linksU r) := by
  unfold lineR
  split
  · rename_i h
    match r, h with
    | [x], _ => exact .refl _
  · split
    · exact .refl _
    · rw [links_turn r ok.dir]
      exact List.reverse_perm _
theorem up_cyc {r : List (Str × Int)} (ok : RowOk r) : (cycU (upR r)).Perm (cycU r) := by
  unfold upR
  split
  · exact .refl _
  · exact cyc_turn r ok.dir
theorem ring_links {r : List (Str × Int)} (ok : RowOk r) : (cycU (ringR r)).Perm (cycU r) := by
  unfold ringR
  refine (cyc_swap _ _).trans ?_
  rw [List.take_append_drop]
  exact up_cyc ok
theorem line_turn {r : List (Str × Int)} (ok : RowOk r) : (linksU (lineR (turnR r))).Perm (linksU r) := by
  refine (line_links (turn_ok ok)).trans ?_
  rw [links_turn r ok.dir]
  exact List.reverse_perm _
theorem ring_turn {r : List (Str × Int)} (ok : RowOk r) : (cycU (ringR (turnR r))).Perm (cycU r) := (ring_links (turn_ok ok)).trans (cyc_turn r ok.dir)
end My
set_option Elab.async false
set_option linter.all false
set_option maxRecDepth 100000
set_option maxHeartbeats 4000000
/-! layouts as data: names, couplings, free ends -/
namespace My
open PySem PySem.Spec PyProof.Rows L2
open PySem.W (Datum DatumOrd)
/-- all ends of some wagons, in the order of the names -/
def endsO (ws : List Str) : List EndT := ws.flatMap fun n => [(n, 0), (n, 1)]
/-- the ends that couplings meet -/
def metE (ps : List CoupT) : List EndT := ps.flatMap fun p => [p.1, p.2]
/-- each end's partner -/
def partE (ps : List CoupT) : List (EndT × EndT) := ps.flatMap fun p => [(p.1, p.2), (p.2, p.1)]
def lookE (kv : List (EndT × EndT)) (e : EndT) : Option EndT := (kv.find? fun p => decide (p.1 = e)).map (·.2)
/-- the couplings as a layout tells them -/
def coupL (ws : List Str) (ps : List CoupT) : List CoupT := (endsO ws).filterMap fun e => match lookE (partE ps) e with
  | some q => if DatumOrd.lt e q = true then some (e, q) else none
  | none => none
def freeL (ws : List Str) (ps : List CoupT) : List EndT := (endsO ws).filter fun e => !(lookE (partE ps) e).isSome
theorem partE_fst : ∀ ps : List CoupT, (partE ps).map (·.1) = metE ps
  | [] => rfl
  | p :: r => by
    show p.1 :: p.2 :: (partE r).map (·.1) = p.1 :: p.2 :: metE r
    rw [partE_fst r]
theorem lookE_none {kv : List (EndT × EndT)} {e : EndT} : lookE kv e = none ↔ e ∉ kv.map (·.1) := by
  unfold lookE
  rw [Option.map_eq_none_iff, List.find?_eq_none]
  constructor
  · intro h hm
    obtain ⟨p, hp, rfl⟩ := List.mem_map.mp hm
    exact h p hp (by simp)
  · intro h p hp z
    exact h (List.mem_map.mpr ⟨p, hp, of_decide_eq_true z⟩)
theorem lookE_mem {kv : List (EndT × EndT)} (nd : (kv.map (·.1)).Nodup) {e q : EndT} : lookE kv e = some q ↔ (e, q) ∈ kv := by
  unfold lookE
  constructor
  · intro h
    obtain ⟨p, hp, rfl⟩ := Option.map_eq_some_iff.mp h
    have h1 := List.find?_some hp
    have h2 := List.mem_of_find?_eq_some hp
    have h3 : p.1 = e := of_decide_eq_true h1
    rw [← h3]
    exact h2
  · intro h
    induction kv with
    | nil => exact nomatch h
    | cons p r ih =>
      rw [List.map_cons, List.nodup_cons] at nd
      rcases List.mem_cons.mp h with z | z
      · rw [List.find?_cons_of_pos (by rw [← z]; simp), ← z]
        rfl
      · have ne : ¬ p.1 = e := fun y => nd.1 (List.mem_map.mpr ⟨_, z, y.symm⟩)
        rw [List.find?_cons_of_neg (by simpa using ne)]
        exact ih nd.2 z
theorem mem_partE {ps : List CoupT} {e q : EndT} : (e, q) ∈ partE ps ↔ (e, q) ∈ ps ∨ (q, e) ∈ ps := by
  unfold partE
  rw [List.mem_flatMap]
  constructor
  · rintro ⟨p, hp, h⟩
    rcases List.mem_cons.mp h with z | z
    · exact .inl (by rw [z]; exact hp)
    · have z := List.mem_singleton.mp z
      obtain ⟨z1, z2⟩ := Prod.mk.inj z
      exact .inr (by rw [z1, z2]; exact hp)
  · rintro (h | h)
    · exact ⟨_, h, List.mem_cons_self⟩
    · exact ⟨_, h, List.mem_cons_of_mem _ List.mem_cons_self⟩
theorem mem_endsO {ws : List Str} {e : EndT} : e ∈ endsO ws ↔ e.1 ∈ ws ∧ (e.2 = 0 ∨ e.2 = 1) := by
  unfold endsO
  rw [List.mem_flatMap]
  constructor
  · rintro ⟨n, hn, h⟩
    rcases List.mem_cons.mp h with z | z
    · rw [z]
      exact ⟨hn, .inl rfl⟩
    · rw [List.mem_singleton.mp z]
      exact ⟨hn, .inr rfl⟩
  · obtain ⟨n, i⟩ := e
    rintro ⟨hn, (h | h)⟩
    · have h : i = 0 := h
      rw [h]
      exact ⟨n, hn, List.mem_cons_self⟩
    · have h : i = 1 := h
      rw [h]
      exact ⟨n, hn, List.mem_cons_of_mem _ List.mem_cons_self⟩
theorem endsO_nodup : ∀ {ws : List Str}, ws.Nodup → (endsO ws).Nodup
  | [], _ => List.nodup_nil
  | n :: r, h => by
    rw [List.nodup_cons] at h
    show ((n, 0) :: (n, 1) :: endsO r).Nodup
    refine List.nodup_cons.mpr ⟨fun z => ?_, List.nodup_cons.mpr ⟨fun z => h.1 (mem_endsO.mp z).1, endsO_nodup h.2⟩⟩
    rcases List.mem_cons.mp z with z | z
    · exact absurd (Prod.mk.inj z).2 (by decide)
    · exact h.1 (mem_endsO.mp z).1
/-- ascending -/
def Asc {α : Type} [DecidableEq α] [DatumOrd α] (xs : List α) : Prop := xs.Pairwise fun a b => DatumOrd.lt a b = true
theorem lt_irr {α : Type} [DecidableEq α] [DatumOrd α] (a : α) : DatumOrd.lt a a = false := by
  cases h : (DatumOrd.lt a a : Bool) with
  | false => rfl
  | true => exact absurd (lt_asym h) (by rw [h]; exact Bool.noConfusion)
theorem asc_of {α : Type} [DecidableEq α] [DatumOrd α] (A : Anti α) {xs : List α} (nd : xs.Nodup) : Asc (sortO xs) := by
  have h1 := PySem.W.sort_pairwise leO_total xs
  have h2 : (sortO xs).Nodup := (List.mergeSort_perm xs leO).symm.nodup nd
  refine (h1.and h2).imp fun {a b} h => ?_
  cases z : (DatumOrd.lt a b : Bool) with
  | true => rfl
  | false => exact absurd (A a b z (by simpa using h.1)) h.2
/-- two ascending lists of the same items are the same -/
theorem asc_sort {α : Type} [DecidableEq α] [DatumOrd α] (A : Anti α) {xs ys : List α} (h : Asc ys) (p : ys.Perm xs) : sortO xs = ys := by
  rw [sortO_perm A p.symm]
  refine List.mergeSort_of_pairwise (h.imp fun {a b} z => ?_)
  show (!DatumOrd.lt b a) = true
  rw [lt_asym z] <;> rfl
theorem lt_pair1 {a b : Str} (h : DatumOrd.lt a b = true) (i j : Int) : DatumOrd.lt ((a, i) : EndT) (b, j) = true := by
  show (if a = b then DatumOrd.lt i j else DatumOrd.lt a b) = true
  rw [if_neg fun z => by rw [z, lt_irr] at h; exact Bool.noConfusion h]
  exact h
theorem asc_ends : ∀ {ws : List Str}, Asc ws → Asc (endsO ws)
  | [], _ => .nil
  | n :: r, h => by
    have hh := List.pairwise_cons.mp h
    show Asc ((n, 0) :: (n, 1) :: endsO r)
    have up : ∀ i : Int, ∀ b ∈ endsO r, DatumOrd.lt ((n, i) : EndT) b = true := fun i b hb => lt_pair1 (hh.1 _ (mem_endsO.mp hb).1) i b.2
    refine List.pairwise_cons.mpr ⟨fun b hb => ?_, List.pairwise_cons.mpr ⟨up 1, asc_ends hh.2⟩⟩
    rcases List.mem_cons.mp hb with z | z
    · rw [z]
      show (if n = n then DatumOrd.lt (0 : Int) 1 else DatumOrd.lt n n) = true
      rw [if_pos rfl] <;> rfl
    · exact up 0 b z
theorem ends_two (ws : List Str) : (endsO ws).Perm (ws.map (fun n => ((n, 0) : EndT)) ++ ws.map fun n => ((n, 1) : EndT)) := by
  induction ws with
  | nil => exact .refl _
  | cons n r ih =>
    show ((n, 0) :: (n, 1) :: endsO r).Perm ((n, 0) :: (r.map (fun n => ((n, 0) : EndT)) ++ (n, 1) :: r.map fun n => ((n, 1) : EndT)))
    exact List.Perm.cons _ ((List.Perm.cons _ ih).trans List.perm_middle.symm)
theorem ends_perm {ws vs : List Str} (p : ws.Perm vs) : (endsO ws).Perm (endsO vs) := p.flatMap_right _
/-- sorted([(n, 0) for n in wagons] + [(n, 1) for n in wagons]) -/
theorem sort_ends {ws : List Str} (nd : ws.Nodup) : sortO (ws.map (fun n => ((n, 0) : EndT)) ++ ws.map fun n => ((n, 1) : EndT)) = endsO (sortO ws) :=
  asc_sort anti_end (asc_ends (asc_of anti_str nd)) ((ends_perm (List.mergeSort_perm ws leO)).trans (ends_two ws))
/-- couplings of some wagons whose ends are all different -/
structure PairsOk (ws : List Str) (ps : List CoupT) : Prop where
  nd : (metE ps).Nodup
  sub : ∀ e ∈ metE ps, e ∈ endsO ws
theorem mem_metE {ps : List CoupT} {p : CoupT} (h : p ∈ ps) : p.1 ∈ metE ps ∧ p.2 ∈ metE ps :=
  ⟨List.mem_flatMap.mpr ⟨p, h, List.mem_cons_self⟩, List.mem_flatMap.mpr ⟨p, h, List.mem_cons_of_mem _ List.mem_cons_self⟩⟩
theorem met_perm {ps qs : List CoupT} (p : ps.Perm qs) : (metE ps).Perm (metE qs) := p.flatMap_right _
def srtE (p : CoupT) : CoupT := coupE p.1 p.2
theorem srt_cases (p : CoupT) : srtE p = p ∨ srtE p = (p.2, p.1) := by
  unfold srtE coupE
  split
  · exact .inl rfl
  · exact .inr rfl
theorem met_srt : ∀ ps : List CoupT, (metE (ps.map srtE)).Perm (metE ps)
  | [] => .refl _
  | p :: r => by
    show ((srtE p).1 :: (srtE p).2 :: metE (r.map srtE)).Perm (p.1 :: p.2 :: metE r)
    rcases srt_cases p with e | e
    · rw [e]
      exact ((met_srt r).cons _).cons _
    · rw [e]
      exact (List.Perm.swap _ _ _).trans (((met_srt r).cons _).cons _)
theorem srt_lt {p : CoupT} (h : p.1 ≠ p.2) : DatumOrd.lt (srtE p).1 (srtE p).2 = true := by
  unfold srtE coupE
  cases z : (DatumOrd.lt p.1 p.2 : Bool) with
  | true => exact z
  | false =>
    rw [if_neg Bool.false_ne_true]
    cases y : (DatumOrd.lt p.2 p.1 : Bool) with
    | true => rfl
    | false => exact absurd (anti_end _ _ z y) h
theorem met_ne : ∀ {ps : List CoupT}, (metE ps).Nodup → ∀ p ∈ ps, p.1 ≠ p.2
  | p :: r, h, q, hq => by
    have h : (p.1 :: p.2 :: metE r).Nodup := h
    rw [List.nodup_cons, List.nodup_cons] at h
    rcases List.mem_cons.mp hq with z | z
    · rw [z]
      exact fun y => h.1 (by rw [y]; exact List.mem_cons_self)
    · exact met_ne h.2.2 q z
theorem met_map_nodup : ∀ {ps : List CoupT}, (metE ps).Nodup → ps.Nodup
  | [], _ => List.nodup_nil
  | p :: r, h => by
    have h : (p.1 :: p.2 :: metE r).Nodup := h
    rw [List.nodup_cons, List.nodup_cons] at h
    exact List.nodup_cons.mpr ⟨fun z => h.1 (List.mem_cons_of_mem _ (mem_metE z).1), met_map_nodup h.2.2⟩
/-- what a layout tells does not depend on the couplings' order and directions -/
theorem look_iff {ws : List Str} {ps : List CoupT} (ok : PairsOk ws ps) {e q : EndT} : lookE (partE ps) e = some q ↔ (e, q) ∈ ps ∨ (q, e) ∈ ps := by
  rw [lookE_mem (by rw [partE_fst]; exact ok.nd), mem_partE]
theorem mem_coupL {ws vs : List Str} {ps : List CoupT} (ok : PairsOk ws ps) (hv : ∀ n, n ∈ ws → n ∈ vs) {c : CoupT} : c ∈ coupL vs ps ↔ c ∈ ps.map srtE := by
  have same : ∀ {e q : EndT}, ((e, q) ∈ ps ∨ (q, e) ∈ ps) → DatumOrd.lt e q = true → (e, q) ∈ ps.map srtE := fun {e q} h lt => by
    rcases h with h | h
    · refine List.mem_map.mpr ⟨_, h, ?_⟩
      unfold srtE coupE
      rw [if_pos lt]
    · refine List.mem_map.mpr ⟨_, h, ?_⟩
      unfold srtE coupE
      rw [if_neg (by show ¬ DatumOrd.lt q e = true; rw [lt_asym lt]; exact Bool.false_ne_true)]
  unfold coupL
  rw [List.mem_filterMap]
  constructor
  · rintro ⟨e, he, h⟩
    cases z : lookE (partE ps) e with
    | none => rw [z] at h; cases h
    | some q =>
      rw [z] at h
      have h : (if DatumOrd.lt e q = true then some (e, q) else none) = some c := h
      by_cases lt : DatumOrd.lt e q = true
      · rw [if_pos lt] at h
        rw [← Option.some.inj h]
        exact same ((look_iff ok).mp z) lt
      · rw [if_neg lt] at h
        cases h
  · intro h
    obtain ⟨p, hp, rfl⟩ := List.mem_map.mp h
    have lt := srt_lt (met_ne ok.nd p hp)
    have hm : ((srtE p).1, (srtE p).2) ∈ ps ∨ ((srtE p).2, (srtE p).1) ∈ ps := by
      rcases srt_cases p with e | e
      · rw [e]
        exact .inl hp
      · rw [e]
        exact .inr hp
    have hin : (srtE p).1 ∈ metE ps := by
      rcases srt_cases p with e | e
      · rw [e]
        exact (mem_metE hp).1
      · rw [e]
        exact (mem_metE hp).2
    have hE := mem_endsO.mp (ok.sub _ hin)
    refine ⟨(srtE p).1, mem_endsO.mpr ⟨hv _ hE.1, hE.2⟩, ?_⟩
    rw [(look_iff ok).mpr hm]
    show (if DatumOrd.lt (srtE p).1 (srtE p).2 = true then some ((srtE p).1, (srtE p).2) else none) = _
    rw [if_pos lt]
theorem coup_asc {vs : List Str} (h : Asc vs) (ps : List CoupT) : Asc (coupL vs ps) := by
  unfold coupL
  refine List.Pairwise.filterMap _ (fun a b hab c hc d hd => ?_) (asc_ends h)
  have key : ∀ {e : EndT} {c : CoupT}, (match lookE (partE ps) e with
      | some q => if DatumOrd.lt e q = true then some (e, q) else none
      | none => none) = some c → c.1 = e := fun {e c} z => by
    cases y : lookE (partE ps) e with
    | none => rw [y] at z; cases z
    | some q =>
      rw [y] at z
      have z : (if DatumOrd.lt e q = true then some (e, q) else none) = some c := z
      by_cases lt : DatumOrd.lt e q = true
      · rw [if_pos lt] at z
        rw [← Option.some.inj z]
      · rw [if_neg lt] at z
        cases z
  have e1 := key hc
  have e2 := key hd
  show (if c.1 = d.1 then DatumOrd.lt c.2 d.2 else DatumOrd.lt c.1 d.1) = true
  rw [e1, e2, if_neg fun z => by rw [z, lt_irr] at hab; exact Bool.noConfusion hab]
  exact hab
theorem asc_nodup {α : Type} [DecidableEq α] [DatumOrd α] {xs : List α} (h : Asc xs) : xs.Nodup := h.imp fun {a b} z y => by rw [y, lt_irr] at z; exact Bool.noConfusion z
/-- the couplings, ascending: from any order, in any directions -/
theorem coup_sorted {ws : List Str} {ps : List CoupT} (nd : ws.Nodup) (ok : PairsOk ws ps) : sortO (ps.map srtE) = coupL (sortO ws) ps := by
  have nd2 : (ps.map srtE).Nodup := met_map_nodup ((met_srt ps).symm.nodup ok.nd)
  have asc := coup_asc (asc_of anti_str nd) ps
  refine asc_sort anti_coup asc ?_
  refine (List.perm_ext_iff_of_nodup (asc_nodup asc) nd2).mpr fun c => ?_
  exact mem_coupL ok fun n hn => (List.mergeSort_perm ws leO).symm.subset hn
theorem free_eq {ws : List Str} (ps : List CoupT) : freeL ws ps = (endsO ws).filter fun e => decide (e ∉ metE ps) := by
  unfold freeL
  congr 1
  funext e
  rw [← partE_fst]
  cases z : lookE (partE ps) e with
  | none =>
    have := lookE_none.mp z
    simp [this]
  | some q =>
    have : e ∈ (partE ps).map (·.1) := Decidable.byContradiction fun y => by rw [lookE_none.mpr y] at z; cases z
    simp only [Option.isSome_some, Bool.not_true]
    exact (decide_eq_false fun y => y this).symm
theorem coup_len {ws : List Str} {ps : List CoupT} (nd : ws.Nodup) (ok : PairsOk ws ps) : (coupL (sortO ws) ps).length = ps.length := by
  rw [← coup_sorted nd ok, (List.mergeSort_perm _ leO).length_eq, List.length_map]
end My
set_option Elab.async false
set_option linter.all false
set_option maxRecDepth 100000
set_option maxHeartbeats 4000000
namespace My
open PySem PySem.Spec PyProof.Rows L2
section
variable {P : Program} {w : World} {K : PySem.W.Frag} {mg : Str → Option Value} {base : Heap} {t1 t2 t3 : Tok}
theorem ok_isend {f fW : Addr} {fd dW : FuncData} (F : Fun K "is_end" "is_end" sIsEnd f fd) (GW : FnOk P w K mg base CX0 2 fW dW ["value", "numbers"] (spIsWith K)) (gW : mg "is_name_with" = some (.ref fW)) (kW : PySem.W.keepIn K (.ref fW) = true) (bW : Binds K dW ["value", "numbers"] []) :
    FnOk P w K mg base CX0 3 f fd ["value"] (spKind K (withD [0, 1])) := by
  refine F.ok scIsEnd (fun vs H Q E h => ?_) (fun cdv A outer s H vs Q E hr h => ?_)
  · obtain ⟨p, v, d, rfl, _⟩ := h
    rfl
  · obtain ⟨p, v, d, rfl, D, hf, q⟩ := h
    refine ⟨_, pss_one (ps_ret (pe_call GW hr (by rfl) gW kW bW .nil pass0 (pa_cons (pv 0) (pa_cons (pe_tup (pa_cons pe_int (pa_cons pe_int pa_nil))) pa_nil)))), ?_⟩
    refine ⟨_, rfl, by show 2 ≤ sizeLine; decide, fun b hb => ?_⟩
    have sb := same_new (o := HO.tup [.int 0, .int 1]) hb
    exact ⟨p, b, v, d, [0, 1], rfl, da_keep sb.keepA D, hf, .inl (.inl upd_same), fun H' s => q H' (sb.trans s)⟩
end
end My
set_option Elab.async false
set_option linter.all false
set_option maxRecDepth 100000
set_option maxHeartbeats 4000000
/-! for x in v, v a list or a tuple -/
namespace My
open PySem PySem.Spec PyProof.Rows L2
structure SqIt (K : PySem.W.Frag) (J : It) (a : Addr) (xs : List V) (Sq : Hp → Prop) : Prop where
  go : ∀ i H, Sq H → i < xs.length → J.go i H
  stop : ∀ H, Sq H → J.stop xs.length H
  yld : ∀ i H x H', Sq H → J.yld i H x H' → i < xs.length → xs[i]? = some x ∧ H' = H
  keep : ∀ H H', Same H H' → Sq H → Sq H'
  keepP : ∀ p c n H H', PenAt H p c n → SameP p H H' → Sq H → Sq H'
  is : ∀ H, Sq H → SqL K H a xs ∨ SqT K H a xs
section
variable {K : PySem.W.Frag} {a : Addr} {xs : List V}
theorem sq_list : SqIt K (Itl K a) a xs (fun H => SqL K H a xs) where
  go := fun i H q lt => ⟨xs, xs[i], q, by simp [lt]⟩
  stop := fun H q => ⟨xs, q, Nat.le_refl _⟩
  yld := fun i H x H' q y lt => by
    obtain ⟨e, y⟩ := y
    exact ⟨y xs q, e⟩
  keep := fun _ _ s q => s.keeps.l _ _ q
  keepP := fun _ _ _ _ _ G s q => (s.keeps G).l _ _ q
  is := fun _ q => .inl q
theorem sq_tup : SqIt K (Itt K a) a xs (fun H => SqT K H a xs) where
  go := fun i H q lt => ⟨xs, xs[i], q, by simp [lt]⟩
  stop := fun H q => ⟨xs, q, Nat.le_refl _⟩
  yld := fun i H x H' q y lt => by
    obtain ⟨e, y⟩ := y
    exact ⟨y xs q, e⟩
  keep := fun _ _ s q => s.keeps.t _ _ q
  keepP := fun _ _ _ _ _ G s q => (s.keeps G).t _ _ q
  is := fun _ q => .inr q
end
/-- walked one way or the other -/
theorem pi_or {X : Cx} {tg e : Expr} {t1 t2 : TI} (a : PI X tg e t1) (b : PI X tg e t2) : PI X tg e (fun σ H R => t1 σ H R ∨ t2 σ H R) := ⟨fun pins s σ H R I h => h.elim (a.run pins s σ H R I) (b.run pins s σ H R I)⟩
theorem or_sq {K : PySem.W.Frag} {a : Addr} {xs : List V} {σ : L2.St} {H : Hp} {R : It → Hp → Prop} {i : Nat} {v : V} (hv : σ[i]? = some (some v)) (e : v = .ref a) (hs : SqL K H a xs ∨ SqT K H a xs) (q : ∀ J Sq, SqIt K J a xs Sq → Sq H → R J H) :
    iList K (tVar i) σ H R ∨ iTup K (tVar i) σ H R :=
  hs.elim (fun h => .inl ⟨v, hv, a, e, ⟨_, h⟩, q _ _ sq_list h⟩) (fun h => .inr ⟨v, hv, a, e, ⟨_, h⟩, q _ _ sq_tup h⟩)
/-- a comprehension over it, no test -/
def lcN_sq {K : PySem.W.Frag} {J : It} {a : Addr} {xs : List V} {Sq : Hp → Prop} (c : SqIt K J a xs Sq) {te : TE} {vs : List Nat} {σ : L2.St} {H1 : Hp} {D : Addr} {Qd : Hp → Prop} {j : Nat} (Pv : Nat → Hp → Prop) (h0 : Pv 0 (upd H1 D (.lst []))) (hl : ∀ i H, Pv i H → Sq H)
    (hs : ∀ i x H, xs[i]? = some x → Pv i H → wipe ((wipe σ vs).set j (some x)) vs = wipe σ vs ∧ Grows te D (Pv (i + 1)) ((wipe σ vs).set j (some x)) H) (hd : ∀ H, Pv xs.length H → Qd H) :=
  lcJ (J := J) (n := xs.length) (g := gName j) (tt := tYes) (te := te) (vs := vs) (σ := σ) (H1 := H1) (D := D) (Qd := Qd) Pv h0 (fun i H lt p => c.go i H (hl i H p) lt) (fun H p => c.stop H (hl _ H p))
    (fun i H v H' lt p y => by
      obtain ⟨e, rfl⟩ := c.yld i H v H' (hl i H p) y lt
      exact yes_turn (hs i v _ e p).1 (hs i v _ e p).2) hd
end My
set_option Elab.async false
set_option linter.all false
set_option maxRecDepth 100000
set_option maxHeartbeats 4000000
/-! sorted of lists and of tuples, what is known of the items kept -/
namespace My
open PySem PySem.Spec PyProof.Rows L2
open PySem.W (Datum DatumOrd EachIs)
section
variable {prog : Program} {w : World} {A : Around} {E : Value → Shared → Prop} {s : Shared}
theorem collect_tup {l : Addr} {vs : List Value} {Q : List Value → Shared → Prop} (hl : s.heap.IsTuple l vs.toArray) (hsz : vs.length ≤ sizeLine)
    (h : Q vs { s with heap := (s.heap.push (seqObj "list" #[] 0)).update s.heap.objs.size (Obj.mapSeq (· ++ vs.toArray)) }) : wpAny (model prog w) A (collect (.ref l)) Q E s := by
  obtain ⟨o, ho, hc, n, hd⟩ := id hl
  unfold collect
  refine wpAny_bind (wpAny_runValue (codeAny_builtin entry_proto_collect' ?_))
  show wpAny _ _ (do again (.builtin "list.__iadd__" ⟨[← newList [], .ref l], []⟩)) _ _ s
  refine wpAny_bind (wpAny_newList (wpAny_pure ⟨Code.quiet_builtin _ (by decide +kernel), codeAny_builtin entry_list_iadd' ?_⟩))
  show wpAny _ _ (Builtin.List.listExtendWith (.ref s.heap.objs.size) (.ref l) (.ref s.heap.objs.size)) _ _ { s with heap := s.heap.push (seqObj "list" #[] 0) }
  unfold Builtin.List.listExtendWith
  have ho' : (s.heap.push (seqObj "list" #[] 0)).get? l = some o := Heap.get?_push_of_some _ ho
  refine wpAny_bind (wpAny_typeOf (T := "tuple") ⟨o, ho', hc⟩ ?_)
  have ht : (Value.type "tuple" == Value.type "tuple") = true := by rfl
  rw [if_pos (by rw [ht]; simp)]
  refine wpAny_bind (listItems_at ho' hd ?_)
  refine wpAny_bind (listItems_at (xs := #[]) (n := 0) (Heap.get?_push_size _ rfl) rfl ?_)
  rw [if_neg (by simp)]
  refine wpAny_bind (listUpdate_at (xs := #[]) (n := 0) (Heap.get?_push_size _ rfl) rfl ?_ (Nat.zero_le _) (by show (#[] ++ vs.toArray).size ≤ sizeLine + 1; simp only [Array.size_append, List.size_toArray, List.length_nil]; omega))
  refine wpAny_pure ?_
  show wpAny (model prog w) A (do
      let o ← load s.heap.objs.size
      match o.data with
      | .seq xs _ => pure xs.toList
      | _ => unsupported "internal:collect") Q E { s with heap := (s.heap.push (seqObj "list" #[] 0)).update s.heap.objs.size (Obj.mapSeq (· ++ vs.toArray)) }
  refine wpAny_bind (wpAny_load (get?_update_seq (Heap.get?_push_size _ rfl) _) ?_)
  show wpAny _ _ (pure ((#[] : Array Value) ++ vs.toArray).toList) Q E _
  rw [show ((#[] : Array Value) ++ vs.toArray).toList = vs by simp]
  exact wpAny_pure h
open PySem.W in
theorem sorted_tup_vals {κ : PyProof.Rows.KeyKind} {l : Addr} {vs : List Value} {Q : Value → Shared → Prop} (hl : s.heap.IsTuple l vs.toArray) (S : SortsAt prog w A.in1.in1 { s with heap := sortingHeap (copyHeap s.heap vs) (s.heap.objs.size + 1) vs } κ vs) (hL : vs.length ≤ sizeLine)
    (h : Q (.ref (s.heap.objs.size + 1)) { s with heap := sortedAll s.heap vs (sortVals κ false vs vs).toArray }) : wpAny (model prog w) A (call (.builtin "sorted") [.ref l]) Q E s := by
  refine Calls.call_function_entry kind_sorted plain_sorted entry_sorted (args_sorted1 _) ?_
  unfold Builtin.«sorted»
  refine wpAny_bind (m := checkCount "sorted" 1 1 _) (wpAny_pure ?_)
  refine wpAny_bind (collect_tup hl hL ?_)
  refine wpAny_bind (wpAny_newList ?_ hL)
  have hsz : ((s.heap.push (seqObj "list" #[] 0)).update s.heap.objs.size (Obj.mapSeq (· ++ vs.toArray))).objs.size = s.heap.objs.size + 1 := by
    rw [Heap.size_update, size_push']
  show wpAny _ _ _ _ _ { s with heap := copyHeap s.heap vs }
  rw [hsz]
  refine wpAny_bind (wpAny_holding (wpAny_call_entry slot_list_sort ⟨_, copyHeap_at s.heap vs, rfl⟩ entry_list_sort (list_sort_vals (s := { s with heap := copyHeap s.heap vs }) (copyHeap_at s.heap vs) S hL ⟨_, rfl, ?_⟩) (args_list_sort _)))
  exact wpAny_pure ⟨_, rfl, h⟩
open PySem.W in
theorem sorted_tup_data {β : Type} {R : Value → β → Prop} {enc : β → PyData} {vs : List Value} {bs : List β} {l : Addr} {Q : Value → Shared → Prop} (hl : s.heap.IsTuple l vs.toArray) (e : EachIs R vs bs) (er : EachIs (fun v b => ∃ as, Reads s.heap v (enc b) as) vs bs) (hal : AllAlike (bs.map enc)) (hk : Sortable (bs.map enc)) (hL : bs.length ≤ sizeLine)
    (hu : ∀ b, b ∈ bs → A.units + 2 + (enc b).depth < cLine) (h : ∀ out, out.length = bs.length → EachIs R out (bs.mergeSort (dataLe false enc)) → Q (.ref (s.heap.objs.size + 1)) { s with heap := sortedAll s.heap vs (List.toArray out) }) :
    wpAny (model prog w) A (call (.builtin "sorted") [.ref l]) Q E s := by
  have er' : EachIs (fun v b => ∃ as, Reads (sortingHeap (copyHeap s.heap vs) (s.heap.objs.size + 1) vs) v (enc b) as) vs bs := er.mono fun _ _ ⟨as, r⟩ => ⟨as, PyProof.Rows.Reads.keeps (fun _ _ => sorting_copy_old) r⟩
  exact sorted_tup_vals hl (SortsAt.data (s := { s with heap := sortingHeap (copyHeap s.heap vs) (s.heap.objs.size + 1) vs }) (each_map (R := fun v d => ∃ as, Reads (sortingHeap (copyHeap s.heap vs) (s.heap.objs.size + 1) vs) v d as) enc er') hal hk (bound_map hu)) (by rw [e.length]; exact hL)
    (h _ (by rw [sortVals_length false rfl]; exact e.length) (sortVals_data false e er' hal))
end
section
variable {X : Cx} {α : Type} [DecidableEq α] [DatumOrd α]
/-- sorted(list or tuple): the items with what is known of them, in order -/
def rSortR (α : Type) [DecidableEq α] [DatumOrd α] (K : PySem.W.Frag) : List V → Hp → VK → Prop := fun xs H Q => ∃ (R : V → α → Prop) (a : Addr) (vs : List V) (bs : List α), xs = [.ref a] ∧ (SqL K H a vs ∨ SqT K H a vs) ∧ EachIs R vs bs ∧ (∀ v b, R v b → Dt K H v (Datum.toD b)) ∧ bs.length ≤ 1000 ∧
  ∀ (p : Addr) (ws : List V), H p = none → EachIs R ws (sortO bs) → Q (.ref p) (upd H p (.lst ws))
theorem each_valsR {R : V → α → Prop} {pins : List (Addr × Obj)} {σ : L2.St} {H : Hp} {s : Shared} (I : Inv X pins σ H s) (hR : ∀ v b, R v b → Dt X.K H v (Datum.toD b)) : ∀ {bs : List α} {vs : List V} {its : List Value}, Vals vs its → EachIs R vs bs →
    EachIs (fun v b => ∃ x, RelV x v ∧ R x b) its bs ∧ EachIs (fun v b => ∃ as, Reads s.heap v (Datum.toD b) as) its bs
  | [], _, _, r, h => by
    cases h
    cases r
    exact ⟨.nil, .nil⟩
  | b :: bs, _, _, r, h => by
    cases h with
    | cons h1 h2 =>
      cases r with
      | cons r1 r2 =>
        obtain ⟨e1, e2⟩ := each_valsR I hR r2 h2
        exact ⟨.cons ⟨_, r1, h1⟩ e1, .cons (Dp.reads I _ _ _ (dt_dp (hR _ _ h1)) r1) e2⟩
theorem vals_eachR {R : V → α → Prop} : ∀ {bs : List α} {out : List Value}, EachIs (fun v b => ∃ x, RelV x v ∧ R x b) out bs → ∃ ws : List V, Vals ws out ∧ EachIs R ws bs
  | _, _, .nil => ⟨[], .nil, .nil⟩
  | _, _, .cons h r => by
    obtain ⟨x, rx, hx⟩ := h
    obtain ⟨ws, h1, h2⟩ := vals_eachR r
    exact ⟨x :: ws, .cons rx h1, .cons hx h2⟩
theorem call_sortR (hs : ∀ bs : List α, PySem.W.Sortable (bs.map Datum.toD)) (hu : X.A.units + 2 + Datum.depth α < cLine) : CallR X (.builtin "sorted") (rSortR α X.K) := by
  intro pins s σ H xs us Q I rv h
  obtain ⟨R, a, vs, bs, rfl, hl, hb, hR, few, q⟩ := h
  rw [Vals.ref1 rv]
  have fin : ∀ {its : List Value}, Vals vs its → ∀ out : List Value, out.length = bs.length → EachIs (fun v b => ∃ x, RelV x v ∧ R x b) out (bs.mergeSort (PySem.W.dataLe false fun b : α => Datum.toD b)) → EP X pins σ Q (.ref (s.heap.objs.size + 1)) { s with heap := sortedAll s.heap its (List.toArray out) } := fun {its} rr out hlen ho => by
    rw [leO_eq] at ho
    obtain ⟨ws, rw', hw⟩ := vals_eachR ho
    obtain ⟨ep, he'⟩ := PyProof.Rows.sortedAll_at s.heap its out.toArray
    have hws : ws.length ≤ sizeLine := by
      have := rw'.length
      rw [sizeLine_eq]
      omega
    exact ⟨.ref _, upd H (s.heap.objs.size + 1) (.lst ws), I.laid (t' := s.toks) (fun _ _ => PyProof.Rows.sortedAll_old) (Nat.le_succ _) ⟨hws, out, ep, rw', he'⟩, rfl, q _ _ (I.hok.fresh (Nat.le_succ _)) hw⟩
  have hal : PySem.W.AllAlike (bs.map Datum.toD) := PySem.W.AllAlike.of fun b b' => DatumOrd.alike b b'
  have hsz : bs.length ≤ sizeLine := by rw [sizeLine_eq]; omega
  have hdp : ∀ b, b ∈ bs → X.A.units + 2 + (Datum.toD b).depth < cLine := fun b _ => Nat.lt_of_le_of_lt (Nat.add_le_add_left (Datum.depth_le b) _) hu
  rcases hl with hl | hl
  · obtain ⟨its, rr, il, _⟩ := I.list hl
    obtain ⟨e1, e2⟩ := each_valsR I hR rr hb
    exact PySem.W.sorted_data (R := fun v b => ∃ x, RelV x v ∧ R x b) (enc := fun b : α => Datum.toD b) il.isList e1 e2 hal (hs bs) hsz hdp (fin rr)
  · obtain ⟨its, rr, ⟨o, ho, hc, n, hd⟩, _⟩ := I.tuple hl
    obtain ⟨e1, e2⟩ := each_valsR I hR rr hb
    exact sorted_tup_data (R := fun v b => ∃ x, RelV x v ∧ R x b) (enc := fun b : α => Datum.toD b) ⟨o, ho, hc, n, hd⟩ e1 e2 hal (hs bs) hsz hdp (fin rr)
theorem sortable_str (bs : List Str) : PySem.W.Sortable (bs.map Datum.toD) := PySem.W.Sortable.others fun b => ⟨(fun e => nomatch e), fun xs e => nomatch e⟩
theorem sortable_pair {α β : Type} [DecidableEq α] [DatumOrd α] [DecidableEq β] [DatumOrd β] (bs : List (α × β)) : PySem.W.Sortable (bs.map Datum.toD) := PySem.W.Sortable.tuples fun b => ⟨_, _, rfl⟩
/-- the texts of a list stand for themselves -/
theorem each_strs : ∀ ns : List Str, EachIs (fun v x => v = V.str x) (ns.map V.str) ns
  | [] => .nil
  | n :: ns => .cons rfl (each_strs ns)
theorem strs_each : ∀ {ws : List V} {ns : List Str}, EachIs (fun v x => v = V.str x) ws ns → ws = ns.map V.str
  | _, _, .nil => rfl
  | _, _, .cons h r => by rw [h, strs_each r, List.map_cons]
end
end My
set_option Elab.async false
set_option linter.all false
set_option maxRecDepth 100000
set_option maxHeartbeats 4000000
/-! layouts in the heap: ends, couplings, dicts of partners -/
namespace My
open PySem PySem.Spec PyProof.Rows L2
open PySem.W (Datum DatumOrd EachIs)
/-! ### lists of things that stand for others -/
section
variable {α β : Type} {R : α → β → Prop}
theorem each_app : ∀ {as as' : List α} {bs bs' : List β}, EachIs R as bs → EachIs R as' bs' → EachIs R (as ++ as') (bs ++ bs')
  | _, _, _, _, .nil, h => h
  | _, _, _, _, .cons a b, h => .cons a (each_app b h)
theorem each_at : ∀ {as : List α} {bs : List β} {i : Nat} {a : α}, EachIs R as bs → as[i]? = some a → ∃ b, bs[i]? = some b ∧ R a b
  | _, _, 0, _, .cons a _, h => by
    cases h
    exact ⟨_, rfl, a⟩
  | _, _, i + 1, _, .cons _ b, h => each_at (i := i) b h
theorem each_atr : ∀ {as : List α} {bs : List β} {i : Nat} {b : β}, EachIs R as bs → bs[i]? = some b → ∃ a, as[i]? = some a ∧ R a b
  | _, _, 0, _, .cons a _, h => by
    cases h
    exact ⟨_, rfl, a⟩
  | _, _, i + 1, _, .cons _ b, h => each_atr (i := i) b h
theorem each_perm {as as' : List α} (p : as.Perm as') : ∀ {bs : List β}, EachIs R as bs → ∃ bs', bs'.Perm bs ∧ EachIs R as' bs' := by
  induction p with
  | nil => exact fun h => ⟨_, .refl _, h⟩
  | cons x _ ih =>
    intro bs h
    cases h with
    | cons a b =>
      obtain ⟨bs', p, h⟩ := ih b
      exact ⟨_ :: bs', p.cons _, .cons a h⟩
  | swap x y l =>
    intro bs h
    cases h with
    | cons a b =>
      cases b with
      | cons b c => exact ⟨_ :: _ :: _, .swap _ _ _, .cons b (.cons a c)⟩
  | trans _ _ ih1 ih2 =>
    intro bs h
    obtain ⟨b1, p1, h1⟩ := ih1 h
    obtain ⟨b2, p2, h2⟩ := ih2 h1
    exact ⟨b2, p2.trans p1, h2⟩
end
/-- tracked tuples stay -/
def TupK (H H' : Hp) : Prop := ∀ a xs, H a = some (.tup xs) → H' a = some (.tup xs)
theorem TupK.refl {H : Hp} : TupK H H := fun _ _ h => h
theorem TupK.trans {H H1 H2 : Hp} (a : TupK H H1) (b : TupK H1 H2) : TupK H H2 := fun _ _ h => b _ _ (a _ _ h)
theorem _root_.L2.Same.tupK {H H' : Hp} (s : Same H H') : TupK H H' := fun _ _ h => s _ _ h
theorem SameP.tupK {H H' : Hp} {p c : Addr} {n : Nat} (s : SameP p H H') (G : PenAt H p c n) : TupK H H' := fun _ _ h => s _ _ (sameP_ne G h fun _ z => nomatch z) h
theorem TupK.at {H : Hp} {a : Addr} {o : HO} (h : ∀ xs, H a ≠ some (.tup xs)) : TupK H (upd H a o) := fun b xs e => (upd_ne fun z => h xs (by rw [← z]; exact e)).trans e
/-! ### ends -/
def kE (e : EndT) : List Key := [.inr e.1, .inl e.2]
theorem kE_inj {e q : EndT} (h : kE e = kE q) : e = q := by
  injection h with h1 h2
  injection h2 with h2 _
  exact Prod.ext (Sum.inr.inj h1) (Sum.inl.inj h2)
def EndV (H : Hp) (v : V) (e : EndT) : Prop := ∃ a, v = .ref a ∧ H a = some (.tup [.str e.1, .int e.2])
def CoupV (H : Hp) (v : V) (c : CoupT) : Prop := ∃ a u1 u2, v = .ref a ∧ H a = some (.tup [u1, u2]) ∧ EndV H u1 c.1 ∧ EndV H u2 c.2
section
variable {K : PySem.W.Frag} {H H' : Hp} {v : V}
theorem EndV.keep (s : TupK H H') {e : EndT} (h : EndV H v e) : EndV H' v e := let ⟨a, e1, e2⟩ := h; ⟨a, e1, s _ _ e2⟩
theorem CoupV.keep (s : TupK H H') {c : CoupT} (h : CoupV H v c) : CoupV H' v c := let ⟨a, u1, u2, e1, e2, e3, e4⟩ := h; ⟨a, u1, u2, e1, s _ _ e2, e3.keep s, e4.keep s⟩
theorem EndV.dt {e : EndT} (h : EndV H v e) : Hd1 K H v e := by
  obtain ⟨a, rfl, h⟩ := h
  exact .tup (.inl (.inl h)) (.two (.str _) (.int _))
theorem CoupV.dt {c : CoupT} (h : CoupV H v c) : Hd1 K H v c := by
  obtain ⟨a, u1, u2, rfl, h, h1, h2⟩ := h
  exact .tup (.inl (.inl h)) (.two h1.dt h2.dt)
theorem ends_keep (s : TupK H H') {vs : List V} {es : List EndT} (h : EachIs (EndV H) vs es) : EachIs (EndV H') vs es := h.mono fun _ _ z => z.keep s
theorem coups_keep (s : TupK H H') {vs : List V} {es : List CoupT} (h : EachIs (CoupV H) vs es) : EachIs (CoupV H') vs es := h.mono fun _ _ z => z.keep s
theorem each_dt {α : Type} [DecidableEq α] [Datum α] {R : V → α → Prop} (hR : ∀ v b, R v b → Hd1 K H v b) : ∀ {vs : List V} {bs : List α}, EachIs R vs bs → HdAll K H vs bs
  | _, _, .nil => .nil
  | _, _, .cons a b => .cons (hR _ _ a) (each_dt hR b)
/-- an end's value: two items -/
theorem end_new {a : Addr} (h : H a = none) (n : Str) (i : Int) : EndV (upd H a (.tup [.str n, .int i])) (.ref a) (n, i) := ⟨a, rfl, upd_same⟩
/-! ### the dict of partners -/
def DicE (H : Hp) (D : Addr) (kv : List (EndT × EndT)) : Prop := ∃ kvs : List (List Key × V), H D = some (.dT kvs) ∧ EachIs (fun p q => p.1 = kE q.1 ∧ EndV H p.2 q.2) kvs kv
theorem dic_val {kvs : List (List Key × V)} {kv : List (EndT × EndT)} (h : EachIs (fun p q => p.1 = kE q.1 ∧ EndV H p.2 q.2) kvs kv) (e : EndT) :
    (lookE kv e = none ∧ valV kvs (kE e) = none) ∨ ∃ q v, lookE kv e = some q ∧ valV kvs (kE e) = some v ∧ EndV H v q := by
  induction h with
  | nil => exact .inl ⟨rfl, rfl⟩
  | @cons p q ps qs hh t ih =>
    by_cases z : q.1 = e
    · refine .inr ⟨q.2, p.2, ?_, valV_pos (hh.1.trans (congrArg kE z)), hh.2⟩
      unfold lookE
      rw [List.find?_cons_of_pos (by simpa using z)]
      rfl
    · have e1 : lookE (q :: qs) e = lookE qs e := by
        unfold lookE
        rw [List.find?_cons_of_neg (by simpa using z)]
      have e2 : valV (p :: ps) (kE e) = valV ps (kE e) := valV_neg fun y => z (kE_inj (hh.1.symm.trans y))
      rw [e1, e2]
      exact ih
theorem DicE.keep (s : TupK H H') {D : Addr} {kv : List (EndT × EndT)} (e : ∀ kvs, H D = some (.dT kvs) → H' D = some (.dT kvs)) (h : DicE H D kv) : DicE H' D kv :=
  let ⟨kvs, h1, h2⟩ := h; ⟨kvs, e _ h1, h2.mono fun _ _ z => ⟨z.1, z.2.keep s⟩⟩
theorem DicE.same (s : Same H H') {D : Addr} {kv : List (EndT × EndT)} (h : DicE H D kv) : DicE H' D kv := h.keep s.tupK fun _ e => s _ _ e
/-- a name's end in it or not -/
theorem DicE.get {D : Addr} {kv : List (EndT × EndT)} (h : DicE H D kv) {v : V} {e : EndT} (he : EndV H v e) : ∃ o, DGet H D v o ∧ ((lookE kv e = none ∧ o = none) ∨ ∃ q u, lookE kv e = some q ∧ o = some u ∧ EndV H u q) := by
  obtain ⟨kvs, h1, h2⟩ := h
  obtain ⟨b, rfl, hb⟩ := he
  refine ⟨_, DGet.t (k := kE e) h1 hb, ?_⟩
  rcases dic_val h2 e with ⟨a, b⟩ | ⟨q, v, a, b, c⟩
  · exact .inl ⟨a, b⟩
  · exact .inr ⟨q, v, a, b, c⟩
/-- a new key -/
theorem DicE.put {D : Addr} {kv : List (EndT × EndT)} (h : DicE H D kv) {v u : V} {e q : EndT} (he : EndV H v e) (hq : EndV H u q) (hn : lookE kv e = none) (few : kv.length ≤ 10000) :
    ∃ H', DPut H D v u H' ∧ DicE H' D (kv ++ [(e, q)]) ∧ TupK H H' ∧ ∀ b o, b ≠ D → H b = some o → H' b = some o := by
  obtain ⟨kvs, h1, h2⟩ := h
  obtain ⟨b, rfl, hb⟩ := he
  have hv : valV kvs (kE e) = none := by
    rcases dic_val h2 e with ⟨_, z⟩ | ⟨q, v, z, _⟩
    · exact z
    · rw [hn] at z
      cases z
  have tk : TupK H (upd H D (.dT (putK kvs (kE e) u))) := .at fun xs z => by rw [h1] at z; cases z
  refine ⟨_, DPut.t (k := kE e) h1 hb (by rw [h2.length]; exact Evl.sz_lt (by omega)), ⟨_, upd_same, ?_⟩, tk, fun b o n z => (upd_ne n).trans z⟩
  rw [putK_new u hv] at tk ⊢
  exact each_app (h2.mono fun _ _ z => ⟨z.1, z.2.keep tk⟩) (.cons ⟨rfl, hq.keep tk⟩ .nil)
end
/-! ### a for over a list or a tuple -/
def for_sq {K : PySem.W.Frag} {J : It} {a : Addr} {xs : List V} {Sq : Hp → Prop} (c : SqIt K J a xs Sq) {g : TG} {tb : TS} {D : Ends} {σ : L2.St} {H : Hp} (Pv : Nat → L2.St → Hp → Prop) (h0 : Pv 0 σ H) (hl : ∀ i σ H, Pv i σ H → Sq H)
    (hs : ∀ i x σ H, xs[i]? = some x → Pv i σ H → g x σ H fun σ2 H2 => tb { D with nx := Pv (i + 1), ct := Pv (i + 1), bk := D.nx } σ2 H2) (hd : ∀ σ H, Pv xs.length σ H → D.nx σ H) :
    ∃ W : Nat → Nat → L2.St → Hp → Prop, (∃ m, W 0 m σ H) ∧ ∀ i m σ H, W i m σ H →
      (J.stop i H ∧ D.nx σ H) ∨ (J.go i H ∧ ∃ N : L2.St → Hp → Prop, (∀ σ' H', N σ' H' → ∃ m', m' < m ∧ W (i + 1) m' σ' H') ∧ ∀ x H', J.yld i H x H' → g x σ H' fun σ2 H2 => tb { D with nx := N, ct := N, bk := D.nx } σ2 H2) := by
  refine ⟨fun i m σ H => m = xs.length - i ∧ i ≤ xs.length ∧ Pv i σ H, ⟨xs.length, by simp, Nat.zero_le _, h0⟩, ?_⟩
  rintro i m σ H ⟨rfl, hi, p⟩
  have q := hl i σ H p
  by_cases hlt : i < xs.length
  · refine .inr ⟨c.go i H q hlt, Pv (i + 1), fun σ' H' p' => ⟨xs.length - (i + 1), by omega, rfl, hlt, p'⟩, fun x H' y => ?_⟩
    obtain ⟨e, rfl⟩ := c.yld i H x H' q y hlt
    exact hs i x σ _ e p
  · have e : i = xs.length := by omega
    subst e
    exact .inl ⟨c.stop H q, hd σ H p⟩
end My
set_option Elab.async false
set_option linter.all false
set_option maxRecDepth 100000
set_option maxHeartbeats 4000000
/-! is_name_list, is_end_pair: of any value -/
namespace My
open PySem PySem.Spec PyProof.Rows L2
open PySem.W (Datum DatumOrd EachIs)
def isSeq : PyData → Bool
  | .tuple _ => true
  | .list _ => true
  | _ => false
def isLst : PyData → Bool
  | .list _ => true
  | _ => false
theorem kit_list : ∀ d : PyData, kitB (kindD d) "list" = some (isLst d)
  | .none => by decide +kernel
  | .bool _ => by
    show kitB "bool" "list" = some false
    decide +kernel
  | .int _ => by
    show kitB "int" "list" = some false
    decide +kernel
  | .str _ => by
    show kitB "str" "list" = some false
    decide +kernel
  | .tuple _ => by
    show kitB "tuple" "list" = some false
    decide +kernel
  | .list _ => by
    show kitB "list" "list" = some true
    decide +kernel
  | .dict _ => by
    show kitB "dict" "list" = some false
    decide +kernel
theorem kit_seq {K : PySem.W.Frag} (d : PyData) : PySem.W.kitAny K (.type (kindD d)) [.type "list", .type "tuple"] = some (isSeq d) := by
  cases d with
  | list ds => exact kitAny_cons (kit_ty (kit_list (.list ds))) (fun z => by cases z) fun _ => rfl
  | tuple ds => exact kitAny_cons (kit_ty (kit_list (.tuple ds))) (fun _ => kitAny_cons (kit_ty (kit_tuple (.tuple ds))) (fun z => by cases z) fun _ => rfl) fun z => by cases z
  | none => exact kitAny_cons (kit_ty (kit_list .none)) (fun _ => kitAny_cons (kit_ty (kit_tuple .none)) (fun _ => kitAny_nil) fun z => by cases z) fun z => by cases z
  | bool b => exact kitAny_cons (kit_ty (kit_list (.bool b))) (fun _ => kitAny_cons (kit_ty (kit_tuple (.bool b))) (fun _ => kitAny_nil) fun z => by cases z) fun z => by cases z
  | int b => exact kitAny_cons (kit_ty (kit_list (.int b))) (fun _ => kitAny_cons (kit_ty (kit_tuple (.int b))) (fun _ => kitAny_nil) fun z => by cases z) fun z => by cases z
  | str b => exact kitAny_cons (kit_ty (kit_list (.str b))) (fun _ => kitAny_cons (kit_ty (kit_tuple (.str b))) (fun _ => kitAny_nil) fun z => by cases z) fun z => by cases z
  | dict b => exact kitAny_cons (kit_ty (kit_list (.dict b))) (fun _ => kitAny_cons (kit_ty (kit_tuple (.dict b))) (fun _ => kitAny_nil) fun z => by cases z) fun z => by cases z
/-- the texts among some data -/
def strD : PyData → Str
  | .str x => x
  | _ => Str.empty
def seqD : PyData → List PyData
  | .tuple ds => ds
  | .list ds => ds
  | _ => []
/-- a list of different names -/
def nlD (d : PyData) : Bool := isSeq d && ((seqD d).all nmD && decide (((seqD d).map strD).Nodup))
def epD : PyData → Bool
  | .tuple [a, b] => withD [0, 1] a && withD [0, 1] b
  | _ => false
theorem seq_at {K : PySem.W.Frag} {p : Addr} {H : Hp} {d : PyData} {v : V} (h : Da K p H v d) (s : isSeq d = true) : ∃ a xs, v = .ref a ∧ (SqL K H a xs ∨ SqT K H a xs) ∧ DaAll K p H xs (seqD d) := by
  cases h with
  | lst _ b c => exact ⟨_, _, rfl, .inl b, c⟩
  | tup b c => exact ⟨_, _, rfl, .inr b, c⟩
  | _ => cases s
theorem strs_of {K : PySem.W.Frag} {p : Addr} {H : Hp} : ∀ {ds : List PyData} {xs : List V}, DaAll K p H xs ds → ds.all nmD = true → xs = (ds.map strD).map V.str
  | [], _, .nil, _ => rfl
  | d :: ds, _, .cons a b, h => by
    rw [List.all_cons, Bool.and_eq_true] at h
    have ih := strs_of b h.2
    cases d with
    | str x =>
      cases a
      rw [ih]
      rfl
    | _ => cases h.1
theorem keys_strs (ns : List Str) : ns.map V.str = (ns.map (fun n => (Sum.inr n : Key))).map kV := by
  rw [List.map_map]
  rfl
theorem keys_nodup {ns : List Str} : (ns.map fun n => (Sum.inr n : Key)).Nodup ↔ ns.Nodup := by
  constructor
  · exact fun h => List.Pairwise.of_map _ (fun a b n e => n (congrArg _ e)) h
  · exact fun h => List.Pairwise.map _ (fun a b n e => n (Sum.inr.inj e)) h
section
variable {P : Program} {w : World} {K : PySem.W.Frag} {mg : Str → Option Value} {base : Heap}
theorem sq_ty {H : Hp} {a : Addr} {xs : List V} (h : SqL K H a xs ∨ SqT K H a xs) : ∃ n : String, TyX K H (.ref a) (.type n) ∧ PySem.W.kitAny K (.type n) [.type "list", .type "tuple"] = some true := by
  rcases h with ((e | ⟨o, e⟩) | ⟨o, its, n, e, c, _⟩) | ((e | ⟨o, e⟩) | ⟨o, its, n, e, c, _⟩)
  · exact ⟨_, .base (.lst e), kit_seq (.list [])⟩
  · exact ⟨_, .base (.frz e), kit_seq (.list [])⟩
  · exact ⟨_, .kList e c, kit_seq (.list [])⟩
  · exact ⟨_, .base (.tup e), kit_seq (.tuple [])⟩
  · exact ⟨_, .fTuple e, kit_seq (.tuple [])⟩
  · exact ⟨_, .kTuple e c, kit_seq (.tuple [])⟩
/-- a value; or a list or a tuple of such -/
def NlV (K : PySem.W.Frag) (p : Addr) (H : Hp) (v : V) (d : PyData) : Prop := Da K p H v d ∨ ∃ a xs, v = .ref a ∧ (SqL K H a xs ∨ SqT K H a xs) ∧ isSeq d = true ∧ DaAll K p H xs (seqD d)
theorem NlV.keep {p : Addr} {H H' : Hp} {v : V} {d : PyData} (s : KeepA K p H H') : NlV K p H v d → NlV K p H' v d
  | .inl h => .inl (da_keep s h)
  | .inr ⟨a, xs, e, h, i, g⟩ => .inr ⟨a, xs, e, h.imp (s.l _ _) (s.t _ _), i, da_keepAll s g⟩
theorem NlV.ty {p : Addr} {H : Hp} {v : V} {d : PyData} (h : NlV K p H v d) : ∃ n : String, TyX K H v (.type n) ∧ PySem.W.kitAny K (.type n) [.type "list", .type "tuple"] = some (isSeq d) := by
  rcases h with h | ⟨a, xs, rfl, h, i, _⟩
  · exact ⟨_, da_ty h, kit_seq d⟩
  · rw [i]
    exact sq_ty h
theorem NlV.seq {p : Addr} {H : Hp} {v : V} {d : PyData} (h : NlV K p H v d) (s : isSeq d = true) : ∃ a xs, v = .ref a ∧ (SqL K H a xs ∨ SqT K H a xs) ∧ DaAll K p H xs (seqD d) := by
  rcases h with h | ⟨a, xs, e, h, _, g⟩
  · exact seq_at h s
  · exact ⟨a, xs, e, h, g⟩
def spNL (K : PySem.W.Frag) : Sp := fun vs H Q _ => ∃ (p : Addr) (v : V) (d : PyData), vs = [v] ∧ NlV K p H v d ∧ (seqD d).length ≤ 1000 ∧ (∀ e ∈ seqD d, ∀ x, e = .str x → x.length ≤ 100000) ∧ ∀ H', Same H H' → Q (.bl (nlD d)) H'
open Classical in
theorem ok_isnl {f fN : Addr} {fd dN : FuncData} (F : Fun K "is_name_list" "is_name_list" sIsNameList f fd) (B : Glb mg) (GN : Has P w K mg base 1 "is_name" ["value"] (spIsName K) fN dN) : FnOk P w K mg base CX0 2 f fd ["value"] (spNL K) := by
  refine F.ok scIsNameList (fun vs H Q E h => ?_) (fun cdv A outer s H vs Q E hr h => ?_)
  · obtain ⟨p, v, d, rfl, _⟩ := h
    rfl
  · obtain ⟨p, v, d, rfl, D, hl, hf, q⟩ := h
    refine ⟨_, pss_cons (ps_if (PW.pt (pw_or (pt_not (pt_val (pe_callB call_isiT (by rfl) B.isi boot_isinstance (pa_cons (pv 0) (pa_cons (pe_tup (pa_cons (pe_bltn (v := .ty "list") (by rfl) B.list (by decide +kernel) rfl) (pa_cons (pe_bltn (v := .ty "tuple") (by rfl) B.tuple boot_tuple rfl) pa_nil))) pa_nil)))))
        (pw_or1 (pt_not (pt_val (pe_callB (cr_all rfl) (by rfl) B.all (by decide +kernel) (pa_cons (pe_lc (own := [("name", 1)]) (g := gName 1) (tt := tYes) rfl scIsNameList.nd (pi_or (pi_list (pv 0)) (pi_tup (pv 0)))
          (blkOk_by (own := [("name", 1)]) (N := ["value", "name"]) (sc := defScope sIsNameList) (by decide +kernel)) (fun _ _ _ _ _ => pg_name (i := 1) scIsNameList.nd rfl (Or.inl rfl)) (fun _ _ _ _ _ => pts_nil)
          (fun _ _ _ _ _ => pe_has GN hr (by rfl) (pa_cons (pv 1) pa_nil))) pa_nil))))))) (pss_one (ps_ret pe_bl)) pss_nil)
      (pss_one (ps_ret (pe_cmpR op_eq (pe_callB call_lenK (by rfl) B.len PySem.boot_len (pa_cons (pe_callTy (call_setOf rfl) (by rfl) B.set (by decide +kernel) (pa_cons (pv 0) pa_nil)) pa_nil))
        (pe_callB call_len (by rfl) B.len PySem.boot_len (pa_cons (pv 0) pa_nil)) (nomark _)))), ?_⟩
    refine ⟨_, rfl, by show 2 ≤ sizeLine; decide, fun tp htp => ?_⟩
    have s1 := same_new (o := HO.tup [.ty "list", .ty "tuple"]) htp
    have D1 := D.keep s1.keepA
    obtain ⟨tn, ty, kt⟩ := D1.ty
    have e1 : (upd H tp (.tup [.ty "list", .ty "tuple"])) tp = some (.tup [.ty "list", .ty "tuple"]) := upd_same
    refine ⟨v, tp, [.ty "list", .ty "tuple"], _, [.type "list", .type "tuple"], _, rfl, e1, .cons (.ty _) (.cons (.ty _) .nil), ty, kt, _, rfl, ?_⟩
    generalize upd H tp (.tup [.ty "list", .ty "tuple"]) = H1 at s1 D1 ty
    cases hi : isSeq d with
    | false =>
      refine iteT ?_
      rw [show false = nlD d by unfold nlD; rw [hi]; rfl]
      exact q _ s1
    | true =>
      obtain ⟨a, xs, rfl, hs, hd⟩ := D1.seq hi
      have ll := hd.length
      refine iteF (or_sq (i := 0) rfl rfl hs fun J Sq c hq => fun Dl hD => ?_)
      refine lcN_sq c (fun i H' => H' Dl = some (.lst ((((seqD d).take i).map nmD).map V.bl)) ∧ Same H1 H') ⟨upd_same, same_new hD⟩ (fun i H' hp => c.keep _ _ hp.2 hq) (fun i x H' hx hp => ⟨rfl, ?_⟩) (fun H' hp => ?_)
      · obtain ⟨e, he, De⟩ := hd.at hx
        refine ⟨_, rfl, p, x, e, rfl, da_keep hp.2.keepA De, hf e (List.mem_of_getElem? he), fun H2 s2 => ?_⟩
        refine ⟨_, s2 _ _ hp.1, Evl.sz_lt ?_, ?_, ?_⟩
        · rw [List.length_map, List.length_map, List.length_take]
          omega
        · rw [upd_same, List.take_add_one, he, List.map_append, List.map_append]
          rfl
        · intro b o z
          rw [upd_ne (ne_of_none z hD)]
          exact s2 b o (hp.2 b o z)
      · obtain ⟨eD, sm⟩ := hp
        rw [ll, List.take_length] at eD
        refine ⟨Dl, (seqD d).map nmD, rfl, .inl (.inl eD), _, rfl, ?_⟩
        rw [all_with]
        cases ha : (seqD d).all nmD with
        | false =>
          refine iteT ?_
          rw [show false = nlD d by unfold nlD; rw [hi, ha]; rfl]
          exact q _ (s1.trans sm)
        | true =>
          have ek := strs_of hd ha
          have hs' : SqL K H' a xs ∨ SqT K H' a xs := hs.imp (sm.keeps.l _ _) (sm.keeps.t _ _)
          have lk : (((seqD d).map strD).map fun n => (Sum.inr n : Key)).length = xs.length := by rw [List.length_map, List.length_map, ll]
          refine iteF ⟨_, rfl, a, ((seqD d).map strD).map (fun n => (Sum.inr n : Key)), rfl, by rw [← keys_strs, ← ek]; exact hs', by rw [lk]; omega, fun Ds hDs => ?_⟩
          have s3 := same_new (o := SetK P w Ds (inK (metK [] (((seqD d).map strD).map (fun n => (Sum.inr n : Key))))) (metK [] (((seqD d).map strD).map (fun n => (Sum.inr n : Key)))).length) hDs
          have few := len_metK_le (((seqD d).map strD).map (fun n => (Sum.inr n : Key))) []
          rw [List.length_nil] at few
          refine ⟨Ds, _, _, rfl, upd_same, by omega, _, rfl, .ref a, xs.length, rfl, hs'.elim (fun z => .inl ⟨_, s3.keeps.l _ _ z, rfl⟩) (fun z => .inr ⟨_, s3.keeps.t _ _ z, rfl⟩), rfl, ?_⟩
          have iff := len_metK_eq (((seqD d).map strD).map (fun n => (Sum.inr n : Key))) [] List.nodup_nil
          rw [List.length_nil, Nat.zero_add, List.nil_append, lk, keys_nodup] at iff
          rw [show decide (V.int ((metK [] (((seqD d).map strD).map (fun n => (Sum.inr n : Key)))).length : Int) = V.int (xs.length : Int)) = nlD d by
            unfold nlD
            rw [hi, ha, Bool.true_and, Bool.true_and]
            refine decide_eq_decide.mpr ⟨fun z => iff.mp ?_, fun z => ?_⟩
            · have := V.int.inj z
              omega
            · rw [iff.mpr z]]
          exact q _ ((s1.trans sm).trans s3)
end
end My
set_option Elab.async false
set_option linter.all false
set_option maxRecDepth 100000
set_option maxHeartbeats 4000000
/-! is_end_pair of any value; can_be_added of a coupling that can be -/
namespace My
open PySem PySem.Spec PyProof.Rows L2
open PySem.W (Datum DatumOrd EachIs)
section
variable {P : Program} {w : World} {K : PySem.W.Frag} {mg : Str → Option Value} {base : Heap}
def spEP (K : PySem.W.Frag) : Sp := fun vs H Q _ => ∃ (p : Addr) (v : V) (d : PyData), vs = [v] ∧ Da K p H v d ∧ Fit2 d ∧ ∀ H', Same H H' → Q (.bl (epD d)) H'
theorem epD_not {d : PyData} (h : isTup d = false) : epD d = false := by cases d <;> first | rfl | cases h
theorem ok_isep {f fE : Addr} {fd dE : FuncData} (F : Fun K "is_end_pair" "is_end_pair" sIsEndPair f fd) (B : Glb mg) (GE : Has P w K mg base 3 "is_end" ["value"] (spKind K (withD [0, 1])) fE dE) : FnOk P w K mg base CX0 4 f fd ["value"] (spEP K) := by
  refine F.ok scIsEndPair (fun vs H Q E h => ?_) (fun cdv A outer s H vs Q E hr h => ?_)
  · obtain ⟨p, v, d, rfl, _⟩ := h
    rfl
  · obtain ⟨p, v, d, rfl, D, hf, q⟩ := h
    refine ⟨_, pss_one (ps_ret (pe_and (pe_callB call_isi (by rfl) B.isi boot_isinstance (pa_cons (pv 0) (pa_cons (pe_bltn (v := .ty "tuple") (by rfl) B.tuple boot_tuple rfl) pa_nil)))
      (pe_and (pe_cmpR op_eq (pe_callB call_len (by rfl) B.len PySem.boot_len (pa_cons (pv 0) pa_nil)) pe_int (nomark _))
      (pe_and (pe_has GE hr (by rfl) (pa_cons (pe_ix ix_tup (pv 0) pe_int (fun _ _ => rfl)) pa_nil)) (pe_one (pe_has GE hr (by rfl) (pa_cons (pe_ix ix_tup (pv 0) pe_int (fun _ _ => rfl)) pa_nil))))))), ?_⟩
    refine ⟨_, rfl, v, _, _, _, _, rfl, .ty _, da_ty D, kit_ty (kit_tuple d), _, rfl, ?_⟩
    cases hi : isTup d with
    | false =>
      refine iteF ?_
      rw [← epD_not hi]
      exact q H (.refl H)
    | true =>
      obtain ⟨ds, rfl⟩ : ∃ ds, d = .tuple ds := by cases d <;> first | exact ⟨_, rfl⟩ | cases hi
      obtain ⟨hf0, hf1⟩ := hf
      cases D with
      | @tup a xs _ hs hd =>
        have hl := hd.length
        refine iteT ⟨_, rfl, .ref a, xs.length, rfl, .inr ⟨_, hs, rfl⟩, rfl, _, rfl, ?_⟩
        by_cases h2 : xs.length = 2
        · rw [h2]
          refine iteT ?_
          obtain ⟨d1, d2, rfl⟩ : ∃ d1 d2, ds = [d1, d2] := by
            rw [h2] at hl
            match ds, hl with
            | [x, y], _ => exact ⟨x, y, rfl⟩
          cases hd with
          | @cons x1 xr _ _ D1 hd =>
            cases hd with
            | @cons x2 xr _ _ D2 hd =>
              cases hd
              have i0 : atI [x1, x2] 0 = some x1 := atI_nat (j := 0) rfl
              have i1 : atI [x1, x2] 1 = some x2 := atI_nat (j := 1) rfl
              have ew : epD (.tuple [d1, d2]) = (withD [0, 1] d1 && withD [0, 1] d2) := rfl
              refine ⟨_, rfl, a, _, _, _, rfl, rfl, hs, i0, p, x1, d1, rfl, D1, hf1 _ rfl d1 List.mem_cons_self, fun H1 s1 => ⟨_, rfl, ?_⟩⟩
              cases hn : withD [0, 1] d1 with
              | false =>
                refine iteF ?_
                rw [show false = epD (.tuple [d1, d2]) by rw [ew, hn]; rfl]
                exact q H1 s1
              | true =>
                refine iteT ⟨_, rfl, a, _, _, _, rfl, rfl, s1.keepsT _ _ hs, i1, p, x2, d2, rfl, da_keep s1.keepA D2, hf1 _ rfl d2 (List.mem_cons_of_mem _ List.mem_cons_self), fun H2 s2 => ?_⟩
                rw [show withD [0, 1] d2 = epD (.tuple [d1, d2]) by rw [ew, hn]; rfl]
                exact q H2 (s1.trans s2)
        · have e1 : decide (V.int (xs.length : Int) = V.int 2) = false := decide_eq_false fun z => h2 (by have := V.int.inj z; omega)
          rw [e1]
          refine iteF ?_
          have e : false = epD (.tuple ds) := by
            match ds, hl with
            | [], _ => rfl
            | [_], _ => rfl
            | [_, _], z => exact absurd z h2
            | _ :: _ :: _ :: _, _ => rfl
          rw [e]
          exact q H (.refl H)
/-- a coupling's data -/
theorem with_end {e : EndT} (hn : nmS e.1 = true) (hs : e.2 = 0 ∨ e.2 = 1) : withD [0, 1] (Datum.toD e) = true := by
  obtain ⟨n, i⟩ := e
  show (nmS n && (true && decide (i ∈ ([0, 1] : List Int)))) = true
  have hn : nmS n = true := hn
  rw [hn]
  rcases hs with h | h
  · have h : i = 0 := h
    rw [h]
    decide
  · have h : i = 1 := h
    rw [h]
    decide
theorem nm_len {x : Str} (h : nmS x = true) : x.length ≤ 100000 := by
  unfold nmS at h
  rw [Bool.and_eq_true] at h
  have := of_decide_eq_true h.1
  omega
theorem fit_end {e : EndT} (hn : nmS e.1 = true) : Fit1 (Datum.toD e) := by
  refine ⟨show (2 : Nat) ≤ 100000 by decide, fun ds z x hx => ?_⟩
  have z : PyData.tuple [.str e.1, .int e.2] = .tuple ds := z
  injection z with z
  subst z
  rcases List.mem_cons.mp hx with y | y
  · rw [y]
    exact nm_len hn
  · rw [List.mem_singleton.mp y]
    exact True.intro
theorem fit_coup {c : CoupT} (h1 : nmS c.1.1 = true) (h2 : nmS c.2.1 = true) : Fit2 (Datum.toD c) := by
  refine ⟨show (2 : Nat) ≤ 100000 by decide, fun ds z x hx => ?_⟩
  have z : PyData.tuple [Datum.toD c.1, Datum.toD c.2] = .tuple ds := z
  injection z with z
  subst z
  rcases List.mem_cons.mp hx with y | y
  · rw [y]
    exact fit_end h1
  · rw [List.mem_singleton.mp y]
    exact fit_end h2
/-- an end that some wagons have -/
structure EndIn (ws : List Str) (e : EndT) : Prop where
  nm : nmS e.1 = true
  inn : e.1 ∈ ws
  side : e.2 = 0 ∨ e.2 = 1
/-- a coupling of these wagons whose ends have no partners yet: yes -/
def spAdd (K : PySem.W.Frag) : Sp := fun vs H Q _ => ∃ (v : V) (aw D : Addr) (c : CoupT) (ws : List Str) (kv : List (EndT × EndT)), vs = [v, .ref aw, .ref D] ∧ CoupV H v c ∧ (SqL K H aw (ws.map V.str) ∨ SqT K H aw (ws.map V.str)) ∧ DicE H D kv ∧
  EndIn ws c.1 ∧ EndIn ws c.2 ∧ c.1 ≠ c.2 ∧ lookE kv c.1 = none ∧ lookE kv c.2 = none ∧ ∀ H', Same H H' → Q (.bl true) H'
theorem in_strs {x : Str} {ws : List Str} (h : x ∈ ws) : inV (.str x) (ws.map V.str) = true := by
  unfold inV
  refine List.any_eq_true.mpr ⟨.str x, List.mem_map.mpr ⟨x, h, rfl⟩, ?_⟩
  unfold eqV
  simp
theorem flat_strs : ∀ ws : List Str, (ws.map V.str).all flatV = true
  | [] => rfl
  | n :: r => by rw [List.map_cons, List.all_cons, flat_strs r]; rfl
theorem ok_canadd {f fE : Addr} {fd dE : FuncData} (F : Fun K "can_be_added" "can_be_added" sCanBeAdded f fd) (B : Glb mg) (GE : Has P w K mg base 4 "is_end_pair" ["value"] (spEP K) fE dE) : FnOk P w K mg base CX0 5 f fd ["value", "wagons", "partners"] (spAdd K) := by
  refine F.ok scCanBeAdded (fun vs H Q E h => ?_) (fun cdv A outer s H vs Q E hr h => ?_)
  · obtain ⟨v, aw, D, c, ws, kv, rfl, _⟩ := h
    rfl
  · obtain ⟨v, aw, D, c, ws, kv, rfl, hc, hw, hD, k1, k2, ne, n1, n2, q⟩ := h
    have hu : (A.deeper (envOfC "can_be_added" (defScope sCanBeAdded) s.heap.objs.size f cdv)).units + PySem.W.Datum.depth EndT < cLine := by
      have := hr.units
      have e : PySem.W.Datum.depth EndT = 1 := rfl
      omega
    have hu1 := hu_of hr
    refine ⟨_, pss_cons (ps_if (PW.pt (pw_or (pt_not (pt_val (pe_has GE hr (by rfl) (pa_cons (pv 0) pa_nil))))
        (pw_or1 (pt_cmpR (op_eqDt (α := EndT) hu) (pe_ix ix_tup (pv 0) pe_int (fun _ _ => rfl)) (pe_ix ix_tup (pv 0) pe_int (fun _ _ => rfl)) (nomark _))))) (pss_one (ps_ret pe_bl)) pss_nil)
      (pss_one (ps_ret (pe_callB (cr_all rfl) (by rfl) B.all (by decide +kernel) (pa_cons (pe_lc (own := [("end", 3)]) (g := gName 3) (tt := tYes) (te := tAndV (tOp (rIn K false) (tOp (rIxT K) (tVar 3) (tC (.int 0))) (tVar 1)) (tDNotIn (tVar 3) (tVar 2))) rfl scCanBeAdded.nd (pi_tup (pv 0))
          (blkOk_by (own := [("end", 3)]) (N := ["value", "wagons", "partners", "end"]) (sc := defScope sCanBeAdded) (by decide +kernel)) (fun _ _ _ _ _ => pg_name (i := 3) scCanBeAdded.nd rfl (Or.inl rfl)) (fun _ _ _ _ _ => pts_nil)
          (fun _ _ _ _ _ => pe_and (pe_cmpR op_in_seq (pe_ix ix_tup (pv 3) pe_int (fun _ _ => rfl)) (pv 1) (by rfl)) (pe_one (pe_cmp (pc_dnotin hu1 (pv 3) (pv 2)) (by rfl))))) pa_nil)))), ?_⟩
    obtain ⟨a, u1, u2, rfl, ha, h1, h2⟩ := hc
    have hT : SqT K H a [u1, u2] := .inl (.inl ha)
    have i0 : atI [u1, u2] 0 = some u1 := atI_nat (j := 0) rfl
    have i1 : atI [u1, u2] 1 = some u2 := atI_nat (j := 1) rfl
    refine ⟨_, rfl, 0, .ref a, Datum.toD c, rfl, dt_da (.tup hT (.two h1.dt h2.dt)), fit_coup k1.nm k2.nm, fun H1 s1 => ⟨_, rfl, ?_⟩⟩
    have ee : epD (Datum.toD c) = true := by
      show (withD [0, 1] (Datum.toD c.1) && withD [0, 1] (Datum.toD c.2)) = true
      rw [with_end k1.nm k1.side, with_end k2.nm k2.side]
      rfl
    rw [ee]
    refine iteF ⟨_, rfl, a, _, _, _, rfl, rfl, s1.keepsT _ _ hT, i0, _, rfl, a, _, _, _, rfl, rfl, s1.keepsT _ _ hT, i1, c.1, c.2, (h1.keep s1.tupK).dt, (h2.keep s1.tupK).dt, _, rfl, ?_⟩
    rw [decide_eq_false ne]
    refine iteF ⟨_, rfl, a, rfl, ⟨_, s1.keepsT _ _ hT⟩, fun Dl hDl => ?_⟩
    refine lcN_tup (K := K) (a := a) (xs := [u1, u2]) (fun i H' => H' Dl = some (.lst ((List.replicate i true).map V.bl)) ∧ Same H1 H') ⟨upd_same, same_new hDl⟩ (fun i H' _ hp => hp.2.keepsT _ _ (s1.keepsT _ _ hT)) (fun i x H' hx hp => ⟨rfl, ?_⟩) (fun H' hp => ?_)
    · have S := s1.trans hp.2
      obtain ⟨e, he, ek, en⟩ : ∃ e, EndV H' x e ∧ EndIn ws e ∧ lookE kv e = none := by
        match i, hx with
        | 0, hx => cases hx; exact ⟨_, h1.keep S.tupK, k1, n1⟩
        | 1, hx => cases hx; exact ⟨_, h2.keep S.tupK, k2, n2⟩
      have hi : i < 2 := (List.getElem?_eq_some_iff.mp hx).1
      obtain ⟨b, rfl, hb⟩ := id he
      obtain ⟨o, g1, g2⟩ := (hD.same S).get he
      have on : o = none := by
        rcases g2 with ⟨_, z⟩ | ⟨q, u, z, _⟩
        · exact z
        · rw [en] at z
          cases z
      subst on
      refine ⟨_, rfl, b, _, _, _, rfl, rfl, .inl (.inl hb), atI_nat (j := 0) rfl, _, rfl, aw, _, rfl, hw.imp (S.keeps.l _ _) (S.keeps.t _ _), rfl, flat_strs ws, ?_⟩
      refine ⟨_, rfl, ?_⟩
      show if (if false = true then !inV (.str e.1) (ws.map V.str) else inV (.str e.1) (ws.map V.str)) = true then _ else _
      rw [if_neg Bool.false_ne_true, in_strs ek.inn]
      refine iteT ⟨_, rfl, _, rfl, D, _, rfl, g1, _, hp.1, Evl.sz_lt ?_, ?_, ?_⟩
      · rw [List.length_map, List.length_replicate]
        omega
      · rw [upd_same, List.replicate_succ', List.map_append]
        rfl
      · intro b o z
        rw [upd_ne (ne_of_none z hDl)]
        exact hp.2 b o z
    · obtain ⟨eD, sm⟩ := hp
      refine ⟨Dl, List.replicate 2 true, rfl, .inl (.inl eD), ?_⟩
      exact q _ (s1.trans sm)
end
end My
set_option Elab.async false
set_option linter.all false
set_option maxRecDepth 100000
set_option maxHeartbeats 4000000
/-! partners_by, of couplings that can be -/
namespace My
open PySem PySem.Spec PyProof.Rows L2
open PySem.W (Datum DatumOrd EachIs)
theorem partE_at {ps : List CoupT} {i : Nat} {c : CoupT} (h : ps[i]? = some c) : partE (ps.take (i + 1)) = partE (ps.take i) ++ [(c.1, c.2)] ++ [(c.2, c.1)] := by
  unfold partE
  rw [List.take_add_one, h, List.flatMap_append, List.append_assoc]
  rfl
theorem metE_at {ps : List CoupT} {i : Nat} {c : CoupT} (h : ps[i]? = some c) (nd : (metE ps).Nodup) : c.1 ∉ metE (ps.take i) ∧ c.2 ∉ metE (ps.take i) ∧ c.1 ≠ c.2 := by
  have e : ps = ps.take i ++ c :: ps.drop (i + 1) := by
    have hi := (List.getElem?_eq_some_iff.mp h)
    obtain ⟨hi, hc⟩ := hi
    rw [← hc, List.getElem_cons_drop, List.take_append_drop]
  have hm : c ∈ ps := List.mem_of_getElem? h
  rw [e] at nd
  unfold metE at nd
  rw [List.flatMap_append, List.nodup_append] at nd
  exact ⟨fun z => nd.2.2 _ z _ (mem_metE (ps := c :: ps.drop (i + 1)) List.mem_cons_self).1 rfl, fun z => nd.2.2 _ z _ (mem_metE (ps := c :: ps.drop (i + 1)) List.mem_cons_self).2 rfl, met_ne nd.2.1 c List.mem_cons_self⟩
theorem partE_len : ∀ ps : List CoupT, (partE ps).length = 2 * ps.length
  | [] => rfl
  | p :: r => by
    show (partE r).length + 1 + 1 = 2 * (r.length + 1)
    rw [partE_len r]
    omega
section
variable {P : Program} {w : World} {K : PySem.W.Frag} {mg : Str → Option Value} {base : Heap}
/-- walked as it stood before: it is there as long as what was there before is -/
theorem or_sq2 {a : Addr} {xs : List V} {σ : L2.St} {H0 H : Hp} {R : It → Hp → Prop} {i : Nat} {v : V} (hv : σ[i]? = some (some v)) (e : v = .ref a) (hs : SqL K H0 a xs ∨ SqT K H0 a xs) (s : Same H0 H) (q : ∀ J Sq, SqIt K J a xs Sq → (∀ H', Same H0 H' → Sq H') → R J H) :
    iList K (tVar i) σ H R ∨ iTup K (tVar i) σ H R :=
  hs.elim (fun h => .inl ⟨v, hv, a, e, ⟨_, s.keeps.l _ _ h⟩, q _ _ sq_list fun _ z => z.keeps.l _ _ h⟩) (fun h => .inr ⟨v, hv, a, e, ⟨_, s.keeps.t _ _ h⟩, q _ _ sq_tup fun _ z => z.keeps.t _ _ h⟩)
def spPB (K : PySem.W.Frag) : Sp := fun vs H Q _ => ∃ (ac aw : Addr) (us : List V) (ps : List CoupT) (ws : List Str), vs = [.ref ac, .ref aw] ∧ (SqL K H ac us ∨ SqT K H ac us) ∧ EachIs (CoupV H) us ps ∧ (SqL K H aw (ws.map V.str) ∨ SqT K H aw (ws.map V.str)) ∧
  (∀ e ∈ metE ps, EndIn ws e) ∧ (metE ps).Nodup ∧ ps.length ≤ 1000 ∧ ∀ (D : Addr) (H' : Hp), H D = none → DicE H' D (partE ps) → Same H H' → Q (.ref D) H'
theorem ok_partby {f fA : Addr} {fd dA : FuncData} (F : Fun K "partners_by" "partners_by" sPartnersBy f fd) (B : Glb mg) (GA : Has P w K mg base 5 "can_be_added" ["value", "wagons", "partners"] (spAdd K) fA dA) : FnOk P w K mg base CX0 6 f fd ["couplings", "wagons"] (spPB K) := by
  refine F.ok scPartnersBy (fun vs H Q E h => ?_) (fun cdv A outer s H vs Q E hr h => ?_)
  · obtain ⟨ac, aw, us, ps, ws, rfl, _⟩ := h
    rfl
  · obtain ⟨ac, aw, us, ps, ws, rfl, hc, hu, hw, hE, nd, few, q⟩ := h
    have hu1 := hu_of hr
    refine ⟨_, pss_cons (ps_if (pt_not (pt_val (pe_callB call_isiT (by rfl) B.isi boot_isinstance (pa_cons (pv 0) (pa_cons (pe_tup (pa_cons (pe_bltn (v := .ty "list") (by rfl) B.list (by decide +kernel) rfl) (pa_cons (pe_bltn (v := .ty "tuple") (by rfl) B.tuple boot_tuple rfl) pa_nil))) pa_nil))))) (pss_one ps_no) pss_nil)
      (pss_cons (ps_set (i := 2) scPartnersBy.nd rfl (.inl rfl) pe_dnewT)
      (pss_cons (ps_for PassesOwn.never rfl (pi_or (pi_list (pv 0)) (pi_tup (pv 0))) (pg_name (i := 3) scPartnersBy.nd rfl (.inl rfl))
        (pss_cons (ps_if (pt_not (pt_val (pe_has GA hr (by rfl) (pa_cons (pv 3) (pa_cons (pv 1) (pa_cons (pv 2) pa_nil)))))) (pss_one ps_no) pss_nil)
        (pss_cons (ps_asg (pv 3) (pg_tup rfl (pgs_cons (pg_name (i := 4) scPartnersBy.nd rfl (.inl rfl)) (pgs_cons (pg_name (i := 5) scPartnersBy.nd rfl (.inl rfl)) pgs_nil))))
        (pss_cons (ps_dput hu1 (pv 2) (pv 4) (pv 5) rfl)
        (pss_one (ps_dput hu1 (pv 2) (pv 5) (pv 4) rfl))))))
      (pss_one (ps_ret (pv 2))))), ?_⟩
    obtain ⟨tn, ty, kt⟩ := sq_ty hc
    refine ⟨_, rfl, by show 2 ≤ sizeLine; decide, fun tp htp => ?_⟩
    have s1 := same_new (o := HO.tup [.ty "list", .ty "tuple"]) htp
    have e1 : (upd H tp (.tup [.ty "list", .ty "tuple"])) tp = some (.tup [.ty "list", .ty "tuple"]) := upd_same
    have hc1 : SqL K (upd H tp (.tup [.ty "list", .ty "tuple"])) ac us ∨ SqT K (upd H tp (.tup [.ty "list", .ty "tuple"])) ac us := hc.imp (s1.keeps.l _ _) (s1.keeps.t _ _)
    obtain ⟨tn, ty, kt⟩ := sq_ty hc1
    refine ⟨.ref ac, tp, [.ty "list", .ty "tuple"], _, [.type "list", .type "tuple"], _, rfl, e1, .cons (.ty _) (.cons (.ty _) .nil), ty, kt, _, rfl, iteF ?_⟩
    generalize upd H tp (.tup [.ty "list", .ty "tuple"]) = H1 at s1 hc1
    intro D hD
    have s2 := same_new (o := HO.dT []) hD
    have hD0 : H D = none := Option.eq_none_iff_forall_ne_some.mpr fun o e => by rw [s1 _ _ e] at hD; cases hD
    have eD0 : (upd H1 D (.dT [])) D = some (.dT []) := upd_same
    have S := s1.trans s2
    generalize upd H1 D (.dT []) = H2 at s2 eD0 S
    refine or_sq2 (i := 0) (a := ac) (xs := us) rfl rfl hc S fun J Sq c hq => ?_
    refine for_sq c (fun i σ H' => ∃ y3 y4 y5 : Option V, σ = [some (.ref ac), some (.ref aw), some (.ref D), y3, y4, y5] ∧ DicE H' D (partE (ps.take i)) ∧ Same H H') ⟨_, _, _, rfl, ⟨[], eD0, .nil⟩, S⟩ (fun i σ H' ⟨_, _, _, _, _, z⟩ => hq _ z) (fun i x σ H' hx hp => ?_) (fun σ H' hp => ?_)
    · obtain ⟨y3, y4, y5, rfl, hd, sm⟩ := hp
      obtain ⟨p, hp, hv⟩ := each_at hu hx
      have mp := mem_metE (List.mem_of_getElem? hp)
      obtain ⟨m1, m2, ne⟩ := metE_at hp nd
      have l1 : lookE (partE (ps.take i)) p.1 = none := lookE_none.mpr (by rw [partE_fst]; exact m1)
      have l2 : lookE (partE (ps.take i)) p.2 = none := lookE_none.mpr (by rw [partE_fst]; exact m2)
      have hl := partE_len (ps.take i)
      rw [List.length_take] at hl
      refine ⟨_, rfl, _, rfl, _, rfl, x, aw, D, p, ws, _, rfl, hv.keep sm.tupK, hw.imp (sm.keeps.l _ _) (sm.keeps.t _ _), hd, hE _ mp.1, hE _ mp.2, ne, l1, l2, fun H3 s3 => ⟨_, rfl, iteF ?_⟩⟩
      obtain ⟨a, u1, u2, rfl, ha, h1, h2⟩ := hv.keep (sm.trans s3).tupK
      refine ⟨_, rfl, a, _, rfl, .inl (.inl ha), rfl, _, _, rfl, _, _, rfl, rfl, ?_⟩
      obtain ⟨H4, p4, d4, t4, k4⟩ := (hd.same s3).put h1 h2 l1 (by omega)
      refine ⟨_, rfl, _, rfl, _, rfl, D, H4, rfl, p4, ?_⟩
      have l3 : lookE (partE (ps.take i) ++ [(p.1, p.2)]) p.2 = none := lookE_none.mpr (by
        rw [List.map_append, partE_fst]
        intro z
        rcases List.mem_append.mp z with z | z
        · exact m2 z
        · exact ne (List.mem_singleton.mp z).symm)
      obtain ⟨H5, p5, d5, t5, k5⟩ := d4.put (h2.keep t4) (h1.keep t4) l3 (by rw [List.length_append, hl]; show _ + 1 ≤ 10000; omega)
      refine ⟨_, rfl, _, rfl, _, rfl, D, H5, rfl, p5, ?_⟩
      rw [← partE_at hp] at d5
      have sm5 : Same H H5 := fun b o z => by
        have nb : b ≠ D := ne_of_none z hD0
        exact k5 _ _ nb (k4 _ _ nb (s3 _ _ (sm _ _ z)))
      exact ⟨_, _, _, rfl, d5, sm5⟩
    · obtain ⟨y3, y4, y5, rfl, hd, sm⟩ := hp
      rw [hu.length, List.take_length] at hd
      exact ⟨_, rfl, q D H' hD0 hd sm⟩
end
end My
set_option Elab.async false
set_option linter.all false
set_option maxRecDepth 100000
set_option maxHeartbeats 4000000
/-! ends_of -/
namespace My
open PySem PySem.Spec PyProof.Rows L2
open PySem.W (Datum DatumOrd EachIs)
abbrev te01 : TE := tTup (tCons (tC (.int 0)) (tCons (tC (.int 1)) tNil))
/-- [e for x in tuple for y in (0, 1)] -/
theorem lc2_01 {K : PySem.W.Frag} {a : Addr} {xs : List V} {te : TE} {vs vs1 : List Nat} {σ : L2.St} {H1 : Hp} {D : Addr} {Qd : Hp → Prop} {i1 i2 : Nat} (Pv : Nat → Nat → Hp → Prop) (h0 : Pv 0 0 (upd H1 D (.lst [])))
    (hl : ∀ i j H, Pv i j H → SqT K H a xs) (hnew : ∀ i H b, Pv i 0 H → H b = none → Pv i 0 (upd H b (.tup [.int 0, .int 1])))
    (hw : ∀ (i : Nat) (x : V), xs[i]? = some x → wipe ((wipe σ vs).set i1 (some x)) vs = wipe σ vs)
    (hs : ∀ (i j : Nat) (x : V) (H : Hp) (b : Addr), xs[i]? = some x → j < 2 → Pv i j H → SqT K H b [.int 0, .int 1] → wipe ((wipe ((wipe σ vs).set i1 (some x)) vs1).set i2 (some (.int (j : Int)))) vs1 = wipe ((wipe σ vs).set i1 (some x)) vs1 ∧
      te ((wipe ((wipe σ vs).set i1 (some x)) vs1).set i2 (some (.int (j : Int)))) H fun y H7 => ∃ acc, H7 D = some (.lst acc) ∧ acc.length < sizeLine ∧ Pv i (j + 1) (upd H7 D (.lst (acc ++ [y]))) ∧ SqT K (upd H7 D (.lst (acc ++ [y]))) b [.int 0, .int 1])
    (hn : ∀ (i : Nat) (H : Hp), i < xs.length → Pv i 2 H → Pv (i + 1) 0 H) (hd : ∀ H, Pv xs.length 0 H → Qd H) :
    ∃ W : Nat → Nat → Hp → Prop, (∃ m, W 0 m (upd H1 D (.lst []))) ∧ ∀ i m H, W i m H →
      ((Itt K a).stop i H ∧ Qd H) ∨ ((Itt K a).go i H ∧ ∃ Nx : Hp → Prop, (∀ H', Nx H' → ∃ m', m' < m ∧ W (i + 1) m' H') ∧ ∀ x H', (Itt K a).yld i H x H' → gName i1 x (wipe σ vs) H' fun σ2 H2 => wipe σ2 vs = wipe σ vs ∧ tYes σ2 H2 fun b H3 =>
        if b = true then iTup K te01 σ2 H3 fun J1 H4 => ∃ W1 : Nat → Nat → Hp → Prop, (∃ m, W1 0 m H4) ∧ ∀ j k H, W1 j k H →
          (J1.stop j H ∧ Nx H) ∨ (J1.go j H ∧ ∃ Nx1 : Hp → Prop, (∀ H', Nx1 H' → ∃ k', k' < k ∧ W1 (j + 1) k' H') ∧ ∀ x H', J1.yld j H x H' → gName i2 x (wipe σ2 vs1) H' fun σ3 H5 => wipe σ3 vs1 = wipe σ2 vs1 ∧ tYes σ3 H5 fun b H6 =>
            if b = true then te σ3 H6 fun y H7 => ∃ acc, H7 D = some (.lst acc) ∧ acc.length < sizeLine ∧ Nx1 (upd H7 D (.lst (acc ++ [y]))) else Nx1 H6)
        else Nx H3) := by
  refine ⟨fun i m H => m = xs.length - i ∧ i ≤ xs.length ∧ Pv i 0 H, ⟨xs.length, rfl, Nat.zero_le _, h0⟩, ?_⟩
  rintro i m H ⟨rfl, hi, p⟩
  have q := hl i 0 H p
  by_cases lt : i < xs.length
  · refine .inr ⟨⟨xs, xs[i], q, by simp [lt]⟩, Pv (i + 1) 0, fun H' p' => ⟨xs.length - (i + 1), by omega, rfl, lt, p'⟩, fun x H' y => ?_⟩
    obtain ⟨rfl, y⟩ := y
    have hx := y xs q
    refine ⟨hw i x hx, ?_⟩
    unfold tYes
    dsimp only
    rw [if_pos rfl]
    refine ⟨by show 2 ≤ sizeLine; decide, fun b hb => ⟨b, rfl, ⟨_, .inl (.inl upd_same)⟩, ?_⟩⟩
    refine ⟨fun j k H => k = 2 - j ∧ j ≤ 2 ∧ Pv i j H ∧ SqT K H b [.int 0, .int 1], ⟨2, rfl, Nat.zero_le _, hnew i _ b p hb, .inl (.inl upd_same)⟩, ?_⟩
    rintro j k H2 ⟨rfl, hj, p2, q2⟩
    by_cases l2 : j < 2
    · refine .inr ⟨⟨[.int 0, .int 1], ([.int 0, .int 1] : List V)[j]'l2, q2, by simp [l2]⟩, fun H3 => Pv i (j + 1) H3 ∧ SqT K H3 b [.int 0, .int 1], fun H3 p3 => ⟨2 - (j + 1), by omega, rfl, l2, p3⟩, fun x3 H3 y3 => ?_⟩
      obtain ⟨rfl, y3⟩ := y3
      have h3 := y3 _ q2
      have e3 : x3 = V.int (j : Int) := by
        match j, l2, h3 with
        | 0, _, h3 => exact (Option.some.inj h3).symm
        | 1, _, h3 => exact (Option.some.inj h3).symm
      subst e3
      obtain ⟨w1, w2⟩ := hs i j x H3 b hx l2 p2 q2
      refine ⟨w1, ?_⟩
      rw [if_pos rfl]
      exact w2
    · have e : j = 2 := by omega
      subst e
      exact .inl ⟨⟨_, q2, Nat.le_refl _⟩, hn i H2 lt p2⟩
  · have e : i = xs.length := by omega
    subst e
    exact .inl ⟨⟨xs, q, Nat.le_refl _⟩, hd H p⟩
theorem endsO_get : ∀ {ns : List Str} {i j : Nat} {n : Str}, ns[i]? = some n → j < 2 → (endsO ns)[2 * i + j]? = some (n, (j : Int))
  | m :: r, 0, j, n, h, hj => by
    cases h
    match j, hj with
    | 0, _ => rfl
    | 1, _ => rfl
  | m :: r, i + 1, j, n, h, hj => by
    have e : 2 * (i + 1) + j = 2 * i + j + 1 + 1 := by omega
    rw [e]
    exact endsO_get (ns := r) h hj
theorem endsO_len : ∀ ns : List Str, (endsO ns).length = 2 * ns.length
  | [] => rfl
  | n :: r => by
    show (endsO r).length + 1 + 1 = 2 * (r.length + 1)
    rw [endsO_len r]
    omega
section
variable {P : Program} {w : World} {K : PySem.W.Frag} {mg : Str → Option Value} {base : Heap}
/-- the list of all ends, in order -/
def spEnds (K : PySem.W.Frag) : Sp := fun vs H Q _ => ∃ (a : Addr) (ns : List Str), vs = [.ref a] ∧ SqT K H a (ns.map V.str) ∧ ns.length ≤ 1000 ∧ ∀ (l : Addr) (us : List V) (H' : Hp), H l = none → H' l = some (.lst us) → EachIs (EndV H') us (endsO ns) → Same H H' → Q (.ref l) H'
theorem ok_ends {f : Addr} {fd : FuncData} (F : Fun K "ends_of" "ends_of" sEndsOf f fd) : FnOk P w K mg base CX0 1 f fd ["wagons"] (spEnds K) := by
  refine F.ok scEndsOf (fun vs H Q E h => ?_) (fun cdv A outer s H vs Q E hr h => ?_)
  · obtain ⟨a, ns, rfl, _⟩ := h
    rfl
  · obtain ⟨a, ns, rfl, hs, few, q⟩ := h
    refine ⟨_, pss_one (ps_ret (pe_lc2 (own := [("name", 1), ("side", 2)]) (vs1 := [2]) (g := gName 1) (tt := tYes) (wi1 := iTup K te01) (g1 := gName 2) (tt1 := tYes) (te := tTup (tCons (tVar 1) (tCons (tVar 2) tNil))) rfl scEndsOf.nd (pi_tup (pv 0))
        (blkOk_by (own := [("name", 1), ("side", 2)]) (N := ["wagons", "name", "side"]) (sc := defScope sEndsOf) (by decide +kernel)) (by decide)
        (fun _ _ _ _ _ => pg_name (i := 1) scEndsOf.nd rfl (Or.inl rfl)) (fun _ _ _ _ _ => pts_nil) (fun _ _ _ _ _ => pi_tup (pe_tup (pa_cons pe_int (pa_cons pe_int pa_nil))))
        (fun _ _ _ _ _ => pg_name (i := 2) scEndsOf.nd rfl (Or.inl rfl)) (fun _ _ _ _ _ => pts_nil) (fun _ _ _ _ _ => pe_tup (pa_cons (pv 1) (pa_cons (pv 2) pa_nil))))), ?_⟩
    refine ⟨_, rfl, a, rfl, ⟨_, hs⟩, fun D hD => ?_⟩
    refine lc2_01 (xs := ns.map V.str) (fun i j H' => ∃ us : List V, H' D = some (.lst us) ∧ EachIs (EndV H') us ((endsO ns).take (2 * i + j)) ∧ Same H H') ⟨[], upd_same, .nil, same_new hD⟩ (fun i j H' ⟨_, _, _, sm⟩ => sm.keepsT _ _ hs)
      (fun i H' b ⟨us, e1, e2, sm⟩ hb => ⟨us, same_new hb _ _ e1, ends_keep (same_new hb).tupK e2, sm.trans (same_new hb)⟩) (fun i x hx => rfl) (fun i j x H' b hx hj hp hb => ⟨rfl, ?_⟩) (fun i H' hi hp => hp) (fun H' hp => ?_)
    · obtain ⟨us, eD, hu, sm⟩ := hp
      rw [List.getElem?_map] at hx
      obtain ⟨n, hn, rfl⟩ := Option.map_eq_some_iff.mp hx
      refine ⟨_, rfl, _, rfl, by show 2 ≤ sizeLine; decide, fun t ht => ?_⟩
      have st := same_new (o := HO.tup [V.str n, .int (j : Int)]) ht
      have eD2 := st _ _ eD
      have tk : TupK H' (upd (upd H' t (.tup [.str n, .int (j : Int)])) D (.lst (us ++ [.ref t]))) := st.tupK.trans (.at fun xs z => by rw [eD2] at z; cases z)
      have nd : t ≠ D := fun z => by rw [z, eD] at ht; cases ht
      have hl := hu.length
      rw [List.length_take, endsO_len] at hl
      refine ⟨us, eD2, Evl.sz_lt (by omega), ⟨us ++ [.ref t], upd_same, ?_, fun b o z => ?_⟩, (st.keepsT.trans (KeepsT.lst eD2)) _ _ hb⟩
      · rw [← Nat.add_assoc, List.take_add_one, endsO_get hn hj]
        exact each_app (ends_keep tk hu) (.cons ⟨t, rfl, (upd_ne nd).trans upd_same⟩ .nil)
      · rw [upd_ne (ne_of_none z hD)]
        exact st _ _ (sm b o z)
    · obtain ⟨us, eD, hu, sm⟩ := hp
      rw [List.length_map, Nat.add_zero, ← endsO_len, List.take_length] at hu
      exact q D us H' hD eD hu sm
end
end My
set_option Elab.async false
set_option linter.all false
set_option maxRecDepth 100000
set_option maxHeartbeats 4000000
/-! Layout.__init__, of names and couplings that make one -/
namespace My
open PySem PySem.Spec PyProof.Rows L2
open PySem.W (Datum DatumOrd EachIs)
/-- a comprehension over a list or a tuple, with a test -/
theorem lcT_sq {K : PySem.W.Frag} {J : It} {a : Addr} {xs : List V} {Sq : Hp → Prop} (c : SqIt K J a xs Sq) {tt : TT} {te : TE} {vs : List Nat} {σ : L2.St} {H1 : Hp} {D : Addr} {Qd : Hp → Prop} {j : Nat} (Pv : Nat → Hp → Prop) (h0 : Pv 0 (upd H1 D (.lst []))) (hl : ∀ i H, Pv i H → Sq H)
    (hs : ∀ (i : Nat) (x : V) (H : Hp), xs[i]? = some x → Pv i H → wipe ((wipe σ vs).set j (some x)) vs = wipe σ vs ∧ tt ((wipe σ vs).set j (some x)) H fun b H3 => if b = true then te ((wipe σ vs).set j (some x)) H3 fun y H4 => ∃ acc, H4 D = some (.lst acc) ∧ acc.length < sizeLine ∧ Pv (i + 1) (upd H4 D (.lst (acc ++ [y]))) else Pv (i + 1) H3)
    (hd : ∀ H, Pv xs.length H → Qd H) :
    ∃ W : Nat → Nat → Hp → Prop, (∃ m, W 0 m (upd H1 D (.lst []))) ∧ ∀ i m H, W i m H → (J.stop i H ∧ Qd H) ∨
      (J.go i H ∧ ∃ Nx : Hp → Prop, (∀ H', Nx H' → ∃ m', m' < m ∧ W (i + 1) m' H') ∧ ∀ x H', J.yld i H x H' → gName j x (wipe σ vs) H' fun σ2 H2 => wipe σ2 vs = wipe σ vs ∧ tt σ2 H2 fun b H3 =>
        if b = true then te σ2 H3 fun y H4 => ∃ acc, H4 D = some (.lst acc) ∧ acc.length < sizeLine ∧ Nx (upd H4 D (.lst (acc ++ [y]))) else Nx H3) :=
  lcJ (J := J) (n := xs.length) (g := gName j) (tt := tt) (te := te) (vs := vs) (σ := σ) (H1 := H1) (D := D) (Qd := Qd) Pv h0 (fun i H lt p => c.go i H (hl i H p) lt) (fun H p => c.stop H (hl _ H p))
    (fun i H v H' lt p y => by
      obtain ⟨e, rfl⟩ := c.yld i H v H' (hl i H p) y lt
      exact hs i v _ e p) hd
structure LayCls (K : PySem.W.Frag) (C : Addr) : Prop where
  c : Cls K C
  n1 : NoAttr K C "_wagons"
  n2 : NoAttr K C "_couplings"
  n3 : NoAttr K C "_free"
  n4 : NoAttr K C "_partners"
def layF (tw tc tf D : Addr) : List (Str × V) := [("_wagons", .ref tw), ("_couplings", .ref tc), ("_free", .ref tf), ("_partners", .ref D)]
/-- a Layout in the heap: of these wagons and couplings -/
def LayAt (K : PySem.W.Frag) (C : Addr) (H : Hp) (x : Addr) (ws : List Str) (ps : List CoupT) : Prop := ∃ (dx tw tc tf D : Addr) (uc uf : List V), H x = some (.ins C dx (layF tw tc tf D)) ∧ SqT K H tw ((sortO ws).map V.str) ∧
  SqT K H tc uc ∧ EachIs (CoupV H) uc (coupL (sortO ws) ps) ∧ SqT K H tf uf ∧ EachIs (EndV H) uf (freeL (sortO ws) ps) ∧ DicE H D (partE ps)
theorem LayAt.keep {K : PySem.W.Frag} {C x : Addr} {H H' : Hp} {ws : List Str} {ps : List CoupT} (s : KeepsT K H H') (t : TupK H H') (hi : ∀ dx fs, H x = some (.ins C dx fs) → H' x = some (.ins C dx fs)) (hd : ∀ D kvs, H D = some (.dT kvs) → H' D = some (.dT kvs)) (h : LayAt K C H x ws ps) : LayAt K C H' x ws ps := by
  obtain ⟨dx, tw, tc, tf, D, uc, uf, h1, h2, h3, h4, h5, h6, h7⟩ := h
  exact ⟨dx, tw, tc, tf, D, uc, uf, hi _ _ h1, s _ _ h2, s _ _ h3, coups_keep t h4, s _ _ h5, ends_keep t h6, h7.keep t fun _ => hd _ _⟩
/-- names of wagons -/
structure WagsOk (ws : List Str) : Prop where
  nm : ∀ x ∈ ws, nmS x = true
  nd : ws.Nodup
  few : ws.length ≤ 30
theorem metE_len : ∀ ps : List CoupT, (metE ps).length = 2 * ps.length
  | [] => rfl
  | p :: r => by
    show (metE r).length + 1 + 1 = 2 * (r.length + 1)
    rw [metE_len r]
    omega
theorem pairs_few {ws : List Str} {ps : List CoupT} (ok : PairsOk ws ps) : ps.length ≤ ws.length := by
  have h1 := ok.nd.length_le_of_subset fun e he => ok.sub e he
  rw [metE_len, endsO_len] at h1
  omega
section
variable {P : Program} {w : World} {K : PySem.W.Frag} {mg : Str → Option Value} {base : Heap} {t3 : Tok}
def spLay (K : PySem.W.Frag) (C : Addr) : Sp := fun vs H Q _ => ∃ (x dx aw ac : Addr) (us : List V) (ps : List CoupT) (ws : List Str), vs = [.ref x, .ref aw, .ref ac] ∧ H x = some (.ins C dx []) ∧ (SqL K H aw (ws.map V.str) ∨ SqT K H aw (ws.map V.str)) ∧ WagsOk ws ∧
  (SqL K H ac us ∨ SqT K H ac us) ∧ EachIs (CoupV H) us ps ∧ PairsOk ws ps ∧ ∀ H', SameP x H H' → LayAt K C H' x ws ps → Q .non H'
theorem strs_da {H : Hp} (p : Addr) : ∀ ws : List Str, DaAll K p H (ws.map V.str) (ws.map PyData.str)
  | [] => .nil
  | n :: r => .cons (.str _) (strs_da p r)
theorem strs_all {ws : List Str} (h : ∀ x ∈ ws, nmS x = true) : (ws.map PyData.str).all nmD = true := List.all_eq_true.mpr fun d hd => by
  obtain ⟨x, hx, rfl⟩ := List.mem_map.mp hd
  exact h x hx
theorem strs_strD (ws : List Str) : (ws.map PyData.str).map strD = ws := by
  rw [List.map_map]
  exact List.map_id ws
theorem names_nl {ws : List Str} (h : WagsOk ws) : nlD (.tuple (ws.map .str)) = true := by
  have e : ((ws.map PyData.str).all nmD && decide (((ws.map PyData.str).map strD).Nodup)) = true := by
    rw [strs_all h.nm, strs_strD, decide_eq_true h.nd]
    rfl
  exact e
theorem same_ins {H H7 : Hp} {x dx C : Addr} (hx : H x = none) (hdx : H dx = none) (s : SameP x (upd (upd H dx (.own x)) x (.ins C dx [])) H7) : Same H H7 := fun b o e => by
  have n1 : b ≠ x := ne_of_none e hx
  have n2 : b ≠ dx := ne_of_none e hdx
  exact s b o n1 (by rw [upd_ne n1, upd_ne n2]; exact e)
theorem ins_keep {x C dx : Addr} {fs : List (Str × V)} {H H' : Hp} (hx : H x = some (.ins C dx fs)) (s : SameP x H H') : KeepsT K H H' ∧ TupK H H' := by
  have ne : ∀ {b : Addr} {o : HO}, H b = some o → (∀ C dx fs, o ≠ .ins C dx fs) → b ≠ x := fun e n z => by rw [z, hx] at e; exact n _ _ _ (Option.some.inj e).symm
  refine ⟨fun a xs h => ?_, fun a xs h => s _ _ (ne h fun _ _ _ z => by cases z) h⟩
  rcases h with (h | ⟨o, h⟩) | h
  · exact .inl (.inl (s _ _ (ne h fun _ _ _ z => by cases z) h))
  · exact .inl (.inr ⟨o, s _ _ (ne h fun _ _ _ z => by cases z) h⟩)
  · exact .inr h
theorem DicE.sameP {x C dx : Addr} {fs : List (Str × V)} {H H' : Hp} (hx : H x = some (.ins C dx fs)) (s : SameP x H H') {D : Addr} {kv : List (EndT × EndT)} (h : DicE H D kv) : DicE H' D kv :=
  h.keep (ins_keep (K := []) hx s).2 fun kvs e => s _ _ (fun z => by rw [z, hx] at e; cases e) e
theorem take_next {α : Type} {xs : List α} {i : Nat} {a : α} (h : xs[i]? = some a) : xs.take (i + 1) = xs.take i ++ [a] := by rw [List.take_add_one, h] <;> rfl
theorem ok_layI {f C f1 f2 f3 : Addr} {fd e1 e2 e3 : FuncData} {dv : List V} (F : FunD K "__init__" "Layout.__init__" (defArgs sLayoutInit) (defBody sLayoutInit) (defScope sLayoutInit) dv [] f fd) (B : Glb mg) (ms : mg "sorted" = none) (g3 : mg "MOST_WAGONS" = some (.int 30 t3)) (RC : LayCls K C)
    (CN : Has P w K mg base 2 "is_name_list" ["value"] (spNL K) f1 e1) (CP : Has P w K mg base 6 "partners_by" ["couplings", "wagons"] (spPB K) f2 e2) (CE : Has P w K mg base 1 "ends_of" ["wagons"] (spEnds K) f3 e3) :
    FnOk P w K mg base CX0 7 f fd ["self", "wagons", "couplings"] (spLay K C) := by
  refine F.ok scLayoutInit (fun vs H Q E h => ?_) (fun cdv A outer s H vs Q E hr h => ?_)
  · obtain ⟨x, dx, aw, ac, us, ps, ws, rfl, _⟩ := h
    rfl
  · obtain ⟨x, dx, aw, ac, us, ps, ws, rfl, hx, hw, wok, hc, hu, pok, q⟩ := h
    have hr1 := hr.mono (show 1 ≤ 6 by decide)
    have hr2 := hr.mono (show 2 ≤ 6 by decide)
    have hu1 := hu_of hr
    have hu2 : (A.deeper (envOfC "Layout.__init__" (defScope sLayoutInit) s.heap.objs.size f cdv)).units + 2 + PySem.W.Datum.depth Str < cLine := by
      have := hr.units
      have e : PySem.W.Datum.depth Str = 0 := rfl
      omega
    have hu3 : (A.deeper (envOfC "Layout.__init__" (defScope sLayoutInit) s.heap.objs.size f cdv)).units + PySem.W.Datum.depth EndT < cLine := by
      have := hr.units
      have e : PySem.W.Datum.depth EndT = 1 := rfl
      omega
    refine ⟨_, (pss_cons (ps_if (PW.pt (pw_or (pt_not (pt_val (pe_has CN hr2 (by rfl) (pa_cons (pv 1) pa_nil))))
        (pw_or1 (pt_cmpR op_gt (pe_callB call_len (by rfl) B.len PySem.boot_len (pa_cons (pv 1) pa_nil)) (pe_glob (v := .int 30) (by rfl) g3 ⟨_, rfl⟩) (nomark _))))) (pss_one ps_no) pss_nil)
      (pss_cons (ps_set (i := 3) scLayoutInit.nd rfl (.inr rfl) (pe_has CP hr (by rfl) (pa_cons (pv 2) (pa_cons (pv 1) pa_nil))))
      (pss_cons (ps_fld (pv 0) (pe_callTy call_tupleF (by rfl) B.tuple (by decide +kernel) (pa_cons (pe_callB (call_sortR (α := Str) sortable_str hu2) (by rfl) ms (by decide +kernel) (pa_cons (pv 1) pa_nil)) pa_nil)) rfl)
      (pss_cons (ps_set (i := 4) scLayoutInit.nd rfl (.inl rfl) (pe_has CE hr1 (by rfl) (pa_cons (pe_fld (pv 0) rfl) pa_nil)))
      (pss_cons (ps_fld (pv 0) (pe_callTy call_tupleF (by rfl) B.tuple (by decide +kernel) (pa_cons (pe_lc (own := [("end", 5)]) (g := gName 5) (tt := tAnd (tB (tDIn (tVar 5) (tVar 3))) (tTest (tOp (rLtD EndT K) (tVar 5) (tDGet (tVar 3) (tVar 5))))) (te := tTup (tCons (tVar 5) (tCons (tDGet (tVar 3) (tVar 5)) tNil))) rfl scLayoutInit.nd (pi_list (pv 4))
          (blkOk_by (own := [("end", 5)]) (N := ["self", "wagons", "couplings", "partners", "ends", "end"]) (sc := defScope sLayoutInit) (by decide +kernel)) (fun _ _ _ _ _ => pg_name (i := 5) scLayoutInit.nd rfl (Or.inl rfl))
          (fun _ _ _ _ _ => pts_one (PW.pt (pw_and (pt_cmp (pc_din hu1 (pv 5) (pv 3)) (by rfl)) (pw_and1 (pt_cmpR (op_ltD (α := EndT) hu3) (pv 5) (pe_dget hu1 (pv 3) (pv 5) (fun _ _ => rfl)) (nomark _))))))
          (fun _ _ _ _ _ => pe_tup (pa_cons (pv 5) (pa_cons (pe_dget hu1 (pv 3) (pv 5) (fun _ _ => rfl)) pa_nil)))) pa_nil)) rfl)
      (pss_cons (ps_fld (pv 0) (pe_callTy call_tupleF (by rfl) B.tuple (by decide +kernel) (pa_cons (pe_lc (own := [("end", 5)]) (g := gName 5) (tt := tB (tDNotIn (tVar 5) (tVar 3))) (te := tVar 5) rfl scLayoutInit.nd (pi_list (pv 4))
          (blkOk_by (own := [("end", 5)]) (N := ["self", "wagons", "couplings", "partners", "ends", "end"]) (sc := defScope sLayoutInit) (by decide +kernel)) (fun _ _ _ _ _ => pg_name (i := 5) scLayoutInit.nd rfl (Or.inl rfl))
          (fun _ _ _ _ _ => pts_one (pt_cmp (pc_dnotin hu1 (pv 5) (pv 3)) (by rfl))) (fun _ _ _ _ _ => pv 5)) pa_nil)) rfl)
      (pss_one (ps_fld (pv 0) (pv 3) rfl)))))))), ?_⟩
    have hN : NlV K 0 H (.ref aw) (.tuple (ws.map .str)) := .inr ⟨aw, _, rfl, hw, rfl, strs_da 0 ws⟩
    have few := wok.few
    have pfew := pairs_few pok
    refine ⟨_, rfl, 0, .ref aw, .tuple (ws.map .str), rfl, hN, (by show (ws.map PyData.str).length ≤ 1000; rw [List.length_map]; omega), fun e he x ex => (by obtain ⟨n, hn, rfl⟩ := List.mem_map.mp he; cases ex; exact nm_len (wok.nm _ hn)), fun H1 s1 => ⟨_, rfl, ?_⟩⟩
    rw [names_nl wok]
    have hw1 : SqL K H1 aw (ws.map V.str) ∨ SqT K H1 aw (ws.map V.str) := hw.imp (s1.keeps.l _ _) (s1.keeps.t _ _)
    refine iteF ⟨_, rfl, .ref aw, (ws.map V.str).length, rfl, hw1.elim (fun z => .inl ⟨_, z, rfl⟩) (fun z => .inr ⟨_, z, rfl⟩), _, _, rfl, rfl, _, rfl, ?_⟩
    rw [decide_eq_false (by rw [List.length_map]; omega)]
    refine iteF ?_
    have hc1 : SqL K H1 ac us ∨ SqT K H1 ac us := hc.imp (s1.keeps.l _ _) (s1.keeps.t _ _)
    refine ⟨_, rfl, _, rfl, ac, aw, us, ps, ws, rfl, hc1, coups_keep s1.tupK hu, hw1, fun e he => (by have z := mem_endsO.mp (pok.sub e he); exact ⟨wok.nm _ z.1, z.1, z.2⟩), pok.nd, by omega, fun D H2 hD dD s2 => ?_⟩
    have S2 := s1.trans s2
    have x2 := S2 _ _ hx
    have hw2 : SqL K H2 aw (ws.map V.str) ∨ SqT K H2 aw (ws.map V.str) := hw.imp (S2.keeps.l _ _) (S2.keeps.t _ _)
    clear hN hw1 hc1 s1 s2 hw hc hu hD
    -- _wagons
    refine ⟨_, rfl, fun v x => v = V.str x, aw, _, ws, rfl, hw2, each_strs ws, fun v b e => by rw [e]; exact .str _, by omega, fun p1 wv hp e1 => ?_⟩
    rw [strs_each e1]
    have s3 := same_new (o := HO.lst ((sortO ws).map V.str)) hp
    have ep : (upd H2 p1 (.lst ((sortO ws).map V.str))) p1 = some (.lst ((sortO ws).map V.str)) := upd_same
    refine ⟨p1, _, rfl, .inl (.inl ep), fun tw ob htw hob => ?_⟩
    have s4 := s3.trans (same_new (o := HO.frz ob (.tup ((sortO ws).map V.str))) htw)
    have et := upd_same (H := upd H2 p1 (.lst ((sortO ws).map V.str))) (a := tw) (o := HO.frz ob (.tup ((sortO ws).map V.str)))
    generalize upd (upd H2 p1 (.lst ((sortO ws).map V.str))) tw (.frz ob (.tup ((sortO ws).map V.str))) = H3 at s4 et
    clear s3 ep hp htw e1 wv p1
    have x3 := s4 _ _ x2
    have d3 := dD.same s4
    refine ⟨_, rfl, x, C, dx, _, rfl, x3, RC.c, RC.n1, by show 0 + 1 ≤ 1000; decide, ?_⟩
    have S4 : SameP x H (upd H3 x (.ins C dx (putF "_wagons" (.ref tw) []))) := fun b o n e => (upd_ne n).trans (s4 _ _ (S2 _ _ e))
    have k4 : SameP x H3 (upd H3 x (.ins C dx (putF "_wagons" (.ref tw) []))) := fun b o n e => (upd_ne n).trans e
    have x4 : (upd H3 x (.ins C dx (putF "_wagons" (.ref tw) []))) x = some (.ins C dx [("_wagons", .ref tw)]) := upd_same
    have d4 := d3.sameP x3 k4
    have et4 : SqT K (upd H3 x (.ins C dx (putF "_wagons" (.ref tw) []))) tw ((sortO ws).map V.str) := (ins_keep x3 k4).1 _ _ (.inl (.inr ⟨ob, et⟩))
    generalize upd H3 x (.ins C dx (putF "_wagons" (.ref tw) [])) = H4 at S4 x4 d4 et4
    clear k4 d3 x3 et s4 hw2 x2 S2 dD
    -- ends
    have lens : (sortO ws).length = ws.length := (List.mergeSort_perm ws leO).length_eq
    refine ⟨_, rfl, x, C, dx, _, _, rfl, x4, RC.c, RC.n1, rfl, tw, sortO ws, rfl, et4, by omega, fun l ul H5 hl el eu s5 => ?_⟩
    have x5 := s5 _ _ x4
    have d5 := d4.same s5
    have et5 := s5.keepsT _ _ et4
    have lenl := eu.length
    rw [endsO_len, lens] at lenl
    have S5 : SameP x H H5 := fun b o n e => s5 _ _ (S4 b o n e)
    clear hl d4 et4 x4 s5 S4
    -- _couplings
    refine ⟨_, rfl, l, rfl, ⟨_, .inl (.inl el)⟩, fun Dl hDl => ?_⟩
    refine lcT_sq (sq_list (K := K) (a := l) (xs := ul)) (fun i H' => ∃ uc : List V, H' Dl = some (.lst uc) ∧ EachIs (CoupV H') uc (((endsO (sortO ws)).take i).filterMap fun e => match lookE (partE ps) e with
        | some q => if DatumOrd.lt e q = true then some (e, q) else none
        | none => none) ∧ uc.length ≤ i ∧ Same H5 H') ⟨[], upd_same, .nil, Nat.le_refl _, same_new hDl⟩ (fun i H' ⟨_, _, _, _, sm⟩ => sm.keeps.l _ _ (.inl (.inl el))) (fun i y H' hy hp => ⟨rfl, ?_⟩) (fun H' hp => ?_)
    · obtain ⟨uc, eD, hcs, hle, sm⟩ := hp
      obtain ⟨e, he, hv⟩ := each_at eu hy
      have hv := hv.keep sm.tupK
      have hi : i < ul.length := (List.getElem?_eq_some_iff.mp hy).1
      obtain ⟨o, g1, g2⟩ := (d5.same sm).get hv
      refine ⟨_, rfl, _, rfl, D, o, rfl, g1, _, rfl, ?_⟩
      rcases g2 with ⟨z, rfl⟩ | ⟨q, u, z, rfl, hq⟩
      · refine iteF (iteF ⟨uc, eD, ?_, by omega, sm⟩)
        rw [take_next he, List.filterMap_append]
        simp only [List.filterMap_cons, z, List.filterMap_nil, List.append_nil]
        exact hcs
      · refine iteT ⟨_, rfl, _, rfl, _, rfl, D, u, rfl, g1, e, q, hv.dt, hq.dt, _, rfl, ?_⟩
        cases lt : (DatumOrd.lt e q : Bool) with
        | false =>
          refine iteF ⟨uc, eD, ?_, by omega, sm⟩
          rw [take_next he, List.filterMap_append]
          simp only [List.filterMap_cons, z, lt, List.filterMap_nil, List.append_nil, Bool.false_eq_true, if_false]
          exact hcs
        | true =>
          refine iteT ⟨_, rfl, _, rfl, _, rfl, D, u, rfl, g1, by show 2 ≤ sizeLine; decide, fun t ht => ?_⟩
          have st := same_new (o := HO.tup [y, u]) ht
          have eD2 := st _ _ eD
          have tk : TupK H' (upd (upd H' t (.tup [y, u])) Dl (.lst (uc ++ [.ref t]))) := st.tupK.trans (.at fun xs z => by rw [eD2] at z; cases z)
          have nd : t ≠ Dl := fun z => by rw [z, eD] at ht; cases ht
          refine ⟨uc, eD2, Evl.sz_lt (by omega), uc ++ [.ref t], upd_same, ?_, by rw [List.length_append]; show _ + 1 ≤ i + 1; omega, fun b o z => ?_⟩
          · rw [take_next he, List.filterMap_append]
            simp only [List.filterMap_cons, z, lt, List.filterMap_nil, if_pos]
            exact each_app (coups_keep tk hcs) (.cons ⟨t, y, u, rfl, (upd_ne nd).trans upd_same, hv.keep tk, hq.keep tk⟩ .nil)
          · rw [upd_ne (ne_of_none z hDl)]
            exact st _ _ (sm b o z)
    obtain ⟨uc, eD, hcs, hle, s6⟩ := hp
    rw [eu.length, List.take_length] at hcs
    have hcs : EachIs (CoupV H') uc (coupL (sortO ws) ps) := hcs
    refine ⟨Dl, uc, rfl, .inl (.inl eD), fun tc ob htc hob => ?_⟩
    have s7 := s6.trans (same_new (o := HO.frz ob (.tup uc)) htc)
    have t7 := (same_new (o := HO.frz ob (.tup uc)) htc).tupK
    have et7 := upd_same (H := H') (a := tc) (o := HO.frz ob (.tup uc))
    generalize upd H' tc (.frz ob (.tup uc)) = H7 at s7 t7 et7
    have hcs7 := coups_keep t7 hcs
    have x7 := s7 _ _ x5
    have d7 := d5.same s7
    refine ⟨_, rfl, x, C, dx, _, rfl, x7, RC.c, RC.n2, by show 1 + 1 ≤ 1000; decide, ?_⟩
    have k8 : SameP x H7 (upd H7 x (.ins C dx (putF "_couplings" (.ref tc) [("_wagons", .ref tw)]))) := fun b o n e => (upd_ne n).trans e
    have S8 : SameP x H (upd H7 x (.ins C dx (putF "_couplings" (.ref tc) [("_wagons", .ref tw)]))) := fun b o n e => k8 b o n (s7 _ _ (S5 b o n e))
    have x8 : (upd H7 x (.ins C dx (putF "_couplings" (.ref tc) [("_wagons", .ref tw)]))) x = some (.ins C dx [("_wagons", .ref tw), ("_couplings", .ref tc)]) := upd_same
    have d8 := d7.sameP x7 k8
    have nlx : l ≠ x := fun z => by rw [z, x5] at el; cases el
    have el8 : (upd H7 x (.ins C dx (putF "_couplings" (.ref tc) [("_wagons", .ref tw)]))) l = some (.lst ul) := k8 _ _ nlx (s7 _ _ el)
    obtain ⟨kt8, tk8⟩ := ins_keep (K := K) x7 k8
    have etw8 := kt8 _ _ (s7.keepsT _ _ et5)
    have etc8 := kt8 _ _ (.inl (.inr ⟨ob, et7⟩))
    have hcs8 := coups_keep tk8 hcs7
    have eu8 := ends_keep (s7.tupK.trans tk8) eu
    generalize upd H7 x (.ins C dx (putF "_couplings" (.ref tc) [("_wagons", .ref tw)])) = H8 at S8 x8 d8 el8 etw8 etc8 hcs8 eu8
    clear k8 kt8 tk8 d7 x7 hcs7 et7 t7 s7 htc
    clear hcs
    clear eD s6 hDl d5 x5 el eu S5 et5
    -- _free
    refine ⟨_, rfl, l, rfl, ⟨_, .inl (.inl el8)⟩, fun Dl hDl => ?_⟩
    refine lcT_sq (sq_list (K := K) (a := l) (xs := ul)) (fun i H' => ∃ uf : List V, H' Dl = some (.lst uf) ∧ EachIs (EndV H') uf (((endsO (sortO ws)).take i).filter fun e => !(lookE (partE ps) e).isSome) ∧ uf.length ≤ i ∧ Same H8 H')
      ⟨[], upd_same, .nil, Nat.le_refl _, same_new hDl⟩ (fun i H' ⟨_, _, _, _, sm⟩ => sm.keeps.l _ _ (.inl (.inl el8))) (fun i y H' hy hp => ⟨rfl, ?_⟩) (fun H' hp => ?_)
    · obtain ⟨uf, eD, hfs, hle, sm⟩ := hp
      obtain ⟨e, he, hv⟩ := each_at eu8 hy
      have hv := hv.keep sm.tupK
      have hi : i < ul.length := (List.getElem?_eq_some_iff.mp hy).1
      obtain ⟨o, g1, g2⟩ := (d8.same sm).get hv
      refine ⟨_, rfl, _, rfl, D, o, rfl, g1, _, rfl, ?_⟩
      rcases g2 with ⟨z, rfl⟩ | ⟨q, u, z, rfl, hq⟩
      · have tk : TupK H' (upd H' Dl (.lst (uf ++ [y]))) := .at fun xs z => by rw [eD] at z; cases z
        refine iteT ⟨_, rfl, uf, eD, Evl.sz_lt (by omega), uf ++ [y], upd_same, ?_, by rw [List.length_append]; show _ + 1 ≤ i + 1; omega, fun b o z => ?_⟩
        · rw [take_next he, List.filter_append]
          simp only [List.filter_cons, z, List.filter_nil, Option.isSome_none, Bool.not_false, if_true]
          exact each_app (ends_keep tk hfs) (.cons (hv.keep tk) .nil)
        · rw [upd_ne (ne_of_none z hDl)]
          exact sm b o z
      · refine iteF ⟨uf, eD, ?_, by omega, sm⟩
        rw [take_next he, List.filter_append]
        simp only [List.filter_cons, z, List.filter_nil, Option.isSome_some, Bool.not_true, Bool.false_eq_true, if_false, List.append_nil]
        exact hfs
    obtain ⟨uf, eD, hfs, hle, s6⟩ := hp
    rw [eu8.length, List.take_length] at hfs
    have hfs : EachIs (EndV H') uf (freeL (sortO ws) ps) := hfs
    refine ⟨Dl, uf, rfl, .inl (.inl eD), fun tf ob htf hob => ?_⟩
    have s9 := s6.trans (same_new (o := HO.frz ob (.tup uf)) htf)
    have t9 := (same_new (o := HO.frz ob (.tup uf)) htf).tupK
    have et9 := upd_same (H := H') (a := tf) (o := HO.frz ob (.tup uf))
    generalize upd H' tf (.frz ob (.tup uf)) = H9 at s9 t9 et9
    have hfs9 := ends_keep t9 hfs
    have x9 := s9 _ _ x8
    have d9 := d8.same s9
    refine ⟨_, rfl, x, C, dx, _, rfl, x9, RC.c, RC.n3, by show 2 + 1 ≤ 1000; decide, ?_⟩
    have kA : SameP x H9 (upd H9 x (.ins C dx (putF "_free" (.ref tf) [("_wagons", .ref tw), ("_couplings", .ref tc)]))) := fun b o n e => (upd_ne n).trans e
    have SA : SameP x H (upd H9 x (.ins C dx (putF "_free" (.ref tf) [("_wagons", .ref tw), ("_couplings", .ref tc)]))) := fun b o n e => kA b o n (s9 _ _ (S8 b o n e))
    have xA : (upd H9 x (.ins C dx (putF "_free" (.ref tf) [("_wagons", .ref tw), ("_couplings", .ref tc)]))) x = some (.ins C dx [("_wagons", .ref tw), ("_couplings", .ref tc), ("_free", .ref tf)]) := upd_same
    have dA := d9.sameP x9 kA
    obtain ⟨ktA, tkA⟩ := ins_keep (K := K) x9 kA
    have etwA := ktA _ _ (s9.keepsT _ _ etw8)
    have etcA := ktA _ _ (s9.keepsT _ _ etc8)
    have etfA := ktA _ _ (.inl (.inr ⟨ob, et9⟩))
    have hcsA := coups_keep (s9.tupK.trans tkA) hcs8
    have hfsA := ends_keep tkA hfs9
    generalize upd H9 x (.ins C dx (putF "_free" (.ref tf) [("_wagons", .ref tw), ("_couplings", .ref tc)])) = HA at SA xA dA etwA etcA etfA hcsA hfsA
    -- _partners
    refine ⟨_, rfl, _, rfl, x, C, dx, _, rfl, xA, RC.c, RC.n4, by show 3 + 1 ≤ 1000; decide, ?_⟩
    have kB : SameP x HA (upd HA x (.ins C dx (putF "_partners" (.ref D) [("_wagons", .ref tw), ("_couplings", .ref tc), ("_free", .ref tf)]))) := fun b o n e => (upd_ne n).trans e
    obtain ⟨ktB, tkB⟩ := ins_keep (K := K) xA kB
    exact q _ (fun b o n e => kB b o n (SA b o n e)) ⟨dx, tw, tc, tf, D, uc, uf, upd_same, ktB _ _ etwA, ktB _ _ etcA, coups_keep tkB hcsA, ktB _ _ etfA, ends_keep tkB hfsA, dA.sameP xA kB⟩
end
end My
set_option Elab.async false
set_option linter.all false
set_option maxRecDepth 100000
set_option maxHeartbeats 4000000
/-! wagons, couplings, free, len of a Layout -/
namespace My
open PySem PySem.Spec PyProof.Rows L2
open PySem.W (Datum DatumOrd EachIs)
section
variable {P : Program} {w : World} {K : PySem.W.Frag} {mg : Str → Option Value} {base : Heap}
def spLyW (K : PySem.W.Frag) (C : Addr) : Sp := fun vs H Q _ => ∃ (x : Addr) (ws : List Str) (ps : List CoupT), vs = [.ref x] ∧ LayAt K C H x ws ps ∧ ∀ t, SqT K H t ((sortO ws).map V.str) → Q (.ref t) H
def spLyC (K : PySem.W.Frag) (C : Addr) : Sp := fun vs H Q _ => ∃ (x : Addr) (ws : List Str) (ps : List CoupT), vs = [.ref x] ∧ LayAt K C H x ws ps ∧ ∀ t us, SqT K H t us → EachIs (CoupV H) us (coupL (sortO ws) ps) → Q (.ref t) H
def spLyF (K : PySem.W.Frag) (C : Addr) : Sp := fun vs H Q _ => ∃ (x : Addr) (ws : List Str) (ps : List CoupT), vs = [.ref x] ∧ LayAt K C H x ws ps ∧ ∀ t us, SqT K H t us → EachIs (EndV H) us (freeL (sortO ws) ps) → Q (.ref t) H
def spLyN (K : PySem.W.Frag) (C : Addr) : Sp := fun vs H Q _ => ∃ (x : Addr) (ws : List Str) (ps : List CoupT), vs = [.ref x] ∧ LayAt K C H x ws ps ∧ Q (.int ((coupL (sortO ws) ps).length : Int)) H
theorem ok_lyW {f C : Addr} {fd : FuncData} (F : Fun K "wagons" "Layout.wagons" sLayoutWagons f fd) (RC : LayCls K C) : FnOk P w K mg base CX0 1 f fd ["self"] (spLyW K C) := by
  refine F.ok scLayoutWagons (fun vs H Q E h => ?_) (fun cdv A outer s H vs Q E hr h => ?_)
  · obtain ⟨x, ws, ps, rfl, _⟩ := h
    rfl
  · obtain ⟨x, ws, ps, rfl, ⟨dx, tw, tc, tf, D, uc, uf, h1, h2, h3, h4, h5, h6, h7⟩, q⟩ := h
    exact ⟨_, pss_one (ps_ret (pe_fld (pv 0) rfl)), _, rfl, x, C, dx, _, _, rfl, h1, RC.c, RC.n1, rfl, q tw h2⟩
theorem ok_lyC {f C : Addr} {fd : FuncData} (F : Fun K "couplings" "Layout.couplings" sLayoutCouplings f fd) (RC : LayCls K C) : FnOk P w K mg base CX0 1 f fd ["self"] (spLyC K C) := by
  refine F.ok scLayoutCouplings (fun vs H Q E h => ?_) (fun cdv A outer s H vs Q E hr h => ?_)
  · obtain ⟨x, ws, ps, rfl, _⟩ := h
    rfl
  · obtain ⟨x, ws, ps, rfl, ⟨dx, tw, tc, tf, D, uc, uf, h1, h2, h3, h4, h5, h6, h7⟩, q⟩ := h
    exact ⟨_, pss_one (ps_ret (pe_fld (pv 0) rfl)), _, rfl, x, C, dx, _, _, rfl, h1, RC.c, RC.n2, rfl, q tc uc h3 h4⟩
theorem ok_lyF {f C : Addr} {fd : FuncData} (F : Fun K "free" "Layout.free" sLayoutFree f fd) (RC : LayCls K C) : FnOk P w K mg base CX0 1 f fd ["self"] (spLyF K C) := by
  refine F.ok scLayoutFree (fun vs H Q E h => ?_) (fun cdv A outer s H vs Q E hr h => ?_)
  · obtain ⟨x, ws, ps, rfl, _⟩ := h
    rfl
  · obtain ⟨x, ws, ps, rfl, ⟨dx, tw, tc, tf, D, uc, uf, h1, h2, h3, h4, h5, h6, h7⟩, q⟩ := h
    exact ⟨_, pss_one (ps_ret (pe_fld (pv 0) rfl)), _, rfl, x, C, dx, _, _, rfl, h1, RC.c, RC.n3, rfl, q tf uf h5 h6⟩
theorem ok_lyN {f C : Addr} {fd : FuncData} (F : Fun K "__len__" "Layout.__len__" sLayoutLen f fd) (B : Glb mg) (RC : LayCls K C) : FnOk P w K mg base CX0 1 f fd ["self"] (spLyN K C) := by
  refine F.ok scLayoutLen (fun vs H Q E h => ?_) (fun cdv A outer s H vs Q E hr h => ?_)
  · obtain ⟨x, ws, ps, rfl, _⟩ := h
    rfl
  · obtain ⟨x, ws, ps, rfl, ⟨dx, tw, tc, tf, D, uc, uf, h1, h2, h3, h4, h5, h6, h7⟩, q⟩ := h
    refine ⟨_, pss_one (ps_ret (pe_callB call_len (by rfl) B.len PySem.boot_len (pa_cons (pe_fld (pv 0) rfl) pa_nil))), ?_⟩
    refine ⟨_, rfl, x, C, dx, _, _, rfl, h1, RC.c, RC.n2, rfl, .ref tc, uc.length, rfl, .inr ⟨_, h3, rfl⟩, ?_⟩
    rw [h4.length]
    exact q
end
end My
set_option Elab.async false
set_option linter.all false
set_option maxRecDepth 100000
set_option maxHeartbeats 4000000
/-! can_be_added of any value -/
namespace My
open PySem PySem.Spec PyProof.Rows L2
open PySem.W (Datum DatumOrd EachIs)
theorem notin_str2 {x : Str} {ws : List Str} (h : x ∉ ws) : inV (.str x) (ws.map V.str) = false := by
  unfold inV
  refine Bool.eq_false_iff.mpr fun z => ?_
  obtain ⟨u, hu, e⟩ := List.any_eq_true.mp z
  obtain ⟨y, hy, rfl⟩ := List.mem_map.mp hu
  unfold eqV at e
  simp at e
  exact h (e ▸ hy)
section
variable {P : Program} {w : World} {K : PySem.W.Frag} {mg : Str → Option Value} {base : Heap}
/-- an end that some wagons have and that has no partner yet -/
def openE (ws : List Str) (kv : List (EndT × EndT)) (e : EndT) : Bool := decide (e.1 ∈ ws) && (lookE kv e).isNone
def addE (ws : List Str) (kv : List (EndT × EndT)) (c : CoupT) : Bool := !decide (c.1 = c.2) && (openE ws kv c.1 && openE ws kv c.2)
def spAddV (K : PySem.W.Frag) : Sp := fun vs H Q _ => ∃ (v : V) (aw D : Addr) (ws : List Str) (kv : List (EndT × EndT)), vs = [v, .ref aw, .ref D] ∧ (SqL K H aw (ws.map V.str) ∨ SqT K H aw (ws.map V.str)) ∧ DicE H D kv ∧
  ((∃ (p : Addr) (d : PyData), Da K p H v d ∧ Fit2 d ∧ epD d = false ∧ ∀ H', Same H H' → Q (.bl false) H') ∨
   (∃ c : CoupT, CoupV H v c ∧ nmS c.1.1 = true ∧ (c.1.2 = 0 ∨ c.1.2 = 1) ∧ nmS c.2.1 = true ∧ (c.2.2 = 0 ∨ c.2.2 = 1) ∧ ∀ H', Same H H' → Q (.bl (addE ws kv c)) H'))
theorem ok_canaddV {f fE : Addr} {fd dE : FuncData} (F : Fun K "can_be_added" "can_be_added" sCanBeAdded f fd) (B : Glb mg) (GE : Has P w K mg base 4 "is_end_pair" ["value"] (spEP K) fE dE) : FnOk P w K mg base CX0 5 f fd ["value", "wagons", "partners"] (spAddV K) := by
  refine F.ok scCanBeAdded (fun vs H Q E h => ?_) (fun cdv A outer s H vs Q E hr h => ?_)
  · obtain ⟨v, aw, D, ws, kv, rfl, _⟩ := h
    rfl
  · obtain ⟨v, aw, D, ws, kv, rfl, hw, hD, h⟩ := h
    have hu : (A.deeper (envOfC "can_be_added" (defScope sCanBeAdded) s.heap.objs.size f cdv)).units + PySem.W.Datum.depth EndT < cLine := by
      have := hr.units
      have e : PySem.W.Datum.depth EndT = 1 := rfl
      omega
    have hu1 := hu_of hr
    refine ⟨_, pss_cons (ps_if (PW.pt (pw_or (pt_not (pt_val (pe_has GE hr (by rfl) (pa_cons (pv 0) pa_nil))))
        (pw_or1 (pt_cmpR (op_eqDt (α := EndT) hu) (pe_ix ix_tup (pv 0) pe_int (fun _ _ => rfl)) (pe_ix ix_tup (pv 0) pe_int (fun _ _ => rfl)) (nomark _))))) (pss_one (ps_ret pe_bl)) pss_nil)
      (pss_one (ps_ret (pe_callB (cr_all rfl) (by rfl) B.all (by decide +kernel) (pa_cons (pe_lc (own := [("end", 3)]) (g := gName 3) (tt := tYes) (te := tAndV (tOp (rIn K false) (tOp (rIxT K) (tVar 3) (tC (.int 0))) (tVar 1)) (tDNotIn (tVar 3) (tVar 2))) rfl scCanBeAdded.nd (pi_tup (pv 0))
          (blkOk_by (own := [("end", 3)]) (N := ["value", "wagons", "partners", "end"]) (sc := defScope sCanBeAdded) (by decide +kernel)) (fun _ _ _ _ _ => pg_name (i := 3) scCanBeAdded.nd rfl (Or.inl rfl)) (fun _ _ _ _ _ => pts_nil)
          (fun _ _ _ _ _ => pe_and (pe_cmpR op_in_seq (pe_ix ix_tup (pv 3) pe_int (fun _ _ => rfl)) (pv 1) (by rfl)) (pe_one (pe_cmp (pc_dnotin hu1 (pv 3) (pv 2)) (by rfl))))) pa_nil)))), ?_⟩
    rcases h with ⟨p, d, Dd, hf, hd, q⟩ | ⟨c, hc, m1, sd1, m2, sd2, q⟩
    · refine ⟨_, rfl, p, v, d, rfl, Dd, hf, fun H1 s1 => ⟨_, rfl, ?_⟩⟩
      rw [hd]
      exact iteT (q H1 s1)
    obtain ⟨a, u1, u2, rfl, ha, h1, h2⟩ := hc
    have hT : SqT K H a [u1, u2] := .inl (.inl ha)
    have i0 : atI [u1, u2] 0 = some u1 := atI_nat (j := 0) rfl
    have i1 : atI [u1, u2] 1 = some u2 := atI_nat (j := 1) rfl
    refine ⟨_, rfl, 0, .ref a, Datum.toD c, rfl, dt_da (.tup hT (.two h1.dt h2.dt)), fit_coup m1 m2, fun H1 s1 => ⟨_, rfl, ?_⟩⟩
    have ee : epD (Datum.toD c) = true := by
      show (withD [0, 1] (Datum.toD c.1) && withD [0, 1] (Datum.toD c.2)) = true
      rw [with_end m1 sd1, with_end m2 sd2]
      rfl
    rw [ee]
    refine iteF ⟨_, rfl, a, _, _, _, rfl, rfl, s1.keepsT _ _ hT, i0, _, rfl, a, _, _, _, rfl, rfl, s1.keepsT _ _ hT, i1, c.1, c.2, (h1.keep s1.tupK).dt, (h2.keep s1.tupK).dt, _, rfl, ?_⟩
    by_cases ne : c.1 = c.2
    · rw [decide_eq_true ne]
      have e : addE ws kv c = false := by
        unfold addE
        rw [decide_eq_true ne]
        rfl
      rw [e] at q
      exact iteT (q H1 s1)
    rw [decide_eq_false ne]
    have ea : addE ws kv c = (openE ws kv c.1 && openE ws kv c.2) := by
      unfold addE
      rw [decide_eq_false ne]
      rfl
    refine iteF ⟨_, rfl, a, rfl, ⟨_, s1.keepsT _ _ hT⟩, fun Dl hDl => ?_⟩
    refine lcN_tup (K := K) (a := a) (xs := [u1, u2]) (fun i H' => H' Dl = some (.lst (([openE ws kv c.1, openE ws kv c.2].take i).map V.bl)) ∧ Same H1 H') ⟨upd_same, same_new hDl⟩ (fun i H' _ hp => hp.2.keepsT _ _ (s1.keepsT _ _ hT)) (fun i x H' hx hp => ⟨rfl, ?_⟩) (fun H' hp => ?_)
    · have S := s1.trans hp.2
      obtain ⟨e, he, et⟩ : ∃ e, EndV H' x e ∧ [openE ws kv c.1, openE ws kv c.2].take (i + 1) = [openE ws kv c.1, openE ws kv c.2].take i ++ [openE ws kv e] := by
        match i, hx with
        | 0, hx => cases hx; exact ⟨_, h1.keep S.tupK, rfl⟩
        | 1, hx => cases hx; exact ⟨_, h2.keep S.tupK, rfl⟩
      have hi : i < 2 := (List.getElem?_eq_some_iff.mp hx).1
      obtain ⟨b, rfl, hb⟩ := id he
      obtain ⟨o, g1, g2⟩ := (hD.same S).get he
      have on : o.isNone = (lookE kv e).isNone := by
        rcases g2 with ⟨z, z2⟩ | ⟨q, u, z, z2, _⟩
        · rw [z, z2]; rfl
        · rw [z, z2]; rfl
      refine ⟨_, rfl, b, _, _, _, rfl, rfl, .inl (.inl hb), atI_nat (j := 0) rfl, _, rfl, aw, _, rfl, hw.imp (S.keeps.l _ _) (S.keeps.t _ _), rfl, flat_strs ws, ?_⟩
      refine ⟨_, rfl, ?_⟩
      show if (if false = true then !inV (.str e.1) (ws.map V.str) else inV (.str e.1) (ws.map V.str)) = true then _ else _
      rw [if_neg Bool.false_ne_true]
      have few : ((List.take i [openE ws kv c.1, openE ws kv c.2]).map V.bl).length < 100000 := by
        rw [List.length_map, List.length_take]
        show min i 2 < 100000
        omega
      by_cases hin : e.1 ∈ ws
      · rw [in_strs hin]
        refine iteT ⟨_, rfl, _, rfl, D, _, rfl, g1, _, hp.1, Evl.sz_lt few, ?_, ?_⟩
        · rw [upd_same, et, List.map_append]
          have : openE ws kv e = !o.isSome := by
            unfold openE
            rw [decide_eq_true hin, ← on]
            cases o <;> rfl
          rw [this]
          rfl
        · intro b o z
          rw [upd_ne (ne_of_none z hDl)]
          exact hp.2 b o z
      · rw [notin_str2 hin]
        refine iteF ⟨_, hp.1, Evl.sz_lt few, ?_, ?_⟩
        · rw [upd_same, et, List.map_append]
          have : openE ws kv e = false := by
            unfold openE
            rw [decide_eq_false hin]
            rfl
          rw [this]
          rfl
        · intro b o z
          rw [upd_ne (ne_of_none z hDl)]
          exact hp.2 b o z
    · obtain ⟨eD, sm⟩ := hp
      refine ⟨Dl, [openE ws kv c.1, openE ws kv c.2], rfl, .inl (.inl eD), ?_⟩
      have q := q _ (s1.trans sm)
      rw [ea] at q
      have e : [openE ws kv c.1, openE ws kv c.2].all id = (openE ws kv c.1 && openE ws kv c.2) := by simp
      rw [← e] at q
      exact q
end
end My
set_option Elab.async false
set_option linter.all false
set_option maxRecDepth 100000
set_option maxHeartbeats 4000000
/-! a == b, a != b: data without dicts -/
namespace My
open PySem PySem.Spec PyProof.Rows L2
open PySem.W (Datum DatumOrd EachIs)
section
variable {X : Cx}
def rEqP (K : PySem.W.Frag) : R2 := fun x y H Q => ∃ da db : PyData, Dp K H x da ∧ Dp K H y db ∧ da.plain = true ∧ db.plain = true ∧ min da.depth db.depth ≤ 60 ∧ Q (.bl (PyData.eqv da db)) H
theorem op_eqP (hu : X.A.units + 64 < cLine) : OpR X (compareOp .Eq) (rEqP X.K) := by
  intro pins s σ H x y v u Q I rx ry ⟨da, db, hx, hy, p1, p2, hd, k⟩
  obtain ⟨as, ra⟩ := Dp.reads I _ _ _ hx rx
  obtain ⟨bs, rb⟩ := Dp.reads I _ _ _ hy ry
  exact PySem.SeqAt.eq_plain ra rb p1 p2 (by omega) ⟨.bl _, H, I, rfl, k⟩
def rNeP (K : PySem.W.Frag) : R2 := fun x y H Q => ∃ da db : PyData, Dp K H x da ∧ Dp K H y db ∧ da.plain = true ∧ db.plain = true ∧ min da.depth db.depth ≤ 60 ∧ Q (.bl (!PyData.eqv da db)) H
theorem op_neP (hu : X.A.units + 64 < cLine) : OpR X (compareOp .NotEq) (rNeP X.K) := by
  intro pins s σ H x y v u Q I rx ry ⟨da, db, hx, hy, p1, p2, hd, k⟩
  obtain ⟨as, ra⟩ := Dp.reads I _ _ _ hx rx
  obtain ⟨bs, rb⟩ := Dp.reads I _ _ _ hy ry
  exact PySem.SeqAt.ne_plain ra rb p1 p2 (by omega) ⟨.bl _, H, I, rfl, k⟩
end
end My
set_option Elab.async false
set_option linter.all false
set_option maxRecDepth 100000
set_option maxHeartbeats 4000000
/-! Layout's __getitem__ and __contains__ -/
namespace My
open PySem PySem.Spec PyProof.Rows L2
open PySem.W (Datum DatumOrd EachIs)
section
variable {P : Program} {w : World} {K : PySem.W.Frag} {mg : Str → Option Value} {base : Heap}
/-! the errors' __init__: they keep a value -/
def spErrF (K : PySem.W.Frag) (C : Addr) (fld : Str) : Sp := fun vs H Q _ => ∃ (a : Addr) (x : V), vs = [.ref a, x] ∧ H a = some (exo a C none) ∧ OexC K C ∧ PySem.W.findIn K (.ref C) fld = some none ∧
  ∀ dx, H dx = none → dx ≠ a → Q .non (upd (upd H dx (exd dx [(fld, x)])) a (exo a C (some dx)))
theorem ok_errEnd {f C : Addr} {fd : FuncData} (F : Fun K "__init__" "InvalidEnd.__init__" sInvalidEndInit f fd) : FnOk P w K mg base CX0 1 f fd ["self", "value"] (spErrF K C "value") := by
  refine F.ok scInvalidEndInit (fun vs H Q E h => ?_) (fun cdv A outer s H vs Q E hr h => ?_)
  · obtain ⟨a, x, rfl, _⟩ := h
    rfl
  · obtain ⟨a, x, rfl, ha, T, no, q⟩ := h
    refine ⟨_, pss_one (ps_ost (pv 0) (pv 1)), ?_⟩
    refine ⟨_, rfl, _, rfl, a, C, rfl, T, no, .inl ⟨ha, fun dx h1 h2 => ?_⟩⟩
    exact q dx h1 h2
/-- the classes behind a class over LookupError -/
abbrev leTail : List Value := [.type "LookupError", .type "Exception", .type "BaseException", .type "object"]
def spErrL (K : PySem.W.Frag) (C : Addr) (fld : Str) : Sp := fun vs H Q _ => ∃ (a : Addr) (x : V), vs = [.ref a, x] ∧ H a = some (exo a C none) ∧ OexB K C leTail "LookupError.__new__" ∧ PySem.W.findIn K (.ref C) fld = some none ∧
  ∀ dx, H dx = none → dx ≠ a → Q .non (upd (upd H dx (exd dx [(fld, x)])) a (exo a C (some dx)))
theorem ok_errWag {f C : Addr} {fd : FuncData} (F : Fun K "__init__" "NoWagon.__init__" sNoWagonInit f fd) : FnOk P w K mg base CX0 1 f fd ["self", "name"] (spErrL K C "name") := by
  refine F.ok scNoWagonInit (fun vs H Q E h => ?_) (fun cdv A outer s H vs Q E hr h => ?_)
  · obtain ⟨a, x, rfl, _⟩ := h
    rfl
  · obtain ⟨a, x, rfl, ha, T, no, q⟩ := h
    refine ⟨_, pss_one (ps_ostB "LookupError.__new__" PySem.F.store_LookupError (pv 0) (pv 1)), ?_⟩
    refine ⟨_, rfl, _, rfl, a, C, rfl, T, no, ha, fun dx h1 h2 => ?_⟩
    exact q dx h1 h2
/-- what is known of an error's class -/
structure ErrC (P : Program) (w : World) (K : PySem.W.Frag) (mg : Str → Option Value) (base : Heap) (x fld : Str) (ps : List Str) (C f : Addr) (fd : FuncData) : Prop where
  T : OexC K C
  i : PySem.W.findIn K (.ref C) "__init__" = some (some (.ref f))
  t : PySem.W.typeIn K (.ref f) = some (.type "function")
  o : FnOk P w K mg base CX0 1 f fd ps (spErrF K C fld)
  b : L2.Binds K fd ps []
  n : PySem.W.findIn K (.ref C) fld = some none
  g : mg x = some (.ref C)
structure ErrL (P : Program) (w : World) (K : PySem.W.Frag) (mg : Str → Option Value) (base : Heap) (x fld : Str) (ps : List Str) (C f : Addr) (fd : FuncData) : Prop where
  T : OexB K C leTail "LookupError.__new__"
  i : PySem.W.findIn K (.ref C) "__init__" = some (some (.ref f))
  t : PySem.W.typeIn K (.ref f) = some (.type "function")
  o : FnOk P w K mg base CX0 1 f fd ps (spErrL K C fld)
  b : L2.Binds K fd ps []
  n : PySem.W.findIn K (.ref C) fld = some none
  g : mg x = some (.ref C)
/-- the partner of an end, or how it is refused -/
def spLyG (K : PySem.W.Frag) (C CE CN : Addr) : Sp := fun vs H Q E => ∃ (x : Addr) (ws : List Str) (ps : List CoupT) (v : V), vs = [.ref x, v] ∧ LayAt K C H x ws ps ∧
  ((∃ (p : Addr) (d : PyData), Da K p H v d ∧ Fit1 d ∧ withD [0, 1] d = false ∧ ∀ dd H', Same H H' → H dd = none → H' dd = some (.xd [("value", v)]) → E (.ref CE) (some dd) H') ∨
   (∃ e : EndT, EndV H v e ∧ nmS e.1 = true ∧ (e.2 = 0 ∨ e.2 = 1) ∧ (e.1 ∉ ws → ∀ dd H', Same H H' → H dd = none → H' dd = some (.xd [("name", .str e.1)]) → E (.ref CN) (some dd) H') ∧
     (e.1 ∈ ws → ∀ H', Same H H' → (lookE (partE ps) e = none → Q .non H') ∧ ∀ q u, lookE (partE ps) e = some q → EndV H' u q → Q u H')))
theorem notin_strs {x : Str} : ∀ {ws : List Str}, x ∉ ws → inV (.str x) (ws.map V.str) = false
  | [], _ => rfl
  | n :: r, h => by
    have ih := notin_strs (x := x) (ws := r) fun z => h (List.mem_cons_of_mem _ z)
    unfold inV at ih ⊢
    rw [List.map_cons, List.any_cons, ih]
    have : eqV (V.str n) (V.str x) = false := by
      unfold eqV
      simpa using fun z => h (by rw [z]; exact List.mem_cons_self)
    simp [this]
/-- where an error with a field is left -/
theorem err_left {H H1 : Hp} {a dx C : Addr} {fld : Str} {v : V} (s1 : Same H H1) (ha : H1 a = none) (h2 : dx ≠ a) (h1 : (upd H1 a (exo a C none)) dx = none) :
    Same H (upd (del (upd (upd (upd H1 a (exo a C none)) dx (exd dx [(fld, v)])) a (exo a C (some dx))) a) dx (.xd [(fld, v)])) ∧ H dx = none := by
  have hd1 : H1 dx = none := (upd_ne h2).symm.trans h1
  refine ⟨fun b o e => ?_, Option.eq_none_iff_forall_ne_some.mpr fun o e => by rw [s1 _ _ e] at hd1; cases hd1⟩
  have e1 := s1 _ _ e
  have ba : b ≠ a := ne_of_none e1 ha
  have bd : b ≠ dx := ne_of_none e1 hd1
  rw [upd_ne bd, del_ne ba, upd_ne ba, upd_ne bd, upd_ne ba]
  exact e1
theorem ok_lyG {f f1 C CE CN fE fN : Addr} {fd d1 dE dN : FuncData} (F : Fun K "__getitem__" "Layout.__getitem__" sLayoutGetitem f fd) (RC : LayCls K C) (GE : Has P w K mg base 3 "is_end" ["value"] (spKind K (withD [0, 1])) f1 d1)
    (EE : ErrC P w K mg base "InvalidEnd" "value" ["self", "value"] CE fE dE) (EN : ErrL P w K mg base "NoWagon" "name" ["self", "name"] CN fN dN) : FnOk P w K mg base (L2.CX P w) 4 f fd ["self", "end"] (spLyG K C CE CN) := by
  refine F.okX scLayoutGetitem (fun vs H Q E h => ?_) (fun cdv A outer s H vs Q E hr h => ?_)
  · obtain ⟨x, ws, ps, v, rfl, _⟩ := h
    rfl
  · obtain ⟨x, ws, ps, v, rfl, lay, h⟩ := h
    have hu1 := hu_of hr
    have hr2 := hr.mono (show 2 ≤ 3 by decide)
    refine ⟨_, pss_cons (ps_if (pt_not (pt_val (pe_has GE hr (by rfl) (pa_cons (pv 1) pa_nil)))) (pss_one (ps_raise rfl (takes_of rfl rfl rfl rfl) (pmk_oex EE.T EE.i EE.t EE.o hr2 EE.b .nil pass0 (by rfl) EE.g (pa_cons (pv 1) pa_nil)))) pss_nil)
      (pss_cons (ps_if (pt_cmpR op_notIn_seq (pe_ix ix_tup (pv 1) pe_int (fun _ _ => rfl)) (pe_fld (pv 0) rfl) (by rfl)) (pss_one (ps_raise rfl (takes_of rfl rfl rfl rfl) (pmk_oexB PySem.F.excBase_LookupError EN.T EN.i EN.t EN.o hr2 EN.b .nil pass0 (by rfl) EN.g (pa_cons (pe_ix ix_tup (pv 1) pe_int (fun _ _ => rfl)) pa_nil)))) pss_nil)
      (pss_one (ps_ret (pe_dget1 hu1 (pe_fld (pv 0) rfl) (pv 1) ⟨rfl, rfl, rfl, rfl⟩)))), ?_⟩
    rcases h with ⟨p, d, D, hf, hd, q⟩ | ⟨e, he, nm, sd, q1, q2⟩
    · refine ⟨_, rfl, p, v, d, rfl, D, hf, fun H1 s1 => ⟨_, rfl, ?_⟩⟩
      rw [hd]
      refine iteT ⟨_, rfl, by show 1 ≤ 1000; decide, fun a ha => ⟨a, v, rfl, upd_same, EE.T, EE.n, fun dx h1 h2 => ⟨rfl, dx, _, upd_same, (upd_ne h2).trans upd_same, (upd_ne h2).symm.trans h1, ?_⟩⟩⟩
      obtain ⟨S, hn⟩ := err_left (C := CE) (fld := "value") (v := v) s1 ha h2 h1
      exact q dx _ S hn upd_same
    · refine ⟨_, rfl, 0, v, Datum.toD e, rfl, dt_da he.dt, fit_end nm, fun H1 s1 => ⟨_, rfl, ?_⟩⟩
      rw [with_end nm sd]
      have lay1 := lay.keep (K := K) s1.keepsT s1.tupK (fun _ _ e => s1 _ _ e) (fun _ _ e => s1 _ _ e)
      have he1 := he.keep s1.tupK
      obtain ⟨dx, tw, tc, tf, DD, uc, uf, hx, etw, _, _, _, _, hD⟩ := lay1
      obtain ⟨b, rfl, hb⟩ := id he1
      refine iteF ⟨_, rfl, b, _, _, _, rfl, rfl, .inl (.inl hb), atI_nat (j := 0) rfl, _, rfl, x, C, dx, _, _, rfl, hx, RC.c, RC.n1, rfl, tw, _, rfl, .inr etw, rfl, flat_strs _, _, rfl, ?_⟩
      show if (if true = true then !inV (.str e.1) ((sortO ws).map V.str) else inV (.str e.1) ((sortO ws).map V.str)) = true then _ else _
      rw [if_pos rfl]
      have mi : e.1 ∈ sortO ws ↔ e.1 ∈ ws := (List.mergeSort_perm ws leO).mem_iff
      by_cases hin : e.1 ∈ ws
      · rw [in_strs (mi.mpr hin)]
        obtain ⟨kvs, hk, hkk⟩ := id hD
        obtain ⟨o, g1, g2⟩ := hD.get he1
        refine iteF ⟨_, rfl, x, C, dx, _, _, rfl, hx, RC.c, RC.n4, rfl, DD, rfl, .inr ⟨kvs, .inl hk⟩, _, rfl, o, g1, ?_⟩
        obtain ⟨r1, r2⟩ := q2 hin H1 s1
        rcases g2 with ⟨z, rfl⟩ | ⟨qq, u, z, rfl, hq⟩
        · exact r1 z
        · exact r2 qq u z hq
      · rw [notin_strs fun z => hin (mi.mp z)]
        refine iteT ⟨_, rfl, b, _, _, _, rfl, rfl, .inl (.inl hb), atI_nat (j := 0) rfl, by show 1 ≤ 1000; decide, fun a ha => ⟨a, _, rfl, upd_same, EN.T, EN.n, fun dx2 h1 h2 => ⟨rfl, dx2, _, upd_same, (upd_ne h2).trans upd_same, (upd_ne h2).symm.trans h1, ?_⟩⟩⟩
        obtain ⟨S, hn⟩ := err_left (C := CN) (fld := "name") (v := .str e.1) s1 ha h2 h1
        exact q1 hin dx2 _ S hn upd_same
end
end My
set_option Elab.async false
set_option linter.all false
set_option maxRecDepth 100000
set_option maxHeartbeats 4000000
/-! partners_by of any list of things -/
namespace My
open PySem PySem.Spec PyProof.Rows L2
open PySem.W (Datum DatumOrd EachIs)
section
variable {P : Program} {w : World} {K : PySem.W.Frag} {mg : Str → Option Value} {base : Heap}
theorem ok_errCoup {f C : Addr} {fd : FuncData} (F : Fun K "__init__" "InvalidCoupling.__init__" sInvalidCouplingInit f fd) : FnOk P w K mg base CX0 1 f fd ["self", "value"] (spErrF K C "value") := by
  refine F.ok scInvalidCouplingInit (fun vs H Q E h => ?_) (fun cdv A outer s H vs Q E hr h => ?_)
  · obtain ⟨a, x, rfl, _⟩ := h
    rfl
  · obtain ⟨a, x, rfl, ha, T, no, q⟩ := h
    refine ⟨_, pss_one (ps_ost (pv 0) (pv 1)), ?_⟩
    refine ⟨_, rfl, _, rfl, a, C, rfl, T, no, .inl ⟨ha, fun dx h1 h2 => ?_⟩⟩
    exact q dx h1 h2
/-- a thing among the couplings: a coupling, or none -/
def ItemV (K : PySem.W.Frag) (H : Hp) (v : V) : Option CoupT → Prop
  | none => ∃ (p : Addr) (d : PyData), Da K p H v d ∧ Fit2 d ∧ epD d = false
  | some c => CoupV H v c ∧ nmS c.1.1 = true ∧ (c.1.2 = 0 ∨ c.1.2 = 1) ∧ nmS c.2.1 = true ∧ (c.2.2 = 0 ∨ c.2.2 = 1)
theorem ItemV.keep {K : PySem.W.Frag} {H H' : Hp} {v : V} : ∀ {o : Option CoupT}, ItemV K H v o → Same H H' → ItemV K H' v o
  | none, ⟨p, d, h, k⟩, s => ⟨p, d, da_keep s.keepA h, k⟩
  | some _, ⟨h, k⟩, s => ⟨h.keep s.tupK, k⟩
def addO (ws : List Str) (kv : List (EndT × EndT)) : Option CoupT → Bool
  | none => false
  | some c => addE ws kv c
/-- of things of which the first are couplings `ps`, then the end or one that cannot be added -/
def spPBV (K : PySem.W.Frag) (CC : Addr) : Sp := fun vs H Q E => (∃ (p : Addr) (v u : V) (d : PyData), vs = [v, u] ∧ NlV K p H v d ∧ isSeq d = false ∧ ∀ dd H', Same H H' → H dd = none → H' dd = some (.xd [("value", v)]) → E (.ref CC) (some dd) H') ∨
  ∃ (ac aw : Addr) (us : List V) (os : List (Option CoupT)) (ps : List CoupT) (ws : List Str), vs = [.ref ac, .ref aw] ∧ (SqL K H ac us ∨ SqT K H ac us) ∧ (SqL K H aw (ws.map V.str) ∨ SqT K H aw (ws.map V.str)) ∧
  (∀ (i : Nat) (u : V), us[i]? = some u → ∃ o, os[i]? = some o ∧ ItemV K H u o) ∧ (∀ i : Nat, i < ps.length → os[i]? = some ps[i]?) ∧ (∀ e ∈ metE ps, EndIn ws e) ∧ (metE ps).Nodup ∧ ps.length ≤ 1000 ∧
  ((ps.length = us.length ∧ ∀ (D : Addr) (H' : Hp), H D = none → DicE H' D (partE ps) → Same H H' → Q (.ref D) H') ∨
   (∃ (u : V) (o : Option CoupT), us[ps.length]? = some u ∧ os[ps.length]? = some o ∧ addO ws (partE ps) o = false ∧ ∀ dd H', Same H H' → H dd = none → H' dd = some (.xd [("value", u)]) → E (.ref CC) (some dd) H'))
theorem addE_yes {ws : List Str} {kv : List (EndT × EndT)} {c : CoupT} (h1 : c.1.1 ∈ ws) (h2 : c.2.1 ∈ ws) (ne : c.1 ≠ c.2) (l1 : lookE kv c.1 = none) (l2 : lookE kv c.2 = none) : addE ws kv c = true := by
  unfold addE openE
  rw [decide_eq_false ne, decide_eq_true h1, decide_eq_true h2, l1, l2]
  rfl
theorem ok_partbyV {f fA CC fC : Addr} {fd dA dC : FuncData} (F : Fun K "partners_by" "partners_by" sPartnersBy f fd) (B : Glb mg) (GA : Has P w K mg base 5 "can_be_added" ["value", "wagons", "partners"] (spAddV K) fA dA)
    (EC : ErrC P w K mg base "InvalidCoupling" "value" ["self", "value"] CC fC dC) : FnOk P w K mg base (L2.CX P w) 6 f fd ["couplings", "wagons"] (spPBV K CC) := by
  refine F.okX scPartnersBy (fun vs H Q E h => ?_) (fun cdv A outer s H vs Q E hr h => ?_)
  · rcases h with ⟨p, v, u, d, rfl, _⟩ | ⟨ac, aw, us, os, ps, ws, rfl, _⟩ <;> rfl
  · have hlen : ∃ v u, vs = [v, u] := h.elim (fun ⟨_, v, u, _, e, _⟩ => ⟨v, u, e⟩) fun ⟨ac, aw, _, _, _, _, e, _⟩ => ⟨_, _, e⟩
    obtain ⟨v0, u0, rfl⟩ := hlen
    have hu1 := hu_of hr
    have hr2 := hr.mono (show 2 ≤ 5 by decide)
    refine ⟨_, pss_cons (ps_if (pt_not (pt_val (pe_callB call_isiT (by rfl) B.isi boot_isinstance (pa_cons (pv 0) (pa_cons (pe_tup (pa_cons (pe_bltn (v := .ty "list") (by rfl) B.list (by decide +kernel) rfl) (pa_cons (pe_bltn (v := .ty "tuple") (by rfl) B.tuple boot_tuple rfl) pa_nil))) pa_nil))))) (pss_one (ps_raise rfl (takes_of rfl rfl rfl rfl) (pmk_oex EC.T EC.i EC.t EC.o hr2 EC.b .nil pass0 (by rfl) EC.g (pa_cons (pv 0) pa_nil)))) pss_nil)
      (pss_cons (ps_set (i := 2) scPartnersBy.nd rfl (.inl rfl) pe_dnewT)
      (pss_cons (ps_for (passes_of rfl) rfl (pi_or (pi_list (pv 0)) (pi_tup (pv 0))) (pg_name (i := 3) scPartnersBy.nd rfl (.inl rfl))
        (pss_cons (ps_if (pt_not (pt_val (pe_has GA hr (by rfl) (pa_cons (pv 3) (pa_cons (pv 1) (pa_cons (pv 2) pa_nil)))))) (pss_one (ps_raise rfl (takes_of rfl rfl rfl rfl) (pmk_oex EC.T EC.i EC.t EC.o hr2 EC.b .nil pass0 (by rfl) EC.g (pa_cons (pv 3) pa_nil)))) pss_nil)
        (pss_cons (ps_asg (pv 3) (pg_tup rfl (pgs_cons (pg_name (i := 4) scPartnersBy.nd rfl (.inl rfl)) (pgs_cons (pg_name (i := 5) scPartnersBy.nd rfl (.inl rfl)) pgs_nil))))
        (pss_cons (ps_dput hu1 (pv 2) (pv 4) (pv 5) rfl)
        (pss_one (ps_dput hu1 (pv 2) (pv 5) (pv 4) rfl))))))
      (pss_one (ps_ret (pv 2))))), ?_⟩
    rcases h with ⟨p, v, u, d, ev, D, hi, q⟩ | ⟨ac, aw, us, os, ps, ws, ev, hc, hw, hu, ho, hE, nd, few, q⟩
    · cases ev
      refine ⟨_, rfl, by show 2 ≤ sizeLine; decide, fun tp htp => ?_⟩
      have s1 := same_new (o := HO.tup [.ty "list", .ty "tuple"]) htp
      have D1 := D.keep s1.keepA
      obtain ⟨tn, ty, kt⟩ := D1.ty
      have e1 : (upd H tp (.tup [.ty "list", .ty "tuple"])) tp = some (.tup [.ty "list", .ty "tuple"]) := upd_same
      refine ⟨v0, tp, [.ty "list", .ty "tuple"], _, [.type "list", .type "tuple"], _, rfl, e1, .cons (.ty _) (.cons (.ty _) .nil), ty, kt, _, rfl, ?_⟩
      generalize upd H tp (.tup [.ty "list", .ty "tuple"]) = H1 at s1 D1 ty
      rw [hi]
      refine iteT ⟨_, rfl, by show 1 ≤ 1000; decide, fun a ha => ⟨a, v0, rfl, upd_same, EC.T, EC.n, fun dx h1 h2 => ⟨rfl, dx, _, upd_same, (upd_ne h2).trans upd_same, (upd_ne h2).symm.trans h1, ?_⟩⟩⟩
      obtain ⟨S, hn⟩ := err_left (C := CC) (fld := "value") (v := v0) s1 ha h2 h1
      exact q dx _ S hn upd_same
    cases ev
    refine ⟨_, rfl, by show 2 ≤ sizeLine; decide, fun tp htp => ?_⟩
    have s1 := same_new (o := HO.tup [.ty "list", .ty "tuple"]) htp
    have e1 : (upd H tp (.tup [.ty "list", .ty "tuple"])) tp = some (.tup [.ty "list", .ty "tuple"]) := upd_same
    have hc1 : SqL K (upd H tp (.tup [.ty "list", .ty "tuple"])) ac us ∨ SqT K (upd H tp (.tup [.ty "list", .ty "tuple"])) ac us := hc.imp (s1.keeps.l _ _) (s1.keeps.t _ _)
    obtain ⟨tn, ty, kt⟩ := sq_ty hc1
    refine ⟨.ref ac, tp, [.ty "list", .ty "tuple"], _, [.type "list", .type "tuple"], _, rfl, e1, .cons (.ty _) (.cons (.ty _) .nil), ty, kt, _, rfl, iteF ?_⟩
    generalize upd H tp (.tup [.ty "list", .ty "tuple"]) = H1 at s1 hc1
    intro D hD
    have s2 := same_new (o := HO.dT []) hD
    have hD0 : H D = none := Option.eq_none_iff_forall_ne_some.mpr fun o e => by rw [s1 _ _ e] at hD; cases hD
    have eD0 : (upd H1 D (.dT [])) D = some (.dT []) := upd_same
    have S := s1.trans s2
    generalize upd H1 D (.dT []) = H2 at s2 eD0 S
    refine or_sq2 (i := 0) (a := ac) (xs := us) rfl rfl hc S fun J Sq c hq => ?_
    refine for_sq c (fun i σ H' => i ≤ ps.length ∧ ∃ y3 y4 y5 : Option V, σ = [some (.ref ac), some (.ref aw), some (.ref D), y3, y4, y5] ∧ DicE H' D (partE (ps.take i)) ∧ Same H H') ⟨Nat.zero_le _, _, _, _, rfl, ⟨[], eD0, .nil⟩, S⟩ (fun i σ H' ⟨_, _, _, _, _, _, z⟩ => hq _ z) (fun i x σ H' hx hp => ?_) (fun σ H' hp => ?_)
    · obtain ⟨hi, y3, y4, y5, rfl, hd, sm⟩ := hp
      obtain ⟨o, eo, hv⟩ := hu i x hx
      by_cases lt : i < ps.length
      · have hp : ps[i]? = some ps[i] := List.getElem?_eq_getElem lt
        generalize ps[i] = p at hp
        have eo2 := ho i lt
        rw [hp, eo] at eo2
        cases eo2
        obtain ⟨hv, n1, d1, n2, d2⟩ := hv
        have mp := mem_metE (List.mem_of_getElem? hp)
        obtain ⟨m1, m2, ne⟩ := metE_at hp nd
        have l1 : lookE (partE (ps.take i)) p.1 = none := lookE_none.mpr (by rw [partE_fst]; exact m1)
        have l2 : lookE (partE (ps.take i)) p.2 = none := lookE_none.mpr (by rw [partE_fst]; exact m2)
        have hl := partE_len (ps.take i)
        rw [List.length_take] at hl
        refine ⟨_, rfl, _, rfl, _, rfl, x, aw, D, ws, _, rfl, hw.imp (sm.keeps.l _ _) (sm.keeps.t _ _), hd, .inr ⟨p, hv.keep sm.tupK, n1, d1, n2, d2, fun H3 s3 => ⟨_, rfl, ?_⟩⟩⟩
        rw [addE_yes (hE _ mp.1).inn (hE _ mp.2).inn ne l1 l2]
        refine iteF ?_
        obtain ⟨a, u1, u2, rfl, ha, h1, h2⟩ := hv.keep (sm.trans s3).tupK
        refine ⟨_, rfl, a, _, rfl, .inl (.inl ha), rfl, _, _, rfl, _, _, rfl, rfl, ?_⟩
        obtain ⟨H4, p4, d4, t4, k4⟩ := (hd.same s3).put h1 h2 l1 (by omega)
        refine ⟨_, rfl, _, rfl, _, rfl, D, H4, rfl, p4, ?_⟩
        have l3 : lookE (partE (ps.take i) ++ [(p.1, p.2)]) p.2 = none := lookE_none.mpr (by
          rw [List.map_append, partE_fst]
          intro z
          rcases List.mem_append.mp z with z | z
          · exact m2 z
          · exact ne (List.mem_singleton.mp z).symm)
        obtain ⟨H5, p5, d5, t5, k5⟩ := d4.put (h2.keep t4) (h1.keep t4) l3 (by rw [List.length_append, hl]; show _ + 1 ≤ 10000; omega)
        refine ⟨_, rfl, _, rfl, _, rfl, D, H5, rfl, p5, ?_⟩
        rw [← partE_at hp] at d5
        have sm5 : Same H H5 := fun b o z => by
          have nb : b ≠ D := ne_of_none z hD0
          exact k5 _ _ nb (k4 _ _ nb (s3 _ _ (sm _ _ z)))
        exact ⟨lt, _, _, _, rfl, d5, sm5⟩
      · obtain rfl : i = ps.length := by omega
        rcases q with ⟨z, _⟩ | ⟨u, o', eu, eo', bad, q⟩
        · rw [z] at hx
          have := (List.getElem?_eq_some_iff.mp hx).1
          omega
        rw [hx] at eu
        cases eu
        rw [eo] at eo'
        cases eo'
        rw [List.take_length] at hd
        have hv := hv.keep sm
        have rz : ∀ H3, Same H' H3 → ∀ (a : Addr), H3 a = none → ∀ dx, dx ≠ a → (upd H3 a (exo a CC none)) dx = none → E (.ref CC) (some dx) (upd (del (upd (upd (upd H3 a (exo a CC none)) dx (exd dx [("value", x)])) a (exo a CC (some dx))) a) dx (.xd [("value", x)])) := fun H3 s3 a ha dx h2 h1 => by
          obtain ⟨S2, hn⟩ := err_left (C := CC) (fld := "value") (v := x) (sm.trans s3) ha h2 h1
          exact q dx _ S2 hn upd_same
        cases o with
        | none =>
          obtain ⟨p, d, D1, f1, e1⟩ := hv
          refine ⟨_, rfl, _, rfl, _, rfl, x, aw, D, ws, _, rfl, hw.imp (sm.keeps.l _ _) (sm.keeps.t _ _), hd, .inl ⟨p, d, D1, f1, e1, fun H3 s3 => ⟨_, rfl, iteT ⟨_, rfl, by show 1 ≤ 1000; decide, fun a ha => ⟨a, x, rfl, upd_same, EC.T, EC.n, fun dx h1 h2 => ⟨rfl, dx, _, upd_same, (upd_ne h2).trans upd_same, (upd_ne h2).symm.trans h1, rz H3 s3 a ha dx h2 h1⟩⟩⟩⟩⟩⟩
        | some c =>
          obtain ⟨hv, n1, d1, n2, d2⟩ := hv
          have bad : addE ws (partE ps) c = false := bad
          refine ⟨_, rfl, _, rfl, _, rfl, x, aw, D, ws, _, rfl, hw.imp (sm.keeps.l _ _) (sm.keeps.t _ _), hd, .inr ⟨c, hv, n1, d1, n2, d2, fun H3 s3 => ⟨_, rfl, ?_⟩⟩⟩
          rw [bad]
          exact iteT ⟨_, rfl, by show 1 ≤ 1000; decide, fun a ha => ⟨a, x, rfl, upd_same, EC.T, EC.n, fun dx h1 h2 => ⟨rfl, dx, _, upd_same, (upd_ne h2).trans upd_same, (upd_ne h2).symm.trans h1, rz H3 s3 a ha dx h2 h1⟩⟩⟩
    · obtain ⟨hi, y3, y4, y5, rfl, hd, sm⟩ := hp
      rcases q with ⟨z, q⟩ | ⟨u, o', eu, _⟩
      · rw [← z, List.take_length] at hd
        exact ⟨_, rfl, q D H' hD0 hd sm⟩
      · have := (List.getElem?_eq_some_iff.mp eu).1
        omega
end
end My
set_option Elab.async false
set_option linter.all false
set_option maxRecDepth 100000
set_option maxHeartbeats 4000000
/-! Layout.__init__, how it refuses -/
namespace My
open PySem PySem.Spec PyProof.Rows L2
open PySem.W (Datum DatumOrd EachIs)
section
variable {P : Program} {w : World} {K : PySem.W.Frag} {mg : Str → Option Value} {base : Heap} {t3 : Tok}
theorem ok_errLay {f C : Addr} {fd : FuncData} (F : Fun K "__init__" "InvalidLayout.__init__" sInvalidLayoutInit f fd) : FnOk P w K mg base CX0 1 f fd ["self", "value"] (spErrF K C "value") := by
  refine F.ok scInvalidLayoutInit (fun vs H Q E h => ?_) (fun cdv A outer s H vs Q E hr h => ?_)
  · obtain ⟨a, x, rfl, _⟩ := h
    rfl
  · obtain ⟨a, x, rfl, ha, T, no, q⟩ := h
    refine ⟨_, pss_one (ps_ost (pv 0) (pv 1)), ?_⟩
    refine ⟨_, rfl, _, rfl, a, C, rfl, T, no, .inl ⟨ha, fun dx h1 h2 => ?_⟩⟩
    exact q dx h1 h2
theorem spPBV_imp {CC : Addr} {vs : List V} {H : Hp} {Q Q' : VK} {E E' : XK} (h : spPBV K CC vs H Q E) (hq : ∀ v H', Q v H' → Q' v H') (he : ∀ c d H', E c d H' → E' c d H') : spPBV K CC vs H Q' E' := by
  rcases h with ⟨p, v, u, d, e, D, hi, q⟩ | ⟨ac, aw, us, os, ps, ws, e, hc, hw, hu, ho, hE, nd, few, q⟩
  · exact .inl ⟨p, v, u, d, e, D, hi, fun dd H' a b c => he _ _ _ (q dd H' a b c)⟩
  · refine .inr ⟨ac, aw, us, os, ps, ws, e, hc, hw, hu, ho, hE, nd, few, q.imp (fun ⟨z, q⟩ => ⟨z, fun D H' a b c => hq _ _ (q D H' a b c)⟩) ?_⟩
    rintro ⟨u, o, e1, e2, e3, q⟩
    exact ⟨u, o, e1, e2, e3, fun dd H' a b c => he _ _ _ (q dd H' a b c)⟩
/-- wagons that are no names, or too many names -/
def spLayR (K : PySem.W.Frag) (CL : Addr) : Sp := fun vs H Q E => ∃ (x : Addr) (v u : V) (p : Addr) (d : PyData), vs = [.ref x, v, u] ∧ NlV K p H v d ∧ (seqD d).length ≤ 1000 ∧ (∀ e ∈ seqD d, ∀ x, e = .str x → x.length ≤ 100000) ∧
  (nlD d = false ∨ ∃ (aw : Addr) (xs : List V), v = .ref aw ∧ (SqL K H aw xs ∨ SqT K H aw xs) ∧ 30 < xs.length) ∧ ∀ dd H', Same H H' → H dd = none → H' dd = some (.xd [("value", v)]) → E (.ref CL) (some dd) H'
theorem ok_layR {f f1 CL fL : Addr} {fd e1 dL : FuncData} {dv : List V} (F : FunD K "__init__" "Layout.__init__" (defArgs sLayoutInit) (defBody sLayoutInit) (defScope sLayoutInit) dv [] f fd) (B : Glb mg) (g3 : mg "MOST_WAGONS" = some (.int 30 t3))
    (CN : Has P w K mg base 2 "is_name_list" ["value"] (spNL K) f1 e1) (EL : ErrC P w K mg base "InvalidLayout" "value" ["self", "value"] CL fL dL) : FnOk P w K mg base (L2.CX P w) 7 f fd ["self", "wagons", "couplings"] (spLayR K CL) := by
  refine F.ok scLayoutInit (fun vs H Q E h => ?_) (fun cdv A outer s H vs Q E hr h => ?_)
  · obtain ⟨x, v, u, p, d, rfl, _⟩ := h
    rfl
  · obtain ⟨x, v, u, p, d, rfl, D, hl, hf, hb, q⟩ := h
    have hr2 := hr.mono (show 2 ≤ 6 by decide)
    refine ⟨_, (pss_cons (ps_if (PW.pt (pw_or (pt_not (pt_val (pe_has CN hr2 (by rfl) (pa_cons (pv 1) pa_nil))))
        (pw_or1 (pt_cmpR op_gt (pe_callB call_len (by rfl) B.len PySem.boot_len (pa_cons (pv 1) pa_nil)) (pe_glob (v := .int 30) (by rfl) g3 ⟨_, rfl⟩) (nomark _))))) (pss_one (ps_raise rfl (takes_of rfl rfl rfl rfl) (pmk_oex EL.T EL.i EL.t EL.o hr2 EL.b .nil pass0 (by rfl) EL.g (pa_cons (pv 1) pa_nil)))) pss_nil)
      (pss_cons ps_no (pss_cons ps_no (pss_cons ps_no (pss_cons ps_no (pss_cons ps_no (pss_one ps_no))))))), ?_⟩
    have rz : ∀ H3, Same H H3 → ∀ (a : Addr), H3 a = none → ∀ dx, dx ≠ a → (upd H3 a (exo a CL none)) dx = none → E (.ref CL) (some dx) (upd (del (upd (upd (upd H3 a (exo a CL none)) dx (exd dx [("value", v)])) a (exo a CL (some dx))) a) dx (.xd [("value", v)])) := fun H3 s3 a ha dx h2 h1 => by
      obtain ⟨S2, hn⟩ := err_left (C := CL) (fld := "value") (v := v) s3 ha h2 h1
      exact q dx _ S2 hn upd_same
    refine ⟨_, rfl, p, v, d, rfl, D, hl, hf, fun H1 s1 => ⟨_, rfl, ?_⟩⟩
    cases hn : nlD d with
    | false => exact iteT ⟨_, rfl, by show 1 ≤ 1000; decide, fun a ha => ⟨a, v, rfl, upd_same, EL.T, EL.n, fun dx h1 h2 => ⟨rfl, dx, _, upd_same, (upd_ne h2).trans upd_same, (upd_ne h2).symm.trans h1, rz H1 s1 a ha dx h2 h1⟩⟩⟩
    | true =>
      rcases hb with z | ⟨aw, xs, rfl, hs, h30⟩
      · rw [hn] at z
        cases z
      · have hs1 := hs.imp (s1.keeps.l _ _) (s1.keeps.t _ _)
        refine iteF ⟨_, rfl, .ref aw, xs.length, rfl, hs1.elim (fun z => .inl ⟨_, z, rfl⟩) (fun z => .inr ⟨_, z, rfl⟩), _, _, rfl, rfl, _, rfl, ?_⟩
        rw [decide_eq_true (by omega)]
        exact iteT ⟨_, rfl, by show 1 ≤ 1000; decide, fun a ha => ⟨a, _, rfl, upd_same, EL.T, EL.n, fun dx h1 h2 => ⟨rfl, dx, _, upd_same, (upd_ne h2).trans upd_same, (upd_ne h2).symm.trans h1, rz H1 s1 a ha dx h2 h1⟩⟩⟩
/-- names that make wagons, couplings that partners_by refuses -/
def spLayQ (K : PySem.W.Frag) (CC : Addr) : Sp := fun vs H _ E => ∃ (x aw : Addr) (u : V) (ws : List Str), vs = [.ref x, .ref aw, u] ∧ (SqL K H aw (ws.map V.str) ∨ SqT K H aw (ws.map V.str)) ∧ WagsOk ws ∧ ∀ H1, Same H H1 → spPBV K CC [u, .ref aw] H1 (fun _ _ => False) E
theorem ok_layQ {f f1 f2 CC : Addr} {fd e1 e2 : FuncData} {dv : List V} (F : FunD K "__init__" "Layout.__init__" (defArgs sLayoutInit) (defBody sLayoutInit) (defScope sLayoutInit) dv [] f fd) (B : Glb mg) (g3 : mg "MOST_WAGONS" = some (.int 30 t3))
    (CN : Has P w K mg base 2 "is_name_list" ["value"] (spNL K) f1 e1) (oP : FnOk P w K mg base (L2.CX P w) 6 f2 e2 ["couplings", "wagons"] (spPBV K CC)) (gP : mg "partners_by" = some (.ref f2)) (kP : PySem.W.keepIn K (.ref f2) = true) (bP : L2.Binds K e2 ["couplings", "wagons"] []) :
    FnOk P w K mg base (L2.CX P w) 7 f fd ["self", "wagons", "couplings"] (spLayQ K CC) := by
  refine F.ok scLayoutInit (fun vs H Q E h => ?_) (fun cdv A outer s H vs Q E hr h => ?_)
  · obtain ⟨x, aw, u, ws, rfl, _⟩ := h
    rfl
  · obtain ⟨x, aw, u, ws, rfl, hw, wok, q⟩ := h
    have hr2 := hr.mono (show 2 ≤ 6 by decide)
    refine ⟨_, (pss_cons (ps_if (PW.pt (pw_or (pt_not (pt_val (pe_has CN hr2 (by rfl) (pa_cons (pv 1) pa_nil))))
        (pw_or1 (pt_cmpR op_gt (pe_callB call_len (by rfl) B.len PySem.boot_len (pa_cons (pv 1) pa_nil)) (pe_glob (v := .int 30) (by rfl) g3 ⟨_, rfl⟩) (nomark _))))) (pss_one ps_no) pss_nil)
      (pss_cons (ps_set (i := 3) scLayoutInit.nd rfl (.inr rfl) (pe_callS oP hr (by rfl) gP kP bP (fun σ => passAt (takes_of rfl rfl rfl rfl) σ) (pa_cons (pv 2) (pa_cons (pv 1) pa_nil))))
      (pss_cons ps_no (pss_cons ps_no (pss_cons ps_no (pss_cons ps_no (pss_one ps_no))))))), ?_⟩
    have hN : NlV K 0 H (.ref aw) (.tuple (ws.map .str)) := .inr ⟨aw, _, rfl, hw, rfl, strs_da 0 ws⟩
    have few := wok.few
    refine ⟨_, rfl, 0, .ref aw, .tuple (ws.map .str), rfl, hN, (by show (ws.map PyData.str).length ≤ 1000; rw [List.length_map]; omega), fun e he x ex => (by obtain ⟨n, hn, rfl⟩ := List.mem_map.mp he; cases ex; exact nm_len (wok.nm _ hn)), fun H1 s1 => ⟨_, rfl, ?_⟩⟩
    rw [names_nl wok]
    have hw1 := hw.imp (s1.keeps.l _ _) (s1.keeps.t _ _)
    refine iteF ⟨_, rfl, .ref aw, (ws.map V.str).length, rfl, hw1.elim (fun z => .inl ⟨_, z, rfl⟩) (fun z => .inr ⟨_, z, rfl⟩), _, _, rfl, rfl, _, rfl, ?_⟩
    rw [decide_eq_false (by rw [List.length_map]; omega)]
    refine iteF ⟨_, rfl, _, rfl, ?_⟩
    dsimp only [tNil]
    refine spPBV_imp (q H1 s1) (fun _ _ z => z.elim) fun _ _ _ z => z
/-- two promises of one def -/
theorem fnok_or {CX : CXT} {k : Nat} {f : Addr} {fd : FuncData} {ps : List Str} {sp1 sp2 : Sp} (F1 : FnOk P w K mg base CX k f fd ps sp1) (F2 : FnOk P w K mg base CX k f fd ps sp2) : FnOk P w K mg base CX k f fd ps (fun vs H Q E => sp1 vs H Q E ∨ sp2 vs H Q E) :=
  ⟨fun vs H Q E h => h.elim (F1.len vs H Q E) (F2.len vs H Q E), fun A outer s H args us vs Q E hr e0 hb hv h => h.elim (F1.run A outer s H args us vs Q E hr e0 hb hv) (F2.run A outer s H args us vs Q E hr e0 hb hv)⟩
end
end My
set_option Elab.async false
set_option linter.all false
set_option maxRecDepth 100000
set_option maxHeartbeats 4000000
/-! C(): an own error made of nothing -/
namespace My
open PySem PySem.Spec PyProof.Rows L2
theorem pmk_own0 {X : Cx} {C : Addr} {bmB : List Value} {B newId initId : String} {x : Str} {p pos : Pos} (F : ExcBaseFacts B newId initId bmB) (q : PySem.W.excIn X.K C bmB newId = true) (gC : X.mg x = some (.ref C)) (kC : PySem.W.keepIn X.K (.ref C) = true) (r : Raises X (.ref C)) (hg : Gl X x)
    (hdb : (x == ("__debug__" : Str)) = false := by decide) : PMk X (.Call (.Name x p) [] [] pos) (fun _ H Q => Q (.ref C) none H) := by
  intro pins s σ H Q I h
  refine wpAny_Call_Name_kw (ld_glob I hg gC ?_ hdb)
  refine PySem.W.callWith_K0 I.kIn kC ?_
  obtain ⟨bm, N, nm, qn, bs, hdct, sn, sub, ab, col, dd, k0, k1, k2, k3, k5, mN, hC, hN, hni, T⟩ := exc_obj I.kIn q
  refine wpAny_call_exc_subT F T hC hN hni (fun h' e hm => ?_) (Nat.zero_le _)
  exact mk_of I hm r h (I.hok.gone hm.new)
end My
set_option Elab.async false
set_option linter.all false
set_option maxRecDepth 100000
set_option maxHeartbeats 4000000
/-! couplings in normal form: each ascending, all ascending -/
namespace My
open PySem PySem.Spec PyProof.Rows L2
open PySem.W (Datum DatumOrd)
structure Nrm (ws : List Str) (ps : List CoupT) : Prop where
  ok : PairsOk ws ps
  lt : ∀ p ∈ ps, DatumOrd.lt p.1 p.2 = true
  asc : Asc ps
theorem lt_fst {α β : Type} [DecidableEq α] [DatumOrd α] [DecidableEq β] [DatumOrd β] {a b : α} (h : DatumOrd.lt a b = true) (x y : β) : DatumOrd.lt ((a, x) : α × β) (b, y) = true := by
  show (if a = b then DatumOrd.lt x y else DatumOrd.lt a b) = true
  rw [if_neg fun z => by rw [z, lt_irr] at h; exact Bool.noConfusion h]
  exact h
theorem srt_id {p : CoupT} (h : DatumOrd.lt p.1 p.2 = true) : srtE p = p := by
  unfold srtE coupE
  rw [if_pos h]
theorem asc_self {α : Type} [DecidableEq α] [DatumOrd α] {xs : List α} (h : Asc xs) : sortO xs = xs := List.mergeSort_of_pairwise (h.imp fun {a b} z => by
  show (!DatumOrd.lt b a) = true
  rw [lt_asym z] <;> rfl)
theorem nrm_told {ws : List Str} {ps : List CoupT} (nd : ws.Nodup) (h : Nrm ws ps) : coupL (sortO ws) ps = ps := by
  rw [← coup_sorted nd h.ok, show ps.map srtE = ps from (List.map_congr_left fun p hp => srt_id (h.lt p hp)).trans (List.map_id _)]
  exact asc_self h.asc
theorem met_sub {ps qs : List CoupT} (h : ps.Sublist qs) : (metE ps).Sublist (metE qs) := by
  induction h with
  | slnil => exact .slnil
  | cons a _ ih => exact .cons _ (.cons _ ih)
  | cons_cons a _ ih => exact .cons_cons _ (.cons_cons _ ih)
theorem pairs_sub {ws : List Str} {ps qs : List CoupT} (h : ps.Sublist qs) (ok : PairsOk ws qs) : PairsOk ws ps := ⟨ok.nd.sublist (met_sub h), fun e he => ok.sub e ((met_sub h).subset he)⟩
theorem Nrm.sub {ws : List Str} {ps qs : List CoupT} (n : Nrm ws qs) (h : ps.Sublist qs) : Nrm ws ps := ⟨pairs_sub h n.ok, fun p hp => n.lt p (h.subset hp), n.asc.sublist h⟩
theorem nrm_nil (ws : List Str) : Nrm ws [] := ⟨⟨List.nodup_nil, fun e he => (List.not_mem_nil he).elim⟩, fun p hp => (List.not_mem_nil hp).elim, .nil⟩
/-- the couplings without an end -/
def cutL (ps : List CoupT) (e : EndT) : List CoupT := ps.filter fun p => !(decide (e = p.1) || decide (e = p.2))
theorem nrm_cut {ws : List Str} {ps : List CoupT} (n : Nrm ws ps) (e : EndT) : Nrm ws (cutL ps e) := n.sub List.filter_sublist
def keepL (ps : List CoupT) (a b : EndT) : List CoupT := ps.filter fun p => !(decide (a = p.1) || decide (a = p.2)) && !(decide (b = p.1) || decide (b = p.2))
/-- the couplings of left partners -/
def optC : Option EndT → Option EndT → List CoupT
  | some l, some r => [srtE (l, r)]
  | _, _ => []
def cplL (ps : List CoupT) (a b : EndT) : List CoupT := sortO (keepL ps a b ++ [srtE (a, b)] ++ optC (lookE (partE ps) a) (lookE (partE ps) b))
theorem met_app (ps qs : List CoupT) : metE (ps ++ qs) = metE ps ++ metE qs := by
  unfold metE
  exact List.flatMap_append
theorem met_one (p : CoupT) : (metE [srtE p]).Perm [p.1, p.2] := met_srt [p]
theorem keep_free {ws : List Str} {ps : List CoupT} (ok : PairsOk ws ps) {a b e : EndT} (h : e = a ∨ e = b ∨ lookE (partE ps) a = some e ∨ lookE (partE ps) b = some e) : e ∉ metE (keepL ps a b) := fun he => by
  obtain ⟨p, hp, hm⟩ := List.mem_flatMap.mp he
  obtain ⟨hp1, hk⟩ := List.mem_filter.mp hp
  simp only [Bool.and_eq_true, Bool.not_eq_true', Bool.or_eq_false_iff, decide_eq_false_iff_not] at hk
  obtain ⟨⟨k1, k2⟩, k3, k4⟩ := hk
  simp only [List.mem_cons, List.not_mem_nil, or_false] at hm
  have l1 : lookE (partE ps) p.1 = some p.2 := (look_iff ok).mpr (.inl hp1)
  have l2 : lookE (partE ps) p.2 = some p.1 := (look_iff ok).mpr (.inr hp1)
  have sym : ∀ {x y : EndT}, lookE (partE ps) x = some y → lookE (partE ps) y = some x := fun {x y} z => (look_iff ok).mpr ((look_iff ok).mp z).symm
  rcases hm with rfl | rfl
  · rcases h with z | z | z | z
    · exact k1 z.symm
    · exact k3 z.symm
    · have := sym z
      rw [l1] at this
      exact k2 (Option.some.inj this).symm
    · have := sym z
      rw [l1] at this
      exact k4 (Option.some.inj this).symm
  · rcases h with z | z | z | z
    · exact k2 z.symm
    · exact k4 z.symm
    · have := sym z
      rw [l2] at this
      exact k1 (Option.some.inj this).symm
    · have := sym z
      rw [l2] at this
      exact k3 (Option.some.inj this).symm
theorem look_mem {ws : List Str} {ps : List CoupT} (ok : PairsOk ws ps) {a e : EndT} (h : lookE (partE ps) a = some e) : e ∈ endsO ws := by
  rcases (look_iff ok).mp h with z | z
  · exact ok.sub _ (mem_metE z).2
  · exact ok.sub _ (mem_metE z).1
theorem nrm_cpl {ws : List Str} {ps : List CoupT} (n : Nrm ws ps) {a b : EndT} (ha : a ∈ endsO ws) (hb : b ∈ endsO ws) (ne : a ≠ b) (np : lookE (partE ps) a ≠ some b) : Nrm ws (cplL ps a b) := by
  have ok := n.ok
  have sym : ∀ {x y : EndT}, lookE (partE ps) x = some y → lookE (partE ps) y = some x := fun {x y} z => (look_iff ok).mpr ((look_iff ok).mp z).symm
  have self : ∀ {x : EndT}, lookE (partE ps) x ≠ some x := fun {x} z => by
    rcases (look_iff ok).mp z with y | y
    · exact met_ne ok.nd _ y rfl
    · exact met_ne ok.nd _ y rfl
  have nk : (metE (keepL ps a b)).Nodup := ok.nd.sublist (met_sub List.filter_sublist)
  have sk : ∀ e ∈ metE (keepL ps a b), e ∈ endsO ws := fun e he => ok.sub e ((met_sub List.filter_sublist).subset he)
  -- what the couplings meet
  have key : ∀ xs : List CoupT, (metE xs).Nodup → (∀ e ∈ metE xs, e ∈ endsO ws) → (∀ p ∈ xs, DatumOrd.lt p.1 p.2 = true) → Nrm ws (sortO xs) := fun xs h1 h2 h3 => by
    have pm : (sortO xs).Perm xs := List.mergeSort_perm xs leO
    exact ⟨⟨(met_perm pm).symm.nodup h1, fun e he => h2 e ((met_perm pm).subset he)⟩, fun p hp => h3 p (pm.subset hp), asc_of anti_coup (met_map_nodup h1)⟩
  have ltk : ∀ p ∈ keepL ps a b ++ [srtE (a, b)], DatumOrd.lt p.1 p.2 = true := fun p hp => by
    rcases List.mem_append.mp hp with z | z
    · exact n.lt p (List.mem_filter.mp z).1
    · rw [List.mem_singleton.mp z]
      exact srt_lt ne
  have m1 : (metE (keepL ps a b ++ [srtE (a, b)])).Perm (metE (keepL ps a b) ++ [a, b]) := by
    rw [met_app]
    exact (met_one (a, b)).append_left _
  have n1 : (metE (keepL ps a b) ++ [a, b]).Nodup := List.nodup_append.mpr ⟨nk, by simpa using ne, fun x hx y hy z => by
    subst z
    simp only [List.mem_cons, List.not_mem_nil, or_false] at hy
    rcases hy with rfl | rfl
    · exact keep_free ok (.inl rfl) hx
    · exact keep_free ok (.inr (.inl rfl)) hx⟩
  have s1 : ∀ e ∈ metE (keepL ps a b) ++ [a, b], e ∈ endsO ws := fun e he => by
    rcases List.mem_append.mp he with z | z
    · exact sk e z
    · simp only [List.mem_cons, List.not_mem_nil, or_false] at z
      rcases z with rfl | rfl
      · exact ha
      · exact hb
  have base : Nrm ws (sortO (keepL ps a b ++ [srtE (a, b)] ++ [])) := by
    rw [List.append_nil]
    exact key _ (m1.symm.nodup n1) (fun e he => s1 e (m1.subset he)) ltk
  unfold cplL
  cases hl : lookE (partE ps) a with
  | none => exact base
  | some l =>
    cases hr : lookE (partE ps) b with
    | none => exact base
    | some r =>
      have la : l ≠ a := fun z => self (z ▸ hl)
      have lb : l ≠ b := fun z => np (z ▸ hl)
      have rb : r ≠ b := fun z => self (z ▸ hr)
      have ra : r ≠ a := fun z => np (sym (z ▸ hr))
      have lr : l ≠ r := fun z => by
        have h1 := sym hl
        rw [z, sym hr] at h1
        exact ne (Option.some.inj h1).symm
      have m2 : (metE (keepL ps a b ++ [srtE (a, b)] ++ [srtE (l, r)])).Perm ((metE (keepL ps a b) ++ [a, b]) ++ [l, r]) := by
        rw [met_app]
        exact m1.append (met_one (l, r))
      have n2 : ((metE (keepL ps a b) ++ [a, b]) ++ [l, r]).Nodup := List.nodup_append.mpr ⟨n1, by simpa using lr, fun x hx y hy z => by
        subst z
        simp only [List.mem_cons, List.not_mem_nil, or_false] at hy
        rcases List.mem_append.mp hx with hx | hx
        · rcases hy with rfl | rfl
          · exact keep_free ok (.inr (.inr (.inl hl))) hx
          · exact keep_free ok (.inr (.inr (.inr hr))) hx
        · simp only [List.mem_cons, List.not_mem_nil, or_false] at hx
          rcases hy with rfl | rfl
          · exact hx.elim la lb
          · exact hx.elim ra rb⟩
      refine key _ (m2.symm.nodup n2) (fun e he => ?_) (fun p hp => ?_)
      · rcases List.mem_append.mp (m2.subset he) with z | z
        · exact s1 e z
        · simp only [List.mem_cons, List.not_mem_nil, or_false] at z
          rcases z with rfl | rfl
          · exact look_mem ok hl
          · exact look_mem ok hr
      · rcases List.mem_append.mp hp with z | z
        · exact ltk p z
        · rw [List.mem_singleton.mp z]
          exact srt_lt lr
/-- how many couplings just one has -/
def oddN (ps qs : List CoupT) : Nat := (ps.filter fun p => decide (p ∉ qs)).length + (qs.filter fun p => decide (p ∉ ps)).length
/-- a coupling of normal form stands in others of normal form as it is -/
theorem look_nrm {ws : List Str} {ps : List CoupT} (n : Nrm ws ps) {c : CoupT} (hc : DatumOrd.lt c.1 c.2 = true) : decide (lookE (partE ps) c.1 = some c.2) = decide (c ∈ ps) := by
  refine decide_eq_decide.mpr ⟨fun h => ?_, fun h => (look_iff n.ok).mpr (.inl h)⟩
  rcases (look_iff n.ok).mp h with z | z
  · exact z
  · have := n.lt _ z
    rw [lt_asym hc] at this
    cases this
end My
set_option Elab.async false
set_option linter.all false
set_option maxRecDepth 100000
set_option maxHeartbeats 4000000
/-! values that are written out: displays of texts, numbers, tuples, lists, {} -/
namespace My
open PySem PySem.Spec PyProof.Rows L2
open PySem.W (Datum DatumOrd EachIs)
mutual
/-- "v is the value d": all of it written out, tracked -/
inductive Dx (p : Addr) (H : Hp) : V → PyData → Prop
  | non : Dx p H .non .none
  | bl (b : Bool) : Dx p H (.bl b) (.bool b)
  | int (i : Int) : Dx p H (.int i) (.int i)
  | str (x : Str) : Dx p H (.str x) (.str x)
  | tup {a : Addr} {xs : List V} {ds : List PyData} : H a = some (.tup xs) → DxAll p H xs ds → Dx p H (.ref a) (.tuple ds)
  | lst {a : Addr} {xs : List V} {ds : List PyData} : a ≠ sysModules → H a = some (.lst xs) → DxAll p H xs ds → Dx p H (.ref a) (.list ds)
  | dct {a : Addr} : a ≠ p → H a = some (.dK []) → Dx p H (.ref a) (.dict [])
inductive DxAll (p : Addr) (H : Hp) : List V → List PyData → Prop
  | nil : DxAll p H [] []
  | cons {v : V} {vs : List V} {d : PyData} {ds : List PyData} : Dx p H v d → DxAll p H vs ds → DxAll p H (v :: vs) (d :: ds)
end
section
variable {K : PySem.W.Frag} {p : Addr} {H H' : Hp}
mutual
theorem dx_keep (s : Same H H') : ∀ {d : PyData} {v : V}, Dx p H v d → Dx p H' v d
  | .none, _, h => by cases h; exact .non
  | .bool _, _, h => by cases h; exact .bl _
  | .int _, _, h => by cases h; exact .int _
  | .str _, _, h => by cases h; exact .str _
  | .tuple ds, _, h => by
    cases h with
    | tup a b => exact .tup (s _ _ a) (dx_keepAll s b)
  | .list _, _, h => by
    cases h with
    | lst a b c => exact .lst a (s _ _ b) (dx_keepAll s c)
  | .dict es, _, h => by
    cases h with
    | dct a b => exact .dct a (s _ _ b)
theorem dx_keepAll (s : Same H H') : ∀ {ds : List PyData} {vs : List V}, DxAll p H vs ds → DxAll p H' vs ds
  | [], _, h => by cases h; exact .nil
  | d :: ds, _, h => by
    cases h with
    | cons a b => exact .cons (dx_keep s a) (dx_keepAll s b)
end
mutual
theorem dx_da : ∀ {d : PyData} {v : V}, Dx p H v d → Da K p H v d
  | .none, _, h => by cases h; exact .non
  | .bool _, _, h => by cases h; exact .bl _
  | .int _, _, h => by cases h; exact .int _
  | .str _, _, h => by cases h; exact .str _
  | .tuple ds, _, h => by
    cases h with
    | tup a b => exact .tup (.inl (.inl a)) (dx_daAll b)
  | .list _, _, h => by
    cases h with
    | lst a b c => exact .lst a (.inl (.inl b)) (dx_daAll c)
  | .dict es, _, h => by
    cases h with
    | dct a b => exact .dct a b .nil
theorem dx_daAll : ∀ {ds : List PyData} {vs : List V}, DxAll p H vs ds → DaAll K p H vs ds
  | [], _, h => by cases h; exact .nil
  | d :: ds, _, h => by
    cases h with
    | cons a b => exact .cons (dx_da a) (dx_daAll b)
end
theorem DxAll.length : ∀ {xs : List V} {ds : List PyData}, DxAll p H xs ds → xs.length = ds.length
  | _, _, .nil => rfl
  | _, _, .cons _ t => congrArg (· + 1) t.length
theorem DxAll.at : ∀ {xs : List V} {ds : List PyData} {i : Nat} {v : V}, DxAll p H xs ds → xs[i]? = some v → ∃ d, ds[i]? = some d ∧ Dx p H v d
  | _, _, 0, _, .cons h _, e => by cases e; exact ⟨_, rfl, h⟩
  | _, _, i + 1, _, .cons _ t, e => t.at (i := i) e
theorem DxAll.append : ∀ {xs ys : List V} {ds es : List PyData}, DxAll p H xs ds → DxAll p H ys es → DxAll p H (xs ++ ys) (ds ++ es)
  | _, _, _, _, .nil, t => t
  | _, _, _, _, .cons a b, t => .cons a (b.append t)
theorem dx_end {v : V} {e : EndT} (h : Dx p H v (Datum.toD e)) : EndV H v e := by
  have h : Dx p H v (.tuple [.str e.1, .int e.2]) := h
  cases h with
  | tup a b =>
    cases b with
    | cons b1 b =>
      cases b with
      | cons b2 b =>
        cases b
        cases b1
        cases b2
        exact ⟨_, rfl, a⟩
theorem dx_coup {v : V} {c : CoupT} (h : Dx p H v (Datum.toD c)) : CoupV H v c := by
  have h : Dx p H v (.tuple [Datum.toD c.1, Datum.toD c.2]) := h
  cases h with
  | tup a b =>
    cases b with
    | cons b1 b =>
      cases b with
      | cons b2 b =>
        cases b
        exact ⟨_, _, _, rfl, a, dx_end b1, dx_end b2⟩
end
/-- a term that writes the value d out -/
def Bld (p : Addr) (te : TE) (σ : L2.St) (d : PyData) : Prop := ∀ (H : Hp) (Q : VK), H p ≠ none → (∀ v H', Same H H' → Dx p H' v d → Q v H') → te σ H Q
def BldA (p : Addr) (ta : TA) (σ : L2.St) (ds : List PyData) : Prop := ∀ (H : Hp) (Q : List V → Hp → Prop), H p ≠ none → (∀ vs H', Same H H' → DxAll p H' vs ds → Q vs H') → ta σ H Q
section
variable {p : Addr} {σ : L2.St} {te : TE} {ta : TA} {d : PyData} {ds : List PyData}
theorem same_non {H H' : Hp} (s : Same H H') {a : Addr} (h : H a ≠ none) : H' a ≠ none := by
  cases e : H a with
  | none => exact absurd e h
  | some o => rw [s _ _ e]; exact fun z => nomatch z
theorem same_free {H H' : Hp} (s : Same H H') {a : Addr} (h : H' a = none) : H a = none := Option.eq_none_iff_forall_ne_some.mpr fun o e => by rw [s _ _ e] at h; cases h
theorem bld_non : Bld p (tC .non) σ .none := fun H Q _ q => q _ _ (.refl H) .non
theorem bld_bl {b : Bool} : Bld p (tC (.bl b)) σ (.bool b) := fun H Q _ q => q _ _ (.refl H) (.bl b)
theorem bld_int {i : Int} : Bld p (tC (.int i)) σ (.int i) := fun H Q _ q => q _ _ (.refl H) (.int i)
theorem bld_str {x : Str} : Bld p (tC (.str x)) σ (.str x) := fun H Q _ q => q _ _ (.refl H) (.str x)
theorem bld_neg {i : Int} : Bld p (tUn (rU fun i => .int (-i)) (tC (.int i))) σ (.int (-i)) := fun H Q _ q => ⟨i, rfl, q _ _ (.refl H) (.int _)⟩
theorem bld_pow {i j : Int} (h : CPow i j) : Bld p (tOp (rI CPow fun i j => .int (i ^ j.toNat)) (tC (.int i)) (tC (.int j))) σ (.int (i ^ j.toNat)) := fun H Q _ q => ⟨i, j, rfl, rfl, h, q _ _ (.refl H) (.int _)⟩
theorem bld_vs {i : Nat} {x : Str} (h : σ[i]? = some (some (.str x))) : Bld p (tVar i) σ (.str x) := fun H Q _ q => ⟨_, h, q _ _ (.refl H) (.str x)⟩
theorem len_fits {n : Nat} (h : decide (n ≤ 100) = true) : n ≤ sizeLine := Nat.le_trans (of_decide_eq_true h) (by decide)
theorem bld_tup (h : BldA p ta σ ds) (hl : decide (ds.length ≤ 100) = true) : Bld p (tTup ta) σ (.tuple ds) := fun H Q hp q =>
  h H _ hp fun vs H' s D => ⟨by rw [D.length]; exact len_fits hl, fun t ht => q _ _ (s.trans (same_new ht)) (.tup upd_same (dx_keepAll (same_new ht) D))⟩
theorem bld_lstN (h : BldA p ta σ ds) (hl : decide (ds.length ≤ 100) = true) : Bld p (tLstN ta) σ (.list ds) := fun H Q hp q =>
  h H _ hp fun vs H' s D => ⟨by rw [D.length]; exact len_fits hl, fun t ht nt => q _ _ (s.trans (same_new ht)) (.lst nt upd_same (dx_keepAll (same_new ht) D))⟩
theorem bld_d0 : Bld p tDNewK σ (.dict []) := fun H Q hp q => fun t ht => q _ _ (same_new ht) (.dct (fun z => hp (z ▸ ht)) upd_same)
theorem bldA_nil : BldA p tNil σ [] := fun H Q _ q => q _ _ (.refl H) .nil
theorem bldA_cons (h : Bld p te σ d) (r : BldA p ta σ ds) : BldA p (tCons te ta) σ (d :: ds) := fun H Q hp q =>
  h H _ hp fun v H1 s1 D1 => r H1 _ (same_non s1 hp) fun vs H2 s2 D2 => q _ _ (s1.trans s2) (.cons (dx_keep s2 D1) D2)
/-- a list that is written out, then kept as such -/
theorem bld_lst {H : Hp} {Q : VK} (h : BldA p ta σ ds) (hl : ds.length ≤ sizeLine) (hp : H p ≠ none) (q : ∀ l xs H', H l = none → Same H H' → H' l = some (.lst xs) → DxAll p H' xs ds → Q (.ref l) H') : tLst ta σ H Q :=
  h H _ hp fun vs H' s D => ⟨by rw [D.length]; exact hl, fun t ht => q t vs _ (same_free s ht) (s.trans (same_new ht)) upd_same (dx_keepAll (same_new ht) D)⟩
/-- x + [..], then kept as such: where the new list is not yet there, its things are -/
theorem cat_bld {i : Nat} {l0 : Addr} {xs : List V} {ds0 : List PyData} {H : Hp} {Q : VK} (hv : σ[i]? = some (some (.ref l0))) (e0 : H l0 = some (.lst xs)) (d0 : DxAll p H xs ds0) (h : BldA p ta σ ds) (hl : ds0.length + ds.length ≤ sizeLine) (hp : H p ≠ none)
    (q : ∀ L zs Hb, Hb L = none → Same H Hb → DxAll p Hb zs (ds0 ++ ds) → Q (.ref L) (upd Hb L (.lst zs))) : tOp rCat (tVar i) (tLst ta) σ H Q :=
  ⟨_, hv, bld_lst h (by omega) hp fun l x2 H1 hl1 s1 e1 dx1 => ⟨l0, l, xs, x2, rfl, rfl, s1 _ _ e0, e1, by rw [d0.length, dx1.length]; exact hl, fun L hL => q L _ H1 hL s1 ((dx_keepAll s1 d0).append dx1)⟩⟩
end
theorem seq_asg {te : TE} {g : TG} {u : TS} {D : Ends} {σ : L2.St} {H : Hp} (h : te σ H fun x H1 => g x σ H1 (u D)) : tSeq (tAsg te g) u D σ H := h
theorem nm_asg {te : TE} {g : TG} {u : TS} {D : Ends} {σ : L2.St} {H : Hp} {i : Nat} {v : V} (h : te (σ.set i (some v)) H fun x H1 => g x (σ.set i (some v)) H1 (u D)) : gName i v σ H (tSeq (tAsg te g) u D) := h
end My
set_option Elab.async false
set_option linter.all false
set_option maxRecDepth 100000
set_option maxHeartbeats 4000000
/-! _law_ends of the laws k69 to k92 -/
namespace My
open PySem PySem.Spec PyProof.Rows L2
open PySem.W (Datum DatumOrd EachIs)
theorem endsO_app (xs ys : List Str) : endsO (xs ++ ys) = endsO xs ++ endsO ys := by
  unfold endsO
  exact List.flatMap_append
theorem endsO_cnt : ∀ ws : List Str, (endsO ws).length = 2 * ws.length
  | [] => rfl
  | n :: r => by
    show (endsO r).length + 1 + 1 = 2 * (r.length + 1)
    rw [endsO_cnt r]
    omega
section
variable {P : Program} {w : World} {K : PySem.W.Frag} {mg : Str → Option Value} {base : Heap}
def spLEn (K : PySem.W.Frag) : Sp := fun vs H Q _ => ∃ (a : Addr) (ws : List Str), vs = [.ref a] ∧ SqL K H a (ws.map V.str) ∧ ws.length ≤ 1000 ∧
  ∀ (l : Addr) (us : List V) (H' : Hp), H l = none → H' l = some (.lst us) → EachIs (EndV H') us (endsO ws) → Same H H' → Q (.ref l) H'
theorem ok_lends3 {f : Addr} {fd : FuncData} (F : Fun K "_law_ends" "_law_ends" sLEnds f fd) : FnOk P w K mg base CX0 1 f fd ["names"] (spLEn K) := by
  refine F.ok scLEnds (fun vs H Q E h => ?_) (fun cdv A outer s H vs Q E hr h => ?_)
  · obtain ⟨a, ws, rfl, _⟩ := h
    rfl
  · obtain ⟨a, ws, rfl, hs, few, q⟩ := h
    refine ⟨_, pss_cons (ps_set (i := 1) scLEnds.nd rfl (.inl rfl) (pe_lst pa_nil))
      (pss_cons (ps_for PassesOwn.never rfl (pi_list (pv 0)) (pg_name (i := 2) scLEnds.nd rfl (.inl rfl))
        (pss_one (ps_expr (pe_bm PySem.F.plainAttrs_list PySem.F.slot_list_extend PySem.F.type_list_extend mt_extend (pv 1) (pa_cons (pe_lst (pa_cons (pe_tup (pa_cons (pv 2) (pa_cons pe_int pa_nil))) (pa_cons (pe_tup (pa_cons (pv 2) (pa_cons pe_int pa_nil))) pa_nil))) pa_nil)))))
      (pss_one (ps_ret (pv 1)))), ?_⟩
    refine ⟨by show 0 ≤ sizeLine; decide, fun l hl => ?_⟩
    have s0 := same_new (o := HO.lst []) hl
    have e0 : (upd H l (.lst [])) l = some (.lst []) := upd_same
    generalize upd H l (.lst []) = H0 at s0 e0
    refine ⟨_, rfl, a, rfl, ⟨_, s0.keeps.l _ _ hs⟩, ?_⟩
    refine for_list (K := K) (a := a) (xs := ws.map V.str) (fun i σ H' => ∃ (y2 : Option V) (us : List V), σ = [some (.ref a), some (.ref l), y2] ∧ H' l = some (.lst us) ∧ EachIs (EndV H') us (endsO (ws.take i)) ∧ Same H H') ⟨_, [], rfl, e0, .nil, s0⟩ (fun i σ H' _ ⟨_, _, _, _, _, s⟩ => s.keeps.l _ _ hs) (fun i x σ H' hx hp => ?_) (fun σ H' hp => ?_)
    · obtain ⟨y2, us, rfl, el, hu, sm⟩ := hp
      rw [List.getElem?_map] at hx
      obtain ⟨n, hn, rfl⟩ := Option.map_eq_some_iff.mp hx
      have lu := hu.length
      rw [endsO_cnt, List.length_take] at lu
      refine ⟨_, rfl, .inl ⟨rfl, _, .inl (.inl el)⟩, _, rfl, by show 2 ≤ sizeLine; decide, fun t1 h1 => ?_⟩
      have s1 := same_new (o := HO.tup [V.str n, .int 0]) h1
      have e1 : (upd H' t1 (.tup [V.str n, .int 0])) t1 = some (.tup [V.str n, .int 0]) := upd_same
      generalize upd H' t1 (.tup [V.str n, .int 0]) = H1 at s1 e1
      refine ⟨_, rfl, by show 2 ≤ sizeLine; decide, fun t2 h2 => ?_⟩
      have s2 := same_new (o := HO.tup [V.str n, .int 1]) h2
      have e2 : (upd H1 t2 (.tup [V.str n, .int 1])) t2 = some (.tup [V.str n, .int 1]) := upd_same
      generalize upd H1 t2 (.tup [V.str n, .int 1]) = H2 at s2 e2
      refine ⟨by show 2 ≤ sizeLine; decide, fun t3 h3 => ?_⟩
      have s3 := same_new (o := HO.lst [V.ref t1, .ref t2]) h3
      have S3 := (s1.trans s2).trans s3
      have el3 := S3 _ _ el
      have v1 : EndV (upd H2 t3 (.lst [V.ref t1, .ref t2])) (.ref t1) ((n, 0) : EndT) := ⟨t1, rfl, s3 _ _ (s2 _ _ e1)⟩
      have v2 : EndV (upd H2 t3 (.lst [V.ref t1, .ref t2])) (.ref t2) ((n, 1) : EndT) := ⟨t2, rfl, s3 _ _ e2⟩
      refine ⟨l, t3, us, [.ref t1, .ref t2], rfl, rfl, el3, upd_same, by rw [lu, sizeLine_eq]; show 2 * min i ws.length + 2 ≤ _; omega, ?_⟩
      have tk : TupK (upd H2 t3 (.lst [V.ref t1, .ref t2])) (upd (upd H2 t3 (.lst [V.ref t1, .ref t2])) l (.lst (us ++ [.ref t1, .ref t2]))) := .at fun xs z => by rw [el3] at z; cases z
      refine ⟨_, _, rfl, upd_same, ?_, fun b o z => ?_⟩
      · rw [show ws.take (i + 1) = ws.take i ++ [n] by rw [List.take_add_one, hn] <;> rfl, endsO_app]
        exact each_app (ends_keep (S3.tupK.trans tk) hu) (.cons (v1.keep tk) (.cons (v2.keep tk) .nil))
      · rw [upd_ne (ne_of_none z hl)]
        exact S3 _ _ (sm _ _ z)
    · obtain ⟨y2, us, rfl, el, hu, sm⟩ := hp
      rw [List.length_map, List.take_length] at hu
      exact ⟨_, rfl, q l us H' hl el hu sm⟩
end
end My
set_option Elab.async false
set_option linter.all false
set_option maxRecDepth 100000
set_option maxHeartbeats 4000000
namespace My
open PySem PySem.Spec PyProof.Rows L2
theorem penL_made (c : Addr) : mergeK [] [(kCells, V.ref c), (kTurn, V.int 0), (kRest, V.int 0)] = penL c 0 0 := by
  unfold mergeK penL
  simp only [List.foldl_cons, List.foldl_nil]
  rw [putK_new (kvs := []) _ rfl, List.nil_append, putK_new _ (show valV [(kCells, V.ref c)] kTurn = none from valV_neg k12), List.singleton_append,
    putK_new _ (show valV [(kCells, V.ref c), (kTurn, V.int 0)] kRest = none from (valV_neg k13).trans (valV_neg k23))]
  rfl
theorem cut_ints (ns : List Int) (lo hi : Option Int) : ∃ ms : List Int, cutV (ns.map V.int) lo hi = ms.map V.int ∧ ms.length ≤ ns.length := by
  refine ⟨(ns.drop (HT.sIx (ns.map V.int).length 0 lo)).take (HT.sIx (ns.map V.int).length (ns.map V.int).length hi - HT.sIx (ns.map V.int).length 0 lo), ?_, ?_⟩
  · unfold cutV
    rw [List.map_take, List.map_drop]
  · rw [List.length_take, List.length_drop]
    omega
section
variable {P : Program} {w : World} {K : PySem.W.Frag} {mg : Str → Option Value} {base : Heap}
/-- a pen over a script -/
def spPen (K : PySem.W.Frag) : Sp := fun vs H Q _ => ∃ (a : Addr) (ns : List Int), vs = [.ref a] ∧ SqL K H a (ns.map V.int) ∧ ns.length ≤ 63 ∧ ∀ (p c : Addr) (H' : Hp), H p = none → Same H H' → PenAt H' p c 0 → Q (.ref p) H'
theorem ok_pen {f : Addr} {fd : FuncData} (F : Fun K "_law_pen" "_law_pen" sPen f fd) (ml : mg "list" = none) : FnOk P w K mg base CX0 1 f fd ["script"] (spPen K) := by
  refine F.ok scPen (fun vs H Q E h => ?_) (fun cdv A outer s H vs Q E hr h => ?_)
  · obtain ⟨a, ns, rfl, _⟩ := h
    rfl
  · obtain ⟨a, ns, rfl, hS, hl, q⟩ := h
    refine ⟨_, pss_one (ps_ret (pe_disp (pps_cons pe_str (pe_callTy call_list_of (by rfl) ml (by decide +kernel) (pa_cons (pe_slice sl_list (pv 0) po_none (po_some pe_int)) pa_nil))
      (pps_cons pe_str pe_int (pps_cons pe_str pe_int pps_nil))) (by rfl) (by rfl) (fun z => by cases z) (by decide))), ?_⟩
    intro p hp
    have sp := same_new (o := HO.dK []) hp
    refine ⟨_, rfl, _, rfl, a, _, rfl, sp.seq hS, fun b hb => ?_⟩
    have sb := same_new (o := HO.lst (cutV (ns.map V.int) none (some 63))) hb
    refine ⟨b, _, rfl, .inl (.inl (.inl upd_same)), fun c hc => ?_⟩
    have sc := same_new (o := HO.lst (cutV (ns.map V.int) none (some 63))) hc
    have p1 : (upd (upd (upd H p (.dK [])) b (.lst (cutV (ns.map V.int) none (some 63)))) c (.lst (cutV (ns.map V.int) none (some 63)))) p = some (.dK []) := sc _ _ (sb _ _ upd_same)
    refine ⟨p1, [(kCells, .ref c), (kTurn, .int 0), (kRest, .int 0)], rfl, ?_⟩
    obtain ⟨ms, em, lm⟩ := cut_ints ns none (some 63)
    have npc : p ≠ c := ne_of_none (sb _ _ upd_same) hc
    refine ⟨by show 3 ≤ 15; decide, q p c _ hp (fun b' o e => ?_) ⟨⟨ms, 0, 0, ?_, ?_, by omega, Int.le_refl 0, Int.le_refl 0⟩⟩⟩
    · rw [upd_ne (ne_of_none e hp)]
      exact sc _ _ (sb _ _ (sp _ _ e))
    · rw [upd_same, penL_made]
    · rw [upd_ne npc.symm, upd_same, em]
end
end My
set_option Elab.async false
set_option linter.all false
set_option maxRecDepth 100000
set_option maxHeartbeats 4000000
/-! _law_pairs of the laws k69 to k92 -/
namespace My
open PySem PySem.Spec PyProof.Rows L2
open PySem.W (Datum DatumOrd EachIs)
/-- found, and the ends that are left -/
structure PrSt (ws : List Str) (ps : List CoupT) (es : List EndT) : Prop where
  n : Nrm ws ps
  asc : Asc es
  sub : ∀ e ∈ es, e ∈ endsO ws
  nd : (metE ps ++ es).Nodup
  bel : ∀ p ∈ ps, ∀ e ∈ es, DatumOrd.lt p.1 e = true
theorem PrSt.begin {ws : List Str} (h : Asc ws) (nd : ws.Nodup) : PrSt ws [] (endsO ws) := ⟨nrm_nil ws, asc_ends h, fun _ h => h, endsO_nodup nd, fun p hp => (List.not_mem_nil hp).elim⟩
theorem PrSt.drop {ws : List Str} {ps : List CoupT} {o : EndT} {es : List EndT} (h : PrSt ws ps (o :: es)) : PrSt ws ps es :=
  ⟨h.n, (List.pairwise_cons.mp h.asc).2, fun e he => h.sub e (List.mem_cons_of_mem _ he), h.nd.sublist ((List.Sublist.refl _).append (List.sublist_cons_self _ _)), fun p hp e he => h.bel p hp e (List.mem_cons_of_mem _ he)⟩
theorem PrSt.take {ws : List Str} {ps : List CoupT} {o q : EndT} {es : List EndT} {j : Nat} (h : PrSt ws ps (o :: es)) (hj : es[j]? = some q) : PrSt ws (ps ++ [(o, q)]) (es.eraseIdx j) := by
  have hm := List.mem_of_getElem? hj
  have hlt : j < es.length := (List.getElem?_eq_some_iff.mp hj).1
  have a := List.pairwise_cons.mp h.asc
  have loq := a.1 q hm
  have sb : (es.eraseIdx j).Sublist es := List.eraseIdx_sublist ..
  have pm : (q :: es.eraseIdx j).Perm es := by
    have e : es[j] = q := (List.getElem?_eq_some_iff.mp hj).2
    rw [← e]
    exact perm_erase es j hlt
  have met : metE (ps ++ [(o, q)]) = metE ps ++ [o, q] := met_app ps [(o, q)]
  have nd2 : (metE (ps ++ [(o, q)]) ++ es.eraseIdx j).Nodup := by
    rw [met, List.append_assoc]
    refine (List.Perm.append_left _ ?_).symm.nodup h.nd
    show (o :: q :: es.eraseIdx j).Perm (o :: es)
    exact pm.cons o
  refine ⟨⟨⟨(List.nodup_append.mp nd2).1, fun e he => ?_⟩, fun p hp => ?_, ?_⟩, a.2.sublist sb, fun e he => h.sub e (List.mem_cons_of_mem _ (sb.subset he)), nd2, fun p hp e he => ?_⟩
  · rw [met] at he
    rcases List.mem_append.mp he with z | z
    · exact h.n.ok.sub e z
    · simp only [List.mem_cons, List.not_mem_nil, or_false] at z
      rcases z with rfl | rfl
      · exact h.sub _ List.mem_cons_self
      · exact h.sub _ (List.mem_cons_of_mem _ hm)
  · rcases List.mem_append.mp hp with z | z
    · exact h.n.lt p z
    · rw [List.mem_singleton.mp z]
      exact loq
  · refine List.pairwise_append.mpr ⟨h.n.asc, List.pairwise_singleton .., fun p hp r hr => ?_⟩
    rw [List.mem_singleton.mp hr]
    exact lt_fst (h.bel p hp o List.mem_cons_self) p.2 q
  · rcases List.mem_append.mp hp with z | z
    · exact h.bel p z e (List.mem_cons_of_mem _ (sb.subset he))
    · rw [List.mem_singleton.mp z]
      exact a.1 e (sb.subset he)
theorem each_erase {α β : Type} {R : α → β → Prop} : ∀ {as : List α} {bs : List β} (j : Nat), EachIs R as bs → EachIs R (as.eraseIdx j) (bs.eraseIdx j)
  | _, _, _, .nil => .nil
  | _, _, 0, .cons _ t => t
  | _, _, j + 1, .cons h t => .cons h (each_erase j t)
theorem PrSt.few {ws : List Str} {ps : List CoupT} {es : List EndT} (h : PrSt ws ps es) : 2 * ps.length + es.length ≤ 2 * ws.length := by
  have h1 := h.nd.length_le_of_subset (l₂ := endsO ws) fun e he => (List.mem_append.mp he).elim (h.n.ok.sub e) (h.sub e)
  have h2 : (metE ps).length = 2 * ps.length := by
    clear h1 h
    induction ps with
    | nil => rfl
    | cons p r ih =>
      show (metE r).length + 1 + 1 = 2 * (r.length + 1)
      rw [ih]
      omega
  rw [List.length_append, h2, endsO_cnt] at h1
  exact h1
section
variable {P : Program} {w : World} {K : PySem.W.Frag} {mg : Str → Option Value} {base : Heap}
/-- a list of couplings of normal form -/
def PsL (H : Hp) (l : Addr) (ps : List CoupT) : Prop := ∃ us, H l = some (.lst us) ∧ EachIs (CoupV H) us ps
theorem PsL.keep {H H' : Hp} {l : Addr} {ps : List CoupT} (s : Same H H') (h : PsL H l ps) : PsL H' l ps := let ⟨us, a, b⟩ := h; ⟨us, s _ _ a, coups_keep s.tupK b⟩
theorem PsL.keepP {H H' : Hp} {l p c : Addr} {n : Nat} {ps : List CoupT} (s : SameP p H H') (G : PenAt H p c n) (h : PsL H l ps) : PsL H' l ps := let ⟨us, a, b⟩ := h; ⟨us, s.lst G a, coups_keep (s.tupK G) b⟩
def spPrs (K : PySem.W.Frag) : Sp := fun vs H Q _ => ∃ (p c a : Addr) (n : Nat) (ws : List Str), vs = [.ref p, .ref a] ∧ PenAt H p c n ∧ n ≤ 800000000 ∧ SqL K H a (ws.map V.str) ∧ ws.length ≤ 30 ∧ Asc ws ∧ ws.Nodup ∧
  ∀ (l : Addr) (ps : List CoupT) (H' : Hp), H l = none → PsL H' l ps → Nrm ws ps → SameP p H H' → PenAt H' p c (n + 130) → Q (.ref l) H'
theorem ok_lprs3 {f fD fP fS fE : Addr} {fd dD dP dS dE : FuncData} (F : Fun K "_law_pairs" "_law_pairs" sLPairs f fd) (T : Draws P w K mg base fD fP fS dD dP dS) (ml : mg "len" = none) (CE : Has P w K mg base 1 "_law_ends" ["names"] (spLEn K) fE dE) : FnOk P w K mg base CX0 2 f fd ["pen", "names"] (spPrs K) := by
  refine F.ok scLPairs (fun vs H Q E h => ?_) (fun cdv A outer s H vs Q E hr h => ?_)
  · obtain ⟨p, c, a, n, ws, rfl, _⟩ := h
    rfl
  · obtain ⟨p, c, a, n, ws, rfl, G, hn, hs, few, asc, nd, q⟩ := h
    have CD : Has P w K mg base 1 "_law_draw" ["pen", "count"] spDraw fD dD := ⟨T.oD, T.gD, T.kD, T.bD⟩
    refine ⟨_, pss_cons (ps_par3 (i := 2) (j := 3) (l := 4) (by rfl) scLPairs.nd rfl rfl rfl (by decide) (by decide) (by decide) rfl rfl rfl (pa_cons (pe_has CE hr (by rfl) (pa_cons (pv 1) pa_nil)) (pa_cons (pe_lst pa_nil) (pa_cons (pe_has CD hr (by rfl) (pa_cons (pv 0) (pa_cons pe_int pa_nil))) pa_nil))) (by rfl))
      (pss_cons (ps_while PassesOwn.never (pt_cmpR op_gt (pe_callB call_len (by rfl) ml PySem.boot_len (pa_cons (pv 2) pa_nil)) pe_int (nomark _))
        (pss_cons (ps_set (i := 5) scLPairs.nd rfl (.inl rfl) (pe_bm PySem.F.plainAttrs_list PySem.F.slot_list_pop PySem.F.type_list_pop mt_popAt (pv 2) (pa_cons pe_int pa_nil)))
        (pss_one (ps_if (pt_cmpR op_lt (pe_has CD hr (by rfl) (pa_cons (pv 0) (pa_cons pe_int pa_nil))) (pv 4) (nomark _))
          (pss_one (ps_expr (pe_bm PySem.F.plainAttrs_list PySem.F.slot_list_append PySem.F.type_list_append mt_append (pv 3) (pa_cons (pe_tup (pa_cons (pv 5) (pa_cons
            (pe_bm PySem.F.plainAttrs_list PySem.F.slot_list_pop PySem.F.type_list_pop mt_popAt (pv 2) (pa_cons (pe_has CD hr (by rfl) (pa_cons (pv 0) (pa_cons (pe_callB call_len (by rfl) ml PySem.boot_len (pa_cons (pv 2) pa_nil)) pa_nil))) pa_nil)) pa_nil))) pa_nil)))) pss_nil))))
      (pss_one (ps_ret (pv 3)))), ?_⟩
    refine ⟨_, rfl, a, ws, rfl, hs, by omega, fun l us H1 hl el hu s1 => ?_⟩
    refine ⟨by show 0 ≤ sizeLine; decide, fun g hg => ?_⟩
    have sg := same_new (o := HO.lst []) hg
    have g0 : H g = none := Option.eq_none_iff_forall_ne_some.mpr fun o e => by rw [s1 _ _ e] at hg; cases hg
    have nlg : l ≠ g := ne_of_none el hg
    have el2 := sg _ _ el
    have eg2 : (upd H1 g (.lst [])) g = some (.lst []) := upd_same
    have hu2 := ends_keep sg.tupK hu
    have S2 := s1.trans sg
    generalize upd H1 g (.lst []) = H2 at sg el2 eg2 hu2 S2
    have G2 := G.same S2
    refine ⟨_, rfl, p, c, n, 4, rfl, G2, by omega, by decide, by decide, fun d H3 d0 d1 s3 G3 => ⟨_, _, _, rfl, ?_⟩⟩
    have el3 := s3.lst G2 el2
    have eg3 := s3.lst G2 eg2
    have hu3 := ends_keep (s3.tupK G2) hu2
    have S3 : SameP p H H3 := (SameP.of S2).trans s3
    have cnt := endsO_cnt ws
    have pl : p ≠ l := G.apart' hl
    have pg : p ≠ g := G.apart' g0
    have cl : c ≠ l := G.apart hl
    have cg : c ≠ g := G.apart g0
    clear s1 el hu sg hg S2 el2 eg2 hu2 s3 G2
    refine ⟨fun m σ H' => ∃ (us fs : List V) (es : List EndT) (ps : List CoupT) (y5 : Option V), σ = [some (.ref p), some (.ref a), some (.ref l), some (.ref g), some (.int d), y5] ∧ m = es.length ∧ H' l = some (.lst us) ∧ EachIs (EndV H') us es ∧ H' g = some (.lst fs) ∧ EachIs (CoupV H') fs ps ∧ PrSt ws ps es ∧ SameP p H H' ∧ PenAt H' p c (n + 1 + 2 * (2 * ws.length - es.length)),
      ⟨_, us, [], endsO ws, [], none, rfl, rfl, el3, hu3, eg3, .nil, .begin asc nd, S3, G3.mono (by omega)⟩, fun m σ H4 hW => ?_⟩
    obtain ⟨us, fs, es, ps, y5, rfl, rfl, el4, hu4, eg4, hf4, st, S4, G4⟩ := hW
    have lu := hu4.length
    have lf := hf4.length
    have cf := st.few
    refine ⟨_, rfl, .ref l, us.length, rfl, .inl ⟨_, .inl (.inl el4), rfl⟩, _, _, rfl, rfl, _, rfl, ?_⟩
    match us, es, hu4, lu with
    | [], [], _, _ => exact iteF ⟨_, rfl, q g ps H4 g0 ⟨fs, eg4, hf4⟩ st.n S4 (G4.mono (by omega))⟩
    | [u0], [o], _, _ => exact iteF ⟨_, rfl, q g ps H4 g0 ⟨fs, eg4, hf4⟩ st.n S4 (G4.mono (by omega))⟩
    | u0 :: u1 :: ur, o :: o1 :: er, hu4, lu =>
      rw [decide_eq_true (show ((u0 :: u1 :: ur).length : Int) > 1 by simp only [List.length_cons]; omega)]
      have lt60 : (u1 :: ur).length ≤ 60 := by
        simp only [List.length_cons] at lu cf ⊢
        omega
      refine iteT ⟨_, fun _ _ z => z, ?_⟩
      cases hu4 with
      | cons h0 hr4 =>
      refine ⟨_, rfl, .inl ⟨rfl, _, .inl (.inl el4)⟩, l, _, 0, 0, u0, rfl, rfl, el4, by decide, by decide, by rw [seqIndex_of (by omega) (by simp only [List.length_cons]; omega)]; rfl, rfl, ?_⟩
      have tk1 : TupK H4 (upd H4 l (.lst ((u0 :: u1 :: ur).eraseIdx 0))) := .at fun xs z => by rw [el4] at z; cases z
      have el5 : (upd H4 l (.lst ((u0 :: u1 :: ur).eraseIdx 0))) l = some (.lst (u1 :: ur)) := upd_same
      have eg5 : (upd H4 l (.lst ((u0 :: u1 :: ur).eraseIdx 0))) g = some (.lst fs) := (upd_ne (Ne.symm nlg)).trans eg4
      have h05 := h0.keep tk1
      have hr5 := ends_keep tk1 hr4
      have hf5 := coups_keep tk1 hf4
      have G5 : PenAt (upd H4 l (.lst ((u0 :: u1 :: ur).eraseIdx 0))) p c _ := G4.upd pl cl
      have S5 : SameP p H (upd H4 l (.lst ((u0 :: u1 :: ur).eraseIdx 0))) := fun b x nb e => by
        rw [upd_ne (ne_of_none e hl)]
        exact S4 b x nb e
      generalize upd H4 l (.lst ((u0 :: u1 :: ur).eraseIdx 0)) = H5 at el5 eg5 h05 hr5 hf5 G5 S5
      clear tk1 el4 eg4 h0 hr4 hf4 G4 S4
      refine ⟨_, rfl, p, c, _, 3, rfl, G5, by omega, by decide, by decide, fun d3 H6 _ _ s6 G6 => ⟨_, rfl, _, _, rfl, rfl, _, rfl, ?_⟩⟩
      have el6 := s6.lst G5 el5
      have eg6 := s6.lst G5 eg5
      have h06 := h05.keep (s6.tupK G5)
      have hr6 := ends_keep (s6.tupK G5) hr5
      have hf6 := coups_keep (s6.tupK G5) hf5
      have S6 := S5.trans s6
      clear s6 el5 eg5 h05 hr5 hf5 S5
      cases decide (d3 < d) with
      | false => exact iteF ⟨_, Nat.lt_succ_self _, _, _, o1 :: er, ps, _, rfl, rfl, el6, hr6, eg6, hf6, st.drop, S6, G6.mono (by simp only [List.length_cons] at cf ⊢; omega)⟩
      | true =>
        refine iteT ⟨_, rfl, .inl ⟨rfl, _, .inl (.inl eg6)⟩, _, rfl, _, rfl, .inl ⟨rfl, _, .inl (.inl el6)⟩, _, rfl, _, rfl, .ref l, (u1 :: ur).length, rfl, .inl ⟨_, .inl (.inl el6), rfl⟩, p, c, _, ((u1 :: ur).length : Int), rfl, G6, by omega, by simp only [List.length_cons]; omega, by omega, fun d4 H7 d40 d41 s7 G7 => ?_⟩
        obtain ⟨j, rfl⟩ : ∃ j : Nat, d4 = (j : Int) := ⟨d4.toNat, by omega⟩
        have hj : j < (u1 :: ur).length := by omega
        have el7 := s7.lst G6 el6
        have eg7 := s7.lst G6 eg6
        have h07 := h06.keep (s7.tupK G6)
        have hr7 := ends_keep (s7.tupK G6) hr6
        have hf7 := coups_keep (s7.tupK G6) hf6
        have S7 := S6.trans s7
        clear s7 el6 eg6 h06 hr6 hf6 S6 G6
        refine ⟨l, _, _, j, (u1 :: ur)[j], rfl, rfl, el7, by omega, by omega, by rw [seqIndex_of (by omega) (by omega)]; rfl, List.getElem?_eq_getElem hj, ?_⟩
        have tk1 : TupK H7 (upd H7 l (.lst ((u1 :: ur).eraseIdx j))) := .at fun xs z => by rw [el7] at z; cases z
        obtain ⟨q1, hq1, hv1⟩ := each_at hr7 (List.getElem?_eq_getElem hj)
        have el8 : (upd H7 l (.lst ((u1 :: ur).eraseIdx j))) l = some (.lst ((u1 :: ur).eraseIdx j)) := upd_same
        have eg8 : (upd H7 l (.lst ((u1 :: ur).eraseIdx j))) g = some (.lst fs) := (upd_ne (Ne.symm nlg)).trans eg7
        have h08 := h07.keep tk1
        have hv8 := hv1.keep tk1
        have hr8 := ends_keep tk1 (each_erase j hr7)
        have hf8 := coups_keep tk1 hf7
        have G8 : PenAt (upd H7 l (.lst ((u1 :: ur).eraseIdx j))) p c _ := G7.upd pl cl
        have S8 : SameP p H (upd H7 l (.lst ((u1 :: ur).eraseIdx j))) := fun b x nb e => by
          rw [upd_ne (ne_of_none e hl)]
          exact S7 b x nb e
        generalize upd H7 l (.lst ((u1 :: ur).eraseIdx j)) = H8 at el8 eg8 h08 hv8 hr8 hf8 G8 S8
        generalize (u1 :: ur)[j] = uj at hv8
        clear tk1 el7 eg7 h07 hr7 hf7 S7 G7 hv1
        refine ⟨by show 2 ≤ sizeLine; decide, fun t ht => ?_⟩
        have s9 := same_new (o := HO.tup [u0, uj]) ht
        have e9 : (upd H8 t (.tup [u0, uj])) t = some (.tup [u0, uj]) := upd_same
        refine ⟨g, fs, .ref t, rfl, rfl, s9 _ _ eg8, Evl.sz_lt (by omega), ?_⟩
        have ntg : t ≠ g := Ne.symm (ne_of_none eg8 ht)
        have tk : TupK (upd H8 t (.tup [u0, uj])) (upd (upd H8 t (.tup [u0, uj])) g (.lst (fs ++ [.ref t]))) := .at fun xs z => by rw [s9 _ _ eg8] at z; cases z
        have tk9 := s9.tupK.trans tk
        have le9 : ((o1 :: er).eraseIdx j).length = er.length := by
          rw [List.length_eraseIdx, if_pos (by simp only [List.length_cons] at lu hj ⊢; omega)]
          rfl
        refine ⟨((o1 :: er).eraseIdx j).length, by rw [le9]; simp only [List.length_cons]; omega, _, fs ++ [.ref t], (o1 :: er).eraseIdx j, ps ++ [(o, q1)], _, rfl, rfl, (upd_ne nlg).trans (s9 _ _ el8), ends_keep tk9 hr8, upd_same, ?_, st.take hq1, fun b x nb e => ?_, ?_⟩
        · exact each_app (coups_keep tk9 hf8) (.cons ⟨t, u0, uj, rfl, (upd_ne ntg).trans e9, h08.keep tk9, hv8.keep tk9⟩ .nil)
        · rw [upd_ne (ne_of_none e g0)]
          exact s9 _ _ (S8 b x nb e)
        · refine ((G8.same s9).upd pg cg).mono ?_
          rw [le9]
          simp only [List.length_cons] at cf ⊢
          omega
end
end My
set_option Elab.async false
set_option linter.all false
set_option maxRecDepth 100000
set_option maxHeartbeats 4000000
/-! min(a, b), max(a, b) of data that are alike -/
namespace My
open PySem PySem.Spec PyProof.Rows L2
open PySem.W (Datum DatumOrd)
section
open PySem.SeqAt PySem.W
variable {prog : Program} {w : World} {A : Around} {E : Value → Shared → Prop} {s : Shared} {a b : Value} {α : Type} [DecidableEq α] [DatumOrd α] {x y : α} {Q : Value → Shared → Prop}
theorem two_reads (Ha : PySem.W.Holds s.heap a x) (Hb : PySem.W.Holds s.heap b y) :
    (∃ as, ReadsAll (s.heap.push { cls := .type "tuple", data := .seq #[a, b] }) (#[a, b] : Array Value).toList ([x, y].map Datum.toD) as) ∧ (s.heap.push { cls := .type "tuple", data := .seq #[a, b] }).IsTuple s.heap.objs.size #[a, b] := by
  obtain ⟨as, ra⟩ := Ha
  obtain ⟨bs, rb⟩ := Hb
  have k : ∀ c o, s.heap.get? c = some o → (s.heap.push { cls := .type "tuple", data := .seq #[a, b] }).get? c = some o := fun c o e => Heap.get?_push_of_some _ e
  exact ⟨⟨_, .cons (reads_keeps k ra) (.cons (reads_keeps k rb) .nil)⟩, ⟨_, Heap.get?_push_size _ rfl, rfl, 0, rfl⟩⟩
theorem min_two_datum (hh : A.handled = none) (Ha : PySem.W.Holds s.heap a x) (Hb : PySem.W.Holds s.heap b y) (hu : A.units + 1 + Datum.depth α < cLine)
    (h : ∀ h' tk, (∀ c o, s.heap.get? c = some o → h'.get? c = some o) → Q (if DatumOrd.lt y x = true then b else a) { s with heap := h', toks := tk }) :
    wpAny (model prog w) A (call (.builtin "min") [a, b]) Q E s := by
  obtain ⟨⟨as, hr⟩, hl⟩ := two_reads Ha Hb
  have hname : (toString "min" ++ toString ".loop" : String) = "min.loop" := by decide
  refine call_function_tree F.kind_min F.plain_min F.entry_min (F.args_min2 _ _) ?_
  show wpAny _ A.in1 (Builtin.Builtins.bindParams "min" ["key", "default"] 0 ⟨[], []⟩ >>= _) _ _ s
  refine wpAny_bind (wpAny_of_eq (show Builtin.Builtins.bindParams "min" ["key", "default"] 0 ⟨[], []⟩ = pure [none, none] from rfl) ?_)
  show wpAny _ A.in1 (newTuple [a, b] >>= _) _ _ s
  refine wpAny_bind (wpAny_newObj_type ?_)
  refine wpAny_bind (iter_tupleW (A := A.in1) hh hl fun s₂ e W st hfp hw hkeep => ?_)
  refine wpAny_bind (wpAny_newObj_type ?_)
  have hSf : s₂.heap.objs.size ∉ _ := fun hm => Nat.lt_irrefl _ (hfp _ hm)
  have hcmp := cmpIn_lt (prog := prog) (w := w) (A := A.in1) (s := { s with heap := s.heap.push { cls := .type "tuple", data := .seq #[a, b] } }) (vs := #[a, b]) hr (alikeAll_datum [x, y]) (by
    show A.units + 1 + _ < _
    exact room_all (depthAll_map [x, y]) hu)
  rw [hname]
  refine wpAny_pure ⟨plainId_quiet F.plain_min_loop _, codeAny_min_loop_firstH W _ hw _ hcmp s₂.heap.objs.size hSf (fresh_in hkeep) _ (by show 0 < 2; decide) (fun b o e => Heap.get?_push_of_some _ (hkeep b o e)) (W.frame 0 s₂ _ s₂.toks st (Nat.le_refl _) fun b _ o e => Heap.get?_push_of_some _ e) (Heap.get?_push_size _ rfl) fun v s' hP hm => ?_⟩
  obtain ⟨h', tk, rfl, hk'⟩ := moved_old e rfl (Moved.drop_new (tk := s₂.toks) hm (Nat.le_refl _))
  have hb : argBest (fun i j => dataLt (([x, y].map Datum.toD).getD i .none) (([x, y].map Datum.toD).getD j .none)) ((#[a, b] : Array Value).size - 1) = if DatumOrd.lt y x = true then 1 else 0 := by
    show (if dataLt (Datum.toD y) (Datum.toD x) = true then 1 else 0) = _
    rw [DatumOrd.lt_eq]
  rw [hb] at hP
  have hv : v = if DatumOrd.lt y x = true then b else a := by
    cases hlt : (DatumOrd.lt y x : Bool) with
    | true =>
      rw [hlt, if_pos rfl] at hP
      rw [if_pos rfl]
      exact (Option.some.inj hP).symm
    | false =>
      rw [hlt, if_neg Bool.false_ne_true] at hP
      rw [if_neg Bool.false_ne_true]
      exact (Option.some.inj hP).symm
  rw [hv]
  exact h h' tk fun c o e => hk' c o (Heap.get?_push_of_some _ e)
theorem max_two_datum (hh : A.handled = none) (Ha : PySem.W.Holds s.heap a x) (Hb : PySem.W.Holds s.heap b y) (hu : A.units + 1 + Datum.depth α < cLine)
    (h : ∀ h' tk, (∀ c o, s.heap.get? c = some o → h'.get? c = some o) → Q (if DatumOrd.lt x y = true then b else a) { s with heap := h', toks := tk }) :
    wpAny (model prog w) A (call (.builtin "max") [a, b]) Q E s := by
  obtain ⟨⟨as, hr⟩, hl⟩ := two_reads Ha Hb
  have hname : (toString "max" ++ toString ".loop" : String) = "max.loop" := by decide
  refine call_function_tree F.kind_max F.plain_max F.entry_max (F.args_max2 _ _) ?_
  show wpAny _ A.in1 (Builtin.Builtins.bindParams "max" ["key", "default"] 0 ⟨[], []⟩ >>= _) _ _ s
  refine wpAny_bind (wpAny_of_eq (show Builtin.Builtins.bindParams "max" ["key", "default"] 0 ⟨[], []⟩ = pure [none, none] from rfl) ?_)
  show wpAny _ A.in1 (newTuple [a, b] >>= _) _ _ s
  refine wpAny_bind (wpAny_newObj_type ?_)
  refine wpAny_bind (iter_tupleW (A := A.in1) hh hl fun s₂ e W st hfp hw hkeep => ?_)
  refine wpAny_bind (wpAny_newObj_type ?_)
  have hSf : s₂.heap.objs.size ∉ _ := fun hm => Nat.lt_irrefl _ (hfp _ hm)
  have hcmp := cmpIn_gt (prog := prog) (w := w) (A := A.in1) (s := { s with heap := s.heap.push { cls := .type "tuple", data := .seq #[a, b] } }) (vs := #[a, b]) hr (alikeAll_datum [x, y]) (by
    show A.units + 1 + _ < _
    exact room_all (depthAll_map [x, y]) hu)
  rw [hname]
  refine wpAny_pure ⟨plainId_quiet F.plain_max_loop _, codeAny_max_loop_firstH W _ hw _ hcmp s₂.heap.objs.size hSf (fresh_in hkeep) _ (by show 0 < 2; decide) (fun b o e => Heap.get?_push_of_some _ (hkeep b o e)) (W.frame 0 s₂ _ s₂.toks st (Nat.le_refl _) fun b _ o e => Heap.get?_push_of_some _ e) (Heap.get?_push_size _ rfl) fun v s' hP hm => ?_⟩
  obtain ⟨h', tk, rfl, hk'⟩ := moved_old e rfl (Moved.drop_new (tk := s₂.toks) hm (Nat.le_refl _))
  have hb : argBest (fun i j => dataLt (([x, y].map Datum.toD).getD j .none) (([x, y].map Datum.toD).getD i .none)) ((#[a, b] : Array Value).size - 1) = if DatumOrd.lt x y = true then 1 else 0 := by
    show (if dataLt (Datum.toD x) (Datum.toD y) = true then 1 else 0) = _
    rw [DatumOrd.lt_eq]
  rw [hb] at hP
  have hv : v = if DatumOrd.lt x y = true then b else a := by
    cases hlt : (DatumOrd.lt x y : Bool) with
    | true =>
      rw [hlt, if_pos rfl] at hP
      rw [if_pos rfl]
      exact (Option.some.inj hP).symm
    | false =>
      rw [hlt, if_neg Bool.false_ne_true] at hP
      rw [if_neg Bool.false_ne_true]
      exact (Option.some.inj hP).symm
  rw [hv]
  exact h h' tk fun c o e => hk' c o (Heap.get?_push_of_some _ e)
end
section
variable {X : Cx} {α : Type} [DecidableEq α] [DatumOrd α]
def rMinTwo (α : Type) [DecidableEq α] [DatumOrd α] (K : PySem.W.Frag) : List V → Hp → VK → Prop := fun xs H Q => ∃ (u v : V) (x y : α), xs = [u, v] ∧ Hd1 K H u x ∧ Hd1 K H v y ∧ Q (if DatumOrd.lt y x = true then v else u) H
def rMaxTwo (α : Type) [DecidableEq α] [DatumOrd α] (K : PySem.W.Frag) : List V → Hp → VK → Prop := fun xs H Q => ∃ (u v : V) (x y : α), xs = [u, v] ∧ Hd1 K H u x ∧ Hd1 K H v y ∧ Q (if DatumOrd.lt x y = true then v else u) H
theorem call_minTwo (hc : X.calm = true) (hu : X.A.units + 1 + Datum.depth α < cLine) : CallR X (.builtin "min") (rMinTwo α X.K) := by
  intro pins s σ H xs us Q I r ⟨u, v, x, y, e, hx, hy, q⟩
  subst e
  obtain ⟨u1, u2, rfl, r1, r2⟩ := vals2 r
  refine min_two_datum (I.ok.hd hc) (Dp.reads I _ _ _ (dt_dp hx) r1) (Dp.reads I _ _ _ (dt_dp hy) r2) hu fun h' tk k => ⟨_, H, I.kept k, ?_, q⟩
  cases (DatumOrd.lt y x : Bool) with
  | true => exact r2
  | false => exact r1
theorem call_maxTwo (hc : X.calm = true) (hu : X.A.units + 1 + Datum.depth α < cLine) : CallR X (.builtin "max") (rMaxTwo α X.K) := by
  intro pins s σ H xs us Q I r ⟨u, v, x, y, e, hx, hy, q⟩
  subst e
  obtain ⟨u1, u2, rfl, r1, r2⟩ := vals2 r
  refine max_two_datum (I.ok.hd hc) (Dp.reads I _ _ _ (dt_dp hx) r1) (Dp.reads I _ _ _ (dt_dp hy) r2) hu fun h' tk k => ⟨_, H, I.kept k, ?_, q⟩
  cases (DatumOrd.lt x y : Bool) with
  | true => exact r2
  | false => exact r1
end
end My
set_option Elab.async false
set_option linter.all false
set_option maxRecDepth 100000
set_option maxHeartbeats 4000000
/-! _law_partner, _law_pair, _law_cut, _law_coupled of the laws k69 to k92 -/
namespace My
open PySem PySem.Spec PyProof.Rows L2
open PySem.W (Datum DatumOrd EachIs)
/-- a partner or None -/
def OptV (H : Hp) (r : V) (o : Option EndT) : Prop := (o = none ∧ r = .non) ∨ ∃ q, o = some q ∧ EndV H r q
theorem OptV.keep {H H' : Hp} {r : V} {o : Option EndT} (s : TupK H H') (h : OptV H r o) : OptV H' r o := h.imp id fun ⟨q, e, z⟩ => ⟨q, e, z.keep s⟩
def optD : Option EndT → PyData
  | .none => .none
  | some q => Datum.toD q
theorem OptV.dp {K : PySem.W.Frag} {H : Hp} {r : V} {o : Option EndT} (h : OptV H r o) : Dp K H r (optD o) := by
  rcases h with ⟨rfl, rfl⟩ | ⟨q, rfl, h⟩
  · exact .non
  · exact dt_dp h.dt
theorem opt_plain : ∀ o : Option EndT, (optD o).plain = true
  | none => by show PyData.plain .none = true; simp only [PyData.plain]
  | some q => Datum.plain q
theorem eqv_opt (o : Option EndT) (e : EndT) : PyData.eqv (optD o) (Datum.toD e) = decide (o = some e) := by
  cases o with
  | none =>
    rw [decide_eq_false (fun z => nomatch z)]
    show PyData.eqv .none (.tuple [.str e.1, .int e.2]) = false
    simp [PyData.eqv]
  | some q =>
    show PyData.eqv (Datum.toD q) (Datum.toD e) = _
    rw [Datum.eqv]
    exact decide_eq_decide.mpr ⟨fun z => by rw [z], fun z => Option.some.inj z⟩
section
variable {X : Cx}
/-- x in (a, b), plain data -/
def rInT2 (K : PySem.W.Frag) (neg : Bool) : R2 := fun x y H Q => ∃ (d : PyData) (ds : List PyData), Dp K H x d ∧ Dp K H y (.tuple ds) ∧ d.plain = true ∧ PyData.plainAll ds = true ∧ d.depth ≤ 60 ∧ Q (.bl (if neg then !(ds.any fun z => PyData.eqv z d) else ds.any fun z => PyData.eqv z d)) H
theorem op_inT2 (hu : X.A.units + 64 < cLine) : OpR X (compareOp .In) (rInT2 X.K false) := by
  intro pins s σ H x y v u Q I rx ry ⟨d, ds, hx, hy, p1, p2, hd, k⟩
  obtain ⟨as, ra⟩ := Dp.reads I _ _ _ hx rx
  obtain ⟨bs, rb⟩ := Dp.reads I _ _ _ hy ry
  exact PySem.SeqAt.in_tuple_data rb ra p2 p1 (by omega) ⟨.bl _, H, I, rfl, k⟩
theorem op_notInT2 (hu : X.A.units + 64 < cLine) : OpR X (compareOp .NotIn) (rInT2 X.K true) := by
  intro pins s σ H x y v u Q I rx ry ⟨d, ds, hx, hy, p1, p2, hd, k⟩
  obtain ⟨as, ra⟩ := Dp.reads I _ _ _ hx rx
  obtain ⟨bs, rb⟩ := Dp.reads I _ _ _ hy ry
  exact PySem.SeqAt.notIn_tuple_data rb ra p2 p1 (by omega) ⟨.bl _, H, I, rfl, k⟩
end
theorem any_two (a b e : EndT) : ([Datum.toD a, Datum.toD b].any fun z => PyData.eqv z (Datum.toD e)) = (decide (e = a) || decide (e = b)) := by
  simp only [List.any_cons, List.any_nil, Bool.or_false, Datum.eqv]
  congr 1
  · exact decide_eq_decide.mpr eq_comm
  · exact decide_eq_decide.mpr eq_comm
/-- an end in a pair of ends -/
theorem in_two {K : PySem.W.Frag} {H : Hp} {v u1 u2 : V} {t : Addr} {e a b : EndT} {neg : Bool} {Q : VK} (hv : EndV H v e) (ht : SqT K H t [u1, u2]) (h1 : EndV H u1 a) (h2 : EndV H u2 b) (q : Q (.bl (if neg then !(decide (e = a) || decide (e = b)) else (decide (e = a) || decide (e = b)))) H) : rInT2 K neg v (.ref t) H Q := by
  refine ⟨Datum.toD e, [Datum.toD a, Datum.toD b], dt_dp hv.dt, .tup ht (.cons (dt_dp h1.dt) (.cons (dt_dp h2.dt) .nil)), Datum.plain e, by simp only [PyData.plainAll, Datum.plain, Bool.and_true], Nat.le_trans (Datum.depth_le e) (by decide), ?_⟩
  rw [any_two]
  exact q
theorem in_coup {K : PySem.W.Frag} {H : Hp} {v x : V} {e : EndT} {c : CoupT} {neg : Bool} {Q : VK} (hv : EndV H v e) (hc : CoupV H x c) (q : Q (.bl (if neg then !(decide (e = c.1) || decide (e = c.2)) else (decide (e = c.1) || decide (e = c.2)))) H) : rInT2 K neg v x H Q := by
  obtain ⟨a, u1, u2, rfl, ha, h1, h2⟩ := hc
  exact in_two hv (.inl (.inl ha)) h1 h2 q
/-- [pair for pair in pairs if ..] -/
theorem lc_pairs {K : PySem.W.Frag} {H1 : Hp} {a D : Addr} {us : List V} {ps : List CoupT} {f : CoupT → Bool} {σ : L2.St} {vs : List Nat} {j : Nat} {tt : TT} {Q : Hp → Prop} (hs : SqL K H1 a us ∨ SqT K H1 a us) {J : It} {Sq : Hp → Prop} (c : SqIt K J a us Sq) (hSq : ∀ H', Same H1 H' → Sq H') (hu : EachIs (CoupV H1) us ps) (few : us.length ≤ 1000) (hD : H1 D = none)
    (hw : ∀ x : V, wipe ((wipe σ vs).set j (some x)) vs = wipe σ vs) (hj : ∀ x : V, ((wipe σ vs).set j (some x))[j]? = some (some x))
    (ht : ∀ (x : V) (c : CoupT) (H' : Hp) (R : Bool → Hp → Prop), Same H1 H' → CoupV H' x c → c ∈ ps → (∀ H3, Same H' H3 → R (f c) H3) → tt ((wipe σ vs).set j (some x)) H' R)
    (q : ∀ us2 H', H' D = some (.lst us2) → EachIs (CoupV H') us2 (ps.filter f) → Same H1 H' → Q H') :
    ∃ W : Nat → Nat → Hp → Prop, (∃ m, W 0 m (upd H1 D (.lst []))) ∧ ∀ i' m H, W i' m H → (J.stop i' H ∧ Q H) ∨
      (J.go i' H ∧ ∃ Nx : Hp → Prop, (∀ H', Nx H' → ∃ m', m' < m ∧ W (i' + 1) m' H') ∧ ∀ x H', J.yld i' H x H' → gName j x (wipe σ vs) H' fun σ2 H2 => wipe σ2 vs = wipe σ vs ∧ tt σ2 H2 fun b H3 =>
        if b = true then tVar j σ2 H3 fun y H4 => ∃ acc, H4 D = some (.lst acc) ∧ acc.length < sizeLine ∧ Nx (upd H4 D (.lst (acc ++ [y]))) else Nx H3) := by
  refine lcT_sq c (fun i H' => ∃ uc : List V, H' D = some (.lst uc) ∧ EachIs (CoupV H') uc ((ps.take i).filter f) ∧ uc.length ≤ i ∧ Same H1 H') ⟨[], upd_same, .nil, Nat.le_refl _, same_new hD⟩ (fun i H' ⟨_, _, _, _, sm⟩ => hSq H' sm) (fun i x H' hx hp => ⟨hw x, ?_⟩) (fun H' hp => ?_)
  · obtain ⟨uc, eD, hc, hle, sm⟩ := hp
    obtain ⟨p, hp, hv⟩ := each_at hu hx
    have hi := (List.getElem?_eq_some_iff.mp hx).1
    refine ht x p H' _ sm (hv.keep sm.tupK) (List.mem_of_getElem? hp) fun H3 s3 => ?_
    have eD3 := s3 _ _ eD
    have hv3 := hv.keep (sm.trans s3).tupK
    have hc3 := coups_keep s3.tupK hc
    have sm3 := sm.trans s3
    have et : ps.take (i + 1) = ps.take i ++ [p] := by rw [List.take_add_one, hp] <;> rfl
    cases hf : f p with
    | false =>
      refine iteF ⟨uc, eD3, ?_, by omega, sm3⟩
      rw [et, List.filter_append]
      simp only [List.filter_cons, hf, List.filter_nil, List.append_nil, Bool.false_eq_true, if_false]
      exact hc3
    | true =>
      refine iteT ⟨_, hj x, uc, eD3, Evl.sz_lt (by omega), uc ++ [x], upd_same, ?_, by rw [List.length_append]; show _ + 1 ≤ _; omega, fun b o z => ?_⟩
      · have tk : TupK H3 (upd H3 D (.lst (uc ++ [x]))) := .at fun xs z => by rw [eD3] at z; cases z
        rw [et, List.filter_append]
        simp only [List.filter_cons, hf, List.filter_nil, if_true]
        exact each_app (coups_keep tk hc3) (.cons (hv3.keep tk) .nil)
      · rw [upd_ne (ne_of_none z hD)]
        exact sm3 b o z
  · obtain ⟨uc, eD, hc, hle, sm⟩ := hp
    have l := hu.length
    rw [show us.length = ps.length from l, List.take_length] at hc
    exact q uc H' eD hc sm
theorem srt_two {a b : EndT} (ne : a ≠ b) : srtE (a, b) = (if DatumOrd.lt b a = true then b else a, if DatumOrd.lt a b = true then b else a) := by
  unfold srtE coupE
  cases h : (DatumOrd.lt a b : Bool) with
  | true =>
    have : (DatumOrd.lt b a : Bool) = false := lt_asym h
    rw [if_pos rfl, this]
    rfl
  | false =>
    cases h2 : (DatumOrd.lt b a : Bool) with
    | true => rfl
    | false => exact absurd (anti_end _ _ h h2) ne
section
variable {P : Program} {w : World} {K : PySem.W.Frag} {mg : Str → Option Value} {base : Heap}
def spPart3 : Sp := fun vs H Q _ => ∃ (l : Addr) (v : V) (ps : List CoupT) (ws : List Str) (e : EndT), vs = [.ref l, v] ∧ PsL H l ps ∧ PairsOk ws ps ∧ EndV H v e ∧ ∀ r H', Same H H' → OptV H' r (lookE (partE ps) e) → Q r H'
theorem ok_part3 {f : Addr} {fd : FuncData} (F : Fun K "_law_partner" "_law_partner" sLPartner f fd) : FnOk P w K mg base CX0 1 f fd ["pairs", "end"] spPart3 := by
  refine F.ok scLPartner (fun vs H Q E h => ?_) (fun cdv A outer s H vs Q E hr h => ?_)
  · obtain ⟨l, v, ps, ws, e, rfl, _⟩ := h
    rfl
  · obtain ⟨l, v, ps, ws, e, rfl, ⟨us, el, hu⟩, ok, hv, q⟩ := h
    refine ⟨_, pss_cons (ps_for PassesOwn.never rfl (pi_list (pv 0)) (pg_tup rfl (pgs_cons (pg_name (i := 2) scLPartner.nd rfl (.inl rfl)) (pgs_cons (pg_name (i := 3) scLPartner.nd rfl (.inl rfl)) pgs_nil)))
        (pss_one (ps_if (pt_cmpR (op_inT2 hr.units) (pv 1) (pe_tup (pa_cons (pv 2) (pa_cons (pv 3) pa_nil))) (by rfl))
          (pss_one (ps_ret (pe_ifExp (pt_cmpR (op_eqP hr.units) (pv 1) (pv 2) (nomark _)) (pv 3) (pv 2)))) pss_nil)))
      (pss_one (ps_ret pe_non)), ?_⟩
    refine ⟨_, rfl, l, rfl, ⟨_, .inl (.inl el)⟩, ?_⟩
    refine for_list (K := K) (a := l) (xs := us) (fun i σ H' => ∃ y2 y3 : Option V, σ = [some (.ref l), some v, y2, y3] ∧ e ∉ metE (ps.take i) ∧ Same H H') ⟨_, _, rfl, List.not_mem_nil, .refl H⟩ (fun i σ H' _ ⟨_, _, _, _, s⟩ => s.keeps.l _ _ (.inl (.inl el))) (fun i x σ H' hx hp => ?_) (fun σ H' hp => ?_)
    · obtain ⟨y2, y3, rfl, hn, sm⟩ := hp
      obtain ⟨p, hp, hc⟩ := each_at hu hx
      obtain ⟨t, u1, u2, rfl, ht, h1, h2⟩ := hc.keep sm.tupK
      refine ⟨t, _, rfl, .inl (.inl ht), rfl, _, _, rfl, _, _, rfl, rfl, ?_⟩
      refine ⟨_, rfl, _, rfl, _, rfl, by show 2 ≤ sizeLine; decide, fun t2 ht2 => ?_⟩
      have s2 := same_new (o := HO.tup [u1, u2]) ht2
      have S2 := sm.trans s2
      have h12 := h1.keep s2.tupK
      have h22 := h2.keep s2.tupK
      have hv2 := hv.keep S2.tupK
      have mp := List.mem_of_getElem? hp
      refine in_two hv2 (.inl (.inl upd_same)) h12 h22 ⟨_, rfl, ?_⟩
      have et : ps.take (i + 1) = ps.take i ++ [p] := by rw [List.take_add_one, hp] <;> rfl
      by_cases e1 : e = p.1
      · rw [decide_eq_true e1, Bool.true_or]
        refine iteT ⟨_, rfl, _, rfl, Datum.toD e, Datum.toD p.1, dt_dp hv2.dt, dt_dp h12.dt, Datum.plain _, Datum.plain _, Nat.le_trans (Nat.min_le_left _ _) (Nat.le_trans (Datum.depth_le e) (by decide)), _, rfl, ?_⟩
        rw [Datum.eqv, decide_eq_true e1]
        exact iteT ⟨_, rfl, q _ _ S2 (.inr ⟨p.2, by rw [e1]; exact (look_iff ok).mpr (.inl mp), h22⟩)⟩
      · by_cases e2 : e = p.2
        · rw [decide_eq_true e2, Bool.or_true]
          refine iteT ⟨_, rfl, _, rfl, Datum.toD e, Datum.toD p.1, dt_dp hv2.dt, dt_dp h12.dt, Datum.plain _, Datum.plain _, Nat.le_trans (Nat.min_le_left _ _) (Nat.le_trans (Datum.depth_le e) (by decide)), _, rfl, ?_⟩
          rw [Datum.eqv, decide_eq_false e1]
          exact iteF ⟨_, rfl, q _ _ S2 (.inr ⟨p.1, by rw [e2]; exact (look_iff ok).mpr (.inr mp), h12⟩)⟩
        · rw [decide_eq_false e1, decide_eq_false e2]
          refine iteF ⟨_, _, rfl, fun z => ?_, S2⟩
          rw [et, met_app] at z
          rcases List.mem_append.mp z with z | z
          · exact hn z
          · have z : e ∈ [p.1, p.2] := z
            simp only [List.mem_cons, List.not_mem_nil, or_false] at z
            exact z.elim e1 e2
    · obtain ⟨y2, y3, rfl, hn, sm⟩ := hp
      have l1 := hu.length
      rw [show us.length = ps.length from l1, List.take_length] at hn
      exact q _ _ sm (.inl ⟨lookE_none.mpr (by rw [partE_fst]; exact hn), rfl⟩)
def spPair3 : Sp := fun vs H Q _ => ∃ (u v : V) (a b : EndT), vs = [u, v] ∧ EndV H u a ∧ EndV H v b ∧ a ≠ b ∧ ∀ t H', Same H H' → CoupV H' (.ref t) (srtE (a, b)) → Q (.ref t) H'
theorem ok_pair3 {f : Addr} {fd : FuncData} (F : Fun K "_law_pair" "_law_pair" sLPair f fd) (mmin : mg "min" = none) (mmax : mg "max" = none) : FnOk P w K mg base CX0 1 f fd ["one", "other"] spPair3 := by
  refine F.ok scLPair (fun vs H Q E h => ?_) (fun cdv A outer s H vs Q E hr h => ?_)
  · obtain ⟨u, v, a, b, rfl, _⟩ := h
    rfl
  · obtain ⟨u, v, a, b, rfl, hu, hv, ne, q⟩ := h
    have hu3 : (A.deeper (envOfC "_law_pair" (defScope sLPair) s.heap.objs.size f cdv)).units + 1 + PySem.W.Datum.depth EndT < cLine := by
      have := hr.units
      have e : PySem.W.Datum.depth EndT = 1 := rfl
      omega
    refine ⟨_, pss_one (ps_ret (pe_tup (pa_cons (pe_callB (call_minTwo (α := EndT) rfl hu3) (by rfl) mmin (by decide +kernel) (pa_cons (pv 0) (pa_cons (pv 1) pa_nil))) (pa_cons (pe_callB (call_maxTwo (α := EndT) rfl hu3) (by rfl) mmax (by decide +kernel) (pa_cons (pv 0) (pa_cons (pv 1) pa_nil))) pa_nil)))), ?_⟩
    refine ⟨_, rfl, _, rfl, u, v, a, b, rfl, hu.dt, hv.dt, _, rfl, _, rfl, u, v, a, b, rfl, hu.dt, hv.dt, by show 2 ≤ sizeLine; decide, fun t ht => ?_⟩
    have s1 := same_new (o := HO.tup [if DatumOrd.lt b a = true then v else u, if DatumOrd.lt a b = true then v else u]) ht
    have k1 : EndV H (if DatumOrd.lt b a = true then v else u) (if DatumOrd.lt b a = true then b else a) := by
      cases (DatumOrd.lt b a : Bool) with
      | true => exact hv
      | false => exact hu
    have k2 : EndV H (if DatumOrd.lt a b = true then v else u) (if DatumOrd.lt a b = true then b else a) := by
      cases (DatumOrd.lt a b : Bool) with
      | true => exact hv
      | false => exact hu
    refine q t _ s1 ⟨t, _, _, rfl, upd_same, ?_, ?_⟩
    · rw [srt_two ne]
      exact k1.keep s1.tupK
    · rw [srt_two ne]
      exact k2.keep s1.tupK
def spCut3 : Sp := fun vs H Q _ => ∃ (l : Addr) (v : V) (ps : List CoupT) (e : EndT), vs = [.ref l, v] ∧ PsL H l ps ∧ ps.length ≤ 1000 ∧ EndV H v e ∧ ∀ t H', H t = none → Same H H' → PsL H' t (cutL ps e) → Q (.ref t) H'
theorem ok_cut3 {f : Addr} {fd : FuncData} (F : Fun K "_law_cut" "_law_cut" sLCut f fd) : FnOk P w K mg base CX0 1 f fd ["pairs", "end"] spCut3 := by
  refine F.ok scLCut (fun vs H Q E h => ?_) (fun cdv A outer s H vs Q E hr h => ?_)
  · obtain ⟨l, v, ps, e, rfl, _⟩ := h
    rfl
  · obtain ⟨l, v, ps, e, rfl, ⟨us, el, hu⟩, few, hv, q⟩ := h
    have hu64 : (A.deeper (envOfC "_law_cut" (defScope sLCut) s.heap.objs.size f cdv)).units + 64 < cLine := hr.units
    refine ⟨_, pss_one (ps_ret (pe_lc (own := [("pair", 2)]) (g := gName 2) (tt := tTest (tOp (rInT2 K true) (tVar 1) (tVar 2))) rfl scLCut.nd (pi_list (pv 0)) (blkOk_by (own := [("pair", 2)]) (N := ["pairs", "end", "pair"]) (sc := defScope sLCut) (by decide +kernel)) (fun _ _ _ _ _ => pg_name (i := 2) scLCut.nd rfl (Or.inl rfl))
      (fun _ _ _ _ _ => pts_one (pt_cmpR (op_notInT2 hu64) (pv 1) (pv 2) (by rfl))) (fun _ _ _ _ _ => pv 2))), ?_⟩
    refine ⟨_, rfl, l, rfl, ⟨_, .inl (.inl el)⟩, fun D hD => ?_⟩
    refine lc_pairs (K := K) (f := fun p => !(decide (e = p.1) || decide (e = p.2))) (.inl (.inl (.inl el))) (sq_list (K := K) (a := l) (xs := us)) (fun H' s => s.keeps.l _ _ (.inl (.inl el))) hu (by rw [hu.length]; exact few) hD (fun _ => rfl) (fun _ => rfl) (fun x c H' R s hc _ k => ?_) (fun us2 H' e2 h2 s2 => q D H' hD s2 ⟨us2, e2, h2⟩)
    exact ⟨_, rfl, _, rfl, in_coup (hv.keep s.tupK) hc ⟨_, rfl, k H' (.refl H')⟩⟩
end
end My
set_option Elab.async false
set_option linter.all false
set_option maxRecDepth 100000
set_option maxHeartbeats 4000000
/-! _law_coupled, _law_moved, _law_relatives of the laws k69 to k92 -/
namespace My
open PySem PySem.Spec PyProof.Rows L2
open PySem.W (Datum DatumOrd EachIs)
theorem seq_split3 {t u : TS} {D : Ends} {σ : L2.St} {H : Hp} (P : L2.St → Hp → Prop) (h : ∀ nx : L2.St → Hp → Prop, (∀ σ H, P σ H → nx σ H) → t { D with nx := nx } σ H) (k : ∀ σ H, P σ H → u D σ H) : tSeq t u D σ H := h _ k
theorem strs_dpA {K : PySem.W.Frag} {H : Hp} : ∀ ws : List Str, DpAll K H (ws.map V.str) (ws.map PyData.str)
  | [] => .nil
  | n :: r => .cons (.str _) (strs_dpA r)
theorem plain_strs (ws : List Str) : (PyData.list (ws.map .str)).plain = true := by
  have h : ∀ ws : List Str, PyData.plainAll (ws.map .str) = true := fun ws => by
    induction ws with
    | nil => simp only [List.map_nil, PyData.plainAll]
    | cons n r ih => rw [List.map_cons, PyData.plainAll, ih]; simp only [PyData.plain, Bool.and_true]
  simp only [PyData.plain, h]
theorem eqv_empty (ws : List Str) : PyData.eqv (.list (ws.map .str)) (.list []) = ws.isEmpty := by
  cases ws with
  | nil => simp [PyData.eqv, PyData.eqvAll]
  | cons n r => simp [PyData.eqv, PyData.eqvAll]
section
variable {P : Program} {w : World} {K : PySem.W.Frag} {mg : Str → Option Value} {base : Heap}
def spCpl3 : Sp := fun vs H Q _ => ∃ (l : Addr) (u v : V) (ws : List Str) (ps : List CoupT) (a b : EndT), vs = [.ref l, u, v] ∧ PsL H l ps ∧ Nrm ws ps ∧ ps.length ≤ 100 ∧ EndV H u a ∧ EndV H v b ∧ a ∈ endsO ws ∧ b ∈ endsO ws ∧ a ≠ b ∧ lookE (partE ps) a ≠ some b ∧
  ∀ t H', H t = none → Same H H' → PsL H' t (cplL ps a b) → Q (.ref t) H'
theorem ok_cpl3 {f fP fR : Addr} {fd dP dR : FuncData} (F : Fun K "_law_coupled" "_law_coupled" sLCoupled f fd) (ms : mg "sorted" = none) (CP : Has P w K mg base 1 "_law_partner" ["pairs", "end"] spPart3 fP dP) (CR : Has P w K mg base 1 "_law_pair" ["one", "other"] spPair3 fR dR) :
    FnOk P w K mg base CX0 2 f fd ["pairs", "one", "other"] spCpl3 := by
  refine F.ok scLCoupled (fun vs H Q E h => ?_) (fun cdv A outer s H vs Q E hr h => ?_)
  · obtain ⟨l, u, v, ws, ps, a, b, rfl, _⟩ := h
    rfl
  · obtain ⟨l, u, v, ws, ps, a, b, rfl, hp, n, few, ha, hb, ma, mb, ne, np, q⟩ := h
    have hu64 : (A.deeper (envOfC "_law_coupled" (defScope sLCoupled) s.heap.objs.size f cdv)).units + 64 < cLine := hr.units
    have hu4 : (A.deeper (envOfC "_law_coupled" (defScope sLCoupled) s.heap.objs.size f cdv)).units + 2 + PySem.W.Datum.depth CoupT < cLine := by
      have := hr.units
      have e : PySem.W.Datum.depth CoupT = 2 := rfl
      omega
    refine ⟨_, pss_cons (ps_par (i := 3) (j := 4) (by rfl) scLCoupled.nd rfl rfl (by decide) rfl rfl (pa_cons (pe_has CP hr (by rfl) (pa_cons (pv 0) (pa_cons (pv 1) pa_nil))) (pa_cons (pe_has CP hr (by rfl) (pa_cons (pv 0) (pa_cons (pv 2) pa_nil))) pa_nil)) (by rfl))
      (pss_cons (ps_set (i := 5) scLCoupled.nd rfl (.inl rfl) (pe_op op_cat (pe_lc (own := [("pair", 6)]) (g := gName 6) (tt := tAnd (tTest (tOp (rInT2 K true) (tVar 1) (tVar 6))) (tTest (tOp (rInT2 K true) (tVar 2) (tVar 6)))) rfl scLCoupled.nd (pi_list (pv 0)) (blkOk_by (own := [("pair", 6)]) (N := ["pairs", "one", "other", "left", "right", "found", "pair"]) (sc := defScope sLCoupled) (by decide +kernel)) (fun _ _ _ _ _ => pg_name (i := 6) scLCoupled.nd rfl (Or.inl rfl))
          (fun _ _ _ _ _ => pts_one (PW.pt (pw_and (pt_cmpR (op_notInT2 hu64) (pv 1) (pv 6) (by rfl)) (pw_and1 (pt_cmpR (op_notInT2 hu64) (pv 2) (pv 6) (by rfl)))))) (fun _ _ _ _ _ => pv 6))
          (pe_lst (pa_cons (pe_has CR hr (by rfl) (pa_cons (pv 1) (pa_cons (pv 2) pa_nil))) pa_nil))))
      (pss_cons (ps_if (PW.pt (pw_and (pt_cmpR op_notN (pv 3) pe_non (nomark _)) (pw_and1 (pt_cmpR op_notN (pv 4) pe_non (nomark _)))))
          (pss_one (ps_expr (pe_bm PySem.F.plainAttrs_list PySem.F.slot_list_append PySem.F.type_list_append mt_append (pv 5) (pa_cons (pe_has CR hr (by rfl) (pa_cons (pv 3) (pa_cons (pv 4) pa_nil))) pa_nil)))) pss_nil)
      (pss_one (ps_ret (pe_callB (call_sortR (α := CoupT) sortable_pair hu4) (by rfl) ms (by decide +kernel) (pa_cons (pv 5) pa_nil)))))), ?_⟩
    obtain ⟨us, el, hus⟩ := id hp
    have lus := hus.length
    refine ⟨_, rfl, _, rfl, l, u, ps, ws, a, rfl, hp, n.ok, ha, fun r1 H1 s1 o1 => ?_⟩
    refine ⟨_, rfl, _, rfl, l, v, ps, ws, b, rfl, hp.keep s1, n.ok, hb.keep s1.tupK, fun r2 H2 s2 o2 => ⟨_, _, rfl, ?_⟩⟩
    have S2 := s1.trans s2
    have o12 := o1.keep s2.tupK
    have el2 := S2 _ _ el
    have hus2 := coups_keep S2.tupK hus
    have ha2 := ha.keep S2.tupK
    have hb2 := hb.keep S2.tupK
    clear s1 s2 o1 hus ha hb
    -- found
    refine ⟨_, rfl, l, rfl, ⟨_, .inl (.inl el2)⟩, fun D hD => ?_⟩
    refine lc_pairs (K := K) (f := fun p => !(decide (a = p.1) || decide (a = p.2)) && !(decide (b = p.1) || decide (b = p.2))) (.inl (.inl (.inl el2))) (sq_list (K := K) (a := l) (xs := us)) (fun H' s => s.keeps.l _ _ (.inl (.inl el2))) hus2 (by omega) hD (fun _ => rfl) (fun _ => rfl) (fun x c H' R s hc _ k => ?_) (fun u3 H3 e3 h3 s3 => ?_)
    · refine ⟨_, rfl, _, rfl, in_coup (ha2.keep s.tupK) hc ⟨_, rfl, ?_⟩⟩
      show if (!(decide (a = c.1) || decide (a = c.2))) = true then _ else _
      have kk := k H' (.refl H')
      cases h1 : (!(decide (a = c.1) || decide (a = c.2))) with
      | false =>
        rw [h1, Bool.false_and] at kk
        exact iteF kk
      | true =>
        rw [h1, Bool.true_and] at kk
        exact iteT ⟨_, rfl, _, rfl, in_coup (hb2.keep s.tupK) hc ⟨_, rfl, kk⟩⟩
    have S3 := S2.trans s3
    have l3 : u3.length ≤ 100 := by
      rw [h3.length]
      exact Nat.le_trans (List.length_filter_le _ _) few
    have hk : EachIs (CoupV H3) u3 (keepL ps a b) := h3
    refine ⟨_, rfl, _, rfl, u, v, a, b, rfl, ha2.keep s3.tupK, hb2.keep s3.tupK, ne, fun t H4 s4 hc4 => ⟨by show 1 ≤ sizeLine; decide, fun b1 hb1 => ?_⟩⟩
    have s5 := same_new (o := HO.lst [V.ref t]) hb1
    refine ⟨D, b1, u3, [.ref t], rfl, rfl, s5 _ _ (s4 _ _ e3), upd_same, by rw [sizeLine_eq]; show u3.length + 1 ≤ _; omega, fun g hg => ?_⟩
    have s6 := same_new (o := HO.lst (u3 ++ [V.ref t])) hg
    have eg : (upd (upd H4 b1 (.lst [V.ref t])) g (.lst (u3 ++ [V.ref t]))) g = some (.lst (u3 ++ [V.ref t])) := upd_same
    have S56 := s5.trans s6
    have S6 := S3.trans (s4.trans S56)
    have hg0 : H g = none := same_free (S3.trans (s4.trans s5)) hg
    have h6 := each_app (coups_keep (s4.trans S56).tupK hk) (.cons (hc4.keep S56.tupK) .nil)
    have o16 := o12.keep (s3.trans (s4.trans S56)).tupK
    have o26 := o2.keep (s3.trans (s4.trans S56)).tupK
    generalize upd (upd H4 b1 (.lst [V.ref t])) g (.lst (u3 ++ [V.ref t])) = H6 at eg S6 h6 o16 o26
    have l6 : (u3 ++ [V.ref t]).length ≤ 101 := by rw [List.length_append]; show u3.length + 1 ≤ _; omega
    generalize u3 ++ [V.ref t] = u6 at eg h6 l6
    clear s3 s4 s5 s6 S56 S3 h3 hk hc4 e3 l3 hb1 hg hD o12 o2 hus2 el2 ha2 hb2 S2
    -- the end
    try dsimp only
    refine seq_split3 (t := tIfS _ _ _) (fun σ H' => ∃ (u7 : List V) (y6 : Option V), σ = [some (.ref l), some u, some v, some r1, some r2, some (.ref g), y6] ∧ H' g = some (.lst u7) ∧ EachIs (CoupV H') u7 (keepL ps a b ++ [srtE (a, b)] ++ optC (lookE (partE ps) a) (lookE (partE ps) b)) ∧ u7.length ≤ 102 ∧ Same H H') (fun nx kk => ?_) (fun σ H' hh => ?_)
    · have no : optC (lookE (partE ps) a) (lookE (partE ps) b) = [] → nx [some (.ref l), some u, some v, some r1, some r2, some (.ref g), none] H6 := fun e => kk _ _ ⟨u6, none, rfl, eg, by rw [e, List.append_nil]; exact h6, by omega, S6⟩
      rcases o16 with ⟨z1, rfl⟩ | ⟨q1, z1, v1⟩
      · refine ⟨_, rfl, rfl, _, rfl, ?_⟩
        exact iteF (iteF (no (by rw [z1]; rfl)))
      · have n1 : r1 ≠ .non := by obtain ⟨b, rfl, _⟩ := v1; exact fun z => nomatch z
        refine ⟨_, rfl, rfl, _, rfl, ?_⟩
        rw [decide_eq_false n1]
        rcases o26 with ⟨z2, rfl⟩ | ⟨q2, z2, v2⟩
        · refine iteT ⟨_, rfl, rfl, _, rfl, ?_⟩
          exact iteF (no (by rw [z1, z2]; rfl))
        · have n2 : r2 ≠ .non := by obtain ⟨b, rfl, _⟩ := v2; exact fun z => nomatch z
          refine iteT ⟨_, rfl, rfl, _, rfl, ?_⟩
          rw [decide_eq_false n2]
          have ne12 : q1 ≠ q2 := fun z => by
            have y1 := (look_iff n.ok).mpr ((look_iff n.ok).mp z1).symm
            have y2 := (look_iff n.ok).mpr ((look_iff n.ok).mp z2).symm
            rw [z, y2] at y1
            exact ne (Option.some.inj y1).symm
          refine iteT ⟨_, rfl, .inl ⟨rfl, _, .inl (.inl eg)⟩, _, rfl, _, rfl, r1, r2, q1, q2, rfl, v1, v2, ne12, fun t7 H7 s7 hc7 => ?_⟩
          have eg7 := s7 _ _ eg
          refine ⟨g, u6, .ref t7, rfl, rfl, eg7, Evl.sz_lt (by omega), ?_⟩
          have tk : TupK H7 (upd H7 g (.lst (u6 ++ [.ref t7]))) := .at fun xs z => by rw [eg7] at z; cases z
          refine kk _ _ ⟨u6 ++ [.ref t7], none, rfl, upd_same, ?_, by rw [List.length_append]; show u6.length + 1 ≤ _; omega, fun x o z => ?_⟩
          · rw [z1, z2]
            exact each_app (coups_keep (s7.tupK.trans tk) h6) (.cons (hc7.keep tk) .nil)
          · rw [upd_ne (ne_of_none z hg0)]
            exact s7 _ _ (S6 _ _ z)
    · obtain ⟨u7, y6, rfl, e7, h7, l7, S7⟩ := hh
      refine ⟨_, rfl, CoupV H', g, u7, _, rfl, .inl (.inl (.inl e7)), h7, fun v b z => z.dt, by rw [← h7.length]; omega, fun p1 w1 hp1 e1 => ?_⟩
      have s8 := same_new (o := HO.lst w1) hp1
      exact q p1 _ (same_free S7 hp1) (S7.trans s8) ⟨w1, upd_same, coups_keep s8.tupK e1⟩
def spMov3 (K : PySem.W.Frag) : Sp := fun vs H Q _ => ∃ (p c a l : Addr) (n : Nat) (ws : List Str) (ps : List CoupT), vs = [.ref p, .ref a, .ref l] ∧ PenAt H p c n ∧ n ≤ 700000000 ∧ SqL K H a (ws.map V.str) ∧ ws.length ≤ 30 ∧ ws.Nodup ∧ PsL H l ps ∧ Nrm ws ps ∧
  ∀ t ps2 H', (t = l ∨ H t = none) → PsL H' t ps2 → Nrm ws ps2 → SameP p H H' → PenAt H' p c (n + 62) → Q (.ref t) H'
theorem nrm_few {ws : List Str} {ps : List CoupT} (n : Nrm ws ps) : ps.length ≤ ws.length := pairs_few n.ok
theorem ok_mov3 {f fD fP fS f1 f2 f3 f4 : Addr} {fd dD dP dS d1 d2 d3 d4 : FuncData} (F : Fun K "_law_moved" "_law_moved" sLMoved f fd) (T : Draws P w K mg base fD fP fS dD dP dS) (C1 : Has P w K mg base 1 "_law_ends" ["names"] (spLEn K) f1 d1) (C2 : Has P w K mg base 1 "_law_partner" ["pairs", "end"] spPart3 f2 d2)
    (C3 : Has P w K mg base 1 "_law_cut" ["pairs", "end"] spCut3 f3 d3) (C4 : Has P w K mg base 2 "_law_coupled" ["pairs", "one", "other"] spCpl3 f4 d4) : FnOk P w K mg base CX0 3 f fd ["pen", "names", "pairs"] (spMov3 K) := by
  refine F.ok scLMoved (fun vs H Q E h => ?_) (fun cdv A outer s H vs Q E hr h => ?_)
  · obtain ⟨p, c, a, l, n, ws, ps, rfl, _⟩ := h
    rfl
  · obtain ⟨p, c, a, l, n, ws, ps, rfl, G, hn, hs, few, nd, hp, nrm, q⟩ := h
    have hr1 := hr.mono (show 1 ≤ 2 by decide)
    have CD : Has P w K mg base 1 "_law_draw" ["pen", "count"] spDraw fD dD := ⟨T.oD, T.gD, T.kD, T.bD⟩
    have CP : Has P w K mg base 2 "_law_pick" ["pen", "options"] (spPick K) fP dP := ⟨T.oP, T.gP, T.kP, T.bP⟩
    have CS : Has P w K mg base 2 "_law_shuffled" ["pen", "items"] (spShuf K) fS dS := ⟨T.oS, T.gS, T.kS, T.bS⟩
    refine ⟨_, pss_cons (ps_if (pt_cmpR (op_eqP hr.units) (pv 1) (pe_lst pa_nil) (nomark _)) (pss_one (ps_ret (pv 2))) pss_nil)
      (pss_cons (ps_asg (pe_slice sl_list (pe_has CS hr (by rfl) (pa_cons (pv 0) (pa_cons (pe_has C1 hr1 (by rfl) (pa_cons (pv 1) pa_nil)) pa_nil))) po_none (po_some pe_int)) (pg_lst rfl (pgs_cons (pg_name (i := 3) scLMoved.nd rfl (.inl rfl)) (pgs_cons (pg_name (i := 4) scLMoved.nd rfl (.inl rfl)) pgs_nil))))
      (pss_cons (ps_if (PW.pt (pw_and (pt_cmpR (op_neNil hr.units) (pv 2) (pe_lst pa_nil) (nomark _)) (pw_and1 (pt_cmpR op_eq (pe_has CD hr1 (by rfl) (pa_cons (pv 0) (pa_cons pe_int pa_nil))) pe_int (nomark _)))))
        (pss_one (ps_ret (pe_has C3 hr1 (by rfl) (pa_cons (pv 2) (pa_cons (pe_ix ix_tup (pe_has CP hr (by rfl) (pa_cons (pv 0) (pa_cons (pv 2) pa_nil))) pe_int (fun _ _ => rfl)) pa_nil))))) pss_nil)
      (pss_cons (ps_if (pt_cmpR (op_eqP hr.units) (pe_has C2 hr1 (by rfl) (pa_cons (pv 2) (pa_cons (pv 3) pa_nil))) (pv 4) (nomark _)) (pss_one (ps_ret (pv 2))) pss_nil)
      (pss_one (ps_ret (pe_has C4 hr (by rfl) (pa_cons (pv 2) (pa_cons (pv 3) (pa_cons (pv 4) pa_nil))))))))), ?_⟩
    obtain ⟨us, el, hus⟩ := id hp
    have lus := hus.length
    have nfew := nrm_few nrm
    -- names == []
    refine ⟨_, rfl, by show 0 ≤ sizeLine; decide, fun b hb => ?_⟩
    have s1 := same_new (o := HO.lst []) hb
    have hs1 := s1.keeps.l _ _ hs
    refine ⟨.list (ws.map .str), .list [], .lst hs1 (strs_dpA ws), .lst (.inl (.inl upd_same)) .nil, plain_strs ws, by simp only [PyData.plain, PyData.plainAll], Nat.le_trans (Nat.min_le_right _ _) (by simp only [PyData.depth, PyData.depthAll]; decide), _, rfl, ?_⟩
    rw [eqv_empty]
    have el1 := s1 _ _ el
    have hus1 := coups_keep s1.tupK hus
    have G1 := G.same s1
    have S1 : SameP p H _ := .of s1
    generalize upd H b (.lst []) = H1 at s1 hs1 el1 hus1 G1 S1
    clear s1 hb hs el hus G hp
    match ws, nrm, few, nfew, nd, hs1, q with
    | [], nrm, few, nfew, nd, hs1, q => exact iteT ⟨_, rfl, q l ps H1 (.inl rfl) ⟨us, el1, hus1⟩ nrm S1 (G1.mono (by omega))⟩
    | w0 :: wr, nrm, few, nfew, nd, hs1, q =>
    refine iteF ?_
    generalize hws : w0 :: wr = ws at nrm few nfew nd hs1 q
    have lw : 1 ≤ ws.length := by rw [← hws]; show 1 ≤ wr.length + 1; omega
    clear hws
    -- one, other
    refine ⟨_, rfl, _, rfl, a, ws, rfl, hs1, by omega, fun le ue H2 hle ele hue s2 => ?_⟩
    have lue := hue.length
    rw [endsO_cnt] at lue
    refine ⟨p, c, le, n, ue, rfl, G1.same s2, by omega, .lst (.inl (.inl ele)), by omega, fun lsh ys H3 pm hlsh elsh s3 G3 => ?_⟩
    obtain ⟨es, pme, hes⟩ := each_perm pm.symm hue
    have hes3 : EachIs (EndV H3) ys es := ends_keep (s3.tupK (G1.same s2)) hes
    have S3 : SameP p H1 H3 := (SameP.of s2).trans s3
    have lys : ys.length = 2 * ws.length := by rw [pm.length_eq]; exact lue
    have nde : es.Nodup := pme.symm.nodup (endsO_nodup nd)
    have mee : ∀ e ∈ es, e ∈ endsO ws := fun e he => pme.subset he
    refine ⟨_, rfl, lsh, ys, rfl, .inl (.inl elsh), fun g hg => ?_⟩
    rw [show (2 : Int) = ((2 : Nat) : Int) from rfl, cutV_to]
    have s4 := same_new (o := HO.lst (ys.take 2)) hg
    have eg : (upd H3 g (.lst (ys.take 2))) g = some (.lst (ys.take 2)) := upd_same
    have hes4 := ends_keep s4.tupK hes3
    have el4 := s4 _ _ (S3.lst G1 el1)
    have hus4 := coups_keep ((S3.tupK G1).trans s4.tupK) hus1
    have G4 := G3.same s4
    have S4 := (S1.trans S3).trans (.of s4)
    generalize upd H3 g (.lst (ys.take 2)) = H4 at eg hes4 el4 hus4 G4 S4
    clear s2 s3 s4 S3 S1 hes hes3 hue ele elsh hle hlsh hg pm pme G1 G3 el1 hus1 hs1
    match ys, es, hes4, lys with
    | [], _, _, lys => exact absurd lys (by simp only [List.length_nil]; omega)
    | [_], _, _, lys => exact absurd lys (by simp only [List.length_cons, List.length_nil]; omega)
    | y0 :: y1 :: yr, _, .cons (b := e0) h0 (.cons (b := e1) h1 _), lys =>
    refine ⟨g, [y0, y1], rfl, .inl (.inl eg), rfl, _, _, rfl, _, _, rfl, rfl, ?_⟩
    have ne : e0 ≠ e1 := fun z => (List.nodup_cons.mp nde).1 (by rw [z]; exact List.mem_cons_self)
    have m0 := mee e0 List.mem_cons_self
    have m1 := mee e1 (List.mem_cons_of_mem _ List.mem_cons_self)
    have G4 := G4.mono (show n + ue.length ≤ n + 60 by omega)
    clear eg nde mee hes4
    have pl4 : PsL H4 l ps := ⟨us, el4, hus4⟩
    -- the rest, wherever the draw ends
    have rest : ∀ H5, SameP p H4 H5 → PenAt H5 p c (n + 61) → ∀ σ' : L2.St, σ' = [some (.ref p), some (.ref a), some (.ref l), some y0, some y1] → tSeq (tIfS (tTest (tOp (rEqP K) (tCall spPart3 [] E0 (tCons (tVar 2) (tCons (tVar 3) tNil))) (tVar 4))) (tRet (tVar 2)) tNext) (tRet (tCall spCpl3 [] E0 (tCons (tVar 2) (tCons (tVar 3) (tCons (tVar 4) tNil))))) { nx := fun _ H' => Q .non H', rt := Q } σ' H5 := fun H5 s5 G5 σ' eσ => by
      subst eσ
      have pl5 := pl4.keepP s5 G4
      have h05 := h0.keep (s5.tupK G4)
      have h15 := h1.keep (s5.tupK G4)
      refine ⟨_, rfl, _, rfl, l, y0, ps, ws, e0, rfl, pl5, nrm.ok, h05, fun r H6 s6 o6 => ?_⟩
      have h16 := h15.keep s6.tupK
      refine ⟨_, rfl, optD (lookE (partE ps) e0), Datum.toD e1, o6.dp, dt_dp h16.dt, opt_plain _, Datum.plain _, Nat.le_trans (Nat.min_le_right _ _) (Nat.le_trans (Datum.depth_le e1) (by decide)), _, rfl, ?_⟩
      rw [eqv_opt]
      have S6 := (S4.trans s5).trans (.of s6)
      have G6 := G5.same s6
      by_cases e : lookE (partE ps) e0 = some e1
      · rw [decide_eq_true e]
        exact iteT ⟨_, rfl, q l ps H6 (.inl rfl) (pl5.keep s6) nrm S6 (G6.mono (by omega))⟩
      · rw [decide_eq_false e]
        refine iteF ⟨_, rfl, _, rfl, _, rfl, l, y0, y1, ws, ps, e0, e1, rfl, pl5.keep s6, nrm, by omega, h05.keep s6.tupK, h16, m0, m1, ne, e, fun t H7 ht7 s7 p7 => ?_⟩
        exact q t _ H7 (.inr (S6.free G6 ht7)) p7 (nrm_cpl nrm m0 m1 ne e) (S6.trans (.of s7)) ((G6.same s7).mono (by omega))
    refine ⟨_, rfl, by show 0 ≤ sizeLine; decide, fun b5 hb5 => ?_⟩
    have s5 := same_new (o := HO.lst []) hb5
    have el5 := s5 _ _ el4
    have hus5 := coups_keep s5.tupK hus4
    have G5 := G4.same s5
    refine ⟨l, b5, us, rfl, rfl, .inl ⟨.inl (.inl el5), .inl (.inl upd_same)⟩, _, rfl, ?_⟩
    generalize upd H4 b5 (.lst []) = H5 at s5 el5 hus5 G5
    match us, ps, hus5, lus with
    | [], ps, hus5, lus => exact iteF (rest H5 (.of s5) (G5.mono (by omega)) _ rfl)
    | u0 :: ur, ps, hus5, lus =>
    refine iteT ⟨_, rfl, p, c, _, 3, rfl, G5, by omega, by decide, by decide, fun d H6 _ _ s6 G6 => ⟨rfl, _, rfl, ?_⟩⟩
    have el6 := s6.lst G5 el5
    have hus6 := coups_keep (s6.tupK G5) hus5
    cases decide (V.int d = V.int 0) with
    | false => exact iteF (rest H6 ((SameP.of s5).trans s6) G6 _ rfl)
    | true =>
      refine iteT ⟨_, rfl, _, rfl, _, rfl, p, c, _, .ref l, u0 :: ur, rfl, G6, by omega, .lst (.inl (.inl el6)), by simp only [List.length_cons]; omega, by simp only [List.length_cons] at lus ⊢; omega, fun k v H7 hv s7 G7 => ?_⟩
      obtain ⟨cc, _, hc⟩ := each_at hus6 hv
      obtain ⟨t, v1, v2, rfl, ht, hv1, hv2⟩ := hc.keep (s7.tupK G6)
      refine ⟨t, [v1, v2], 0, v1, rfl, rfl, .inl (.inl ht), atI_nat (j := 0) rfl, l, v1, ps, cc.1, rfl, ⟨_, s7.lst G6 el6, coups_keep (s7.tupK G6) hus6⟩, by omega, hv1, fun t8 H8 ht8 s8 p8 => ?_⟩
      exact q t8 _ H8 (.inr (((S4.trans (.of s5)).trans (s6.trans s7)).free G7 ht8)) p8 (nrm_cut nrm cc.1) (((S4.trans (.of s5)).trans (s6.trans s7)).trans (.of s8)) ((G7.same s8).mono (by omega))
end
end My
set_option Elab.async false
set_option linter.all false
set_option maxRecDepth 100000
set_option maxHeartbeats 4000000
/-! check_layout, check_same_wagons -/
namespace My
open PySem PySem.Spec PyProof.Rows L2
open PySem.W (Datum DatumOrd EachIs)
section
variable {X : Cx} {CX : CXT} {k : Nat} {f : Addr} {sp : Sp} {x : Str} {e : Expr} {es : List Expr} {t : TA} {p pos : Pos} {E : L2.St → XK}
theorem run_fnRS {pins : List (Addr × Obj)} {σ : L2.St} {H : Hp} {s : Shared} {Q : VK} {us : List Value} {vs : List V} (F : FnR X.prog X.w X.K X.mg X.base CX k f sp) (hr : Room k X.A) (hx : PassesAt CX X σ (E σ))
    (I : Inv X pins σ H s) (r : Vals vs us) (h : sp vs H Q (E σ)) : wpAny (model X.prog X.w) X.A (call (.ref f) us) (EP X pins σ Q) X.xe s := by
  refine wpAny_call (codeAny_mono (F X.A X.stack s H us vs Q (E σ) hr I.env0 r h) fun r s' hq => ?_)
  cases r with
  | error e => exact hx pins H s e s' I hq
  | ok fl =>
    cases fl with
    | ret u => exact I.after hq
    | next => exact False.elim hq
    | brk => exact False.elim hq
    | cont => exact False.elim hq
/-- x(e, ..), x a def with a positional promise; it may raise -/
theorem pe_callRS (F : FnR X.prog X.w X.K X.mg X.base CX k f sp) (hr : Room k X.A) (hg : Gl X x) (hm : X.mg x = some (.ref f)) (hk : PySem.W.keepIn X.K (.ref f) = true) (hx : ∀ σ, PassesAt CX X σ (E σ))
    (ha : PA X (e :: es) t) (hdb : (x == ("__debug__" : Str)) = false := by decide) (he : starEach (e :: es) X.env = (false, eval e X.env) :: starEach es X.env := by rfl) (hpl : (backTo pos (starEach es X.env)).any (·.1) = false := by rfl) :
    PE X (.Call (.Name x p) (e :: es) [] pos) (tCallS sp E t) := by
  refine ⟨fun pins s σ H Q I h => ?_⟩
  refine wpAny_Call_Name_kw (ld_glob I hg hm ?_ hdb)
  refine PySem.W.callWith_K (h₀ := X.base) I.ok.mod.kin hk (thn (ha.run pos pins s σ H _ I h) fun us s1 ⟨vs, H1, I1, r, q⟩ => ⟨I1.kIn, ?_⟩) he hpl
  exact run_fnRS F hr (hx σ) I1 r q
end
/-- what is asked of the class Layout for isinstance -/
structure LayI (K : PySem.W.Frag) (C : Addr) : Prop where
  a : PySem.W.findIn K (.ref C) "__class__" = some (some (.builtin "object.__class__"))
  n : PySem.W.specialIn K (.builtin "object.__class__") "__get__" = some (some (.builtin "getset_descriptor.__get__"))
  t : PySem.W.takesIn K (.builtin "object.__class__") = some true
  m : PySem.W.mroIn K C (.type "object") = some true
  l : PySem.W.kitOne K (.ref C) (.ref C) = some true
  d0 : PySem.W.kitOne K (.type "NoneType") (.ref C) = some false
  d1 : PySem.W.kitOne K (.type "bool") (.ref C) = some false
  d2 : PySem.W.kitOne K (.type "int") (.ref C) = some false
  d3 : PySem.W.kitOne K (.type "str") (.ref C) = some false
  d4 : PySem.W.kitOne K (.type "list") (.ref C) = some false
  d5 : PySem.W.kitOne K (.type "tuple") (.ref C) = some false
  d6 : PySem.W.kitOne K (.type "dict") (.ref C) = some false
section
variable {P : Program} {w : World} {K : PySem.W.Frag} {mg : Str → Option Value} {base : Heap}
theorem LayAt.ty {C x : Addr} {H : Hp} {ws : List Str} {ps : List CoupT} (RC : LayCls K C) (RI : LayI K C) (h : LayAt K C H x ws ps) : TyX K H (.ref x) (.ref C) := by
  obtain ⟨dx, tw, tc, tf, D, uc, uf, h1, _⟩ := h
  exact .base (.ins h1 RC.c RI.a RI.n RI.t RI.m)
theorem LayI.no {C : Addr} (RI : LayI K C) : ∀ d : PyData, PySem.W.kitOne K (.type (kindD d)) (.ref C) = some false
  | .none => RI.d0
  | .bool _ => RI.d1
  | .int _ => RI.d2
  | .str _ => RI.d3
  | .list _ => RI.d4
  | .tuple _ => RI.d5
  | .dict _ => RI.d6
def spChkL (K : PySem.W.Frag) (C CL : Addr) : Sp := fun vs H Q E => ∃ v : V, vs = [v] ∧ ((∃ x ws ps, v = .ref x ∧ LayAt K C H x ws ps ∧ Q .non H) ∨
  (∃ p d, Da K p H v d ∧ ∀ dd H', Same H H' → H dd = none → H' dd = some (.xd [("value", v)]) → E (.ref CL) (some dd) H'))
theorem ok_chkL {f C CL fL : Addr} {fd dL : FuncData} (F : Fun K "check_layout" "check_layout" sCheckLayout f fd) (mi : mg "isinstance" = none) (gC : mg "Layout" = some (.ref C)) (RC : LayCls K C) (RI : LayI K C)
    (EL : ErrC P w K mg base "InvalidLayout" "value" ["self", "value"] CL fL dL) : FnOk P w K mg base (L2.CX P w) 3 f fd ["value"] (spChkL K C CL) := by
  refine F.okX scCheckLayout (fun vs H Q E h => ?_) (fun cdv A outer s H vs Q E hr h => ?_)
  · obtain ⟨v, rfl, _⟩ := h
    rfl
  · obtain ⟨v, rfl, h⟩ := h
    refine ⟨_, pss_one (ps_if (pt_not (pt_val (pe_callB call_isi (by rfl) mi boot_isinstance (pa_cons (pv 0) (pa_cons (pe_glob (v := .ref C) (by rfl) gC rfl) pa_nil)))))
      (pss_one (ps_raise rfl (takes_of rfl rfl rfl rfl) (pmk_oex EL.T EL.i EL.t EL.o hr EL.b .nil pass0 (by rfl) EL.g (pa_cons (pv 0) pa_nil)))) pss_nil), ?_⟩
    rcases h with ⟨x, ws, ps, rfl, lay, q⟩ | ⟨p, d, D, q⟩
    · refine ⟨_, rfl, .ref x, .ref C, _, _, true, rfl, .own C, lay.ty RC RI, RI.l, _, rfl, ?_⟩
      exact iteF q
    · refine ⟨_, rfl, v, .ref C, _, _, false, rfl, .own C, da_ty D, RI.no d, _, rfl, ?_⟩
      refine iteT ⟨_, rfl, by show 1 ≤ 1000; decide, fun a ha => ⟨a, v, rfl, upd_same, EL.T, EL.n, fun dx h1 h2 => ⟨rfl, dx, _, upd_same, (upd_ne h2).trans upd_same, (upd_ne h2).symm.trans h1, ?_⟩⟩⟩
      obtain ⟨S, hn⟩ := err_left (C := CL) (fld := "value") (v := v) (.refl H) ha h2 h1
      exact q dx _ S hn upd_same
abbrev LyT := Addr × List Str × List CoupT
/-- layouts, and then perhaps something else -/
def spSame (K : PySem.W.Frag) (C CL CW : Addr) : Sp := fun vs H Q E => ∃ (ls : List LyT) (rest : List V) (hd : List Str), vs = ls.map (fun l => V.ref l.1) ++ rest ∧ vs.length ≤ 1000 ∧ (∀ l ∈ ls, LayAt K C H l.1 l.2.1 l.2.2) ∧ (∀ l, ls.head? = some l → sortO l.2.1 = hd) ∧
  ((∃ v r p d, rest = v :: r ∧ Da K p H v d ∧ ∀ dd H', Same H H' → H dd = none → H' dd = some (.xd [("value", v)]) → E (.ref CL) (some dd) H') ∨
   (rest = [] ∧ ((∀ l ∈ ls, sortO l.2.1 = hd) → ∀ H', Same H H' → Q .non H') ∧ ((∃ l ∈ ls, sortO l.2.1 ≠ hd) → ∀ H', Same H H' → E (.ref CW) none H')))
theorem plain_tstrs (ws : List Str) : (PyData.tuple (ws.map .str)).plain = true := by
  have h : ∀ ws : List Str, PyData.plainAll (ws.map .str) = true := fun ws => by
    induction ws with
    | nil => simp only [List.map_nil, PyData.plainAll]
    | cons n r ih => rw [List.map_cons, PyData.plainAll, ih]; simp only [PyData.plain, Bool.and_true]
  simp only [PyData.plain, h]
theorem eqvAll_strs : ∀ p q : List Str, PyData.eqvAll (p.map .str) (q.map .str) = decide (p = q)
  | [], [] => rfl
  | [], b :: q => rfl
  | a :: p, [] => rfl
  | a :: p, b :: q => by
    have ih := eqvAll_strs p q
    rw [List.map_cons, List.map_cons]
    have e : PyData.eqvAll (.str a :: p.map .str) (.str b :: q.map .str) = (decide (a = b) && PyData.eqvAll (p.map .str) (q.map .str)) := by
      simp only [PyData.eqvAll, PyData.eqv]
      rfl
    rw [e, ih]
    by_cases h : a = b
    · rw [decide_eq_true h, h]
      by_cases z : p = q
      · rw [decide_eq_true z, z, decide_eq_true rfl]
        rfl
      · rw [decide_eq_false z, decide_eq_false fun y => z (List.cons.inj y).2]
        rfl
    · rw [decide_eq_false h, decide_eq_false fun y => h (List.cons.inj y).1]
      rfl
theorem eqv_tstrs (p q : List Str) : PyData.eqv (.tuple (p.map .str)) (.tuple (q.map .str)) = decide (p = q) := by
  simp only [PyData.eqv]
  exact eqvAll_strs p q
theorem depth_tstrs (p : List Str) : (PyData.tuple (p.map .str)).depth ≤ 60 := by
  have h : ∀ p : List Str, PyData.depthAll (p.map .str) = 0 := fun p => by
    induction p with
    | nil => simp only [List.map_nil, PyData.depthAll]
    | cons n r ih => rw [List.map_cons, PyData.depthAll, ih]; simp only [PyData.depth, Nat.max_self]
  simp only [PyData.depth, h]
  decide
def spSameT (K : PySem.W.Frag) (C CL CW : Addr) : Sp := fun vs H Q E => ∃ (p : Addr) (xs : List V) (H0 : Hp), vs = [.ref p] ∧ H p = some (.tup xs) ∧ Same H0 H ∧ spSame K C CL CW xs H0 Q E
theorem ok_same {f f1 g1 p1 C CL CW : Addr} {fd e1 e2 : FuncData} {bmB : List Value} {BB newId initId : String} (F : Fun K "check_same_wagons" "check_same_wagons" sCheckSameWagons f fd) (ma : mg "any" = none) (RC : LayCls K C)
    (oC : FnOk P w K mg base (L2.CX P w) 3 f1 e1 ["value"] (spChkL K C CL)) (gC : mg "check_layout" = some (.ref f1)) (kC : PySem.W.keepIn K (.ref f1) = true) (bC : Binds K e1 ["value"] [])
    (pW : PropOf K C "wagons" p1 g1) (oW : FnOk P w K mg base CX0 1 g1 e2 ["self"] (spLyW K C)) (bW : L2.Binds K e2 ["self"] [])
    (XF : ExcBaseFacts BB newId initId bmB) (xq : PySem.W.excIn K CW bmB newId = true) (gW : mg "OtherWagons" = some (.ref CW)) (kW : PySem.W.keepIn K (.ref CW) = true) (sW : PySem.W.subIn K (.ref CW) (.type "BaseException") = some true) (tW : PySem.W.typeIn K (.ref CW) = some (.type "type")) :
    FnR P w K mg base (L2.CX P w) 4 f (spSame K C CL CW) := by
  obtain ⟨oc, od, kV, doc, pm, an, cdv, ct, osl, rfl, lk, hc⟩ := F.ex
  refine FnR.imp (StX.fn_star (sp := spSameT K C CL CW) (k := 3) (ps := []) (pv := "layouts") lk hc scCheckSameWagons StX.cxUp (fun us rest hu => ?_) (fun A outer s H vs Q E hr h => ?_)) (fun vs H Q E h => ?_)
  · obtain rfl : us = [] := List.eq_nil_of_length_eq_zero hu
    cases rest <;> rfl
  · obtain ⟨pp, xs, H0, rfl, hp, s0, ls, rest, hd, rfl, few, hl, hh, h⟩ := h
    have hr1 := hr.mono (show 2 ≤ 3 by decide)
    refine ⟨_, pss_cons (ps_for (passes_of rfl) rfl (pi_tup (pv 0)) (pg_name (i := 1) scCheckSameWagons.nd rfl (.inl rfl))
        (pss_one (ps_expr (pe_callS oC hr (by rfl) gC kC bC (fun σ => passAt (takes_of rfl rfl rfl rfl) σ) (pa_cons (pv 1) pa_nil)))))
      (pss_one (ps_if (pt_val (pe_callB (cr_any rfl) (by rfl) ma (by decide +kernel) (pa_cons (pe_lc (own := [("layout", 1)]) (g := gName 1) (tt := tYes) (te := tOp (rNeP K) (tProp C (spLyW K C) [] E0 (tVar 1)) (tProp C (spLyW K C) [] E0 (tOp (rIxT K) (tVar 0) (tC (.int 0))))) rfl scCheckSameWagons.nd (pi_tup (pv 0))
          (blkOk_by (own := [("layout", 1)]) (N := ["layouts", "layout"]) (sc := defScope sCheckSameWagons) (by decide +kernel)) (fun _ _ _ _ _ => pg_name (i := 1) scCheckSameWagons.nd rfl (Or.inl rfl)) (fun _ _ _ _ _ => pts_nil)
          (fun _ _ _ _ _ => pe_cmpR (op_neP hr.units) (pe_prop (pv 1) RC.c pW oW hr1 bW .nil pass0 rfl) (pe_prop (pe_ix ix_tup (pv 0) pe_int (fun _ _ => rfl)) RC.c pW oW hr1 bW .nil pass0 rfl) (nomark _))) pa_nil)))
        (pss_one (ps_raise rfl (takes_of rfl rfl rfl rfl) (pmk_own0 XF xq gW kW (raises_own sW tW) (by exact rfl)))) pss_nil)), ?_⟩
    have hls : ∀ (j : Nat) (l : LyT) (H' : Hp), Same H H' → ls[j]? = some l → LayAt K C H' l.1 l.2.1 l.2.2 := fun j l H' sm e => (hl l (List.mem_of_getElem? e)).keep (K := K) (s0.trans sm).keepsT (s0.trans sm).tupK (fun _ _ e => (s0.trans sm) _ _ e) (fun _ _ e => (s0.trans sm) _ _ e)
    have hT : ∀ H', Same H H' → SqT K H' pp (ls.map (fun l => V.ref l.1) ++ rest) := fun H' sm => sm.keeps.t _ _ (.inl (.inl hp))
    refine ⟨_, rfl, pp, rfl, ⟨_, hT H (.refl H)⟩, ?_⟩
    refine for_sq (sq_tup (K := K) (a := pp) (xs := ls.map (fun l => V.ref l.1) ++ rest)) (fun i σ H' => (i ≤ ls.length ∧ H' = H) ∧ ∃ y : Option V, σ = [some (.ref pp), y]) ⟨⟨Nat.zero_le _, rfl⟩, _, rfl⟩ (fun i σ H' ⟨⟨_, e⟩, _⟩ => by rw [e]; exact hT H (.refl H)) (fun i x σ H' hx hpv => ?_) (fun σ H' hpv => ?_)
    · obtain ⟨⟨hi, rfl⟩, y, rfl⟩ := hpv
      refine ⟨_, rfl, x, rfl, ?_⟩
      by_cases lt : i < ls.length
      · rw [List.getElem?_append_left (by rw [List.length_map]; exact lt), List.getElem?_map, List.getElem?_eq_getElem lt] at hx
        cases hx
        exact .inl ⟨_, _, _, rfl, hls i _ _ (.refl _) (List.getElem?_eq_getElem lt), ⟨lt, rfl⟩, _, rfl⟩
      · have ei : i = ls.length := by omega
        subst ei
        rw [List.getElem?_append_right (by rw [List.length_map]; exact Nat.le_refl _), List.length_map, Nat.sub_self] at hx
        rcases h with ⟨v, r, p2, d, rfl, D, q⟩ | ⟨rfl, _⟩
        · cases hx
          exact .inr ⟨p2, d, da_keep s0.keepA D, fun dd H' sm hn e => q dd H' (s0.trans sm) (Option.eq_none_iff_forall_ne_some.mpr fun o z => by rw [s0 _ _ z] at hn; cases hn) e⟩
        · cases hx
    · obtain ⟨⟨hi, rfl⟩, y, rfl⟩ := hpv
      rcases h with ⟨v, r, p2, d, rfl, _⟩ | ⟨rfl, q1, q2⟩
      · rw [List.length_append, List.length_map] at hi
        simp only [List.length_cons] at hi
        omega
      rw [List.append_nil] at hT few
      rw [List.length_map] at few
      refine ⟨_, rfl, pp, rfl, ⟨_, hT _ (.refl _)⟩, fun D hD => ?_⟩
      refine lcN_sq (sq_tup (K := K) (a := pp) (xs := ls.map (fun l => V.ref l.1))) (fun j H2 => H2 D = some (.lst (((ls.take j).map fun l => !decide (sortO l.2.1 = hd)).map V.bl)) ∧ Same H' H2) ⟨upd_same, same_new hD⟩ (fun j H2 hp => hT H2 hp.2) (fun j u H2 hu hp => ⟨rfl, ?_⟩) (fun H2 hp => ?_)
      · obtain ⟨eD, sm⟩ := hp
        have lj : j < ls.length := by have := (List.getElem?_eq_some_iff.mp hu).1; rw [List.length_map] at this; exact this
        have ej : ls[j]? = some ls[j] := List.getElem?_eq_getElem lj
        rw [List.getElem?_map, ej] at hu
        generalize ls[j] = l at ej hu
        cases hu
        obtain ⟨l0, e0⟩ : ∃ l0, ls[0]? = some l0 := ⟨ls[0], List.getElem?_eq_getElem (by omega)⟩
        have hd0 : sortO l0.2.1 = hd := hh l0 (by rw [List.head?_eq_getElem?]; exact e0)
        have La := hls j l H2 sm ej
        have Lb := hls 0 l0 H2 sm e0
        obtain ⟨dxa, _, _, _, _, _, _, ha, _⟩ := id La
        obtain ⟨dxb, _, _, _, _, _, _, hb, _⟩ := id Lb
        refine ⟨_, rfl, l.1, dxa, _, rfl, ha, l.1, l.2.1, l.2.2, rfl, La, fun ta hta => ?_⟩
        refine ⟨_, rfl, pp, _, 0, .ref l0.1, rfl, rfl, hT H2 sm, atI_nat (j := 0) (by rw [List.getElem?_map, e0]; rfl), l0.1, dxb, _, rfl, hb, l0.1, l0.2.1, l0.2.2, rfl, Lb, fun tb htb => ?_⟩
        refine ⟨.tuple ((sortO l.2.1).map .str), .tuple ((sortO l0.2.1).map .str), .tup hta (strs_dpA _), .tup htb (strs_dpA _), plain_tstrs _, plain_tstrs _, Nat.le_trans (Nat.min_le_left _ _) (depth_tstrs _), ?_⟩
        rw [eqv_tstrs, hd0]
        refine ⟨_, eD, Evl.sz_lt ?_, ?_, fun c o e => by rw [upd_ne (ne_of_none e hD)]; exact sm c o e⟩
        · rw [List.length_map, List.length_map, List.length_take]
          omega
        · rw [upd_same, List.take_add_one, ej, List.map_append, List.map_append]
          rfl
      · obtain ⟨e2, s2⟩ := hp
        rw [List.length_map, List.take_length] at e2
        refine ⟨D, ls.map fun l => !decide (sortO l.2.1 = hd), rfl, .inl (.inl e2), _, rfl, ?_⟩
        cases ha : ((ls.map fun l => !decide (sortO l.2.1 = hd)).any id) with
        | false =>
          refine iteF (q1 (fun l hl => ?_) _ (s0.trans s2))
          rw [List.any_map, List.any_eq_false] at ha
          have := ha l hl
          simp only [Function.comp_apply, id, Bool.not_eq_true, Bool.not_eq_false', decide_eq_true_eq] at this
          exact this
        | true =>
          refine iteT (q2 ?_ _ (s0.trans s2))
          rw [List.any_map, List.any_eq_true] at ha
          obtain ⟨l, hl, z⟩ := ha
          simp only [Function.comp_apply, id, Bool.not_eq_true', decide_eq_false_iff_not] at z
          exact ⟨l, hl, z⟩
  · obtain ⟨ls, rest, hd, rfl, few, h⟩ := h
    refine ⟨[], _, rfl, rfl, by rw [sizeLine_eq]; show (ls.map (fun l => V.ref l.1) ++ rest).length ≤ _; omega, fun p hp => ⟨p, _, H, rfl, upd_same, same_new hp, ls, rest, hd, rfl, few, h⟩⟩
end
end My
set_option Elab.async false
set_option linter.all false
set_option maxRecDepth 100000
set_option maxHeartbeats 4000000
/-! Layout's __contains__ -/
namespace My
open PySem PySem.Spec PyProof.Rows L2
open PySem.W (Datum DatumOrd EachIs)
section
variable {P : Program} {w : World} {K : PySem.W.Frag} {mg : Str → Option Value} {base : Heap}
def spLyCo (K : PySem.W.Frag) (C : Addr) : Sp := fun vs H Q _ => ∃ (x : Addr) (ws : List Str) (ps : List CoupT) (v : V), vs = [.ref x, v] ∧ LayAt K C H x ws ps ∧
  ((∃ (p : Addr) (d : PyData), Da K p H v d ∧ Fit2 d ∧ epD d = false ∧ ∀ H', Same H H' → Q (.bl false) H') ∨
   (∃ c : CoupT, CoupV H v c ∧ nmS c.1.1 = true ∧ (c.1.2 = 0 ∨ c.1.2 = 1) ∧ nmS c.2.1 = true ∧ (c.2.2 = 0 ∨ c.2.2 = 1) ∧ ∀ H', Same H H' → Q (.bl (decide (lookE (partE ps) c.1 = some c.2))) H'))
theorem eqv_non (e : EndT) : PyData.eqv .none (Datum.toD e) = false := by
  show PyData.eqv .none (.tuple [.str e.1, .int e.2]) = false
  simp only [PyData.eqv]
theorem ok_lyCo {f f1 C : Addr} {fd d1 : FuncData} (F : Fun K "__contains__" "Layout.__contains__" sLayoutCon f fd) (RC : LayCls K C) (GE : Has P w K mg base 4 "is_end_pair" ["value"] (spEP K) f1 d1) : FnOk P w K mg base CX0 5 f fd ["self", "coupling"] (spLyCo K C) := by
  refine F.ok scLayoutCon (fun vs H Q E h => ?_) (fun cdv A outer s H vs Q E hr h => ?_)
  · obtain ⟨x, ws, ps, v, rfl, _⟩ := h
    rfl
  · obtain ⟨x, ws, ps, v, rfl, lay, h⟩ := h
    have hu1 := hu_of hr
    refine ⟨_, pss_one (ps_ret (pe_and (pe_has GE hr (by rfl) (pa_cons (pv 1) pa_nil)) (pe_one (pe_cmpR (op_eqP hr.units) (pe_dget1 hu1 (pe_fld (pv 0) rfl) (pe_ix ix_tup (pv 1) pe_int (fun _ _ => rfl)) ⟨rfl, rfl, rfl, rfl⟩) (pe_ix ix_tup (pv 1) pe_int (fun _ _ => rfl)) (nomark _))))), ?_⟩
    rcases h with ⟨p, d, D, hf, hd, q⟩ | ⟨cc, hc, n1, s1, n2, s2, q⟩
    · refine ⟨_, rfl, p, v, d, rfl, D, hf, fun H1 s1 => ⟨_, rfl, ?_⟩⟩
      rw [hd]
      exact iteF (q H1 s1)
    · refine ⟨_, rfl, 0, v, Datum.toD cc, rfl, dt_da hc.dt, fit_coup n1 n2, fun H1 sm => ⟨_, rfl, ?_⟩⟩
      have ee : epD (Datum.toD cc) = true := by
        show (withD [0, 1] (Datum.toD cc.1) && withD [0, 1] (Datum.toD cc.2)) = true
        rw [with_end n1 s1, with_end n2 s2]
        rfl
      rw [ee]
      have lay1 := lay.keep (K := K) sm.keepsT sm.tupK (fun _ _ e => sm _ _ e) (fun _ _ e => sm _ _ e)
      obtain ⟨a, u1, u2, rfl, ha, h1, h2⟩ := hc.keep sm.tupK
      obtain ⟨dx, tw, tc, tf, DD, uc, uf, hx, etw, _, _, _, _, hD⟩ := lay1
      obtain ⟨kvs, hk, hkk⟩ := id hD
      obtain ⟨o, g1, g2⟩ := hD.get h1
      refine iteT ⟨_, rfl, x, C, dx, _, _, rfl, hx, RC.c, RC.n4, rfl, DD, rfl, .inr ⟨kvs, .inl hk⟩, _, rfl, a, _, _, _, rfl, rfl, .inl (.inl ha), atI_nat (j := 0) rfl, o, g1, _, rfl, a, _, _, _, rfl, rfl, .inl (.inl ha), atI_nat (j := 1) rfl, ?_⟩
      have q := q H1 sm
      rcases g2 with ⟨z, rfl⟩ | ⟨qq, u, z, rfl, hq⟩
      · refine ⟨.none, Datum.toD cc.2, .non, dt_dp h2.dt, by simp only [PyData.plain], Datum.plain _, Nat.le_trans (Nat.min_le_left _ _) (by simp only [PyData.depth]; decide), ?_⟩
        rw [eqv_non]
        rw [z] at q
        exact q
      · refine ⟨Datum.toD qq, Datum.toD cc.2, dt_dp hq.dt, dt_dp h2.dt, Datum.plain _, Datum.plain _, Nat.le_trans (Nat.min_le_left _ _) (Nat.le_trans (Datum.depth_le _) (by decide)), ?_⟩
        rw [Datum.eqv]
        rw [z] at q
        have e : decide (some qq = some cc.2) = decide (qq = cc.2) := decide_eq_decide.mpr ⟨fun z => Option.some.inj z, fun z => by rw [z]⟩
        rw [e] at q
        exact q
end
end My
set_option Elab.async false
set_option linter.all false
set_option maxRecDepth 100000
set_option maxHeartbeats 4000000
/-! value in o, o of an own class with __contains__ -/
namespace My
open PySem PySem.Spec PyProof.Rows L2
section
variable {prog : Program} {w : World} {A : Around} {E : Value → Shared → Prop} {s : Shared} {K : PySem.W.Frag} {x C f : Addr} {ox : Obj} {od : Option Obj}
theorem contains_own {y : Value} {Q : Bool → Shared → Prop} (X : K.In s.heap) (I : PySem.W.InstAt s.heap x ox C od) (hs : PySem.W.findIn K (.ref C) "__contains__" = some (some (.ref f))) (hf : PySem.W.isFn K (.ref f) = true)
    (h : wpAny (model prog w) A (call (.ref f) [.ref x, y]) (fun r s' => ∃ b, r = .bool b ∧ Q b s') E s) : wpAny (model prog w) A (contains (.ref x) y) Q E s := by
  have sp : PySem.W.Looks (model prog w) s.heap (specialOf (.ref x) "__contains__") (some (.ref f)) := I.type.andThen (PySem.W.looks_findIn X hs)
  unfold contains
  refine wpAny_holding ?_
  show wpAny _ A (specialOf (.ref x) "__contains__" >>= _) Q E s
  refine wpAny_bind (sp.here ?_)
  rw [if_neg (by simp)]
  show wpAny _ A (callSpecialUnlessNone? (.ref x) "__contains__" [y] _ >>= _) Q E s
  unfold callSpecialUnlessNone?
  refine wpAny_bind (wpAny_bind (sp.here ?_))
  refine wpAny_holding (wpAny_bind ((PySem.W.bind_fn X _ (beq_iff_eq.mp hf)).here ?_))
  show wpAny _ A (if ((Value.ref f) == Value.none) = true then _ else _) _ E s
  rw [if_neg (by simp)]
  refine wpAny_bind (wpAny_mono h (fun r s' z => ?_) fun _ _ z => z)
  obtain ⟨b, rfl, q⟩ := z
  exact wpAny_pure (wpAny_truthy_bool q)
end
section
variable {X : Cx} {k : Nat} {C f : Addr} {fd : FuncData} {ps : List Str} {sp : Sp}
/-- value in o, o an instance of the class at C -/
def rInOwn (C : Addr) (sp : Sp) (neg : Bool) : R2 := fun x y H Q => ∃ a dx fs, y = .ref a ∧ H a = some (.ins C dx fs) ∧ sp [.ref a, x] H (fun r H' => ∃ b, r = .bl b ∧ Q (.bl (if neg then !b else b)) H') E0
theorem inOwn {pins : List (Addr × Obj)} {σ : L2.St} {H : Hp} {s : Shared} {x : V} {v : Value} {a dx : Addr} {fs : List (Str × V)} {Q : Bool → Hp → Prop} (F : FnOk X.prog X.w X.K X.mg X.base CX0 k f fd ps sp) (hr : Room k X.A) (hb : Binds X.K fd ps [])
    (hs : PySem.W.findIn X.K (.ref C) "__contains__" = some (some (.ref f))) (hf : PySem.W.isFn X.K (.ref f) = true) (I : Inv X pins σ H s) (rx : RelV x v) (ha : H a = some (.ins C dx fs)) (h : sp [.ref a, x] H (fun r H' => ∃ b, r = .bl b ∧ Q b H') E0) :
    wpAny (model X.prog X.w) X.A (contains (.ref a) v) (fun b s' => ∃ H', Inv X pins σ H' s' ∧ Q b H') X.xe s := by
  obtain ⟨mA, ob, _⟩ := ins_get I.hok ha
  obtain ⟨od, J, _⟩ := ob.look
  refine contains_own I.kIn J hs hf (wpAny_mono (wpAny_call (run_fnR (F.raw hb .nil) hr pass0 I (us := [.ref a, v]) (vs := [.ref a, x]) (.cons rfl (.cons rx .nil)) h)) (fun r s' z => ?_) fun _ _ z => z)
  obtain ⟨w, H', I', rw', b, rfl, q⟩ := z
  cases rw'
  exact ⟨b, rfl, H', I', q⟩
theorem op_inOwn (F : FnOk X.prog X.w X.K X.mg X.base CX0 k f fd ps sp) (hr : Room k X.A) (hb : Binds X.K fd ps []) (hs : PySem.W.findIn X.K (.ref C) "__contains__" = some (some (.ref f))) (hf : PySem.W.isFn X.K (.ref f) = true) : OpR X (compareOp .In) (rInOwn C sp false) := by
  intro pins s σ H x y v u Q I rx ry ⟨a, dx, fs, ey, ha, h⟩
  subst ey
  cases ry
  show wpAny _ X.A (do return Value.bool (← contains (.ref a) v)) _ _ s
  refine wpAny_bind (wpAny_mono (inOwn F hr hb hs hf I rx ha (Q := fun b H' => Q (.bl b) H') h) (fun b s' z => ?_) fun _ _ z => z)
  obtain ⟨H', I', q⟩ := z
  exact wpAny_pure ⟨.bl b, H', I', rfl, q⟩
theorem op_notInOwn (F : FnOk X.prog X.w X.K X.mg X.base CX0 k f fd ps sp) (hr : Room k X.A) (hb : Binds X.K fd ps []) (hs : PySem.W.findIn X.K (.ref C) "__contains__" = some (some (.ref f))) (hf : PySem.W.isFn X.K (.ref f) = true) : OpR X (compareOp .NotIn) (rInOwn C sp true) := by
  intro pins s σ H x y v u Q I rx ry ⟨a, dx, fs, ey, ha, h⟩
  subst ey
  cases ry
  show wpAny _ X.A (do return Value.bool (!(← contains (.ref a) v))) _ _ s
  refine wpAny_bind (wpAny_mono (inOwn F hr hb hs hf I rx ha (Q := fun b H' => Q (.bl (!b)) H') h) (fun b s' z => ?_) fun _ _ z => z)
  obtain ⟨H', I', q⟩ := z
  exact wpAny_pure ⟨.bl (!b), H', I', rfl, q⟩
end
end My
set_option Elab.async false
set_option linter.all false
set_option maxRecDepth 100000
set_option maxHeartbeats 4000000
/-! len(o), o of an own class with __len__ -/
namespace My
open PySem PySem.Spec PyProof.Rows L2
section
variable {prog : Program} {w : World} {A : Around} {E : Value → Shared → Prop} {s : Shared} {K : PySem.W.Frag} {x C f : Addr} {ox : Obj} {od : Option Obj}
theorem len_inst {Q : Value → Shared → Prop} (X : K.In s.heap) (I : PySem.W.InstAt s.heap x ox C od) (hs : PySem.W.findIn K (.ref C) "__len__" = some (some (.ref f))) (hf : PySem.W.isFn K (.ref f) = true)
    (h : wpAny (model prog w) A.in1 (call (.ref f) [.ref x]) (fun r s' => ∃ n u, r = .int n u ∧ 0 ≤ n ∧ n < 2 ^ 63 ∧ Q (.int n s'.toks) { s' with toks := s'.toks + 1 }) E s) : wpAny (model prog w) A (call (.builtin "len") [.ref x]) Q E s := by
  have sp : PySem.W.Looks (model prog w) s.heap (specialOf (.ref x) "__len__") (some (.ref f)) := I.type.andThen (PySem.W.looks_findIn X hs)
  refine Calls.call_function_entry kind_len plain_len entry_len (args_len1 _) ?_
  unfold Builtin.«len»
  refine wpAny_bind (m := oneArg "len" _) (wpAny_pure ?_)
  refine wpAny_bind (m := callSpecial? (.ref x) (Str.ofString "__len__")) ?_
  unfold callSpecial?
  refine wpAny_bind (sp.here ?_)
  refine wpAny_holding (wpAny_bind ((PySem.W.bind_fn X _ (beq_iff_eq.mp hf)).here ?_))
  refine wpAny_bind (wpAny_mono h (fun r s' hr => ?_) fun _ _ z => z)
  obtain ⟨n, u, rfl, h0, h1, hq⟩ := hr
  refine wpAny_pure (wpAny_bind (wpAny_holding (wpAny_pure ?_)))
  refine wpAny_bind (wpAny_letGo ?_)
  show wpAny _ _ (if n < 0 then _ else _) _ _ _
  rw [if_neg (by omega)]
  show wpAny _ _ (if n ≥ 2 ^ 63 then _ else _) _ _ _
  rw [if_neg (by omega)]
  exact wpAny_bind (wpAny_mkInt (wpAny_pure ⟨_, rfl, hq⟩))
end
section
variable {X : Cx} {k : Nat} {C f : Addr} {fd : FuncData} {ps : List Str} {sp : Sp}
def rLenOwn (C : Addr) (sp : Sp) : List V → Hp → VK → Prop := fun xs H Q => ∃ a dx fs, xs = [V.ref a] ∧ H a = some (.ins C dx fs) ∧ sp [.ref a] H (fun z H' => ∃ n : Nat, z = .int (n : Int) ∧ n < 1000000 ∧ Q (.int (n : Int)) H') E0
theorem call_lenOwn (F : FnOk X.prog X.w X.K X.mg X.base CX0 k f fd ps sp) (hr : Room (k + 1) X.A) (hb : Binds X.K fd ps []) (hs : PySem.W.findIn X.K (.ref C) "__len__" = some (some (.ref f))) (hf : PySem.W.isFn X.K (.ref f) = true) : CallR X (.builtin "len") (rLenOwn C sp) := by
  intro pins s σ H xs us Q I r h
  obtain ⟨a, dx, fs, rfl, ha, q⟩ := h
  obtain ⟨u, rfl, ru⟩ := r.one
  cases (show u = Value.ref a from ru)
  obtain ⟨mA, ob, _⟩ := ins_get I.hok ha
  obtain ⟨od, J, _⟩ := ob.look
  refine len_inst I.kIn J hs hf (wpAny_mono (wpAny_call (SlX.run_at (us := [.ref a]) (ws := [.ref a]) (F.raw hb .nil) hr.in1 I.env0.in1 pass0 I (.cons rfl .nil) q)) (fun w s' z => ?_) fun _ _ x => x)
  obtain ⟨z', H', I', rz, n, ez, hn, qz⟩ := z
  subst ez
  obtain ⟨t, e⟩ := (show ∃ t, w = Value.int (n : Int) t from rz)
  cases e
  exact ⟨n, t, rfl, by omega, by omega, .int n, H', I'.tok _, ⟨_, rfl⟩, qz⟩
end
end My
set_option Elab.async false
set_option linter.all false
set_option maxRecDepth 100000
set_option maxHeartbeats 4000000
/-! own classes and their methods as they are called -/
namespace My
open PySem PySem.Spec PyProof.Rows L2
/-- an own class as it is called -/
structure HasC (P : Program) (w : World) (K : PySem.W.Frag) (mg : Str → Option Value) (base : Heap) (k : Nat) (x : Str) (ps : List Str) (sp : Sp) (C f : Addr) (fd : FuncData) : Prop where
  m : Mk K C f
  o : FnOk P w K mg base CX0 k f fd ps sp
  g : mg x = some (.ref C)
  b : Binds K fd ps []
/-- a method of an own class -/
structure HasM (P : Program) (w : World) (K : PySem.W.Frag) (mg : Str → Option Value) (base : Heap) (k : Nat) (m : Str) (ps : List Str) (sp : Sp) (C f : Addr) (fd : FuncData) : Prop where
  m : Meth K C m f
  o : FnOk P w K mg base CX0 k f fd ps sp
  b : Binds K fd ps []
/-- a special method of an own class -/
structure HasX (P : Program) (w : World) (K : PySem.W.Frag) (mg : Str → Option Value) (base : Heap) (k : Nat) (m : Str) (ps : List Str) (sp : Sp) (C f : Addr) (fd : FuncData) : Prop where
  s : PySem.W.findIn K (.ref C) m = some (some (.ref f))
  n : PySem.W.isFn K (.ref f) = true
  o : FnOk P w K mg base CX0 k f fd ps sp
  b : Binds K fd ps []
theorem same_made {H H1 : Hp} {x dx : Addr} {o o' : HO} (nx : H x = none) (nd : H dx = none) (s : SameP x (upd (upd H dx o) x o') H1) : Same H H1 :=
  fun b u e => s b u (ne_of_none e nx) ((upd_ne (ne_of_none e nx)).trans ((upd_ne (ne_of_none e nd)).trans e))
end My
set_option Elab.async false
set_option linter.all false
set_option maxRecDepth 100000
set_option maxHeartbeats 4000000
/-! names of wagons (what LayLim asks of LPairs, without the first family's _law_pairs) -/
namespace My
open PySem PySem.Spec PyProof.Rows L2
open PySem.W (Datum DatumOrd EachIs)
theorem nmS_wag {x : Str} (h : NameOk x) : nmS x = true := by
  unfold nmS
  rw [decide_eq_true ⟨h.1, h.2.1⟩, Bool.true_and, List.all_eq_true]
  intro c hc
  unfold lowC
  exact decide_eq_true (h.2.2 c hc)
theorem wagsOk {ws : List Str} (h : Names ws) (l : ws.length ≤ 30) : WagsOk ws := ⟨fun x hx => nmS_wag (h.ok x hx), h.nd, l⟩
end My
set_option Elab.async false
set_option linter.all false
set_option maxRecDepth 100000
set_option maxHeartbeats 4000000
/-! how large a value is: its texts, its ints, its weight, its depth -/
namespace My
open PySem PySem.Spec PyProof.Rows L2
mutual
def okB (b : Nat) : PyData → Bool
  | .none => true
  | .bool _ => true
  | .int i => decide (i.natAbs ≤ 10 ^ 20 + b)
  | .str x => decide (x.length ≤ b) && x.cps.toList.all fun c => decide (c < 128)
  | .list ds => okAll b ds
  | .tuple ds => okAll b ds
  | .dict es => okKv b es
def okAll (b : Nat) : List PyData → Bool
  | [] => true
  | d :: r => okB b d && okAll b r
def okKv (b : Nat) : List (PyData × PyData) → Bool
  | [] => true
  | (k, v) :: r => okB b k && okB b v && okKv b r
end
mutual
theorem okB_mono {b c : Nat} (h : b ≤ c) : ∀ d : PyData, okB b d = true → okB c d = true
  | .none, _ => rfl
  | .bool _, _ => rfl
  | .int i, e => by
    have := of_decide_eq_true e
    exact decide_eq_true (by omega)
  | .str x, e => by
    rw [okB, Bool.and_eq_true] at e ⊢
    have := of_decide_eq_true e.1
    exact ⟨decide_eq_true (by omega), e.2⟩
  | .list ds, e => okAll_mono h ds e
  | .tuple ds, e => okAll_mono h ds e
  | .dict es, e => okKv_mono h es e
theorem okAll_mono {b c : Nat} (h : b ≤ c) : ∀ ds : List PyData, okAll b ds = true → okAll c ds = true
  | [], _ => rfl
  | d :: r, e => by
    rw [okAll, Bool.and_eq_true] at e ⊢
    exact ⟨okB_mono h d e.1, okAll_mono h r e.2⟩
theorem okKv_mono {b c : Nat} (h : b ≤ c) : ∀ es : List (PyData × PyData), okKv b es = true → okKv c es = true
  | [], _ => rfl
  | (k, v) :: r, e => by
    rw [okKv, Bool.and_eq_true, Bool.and_eq_true] at e ⊢
    exact ⟨⟨okB_mono h k e.1.1, okB_mono h v e.1.2⟩, okKv_mono h r e.2⟩
end
mutual
theorem okB_short {b : Nat} (h : b ≤ 1000) : ∀ d : PyData, okB b d = true → d.leavesShort 30 = true
  | .none, _ => rfl
  | .bool _, _ => rfl
  | .int i, e => by
    have := of_decide_eq_true e
    have l := int_text_length_le10 (a := i) (k := 22) (by decide) (by omega)
    refine decide_eq_true ?_
    show (Str.ofString (toString i)).length ≤ 30
    rw [PySem.ofString_length]
    omega
  | .str x, e => by
    rw [okB, Bool.and_eq_true, List.all_eq_true] at e
    rw [PyData.leavesShort, List.all_eq_true]
    intro c hc
    have := of_decide_eq_true (e.2 c hc)
    exact decide_eq_true (by omega)
  | .list ds, e => okAll_short h ds e
  | .tuple ds, e => okAll_short h ds e
  | .dict es, e => okKv_short h es e
theorem okAll_short {b : Nat} (h : b ≤ 1000) : ∀ ds : List PyData, okAll b ds = true → PyData.leavesShortAll 30 ds = true
  | [], _ => rfl
  | d :: r, e => by
    rw [okAll, Bool.and_eq_true] at e
    rw [PyData.leavesShortAll, Bool.and_eq_true]
    exact ⟨okB_short h d e.1, okAll_short h r e.2⟩
theorem okKv_short {b : Nat} (h : b ≤ 1000) : ∀ es : List (PyData × PyData), okKv b es = true → PyData.leavesShortKv 30 es = true
  | [], _ => rfl
  | (k, v) :: r, e => by
    rw [okKv, Bool.and_eq_true, Bool.and_eq_true] at e
    rw [PyData.leavesShortKv, Bool.and_eq_true, Bool.and_eq_true]
    exact ⟨⟨okB_short h k e.1.1, okB_short h v e.1.2⟩, okKv_short h r e.2⟩
end
theorem log_small {i : Int} (h : i.natAbs ≤ 10 ^ 20 + 1000) : i.natAbs.log2 < 70 := by
  by_cases z : i.natAbs = 0
  · rw [z]; decide
  · exact (Nat.log2_lt z).mpr (by omega)
mutual
theorem okB_shows {b : Nat} (h : b ≤ 1000) : ∀ d : PyData, okB b d = true → d.showable = true
  | .none, _ => rfl
  | .bool _, _ => rfl
  | .int i, e => by
    have := of_decide_eq_true e
    have := log_small (i := i) (by omega)
    exact decide_eq_true (by omega)
  | .str x, e => rfl
  | .list ds, e => okAll_shows h ds e
  | .tuple ds, e => okAll_shows h ds e
  | .dict es, e => okKv_shows h es e
theorem okAll_shows {b : Nat} (h : b ≤ 1000) : ∀ ds : List PyData, okAll b ds = true → PyData.showableAll ds = true
  | [], _ => rfl
  | d :: r, e => by
    rw [okAll, Bool.and_eq_true] at e
    rw [PyData.showableAll, Bool.and_eq_true]
    exact ⟨okB_shows h d e.1, okAll_shows h r e.2⟩
theorem okKv_shows {b : Nat} (h : b ≤ 1000) : ∀ es : List (PyData × PyData), okKv b es = true → PyData.showableKv es = true
  | [], _ => rfl
  | (k, v) :: r, e => by
    rw [okKv, Bool.and_eq_true, Bool.and_eq_true] at e
    rw [PyData.showableKv, Bool.and_eq_true, Bool.and_eq_true]
    exact ⟨⟨okB_shows h k e.1.1, okB_shows h v e.1.2⟩, okKv_shows h r e.2⟩
end
theorem okAll_iff {b : Nat} : ∀ {ds : List PyData}, okAll b ds = true ↔ ∀ d ∈ ds, okB b d = true
  | [] => ⟨fun _ _ z => (nomatch z), fun _ => rfl⟩
  | d :: r => by
    rw [okAll, Bool.and_eq_true, okAll_iff]
    exact ⟨fun ⟨a, c⟩ x hx => (List.mem_cons.mp hx).elim (fun e => e ▸ a) (c x), fun h => ⟨h d List.mem_cons_self, fun x hx => h x (List.mem_cons_of_mem _ hx)⟩⟩
theorem wAll_append : ∀ xs ys : List PyData, PyData.weightAll (xs ++ ys) = PyData.weightAll xs + PyData.weightAll ys
  | [], ys => by rw [List.nil_append, PyData.weightAll, Nat.zero_add]
  | x :: xs, ys => by rw [List.cons_append, PyData.weightAll, PyData.weightAll, wAll_append xs ys]; omega
theorem wAll_mem : ∀ {xs : List PyData} {d : PyData}, d ∈ xs → d.weight + 1 ≤ PyData.weightAll xs
  | x :: xs, d, h => by
    rw [PyData.weightAll]
    rcases List.mem_cons.mp h with rfl | h
    · omega
    · have := wAll_mem h
      omega
theorem wAll_len : ∀ xs : List PyData, xs.length ≤ PyData.weightAll xs
  | [] => Nat.zero_le _
  | x :: xs => by
    have := wAll_len xs
    rw [PyData.weightAll, List.length_cons]
    omega
theorem wAll_rev : ∀ xs : List PyData, PyData.weightAll xs.reverse = PyData.weightAll xs
  | [] => rfl
  | x :: xs => by
    rw [List.reverse_cons, wAll_append, wAll_rev xs]
    simp only [PyData.weightAll]
    omega
theorem wAll_cut (xs : List PyData) (i : Nat) : PyData.weightAll (xs.take i) + PyData.weightAll (xs.drop i) = PyData.weightAll xs := by rw [← wAll_append, List.take_append_drop]
theorem dAll_le {n : Nat} : ∀ {xs : List PyData}, PyData.depthAll xs ≤ n ↔ ∀ d ∈ xs, d.depth ≤ n
  | [] => ⟨fun _ _ z => (nomatch z), fun _ => Nat.zero_le _⟩
  | x :: xs => by
    rw [PyData.depthAll, Nat.max_le, dAll_le]
    exact ⟨fun ⟨a, c⟩ y hy => (List.mem_cons.mp hy).elim (fun e => e ▸ a) (c y), fun h => ⟨h x List.mem_cons_self, fun y hy => h y (List.mem_cons_of_mem _ hy)⟩⟩
/-- a value of at most these measures -/
structure Lim (b w n : Nat) (d : PyData) : Prop where
  ok : okB b d = true
  wt : d.weight ≤ w
  dp : d.depth ≤ n
theorem Lim.mono {b w n b' w' n' : Nat} {d : PyData} (h : Lim b w n d) (h1 : b ≤ b') (h2 : w ≤ w') (h3 : n ≤ n') : Lim b' w' n' d := ⟨okB_mono h1 d h.ok, Nat.le_trans h.wt h2, Nat.le_trans h.dp h3⟩
theorem Lim.shows {b w n : Nat} {d : PyData} (h : Lim b w n d) (hb : b ≤ 1000) : d.showable = true := okB_shows hb d h.ok
theorem Lim.short {b w n : Nat} {d : PyData} (h : Lim b w n d) (hb : b ≤ 1000) (hw : w ≤ 100000) : d.shown.length ≤ sizeLine := by
  have := PyData.shown_le 30 (by decide) d (okB_short hb d h.ok)
  have := h.wt
  rw [sizeLine_eq]
  omega
theorem Lim.fit {b w n : Nat} {d : PyData} (h : Lim b w n d) (hb : b ≤ 1000) (hw : w ≤ 100000) : Fit d := by
  obtain ⟨h1, h2, _⟩ := h
  cases d with
  | str x =>
    rw [okB, Bool.and_eq_true] at h1
    have := of_decide_eq_true h1.1
    show x.length ≤ 100000
    omega
  | list ds =>
    have := wAll_len ds
    simp only [PyData.weight] at h2
    show ds.length ≤ 100000
    omega
  | tuple ds =>
    have := wAll_len ds
    simp only [PyData.weight] at h2
    show ds.length ≤ 100000
    omega
  | _ => trivial
theorem Lim.item {b w n : Nat} {ds : List PyData} (h : Lim b w n (.tuple ds)) {e : PyData} (he : e ∈ ds) : Lim b w (n - 1) e := by
  obtain ⟨h1, h2, h3⟩ := h
  simp only [PyData.weight] at h2
  simp only [PyData.depth] at h3
  have := wAll_mem he
  exact ⟨okAll_iff.mp h1 e he, by omega, dAll_le.mp (show PyData.depthAll ds ≤ n - 1 by omega) e he⟩
theorem Lim.fit1 {b w n : Nat} {d : PyData} (h : Lim b w n d) (hb : b ≤ 1000) (hw : w ≤ 100000) : Fit1 d := ⟨h.fit hb hw, fun ds e x hx => by
  subst e
  exact (h.item hx).fit hb hw⟩
theorem Lim.fit2 {b w n : Nat} {d : PyData} (h : Lim b w n d) (hb : b ≤ 1000) (hw : w ≤ 100000) : Fit2 d := ⟨h.fit hb hw, fun ds e x hx => by
  subst e
  exact (h.item hx).fit1 hb hw⟩
theorem lim_tup {b w n : Nat} {ds : List PyData} (h1 : ∀ d ∈ ds, okB b d = true) (h2 : PyData.weightAll ds ≤ w) (h3 : ∀ d ∈ ds, d.depth ≤ n) : Lim b w (n + 1) (.tuple ds) :=
  ⟨okAll_iff.mpr h1, by simp only [PyData.weight]; exact h2, by simp only [PyData.depth]; have := dAll_le.mpr h3; omega⟩
theorem lim_lst {b w n : Nat} {ds : List PyData} (h1 : ∀ d ∈ ds, okB b d = true) (h2 : PyData.weightAll ds ≤ w) (h3 : ∀ d ∈ ds, d.depth ≤ n) : Lim b w (n + 1) (.list ds) :=
  ⟨okAll_iff.mpr h1, by simp only [PyData.weight]; exact h2, by simp only [PyData.depth]; have := dAll_le.mpr h3; omega⟩
theorem lim_str {b w n : Nat} {x : Str} (h1 : x.length ≤ b) (h2 : ∀ c ∈ x.cps.toList, c < 128) (h3 : b ≤ w) : Lim b w n (.str x) :=
  ⟨by rw [okB, Bool.and_eq_true, List.all_eq_true]; exact ⟨decide_eq_true h1, fun c hc => decide_eq_true (h2 c hc)⟩, Nat.le_trans (show x.length ≤ b from h1) h3, Nat.zero_le _⟩
theorem lim_int {b w n : Nat} {i : Int} (h1 : i.natAbs ≤ 10 ^ 20 + b) (hb : b ≤ 1000) (h2 : 70 ≤ w) : Lim b w n (.int i) :=
  ⟨decide_eq_true h1, by
    have := log_small (i := i) (by omega)
    simp only [PyData.weight]
    split <;> omega, Nat.zero_le _⟩
end My
set_option Elab.async false
set_option linter.all false
set_option maxRecDepth 100000
set_option maxHeartbeats 4000000
/-! how large what is shown of a layout is; couplings told in other directions -/
namespace My
open PySem PySem.Spec PyProof.Rows L2
open PySem.W (Datum DatumOrd EachIs)
theorem both_all {α : Type} {f : α → Prop} {a b : α} (h1 : f a) (h2 : f b) : ∀ x ∈ [a, b], f x := fun x hx => by
  rcases List.mem_cons.mp hx with rfl | hx
  · exact h1
  · rw [List.mem_singleton.mp hx]
    exact h2
structure EndG (e : EndT) : Prop where
  nm : NameOk e.1
  sd : e.2 = 0 ∨ e.2 = 1
structure CoupG (c : CoupT) : Prop where
  a : EndG c.1
  b : EndG c.2
theorem endG_w {e : EndT} (h : EndG e) : (Datum.toD e).weight ≤ 11 := by
  have e0 : (Datum.toD e).weight = (dwD e).weight := rfl
  have e1 : (PyData.str e.1).weight = e.1.length := rfl
  have e2 : (dwD e).weight = (PyData.str e.1).weight + 1 + ((PyData.int e.2).weight + 1 + 0) := rfl
  have := h.nm.2.1
  have : (PyData.int e.2).weight ≤ 1 := by rcases h.sd with z | z <;> rw [z] <;> decide +kernel
  omega
theorem endG_lim {e : EndT} (h : EndG e) : Lim 25 11 1 (Datum.toD e) := by
  refine lim_tup (n := 0) (both_all (f := fun y => okB 25 y = true) ?_ (decide_eq_true (by rcases h.sd with z | z <;> rw [z] <;> decide))) ?_ (both_all (f := fun y : PyData => y.depth ≤ 0) (Nat.zero_le _) (Nat.zero_le _))
  · exact (lim_str (n := 0) (b := 25) (w := 25) (by have := h.nm.2.1; omega) (fun c hc => by have := h.nm.2.2 c hc; omega) (Nat.le_refl _)).ok
  · have := endG_w h
    exact this
theorem coupG_lim {c : CoupT} (h : CoupG c) : Lim 25 24 2 (Datum.toD c) := by
  have l : Lim 25 24 2 (.tuple [Datum.toD c.1, Datum.toD c.2]) := by
    refine lim_tup (n := 1) (both_all (f := fun y => okB 25 y = true) (endG_lim h.a).ok (endG_lim h.b).ok) ?_ (both_all (f := fun y : PyData => y.depth ≤ 1) (endG_lim h.a).dp (endG_lim h.b).dp)
    have := endG_w h.a
    have := endG_w h.b
    simp only [PyData.weightAll]
    omega
  exact l
theorem all_w {α : Type} {f : α → PyData} {m : Nat} : ∀ cs : List α, (∀ c ∈ cs, (f c).weight ≤ m) → PyData.weightAll (cs.map f) ≤ (m + 1) * cs.length
  | [], _ => Nat.zero_le _
  | c :: cs, h => by
    have ih := all_w cs fun d hd => h d (List.mem_cons_of_mem _ hd)
    have := h c List.mem_cons_self
    rw [List.map_cons, PyData.weightAll, List.length_cons, Nat.mul_add]
    omega
theorem all_lim {α : Type} {f : α → PyData} {m n : Nat} {cs : List α} (h : ∀ c ∈ cs, Lim 25 m n (f c)) (hl : cs.length ≤ 60) {w : Nat} (hw : (m + 1) * 60 ≤ w) : Lim 25 w (n + 1) (.tuple (cs.map f)) ∧ Lim 25 w (n + 1) (.list (cs.map f)) := by
  have h0 := all_w cs fun c hc => (h c hc).wt
  have h1 : (m + 1) * cs.length ≤ (m + 1) * 60 := Nat.mul_le_mul_left _ hl
  have hk : ∀ d ∈ cs.map f, okB 25 d = true := fun d hd => by
    obtain ⟨c, hc, rfl⟩ := List.mem_map.mp hd
    exact (h c hc).ok
  have hd : ∀ d ∈ cs.map f, d.depth ≤ n := fun d hd => by
    obtain ⟨c, hc, rfl⟩ := List.mem_map.mp hd
    exact (h c hc).dp
  exact ⟨lim_tup hk (by omega) hd, lim_lst hk (by omega) hd⟩
theorem name_lim {x : Str} (h : NameOk x) : Lim 25 25 2 (.str x) := lim_str (by have := h.2.1; omega) (fun c hc => by have := h.2.2 c hc; omega) (Nat.le_refl _)
theorem endG_of {ws : List Str} (h : Names ws) {e : EndT} (he : e ∈ endsO ws) : EndG e := ⟨h.ok _ (mem_endsO.mp he).1, (mem_endsO.mp he).2⟩
theorem coupG_of {ws : List Str} {ps : List CoupT} (h : Names ws) (ok : PairsOk ws ps) {c : CoupT} (hc : c ∈ ps) : CoupG c := ⟨endG_of h (ok.sub _ (mem_metE hc).1), endG_of h (ok.sub _ (mem_metE hc).2)⟩
/-! ### directions -/
abbrev Flip (g p : CoupT) : Prop := g = p ∨ g = (p.2, p.1)
theorem flip_met : ∀ {gs ps : List CoupT}, EachIs Flip gs ps → (metE gs).Perm (metE ps)
  | _, _, .nil => .refl _
  | g :: gs, p :: ps, .cons h t => by
    show (g.1 :: g.2 :: metE gs).Perm (p.1 :: p.2 :: metE ps)
    rcases h with h | h
    · rw [h]
      exact ((flip_met t).cons _).cons _
    · rw [h]
      exact (List.Perm.swap _ _ _).trans (((flip_met t).cons _).cons _)
theorem flip_srt : ∀ {gs ps : List CoupT}, EachIs Flip gs ps → gs.map srtE = ps.map srtE
  | _, _, .nil => rfl
  | g :: gs, p :: ps, .cons h t => by
    rw [List.map_cons, List.map_cons, flip_srt t]
    rcases h with h | h
    · rw [h]
    · rw [h]
      congr 1
      exact coupE_comm _ _
theorem pairs_perm {ws : List Str} {gs ps : List CoupT} (m : (metE gs).Perm (metE ps)) (ok : PairsOk ws ps) : PairsOk ws gs := ⟨m.symm.nodup ok.nd, fun e he => ok.sub e (m.subset he)⟩
/-- what is told of couplings in another order, in other directions -/
theorem told_same {ws : List Str} {gs ps : List CoupT} (nd : ws.Nodup) (ok : PairsOk ws ps) (m : (metE gs).Perm (metE ps)) (s : (gs.map srtE).Perm (ps.map srtE)) :
    coupL (sortO ws) gs = coupL (sortO ws) ps ∧ freeL (sortO ws) gs = freeL (sortO ws) ps := by
  refine ⟨?_, ?_⟩
  · rw [← coup_sorted nd (pairs_perm m ok), ← coup_sorted nd ok, sortO_perm anti_coup s]
  · rw [free_eq, free_eq]
    refine List.filter_congr fun e _ => decide_eq_decide.mpr ?_
    rw [m.mem_iff]
theorem coupL_nil (ws : List Str) : coupL ws [] = [] := by
  unfold coupL
  refine List.filterMap_eq_nil_iff.mpr fun e _ => rfl
theorem freeL_nil (ws : List Str) : freeL ws [] = endsO ws := List.filter_eq_self.mpr fun e _ => rfl
theorem pairs_nil (ws : List Str) : PairsOk ws [] := ⟨List.nodup_nil, fun _ h => (List.not_mem_nil h).elim⟩
theorem coupL_mem {ws : List Str} {ps : List CoupT} (nd : ws.Nodup) (ok : PairsOk ws ps) {c : CoupT} (h : c ∈ coupL (sortO ws) ps) : c ∈ ps.map srtE := by
  rw [← coup_sorted nd ok] at h
  exact List.mem_mergeSort.mp h
theorem srtG {c : CoupT} (h : CoupG c) : CoupG (srtE c) := by
  rcases srt_cases c with e | e
  · rw [e]
    exact h
  · rw [e]
    exact ⟨h.b, h.a⟩
/-- what a layout tells -/
def toldD (ws : List Str) (ps : List CoupT) : PyData := .tuple [.tuple ((sortO ws).map .str), .tuple ((coupL (sortO ws) ps).map Datum.toD), .tuple ((freeL (sortO ws) ps).map Datum.toD), .int ps.length]
def bareD (ws : List Str) : PyData := .tuple [.tuple ((sortO ws).map .str), .tuple [], .int 0]
theorem names_sort {ws : List Str} (h : Names ws) : Names (sortO ws) := h.perm (List.mergeSort_perm ws leO)
theorem names_lim {ws : List Str} (h : Names ws) (few : ws.length ≤ 30) : Lim 25 1560 3 (.tuple (ws.map PyData.str)) ∧ Lim 25 1560 3 (.list (ws.map PyData.str)) := all_lim (fun c hc => name_lim (h.ok c hc)) (by omega) (by decide)
theorem told_lim {ws : List Str} {ps : List CoupT} (h : Names ws) (few : ws.length ≤ 30) (ok : PairsOk ws ps) : Lim 25 6000 4 (toldD ws ps) := by
  have lp := pairs_few ok
  have l1 := (names_lim (names_sort h) (by rw [(List.mergeSort_perm ws leO).length_eq]; exact few)).1
  have l2 : Lim 25 1500 3 (.tuple ((coupL (sortO ws) ps).map Datum.toD)) := (all_lim (m := 24) (n := 2) (fun c hc => by
    obtain ⟨p, hp, rfl⟩ := List.mem_map.mp (coupL_mem h.nd ok hc)
    exact coupG_lim (srtG (coupG_of h ok hp))) (by rw [coup_len h.nd ok]; omega) (by decide)).1
  have hf : (freeL (sortO ws) ps).length ≤ 60 := by
    have h1 : (freeL (sortO ws) ps).length ≤ (endsO (sortO ws)).length := List.length_filter_le _ _
    rw [endsO_len, (List.mergeSort_perm ws leO).length_eq] at h1
    omega
  have l3 : Lim 25 720 2 (.tuple ((freeL (sortO ws) ps).map Datum.toD)) := (all_lim (m := 11) (n := 1) (fun c hc => endG_lim (endG_of (names_sort h) (List.mem_filter.mp (show _ ∈ List.filter _ _ from hc)).1)) hf (by decide)).1
  have l4 : Lim 25 70 0 (.int (ps.length : Int)) := lim_int (by omega) (by decide) (by decide)
  have w1 := l1.wt
  have w2 := l2.wt
  have w3 := l3.wt
  have w4 := l4.wt
  unfold toldD
  refine lim_tup (n := 3) (fun d hd => ?_) ?_ (fun d hd => ?_)
  · simp only [List.mem_cons, List.not_mem_nil, or_false] at hd
    rcases hd with rfl | rfl | rfl | rfl
    · exact l1.ok
    · exact l2.ok
    · exact l3.ok
    · exact l4.ok
  · simp only [PyData.weightAll]
    omega
  · simp only [List.mem_cons, List.not_mem_nil, or_false] at hd
    rcases hd with rfl | rfl | rfl | rfl
    · exact l1.dp
    · exact l2.dp
    · exact Nat.le_trans l3.dp (by decide)
    · exact Nat.le_trans l4.dp (by decide)
theorem bare_lim {ws : List Str} (h : Names ws) (few : ws.length ≤ 30) : Lim 25 6000 4 (bareD ws) := by
  have l1 := (names_lim (names_sort h) (by rw [(List.mergeSort_perm ws leO).length_eq]; exact few)).1
  have w1 := l1.wt
  unfold bareD
  refine lim_tup (n := 3) (fun d hd => ?_) ?_ (fun d hd => ?_)
  · simp only [List.mem_cons, List.not_mem_nil, or_false] at hd
    rcases hd with rfl | rfl | rfl
    · exact l1.ok
    · decide
    · decide
  · simp only [PyData.weightAll]
    have e1 : (PyData.tuple []).weight ≤ 10 := by decide
    have e2 : (PyData.int 0).weight ≤ 10 := by decide +kernel
    omega
  · simp only [List.mem_cons, List.not_mem_nil, or_false] at hd
    rcases hd with rfl | rfl | rfl
    · exact l1.dp
    · decide
    · decide
/-- [given, names] -/
def keptL (gs : List CoupT) (ws : List Str) : PyData := .list [.list (gs.map Datum.toD), .list (ws.map .str)]
theorem kept_lim {gs : List CoupT} {ws : List Str} (h : Names ws) (few : ws.length ≤ 30) (hg : ∀ c ∈ gs, CoupG c) (lg : gs.length ≤ 30) : Lim 25 6000 4 (keptL gs ws) := by
  have l1 := (names_lim h few).2
  have l2 : Lim 25 1500 3 (.list (gs.map Datum.toD)) := (all_lim (m := 24) (n := 2) (fun c hc => coupG_lim (hg c hc)) (by omega) (by decide)).2
  have w1 := l1.wt
  have w2 := l2.wt
  unfold keptL
  refine lim_lst (n := 3) (both_all (f := fun y => okB 25 y = true) l2.ok l1.ok) ?_ (both_all (f := fun y : PyData => y.depth ≤ 3) l2.dp l1.dp)
  simp only [PyData.weightAll]
  omega
end My
set_option Elab.async false
set_option linter.all false
set_option maxRecDepth 100000
set_option maxHeartbeats 4000000
/-! difference of layouts in normal form -/
namespace My
open PySem PySem.Spec PyProof.Rows L2
open PySem.W (Datum DatumOrd EachIs)
/-- names of wagons, ascending -/
structure WagA (ws : List Str) : Prop where
  ok : WagsOk ws
  asc : Asc ws
theorem WagA.self {ws : List Str} (h : WagA ws) : sortO ws = ws := asc_self h.asc
section
variable {P : Program} {w : World} {K : PySem.W.Frag} {mg : Str → Option Value} {base : Heap}
theorem spSame_imp {C CL CW : Addr} {vs : List V} {H : Hp} {Q Q' : VK} {E : XK} (h : spSame K C CL CW vs H Q E) (hq : ∀ v H', Q v H' → Q' v H') : spSame K C CL CW vs H Q' E := by
  obtain ⟨ls, rest, hd, e, few, hl, hh, h⟩ := h
  exact ⟨ls, rest, hd, e, few, hl, hh, h.imp id fun ⟨a, b, c⟩ => ⟨a, fun z H' s => hq _ _ (b z H' s), c⟩⟩
/-- what both layouts are -/
structure LyP (K : PySem.W.Frag) (C : Addr) (H : Hp) (x y : Addr) (ws : List Str) (ps qs : List CoupT) : Prop where
  a : LayAt K C H x ws ps
  b : LayAt K C H y ws qs
  w : WagA ws
  n : Nrm ws ps
  m : Nrm ws qs
theorem LayAt.sm {C x : Addr} {H H' : Hp} {ws : List Str} {ps : List CoupT} (s : Same H H') (h : LayAt K C H x ws ps) : LayAt K C H' x ws ps := h.keep (K := K) s.keepsT s.tupK (fun _ _ e => s _ _ e) (fun _ _ e => s _ _ e)
theorem LyP.keep {C x y : Addr} {H H' : Hp} {ws : List Str} {ps qs : List CoupT} (h : LyP K C H x y ws ps qs) (s : Same H H') : LyP K C H' x y ws ps qs := ⟨h.a.sm s, h.b.sm s, h.w, h.n, h.m⟩
theorem LyP.flip {C x y : Addr} {H : Hp} {ws : List Str} {ps qs : List CoupT} (h : LyP K C H x y ws ps qs) : LyP K C H y x ws qs ps := ⟨h.b, h.a, h.w, h.m, h.n⟩
def diffL (ps qs : List CoupT) : List CoupT := ps.filter fun p => decide (p ∉ qs)
theorem nrm_diff {ws : List Str} {ps qs : List CoupT} (h : Nrm ws ps) : Nrm ws (diffL ps qs) := h.sub List.filter_sublist
/-- how values are refused -/
def spRefu (K : PySem.W.Frag) (C CL CW : Addr) : Sp := fun vs H _ E => (∃ v u, vs = [v, u]) ∧ ∀ H', Same H H' → spSame K C CL CW vs H' (fun _ _ => False) E
def spDiff (K : PySem.W.Frag) (C CL CW : Addr) : Sp := fun vs H Q E => (∃ x y ws ps qs, vs = [.ref x, .ref y] ∧ LyP K C H x y ws ps qs ∧ ∀ z H', H z = none → LayAt K C H' z ws (diffL ps qs) → Same H H' → Q (.ref z) H') ∨ spRefu K C CL CW vs H Q E
theorem sp_same2 {C CL CW x y : Addr} {H : Hp} {ws : List Str} {ps qs : List CoupT} {Q : VK} {E : XK} (h : LyP K C H x y ws ps qs) (q : ∀ H', Same H H' → Q .non H') : spSame K C CL CW [.ref x, .ref y] H Q E := by
  refine ⟨[(x, ws, ps), (y, ws, qs)], [], sortO ws, rfl, by show 2 ≤ 1000; decide, fun l hl => ?_, fun l e => by cases e; rfl, .inr ⟨rfl, fun _ => q, fun ⟨l, hl, ne⟩ => ?_⟩⟩
  · rcases List.mem_cons.mp hl with rfl | hl
    · exact h.a
    · rw [List.mem_singleton.mp hl]
      exact h.b
  · rcases List.mem_cons.mp hl with rfl | hl
    · exact absurd rfl ne
    · rw [List.mem_singleton.mp hl] at ne
      exact absurd rfl ne
theorem ok_diff {f f1 C CL CW fI fC g1 p1 g2 p2 : Addr} {fd dI dC e1 e2 : FuncData} (F : Fun K "difference" "difference" sDifference f fd) (RC : LayCls K C)
    (oS : FnR P w K mg base (L2.CX P w) 4 f1 (spSame K C CL CW)) (gS : mg "check_same_wagons" = some (.ref f1)) (kS : PySem.W.keepIn K (.ref f1) = true)
    (M : Mk K C fI) (oI : FnOk P w K mg base CX0 7 fI dI ["self", "wagons", "couplings"] (spLay K C)) (gC : mg "Layout" = some (.ref C)) (b0 : L2.Binds K dI ["self", "wagons", "couplings"] [])
    (pW : PropOf K C "wagons" p1 g1) (oW : FnOk P w K mg base CX0 1 g1 e1 ["self"] (spLyW K C)) (bW : L2.Binds K e1 ["self"] []) (pC : PropOf K C "couplings" p2 g2) (oC : FnOk P w K mg base CX0 1 g2 e2 ["self"] (spLyC K C)) (bC : L2.Binds K e2 ["self"] [])
    (XI : HasX P w K mg base 5 "__contains__" ["self", "coupling"] (spLyCo K C) C fC dC) : FnOk P w K mg base (L2.CX P w) 9 f fd ["one", "other"] (spDiff K C CL CW) := by
  refine F.okX scDifference (fun vs H Q E h => ?_) (fun cdv A outer s H vs Q E hr h => ?_)
  · rcases h with ⟨x, y, ws, ps, qs, rfl, _⟩ | ⟨⟨v, u, rfl⟩, _⟩ <;> rfl
  · obtain ⟨v, u, rfl⟩ : ∃ v u, vs = [v, u] := h.elim (fun ⟨x, y, _, _, _, e, _⟩ => ⟨_, _, e⟩) fun ⟨⟨v, u, e⟩, _⟩ => ⟨v, u, e⟩
    have hr2 := hr.mono (show 2 ≤ 8 by decide)
    have hr5 := hr.mono (show 5 ≤ 8 by decide)
    refine ⟨_, pss_cons (ps_expr (pe_callRS oS (hr.mono (show 4 ≤ 8 by decide)) (by rfl) gS kS (fun σ => passAt (takes_of rfl rfl rfl rfl) σ) (pa_cons (pv 0) (pa_cons (pv 1) pa_nil))))
      (pss_one (ps_ret (pe_make M oI hr (by rfl) gC b0 .nil pass0 (pa_cons (pe_prop (pv 0) RC.c pW oW hr2 bW .nil pass0 rfl)
        (pa_cons (pe_lc (own := [("coupling", 2)]) (g := gName 2) (tt := tTest (tOp (rInOwn C (spLyCo K C) true) (tVar 2) (tVar 1))) rfl scDifference.nd (pi_tup (pe_prop (pv 0) RC.c pC oC hr2 bC .nil pass0 rfl))
          (blkOk_by (own := [("coupling", 2)]) (N := ["one", "other", "coupling"]) (sc := defScope sDifference) (by decide +kernel)) (fun _ _ _ _ _ => pg_name (i := 2) scDifference.nd rfl (Or.inl rfl))
          (fun _ _ _ _ _ => pts_one (pt_cmpR (op_notInOwn XI.o hr5 XI.b XI.s XI.n) (pv 2) (pv 1) (by rfl))) (fun _ _ _ _ _ => pv 2)) pa_nil))))), ?_⟩
    rcases h with ⟨x, y, ws, ps, qs, e, L, q⟩ | ⟨_, h⟩
    · cases e
      refine ⟨_, rfl, _, rfl, ?_⟩
      dsimp only [tNil]
      refine sp_same2 L fun H1 s1 => ?_
      have L1 := L.keep s1
      obtain ⟨dxa, _, _, _, _, _, _, ha, _⟩ := id L1.a
      refine ⟨_, rfl, x, dxa, _, rfl, ha, x, ws, ps, rfl, L1.a, fun tw htw => ?_⟩
      rw [L1.w.self] at htw
      refine ⟨_, rfl, x, dxa, _, rfl, ha, x, ws, ps, rfl, L1.a, fun tc uc htc huc => ?_⟩
      rw [nrm_told L1.w.ok.nd L1.n] at huc
      have nfew := pairs_few L1.n.ok
      have wfew := L1.w.ok.few
      refine ⟨tc, rfl, ⟨_, htc⟩, fun D hD => ?_⟩
      refine lc_pairs (K := K) (f := fun p => decide (p ∉ qs)) (.inr htc) (sq_tup (K := K) (a := tc) (xs := uc)) (fun H' s => s.keeps.t _ _ htc) huc (by rw [huc.length]; omega) hD (fun _ => rfl) (fun _ => rfl) (fun v c H' R s hc mc k => ?_) (fun u2 H2 e2 h2 s2 => ?_)
      · have L2 := L1.keep s
        obtain ⟨dxb, _, _, _, _, _, _, hb, _⟩ := id L2.b
        have en := L1.n.ok.sub _ (mem_metE mc).1
        have em := L1.n.ok.sub _ (mem_metE mc).2
        refine ⟨_, rfl, _, rfl, y, dxb, _, rfl, hb, y, ws, qs, v, rfl, L2.b, .inr ⟨c, hc, L1.w.ok.nm _ (mem_endsO.mp en).1, (mem_endsO.mp en).2, L1.w.ok.nm _ (mem_endsO.mp em).1, (mem_endsO.mp em).2, fun H3 s3 => ⟨_, rfl, _, rfl, ?_⟩⟩⟩
        rw [look_nrm L1.m (L1.n.lt c mc), if_pos rfl]
        have kk := k H3 s3
        rw [decide_not] at kk
        exact kk
      · intro z dz hz hdz ndz
        have sI : Same H2 (upd (upd H2 dz (.own z)) z (.ins C dz [])) := fun b o e => by rw [upd_ne (ne_of_none e hz), upd_ne (ne_of_none e hdz)]; exact e
        have hw2 : SqT K (upd (upd H2 dz (.own z)) z (.ins C dz [])) tw (ws.map V.str) := sI.keeps.t _ _ (s2.keeps.t _ _ htw)
        refine ⟨z, dz, tw, D, u2, diffL ps qs, ws, rfl, upd_same, .inr hw2, L1.w.ok, .inl (.inl (.inl (sI _ _ e2))), coups_keep sI.tupK h2, (nrm_diff L1.n).ok, fun HL sx lay => ⟨rfl, ?_⟩⟩
        have sL := same_ins hz hdz sx
        have S := (s1.trans s2).trans sL
        exact q z HL (Option.eq_none_iff_forall_ne_some.mpr fun o e => by rw [s2 _ _ (s1 _ _ e)] at hz; cases hz) lay S
    · refine ⟨_, rfl, _, rfl, ?_⟩
      dsimp only [tNil]
      exact spSame_imp (h H (.refl H)) fun _ _ z => z.elim
end
end My
set_option Elab.async false
set_option linter.all false
set_option maxRecDepth 100000
set_option maxHeartbeats 4000000
/-! o[i], o of an own class with __getitem__, which may raise -/
namespace My
open PySem PySem.Spec PyProof.Rows L2
section
variable {prog : Program} {w : World} {A : Around} {E : Value → Shared → Prop} {s : Shared} {K : PySem.W.Frag} {x C f : Addr} {ox : Obj} {od : Option Obj}
theorem sub_own {value slice : Expr} {i : Value} {Q : Value → Shared → Prop} (X : K.In s.heap) (I : PySem.W.InstAt s.heap x ox C od) (hs : PySem.W.findIn K (.ref C) "__getitem__" = some (some (.ref f))) (hf : PySem.W.fnIn K f = true) (hfn : PySem.W.isFn K (.ref f) = true)
    (h : wpAny (model prog w) A.in1 (call (.ref f) [.ref x, i]) Q E s) (hsl : subscripted slice true (.ref x) i = runValue (.builtin "lifetime.subscript" ⟨[.ref x, i], []⟩)) : wpAny (model prog w) A (subscriptTail value slice (.ref x) i) Q E s := by
  unfold PySem.W.fnIn at hf
  split at hf
  · rename_i e
    unfold subscriptTail getitemInPython
    refine wpAny_bind (wpAny_bind (wpAny_bind (I.type.here ((PySem.W.looks_findIn X hs).here ?_))))
    dsimp only
    refine wpAny_bind (wpAny_load (X _ _ e) (wpAny_pure ?_))
    dsimp only
    rw [hsl]
    refine wpAny_bind (wpAny_runValue (codeAny_builtin PySem.W.entry_sub ?_))
    unfold Builtin.«lifetime.subscript»
    refine wpAny_bind (PySem.W.special_fn X I hs (beq_iff_eq.mp hfn) (wpAny_mono h (fun v s' z => ?_) fun _ _ z => z))
    refine wpAny_pure ?_
    show wpAny (model prog w) A (letTemporaryGo value (.ref x) v >>= fun _ => pure v) Q E s'
    exact wpAny_bind (wpAny_letTemporaryGo (wpAny_pure z))
  · cases hf
end
section
variable {X : Cx} {CX : CXT} {k : Nat} {C f : Addr} {fd : FuncData} {ps : List Str} {sp : Sp} {E : XK}
/-- a[b], a an instance of the class at C -/
def tGetOwn (C : Addr) (sp : Sp) (E : XK) (ta tb : TE) : TE := fun σ H Q => ta σ H fun x H1 => tb σ H1 fun y H2 => ∃ a dx fs, x = .ref a ∧ H2 a = some (.ins C dx fs) ∧ sp [.ref a, y] H2 Q E
theorem pe_getOwn {a b : Expr} {ta tb : TE} {pos : Pos} (F : FnOk X.prog X.w X.K X.mg X.base CX k f fd ps sp) (hr : Room (k + 1) X.A) (hb : Binds X.K fd ps []) (hs : PySem.W.findIn X.K (.ref C) "__getitem__" = some (some (.ref f))) (hf : PySem.W.fnIn X.K f = true) (hfn : PySem.W.isFn X.K (.ref f) = true)
    (hx : Passes CX X E) (ha : PE X a ta) (hb2 : PE X b tb) (hsl : ∀ o i, subscripted b true o i = runValue (.builtin "lifetime.subscript" ⟨[o, i], []⟩)) : PE X (.Subscript a b pos) (tGetOwn C sp E ta tb) := by
  refine ⟨fun pins s σ H Q I h => ?_⟩
  refine Subscript_ (binT ha hb2 I h fun v u s2 x y H2 I2 rx ry q => ?_)
  obtain ⟨a, dx, fs, rfl, ea, q⟩ := q
  cases rx
  obtain ⟨mA, ob, _⟩ := ins_get I2.hok ea
  obtain ⟨od, J, _⟩ := ob.look
  exact sub_own I2.kIn J hs hf hfn (wpAny_call (SlX.run_at (us := [.ref a, u]) (ws := [.ref a, y]) (F.raw hb .nil) hr.in1 I2.env0.in1 hx I2 (.cons rfl (.cons ry .nil)) q)) (hsl _ _)
theorem run_in1S {E : L2.St → XK} {pins : List (Addr × Obj)} {σ : L2.St} {H : Hp} {s : Shared} {Q : VK} {us : List Value} {vs : List V} (F : FnOk X.prog X.w X.K X.mg X.base CX k f fd ps sp) (hr : Room (k + 1) X.A) (hb : Binds X.K fd ps []) (hx : PassesAt CX X σ (E σ))
    (I : Inv X pins σ H s) (r : Vals vs us) (h : sp vs H Q (E σ)) : wpAny (model X.prog X.w) X.A.in1 (call (.ref f) us) (EP X pins σ Q) X.xe s := by
  have hl : us.length = ps.length := by rw [← r.length]; exact F.len _ _ _ _ h
  have b := hb s us I.kIn (by rw [List.append_nil]; exact hl)
  rw [List.append_nil] at b
  refine wpAny_call (codeAny_mono (F.run X.A.in1 X.stack s H ⟨us, []⟩ us vs Q (E σ) hr.in1 I.env0.in1 b r h) fun r s' hq => ?_)
  cases r with
  | error e => exact hx pins H s e s' I hq
  | ok fl =>
    cases fl with
    | ret u => exact I.after hq
    | next => exact False.elim hq
    | brk => exact False.elim hq
    | cont => exact False.elim hq
/-- .. in a try: what is raised may lean on the slots -/
def tGetOwnS (C : Addr) (sp : Sp) (E : L2.St → XK) (ta tb : TE) : TE := fun σ H Q => ta σ H fun x H1 => tb σ H1 fun y H2 => ∃ a dx fs, x = .ref a ∧ H2 a = some (.ins C dx fs) ∧ sp [.ref a, y] H2 Q (E σ)
theorem pe_getOwnS {E : L2.St → XK} {a b : Expr} {ta tb : TE} {pos : Pos} (F : FnOk X.prog X.w X.K X.mg X.base CX k f fd ps sp) (hr : Room (k + 1) X.A) (hb : Binds X.K fd ps []) (hs : PySem.W.findIn X.K (.ref C) "__getitem__" = some (some (.ref f))) (hf : PySem.W.fnIn X.K f = true) (hfn : PySem.W.isFn X.K (.ref f) = true)
    (hx : ∀ σ, PassesAt CX X σ (E σ)) (ha : PE X a ta) (hb2 : PE X b tb) (hsl : ∀ o i, subscripted b true o i = runValue (.builtin "lifetime.subscript" ⟨[o, i], []⟩)) : PE X (.Subscript a b pos) (tGetOwnS C sp E ta tb) := by
  refine ⟨fun pins s σ H Q I h => ?_⟩
  refine Subscript_ (binT ha hb2 I h fun v u s2 x y H2 I2 rx ry q => ?_)
  obtain ⟨a, dx, fs, rfl, ea, q⟩ := q
  cases rx
  obtain ⟨mA, ob, _⟩ := ins_get I2.hok ea
  obtain ⟨od, J, _⟩ := ob.look
  exact sub_own I2.kIn J hs hf hfn (run_in1S (E := E) (vs := [.ref a, y]) F hr hb (hx σ) I2 (.cons rfl (.cons ry .nil)) q) (hsl _ _)
end
end My
set_option Elab.async false
set_option linter.all false
set_option maxRecDepth 100000
set_option maxHeartbeats 4000000
/-! layouts one step apart, as couplings in normal form -/
namespace My
open PySem PySem.Spec PyProof.Rows L2
open PySem.W (Datum DatumOrd)
variable {ws : List Str} {ps qs : List CoupT} {a b e q x y : EndT}
/-! ### partners as a map -/
structure Inv2 (f : EndT → Option EndT) : Prop where
  sym : ∀ {x y}, f x = some y → f y = some x
  irr : ∀ {x}, f x ≠ some x
def lk (ps : List CoupT) (e : EndT) : Option EndT := lookE (partE ps) e
theorem Nrm.inv (n : Nrm ws ps) : Inv2 (lk ps) := ⟨fun z => (look_iff n.ok).mpr ((look_iff n.ok).mp z).symm, fun {x} z => by
  rcases (look_iff n.ok).mp z with y | y
  · exact met_ne n.ok.nd _ y rfl
  · exact met_ne n.ok.nd _ y rfl⟩
theorem Inv2.inj {f : EndT → Option EndT} (i : Inv2 f) {x y z : EndT} (h1 : f x = some z) (h2 : f y = some z) : x = y := by
  have := i.sym h1
  rw [i.sym h2] at this
  exact (Option.some.inj this).symm
/-- after a and b are coupled -/
def cplF (f : EndT → Option EndT) (a b e : EndT) : Option EndT := if e = a then some b else if e = b then some a else if f a = some e then f b else if f b = some e then f a else f e
theorem cplF_sym {f : EndT → Option EndT} (i : Inv2 f) (ne : a ≠ b) : cplF f a b e = cplF f b a e := by
  unfold cplF
  by_cases h1 : e = a
  · rw [if_pos h1, if_neg fun z => ne (h1.symm.trans z), if_pos h1]
  · rw [if_neg h1]
    by_cases h2 : e = b
    · rw [if_pos h2, if_pos h2]
    · rw [if_neg h2, if_neg h2, if_neg h1]
      by_cases h3 : f a = some e
      · rw [if_pos h3, if_neg fun z => ne (i.inj h3 z), if_pos h3]
      · rw [if_neg h3, if_neg h3]
/-- coupling a with the partner it had undoes it -/
theorem cplF_back {f : EndT → Option EndT} (i : Inv2 f) (ne : a ≠ b) (np : f a ≠ some b) (ha : f a = some x) : cplF (cplF f a b) a x e = f e := by
  have xa : x ≠ a := fun z => i.irr (z ▸ ha)
  have xb : x ≠ b := fun z => np (z ▸ ha)
  have ga : cplF f a b a = some b := by unfold cplF; rw [if_pos rfl]
  have gb : cplF f a b b = some a := by unfold cplF; rw [if_neg (Ne.symm ne), if_pos rfl]
  have gx : cplF f a b x = f b := by unfold cplF; rw [if_neg xa, if_neg xb, if_pos ha]
  show (if e = a then some x else if e = x then some a else if cplF f a b a = some e then cplF f a b x else if cplF f a b x = some e then cplF f a b a else cplF f a b e) = f e
  rw [ga, gx]
  by_cases h1 : e = a
  · rw [if_pos h1, h1, ha]
  rw [if_neg h1]
  by_cases h2 : e = x
  · rw [if_pos h2, h2, i.sym ha]
  rw [if_neg h2]
  by_cases h3 : e = b
  · rw [h3, if_pos rfl]
  rw [if_neg fun z => h3 (Option.some.inj z).symm]
  by_cases h4 : f b = some e
  · rw [if_pos h4, i.sym h4]
  rw [if_neg h4]
  unfold cplF
  rw [if_neg h1, if_neg h3, if_neg (fun z => h2 (by rw [ha] at z; exact (Option.some.inj z).symm)), if_neg h4]
/-! ### lists by their partners -/
theorem nrm_ext (n : Nrm ws ps) (m : Nrm ws qs) (h : ∀ c : CoupT, c ∈ ps ↔ c ∈ qs) : ps = qs := by
  have p : ps.Perm qs := (List.perm_ext_iff_of_nodup (met_map_nodup n.ok.nd) (met_map_nodup m.ok.nd)).mpr h
  rw [← asc_self n.asc, ← asc_self m.asc]
  exact sortO_perm anti_coup p
theorem mem_lk (n : Nrm ws ps) {c : CoupT} : c ∈ ps ↔ lk ps c.1 = some c.2 ∧ DatumOrd.lt c.1 c.2 = true := by
  constructor
  · intro h
    exact ⟨(look_iff n.ok).mpr (.inl h), n.lt c h⟩
  · rintro ⟨h1, h2⟩
    rcases (look_iff n.ok).mp h1 with z | z
    · exact z
    · have := n.lt _ z
      rw [lt_asym h2] at this
      cases this
theorem nrm_lk (n : Nrm ws ps) (m : Nrm ws qs) (h : ∀ e, lk ps e = lk qs e) : ps = qs := nrm_ext n m fun c => by rw [mem_lk n, mem_lk m, h]
/-- told both ways -/
abbrev Sy (ps : List CoupT) (e q : EndT) : Prop := (e, q) ∈ ps ∨ (q, e) ∈ ps
theorem sy_srt {l r : EndT} : Sy [srtE (l, r)] e q ↔ (e = l ∧ q = r) ∨ (e = r ∧ q = l) := by
  have s := srt_cases (l, r)
  constructor
  · rintro (h | h)
    · have h := List.mem_singleton.mp h
      rcases s with s | s <;> rw [s] at h <;> cases h
      · exact .inl ⟨rfl, rfl⟩
      · exact .inr ⟨rfl, rfl⟩
    · have h := List.mem_singleton.mp h
      rcases s with s | s <;> rw [s] at h <;> cases h
      · exact .inr ⟨rfl, rfl⟩
      · exact .inl ⟨rfl, rfl⟩
  · rintro (⟨rfl, rfl⟩ | ⟨rfl, rfl⟩)
    · rcases s with s | s
      · exact .inl (by rw [s]; exact List.mem_singleton_self _)
      · exact .inr (by rw [s]; exact List.mem_singleton_self _)
    · rcases s with s | s
      · exact .inr (by rw [s]; exact List.mem_singleton_self _)
      · exact .inl (by rw [s]; exact List.mem_singleton_self _)
theorem sy_app {xs ys : List CoupT} : Sy (xs ++ ys) e q ↔ Sy xs e q ∨ Sy ys e q := by
  constructor
  · rintro (h | h)
    · exact (List.mem_append.mp h).imp .inl .inl
    · exact (List.mem_append.mp h).imp .inr .inr
  · rintro ((h | h) | (h | h))
    · exact .inl (List.mem_append_left _ h)
    · exact .inr (List.mem_append_left _ h)
    · exact .inl (List.mem_append_right _ h)
    · exact .inr (List.mem_append_right _ h)
theorem sy_opt {o r : Option EndT} : Sy (optC o r) e q ↔ (o = some e ∧ r = some q) ∨ (o = some q ∧ r = some e) := by
  match o, r with
  | some l, some r =>
    refine (sy_srt (l := l) (r := r)).trans ?_
    constructor
    · rintro (⟨rfl, rfl⟩ | ⟨rfl, rfl⟩)
      · exact .inl ⟨rfl, rfl⟩
      · exact .inr ⟨rfl, rfl⟩
    · rintro (⟨h1, h2⟩ | ⟨h1, h2⟩) <;> cases h1 <;> cases h2
      · exact .inl ⟨rfl, rfl⟩
      · exact .inr ⟨rfl, rfl⟩
  | none, r => exact ⟨fun h => (by rcases h with h | h <;> cases h), fun h => (by rcases h with ⟨h, _⟩ | ⟨h, _⟩ <;> cases h)⟩
  | some l, none => exact ⟨fun h => (by rcases h with h | h <;> cases h), fun h => (by rcases h with ⟨_, h⟩ | ⟨_, h⟩ <;> cases h)⟩
theorem sy_keep (n : Nrm ws ps) : Sy (keepL ps a b) e q ↔ lk ps e = some q ∧ e ≠ a ∧ e ≠ b ∧ q ≠ a ∧ q ≠ b := by
  have k : ∀ c : CoupT, c ∈ keepL ps a b ↔ c ∈ ps ∧ c.1 ≠ a ∧ c.1 ≠ b ∧ c.2 ≠ a ∧ c.2 ≠ b := fun c => by
    unfold keepL
    rw [List.mem_filter]
    simp only [Bool.and_eq_true, Bool.not_eq_true', Bool.or_eq_false_iff, decide_eq_false_iff_not]
    exact ⟨fun ⟨h, ⟨h1, h2⟩, h3, h4⟩ => ⟨h, Ne.symm h1, Ne.symm h3, Ne.symm h2, Ne.symm h4⟩, fun ⟨h, h1, h2, h3, h4⟩ => ⟨h, ⟨Ne.symm h1, Ne.symm h3⟩, Ne.symm h2, Ne.symm h4⟩⟩
  have l : lk ps e = some q ↔ Sy ps e q := look_iff n.ok
  rw [l]
  constructor
  · rintro (h | h)
    · obtain ⟨h0, h1, h2, h3, h4⟩ := (k _).mp h
      exact ⟨.inl h0, h1, h2, h3, h4⟩
    · obtain ⟨h0, h1, h2, h3, h4⟩ := (k _).mp h
      exact ⟨.inr h0, h3, h4, h1, h2⟩
  · rintro ⟨h | h, h1, h2, h3, h4⟩
    · exact .inl ((k _).mpr ⟨h, h1, h2, h3, h4⟩)
    · exact .inr ((k _).mpr ⟨h, h3, h4, h1, h2⟩)
theorem lk_cpl (n : Nrm ws ps) (ha : a ∈ endsO ws) (hb : b ∈ endsO ws) (ne : a ≠ b) (np : lk ps a ≠ some b) : lk (cplL ps a b) e = cplF (lk ps) a b e := by
  have i := n.inv
  have ok := (nrm_cpl n ha hb ne np).ok
  refine Option.ext fun q => ?_
  have h0 : lk (cplL ps a b) e = some q ↔ Sy (keepL ps a b ++ [srtE (a, b)] ++ optC (lk ps a) (lk ps b)) e q := by
    have pm : (cplL ps a b).Perm (keepL ps a b ++ [srtE (a, b)] ++ optC (lk ps a) (lk ps b)) := List.mergeSort_perm _ leO
    rw [show lk (cplL ps a b) e = some q ↔ Sy (cplL ps a b) e q from look_iff ok]
    unfold Sy
    rw [pm.mem_iff, pm.mem_iff]
  rw [h0, sy_app, sy_app, sy_keep n, sy_srt, sy_opt]
  generalize lk ps = f at i np
  unfold cplF
  by_cases h1 : e = a
  · subst h1
    rw [if_pos rfl]
    constructor
    · rintro ((⟨_, z, _⟩ | ⟨_, z⟩ | ⟨z, _⟩) | ⟨z, _⟩ | ⟨_, z⟩)
      · exact absurd rfl z
      · rw [z]
      · exact absurd z ne
      · exact absurd z i.irr
      · exact absurd (i.sym z) np
    · intro z
      exact .inl (.inr (.inl ⟨rfl, (Option.some.inj z).symm⟩))
  rw [if_neg h1]
  by_cases h2 : e = b
  · subst h2
    rw [if_pos rfl]
    constructor
    · rintro ((⟨_, _, z, _⟩ | ⟨z, _⟩ | ⟨_, z⟩) | ⟨z, _⟩ | ⟨_, z⟩)
      · exact absurd rfl z
      · exact absurd z h1
      · rw [z]
      · exact absurd z np
      · exact absurd z i.irr
    · intro z
      exact .inl (.inr (.inr ⟨rfl, (Option.some.inj z).symm⟩))
  rw [if_neg h2]
  by_cases h3 : f a = some e
  · rw [if_pos h3]
    constructor
    · rintro ((⟨z, _, _, z2, _⟩ | ⟨z, _⟩ | ⟨z, _⟩) | ⟨_, z⟩ | ⟨_, z⟩)
      · rw [i.sym h3] at z
        exact absurd (Option.some.inj z).symm z2
      · exact absurd z h1
      · exact absurd z h2
      · exact z
      · exact absurd (i.inj h3 z) ne
    · intro z
      exact .inr (.inl ⟨h3, z⟩)
  rw [if_neg h3]
  by_cases h4 : f b = some e
  · rw [if_pos h4]
    constructor
    · rintro ((⟨z, _, _, _, z2⟩ | ⟨z, _⟩ | ⟨z, _⟩) | ⟨z, _⟩ | ⟨z, _⟩)
      · rw [i.sym h4] at z
        exact absurd (Option.some.inj z).symm z2
      · exact absurd z h1
      · exact absurd z h2
      · exact absurd z h3
      · exact z
    · intro z
      exact .inr (.inr ⟨z, h4⟩)
  rw [if_neg h4]
  constructor
  · rintro ((⟨z, _⟩ | ⟨z, _⟩ | ⟨z, _⟩) | ⟨z, _⟩ | ⟨_, z⟩)
    · exact z
    · exact absurd z h1
    · exact absurd z h2
    · exact absurd z h3
    · exact absurd z h4
  · intro z
    exact .inl (.inl ⟨z, h1, h2, fun y => h3 (i.sym (y ▸ z)), fun y => h4 (i.sym (y ▸ z))⟩)
/-! ### one step apart -/
def nearB (ps qs : List CoupT) : Bool := match qs.filter fun p => decide (p ∉ ps) with
  | [] => decide (ps.length = qs.length + 1)
  | f :: _ => decide (cplL ps f.1 f.2 = qs)
theorem nearB_nil (h : (qs.filter fun p => decide (p ∉ ps)) = []) : nearB ps qs = decide (ps.length = qs.length + 1) := by unfold nearB; rw [h]
theorem nearB_cons {f : CoupT} {r : List CoupT} (h : (qs.filter fun p => decide (p ∉ ps)) = f :: r) : nearB ps qs = decide (cplL ps f.1 f.2 = qs) := by unfold nearB; rw [h]
theorem fresh_mem {f : CoupT} {r : List CoupT} (h : (qs.filter fun p => decide (p ∉ ps)) = f :: r) : f ∈ qs ∧ f ∉ ps := by
  have : f ∈ qs.filter fun p => decide (p ∉ ps) := by rw [h]; exact List.mem_cons_self
  obtain ⟨h1, h2⟩ := List.mem_filter.mp this
  exact ⟨h1, of_decide_eq_true h2⟩
theorem sub_of (h : (qs.filter fun p => decide (p ∉ ps)) = []) : ∀ c ∈ qs, c ∈ ps := fun c hc => Decidable.byContradiction fun z => by
  have : c ∈ qs.filter fun p => decide (p ∉ ps) := List.mem_filter.mpr ⟨hc, decide_eq_true z⟩
  rw [h] at this
  cases this
theorem len_split {α : Type} (f : α → Bool) : ∀ l : List α, l.length = (l.filter f).length + (l.filter fun p => !f p).length
  | [] => rfl
  | x :: r => by
    have ih := len_split f r
    cases h : f x with
    | true => rw [List.filter_cons_of_pos h, List.filter_cons_of_neg (by rw [h]; decide), List.length_cons, List.length_cons]; omega
    | false => rw [List.filter_cons_of_neg (by rw [h]; decide), List.filter_cons_of_pos (by rw [h]; rfl), List.length_cons, List.length_cons]; omega
/-- of a part: how many are left out -/
theorem part_len (n : Nrm ws ps) (m : Nrm ws qs) (s : ∀ c ∈ qs, c ∈ ps) : ps.length = qs.length + (ps.filter fun p => decide (p ∉ qs)).length := by
  have h1 := len_split (fun p => decide (p ∈ qs)) ps
  have h2 : (ps.filter fun p => decide (p ∈ qs)).Perm qs := (List.perm_ext_iff_of_nodup ((met_map_nodup n.ok.nd).sublist List.filter_sublist) (met_map_nodup m.ok.nd)).mpr fun c => by
    rw [List.mem_filter]
    exact ⟨fun h => of_decide_eq_true h.2, fun h => ⟨s c h, decide_eq_true h⟩⟩
  have h3 : (ps.filter fun p => !decide (p ∈ qs)) = ps.filter fun p => decide (p ∉ qs) := List.filter_congr fun p _ => by rw [decide_not]
  rw [h3, h2.length_eq] at h1
  exact h1
theorem fresh_end {f : CoupT} (n : Nrm ws qs) (h : f ∈ qs) : f.1 ∈ endsO ws ∧ f.2 ∈ endsO ws ∧ f.1 ≠ f.2 := ⟨n.ok.sub _ (mem_metE h).1, n.ok.sub _ (mem_metE h).2, met_ne n.ok.nd _ h⟩
theorem fresh_np {f : CoupT} (n : Nrm ws ps) (m : Nrm ws qs) (h : f ∈ qs) (g : f ∉ ps) : lk ps f.1 ≠ some f.2 := fun z => g ((mem_lk n).mpr ⟨z, m.lt f h⟩)
theorem near_symm (n : Nrm ws ps) (m : Nrm ws qs) (h : nearB ps qs = true) : nearB qs ps = true := by
  cases hf : qs.filter fun p => decide (p ∉ ps) with
  | nil =>
    rw [nearB_nil hf] at h
    have h := of_decide_eq_true h
    have s := sub_of hf
    have l := part_len n m s
    have l1 : (ps.filter fun p => decide (p ∉ qs)).length = 1 := by omega
    obtain ⟨c, hc⟩ := List.length_eq_one_iff.mp l1
    rw [nearB_cons hc]
    refine decide_eq_true ?_
    obtain ⟨c1, c2⟩ := fresh_mem hc
    obtain ⟨e1, e2, e3⟩ := fresh_end n c1
    have np := fresh_np m n c1 c2
    have i := n.inv
    have j := m.inv
    refine nrm_lk (nrm_cpl m e1 e2 e3 np) n fun e => ?_
    rw [lk_cpl m e1 e2 e3 np]
    have mem : ∀ x : CoupT, x ∈ ps ↔ x ∈ qs ∨ x = c := fun x => by
      constructor
      · intro hx
        by_cases z : x ∈ qs
        · exact .inl z
        · have : x ∈ ps.filter fun p => decide (p ∉ qs) := List.mem_filter.mpr ⟨hx, decide_eq_true z⟩
          rw [hc] at this
          exact .inr (List.mem_singleton.mp this)
      · rintro (hx | rfl)
        · exact s x hx
        · exact c1
    have k : ∀ x y, lk ps x = some y ↔ lk qs x = some y ∨ (x = c.1 ∧ y = c.2) ∨ (x = c.2 ∧ y = c.1) := fun x y => by
      rw [show lk ps x = some y ↔ Sy ps x y from look_iff n.ok, show lk qs x = some y ↔ Sy qs x y from look_iff m.ok]
      unfold Sy
      rw [mem, mem]
      have z1 : ((x, y) = c) ↔ (x = c.1 ∧ y = c.2) := ⟨fun z => by rw [← z]; exact ⟨rfl, rfl⟩, fun ⟨z1, z2⟩ => by rw [z1, z2]⟩
      have z2 : ((y, x) = c) ↔ (x = c.2 ∧ y = c.1) := ⟨fun z => by rw [← z]; exact ⟨rfl, rfl⟩, fun ⟨z1, z2⟩ => by rw [z1, z2]⟩
      rw [z1, z2]
      constructor
      · rintro ((z | z) | (z | z))
        · exact .inl (.inl z)
        · exact .inr (.inl z)
        · exact .inl (.inr z)
        · exact .inr (.inr z)
      · rintro ((z | z) | z | z)
        · exact .inl (.inl z)
        · exact .inr (.inl z)
        · exact .inl (.inr z)
        · exact .inr (.inr z)
    have f1 : lk ps c.1 = some c.2 := (k _ _).mpr (.inr (.inl ⟨rfl, rfl⟩))
    have f2 : lk ps c.2 = some c.1 := (k _ _).mpr (.inr (.inr ⟨rfl, rfl⟩))
    have g1 : lk qs c.1 = none := by
      cases z : lk qs c.1 with
      | none => rfl
      | some u =>
        have := (k _ _).mpr (.inl z)
        rw [f1] at this
        rw [← Option.some.inj this] at z
        exact absurd z np
    have g2 : lk qs c.2 = none := by
      cases z : lk qs c.2 with
      | none => rfl
      | some u =>
        have := (k _ _).mpr (.inl z)
        rw [f2] at this
        rw [← Option.some.inj this] at z
        exact absurd (j.sym z) np
    unfold cplF
    rw [g1, g2]
    by_cases h1 : e = c.1
    · rw [if_pos h1, h1, f1]
    rw [if_neg h1]
    by_cases h2 : e = c.2
    · rw [if_pos h2, h2, f2]
    rw [if_neg h2, if_neg (fun z => nomatch z), if_neg (fun z => nomatch z)]
    refine Option.ext fun y => ?_
    rw [k]
    exact ⟨.inl, fun z => z.elim id fun z => z.elim (fun z => absurd z.1 h1) fun z => absurd z.1 h2⟩
  | cons f r =>
    rw [nearB_cons hf] at h
    have h := of_decide_eq_true h
    obtain ⟨f1, f2⟩ := fresh_mem hf
    obtain ⟨e1, e2, e3⟩ := fresh_end m f1
    have np := fresh_np n m f1 f2
    have i := n.inv
    have G : ∀ e, lk qs e = cplF (lk ps) f.1 f.2 e := fun e => by rw [← h]; exact lk_cpl n e1 e2 e3 np
    cases hc : ps.filter fun p => decide (p ∉ qs) with
    | nil =>
      rw [nearB_nil hc]
      refine decide_eq_true ?_
      have s := sub_of hc
      have fr : ∀ u, u = f.1 ∨ u = f.2 → lk ps u = none := fun u hu => by
        cases z : lk ps u with
        | none => rfl
        | some v =>
          have sq : Sy qs u v := by
            rcases (look_iff n.ok).mp z with y | y
            · exact .inl (s _ y)
            · exact .inr (s _ y)
          have g := (look_iff m.ok).mpr sq
          have g : lk qs u = some v := g
          rw [G] at g
          rcases hu with rfl | rfl
          · unfold cplF at g
            rw [if_pos rfl] at g
            rw [← Option.some.inj g] at z
            exact absurd z np
          · unfold cplF at g
            rw [if_neg (Ne.symm e3), if_pos rfl] at g
            rw [← Option.some.inj g] at z
            exact absurd (i.sym z) np
      have k1 := fr f.1 (.inl rfl)
      have k2 := fr f.2 (.inr rfl)
      have ek : keepL ps f.1 f.2 = ps := List.filter_eq_self.mpr fun p hp => by
        have l1 : lk ps p.1 = some p.2 := (look_iff n.ok).mpr (.inl hp)
        have l2 : lk ps p.2 = some p.1 := (look_iff n.ok).mpr (.inr hp)
        simp only [Bool.and_eq_true, Bool.not_eq_true', Bool.or_eq_false_iff, decide_eq_false_iff_not]
        refine ⟨⟨fun z => ?_, fun z => ?_⟩, fun z => ?_, fun z => ?_⟩
        · rw [← z, k1] at l1; cases l1
        · rw [← z, k1] at l2; cases l2
        · rw [← z, k2] at l1; cases l1
        · rw [← z, k2] at l2; cases l2
      rw [← h]
      unfold cplL
      rw [(List.mergeSort_perm _ leO).length_eq, ek, show lookE (partE ps) f.1 = none from k1]
      simp [optC]
    | cons c r2 =>
      rw [nearB_cons hc]
      refine decide_eq_true ?_
      obtain ⟨c1, c2⟩ := fresh_mem hc
      obtain ⟨d1, d2, d3⟩ := fresh_end n c1
      have np2 := fresh_np m n c1 c2
      have j := m.inv
      refine nrm_lk (nrm_cpl m d1 d2 d3 np2) n fun e => ?_
      rw [lk_cpl m d1 d2 d3 np2]
      have lc : lk ps c.1 = some c.2 := (look_iff n.ok).mpr (.inl c1)
      have lc2 := i.sym lc
      have gE : lk qs = cplF (lk ps) f.1 f.2 := funext G
      -- c meets f.1 or f.2
      have meets : c.1 = f.1 ∨ c.2 = f.1 ∨ c.1 = f.2 ∨ c.2 = f.2 := Decidable.byContradiction fun z => by
        have z1 : c.1 ≠ f.1 := fun y => z (.inl y)
        have z2 : c.2 ≠ f.1 := fun y => z (.inr (.inl y))
        have z3 : c.1 ≠ f.2 := fun y => z (.inr (.inr (.inl y)))
        have z4 : c.2 ≠ f.2 := fun y => z (.inr (.inr (.inr y)))
        have g := G c.1
        unfold cplF at g
        rw [if_neg z1, if_neg z3, if_neg (fun y => z2 (by have := i.sym y; rw [lc] at this; exact Option.some.inj this)), if_neg (fun y => z4 (by have := i.sym y; rw [lc] at this; exact Option.some.inj this)), lc] at g
        exact np2 g
      have sw : ∀ e, cplF (lk ps) f.1 f.2 e = cplF (lk ps) f.2 f.1 e := fun e => cplF_sym i e3
      have np' : lk ps f.2 ≠ some f.1 := fun z => np (i.sym z)
      rcases meets with z | z | z | z
      · rw [gE, z]
        rw [z] at lc
        exact cplF_back i e3 np lc
      · rw [cplF_sym j d3, gE, z]
        rw [z] at lc2
        exact cplF_back i e3 np lc2
      · rw [gE, funext sw, z]
        rw [z] at lc
        exact cplF_back i (Ne.symm e3) np' lc
      · rw [cplF_sym j d3, gE, funext sw, z]
        rw [z] at lc2
        exact cplF_back i (Ne.symm e3) np' lc2
theorem near_eq (n : Nrm ws ps) (m : Nrm ws qs) : nearB qs ps = nearB ps qs := by
  cases h : nearB ps qs with
  | true => exact near_symm n m h
  | false =>
    cases g : nearB qs ps with
    | true =>
      rw [near_symm m n g] at h
      cases h
    | false => rfl
theorem near_self (ps : List CoupT) : nearB ps ps = false := by
  have e : (ps.filter fun p => decide (p ∉ ps)) = [] := List.filter_eq_nil_iff.mpr fun p hp z => (of_decide_eq_true z) hp
  rw [nearB_nil e]
  exact decide_eq_false (by omega)
/-- what a cut leaves -/
theorem cut_one (n : Nrm ws ps) {c : CoupT} (hc : c ∈ ps) : cutL ps c.1 = ps.filter fun p => decide (p ≠ c) := by
  refine List.filter_congr fun p hp => ?_
  have l : lk ps c.1 = some c.2 := (look_iff n.ok).mpr (.inl hc)
  have key : (c.1 = p.1 ∨ c.1 = p.2) ↔ p = c := by
    constructor
    · rintro (z | z)
      · have l2 : lk ps p.1 = some p.2 := (look_iff n.ok).mpr (.inl hp)
        rw [← z, l] at l2
        exact Prod.ext z.symm (Option.some.inj l2).symm
      · have l2 : lk ps p.2 = some p.1 := (look_iff n.ok).mpr (.inr hp)
        rw [← z, l] at l2
        have e1 := Option.some.inj l2
        have h1 := n.lt c hc
        have h2 := n.lt p hp
        rw [z, e1, lt_asym h2] at h1
        cases h1
    · rintro rfl
      exact .inl rfl
  by_cases z : p = c
  · rw [decide_eq_false (p := p ≠ c) (fun y => y z)]
    rcases key.mpr z with y | y
    · rw [decide_eq_true y]
      rfl
    · rw [decide_eq_true y, Bool.or_true]
      rfl
  · rw [decide_eq_true (p := p ≠ c) z]
    rw [decide_eq_false fun y => z (key.mp (.inl y)), decide_eq_false fun y => z (key.mp (.inr y))]
    rfl
/-- a cut leads there just where one is left out -/
theorem cut_near (n : Nrm ws ps) (m : Nrm ws qs) (hf : (qs.filter fun p => decide (p ∉ ps)) = []) {c : CoupT} {r : List CoupT} (hc : (ps.filter fun p => decide (p ∉ qs)) = c :: r) : decide (cutL ps c.1 = qs) = nearB ps qs := by
  rw [nearB_nil hf]
  have s := sub_of hf
  have l := part_len n m s
  obtain ⟨c1, c2⟩ := fresh_mem hc
  have e := cut_one n c1
  have nd := met_map_nodup n.ok.nd
  have le : (cutL ps c.1).length + 1 = ps.length := by
    rw [e]
    have h1 := len_split (fun p => decide (p ≠ c)) ps
    have h2 : (ps.filter fun p => !decide (p ≠ c)).Perm [c] := (List.perm_ext_iff_of_nodup (nd.sublist List.filter_sublist) (List.nodup_cons.mpr ⟨List.not_mem_nil, List.nodup_nil⟩)).mpr fun x => by
      rw [List.mem_filter, List.mem_singleton]
      simp only [decide_not, Bool.not_not, decide_eq_true_eq]
      exact ⟨fun h => h.2, fun h => ⟨h ▸ c1, h⟩⟩
    have h3 := h2.length_eq
    simp only [List.length_singleton] at h3
    omega
  refine decide_eq_decide.mpr ⟨fun h => ?_, fun h => ?_⟩
  · rw [h] at le
    omega
  · refine nrm_ext (nrm_cut n c.1) m fun x => ?_
    rw [e, List.mem_filter]
    have l1 : (ps.filter fun p => decide (p ∉ qs)) = [c] := by
      rw [hc] at l ⊢
      have : r.length = 0 := by simp only [List.length_cons] at l; omega
      rw [List.eq_nil_of_length_eq_zero this]
    constructor
    · rintro ⟨h1, h2⟩
      refine Decidable.byContradiction fun z => ?_
      have : x ∈ ps.filter fun p => decide (p ∉ qs) := List.mem_filter.mpr ⟨h1, decide_eq_true z⟩
      rw [l1] at this
      exact of_decide_eq_true h2 (List.mem_singleton.mp this)
    · intro hx
      exact ⟨s x hx, decide_eq_true fun z => c2 (z ▸ hx)⟩
/-! ### what relinked makes -/
def optP : Option EndT → Option EndT → List CoupT
  | some l, some r => [(l, r)]
  | _, _ => []
def rel2 (ps : List CoupT) (a b : EndT) : List CoupT := keepL ps a b ++ [(a, b)] ++ optP (lookE (partE ps) a) (lookE (partE ps) b)
theorem rel2_srt (n : Nrm ws ps) : (rel2 ps a b).map srtE = keepL ps a b ++ [srtE (a, b)] ++ optC (lookE (partE ps) a) (lookE (partE ps) b) := by
  unfold rel2
  rw [List.map_append, List.map_append]
  have k : (keepL ps a b).map srtE = keepL ps a b := by
    have h : ∀ xs : List CoupT, (∀ p ∈ xs, DatumOrd.lt p.1 p.2 = true) → xs.map srtE = xs := fun xs => by
      induction xs with
      | nil => exact fun _ => rfl
      | cons p r ih => exact fun h => by rw [List.map_cons, srt_id (h p List.mem_cons_self), ih fun q hq => h q (List.mem_cons_of_mem _ hq)]
    exact h _ fun p hp => n.lt p (List.mem_filter.mp hp).1
  rw [k]
  cases lookE (partE ps) a <;> cases lookE (partE ps) b <;> rfl
theorem rel2_ok (n : Nrm ws ps) (ha : a ∈ endsO ws) (hb : b ∈ endsO ws) (ne : a ≠ b) (np : lookE (partE ps) a ≠ some b) : PairsOk ws (rel2 ps a b) := by
  have ok := (nrm_cpl n ha hb ne np).ok
  have pm : (cplL ps a b).Perm ((rel2 ps a b).map srtE) := by rw [rel2_srt n]; exact List.mergeSort_perm _ leO
  have p2 : (metE (rel2 ps a b)).Perm (metE (cplL ps a b)) := (met_srt _).symm.trans (met_perm pm).symm
  exact ⟨p2.symm.nodup ok.nd, fun e he => ok.sub e (p2.subset he)⟩
theorem rel2_told (n : Nrm ws ps) (nd : ws.Nodup) (ha : a ∈ endsO ws) (hb : b ∈ endsO ws) (ne : a ≠ b) (np : lookE (partE ps) a ≠ some b) : coupL (sortO ws) (rel2 ps a b) = cplL ps a b := by
  rw [← coup_sorted nd (rel2_ok n ha hb ne np), rel2_srt n]
  rfl
end My
set_option Elab.async false
set_option linter.all false
set_option maxRecDepth 100000
set_option maxHeartbeats 4000000
/-! value in a list of texts, for a value of any kind -/
namespace PySem.SeqAt
open AutoSeq1 (wpAny_loadPart')
open MeetsSeq
theorem str_eq_declines_dict (b : Str) (u : Tok) (l : Addr) (c : Value) (es : Array DictEntry) (n : Nat) (dd : Option Addr) (sl : Array (Option Value)) :
    Meets (Builtin.«str.__eq__» ⟨[.str b u, .ref l], []⟩) (fun _ R s => s.heap.get? l = some { cls := c, dict := dd, data := .dict es n, slots := sl } ∧ R (.ok (.ret .notImplemented)) s) :=
  .of_wp fun prog w A R s h => by obtain ⟨hp, g, d, tk, os⟩ := s; obtain ⟨hl, h⟩ := h; wp_walk using wpAny_loadPart' hl, wpAny_load hl; exact ⟨_, rfl, h⟩
theorem dict_eq_declines_str (l : Addr) (es : Array DictEntry) (n : Nat) (dd : Option Addr) (sl : Array (Option Value)) (b : Str) (u : Tok) :
    Meets (Builtin.«dict.__eq__» ⟨[.ref l, .str b u], []⟩) (fun _ R s => s.heap.get? l = some { cls := .type "dict", dict := dd, data := .dict es n, slots := sl } ∧ R (.ok (.ret .notImplemented)) s) :=
  .of_wp fun prog w A R s h => by obtain ⟨hp, g, d, tk, os⟩ := s; obtain ⟨hl, h⟩ := h; have f1 := F.sub_str_dict; wp_walk using wpAny_loadPart' hl, wpAny_load hl; exact ⟨_, rfl, h⟩
section
variable {A : Around} {s : Shared}
theorem RcAt.str_dict {l : Addr} {o : Obj} {es : Array DictEntry} {n : Nat} (b : Str) (u : Tok) (ho : s.heap.get? l = some o) (hc : o.cls = .type "dict") (hd : o.data = .dict es n) (hu : A.units < cLine) : RcAt A s (.str b u) (.ref l) false := fun prog w E Q h => by
  obtain ⟨cls, dd, data, sl⟩ := o
  obtain rfl : cls = .type "dict" := hc
  obtain rfl : data = .dict es n := hd
  exact rc_eq_decline_or (k := false) (typeIs_str s b u) ⟨_, ho, rfl⟩ (by decide) F.sub_dict_str F.slot_str_eq F.slot_dict_eq_refl
    (fun _ hq => call_meets F.slot_str_eq (typeIs_str s b u) F.entry_str_eq (F.args_str_eq_2 _ _) (str_eq_declines_dict b u l (.type "dict") es n dd sl) ⟨ho, hq⟩)
    (fun _ hq => call_meets F.slot_dict_eq_refl ⟨_, ho, rfl⟩ F.entry_dict_eq (F.args_dict_eq_2 _ _) (dict_eq_declines_str l es n dd sl b u) ⟨ho, hq⟩)
    (fun _ hq => wpAny_of_eq (rfl : isSame (.str b u) (.ref l) = pure false) hq) (.inr hu) h
theorem EqAt.str_dict {l : Addr} {o : Obj} {es : Array DictEntry} {n : Nat} (b : Str) (u : Tok) (ho : s.heap.get? l = some o) (hc : o.cls = .type "dict") (hd : o.data = .dict es n) (hu : A.units < cLine) : EqAt A s (.str b u) (.ref l) false := fun prog w E Q h => by
  show wpAny _ _ (holding _ _) _ _ _
  refine wpAny_holding (wpAny_ite_split (fun z => absurd (eq_of_beq z) nofun) fun _ => ?_)
  exact wpAny_bind (RcAt.str_dict b u ho hc hd hu prog w E _ (wpAny_truthy_bool h))
end
end PySem.SeqAt
namespace My
open PySem PySem.Spec PyProof.Rows L2
/-- the value is one of the texts -/
def inTx (ns : List Str) : PyData → Bool
  | .str x => decide (x ∈ ns)
  | _ => false
def isTx (z : Str) : PyData → Bool
  | .str x => z == x
  | _ => false
section
variable {X : Cx} {pins : List (Addr × Obj)} {σ : L2.St} {H : Hp} {s : Shared} {p : Addr} {A : Around}
theorem eq_any (I : Inv X pins σ H s) {d : PyData} {v : V} {u : Value} (D : Da X.K p H v d) (r : RelV v u) (z : Str) (t : Tok) (hu : A.units < cLine) : SeqAt.EqAt A s (.str z t) u (isTx z d) := by
  cases D with
  | non =>
    cases r
    exact SeqAt.EqAt.str_none z t
  | bl b =>
    cases r
    exact SeqAt.EqAt.str_bool z t b
  | int i =>
    obtain ⟨k, rfl⟩ := r
    exact SeqAt.EqAt.str_int z t i k
  | str x =>
    obtain ⟨k, rfl⟩ := r
    exact SeqAt.EqAt.str_str z t x k
  | lst hne hs ha =>
    cases r
    obtain ⟨its, rv, il, _⟩ := I.list hs
    exact SeqAt.EqAt.str_list z t il.isList hu
  | tup hs ha =>
    cases r
    obtain ⟨its, rv, ⟨o, ho, hc, n, hd⟩, _⟩ := I.tuple hs
    exact SeqAt.EqAt.str_tuple z t ⟨o, ho, hc, n, hd⟩ hu
  | dct hn ho hv =>
    cases r
    obtain ⟨_, ns, vs, kv, o, ents, ep, h1, h2, h3, _, h5, _⟩ := dk_of I.hok ho
    exact SeqAt.EqAt.str_dict z t h1 h2.1 h3 hu
end
section
variable {X : Cx}
def rInTx (K : PySem.W.Frag) (neg : Bool) : R2 := fun x y H Q => ∃ (p : Addr) (d : PyData) (a : Addr) (ns : List Str), y = .ref a ∧ Da K p H x d ∧ SqL K H a (ns.map V.str) ∧ Q (.bl (if neg then !inTx ns d else inTx ns d)) H
def txOf : Value → Str
  | .str x _ => x
  | _ => Str.empty
theorem tx_items {ns : List Str} {its : List Value} (rv : Vals (ns.map V.str) its) : its.map txOf = ns ∧ ∀ y ∈ its, ∃ t, y = .str (txOf y) t := by
  induction ns generalizing its with
  | nil => cases rv; exact ⟨rfl, fun y hy => absurd hy List.not_mem_nil⟩
  | cons n ns ih =>
    cases rv with
    | cons r1 r2 =>
      obtain ⟨t, rfl⟩ := r1
      obtain ⟨h1, h2⟩ := ih r2
      exact ⟨by rw [List.map_cons, h1]; rfl, fun y hy => (List.mem_cons.mp hy).elim (fun e => ⟨t, by rw [e]; rfl⟩) (h2 y)⟩
theorem any_tx (d : PyData) : ∀ ns : List Str, ns.any (fun z => isTx z d) = inTx ns d
  | [] => by cases d <;> rfl
  | n :: ns => by
    rw [List.any_cons, any_tx d ns]
    cases d with
    | str x =>
      show ((n == x) || decide (x ∈ ns)) = decide (x ∈ n :: ns)
      rw [Bool.eq_iff_iff, Bool.or_eq_true, beq_iff_eq, decide_eq_true_iff, decide_eq_true_iff, List.mem_cons]
      exact or_congr ⟨fun e => e.symm, fun e => e.symm⟩ Iff.rfl
    | _ => rfl
theorem in_tx {pins : List (Addr × Obj)} {σ : L2.St} {H : Hp} {s : Shared} {x : V} {v : Value} {p a : Addr} {d : PyData} {ns : List Str} (hu : X.A.units + 64 < cLine) (I : Inv X pins σ H s) (rx : RelV x v) (D : Da X.K p H x d) (hs : SqL X.K H a (ns.map V.str)) :
    ∃ its : Array Value, s.heap.IsList a its ∧ (∀ y, y ∈ its → SeqAt.EqAt X.A.in1 s y v (isTx (txOf y) d)) ∧ its.any (fun y => isTx (txOf y) d) = inTx ns d := by
  obtain ⟨its, rv, il, _⟩ := I.list hs
  obtain ⟨h1, h2⟩ := tx_items rv
  refine ⟨its.toArray, il.isList, fun y hy => ?_, ?_⟩
  · obtain ⟨t, e⟩ := h2 y (by simpa using hy)
    have q := eq_any (A := X.A.in1) I D rx (txOf y) t (by show X.A.units + 1 < cLine; omega)
    rw [← e] at q
    exact q
  · rw [← any_tx, ← h1, List.any_map]
    simp
    rfl
theorem op_inTx (hu : X.A.units + 64 < cLine) : OpR X (compareOp .In) (rInTx X.K false) := by
  intro pins s σ H x y v u Q I rx ry ⟨p, d, a, ns, ey, D, hs, k⟩
  subst ey
  cases ry
  obtain ⟨its, il, he, ha⟩ := in_tx hu I rx D hs
  refine SeqAt.in_listAt (fun y => isTx (txOf y) d) il he ⟨.bl _, H, I, rfl, ?_⟩
  rw [ha]
  exact k
theorem op_notInTx (hu : X.A.units + 64 < cLine) : OpR X (compareOp .NotIn) (rInTx X.K true) := by
  intro pins s σ H x y v u Q I rx ry ⟨p, d, a, ns, ey, D, hs, k⟩
  subst ey
  cases ry
  obtain ⟨its, il, he, ha⟩ := in_tx hu I rx D hs
  refine SeqAt.notIn_listAt (fun y => isTx (txOf y) d) il he ⟨.bl _, H, I, rfl, ?_⟩
  rw [ha]
  exact k
end
end My
set_option Elab.async false
set_option linter.all false
set_option maxRecDepth 100000
set_option maxHeartbeats 4000000
/-! a != b, both None, or tuples of the same flat items -/
namespace My
open PySem PySem.Spec PyProof.Rows L2
def SameV (K : PySem.W.Frag) (H : Hp) (x y : V) : Prop := (x = .non ∧ y = .non) ∨ ∃ a b, ∃ xs : List V, x = .ref a ∧ y = .ref b ∧ SqT K H a xs ∧ SqT K H b xs ∧ ∀ v ∈ xs, flatB v = true
def rNeS (K : PySem.W.Frag) : R2 := fun x y H Q => SameV K H x y ∧ Q (.bl false) H
theorem op_neS {X : Cx} (hu : X.A.units + 64 < cLine) : OpR X (compareOp .NotEq) (rNeS X.K) := by
  intro pins s σ H x y v u Q I rx ry ⟨h, q⟩
  rcases h with ⟨rfl, rfl⟩ | ⟨a, b, xs, rfl, rfl, ha, hb, fl⟩
  · cases (show v = Value.none from rx)
    cases (show u = Value.none from ry)
    exact SeqAt.RcNeAt.none_none _ _ _ _ ⟨.bl false, H, I, rfl, q⟩
  · cases (show v = Value.ref a from rx)
    cases (show u = Value.ref b from ry)
    obtain ⟨its, r1, p1, _⟩ := I.tuple ha
    obtain ⟨its2, r2, p2, _⟩ := I.tuple hb
    have l1 := r1.length
    have l2 := r2.length
    have he : ∀ j (h1 : j < its.toArray.size) (h2 : j < its2.toArray.size), SeqAt.EqAt X.A.in1 s its.toArray[j] its2.toArray[j] ((fun _ => true) j) := fun j h1 h2 => by
      have h1' : j < its.length := by simpa using h1
      have h2' : j < its2.length := by simpa using h2
      have hx : xs[j]? = some xs[j] := List.getElem?_eq_getElem (by omega)
      obtain ⟨w1, e1, q1⟩ := r1.get hx
      obtain ⟨w2, e2, q2⟩ := r2.get hx
      have z1 : its.toArray[j] = w1 := by
        have := (List.getElem?_eq_some_iff.mp e1).2
        simpa using this
      have z2 : its2.toArray[j] = w2 := by
        have := (List.getElem?_eq_some_iff.mp e2).2
        simpa using this
      rw [z1, z2]
      exact eqAt_same q1 q2 (fl _ (List.mem_of_getElem? hx))
    have e : (!((List.range (min its.toArray.size its2.toArray.size)).all (fun _ => true) && its.toArray.size == its2.toArray.size)) = false := by
      have : its.length = its2.length := by omega
      simp [this]
    have R := SeqAt.RcNeAt.tuples (A := X.A) (s := s) p1 p2 (by omega) he
    rw [e] at R
    exact R _ _ _ _ ⟨.bl false, H, I, rfl, q⟩
end My
set_option Elab.async false
set_option linter.all false
set_option maxRecDepth 100000
set_option maxHeartbeats 4000000
/-! any value in a tuple of texts; a tuple of texts == a tuple of any values -/
namespace My
open PySem PySem.Spec PyProof.Rows L2
def eqTx : List Str → List PyData → Bool
  | [], [] => true
  | x :: xs, d :: ds => isTx x d && eqTx xs ds
  | _, _ => false
def eqAtN (xs : List Str) (ds : List PyData) (j : Nat) : Bool := isTx (xs.getD j Str.empty) (ds.getD j .none)
theorem eqTx_range : ∀ (xs : List Str) (ds : List PyData), ((List.range (min xs.length ds.length)).all (eqAtN xs ds) && xs.length == ds.length) = eqTx xs ds
  | [], [] => rfl
  | [], _ :: _ => rfl
  | _ :: _, [] => by simp [eqTx]
  | x :: xs, d :: ds => by
    have ih := eqTx_range xs ds
    have e : min (x :: xs).length (d :: ds).length = (min xs.length ds.length) + 1 := by simp only [List.length_cons]; omega
    rw [e, List.range_succ_eq_map, List.all_cons, List.all_map]
    have e2 : (eqAtN (x :: xs) (d :: ds) ∘ Nat.succ) = eqAtN xs ds := by funext j; rfl
    have e3 : ((x :: xs).length == (d :: ds).length) = (xs.length == ds.length) := by simp
    rw [e2, e3, Bool.and_assoc, ih]
    rfl
section
variable {X : Cx}
def rInTT (K : PySem.W.Frag) (neg : Bool) : R2 := fun x y H Q => ∃ (p : Addr) (d : PyData) (a : Addr) (ns : List Str), y = .ref a ∧ Da K p H x d ∧ SqT K H a (ns.map V.str) ∧ Q (.bl (if neg then !inTx ns d else inTx ns d)) H
theorem op_notInTT (hu : X.A.units + 64 < cLine) : OpR X (compareOp .NotIn) (rInTT X.K true) := by
  intro pins s σ H x y v u Q I rx ry ⟨p, d, a, ns, ey, D, hs, k⟩
  subst ey
  cases ry
  obtain ⟨its, rv, il, _⟩ := I.tuple hs
  obtain ⟨h1, h2⟩ := tx_items rv
  refine SeqAt.notIn_tupleAt (fun y => isTx (txOf y) d) il (fun y hy => ?_) ⟨.bl _, H, I, rfl, ?_⟩
  · obtain ⟨t, e⟩ := h2 y (by simpa using hy)
    have q := eq_any (A := X.A.in1) I D rx (txOf y) t (by show X.A.units + 1 < cLine; omega)
    rw [← e] at q
    exact q
  · have ha : its.toArray.any (fun y => isTx (txOf y) d) = inTx ns d := by
      rw [← any_tx, ← h1, List.any_map]
      simp
      rfl
    rw [ha]
    exact k
def rEqTT (K : PySem.W.Frag) : R2 := fun x y H Q => ∃ (p a b : Addr) (ns : List Str) (ys : List V) (ds : List PyData), x = .ref a ∧ y = .ref b ∧ SqT K H a (ns.map V.str) ∧ SqT K H b ys ∧ DaAll K p H ys ds ∧ Q (.bl (eqTx ns ds)) H
theorem op_eqTT (hu : X.A.units + 64 < cLine) : OpR X (compareOp .Eq) (rEqTT X.K) := by
  intro pins s σ H x y v u Q I rx ry ⟨p, a, b, ns, ys, ds, ex, ey, ha, hb, hd, k⟩
  subst ex ey
  cases rx
  cases ry
  obtain ⟨its, r1, p1, _⟩ := I.tuple ha
  obtain ⟨its2, r2, p2, _⟩ := I.tuple hb
  have l1 := r1.length
  have l2 := r2.length
  have ld := hd.length
  rw [List.length_map] at l1
  have he : ∀ j (h1 : j < its.toArray.size) (h2 : j < its2.toArray.size), SeqAt.EqAt X.A.in1 s its.toArray[j] its2.toArray[j] (eqAtN ns ds j) := fun j h1 h2 => by
    have h1' : j < its.length := by simpa using h1
    have h2' : j < its2.length := by simpa using h2
    have hx : (ns.map V.str)[j]? = some (.str ns[j]) := by rw [List.getElem?_map, List.getElem?_eq_getElem (by omega)]; rfl
    have hy : ys[j]? = some ys[j] := List.getElem?_eq_getElem (by omega)
    obtain ⟨w1, e1, q1⟩ := r1.get hx
    obtain ⟨w2, e2, q2⟩ := r2.get hy
    obtain ⟨dj, hdj, Dj⟩ := hd.at hy
    have z1 : its.toArray[j] = w1 := by
      have := (List.getElem?_eq_some_iff.mp e1).2
      simpa using this
    have z2 : its2.toArray[j] = w2 := by
      have := (List.getElem?_eq_some_iff.mp e2).2
      simpa using this
    rw [z1, z2]
    obtain ⟨t, rfl⟩ := q1
    have q := eq_any (A := X.A.in1) I Dj q2 ns[j] t (by show X.A.units + 1 < cLine; omega)
    have e : eqAtN ns ds j = isTx ns[j] dj := by
      unfold eqAtN
      rw [List.getD_eq_getElem?_getD, List.getD_eq_getElem?_getD, hdj, List.getElem?_eq_getElem (by omega)]
      rfl
    rw [e]
    exact q
  have R := SeqAt.RcAt.tuples (A := X.A) (s := s) p1 p2 (by omega) he
  have e : ((List.range (min its.toArray.size its2.toArray.size)).all (eqAtN ns ds) && its.toArray.size == its2.toArray.size) = eqTx ns ds := by
    rw [← eqTx_range ns ds, List.size_toArray, List.size_toArray, ← l1, ← l2, ld]
  rw [e] at R
  exact R _ _ _ _ ⟨.bl _, H, I, rfl, k⟩
end
end My
set_option Elab.async false
set_option linter.all false
set_option maxRecDepth 100000
set_option maxHeartbeats 4000000
/-! check_wagons, relinked -/
namespace My
open PySem PySem.Spec PyProof.Rows L2
open PySem.W (Datum DatumOrd EachIs)
abbrev rlSc : Scope := { kind := .function, names := [(".0", .local), ("coupling", .cell), ("any", .globalImplicit), ("ends", .cell)], isGenerator := false, isCoroutine := false }
section
variable {P : Program} {w : World} {K : PySem.W.Frag} {mg : Str → Option Value} {base : Heap}
def spChkW (K : PySem.W.Frag) (C : Addr) : Sp := fun vs H Q _ => ∃ (x l : Addr) (ws : List Str) (ps : List CoupT) (ns : List Str), vs = [.ref x, .ref l] ∧ LayAt K C H x ws ps ∧ SqL K H l (ns.map V.str) ∧ (∀ n ∈ ns, n ∈ ws) ∧ Q .non H
theorem ok_chkW {f f1 C CL g1 p1 : Addr} {fd d1 e1 : FuncData} (F : Fun K "check_wagons" "check_wagons" sCheckWagons f fd) (RC : LayCls K C) (CL1 : Has P w K mg base 3 "check_layout" ["value"] (sp0 (spChkL K C CL)) f1 d1)
    (pW : PropOf K C "wagons" p1 g1) (oW : FnOk P w K mg base CX0 1 g1 e1 ["self"] (spLyW K C)) (bW : L2.Binds K e1 ["self"] []) : FnOk P w K mg base CX0 4 f fd ["layout", "names"] (spChkW K C) := by
  refine F.ok scCheckWagons (fun vs H Q E h => ?_) (fun cdv A outer s H vs Q E hr h => ?_)
  · obtain ⟨x, l, ws, ps, ns, rfl, _⟩ := h
    rfl
  · obtain ⟨x, l, ws, ps, ns, rfl, lay, hs, hin, q⟩ := h
    have hr2 := hr.mono (show 2 ≤ 3 by decide)
    refine ⟨_, pss_cons (ps_expr (pe_has CL1 hr (by rfl) (pa_cons (pv 0) pa_nil)))
      (pss_one (ps_for PassesOwn.never rfl (pi_list (pv 1)) (pg_name (i := 2) scCheckWagons.nd rfl (.inl rfl))
        (pss_one (ps_if (pt_cmpR (op_notInTT hr.units) (pv 2) (pe_prop (pv 0) RC.c pW oW hr2 bW .nil pass0 rfl) (by rfl)) (pss_one ps_no) pss_nil)))), ?_⟩
    refine ⟨_, rfl, _, rfl, .inl ⟨x, ws, ps, rfl, lay, ?_⟩⟩
    refine ⟨_, rfl, l, rfl, ⟨_, hs⟩, ?_⟩
    refine for_list (K := K) (a := l) (xs := ns.map V.str) (fun j σ H' => H' = H ∧ ∃ y, σ = [some (.ref x), some (.ref l), y]) ⟨rfl, _, rfl⟩ (fun j σ H' hj ⟨e, _⟩ => by rw [e]; exact hs) (fun j v σ H' hv hp => ?_) (fun σ H' ⟨e, _⟩ => by rw [e]; exact q)
    obtain ⟨rfl, y, rfl⟩ := hp
    rw [List.getElem?_map] at hv
    obtain ⟨n, hn, rfl⟩ := Option.map_eq_some_iff.mp hv
    obtain ⟨dxa, _, _, _, _, _, _, ha, _⟩ := id lay
    refine ⟨_, rfl, _, rfl, x, dxa, _, rfl, ha, x, ws, ps, rfl, lay, fun tw htw => ?_⟩
    refine ⟨0, .str n, tw, sortO ws, rfl, .str n, htw, _, rfl, ?_⟩
    have hi : inTx (sortO ws) (.str n) = true := decide_eq_true ((List.mergeSort_perm ws leO).symm.subset (hin n (List.mem_of_getElem? hn)))
    rw [hi]
    exact iteF ⟨rfl, _, rfl⟩
/-- one end, or two ends that are not partners -/
inductive EsOk (ws : List Str) (ps : List CoupT) : List EndT → List CoupT → Prop
  | one {e : EndT} : e ∈ endsO ws → EsOk ws ps [e] (cutL ps e)
  | two {a b : EndT} : a ∈ endsO ws → b ∈ endsO ws → a ≠ b → lookE (partE ps) a ≠ some b → EsOk ws ps [a, b] (rel2 ps a b)
def prOf : List EndT → List CoupT
  | [a, b] => [(a, b)]
  | _ => []
def offL (ps : List CoupT) (es : List EndT) : List CoupT := ps.filter fun p => !es.any fun e => decide (e = p.1) || decide (e = p.2)
theorem EsOk.eq {ws : List Str} {ps rs : List CoupT} {es : List EndT} (h : EsOk ws ps es rs) : rs = offL ps es ++ prOf es ++ prOf (es.filterMap fun e => lookE (partE ps) e) := by
  cases h with
  | @one e he =>
    have h2 : prOf ([e].filterMap fun e => lookE (partE ps) e) = [] := by
      rw [List.filterMap_cons]
      cases lookE (partE ps) e <;> rfl
    rw [h2]
    show cutL ps e = offL ps [e] ++ [] ++ []
    rw [List.append_nil, List.append_nil]
    refine List.filter_congr fun p _ => ?_
    rw [List.any_cons, List.any_nil, Bool.or_false]
  | @two a b ha hb ne np =>
    have h2 : prOf ([a, b].filterMap fun e => lookE (partE ps) e) = optP (lookE (partE ps) a) (lookE (partE ps) b) := by
      rw [List.filterMap_cons, List.filterMap_cons]
      cases lookE (partE ps) a <;> cases lookE (partE ps) b <;> rfl
    rw [h2]
    show keepL ps a b ++ [(a, b)] ++ _ = offL ps [a, b] ++ [(a, b)] ++ _
    congr 2
    refine List.filter_congr fun p _ => ?_
    simp only [List.any_cons, List.any_nil, Bool.or_false, Bool.not_or]
theorem EsOk.ends {ws : List Str} {ps rs : List CoupT} {es : List EndT} (h : EsOk ws ps es rs) : (∀ e ∈ es, e ∈ endsO ws) ∧ es.length ≤ 2 := by
  cases h with
  | one he => exact ⟨fun e h => by rw [List.mem_singleton.mp h]; exact he, Nat.le_succ 1⟩
  | two ha hb ne np => exact ⟨fun e h => by
      rcases List.mem_cons.mp h with rfl | h
      · exact ha
      · rw [List.mem_singleton.mp h]
        exact hb, Nat.le_refl 2⟩
theorem EsOk.ok {ws : List Str} {ps rs : List CoupT} {es : List EndT} (n : Nrm ws ps) (h : EsOk ws ps es rs) : PairsOk ws rs := by
  cases h with
  | one he => exact (nrm_cut n _).ok
  | two ha hb ne np => exact rel2_ok n ha hb ne np
def spRlk (K : PySem.W.Frag) (C : Addr) : Sp := fun vs H Q _ => ∃ (x t : Addr) (us : List V) (es : List EndT) (ws : List Str) (ps rs : List CoupT), vs = [.ref x, .ref t] ∧ LayAt K C H x ws ps ∧ WagA ws ∧ Nrm ws ps ∧ H t = some (.tup us) ∧ EachIs (EndV H) us es ∧ EsOk ws ps es rs ∧
  ∀ z H', H z = none → LayAt K C H' z ws rs → Same H H' → Q (.ref z) H'
theorem ok_rlk {f C CE CN fG fI g1 p1 g2 p2 : Addr} {fd dG dI e1 e2 : FuncData} (F : Fun K "relinked" "relinked" sRelinked f fd) (RC : LayCls K C) (B : Glb mg) (ma : mg "any" = none)
    (oG : FnOk P w K mg base CX0 4 fG dG ["self", "end"] (sp0 (spLyG K C CE CN))) (bG : L2.Binds K dG ["self", "end"] []) (sG : PySem.W.findIn K (.ref C) "__getitem__" = some (some (.ref fG))) (fnG : PySem.W.fnIn K fG = true) (nG : PySem.W.isFn K (.ref fG) = true)
    (M : Mk K C fI) (oI : FnOk P w K mg base CX0 7 fI dI ["self", "wagons", "couplings"] (spLay K C)) (gC : mg "Layout" = some (.ref C)) (b0 : L2.Binds K dI ["self", "wagons", "couplings"] [])
    (pW : PropOf K C "wagons" p1 g1) (oW : FnOk P w K mg base CX0 1 g1 e1 ["self"] (spLyW K C)) (bW : L2.Binds K e1 ["self"] []) (pC : PropOf K C "couplings" p2 g2) (oC : FnOk P w K mg base CX0 1 g2 e2 ["self"] (spLyC K C)) (bC : L2.Binds K e2 ["self"] []) :
    FnOk P w K mg base CX0 9 f fd ["layout", "ends"] (spRlk K C) := by
  refine F.ok scRelinked (fun vs H Q E h => ?_) (fun cdv A outer s H vs Q E hr h => ?_)
  · obtain ⟨x, t, us, es, ws, ps, rs, rfl, _⟩ := h
    rfl
  · obtain ⟨x, t, us, es, ws, ps, rs, rfl, lay, wa, nr, ht, hus, eo, q⟩ := h
    have hr2 := hr.mono (show 2 ≤ 8 by decide)
    have hr5 := hr.mono (show 5 ≤ 8 by decide)
    have hu64 : (A.deeper (envOfC "relinked" (defScope sRelinked) s.heap.objs.size f cdv)).units + 64 < cLine := hr.units
    refine ⟨_, pss_cons (ps_setLc (i := 2) (own := [("coupling", 5)]) (g := gName 5) (tt := tNot (tB (tCB (rAny K) (tCons (tLc (iTup K (tVar 1)) (gName 6) tYes (tOp (rInT2 K false) (tVar 6) (tVar 5)) [6]) tNil)))) (te := tVar 5) rfl scRelinked.nd rfl rfl rfl (pi_tup (pe_prop (pv 0) RC.c pC oC hr2 bC .nil pass0 rfl))
        (blkOk_by (own := [("coupling", 5)]) (N := ["layout", "ends", "couplings", "partners", "pair", "coupling", "end"]) (sc := defScope sRelinked) (by decide +kernel)) (fun _ _ _ _ _ => pg_name (i := 5) scRelinked.nd rfl (Or.inr rfl))
        (fun _ _ _ _ _ => pts_one (pt_not (pt_val (pe_callB (cr_any rfl) (by rfl) ma (by decide +kernel) (pa_cons (pe_lc (own := [("end", 6)]) (g := gName 6) (tt := tYes) (te := tOp (rInT2 K false) (tVar 6) (tVar 5)) rfl scRelinked.nd (pi_tup (pv 1))
          (blkOk_by (own := [("end", 6)]) (N := ["layout", "ends", "couplings", "partners", "pair", "coupling", "end"]) (sc := rlSc) (by decide +kernel)) (fun _ _ _ _ _ => pg_name (i := 6) scRelinked.nd rfl (Or.inl rfl)) (fun _ _ _ _ _ => pts_nil)
          (fun _ _ _ _ _ => pe_cmpR (op_inT2 hu64) (pv 6) (pv 5) (by rfl))) pa_nil)))))
        (fun _ _ _ _ _ => pv 5))
      (pss_cons (ps_setLc (i := 3) (own := [("end", 6)]) (g := gName 6) (tt := tTest (tOp (fun x y H Q => y = .non ∧ Q (.bl (!decide (x = .non))) H) (tGetOwn C (sp0 (spLyG K C CE CN)) E0 (tVar 0) (tVar 6)) (tC .non))) (te := tGetOwn C (sp0 (spLyG K C CE CN)) E0 (tVar 0) (tVar 6)) rfl scRelinked.nd rfl rfl rfl (pi_tup (pv 1))
        (blkOk_by (own := [("end", 6)]) (N := ["layout", "ends", "couplings", "partners", "pair", "coupling", "end"]) (sc := defScope sRelinked) (by decide +kernel)) (fun _ _ _ _ _ => pg_name (i := 6) scRelinked.nd rfl (Or.inl rfl))
        (fun _ _ _ _ _ => pts_one (pt_cmpR op_notN (pe_getOwn oG hr5 bG sG fnG nG pass0 (pv 0) (pv 6) (fun _ _ => rfl)) pe_non (nomark _)))
        (fun _ _ _ _ _ => pe_getOwn oG hr5 bG sG fnG nG pass0 (pv 0) (pv 6) (fun _ _ => rfl)))
      (pss_cons (ps_for PassesOwn.never rfl (pi_tup (pe_tup (pa_cons (pv 1) (pa_cons (pe_callTy call_tuple_of (by rfl) B.tuple (by decide +kernel) (pa_cons (pv 3) pa_nil)) pa_nil)))) (pg_name (i := 4) scRelinked.nd rfl (.inl rfl))
        (pss_one (ps_if (pt_cmpR op_eq (pe_callB call_len (by rfl) B.len PySem.boot_len (pa_cons (pv 4) pa_nil)) pe_int (nomark _)) (pss_one (ps_expr (pe_bm PySem.F.plainAttrs_list PySem.F.slot_list_append PySem.F.type_list_append mt_append (pv 2) (pa_cons (pv 4) pa_nil)))) pss_nil)))
      (pss_one (ps_ret (pe_make M oI hr (by rfl) gC b0 .nil pass0 (pa_cons (pe_prop (pv 0) RC.c pW oW hr2 bW .nil pass0 rfl) (pa_cons (pv 2) pa_nil))))))), ?_⟩
    obtain ⟨eok, e2⟩ := eo.ends
    have rok := eo.ok nr
    have req := eo.eq
    have lus := hus.length
    have htT : ∀ {H' : Hp}, Same H H' → SqT K H' t us := fun s => .inl (.inl (s _ _ ht))
    obtain ⟨dxa, _, _, _, _, _, _, hxa, _⟩ := id lay
    have nfew := pairs_few nr.ok
    have wfew := wa.ok.few
    -- couplings
    refine ⟨_, rfl, x, dxa, _, rfl, hxa, x, ws, ps, rfl, lay, fun tc uc htc huc => ?_⟩
    rw [wa.self, ← wa.self, nrm_told wa.ok.nd nr] at huc
    refine ⟨tc, rfl, ⟨_, htc⟩, fun D hD => ?_⟩
    refine lc_pairs (K := K) (f := fun p => !es.any fun e => decide (e = p.1) || decide (e = p.2)) (.inr htc) (sq_tup (K := K) (a := tc) (xs := uc)) (fun H' s => s.keeps.t _ _ htc) huc (by rw [huc.length]; omega) hD (fun _ => rfl) (fun _ => rfl) (fun v c H' R s hc mc k => ?_) (fun u1 H1 e1 h1 s1 => ?_)
    · refine ⟨_, rfl, t, rfl, ⟨_, htT s⟩, fun D2 hD2 => ?_⟩
      refine lcN_sq (sq_tup (K := K) (a := t) (xs := us)) (fun j H2 => H2 D2 = some (.lst (((es.take j).map fun e => decide (e = c.1) || decide (e = c.2)).map V.bl)) ∧ Same H' H2) ⟨upd_same, same_new hD2⟩ (fun j H2 hp => htT (s.trans hp.2)) (fun j u H2 hu hp => ⟨rfl, ?_⟩) (fun H2 hp => ?_)
      · obtain ⟨eD, sm⟩ := hp
        obtain ⟨e, he, hue⟩ := each_at (ends_keep (s.trans sm).tupK hus) hu
        have lj : j < us.length := (List.getElem?_eq_some_iff.mp hu).1
        refine ⟨_, rfl, _, rfl, in_coup hue (hc.keep sm.tupK) ⟨_, eD, Evl.sz_lt (by rw [List.length_map, List.length_map, List.length_take]; omega), ?_, fun b o z => by rw [upd_ne (ne_of_none z hD2)]; exact sm b o z⟩⟩
        rw [upd_same, List.take_add_one, he, List.map_append, List.map_append]
        rfl
      · obtain ⟨eD, sm⟩ := hp
        rw [lus, List.take_length] at eD
        refine ⟨D2, _, rfl, .inl (.inl eD), _, rfl, ?_⟩
        have kk := k H2 sm
        rw [List.any_map]
        exact kk
    have h1 : EachIs (CoupV H1) u1 (offL ps es) := h1
    have l1 : u1.length ≤ 100 := by
      rw [h1.length]
      exact Nat.le_trans (List.length_filter_le _ _) (by omega)
    -- partners
    have lay1 := lay.sm s1
    refine ⟨_, rfl, t, rfl, ⟨_, htT s1⟩, fun D3 hD3 => ?_⟩
    refine lcT_sq (sq_tup (K := K) (a := t) (xs := us)) (fun j H2 => ∃ up, H2 D3 = some (.lst up) ∧ EachIs (EndV H2) up ((es.take j).filterMap fun e => lookE (partE ps) e) ∧ up.length ≤ j ∧ Same H1 H2) ⟨[], upd_same, .nil, Nat.le_refl _, same_new hD3⟩ (fun j H2 ⟨_, _, _, _, sm⟩ => htT (s1.trans sm)) (fun j u H2 hu hp => ⟨rfl, ?_⟩) (fun H2 hp => ?_)
    · obtain ⟨up, eD, hup, lup, sm⟩ := hp
      obtain ⟨e, he, hue⟩ := each_at (ends_keep (s1.trans sm).tupK hus) hu
      have lj : j < us.length := (List.getElem?_eq_some_iff.mp hu).1
      have tk : (es.take (j + 1)).filterMap (fun e => lookE (partE ps) e) = (es.take j).filterMap (fun e => lookE (partE ps) e) ++ [e].filterMap fun e => lookE (partE ps) e := by
        rw [List.take_add_one, he, List.filterMap_append]
        rfl
      have me := eok e (List.mem_of_getElem? he)
      have ew := (mem_endsO.mp me).1
      have es2 := (mem_endsO.mp me).2
      have lay2 := lay1.sm sm
      obtain ⟨dxb, _, _, _, _, _, _, hxb, _⟩ := id lay2
      have nmE := wa.ok.nm _ ew
      refine ⟨_, rfl, _, rfl, x, dxb, _, rfl, hxb, x, ws, ps, u, rfl, lay2, .inr ⟨e, hue, nmE, es2, fun no => absurd ew no, fun _ H3 s3 => ?_⟩⟩
      have sm3 := sm.trans s3
      have eD3 := s3 _ _ eD
      refine ⟨fun z => ⟨rfl, _, rfl, ?_⟩, fun qq v z hv => ⟨rfl, _, rfl, ?_⟩⟩
      · refine iteF ⟨up, eD3, ?_, by omega, sm3⟩
        rw [tk, List.filterMap_cons, z]
        exact (List.append_nil _).symm ▸ ends_keep s3.tupK hup
      · have nv : v ≠ .non := by obtain ⟨b, rfl, _⟩ := hv; exact fun z => nomatch z
        rw [decide_eq_false nv]
        refine iteT ?_
        have lay3 := lay2.sm s3
        obtain ⟨dxc, _, _, _, _, _, _, hxc, _⟩ := id lay3
        refine ⟨_, rfl, _, rfl, x, dxc, _, rfl, hxc, x, ws, ps, u, rfl, lay3, .inr ⟨e, hue.keep s3.tupK, nmE, es2, fun no => absurd ew no, fun _ H4 s4 => ⟨fun z2 => (by rw [z] at z2; cases z2), fun q2 v2 z2 hv2 => ?_⟩⟩⟩
        rw [z] at z2
        cases z2
        have eD4 := s4 _ _ eD3
        refine ⟨up, eD4, Evl.sz_lt (by omega), up ++ [v2], upd_same, ?_, by rw [List.length_append]; show _ + 1 ≤ _; omega, fun b o y => by rw [upd_ne (ne_of_none y hD3)]; exact s4 _ _ (sm3 b o y)⟩
        have tK : TupK H4 (upd H4 D3 (.lst (up ++ [v2]))) := .at fun xs y => by rw [eD4] at y; cases y
        rw [tk, List.filterMap_cons, z]
        exact each_app (ends_keep ((s3.trans s4).tupK.trans tK) hup) (.cons (hv2.keep tK) .nil)
    obtain ⟨up, eD, hup, lup, sm⟩ := hp
    rw [lus, List.take_length] at hup
    have S2 := s1.trans sm
    have e12 := sm _ _ e1
    have h12 := coups_keep sm.tupK h1
    clear hD3 s1 sm e1 h1 lay1 htc huc
    generalize offL ps es = base at h12 req
    generalize hpp : (es.filterMap fun e => lookE (partE ps) e) = pp at hup req
    have lpp : pp.length ≤ 2 := by rw [← hpp]; exact Nat.le_trans (List.length_filterMap_le _ _) e2
    clear hpp
    have lup2 := hup.length
    -- the two pairs
    refine ⟨_, rfl, _, rfl, D3, up, rfl, .inl ⟨.inl (.inl eD), fun tp htp => ?_⟩⟩
    have s3 := same_new (o := HO.tup up) htp
    have et3 : (upd H2 tp (.tup up)) tp = some (.tup up) := upd_same
    have S3 := S2.trans s3
    have e13 := s3 _ _ e12
    have h13 := coups_keep s3.tupK h12
    have hup3 := ends_keep s3.tupK hup
    generalize upd H2 tp (.tup up) = H3 at s3 et3 S3 e13 h13 hup3
    clear s3 htp S2 e12 h12 hup eD H2
    refine ⟨by show 2 ≤ sizeLine; decide, fun td htd => ?_⟩
    have s4 := same_new (o := HO.tup [V.ref t, .ref tp]) htd
    have et4 := s4 _ _ et3
    have etd : SqT K (upd H3 td (.tup [V.ref t, .ref tp])) td [V.ref t, .ref tp] := .inl (.inl upd_same)
    have S4 := S3.trans s4
    have e14 := s4 _ _ e13
    have h14 := coups_keep s4.tupK h13
    have hup4 := ends_keep s4.tupK hup3
    generalize upd H3 td (.tup [V.ref t, .ref tp]) = H4 at s4 et4 etd S4 e14 h14 hup4
    clear s4 htd et3 S3 e13 h13 hup3 H3
    refine ⟨td, rfl, ⟨_, etd⟩, ?_⟩
    refine for_sq (sq_tup (K := K) (a := td) (xs := [V.ref t, .ref tp])) (fun j σ H' => ∃ (w1 : List V) (y4 y5 y6 : Option V), σ = [some (.ref x), some (.ref t), some (.ref D), some (.ref D3), y4, y5, y6] ∧ H' D = some (.lst w1) ∧ EachIs (CoupV H') w1 (base ++ ([prOf es, prOf pp].take j).flatten) ∧ w1.length ≤ 100 + j ∧ Same H H' ∧ H' tp = some (.tup up) ∧ EachIs (EndV H') up pp ∧ SqT K H' td [V.ref t, .ref tp])
      ⟨u1, _, _, _, rfl, e14, by rw [List.take_zero, List.flatten_nil, List.append_nil]; exact h14, l1, S4, et4, hup4, etd⟩ (fun j σ H' ⟨_, _, _, _, _, _, _, _, _, _, _, z⟩ => z) (fun j v σ H' hv hp => ?_) (fun σ H' hp => ?_)
    · obtain ⟨w1, y4, y5, y6, rfl, eD, hw, lw, sm, etp, hup5, etd5⟩ := hp
      have jl : j < 2 := (List.getElem?_eq_some_iff.mp hv).1
      obtain ⟨tj, uj, ej, rfl, etj, huj, tk⟩ : ∃ tj uj ej, v = .ref tj ∧ H' tj = some (.tup uj) ∧ EachIs (EndV H') uj ej ∧ ([prOf es, prOf pp].take (j + 1)).flatten = ([prOf es, prOf pp].take j).flatten ++ prOf ej := by
        match j, hv with
        | 0, hv =>
          cases hv
          exact ⟨t, us, es, rfl, sm _ _ ht, ends_keep sm.tupK hus, by simp⟩
        | 1, hv =>
          cases hv
          exact ⟨tp, up, pp, rfl, etp, hup5, by simp⟩
        | j + 2, hv => exact absurd jl (by omega)
      refine ⟨_, rfl, .ref tj, uj.length, rfl, .inr ⟨uj, .inl (.inl etj), rfl⟩, rfl, _, rfl, ?_⟩
      have lej := huj.length
      by_cases l2 : uj.length = 2
      · rw [decide_eq_true (show V.int (uj.length : Int) = V.int 2 by rw [l2]; rfl)]
        match uj, ej, huj, lej with
        | [v1, v2], [a, b], .cons ha (.cons hb .nil), _ =>
          refine iteT ⟨_, rfl, .inl ⟨rfl, _, .inl (.inl eD)⟩, _, rfl, D, w1, .ref tj, rfl, rfl, eD, Evl.sz_lt (by omega), ?_⟩
          have tK : TupK H' (upd H' D (.lst (w1 ++ [.ref tj]))) := .at fun xs y => by rw [eD] at y; cases y
          have kT : KeepsT K H' (upd H' D (.lst (w1 ++ [.ref tj]))) := KeepsT.lst eD
          refine ⟨w1 ++ [.ref tj], _, _, _, rfl, upd_same, ?_, by rw [List.length_append]; show _ + 1 ≤ _; omega, fun b o y => by rw [upd_ne (ne_of_none y hD)]; exact sm b o y, tK _ _ etp, ends_keep tK hup5, kT _ _ etd5⟩
          rw [tk, ← List.append_assoc]
          exact each_app (coups_keep tK hw) (.cons ⟨tj, v1, v2, rfl, tK _ _ etj, ha.keep tK, hb.keep tK⟩ .nil)
      · rw [decide_eq_false (show V.int (uj.length : Int) ≠ V.int 2 from fun z => l2 (by have := V.int.inj z; omega))]
        have pn : prOf ej = [] := by
          match ej, lej with
          | [], _ => rfl
          | [_], _ => rfl
          | [_, _], lej => exact absurd lej (by simpa using l2)
          | _ :: _ :: _ :: _, _ => rfl
        exact iteF ⟨w1, _, _, _, rfl, eD, by rw [tk, pn, List.append_nil]; exact hw, by omega, sm, etp, hup5, etd5⟩
    · obtain ⟨w1, y4, y5, y6, rfl, eD, hw, lw, sm, etp, hup5, etd5⟩ := hp
      have hw : EachIs (CoupV H') w1 rs := by
        rw [req]
        have e : base ++ ([prOf es, prOf pp].take 2).flatten = base ++ prOf es ++ prOf pp := by simp
        rw [← e]
        exact hw
      have lay5 := lay.sm sm
      obtain ⟨dxe, _, _, _, _, _, _, hxe, _⟩ := id lay5
      refine ⟨_, rfl, x, dxe, _, rfl, hxe, x, ws, ps, rfl, lay5, fun tw htw => ?_⟩
      rw [wa.self] at htw
      refine ⟨_, rfl, ?_⟩
      intro z dz hz hdz ndz
      have sI : Same H' (upd (upd H' dz (.own z)) z (.ins C dz [])) := fun b o e => by rw [upd_ne (ne_of_none e hz), upd_ne (ne_of_none e hdz)]; exact e
      refine ⟨z, dz, tw, D, w1, rs, ws, rfl, upd_same, .inr (sI.keeps.t _ _ htw), wa.ok, .inl (.inl (.inl (sI _ _ eD))), coups_keep sI.tupK hw, rok, fun HL sx lz => ⟨rfl, ?_⟩⟩
      have sL := same_ins hz hdz sx
      exact q z HL (Option.eq_none_iff_forall_ne_some.mpr fun o e => by rw [sm _ _ e] at hz; cases hz) lz (sm.trans sL)
end
end My
set_option Elab.async false
set_option linter.all false
set_option maxRecDepth 100000
set_option maxHeartbeats 4000000
/-! o == value, o != value, o of an own class with __eq__ (and no __ne__) -/
namespace My
open PySem PySem.Spec PyProof.Rows L2
section
variable {prog : Program} {w : World} {A : Around} {E : Value → Shared → Prop} {s : Shared} {K : PySem.W.Frag} {x C f : Addr} {ox : Obj} {od : Option Obj}
/-- what is found along the class and bound -/
theorem if_bound {name : Str} {g : Value} {Q : Option (Value × List Value) → Shared → Prop} (X : K.In s.heap) (I : PySem.W.InstAt s.heap x ox C od) (hs : PySem.W.findIn K (.ref C) name = some (some g))
    (hb : PySem.W.Looks (model prog w) s.heap (bindSpecial g (.ref x)) (g, [.ref x])) (h : Q (some (g, [.ref x])) s) : wpAny (model prog w) A (bindSpecialIfBound? (.ref x) name) Q E s := by
  have sp : PySem.W.Looks (model prog w) s.heap (specialOf (.ref x) name) (some g) := I.type.andThen (PySem.W.looks_findIn X hs)
  unfold bindSpecialIfBound?
  refine wpAny_bind (sp.here ?_)
  refine wpAny_bind (wpAny_askSetting ?_)
  dsimp only []
  split
  · exact wpAny_bind (hb.here (wpAny_pure h))
  · exact wpAny_tryCatch (wpAny_bind (hb.here (wpAny_pure h)))
theorem call_bound {name : Str} {g y : Value} {Q : Option Value → Shared → Prop} (X : K.In s.heap) (I : PySem.W.InstAt s.heap x ox C od) (hs : PySem.W.findIn K (.ref C) name = some (some g))
    (hb : PySem.W.Looks (model prog w) s.heap (bindSpecial g (.ref x)) (g, [.ref x])) (h : wpAny (model prog w) A (call g [.ref x, y]) (fun v s' => Q (some v) s') E s) : wpAny (model prog w) A (callSpecialIfBound? (.ref x) name [y]) Q E s := by
  unfold callSpecialIfBound?
  refine wpAny_holding (wpAny_bind (if_bound X I hs hb ?_))
  exact wpAny_bind (wpAny_mono h (fun r s' z => wpAny_pure z) fun _ _ z => z)
theorem bound_fn (X : K.In s.heap) (hf : PySem.W.isFn K (.ref f) = true) (self : Value) : PySem.W.Looks (model prog w) s.heap (bindSpecial (.ref f) self) (.ref f, [self]) := PySem.W.bind_fn X _ (beq_iff_eq.mp hf)
/-- the way of == and != to the left one's own -/
theorem rc_left {op : CmpOp} {g y tb : Value} {Q : Value → Shared → Prop} (hu : A.units < cLine) (X : K.In s.heap) (I : PySem.W.InstAt s.heap x ox C od) (ty : PySem.W.Looks (model prog w) s.heap (typeOf y) tb) (nf : PySem.W.notFirst K C tb = true)
    (hs : PySem.W.findIn K (.ref C) (cmpInfo op).2.1 = some (some g)) (hb : PySem.W.Looks (model prog w) s.heap (bindSpecial g (.ref x)) (g, [.ref x]))
    (h : wpAny (model prog w) A (call g [.ref x, y]) (fun r s' => ∃ b, r = .bool b ∧ Q (.bool b) s') E s) : wpAny (model prog w) A (richCompare op (.ref x) y) Q E s := by
  unfold richCompare
  refine wpAny_holding (wpAny_bind (wpAny_cRoomFor_or (.inr hu) ?_))
  have e1 : oneThing? op (.ref x) y = none := by
    unfold oneThing?
    rfl
  rw [e1]
  dsimp only []
  have key : wpAny (model prog w) A (tryCompare (.ref x) (cmpInfo op).2.1 y) (fun r s' => ∃ b, r = some (.bool b) ∧ Q (.bool b) s') E s := by
    unfold tryCompare
    refine wpAny_bind (call_bound X I hs hb (wpAny_mono h (fun r s' z => ?_) fun _ _ z => z))
    obtain ⟨b, rfl, q⟩ := z
    exact wpAny_pure ⟨b, rfl, q⟩
  refine wpAny_bind (I.type.here (wpAny_bind (ty.here ?_)))
  by_cases ne : ((Value.ref C) != tb) = true
  · rw [if_pos ne]
    have hsub : PySem.W.subIn K tb (.ref C) = some false := by
      unfold PySem.W.notFirst at nf
      rcases Bool.or_eq_true_iff.mp nf with z | z
      · rw [eq_of_beq z] at ne
        simp at ne
      · exact eq_of_beq z
    refine wpAny_bind ((PySem.W.looks_subIn X hsub).here ?_)
    rw [if_neg Bool.false_ne_true]
    refine wpAny_bind (wpAny_mono key (fun r s' z => ?_) fun _ _ z => z)
    obtain ⟨b, rfl, q⟩ := z
    exact wpAny_pure q
  · rw [if_neg ne]
    refine wpAny_bind (wpAny_pure ?_)
    rw [if_neg Bool.false_ne_true]
    refine wpAny_bind (wpAny_mono key (fun r s' z => ?_) fun _ _ z => z)
    obtain ⟨b, rfl, q⟩ := z
    exact wpAny_pure q
/-- object.__ne__ of an own instance whose class has an own __eq__ -/
theorem call_objNe {y : Value} {Q : Value → Shared → Prop} (hu : A.units + 1 < cLine) (X : K.In s.heap) (I : PySem.W.InstAt s.heap x ox C od) (sub : PySem.W.subIn K (.ref C) (.type "object") = some true)
    (hs : PySem.W.findIn K (.ref C) "__eq__" = some (some (.ref f))) (hf : PySem.W.isFn K (.ref f) = true)
    (h : wpAny (model prog w) A.in1 (call (.ref f) [.ref x, y]) (fun r s' => ∃ b, r = .bool b ∧ Q (.bool !b) s') E s) : wpAny (model prog w) A (call (.builtin "object.__ne__") [.ref x, y]) Q E s := by
  refine wpAny_call ?_
  refine codeAny_call_builtin (b := Builtin.«object.__ne__») PySem.F.slot_object_ne.plain PySem.F.entry_object_ne ?_
  have ck : ∀ {B : Around} {E' : Value → Shared → Prop} {Q' : Unit → Shared → Prop}, Q' () s → wpAny (model prog w) B (checkBuiltinCall "object.__ne__" ⟨[.ref x, y], []⟩) Q' E' s := fun {B E' Q'} q => by
    unfold checkBuiltinCall
    rw [show builtinKind "object.__ne__" = some .slot by decide +kernel, show splitId "object.__ne__" = some ("object", "__ne__") by decide +kernel]
    dsimp only []
    have inst : PySem.W.Looks (model prog w) s.heap (isInstance (.ref x) (.type "object")) true := I.type.andThen (PySem.W.looks_subIn X sub)
    refine wpAny_bind (inst.here ?_)
    rw [if_neg (by decide)]
    have ao := PySem.F.args_object_ne_2 (.ref x) y
    unfold argsOk at ao
    exact wpAny_of_eq ao q
  refine ck ?_
  unfold Builtin.«object.__ne__»
  refine wpAny_bind (m := slotArgs "__ne__" 1 ⟨[.ref x, y], []⟩) (wpAny_of_eq (rfl : slotArgs "__ne__" 1 ⟨[.ref x, y], []⟩ = pure (.ref x, [y])) ?_)
  dsimp only []
  refine wpAny_bind (wpAny_cRoomFor_or (.inr (by show A.units + 1 < cLine; exact hu)) ?_)
  refine wpAny_bind (call_bound X I hs (bound_fn X hf _) (wpAny_mono h (fun r s' z => ?_) fun _ _ z => z))
  obtain ⟨b, rfl, q⟩ := z
  refine wpAny_bind (wpAny_truthy_bool ?_)
  exact wpAny_pure q
end
section
variable {X : Cx} {k : Nat} {C f : Addr} {fd : FuncData} {ps : List Str} {sp : Sp}
/-- o == value, o != value -/
def rOwnCmp (K : PySem.W.Frag) (C : Addr) (sp : Sp) (neg : Bool) : R2 := fun x y H Q => ∃ a dx fs t, x = .ref a ∧ H a = some (.ins C dx fs) ∧ TyX K H y t ∧ PySem.W.notFirst K C t = true ∧ sp [.ref a, y] H (fun r H' => ∃ b, r = .bl b ∧ Q (.bl (if neg then !b else b)) H') E0
theorem op_eqOwn (F : FnOk X.prog X.w X.K X.mg X.base CX0 k f fd ps sp) (hr : Room k X.A) (hb : Binds X.K fd ps []) (hs : PySem.W.findIn X.K (.ref C) "__eq__" = some (some (.ref f))) (hf : PySem.W.isFn X.K (.ref f) = true) : OpR X (compareOp .Eq) (rOwnCmp X.K C sp false) := by
  intro pins s σ H x y v u Q I rx ry ⟨a, dx, fs, t, ex, ha, ty, nf, h⟩
  subst ex
  cases rx
  obtain ⟨mA, ob, _⟩ := ins_get I.hok ha
  obtain ⟨od, J, _⟩ := ob.look
  obtain ⟨P, kx, hp, _⟩ := kit_of I ry ty
  have hu := hr.un
  have hu1 : X.A.units < cLine := by omega
  show wpAny (model X.prog X.w) X.A (richCompare .Eq (.ref a) u) _ _ s
  refine rc_left (op := .Eq) (g := .ref f) hu1 I.kIn J (kx.ty _ _ I.kIn hp) nf hs (bound_fn I.kIn hf _) (wpAny_mono (wpAny_call (run_fnR (F.raw hb .nil) hr pass0 I (us := [.ref a, u]) (vs := [.ref a, y]) (.cons rfl (.cons ry .nil)) h)) (fun r s' z => ?_) fun _ _ z => z)
  obtain ⟨w, H', I', rw', b, rfl, q⟩ := z
  cases rw'
  exact ⟨b, rfl, .bl b, H', I', rfl, q⟩
theorem op_neOwn (F : FnOk X.prog X.w X.K X.mg X.base CX0 k f fd ps sp) (hr : Room (k + 1) X.A) (hb : Binds X.K fd ps []) (hs : PySem.W.findIn X.K (.ref C) "__eq__" = some (some (.ref f))) (hf : PySem.W.isFn X.K (.ref f) = true)
    (hn : PySem.W.findIn X.K (.ref C) "__ne__" = some (some (.builtin "object.__ne__"))) (sub : PySem.W.subIn X.K (.ref C) (.type "object") = some true) : OpR X (compareOp .NotEq) (rOwnCmp X.K C sp true) := by
  intro pins s σ H x y v u Q I rx ry ⟨a, dx, fs, t, ex, ha, ty, nf, h⟩
  subst ex
  cases rx
  obtain ⟨mA, ob, _⟩ := ins_get I.hok ha
  obtain ⟨od, J, _⟩ := ob.look
  obtain ⟨P, kx, hp, _⟩ := kit_of I ry ty
  have hu := hr.un
  have hu1 : X.A.units + 1 < cLine := by omega
  show wpAny (model X.prog X.w) X.A (richCompare .NotEq (.ref a) u) _ _ s
  refine rc_left (op := .NotEq) (g := .builtin "object.__ne__") (Nat.lt_of_succ_lt hu1) I.kIn J (kx.ty _ _ I.kIn hp) nf hn (fun A Q E s _ q => wpAny_of_eq (PySem.F.slot_object_ne.bind _) q) (call_objNe hu1 I.kIn J sub hs hf (wpAny_mono (wpAny_call (SlX.run_at (us := [.ref a, u]) (ws := [.ref a, y]) (F.raw hb .nil) hr.in1 I.env0.in1 pass0 I (.cons rfl (.cons ry .nil)) h)) (fun r s' z => ?_) fun _ _ z => z))
  obtain ⟨w, H', I', rw', b, rfl, q⟩ := z
  cases rw'
  exact ⟨b, rfl, _, rfl, .bl (!b), H', I', rfl, q⟩
end
end My
set_option Elab.async false
set_option linter.all false
set_option maxRecDepth 100000
set_option maxHeartbeats 4000000
/-! Step, Couple, Cut where they can be made -/
namespace My
open PySem PySem.Spec PyProof.Rows L2 NdefX
open PySem.W (Datum DatumOrd EachIs)
def kEnds : Str := "_ends"
/-- what is asked of the class of a step -/
structure StCls (K : PySem.W.Frag) (C : Addr) : Prop where
  c : Cls K C
  n : NoAttr K C "_ends"
/-- an end whose name is a name -/
def EndOk (e : EndT) : Prop := nmS e.1 = true ∧ (e.2 = 0 ∨ e.2 = 1)
/-- a step in the heap -/
def StAt (C : Addr) (H : Hp) (x : Addr) (es : List EndT) : Prop := ∃ (dx t : Addr) (us : List V), H x = some (.ins C dx [("_ends", .ref t)]) ∧ H t = some (.tup us) ∧ EachIs (EndV H) us es
theorem StAt.keep {C x : Addr} {H H' : Hp} {es : List EndT} (s : Same H H') (h : StAt C H x es) : StAt C H' x es := let ⟨dx, t, us, e1, e2, e3⟩ := h; ⟨dx, t, us, s _ _ e1, s _ _ e2, ends_keep s.tupK e3⟩
section
variable {P : Program} {w : World} {K : PySem.W.Frag} {mg : Str → Option Value} {base : Heap}
def spStI (K : PySem.W.Frag) (C : Addr) : Sp := fun vs H Q _ => ∃ (x t dx : Addr) (us : List V) (es : List EndT), vs = [.ref x, .ref t] ∧ H x = some (.ins C dx []) ∧ SqT K H t us ∧ EachIs (EndV H) us es ∧ (∀ e ∈ es, EndOk e) ∧ es.length ≤ 1000 ∧
  ∀ H', SameP x H H' → StAt C H' x (sortO es) → Q .non H'
theorem ok_stI {f f1 C : Addr} {fd d1 : FuncData} (F : Fun K "__init__" "Step.__init__" sStepInit f fd) (B : Glb mg) (ms : mg "sorted" = none) (RC : StCls K C) (GE : Has P w K mg base 3 "is_end" ["value"] (spKind K (withD [0, 1])) f1 d1) : FnOk P w K mg base CX0 4 f fd ["self", "ends"] (spStI K C) := by
  refine F.ok scStepInit (fun vs H Q E h => ?_) (fun cdv A outer s H vs Q E hr h => ?_)
  · obtain ⟨x, t, dx, us, es, rfl, _⟩ := h
    rfl
  · obtain ⟨x, t, dx, us, es, rfl, hx, ht, hus, ok, few, q⟩ := h
    have hu2 : (A.deeper (envOfC "Step.__init__" (defScope sStepInit) s.heap.objs.size f cdv)).units + 2 + PySem.W.Datum.depth EndT < cLine := by
      have := hr.units
      have e : PySem.W.Datum.depth EndT = 1 := rfl
      omega
    refine ⟨_, pss_cons (ps_for PassesOwn.never rfl (pi_tup (pv 1)) (pg_name (i := 2) scStepInit.nd rfl (.inl rfl))
        (pss_one (ps_if (pt_not (pt_val (pe_has GE hr (by rfl) (pa_cons (pv 2) pa_nil)))) (pss_one ps_no) pss_nil)))
      (pss_one (ps_fld (pv 0) (pe_callTy call_tuple_of (by rfl) B.tuple (by decide +kernel) (pa_cons (pe_callB (call_sortR (α := EndT) sortable_pair hu2) (by rfl) ms (by decide +kernel) (pa_cons (pv 1) pa_nil)) pa_nil)) rfl)), ?_⟩
    have lus := hus.length
    refine ⟨_, rfl, t, rfl, ⟨_, ht⟩, ?_⟩
    refine for_sq (sq_tup (K := K) (a := t) (xs := us)) (fun j σ H' => Same H H' ∧ ∃ y, σ = [some (.ref x), some (.ref t), y]) ⟨.refl _, _, rfl⟩ (fun j σ H' ⟨s, _⟩ => s.keeps.t _ _ ht) (fun j v σ H' hv hp => ?_) (fun σ H' hp => ?_)
    · obtain ⟨sm, y, rfl⟩ := hp
      obtain ⟨e, he, hve⟩ := each_at (ends_keep sm.tupK hus) hv
      have ⟨n1, s1⟩ := ok e (List.mem_of_getElem? he)
      refine ⟨_, rfl, 0, v, Datum.toD e, rfl, dt_da hve.dt, fit_end n1, fun H2 s2 => ⟨_, rfl, ?_⟩⟩
      rw [with_end n1 s1]
      exact iteF ⟨sm.trans s2, _, rfl⟩
    · obtain ⟨sm, y, rfl⟩ := hp
      refine ⟨_, rfl, EndV H', t, us, es, rfl, .inr (sm.keeps.t _ _ ht), ends_keep sm.tupK hus, fun v b z => z.dt, few, fun p1 w1 hp1 e1 => ?_⟩
      have s3 := same_new (o := HO.lst w1) hp1
      refine ⟨p1, w1, rfl, .inl ⟨.inl (.inl upd_same), fun t2 ht2 => ?_⟩⟩
      have s4 := same_new (o := HO.tup w1) ht2
      have S := sm.trans (s3.trans s4)
      refine ⟨_, rfl, x, C, dx, [], rfl, S _ _ hx, RC.c, RC.n, by show 0 + 1 ≤ _; decide, ?_⟩
      have tk : TupK (upd (upd H' p1 (.lst w1)) t2 (.tup w1)) (upd (upd (upd H' p1 (.lst w1)) t2 (.tup w1)) x (.ins C dx [("_ends", .ref t2)])) := .at fun xs z => by rw [S _ _ hx] at z; cases z
      exact q _ (fun b o ne z => by rw [show (upd (upd (upd H' p1 (.lst w1)) t2 (.tup w1)) x _) b = _ from upd_ne ne]; exact S _ _ z) ⟨dx, t2, w1, upd_same, tk _ _ upd_same, ends_keep ((s3.trans s4).tupK.trans tk) e1⟩
/-! ### Couple(one, other), Cut(end) -/
def nfCp (cc c : Addr) : NF := ⟨"__init__", "Couple.__init__", defArgs sCoupleInit, defBody sCoupleInit, defScope sCoupleInit, [(("__class__" : Str), cc)], c⟩
def nfCt (cc c : Addr) : NF := ⟨"__init__", "Cut.__init__", defArgs sCutInit, defBody sCutInit, defScope sCutInit, [(("__class__" : Str), cc)], c⟩
theorem nsCp (cc c : Addr) : NScope ["self", "one", "other", "__class__"] ["self", "one", "other"] [("__class__" : Str)] (nfCp cc c).scope := nscope_by (by show nscB _ _ _ (defScope sCoupleInit) = true; decide +kernel)
theorem nsCt (cc c : Addr) : NScope ["self", "end", "__class__"] ["self", "end"] [("__class__" : Str)] (nfCt cc c).scope := nscope_by (by show nscB _ _ _ (defScope sCutInit) = true; decide +kernel)
def spCpI (C : Addr) : Sp := fun vs H Q _ => ∃ (x dx : Addr) (u v : V) (a b : EndT), vs = [.ref x, u, v] ∧ H x = some (.ins C dx []) ∧ EndV H u a ∧ EndV H v b ∧ EndOk a ∧ EndOk b ∧ a ≠ b ∧ ∀ H', SameP x H H' → StAt C H' x (sortO [a, b]) → Q .non H'
def spCtI (C : Addr) : Sp := fun vs H Q _ => ∃ (x dx : Addr) (u : V) (a : EndT), vs = [.ref x, u] ∧ H x = some (.ins C dx []) ∧ EndV H u a ∧ EndOk a ∧ ∀ H', SameP x H H' → StAt C H' x [a] → Q .non H'
theorem ok_cpI {f C g cc c : Addr} {fd gd : FuncData} (T : SupFn P K mg (nfCp cc c) ["self", "one", "other"] f C g cc fd) (GI : FnOk P w K mg base CX0 4 g gd ["self", "ends"] (spStI K C)) (bI : Binds K gd ["self", "ends"] []) :
    FnOk P w K mg base CX0 5 f fd ["self", "one", "other"] (spCpI C) := by
  refine fn_super (N := ["self", "one", "other", "__class__"]) (k := 4) T (nsCp cc c) rfl GI bI (fun vs H Q E h => ?_) (fun A stk s H vs Q E hr h => ?_) (fun _ => rfl) (fun _ => ⟨_, rfl⟩)
  · obtain ⟨x, dx, u, v, a, b, rfl, _⟩ := h
    rfl
  · obtain ⟨x, dx, u, v, a, b, rfl, hx, hu, hv, oa, ob, ne, q⟩ := h
    refine ⟨_, _, pa_cons (pe_tup (pa_cons (pv 1) (pa_cons (pv 2) pa_nil))) pa_nil, pss_one (ps_if (pt_cmpR (op_eqP hr.units) (pv 1) (pv 2) (nomark _)) (pss_one ps_no) pss_nil), x, dx, [], rfl, hx, ?_⟩
    refine ⟨_, rfl, _, rfl, by show 2 ≤ sizeLine; decide, fun t ht => ?_⟩
    have s1 := same_new (o := HO.tup [u, v]) ht
    have hx1 := s1 _ _ hx
    refine ⟨x, t, dx, [u, v], [a, b], rfl, hx1, .inl (.inl upd_same), .cons (hu.keep s1.tupK) (.cons (hv.keep s1.tupK) .nil), fun e he => ?_, by show 2 ≤ 1000; decide, fun H' sx st => ?_⟩
    · rcases List.mem_cons.mp he with rfl | he
      · exact oa
      · rw [List.mem_singleton.mp he]
        exact ob
    have tk := (ins_keep (K := K) hx1 sx).2
    refine ⟨_, rfl, _, rfl, Datum.toD a, Datum.toD b, dt_dp ((hu.keep s1.tupK).keep tk).dt, dt_dp ((hv.keep s1.tupK).keep tk).dt, Datum.plain a, Datum.plain b, Nat.le_trans (Nat.min_le_left _ _) (Nat.le_trans (Datum.depth_le a) (by decide)), _, rfl, ?_⟩
    rw [Datum.eqv, decide_eq_false ne]
    exact iteF (q H' (fun b o nb e => sx b o nb (s1 _ _ e)) st)
theorem ok_ctI {f C g cc c : Addr} {fd gd : FuncData} (T : SupFn P K mg (nfCt cc c) ["self", "end"] f C g cc fd) (GI : FnOk P w K mg base CX0 4 g gd ["self", "ends"] (spStI K C)) (bI : Binds K gd ["self", "ends"] []) :
    FnOk P w K mg base CX0 5 f fd ["self", "end"] (spCtI C) := by
  refine fn_super (N := ["self", "end", "__class__"]) (k := 4) T (nsCt cc c) rfl GI bI (fun vs H Q E h => ?_) (fun A stk s H vs Q E hr h => ?_) (fun _ => rfl) (fun _ => ⟨_, rfl⟩)
  · obtain ⟨x, dx, u, a, rfl, _⟩ := h
    rfl
  · obtain ⟨x, dx, u, a, rfl, hx, hu, oa, q⟩ := h
    refine ⟨_, _, pa_cons (pe_tup (pa_cons (pv 1) pa_nil)) pa_nil, pss_nil, x, dx, [], rfl, hx, ?_⟩
    refine ⟨_, rfl, by show 1 ≤ sizeLine; decide, fun t ht => ?_⟩
    have s1 := same_new (o := HO.tup [u]) ht
    have hx1 := s1 _ _ hx
    refine ⟨x, t, dx, [u], [a], rfl, hx1, .inl (.inl upd_same), .cons (hu.keep s1.tupK) .nil, fun e he => ?_, by show 1 ≤ 1000; decide, fun H' sx st => ?_⟩
    · rw [List.mem_singleton.mp he]
      exact oa
    exact q H' (fun b o nb e => sx b o nb (s1 _ _ e)) (by have e : sortO [a] = [a] := List.mergeSort_singleton a; rw [e] at st; exact st)
/-! ### step(layout) -/
def spStC (K : PySem.W.Frag) (C CS : Addr) (two : Bool) : Sp := fun vs H Q _ => ∃ (x l : Addr) (es : List EndT) (ws : List Str) (ps rs : List CoupT), vs = [.ref x, .ref l] ∧ StAt CS H x es ∧ LayAt K C H l ws ps ∧ WagA ws ∧ Nrm ws ps ∧ EsOk ws ps es rs ∧ (if two = true then es.length = 2 else ∃ a q, es = [a] ∧ lookE (partE ps) a = some q) ∧
  ∀ z H', H z = none → LayAt K C H' z ws rs → Same H H' → Q (.ref z) H'
structure StDefs (P : Program) (w : World) (K : PySem.W.Frag) (mg : Str → Option Value) (base : Heap) (C CE CN fW fN fR fG : Addr) (dW dN dR dG : FuncData) : Prop where
  W : Has P w K mg base 4 "check_wagons" ["layout", "names"] (spChkW K C) fW dW
  N : Has P w K mg base 1 "names_of" ["row"] (spNames K) fN dN
  R : Has P w K mg base 9 "relinked" ["layout", "ends"] (spRlk K C) fR dR
  oG : FnOk P w K mg base CX0 4 fG dG ["self", "end"] (sp0 (spLyG K C CE CN))
  bG : L2.Binds K dG ["self", "end"] []
  sG : PySem.W.findIn K (.ref C) "__getitem__" = some (some (.ref fG))
  fn : PySem.W.fnIn K fG = true
  nG : PySem.W.isFn K (.ref fG) = true
theorem row_dt {H : Hp} {t : Addr} {us : List V} {es : List EndT} (h : H t = some (.tup us)) (e : EachIs (EndV H) us es) : Dt K H (.ref t) (rowD es) := .tup (.inl (.inl h)) (each_dt (fun _ _ z => z.dt) e)
theorem es_in {ws : List Str} {ps rs : List CoupT} {es : List EndT} (h : EsOk ws ps es rs) : ∀ n ∈ es.map (·.1), n ∈ ws := fun n hn => by
  obtain ⟨e, he, rfl⟩ := List.mem_map.mp hn
  exact (mem_endsO.mp (h.ends.1 e he)).1
theorem ok_cpC {f C CS CE CN fW fN fR fG : Addr} {fd dW dN dR dG : FuncData} (F : Fun K "__call__" "Couple.__call__" sCoupleCall f fd) (RC : StCls K CS) (S : StDefs P w K mg base C CE CN fW fN fR fG dW dN dR dG) : FnOk P w K mg base CX0 10 f fd ["self", "layout"] (spStC K C CS true) := by
  refine F.ok scCoupleCall (fun vs H Q E h => ?_) (fun cdv A outer s H vs Q E hr h => ?_)
  · obtain ⟨x, l, es, ws, ps, rs, rfl, _⟩ := h
    rfl
  · obtain ⟨x, l, es, ws, ps, rs, rfl, ⟨dx, t, us, hx, ht, hus⟩, lay, wa, nr, eo, tw, q⟩ := h
    have hr1 := hr.mono (show 1 ≤ 9 by decide)
    have hr4 := hr.mono (show 4 ≤ 9 by decide)
    have hr5 := hr.mono (show 5 ≤ 9 by decide)
    refine ⟨_, pss_cons (ps_expr (pe_has S.W hr4 (by rfl) (pa_cons (pv 1) (pa_cons (pe_has S.N hr1 (by rfl) (pa_cons (pe_fld (pv 0) rfl) pa_nil)) pa_nil))))
      (pss_cons (ps_asg (pe_fld (pv 0) rfl) (pg_tup rfl (pgs_cons (pg_name (i := 2) scCoupleCall.nd rfl (.inl rfl)) (pgs_cons (pg_name (i := 3) scCoupleCall.nd rfl (.inl rfl)) pgs_nil))))
      (pss_cons (ps_if (pt_cmpR (op_eqP hr.units) (pe_getOwn S.oG hr5 S.bG S.sG S.fn S.nG pass0 (pv 1) (pv 2) (fun _ _ => rfl)) (pv 3) (nomark _)) (pss_one ps_no) pss_nil)
      (pss_one (ps_ret (pe_has S.R hr (by rfl) (pa_cons (pv 1) (pa_cons (pe_fld (pv 0) rfl) pa_nil))))))), ?_⟩
    have few := eo.ends.2
    refine ⟨_, rfl, _, rfl, x, CS, dx, _, _, rfl, hx, RC.c, RC.n, rfl, t, es, rfl, row_dt ht hus, by omega, fun ln H1 hl el s1 => ?_⟩
    have lay1 := lay.sm s1
    refine ⟨l, ln, ws, ps, es.map (·.1), rfl, lay1, .inl (.inl el), es_in eo, ?_⟩
    have hx1 := s1 _ _ hx
    have ht1 := s1 _ _ ht
    have hus1 := ends_keep s1.tupK hus
    have nrest : ∀ {z : Addr}, H1 z = none → H z = none := fun hz => Option.eq_none_iff_forall_ne_some.mpr fun o e => by rw [s1 _ _ e] at hz; cases hz
    cases eo with
    | one _ => exact absurd (show 1 = 2 from tw) (by decide)
    | @two a b ha hb ne np =>
      match us, hus1, hx1, ht1 with
      | [u, v], .cons hu (.cons hv .nil), hx1, ht1 =>
        refine ⟨_, rfl, x, CS, dx, _, _, rfl, hx1, RC.c, RC.n, rfl, t, _, rfl, .inl (.inl ht1), rfl, _, _, rfl, _, _, rfl, rfl, ?_⟩
        obtain ⟨dxb, _, _, _, _, _, _, hxb, _⟩ := id lay1
        have nmA := wa.ok.nm _ (mem_endsO.mp ha).1
        have sA := (mem_endsO.mp ha).2
        have hxs : EachIs (EndV H1) [u, v] [a, b] := .cons hu (.cons hv .nil)
        refine ⟨_, rfl, _, rfl, l, dxb, _, rfl, hxb, l, ws, ps, u, rfl, lay1, .inr ⟨a, hu, nmA, sA, fun no => absurd (mem_endsO.mp ha).1 no, fun _ H2 s2 => ⟨fun z => ?_, fun qq r z hr => ?_⟩⟩⟩
        · refine ⟨_, rfl, optD none, Datum.toD b, .non, dt_dp (hv.keep s2.tupK).dt, opt_plain _, Datum.plain _, Nat.le_trans (Nat.min_le_right _ _) (Nat.le_trans (Datum.depth_le b) (by decide)), _, rfl, ?_⟩
          rw [eqv_opt, decide_eq_false (fun y => nomatch y)]
          refine iteF ⟨_, rfl, _, rfl, x, CS, dx, _, _, rfl, s2 _ _ hx1, RC.c, RC.n, rfl, l, t, [u, v], [a, b], ws, ps, _, rfl, lay1.sm s2, wa, nr, s2 _ _ ht1, ends_keep s2.tupK hxs, .two ha hb ne np, fun z H' hz lz s => ?_⟩
          exact q z H' (nrest (Option.eq_none_iff_forall_ne_some.mpr fun o e => by rw [s2 _ _ e] at hz; cases hz)) lz ((s1.trans s2).trans s)
        · refine ⟨_, rfl, optD (some qq), Datum.toD b, dt_dp hr.dt, dt_dp (hv.keep s2.tupK).dt, opt_plain _, Datum.plain _, Nat.le_trans (Nat.min_le_right _ _) (Nat.le_trans (Datum.depth_le b) (by decide)), _, rfl, ?_⟩
          rw [eqv_opt, decide_eq_false (fun y => np (z.trans y))]
          refine iteF ⟨_, rfl, _, rfl, x, CS, dx, _, _, rfl, s2 _ _ hx1, RC.c, RC.n, rfl, l, t, [u, v], [a, b], ws, ps, _, rfl, lay1.sm s2, wa, nr, s2 _ _ ht1, ends_keep s2.tupK hxs, .two ha hb ne np, fun z H' hz lz s => ?_⟩
          exact q z H' (nrest (Option.eq_none_iff_forall_ne_some.mpr fun o e => by rw [s2 _ _ e] at hz; cases hz)) lz ((s1.trans s2).trans s)
theorem ok_ctC {f C CS CE CN fW fN fR fG : Addr} {fd dW dN dR dG : FuncData} (F : Fun K "__call__" "Cut.__call__" sCutCall f fd) (RC : StCls K CS) (S : StDefs P w K mg base C CE CN fW fN fR fG dW dN dR dG) : FnOk P w K mg base CX0 10 f fd ["self", "layout"] (spStC K C CS false) := by
  refine F.ok scCutCall (fun vs H Q E h => ?_) (fun cdv A outer s H vs Q E hr h => ?_)
  · obtain ⟨x, l, es, ws, ps, rs, rfl, _⟩ := h
    rfl
  · obtain ⟨x, l, es, ws, ps, rs, rfl, ⟨dx, t, us, hx, ht, hus⟩, lay, wa, nr, eo, tw, q⟩ := h
    have hr1 := hr.mono (show 1 ≤ 9 by decide)
    have hr4 := hr.mono (show 4 ≤ 9 by decide)
    have hr5 := hr.mono (show 5 ≤ 9 by decide)
    refine ⟨_, pss_cons (ps_expr (pe_has S.W hr4 (by rfl) (pa_cons (pv 1) (pa_cons (pe_has S.N hr1 (by rfl) (pa_cons (pe_fld (pv 0) rfl) pa_nil)) pa_nil))))
      (pss_cons (ps_set (i := 2) scCutCall.nd rfl (.inl rfl) (pe_ix ix_tup (pe_fld (pv 0) rfl) pe_int (fun _ _ => rfl)))
      (pss_cons (ps_if (pt_cmpR op_isN (pe_getOwn S.oG hr5 S.bG S.sG S.fn S.nG pass0 (pv 1) (pv 2) (fun _ _ => rfl)) pe_non (nomark _)) (pss_one ps_no) pss_nil)
      (pss_one (ps_ret (pe_has S.R hr (by rfl) (pa_cons (pv 1) (pa_cons (pe_fld (pv 0) rfl) pa_nil))))))), ?_⟩
    have few := eo.ends.2
    refine ⟨_, rfl, _, rfl, x, CS, dx, _, _, rfl, hx, RC.c, RC.n, rfl, t, es, rfl, row_dt ht hus, by omega, fun ln H1 hl el s1 => ?_⟩
    have lay1 := lay.sm s1
    refine ⟨l, ln, ws, ps, es.map (·.1), rfl, lay1, .inl (.inl el), es_in eo, ?_⟩
    have hx1 := s1 _ _ hx
    have ht1 := s1 _ _ ht
    have hus1 := ends_keep s1.tupK hus
    have nrest : ∀ {z : Addr}, H1 z = none → H z = none := fun hz => Option.eq_none_iff_forall_ne_some.mpr fun o e => by rw [s1 _ _ e] at hz; cases hz
    obtain ⟨a, q0, e0, la⟩ := tw
    subst e0
    have ha := eo.ends.1 a List.mem_cons_self
    match us, hus1, hx1, ht1 with
    | [u], .cons hu .nil, hx1, ht1 =>
      refine ⟨_, rfl, x, CS, dx, _, _, rfl, hx1, RC.c, RC.n, rfl, t, [u], 0, u, rfl, rfl, .inl (.inl ht1), atI_nat (j := 0) rfl, ?_⟩
      obtain ⟨dxb, _, _, _, _, _, _, hxb, _⟩ := id lay1
      have nmA := wa.ok.nm _ (mem_endsO.mp ha).1
      have sA := (mem_endsO.mp ha).2
      refine ⟨_, rfl, _, rfl, l, dxb, _, rfl, hxb, l, ws, ps, u, rfl, lay1, .inr ⟨a, hu, nmA, sA, fun no => absurd (mem_endsO.mp ha).1 no, fun _ H2 s2 => ⟨fun z => (by rw [la] at z; cases z), fun qq r z hr => ?_⟩⟩⟩
      have nn : r ≠ .non := by obtain ⟨b, rfl, _⟩ := hr; exact fun z => nomatch z
      refine ⟨rfl, _, rfl, ?_⟩
      rw [decide_eq_false nn]
      refine iteF ⟨_, rfl, _, rfl, x, CS, dx, _, _, rfl, s2 _ _ hx1, RC.c, RC.n, rfl, l, t, [u], [a], ws, ps, _, rfl, lay1.sm s2, wa, nr, s2 _ _ ht1, .cons (hu.keep s2.tupK) .nil, eo, fun z H' hz lz s => ?_⟩
      exact q z H' (nrest (Option.eq_none_iff_forall_ne_some.mpr fun o e => by rw [s2 _ _ e] at hz; cases hz)) lz ((s1.trans s2).trans s)
end
end My
set_option Elab.async false
set_option linter.all false
set_option maxRecDepth 100000
set_option maxHeartbeats 4000000
/-! Layout.__eq__, step_towards, are_neighbours -/
namespace My
open PySem PySem.Spec PyProof.Rows L2
open PySem.W (Datum DatumOrd EachIs)
theorem plain_map {α : Type} [DecidableEq α] [Datum α] (xs : List α) : (PyData.tuple (xs.map Datum.toD)).plain = true := by
  have h : ∀ xs : List α, PyData.plainAll (xs.map Datum.toD) = true := fun xs => by
    induction xs with
    | nil => simp only [List.map_nil, PyData.plainAll]
    | cons n r ih => rw [List.map_cons, PyData.plainAll, ih, Datum.plain]; rfl
  simp only [PyData.plain, h]
theorem eqvAll_map {α : Type} [DecidableEq α] [Datum α] : ∀ p q : List α, PyData.eqvAll (p.map Datum.toD) (q.map Datum.toD) = decide (p = q)
  | [], [] => rfl
  | [], b :: q => rfl
  | a :: p, [] => rfl
  | a :: p, b :: q => by
    have ih := eqvAll_map p q
    rw [List.map_cons, List.map_cons]
    have e : PyData.eqvAll (Datum.toD a :: p.map Datum.toD) (Datum.toD b :: q.map Datum.toD) = (PyData.eqv (Datum.toD a) (Datum.toD b) && PyData.eqvAll (p.map Datum.toD) (q.map Datum.toD)) := by
      simp only [PyData.eqvAll]
    rw [e, ih, Datum.eqv]
    by_cases h : a = b
    · rw [decide_eq_true h, h]
      by_cases z : p = q
      · rw [decide_eq_true z, z, decide_eq_true rfl]
        rfl
      · rw [decide_eq_false z, decide_eq_false fun y => z (List.cons.inj y).2]
        rfl
    · rw [decide_eq_false h, decide_eq_false fun y => h (List.cons.inj y).1]
      rfl
theorem eqv_map {α : Type} [DecidableEq α] [Datum α] (p q : List α) : PyData.eqv (.tuple (p.map Datum.toD)) (.tuple (q.map Datum.toD)) = decide (p = q) := by
  simp only [PyData.eqv]
  exact eqvAll_map p q
theorem depth_map : ∀ p : List CoupT, (PyData.tuple (p.map Datum.toD)).depth ≤ 60 := fun p => by
  have h : ∀ p : List CoupT, PyData.depthAll (p.map Datum.toD) ≤ 2 := fun p => by
    induction p with
    | nil => simp only [List.map_nil, PyData.depthAll]; decide
    | cons n r ih =>
      rw [List.map_cons, PyData.depthAll]
      have h1 : (Datum.toD n).depth ≤ 2 := Datum.depth_le n
      omega
  have := h p
  simp only [PyData.depth]
  omega
section
variable {P : Program} {w : World} {K : PySem.W.Frag} {mg : Str → Option Value} {base : Heap}
def spLyE (K : PySem.W.Frag) (C : Addr) : Sp := fun vs H Q _ => ∃ (x y : Addr) (ws : List Str) (ps qs : List CoupT), vs = [.ref x, .ref y] ∧ LayAt K C H x ws ps ∧ LayAt K C H y ws qs ∧ Q (.bl (decide (coupL (sortO ws) ps = coupL (sortO ws) qs))) H
theorem ok_lyE {f C : Addr} {fd : FuncData} (F : Fun K "__eq__" "Layout.__eq__" sLayoutEq f fd) (mi : mg "isinstance" = none) (gC : mg "Layout" = some (.ref C)) (RC : LayCls K C) (RI : LayI K C) : FnOk P w K mg base CX0 1 f fd ["self", "other"] (spLyE K C) := by
  refine F.ok scLayoutEq (fun vs H Q E h => ?_) (fun cdv A outer s H vs Q E hr h => ?_)
  · obtain ⟨x, y, ws, ps, qs, rfl, _⟩ := h
    rfl
  · obtain ⟨x, y, ws, ps, qs, rfl, lx, ly, q⟩ := h
    refine ⟨_, pss_one (ps_ret (pe_and (pe_callB call_isi (by rfl) mi boot_isinstance (pa_cons (pv 1) (pa_cons (pe_glob (v := .ref C) (by rfl) gC rfl) pa_nil)))
      (pe_and (pe_cmpR (op_eqP hr.units) (pe_fld (pv 0) rfl) (pe_fld (pv 1) rfl) (nomark _)) (pe_one (pe_cmpR (op_eqP hr.units) (pe_fld (pv 0) rfl) (pe_fld (pv 1) rfl) (nomark _)))))), ?_⟩
    refine ⟨_, rfl, .ref y, .ref C, _, _, true, rfl, .own C, ly.ty RC RI, RI.l, _, rfl, iteT ?_⟩
    obtain ⟨dx, tw, tc, tf, D, uc, uf, h1, h2, h3, h4, h5, h6, h7⟩ := lx
    obtain ⟨dx', tw', tc', tf', D', uc', uf', g1, g2, g3, g4, g5, g6, g7⟩ := ly
    refine ⟨_, rfl, x, C, dx, _, _, rfl, h1, RC.c, RC.n1, rfl, _, rfl, y, C, dx', _, _, rfl, g1, RC.c, RC.n1, rfl, ?_⟩
    refine ⟨.tuple ((sortO ws).map .str), .tuple ((sortO ws).map .str), .tup h2 (strs_dpA _), .tup g2 (strs_dpA _), plain_tstrs _, plain_tstrs _, Nat.le_trans (Nat.min_le_left _ _) (depth_tstrs _), _, rfl, ?_⟩
    rw [eqv_tstrs, decide_eq_true rfl]
    refine iteT ⟨_, rfl, x, C, dx, _, _, rfl, h1, RC.c, RC.n2, rfl, _, rfl, y, C, dx', _, _, rfl, g1, RC.c, RC.n2, rfl, ?_⟩
    refine ⟨.tuple ((coupL (sortO ws) ps).map Datum.toD), .tuple ((coupL (sortO ws) qs).map Datum.toD), .tup h3 (dt_dpAll (each_dt (fun _ _ z => z.dt) h4)), .tup g3 (dt_dpAll (each_dt (fun _ _ z => z.dt) g4)), plain_map _, plain_map _, Nat.le_trans (Nat.min_le_left _ _) (depth_map _), ?_⟩
    rw [eqv_map]
    exact q
/-! ### step_towards -/
/-- a cut, where nothing is to be coupled, or a coupling that is to be made -/
def TowAt (CP CT : Addr) (ps qs : List CoupT) (H : Hp) (z : Addr) : Prop :=
  (diffL qs ps = [] ∧ ∃ c r, diffL ps qs = c :: r ∧ StAt CT H z [c.1]) ∨ (∃ f r, diffL qs ps = f :: r ∧ StAt CP H z [f.1, f.2])
def spTow (K : PySem.W.Frag) (C CP CT : Addr) : Sp := fun vs H Q _ => ∃ (x y : Addr) (ws : List Str) (ps qs : List CoupT), vs = [.ref x, .ref y] ∧ LyP K C H x y ws ps qs ∧ ps ≠ qs ∧ ∀ z H', Same H H' → TowAt CP CT ps qs H' z → Q (.ref z) H'
theorem ok_tow {f f1 C CL CW CP CT fP fT g2 p2 : Addr} {fd d1 dP dT e2 : FuncData} (F : Fun K "step_towards" "step_towards" sStepTowards f fd) (RC : LayCls K C) (CD : Has P w K mg base 9 "difference" ["one", "other"] (sp0 (spDiff K C CL CW)) f1 d1)
    (pC : PropOf K C "couplings" p2 g2) (oC : FnOk P w K mg base CX0 1 g2 e2 ["self"] (spLyC K C)) (bC : L2.Binds K e2 ["self"] [])
    (MP : HasC P w K mg base 5 "Couple" ["self", "one", "other"] (spCpI CP) CP fP dP) (MT : HasC P w K mg base 5 "Cut" ["self", "end"] (spCtI CT) CT fT dT) : FnOk P w K mg base CX0 10 f fd ["one", "other"] (spTow K C CP CT) := by
  refine F.ok scStepTowards (fun vs H Q E h => ?_) (fun cdv A outer s H vs Q E hr h => ?_)
  · obtain ⟨x, y, ws, ps, qs, rfl, _⟩ := h
    rfl
  · obtain ⟨x, y, ws, ps, qs, rfl, L, ne, q⟩ := h
    have hr2 := hr.mono (show 2 ≤ 9 by decide)
    have hr6 := hr.mono (show 6 ≤ 9 by decide)
    refine ⟨_, pss_cons (ps_set (i := 2) scStepTowards.nd rfl (.inl rfl) (pe_prop (pe_has CD hr (by rfl) (pa_cons (pv 1) (pa_cons (pv 0) pa_nil))) RC.c pC oC hr2 bC .nil pass0 rfl))
      (pss_cons (ps_if (pt_cmpR (op_eqNil hr.units) (pv 2) (pe_tup pa_nil) (nomark _))
        (pss_one (ps_ret (pe_make MT.m MT.o hr6 (by rfl) MT.g MT.b .nil pass0 (pa_cons (pe_ix ix_tup (pe_ix ix_tup (pe_prop (pe_has CD hr (by rfl) (pa_cons (pv 0) (pa_cons (pv 1) pa_nil))) RC.c pC oC hr2 bC .nil pass0 rfl) pe_int (fun _ _ => rfl)) pe_int (fun _ _ => rfl)) pa_nil)))) pss_nil)
      (pss_cons (ps_asg (pe_ix ix_tup (pv 2) pe_int (fun _ _ => rfl)) (pg_tup rfl (pgs_cons (pg_name (i := 3) scStepTowards.nd rfl (.inl rfl)) (pgs_cons (pg_name (i := 4) scStepTowards.nd rfl (.inl rfl)) pgs_nil))))
      (pss_one (ps_ret (pe_make MP.m MP.o hr6 (by rfl) MP.g MP.b .nil pass0 (pa_cons (pv 3) (pa_cons (pv 4) pa_nil))))))), ?_⟩
    have wok := L.w.ok
    have endOk : ∀ e ∈ endsO ws, EndOk e := fun e he => ⟨wok.nm _ (mem_endsO.mp he).1, (mem_endsO.mp he).2⟩
    refine ⟨_, rfl, _, rfl, .inl ⟨y, x, ws, qs, ps, rfl, L.flip, fun z H1 hz lz s1 => ?_⟩⟩
    obtain ⟨dxa, _, _, _, _, _, _, ha, _⟩ := id lz
    refine ⟨z, dxa, _, rfl, ha, z, ws, _, rfl, lz, fun tc uc htc huc => ?_⟩
    rw [nrm_told wok.nd (nrm_diff L.m)] at huc
    have L1 := L.keep s1
    refine ⟨_, rfl, by show 0 ≤ sizeLine; decide, fun te hte => ?_⟩
    have s2 := same_new (o := HO.tup []) hte
    have htc2 := s2.keeps.t _ _ htc
    have huc2 := coups_keep s2.tupK huc
    have L2' := L1.keep s2
    have S2 := s1.trans s2
    refine ⟨tc, te, uc, rfl, rfl, .inr ⟨htc2, .inl (.inl upd_same)⟩, _, rfl, ?_⟩
    generalize upd H1 te (.tup []) = H2 at s2 htc2 huc2 L2' S2
    clear s2 hte htc huc L1 ha lz hz s1
    cases hf : diffL qs ps with
    | nil =>
      rw [hf] at huc2
      cases huc2
      refine iteT ⟨_, rfl, _, rfl, .inl ⟨x, y, ws, ps, qs, rfl, L2', fun z3 H3 hz3 lz3 s3 => ?_⟩⟩
      obtain ⟨dxb, _, _, _, _, _, _, hb, _⟩ := id lz3
      refine ⟨z3, dxb, _, rfl, hb, z3, ws, _, rfl, lz3, fun td ud htd hud => ?_⟩
      rw [nrm_told wok.nd (nrm_diff L.n)] at hud
      cases hg : diffL ps qs with
      | nil =>
        have s1 : ∀ c ∈ qs, c ∈ ps := sub_of hf
        have s2 : ∀ c ∈ ps, c ∈ qs := sub_of hg
        exact absurd (nrm_ext L.n L.m fun c => ⟨s2 c, s1 c⟩) ne
      | cons c r =>
        rw [hg] at hud
        match ud, hud, htd with
        | u :: ur, .cons hu _, htd =>
          obtain ⟨t, v1, v2, rfl, ht, hv1, hv2⟩ := hu
          have c1 : c ∈ ps := (fresh_mem hg).1
          have e1 := (fresh_end L.n c1).1
          refine ⟨td, _, 0, .ref t, rfl, rfl, htd, atI_nat (j := 0) rfl, t, [v1, v2], 0, v1, rfl, rfl, .inl (.inl ht), atI_nat (j := 0) rfl, ?_⟩
          intro zz dz hzz hdz ndz
          have sI : Same H3 (upd (upd H3 dz (.own zz)) zz (.ins CT dz [])) := fun b o e => by rw [upd_ne (ne_of_none e hzz), upd_ne (ne_of_none e hdz)]; exact e
          refine ⟨zz, dz, v1, c.1, rfl, upd_same, hv1.keep sI.tupK, endOk _ e1, fun HL sx st => ⟨rfl, ?_⟩⟩
          exact q zz HL ((S2.trans s3).trans (same_ins hzz hdz sx)) (.inl ⟨hf, c, r, hg, st⟩)
    | cons f r =>
      rw [hf] at huc2
      match uc, huc2, htc2 with
      | u :: ur, .cons hu _, htc2 =>
        obtain ⟨t, v1, v2, rfl, ht, hv1, hv2⟩ := hu
        have c1 : f ∈ qs := (fresh_mem hf).1
        obtain ⟨e1, e2, e3⟩ := fresh_end L.m c1
        refine iteF ⟨_, rfl, tc, _, 0, .ref t, rfl, rfl, htc2, atI_nat (j := 0) rfl, t, [v1, v2], rfl, .inl (.inl ht), rfl, _, _, rfl, _, _, rfl, rfl, ?_⟩
        refine ⟨_, rfl, _, rfl, ?_⟩
        intro zz dz hzz hdz ndz
        have sI : Same H2 (upd (upd H2 dz (.own zz)) zz (.ins CP dz [])) := fun b o e => by rw [upd_ne (ne_of_none e hzz), upd_ne (ne_of_none e hdz)]; exact e
        refine ⟨zz, dz, v1, v2, f.1, f.2, rfl, upd_same, hv1.keep sI.tupK, hv2.keep sI.tupK, endOk _ e1, endOk _ e2, e3, fun HL sx st => ⟨rfl, ?_⟩⟩
        have es : sortO [f.1, f.2] = [f.1, f.2] := by
          have z := srt_id (L.m.lt f c1)
          rw [sort_two]
          show [(srtE f).1, (srtE f).2] = _
          rw [z]
        rw [es] at st
        exact q zz HL (S2.trans (same_ins hzz hdz sx)) (.inr ⟨f, r, hf, st⟩)
/-! ### are_neighbours -/
theorem pe_or2 {X : Cx} {e : Expr} {t u : TE} (a : PE X e t) (b : PE X e u) : PE X e (fun σ H Q => t σ H Q ∨ u σ H Q) := ⟨fun pins s σ H Q I h => h.elim (a.run pins s σ H Q I) (b.run pins s σ H Q I)⟩
/-- how layouts are compared -/
structure EqL (P : Program) (w : World) (K : PySem.W.Frag) (mg : Str → Option Value) (base : Heap) (C fE : Addr) (dE : FuncData) : Prop where
  o : FnOk P w K mg base CX0 1 fE dE ["self", "other"] (spLyE K C)
  b : Binds K dE ["self", "other"] []
  s : PySem.W.findIn K (.ref C) "__eq__" = some (some (.ref fE))
  n : PySem.W.isFn K (.ref fE) = true
  f : PySem.W.notFirst K C (.ref C) = true
def spNbr (K : PySem.W.Frag) (C CL CW : Addr) : Sp := fun vs H Q E => (∃ x y ws ps qs, vs = [.ref x, .ref y] ∧ LyP K C H x y ws ps qs ∧ ∀ H', Same H H' → Q (.bl (nearB ps qs)) H') ∨ spRefu K C CL CW vs H Q E
theorem ok_nbr {f f1 f2 C CL CW CP CT fE gP gT : Addr} {fd d2 dE : FuncData} (F : Fun K "are_neighbours" "are_neighbours" sAreNeighbours f fd) (RC : LayCls K C) (RI : LayI K C)
    (oS : FnR P w K mg base (L2.CX P w) 4 f1 (spSame K C CL CW)) (gS : mg "check_same_wagons" = some (.ref f1)) (kS : PySem.W.keepIn K (.ref f1) = true) (E1 : EqL P w K mg base C fE dE)
    (CTw : Has P w K mg base 10 "step_towards" ["one", "other"] (spTow K C CP CT) f2 d2)
    (cP : StX.CallO K CP gP) (FP : FnR P w K mg base CX0 10 gP (spStC K C CP true)) (cT : StX.CallO K CT gT) (FT : FnR P w K mg base CX0 10 gT (spStC K C CT false)) : FnOk P w K mg base (L2.CX P w) 11 f fd ["one", "other"] (spNbr K C CL CW) := by
  refine F.okX scAreNeighbours (fun vs H Q E h => ?_) (fun cdv A outer s H vs Q E hr h => ?_)
  · rcases h with ⟨x, y, ws, ps, qs, rfl, _⟩ | ⟨⟨v, u, rfl⟩, _⟩ <;> rfl
  · obtain ⟨v, u, rfl⟩ : ∃ v u, vs = [v, u] := h.elim (fun ⟨x, y, _, _, _, e, _⟩ => ⟨_, _, e⟩) fun ⟨⟨v, u, e⟩, _⟩ => ⟨v, u, e⟩
    have hr1 := hr.mono (show 1 ≤ 10 by decide)
    refine ⟨_, pss_cons (ps_expr (pe_callRS oS (hr.mono (show 4 ≤ 10 by decide)) (by rfl) gS kS (fun σ => passAt (takes_of rfl rfl rfl rfl) σ) (pa_cons (pv 0) (pa_cons (pv 1) pa_nil))))
      (pss_cons (ps_if (pt_cmpR (op_eqOwn E1.o hr1 E1.b E1.s E1.n) (pv 0) (pv 1) (nomark _)) (pss_one (ps_ret pe_bl)) pss_nil)
      (pss_cons (ps_set (i := 2) scAreNeighbours.nd rfl (.inl rfl) (pe_has CTw hr (by rfl) (pa_cons (pv 0) (pa_cons (pv 1) pa_nil))))
      (pss_one (ps_ret (pe_cmpR (op_eqOwn E1.o hr1 E1.b E1.s E1.n) (pe_or2 (StX.pe_callO (pv 2) cP FP hr pass0 (pa_cons (pv 0) pa_nil)) (StX.pe_callO (pv 2) cT FT hr pass0 (pa_cons (pv 0) pa_nil))) (pv 1) (nomark _)))))), ?_⟩
    rcases h with ⟨x, y, ws, ps, qs, e, L, q⟩ | ⟨_, h⟩
    · cases e
      have wok := L.w.ok
      have tp := nrm_told wok.nd L.n
      have tq := nrm_told wok.nd L.m
      refine ⟨_, rfl, _, rfl, ?_⟩
      dsimp only [tNil]
      refine sp_same2 L fun H1 s1 => ?_
      have L1 := L.keep s1
      obtain ⟨dxa, _, _, _, _, _, _, ha, _⟩ := id L1.a
      refine ⟨_, rfl, _, rfl, x, dxa, _, .ref C, rfl, ha, L1.b.ty RC RI, E1.f, x, y, ws, ps, qs, rfl, L1.a, L1.b, _, rfl, _, rfl, ?_⟩
      rw [tp, tq]
      by_cases e : ps = qs
      · show if decide (ps = qs) = true then _ else _
        rw [decide_eq_true e]
        refine iteT ?_
        have := q H1 s1
        rw [← e, near_self] at this
        exact this
      show if decide (ps = qs) = true then _ else _
      rw [decide_eq_false e]
      refine iteF ⟨_, rfl, _, rfl, x, y, ws, ps, qs, rfl, L1, e, fun z H2 s2 tw => ?_⟩
      have L2' := L1.keep s2
      have S2 := s1.trans s2
      have fin : ∀ (t : Addr) (H3 : Hp) (rs : List CoupT), LayAt K C H3 t ws rs → Same H2 H3 → decide (coupL (sortO ws) rs = qs) = nearB ps qs → rOwnCmp K C (spLyE K C) false (.ref t) (.ref y) H3 Q := fun t H3 rs lt s3 en => by
        have L3 := L2'.keep s3
        obtain ⟨dxc, _, _, _, _, _, _, hc, _⟩ := id lt
        refine ⟨t, dxc, _, .ref C, rfl, hc, L3.b.ty RC RI, E1.f, t, y, ws, rs, qs, rfl, lt, L3.b, _, rfl, ?_⟩
        rw [tq, en]
        exact q H3 (S2.trans s3)
      rcases tw with ⟨hf, c, r, hg, st⟩ | ⟨f0, r, hf, st⟩
      · have c1 := (fresh_mem hg).1
        have e1 := (fresh_end L.n c1).1
        obtain ⟨dxs, ts, us, hs, _⟩ := id st
        refine .inr ⟨_, rfl, z, rfl, _, rfl, .inr ⟨dxs, _, hs⟩, z, x, [c.1], ws, ps, cutL ps c.1, rfl, st, L2'.a, L.w, L.n, .one e1, ⟨c.1, c.2, rfl, (look_iff L.n.ok).mpr (.inl c1)⟩, fun t H3 ht lt s3 => ⟨_, rfl, ?_⟩⟩
        exact fin t H3 _ lt s3 (by rw [nrm_told wok.nd (nrm_cut L.n c.1)]; exact cut_near L.n L.m hf hg)
      · have c1 := (fresh_mem hf).1
        obtain ⟨e1, e2, e3⟩ := fresh_end L.m c1
        have np := fresh_np L.n L.m c1 (fresh_mem hf).2
        obtain ⟨dxs, ts, us, hs, _⟩ := id st
        refine .inl ⟨_, rfl, z, rfl, _, rfl, .inr ⟨dxs, _, hs⟩, z, x, [f0.1, f0.2], ws, ps, rel2 ps f0.1 f0.2, rfl, st, L2'.a, L.w, L.n, .two e1 e2 e3 np, rfl, fun t H3 ht lt s3 => ⟨_, rfl, ?_⟩⟩
        exact fin t H3 _ lt s3 (by rw [rel2_told L.n wok.nd e1 e2 e3 np]; exact (nearB_cons hf).symm)
    · refine ⟨_, rfl, _, rfl, ?_⟩
      dsimp only [tNil]
      exact spSame_imp (h H (.refl H)) fun _ _ z => z.elim
end
end My
set_option Elab.async false
set_option linter.all false
set_option maxRecDepth 100000
set_option maxHeartbeats 4000000
/-! x in list, x not in list: data that are alike -/
namespace My
open PySem PySem.Spec PyProof.Rows L2
open PySem.W (Datum DatumOrd EachIs)
section
variable {X : Cx} {α : Type} [DecidableEq α] [Datum α]
def rInD (α : Type) [DecidableEq α] [Datum α] (K : PySem.W.Frag) (neg : Bool) : R2 := fun x y H Q => ∃ (e : α) (a : Addr) (vs : List V) (bs : List α), y = .ref a ∧ Hd1 K H x e ∧ SqL K H a vs ∧ HdAll K H vs bs ∧ Q (.bl (if neg then decide (e ∉ bs) else decide (e ∈ bs))) H
theorem op_notInD (hu : X.A.units + 1 + Datum.depth α < cLine) : OpR X (compareOp .NotIn) (rInD α X.K true) := by
  intro pins s σ H x y v u Q I rx ry ⟨e, a, vs, bs, ey, hx, hs, hb, k⟩
  subst ey
  cases ry
  obtain ⟨its, rv, il, _⟩ := I.list hs
  exact PySem.W.notIn_list_datum (xs := bs) il.isList (Dp.readsAll I (bs.map Datum.toD) _ its (dt_dpAll hb) rv) (Dp.reads I _ _ _ (dt_dp hx) rx) hu ⟨.bl _, H, I, rfl, k⟩
theorem op_inD (hu : X.A.units + 1 + Datum.depth α < cLine) : OpR X (compareOp .In) (rInD α X.K false) := by
  intro pins s σ H x y v u Q I rx ry ⟨e, a, vs, bs, ey, hx, hs, hb, k⟩
  subst ey
  cases ry
  obtain ⟨its, rv, il, _⟩ := I.list hs
  exact PySem.W.in_list_datum (xs := bs) il.isList (Dp.readsAll I (bs.map Datum.toD) _ its (dt_dpAll hb) rv) (Dp.reads I _ _ _ (dt_dp hx) rx) hu ⟨.bl _, H, I, rfl, k⟩
end
end My
set_option Elab.async false
set_option linter.all false
set_option maxRecDepth 100000
set_option maxHeartbeats 4000000
/-! of lists of couplings -/
namespace My
open PySem PySem.Spec PyProof.Rows L2
open PySem.W (Datum DatumOrd EachIs)
theorem PsL.set {H : Hp} {l g : Addr} {ps : List CoupT} {xs ys : List V} (e : H g = some (.lst xs)) (ne : l ≠ g) (h : PsL H l ps) : PsL (upd H g (.lst ys)) l ps :=
  let ⟨us, a, b⟩ := h; ⟨us, (upd_ne ne).trans a, coups_keep (.at fun zs z => by rw [e] at z; cases z) b⟩
theorem r_dec {R : Bool → Hp → Prop} {H : Hp} {p : Prop} (i j : Decidable p) (h : R (@decide p i) H) : R (@decide p j) H := by
  rw [Subsingleton.elim j i]
  exact h
theorem hd_coups {K : PySem.W.Frag} {H : Hp} {us : List V} {ps : List CoupT} (h : EachIs (CoupV H) us ps) : HdAll K H us ps := each_dt (fun _ _ z => z.dt) h
end My
set_option Elab.async false
set_option linter.all false
set_option maxRecDepth 100000
set_option maxHeartbeats 4000000
/-! _law_is_near of k73 -/
namespace My
open PySem PySem.Spec PyProof.Rows L2
open PySem.W (Datum DatumOrd EachIs)
theorem plain_mapL {α : Type} [DecidableEq α] [Datum α] (xs : List α) : (PyData.list (xs.map Datum.toD)).plain = true := by
  have h : ∀ xs : List α, PyData.plainAll (xs.map Datum.toD) = true := fun xs => by
    induction xs with
    | nil => simp only [List.map_nil, PyData.plainAll]
    | cons n r ih => rw [List.map_cons, PyData.plainAll, ih, Datum.plain]; rfl
  simp only [PyData.plain, h]
theorem eqvAll_mapL {α : Type} [DecidableEq α] [Datum α] : ∀ p q : List α, PyData.eqvAll (p.map Datum.toD) (q.map Datum.toD) = decide (p = q)
  | [], [] => rfl
  | [], b :: q => rfl
  | a :: p, [] => rfl
  | a :: p, b :: q => by
    have ih := eqvAll_mapL p q
    rw [List.map_cons, List.map_cons]
    have e : PyData.eqvAll (Datum.toD a :: p.map Datum.toD) (Datum.toD b :: q.map Datum.toD) = (PyData.eqv (Datum.toD a) (Datum.toD b) && PyData.eqvAll (p.map Datum.toD) (q.map Datum.toD)) := by
      simp only [PyData.eqvAll]
    rw [e, ih, Datum.eqv]
    by_cases h : a = b
    · rw [decide_eq_true h, h]
      by_cases z : p = q
      · rw [decide_eq_true z, z, decide_eq_true rfl]
        rfl
      · rw [decide_eq_false z, decide_eq_false fun y => z (List.cons.inj y).2]
        rfl
    · rw [decide_eq_false h, decide_eq_false fun y => h (List.cons.inj y).1]
      rfl
theorem eqv_mapL {α : Type} [DecidableEq α] [Datum α] (p q : List α) : PyData.eqv (.list (p.map Datum.toD)) (.list (q.map Datum.toD)) = decide (p = q) := by
  simp only [PyData.eqv]
  exact eqvAll_mapL p q
theorem depth_mapL : ∀ p : List CoupT, (PyData.list (p.map Datum.toD)).depth ≤ 60 := fun p => by
  have h : ∀ p : List CoupT, PyData.depthAll (p.map Datum.toD) ≤ 2 := fun p => by
    induction p with
    | nil => simp only [List.map_nil, PyData.depthAll]; decide
    | cons n r ih =>
      rw [List.map_cons, PyData.depthAll]
      have h1 : (Datum.toD n).depth ≤ 2 := Datum.depth_le n
      omega
  have := h p
  simp only [PyData.depth]
  omega
theorem psl_dp {K : PySem.W.Frag} {H : Hp} {l : Addr} {ps : List CoupT} (h : PsL H l ps) : Dp K H (.ref l) (.list (ps.map Datum.toD)) := by
  obtain ⟨us, e, hu⟩ := h
  exact .lst (.inl (.inl e)) (dt_dpAll (each_dt (fun _ _ z => z.dt) hu))
section
variable {P : Program} {w : World} {K : PySem.W.Frag} {mg : Str → Option Value} {base : Heap}
def spNear3 : Sp := fun vs H Q _ => ∃ (l m : Addr) (ws : List Str) (ps qs : List CoupT), vs = [.ref l, .ref m] ∧ PsL H l ps ∧ PsL H m qs ∧ Nrm ws ps ∧ Nrm ws qs ∧ ws.length ≤ 30 ∧ ∀ H', Same H H' → Q (.bl (nearB ps qs)) H'
theorem ok_near3 {f f4 : Addr} {fd d4 : FuncData} (F : Fun K "_law_is_near" "_law_is_near" sLIsNear f fd) (ml : mg "len" = none) (C4 : Has P w K mg base 2 "_law_coupled" ["pairs", "one", "other"] spCpl3 f4 d4) : FnOk P w K mg base CX0 3 f fd ["pairs", "others"] spNear3 := by
  refine F.ok scLIsNear (fun vs H Q E h => ?_) (fun cdv A outer s H vs Q E hr h => ?_)
  · obtain ⟨l, m, ws, ps, qs, rfl, _⟩ := h
    rfl
  · obtain ⟨l, m, ws, ps, qs, rfl, pl, pm, np, nq, few, q⟩ := h
    have hu5 : (A.deeper (envOfC "_law_is_near" (defScope sLIsNear) s.heap.objs.size f cdv)).units + 1 + PySem.W.Datum.depth CoupT < cLine := by
      have := hr.units
      have e : PySem.W.Datum.depth CoupT = 2 := rfl
      omega
    refine ⟨_, pss_cons (ps_setLc (i := 2) (own := [("pair", 3)]) (g := gName 3) (tt := tTest (tOp (rInD CoupT K true) (tVar 3) (tVar 0))) rfl scLIsNear.nd rfl rfl rfl (pi_list (pv 1)) (blkOk_by (own := [("pair", 3)]) (N := ["pairs", "others", "fresh", "pair"]) (sc := defScope sLIsNear) (by decide +kernel)) (fun _ _ _ _ _ => pg_name (i := 3) scLIsNear.nd rfl (Or.inl rfl))
        (fun _ _ _ _ _ => pts_one (pt_cmpR (op_notInD (α := CoupT) hu5) (pv 3) (pv 0) (by rfl))) (fun _ _ _ _ _ => pv 3))
      (pss_cons (ps_if (pt_cmpR (op_neNil hr.units) (pv 2) (pe_lst pa_nil) (nomark _))
        (pss_one (ps_ret (pe_cmpR (op_eqP hr.units) (pe_has C4 hr (by rfl) (pa_cons (pv 0) (pa_cons (pe_ix ix_tup (pe_ix ix_list (pv 2) pe_int (fun _ _ => rfl)) pe_int (fun _ _ => rfl)) (pa_cons (pe_ix ix_tup (pe_ix ix_list (pv 2) pe_int (fun _ _ => rfl)) pe_int (fun _ _ => rfl)) pa_nil)))) (pv 1) (nomark _)))) pss_nil)
      (pss_one (ps_ret (pe_cmpR op_eq (pe_callB call_len (by rfl) ml PySem.boot_len (pa_cons (pv 0) pa_nil)) (pe_op op_add (pe_callB call_len (by rfl) ml PySem.boot_len (pa_cons (pv 1) pa_nil)) pe_int) (nomark _))))), ?_⟩
    obtain ⟨us, el, hu⟩ := id pl
    obtain ⟨vs2, em, hv⟩ := id pm
    have lp := pairs_few np.ok
    have lq := pairs_few nq.ok
    refine ⟨_, rfl, m, rfl, ⟨_, .inl (.inl em)⟩, fun D hD => ?_⟩
    refine lc_pairs (K := K) (f := fun p => decide (p ∉ ps)) (.inl (.inl (.inl em))) (sq_list (K := K) (a := m) (xs := vs2)) (fun H' s => s.keeps.l _ _ (.inl (.inl em))) hv (by rw [hv.length]; omega) hD (fun _ => rfl) (fun _ => rfl) (fun x c H' R s hc _ k => ?_) (fun u1 H1 e1 h1 s1 => ?_)
    · exact ⟨_, rfl, _, rfl, c, l, us, ps, rfl, hc.dt, .inl (.inl (s _ _ el)), hd_coups (coups_keep s.tupK hu), _, rfl, by rw [if_pos rfl]; exact r_dec _ _ (k H' (.refl H'))⟩
    refine ⟨_, rfl, by show 0 ≤ sizeLine; decide, fun b hb => ?_⟩
    have s2 := same_new (o := HO.lst []) hb
    have e2 := s2 _ _ e1
    have h2 := coups_keep s2.tupK h1
    refine ⟨D, b, u1, rfl, rfl, .inl ⟨.inl (.inl e2), .inl (.inl upd_same)⟩, _, rfl, ?_⟩
    have S2 := s1.trans s2
    generalize upd H1 b (.lst []) = H2 at s2 e2 h2 S2
    have pl2 := pl.keep S2
    have pm2 := pm.keep S2
    cases hf : (qs.filter fun p => decide (p ∉ ps)) with
    | nil =>
      rw [hf] at h2
      cases h2
      obtain ⟨us2, el2, hu2⟩ := pl2
      obtain ⟨vs3, em2, hv2⟩ := pm2
      refine iteF ⟨_, rfl, .ref l, us2.length, rfl, .inl ⟨us2, .inl (.inl el2), rfl⟩, _, rfl, .ref m, vs3.length, rfl, .inl ⟨vs3, .inl (.inl em2), rfl⟩, _, _, rfl, rfl, rfl, ?_⟩
      have := q H2 S2
      rw [nearB_nil hf] at this
      have e : decide (V.int (us2.length : Int) = V.int ((vs3.length : Int) + 1)) = decide (ps.length = qs.length + 1) := decide_eq_decide.mpr ⟨fun z => by have := V.int.inj z; rw [hu2.length, hv2.length] at this; omega, fun z => by rw [hu2.length, hv2.length, z]; rfl⟩
      rw [e]
      exact this
    | cons f0 r =>
      rw [hf] at h2
      obtain ⟨c1, c2⟩ := fresh_mem hf
      obtain ⟨x1, x2, x3⟩ := fresh_end nq c1
      have np2 := fresh_np np nq c1 c2
      match u1, h2, e2 with
      | u :: ur, .cons hu0 _, e2 =>
        obtain ⟨t, v1, v2, rfl, ht, hv1, hv2⟩ := hu0
        refine iteT ⟨_, rfl, _, rfl, D, _, 0, .ref t, rfl, rfl, .inl (.inl e2), atI_nat (j := 0) rfl, t, _, 0, v1, rfl, rfl, .inl (.inl ht), atI_nat (j := 0) rfl, ?_⟩
        refine ⟨_, rfl, D, _, 0, .ref t, rfl, rfl, .inl (.inl e2), atI_nat (j := 0) rfl, t, _, 1, v2, rfl, rfl, .inl (.inl ht), atI_nat (j := 1) rfl, ?_⟩
        refine ⟨l, v1, v2, ws, ps, f0.1, f0.2, rfl, pl2, np, by omega, hv1, hv2, x1, x2, x3, np2, fun t3 H3 ht3 s3 p3 => ?_⟩
        refine ⟨_, rfl, .list ((cplL ps f0.1 f0.2).map Datum.toD), .list (qs.map Datum.toD), psl_dp p3, psl_dp (pm2.keep s3), plain_mapL _, plain_mapL _, Nat.le_trans (Nat.min_le_left _ _) (depth_mapL _), ?_⟩
        rw [eqv_mapL]
        have := q H3 (S2.trans s3)
        rw [nearB_cons hf] at this
        exact r_dec (R := fun b H => Q (.bl b) H) _ _ this
end
end My
set_option Elab.async false
set_option linter.all false
set_option maxRecDepth 100000
set_option maxHeartbeats 4000000
/-! _law_names of the laws k69 to k92: up to thirty different names, ascending -/
namespace My
open PySem PySem.Spec PyProof.Rows L2
theorem seq_splitN {t u : TS} {D : Ends} {σ : L2.St} {H : Hp} (P : L2.St → Hp → Prop) (h : ∀ nx : L2.St → Hp → Prop, (∀ σ H, P σ H → nx σ H) → t { D with nx := nx } σ H) (k : ∀ σ H, P σ H → u D σ H) : tSeq t u D σ H := h _ k
def nmK (front : Str) (f2 st k : Nat) : Str := front ++ (⟨#[97 + (f2 + st * k) % 26]⟩ : Str) ++ Txt.mul ("z" : Str) ((k / 26 : Nat) : Int)
theorem mulz {k : Nat} (hk : k < 30) : Txt.mul ("z" : Str) ((k / 26 : Nat) : Int) = if 25 < k then ("z" : Str) else Str.empty := by
  by_cases h : 25 < k
  · rw [if_pos h, show k / 26 = 1 by omega]
    decide +kernel
  · rw [if_neg h, show k / 26 = 0 by omega]
    decide +kernel
theorem nmK_codes (front : Str) (f2 st : Nat) {k : Nat} (hk : k < 30) : (nmK front f2 st k).cps.toList = front.cps.toList ++ [97 + (f2 + st * k) % 26] ++ (if 25 < k then [122] else []) := by
  unfold nmK
  rw [Str.cps_append, Array.toList_append, Str.cps_append, Array.toList_append, mulz hk]
  by_cases h : 25 < k
  · rw [if_pos h, if_pos h]
    rfl
  · rw [if_neg h, if_neg h]
    rfl
theorem nmK_ok {front : Str} (f6 : front.length ≤ 6) (fok : ∀ cd ∈ front.cps.toList, 97 ≤ cd ∧ cd ≤ 122) (f2 st : Nat) {k : Nat} (hk : k < 30) : NameOk (nmK front f2 st k) := by
  have e := nmK_codes front f2 st hk
  have l : (nmK front f2 st k).length ≤ front.length + 2 ∧ 1 ≤ (nmK front f2 st k).length := by
    rw [str_len, e, List.length_append, List.length_append, List.length_singleton, ← str_len]
    by_cases h : 25 < k
    · rw [if_pos h]
      show front.length + 1 + 1 ≤ _ ∧ 1 ≤ front.length + 1 + 1
      omega
    · rw [if_neg h]
      show front.length + 1 + 0 ≤ _ ∧ 1 ≤ front.length + 1 + 0
      omega
  refine ⟨by omega, by omega, fun c hc => ?_⟩
  rw [e] at hc
  rcases List.mem_append.mp hc with hc | hc
  · rcases List.mem_append.mp hc with hc | hc
    · exact fok c hc
    · rw [List.mem_singleton.mp hc]
      have := Nat.mod_lt (f2 + st * k) (show 0 < 26 by decide)
      omega
  · by_cases h : 25 < k
    · rw [if_pos h] at hc
      rw [List.mem_singleton.mp hc]
      omega
    · rw [if_neg h] at hc
      cases hc
/-- a name; eight letters end with z -/
def NmO (x : Str) : Prop := NameOk x ∧ (x.length = 8 → x.cps.toList.getLast? = some 122)
theorem nmK_ok2 {front : Str} (f6 : front.length ≤ 6) (fok : ∀ cd ∈ front.cps.toList, 97 ≤ cd ∧ cd ≤ 122) (f2 st : Nat) {k : Nat} (hk : k < 30) : NmO (nmK front f2 st k) := by
  refine ⟨nmK_ok f6 fok f2 st hk, fun h8 => ?_⟩
  rw [str_len, nmK_codes front f2 st hk, List.length_append, List.length_append, List.length_singleton, ← str_len] at h8
  rw [nmK_codes front f2 st hk]
  by_cases h : 25 < k
  · rw [if_pos h]
    simp
  · rw [if_neg h] at h8
    simp at h8
    omega
abbrev StOk (st : Nat) : Prop := st ∈ [1, 3, 5, 7, 9, 11, 15, 17, 19, 21, 23, 25]
theorem nmK_inj {front : Str} {f2 st i j : Nat} (hs : StOk st) (hi : i < 30) (hj : j < 30) (h : nmK front f2 st i = nmK front f2 st j) : i = j := by
  have e : (nmK front f2 st i).cps.toList = (nmK front f2 st j).cps.toList := by rw [h]
  rw [nmK_codes _ _ _ hi, nmK_codes _ _ _ hj, List.append_assoc, List.append_assoc] at e
  have e := List.append_cancel_left e
  have fin : (f2 + st * i) % 26 = (f2 + st * j) % 26 → (25 < i ↔ 25 < j) → i = j := fun e k => by
    simp only [StOk, List.mem_cons, List.not_mem_nil, or_false] at hs
    rcases hs with rfl | rfl | rfl | rfl | rfl | rfl | rfl | rfl | rfl | rfl | rfl | rfl <;> omega
  by_cases a : 25 < i
  · by_cases b : 25 < j
    · rw [if_pos a, if_pos b] at e
      simp only [List.singleton_append, List.cons.injEq, and_true] at e
      exact fin (by omega) ⟨fun _ => b, fun _ => a⟩
    · rw [if_pos a, if_neg b] at e
      simp at e
  · by_cases b : 25 < j
    · rw [if_neg a, if_pos b] at e
      simp at e
    · rw [if_neg a, if_neg b] at e
      simp only [List.append_nil, List.cons.injEq, and_true] at e
      exact fin (by omega) ⟨fun z => absurd z a, fun z => absurd z b⟩
theorem nmKs_nodup {front : Str} {f2 st many : Nat} (hs : StOk st) (hm : many ≤ 30) : ((List.range many).map (nmK front f2 st)).Nodup :=
  nodup_map_on List.nodup_range fun a ha b hb e => nmK_inj hs (Nat.lt_of_lt_of_le (List.mem_range.mp ha) hm) (Nat.lt_of_lt_of_le (List.mem_range.mp hb) hm) e
theorem nmK_front {front : Str} {f2 st many : Nat} (hm : many ≤ 30) : front ∉ (List.range many).map (nmK front f2 st) := fun h => by
  obtain ⟨k, hk, e⟩ := List.mem_map.mp h
  have e2 : (nmK front f2 st k).cps.toList.length = front.cps.toList.length := by rw [e]
  rw [nmK_codes _ _ _ (Nat.lt_of_lt_of_le (List.mem_range.mp hk) hm), List.length_append, List.length_append, List.length_singleton] at e2
  omega
theorem nodup_set {α : Type} {x : α} : ∀ {xs : List α} {i : Nat}, xs.Nodup → x ∉ xs → (xs.set i x).Nodup
  | [], _, _, _ => List.nodup_nil
  | a :: r, 0, h, g => List.nodup_cons.mpr ⟨fun z => g (List.mem_cons_of_mem _ z), (List.nodup_cons.mp h).2⟩
  | a :: r, i + 1, h, g => by
    rw [List.set_cons_succ]
    have h := List.nodup_cons.mp h
    refine List.nodup_cons.mpr ⟨fun z => ?_, nodup_set h.2 fun z => g (List.mem_cons_of_mem _ z)⟩
    rcases List.mem_or_eq_of_mem_set z with z | z
    · exact h.1 z
    · exact g (by rw [z]; exact List.mem_cons_self)
abbrev nmN : List Str := ["pen", "many", "letters", "base", "first", "stride", "found", "k"]
section
variable {P : Program} {w : World} {K : PySem.W.Frag} {mg : Str → Option Value} {base : Heap}
/-- names, in a list of that length -/
def spLNm (K : PySem.W.Frag) : Sp := fun vs H Q _ => ∃ (p c : Addr) (n many : Nat), vs = [.ref p, .int (many : Int)] ∧ PenAt H p c n ∧ n ≤ 800000000 ∧ many ≤ 30 ∧
  ∀ (l : Addr) (xs : List Str) (H' : Hp), Names xs → (∀ x ∈ xs, x.length = 8 → x.cps.toList.getLast? = some 122) → Asc xs → xs.length = many → H l = none → H' l = some (.lst (xs.map V.str)) → SameP p H H' → PenAt H' p c (n + 12) → Q (.ref l) H'
theorem ok_lnms {f fD fP fS : Addr} {fd dD dP dS : FuncData} (F : Fun K "_law_names" "_law_names" sLNames f fd) (T : Draws P w K mg base fD fP fS dD dP dS) (mr : mg "range" = none) (ms : mg "sorted" = none) : FnOk P w K mg base CX0 3 f fd ["pen", "many"] (spLNm K) := by
  refine F.ok scLNames (fun vs H Q E h => ?_) (fun cdv A outer s H vs Q E hr h => ?_)
  · obtain ⟨p, c, n, many, rfl, _⟩ := h
    rfl
  · obtain ⟨p, c, n, many, rfl, G, hn, hm, q⟩ := h
    have hr1 := hr.mono (show 1 ≤ 2 by decide)
    have hu2 : (A.deeper (envOfC "_law_names" (defScope sLNames) s.heap.objs.size f cdv)).units + 2 + PySem.W.Datum.depth Str < cLine := by
      have := hr.units
      have e : PySem.W.Datum.depth Str = 0 := rfl
      omega
    refine ⟨_, pss_cons (ps_set (i := 2) scLNames.nd rfl (.inr rfl) pe_str)
      (pss_cons (ps_set (i := 3) scLNames.nd rfl (.inr rfl) (pe_join pe_str (pe_lc (own := [("k", 7)]) (g := gName 7) (tt := tYes) rfl scLNames.nd
          (pi_range1 (by rfl) mr (pa_cons (pe_call T.oD hr1 (by rfl) T.gD T.kD T.bD .nil pass0 (pa_cons (pv 0) (pa_cons pe_int pa_nil))) pa_nil))
          (blkOk_by (own := [("k", 7)]) (N := nmN) (sc := defScope sLNames) (by decide +kernel))
          (fun _ _ _ _ _ => pg_name (i := 7) scLNames.nd rfl (Or.inl rfl)) (fun _ _ _ _ _ => pts_nil) (fun _ _ _ _ _ => pe_call T.oP hr (by rfl) T.gP T.kP T.bP .nil pass0 (pa_cons (pv 0) (pa_cons (pv 2) pa_nil))))))
      (pss_cons (ps_asg (pe_tup (pa_cons (pe_call T.oD hr1 (by rfl) T.gD T.kD T.bD .nil pass0 (pa_cons (pv 0) (pa_cons pe_int pa_nil)))
        (pa_cons (pe_call T.oP hr (by rfl) T.gP T.kP T.bP .nil pass0 (pa_cons (pv 0) (pa_cons (pe_lst (pa_cons pe_int (pa_cons pe_int (pa_cons pe_int (pa_cons pe_int (pa_cons pe_int (pa_cons pe_int (pa_cons pe_int (pa_cons pe_int (pa_cons pe_int (pa_cons pe_int (pa_cons pe_int (pa_cons pe_int pa_nil))))))))))))) pa_nil))) pa_nil)))
        (pg_tup rfl (pgs_cons (pg_name (i := 4) scLNames.nd rfl (.inr rfl)) (pgs_cons (pg_name (i := 5) scLNames.nd rfl (.inr rfl)) pgs_nil))))
      (pss_cons (ps_setLc (i := 6) (own := [("k", 7)]) (g := gName 7) (tt := tYes) rfl scLNames.nd rfl rfl rfl (pi_range1 (by rfl) mr (pa_cons (pv 1) pa_nil))
          (blkOk_by (own := [("k", 7)]) (N := nmN) (sc := defScope sLNames) (by decide +kernel))
          (fun _ _ _ _ _ => pg_name (i := 7) scLNames.nd rfl (Or.inl rfl)) (fun _ _ _ _ _ => pts_nil)
          (fun _ _ _ _ _ => pe_op op_add_str (pe_op op_add_str (pv 3) (pe_ix ix_str (pv 2) (pe_op op_mod (pe_op op_add (pv 4) (pe_op op_mul (pv 5) (pv 7))) pe_int) (fun _ _ => rfl))) (pe_op op_mulS pe_str (pe_op op_fdiv (pv 7) pe_int))))
      (pss_cons (ps_if (PW.pt (pw_and (pt_cmpR op_gt (pv 1) pe_int (nomark _)) (pw_and (pt_cmpR op_ne (pv 3) pe_str (nomark _)) (pw_and1 (pt_cmpR op_eq (pe_call T.oD hr1 (by rfl) T.gD T.kD T.bD .nil pass0 (pa_cons (pv 0) (pa_cons pe_int pa_nil))) pe_int (nomark _))))))
          (pss_one (ps_asg (pv 3) (pg_sub (pv 6) (pe_call T.oD hr1 (by rfl) T.gD T.kD T.bD .nil pass0 (pa_cons (pv 0) (pa_cons (pv 1) pa_nil))) set_list))) pss_nil)
      (pss_one (ps_ret (pe_callB (call_sortR (α := Str) sortable_str hu2) (by rfl) ms (by decide +kernel) (pa_cons (pv 6) pa_nil)))))))), ?_⟩
    -- base
    refine ⟨⟨_, rfl⟩, _, rfl, p, c, n, 7, rfl, G, by omega, by decide, by decide, fun d H1 d0 d1 s1 G1 => ⟨d, rfl, by omega, by omega, fun Dl hD => ?_⟩⟩
    have hD0 : H Dl = none := s1.free G1 hD
    refine lcN_range (lo := 0) (n := d.toNat) (fun i H' => ∃ cs : List Nat, H' Dl = some (.lst (cs.map fun cd => V.str (sign cd))) ∧ cs.length = i ∧ (∀ cd ∈ cs, 97 ≤ cd ∧ cd ≤ 122) ∧ SameP p H H' ∧ PenAt H' p c (n + 1 + i))
      ⟨[], upd_same, rfl, fun _ z => (nomatch z), s1.trans (SameP.new hD), G1.same (same_new hD)⟩ (fun i H2 hi hp => ?_) (fun H2 hp => ?_)
    · obtain ⟨cs, eD, hl, hc, s2, G2⟩ := hp
      refine ⟨rfl, ?_⟩
      refine ⟨_, rfl, _, rfl, p, c, _, .str abc, _, rfl, G2, by omega, .str (by rw [abc_len]; decide), ?_, ?_, fun j v H3 hv s3 G3 => ?_⟩
      · rw [List.length_map, abc_codes, List.length_map, List.length_range]
        decide
      · rw [List.length_map, abc_codes, List.length_map, List.length_range]
        decide
      · obtain ⟨cd, rfl, c0, c1⟩ := abc_item hv
        have eD3 := s3.lst G2 eD
        refine ⟨_, eD3, Evl.sz_lt (by rw [List.length_map]; omega), cs ++ [cd], ?_, by rw [List.length_append, hl]; rfl, fun z hz => ?_, fun b o nb e => ?_, ?_⟩
        · rw [upd_same, List.map_append]
          rfl
        · rcases List.mem_append.mp hz with hz | hz
          · exact hc z hz
          · rw [List.mem_singleton.mp hz]
            exact ⟨c0, c1⟩
        · rw [upd_ne (ne_of_none e hD0)]
          exact (s2.trans s3) b o nb e
        · exact (G3.upd (G1.apart' hD) (G1.apart hD)).mono (by omega)
    obtain ⟨cs, eD, hl, hc, s2, G2⟩ := hp
    have hlen : cs.length ≤ 6 := by omega
    refine ⟨Str.empty, Dl, cs.map sign, rfl, rfl, .inl (by rw [signs_V]; exact .inl (.inl eD)), ?_, ?_⟩
    · rw [sum_signs, List.length_map]
      show cs.length + cs.length * 0 ≤ 16777216
      omega
    generalize hfr : Txt.join Str.empty (cs.map sign) = front
    have fc : front.cps.toList = cs := by rw [← hfr, TL.join_eq, join_signs]
    have f6 : front.length ≤ 6 := by rw [str_len, fc]; exact hlen
    have fok : ∀ cd ∈ front.cps.toList, 97 ≤ cd ∧ cd ≤ 122 := by rw [fc]; exact hc
    have G2 := G2.mono (show n + 1 + d.toNat ≤ n + 7 by omega)
    clear eD hl hc hlen hD hD0 s1 G1 hfr fc
    -- first, stride
    refine ⟨_, rfl, p, c, _, 26, rfl, G2, by omega, by decide, by decide, fun f1 H3 f0 f26 s3 G3 => ?_⟩
    refine ⟨_, rfl, by show 12 ≤ sizeLine; decide, fun o1 ho1 => ?_⟩
    have so := same_new (o := HO.lst [.int 1, .int 3, .int 5, .int 7, .int 9, .int 11, .int 15, .int 17, .int 19, .int 21, .int 23, .int 25]) ho1
    refine ⟨p, c, _, .ref o1, [.int 1, .int 3, .int 5, .int 7, .int 9, .int 11, .int 15, .int 17, .int 19, .int 21, .int 23, .int 25], rfl, G3.same so, by omega, .lst (.inl (.inl upd_same)), by decide, by decide, fun j v H4 hv s4 G4 => ?_⟩
    obtain ⟨st, rfl, hst⟩ : ∃ st : Nat, v = .int (st : Int) ∧ StOk st := by
      have := List.mem_of_getElem? hv
      simp only [List.mem_cons, List.not_mem_nil, or_false] at this
      rcases this with rfl | rfl | rfl | rfl | rfl | rfl | rfl | rfl | rfl | rfl | rfl | rfl
      · exact ⟨1, rfl, by decide⟩
      · exact ⟨3, rfl, by decide⟩
      · exact ⟨5, rfl, by decide⟩
      · exact ⟨7, rfl, by decide⟩
      · exact ⟨9, rfl, by decide⟩
      · exact ⟨11, rfl, by decide⟩
      · exact ⟨15, rfl, by decide⟩
      · exact ⟨17, rfl, by decide⟩
      · exact ⟨19, rfl, by decide⟩
      · exact ⟨21, rfl, by decide⟩
      · exact ⟨23, rfl, by decide⟩
      · exact ⟨25, rfl, by decide⟩
    obtain ⟨f2, rfl⟩ : ∃ f2 : Nat, f1 = (f2 : Int) := ⟨f1.toNat, by omega⟩
    have s5 : SameP p H H4 := ((s2.trans s3).trans (SameP.of so)).trans s4
    have G4 := G4.mono (show n + 7 + 1 + 1 ≤ n + 9 by omega)
    clear s2 s3 so s4 G2 G3 hv
    refine ⟨by show 2 ≤ sizeLine; decide, fun t0 ht0 => ?_⟩
    have s6 := same_new (o := HO.tup [V.int (f2 : Int), .int (st : Int)]) ht0
    have e6 : SqT K (upd H4 t0 (HO.tup [V.int (f2 : Int), .int (st : Int)])) t0 [V.int (f2 : Int), .int (st : Int)] := .inl (.inl upd_same)
    have G6 := G4.same s6
    have S6 : SameP p H (upd H4 t0 (HO.tup [V.int (f2 : Int), .int (st : Int)])) := s5.trans (SameP.of s6)
    generalize upd H4 t0 (HO.tup [V.int (f2 : Int), .int (st : Int)]) = H6 at e6 G6 S6
    refine ⟨t0, _, rfl, e6, rfl, _, _, rfl, _, _, rfl, rfl, ?_⟩
    clear s6 e6 ht0 s5 G4
    have st25 : st ≤ 25 := by
      simp only [StOk, List.mem_cons, List.not_mem_nil, or_false] at hst
      omega
    -- found
    refine ⟨_, rfl, (many : Int), rfl, by omega, by omega, fun Dl hD => ?_⟩
    refine lcN_range (lo := 0) (n := (many : Int).toNat) (fun i H' => H' Dl = some (.lst (((List.range i).map (nmK front f2 st)).map V.str)) ∧ Same H6 H') ⟨upd_same, same_new hD⟩ (fun i H7 hi hp => ?_) (fun H7 hp => ?_)
    · obtain ⟨eD, sm⟩ := hp
      have hi30 : i < 30 := by omega
      have e0 : ((0 : Int) + (i : Int)) / 26 = ((i / 26 : Nat) : Int) := by omega
      refine ⟨rfl, ?_⟩
      refine ⟨_, rfl, _, rfl, _, rfl, _, rfl, _, rfl, _, _, rfl, rfl, cmul_l (by omega) (by omega), _, _, rfl, rfl, _, _, rfl, rfl, (by show (0 : Int) < 26; decide), abc, _, 97 + (f2 + st * i) % 26, rfl, rfl, (by rw [abc_len]; decide), ?_, _, _, rfl, rfl, ?_, _, rfl, _, _, rfl, rfl, ⟨by decide, by decide⟩, "z", _, rfl, rfl, by decide, ?_, ?_, _, _, rfl, rfl, ?_, ?_⟩
      · rw [place_nat]
        exact atI_nat (abc_at (Nat.mod_lt _ (by decide)))
      · show front.length + 1 ≤ sizeLine
        exact Evl.sz_of (by omega)
      · omega
      · omega
      · rw [e0]
        show (front ++ (⟨#[97 + (f2 + st * i) % 26]⟩ : Str)).length + (Txt.mul ("z" : Str) ((i / 26 : Nat) : Int)).length ≤ sizeLine
        have ez : (Txt.mul ("z" : Str) ((i / 26 : Nat) : Int)).length ≤ 1 := by
          rw [mulz hi30]
          by_cases h : 25 < i
          · rw [if_pos h]
            decide +kernel
          · rw [if_neg h]
            decide +kernel
        rw [Str.length_append]
        have : (⟨#[97 + (f2 + st * i) % 26]⟩ : Str).length = 1 := rfl
        exact Evl.sz_of (by omega)
      · rw [e0]
        refine ⟨_, eD, Evl.sz_lt (by rw [List.length_map, List.length_map, List.length_range]; omega), ?_, fun b o e => ?_⟩
        · rw [upd_same, List.range_succ, List.map_append, List.map_append]
          rfl
        · rw [upd_ne (ne_of_none e hD)]
          exact sm b o e
    obtain ⟨eD, sm⟩ := hp
    rw [show (many : Int).toNat = many from rfl] at eD
    have hD0 : H Dl = none := S6.free G6 hD
    have nmo : ∀ x ∈ (List.range many).map (nmK front f2 st), NmO x := fun x hx => by
      obtain ⟨k, hk, rfl⟩ := List.mem_map.mp hx
      exact nmK_ok2 f6 fok f2 st (Nat.lt_of_lt_of_le (List.mem_range.mp hk) hm)
    have ndo := nmKs_nodup (front := front) (f2 := f2) hst hm
    have nfr := nmK_front (front := front) (f2 := f2) (st := st) hm
    have lno : ((List.range many).map (nmK front f2 st)).length = many := by rw [List.length_map, List.length_range]
    generalize (List.range many).map (nmK front f2 st) = ns at eD nmo lno ndo nfr
    have bOk : front ≠ ("" : Str) → NmO front := fun ne => by
      refine ⟨⟨?_, by omega, fok⟩, fun z => by omega⟩
      by_cases z : front.length = 0
      · refine absurd ?_ ne
        cases front with
        | mk cps =>
          have z : cps.size = 0 := z
          rw [Array.size_eq_zero_iff.mp z]
          rfl
      · omega
    have G7 := G6.same sm
    have S7 := S6.trans (SameP.of sm)
    clear sm S6 G6 hst
    -- the if
    dsimp only
    refine seq_splitN (t := tIfS _ _ _) (fun σ H' => ∃ (ns : List Str) (y7 : Option V), σ = [some (.ref p), some (.int (many : Int)), some (.str abc), some (.str front), some (.int (f2 : Int)), some (.int (st : Int)), some (.ref Dl), y7] ∧ H' Dl = some (.lst (ns.map V.str)) ∧ (∀ x ∈ ns, NmO x) ∧ ns.Nodup ∧ ns.length = many ∧ SameP p H H' ∧ PenAt H' p c (n + 11)) (fun nx kk => ?_) (fun σ H' hh => ?_)
    · refine ⟨_, rfl, _, _, rfl, rfl, _, rfl, ?_⟩
      by_cases h0 : (0 : Int) < (many : Int)
      case neg =>
        rw [decide_eq_false h0]
        exact iteF (kk _ _ ⟨ns, _, rfl, eD, nmo, ndo, lno, S7, G7.mono (by omega)⟩)
      rw [decide_eq_true h0]
      refine iteT ⟨_, rfl, rfl, _, rfl, ?_⟩
      show if (!decide (V.str front = V.str ("" : Str))) = true then _ else _
      by_cases ne : front = ("" : Str)
      · rw [decide_eq_true (congrArg V.str ne)]
        exact iteF (kk _ _ ⟨ns, _, rfl, eD, nmo, ndo, lno, S7, G7.mono (by omega)⟩)
      · rw [decide_eq_false fun z => ne (V.str.inj z)]
        refine iteT ⟨_, rfl, p, c, _, 3, rfl, G7, by omega, by decide, by decide, fun d3 H8 d30 d31 s8 G8 => ⟨rfl, _, rfl, ?_⟩⟩
        have eD8 := s8.lst G7 eD
        have S8 := S7.trans s8
        cases decide (V.int d3 = V.int 0) with
        | false => exact iteF (kk _ _ ⟨ns, _, rfl, eD8, nmo, ndo, lno, S8, G8.mono (by omega)⟩)
        | true =>
          refine iteT ⟨_, rfl, _, rfl, _, rfl, _, rfl, p, c, _, (many : Int), rfl, G8, by omega, by omega, by omega, fun d4 H9 d40 d41 s9 G9 => ?_⟩
          obtain ⟨j4, rfl⟩ : ∃ j : Nat, d4 = (j : Int) := ⟨d4.toNat, by omega⟩
          have eD9 := s9.lst G8 eD8
          have ej : ixN (ns.map V.str).length (j4 : Int) = some j4 := by
            unfold ixN
            rw [List.length_map, if_pos (by omega), if_pos (by omega)]
            simp
          refine ⟨Dl, _, _, j4, rfl, rfl, eD9, ej, ?_⟩
          refine kk _ _ ⟨ns.set j4 front, _, rfl, ?_, fun x hx => ?_, nodup_set ndo nfr, by rw [List.length_set]; exact lno, fun b o nb e => ?_, (G9.upd (G.apart' hD0) (G.apart hD0)).mono (by omega)⟩
          · rw [upd_same, List.map_set]
          · rcases List.mem_or_eq_of_mem_set hx with h | h
            · exact nmo x h
            · rw [h]; exact bOk ne
          · rw [upd_ne (ne_of_none e hD0)]
            exact s9 b o nb (S8 b o nb e)
    · obtain ⟨ns, y7, rfl, eD, nmo, ndo, lno, S8, G8⟩ := hh
      refine ⟨_, rfl, fun v x => v = V.str x, Dl, _, ns, rfl, .inl (.inl (.inl eD)), each_strs ns, fun v b e => by rw [e]; exact .str _, by omega, fun p1 ws hp e1 => ?_⟩
      rw [strs_each e1]
      have s9 := same_new (o := HO.lst ((sortO ns).map V.str)) hp
      have pm : (sortO ns).Perm ns := List.mergeSort_perm ns leO
      exact q p1 (sortO ns) _ ⟨fun x hx => (nmo x (pm.subset hx)).1, pm.symm.nodup ndo⟩ (fun x hx => (nmo x (pm.subset hx)).2) (asc_of anti_str ndo) (by rw [pm.length_eq, lno]) (S8.free G8 hp) upd_same (S8.trans (SameP.of s9)) ((G8.same s9).mono (by omega))
end
end My
set_option Elab.async false
set_option linter.all false
set_option maxRecDepth 100000
set_option maxHeartbeats 4000000
/-! try .. except (X, Y) as e: kept = e .. except Z as e: ..; the error kept is tracked behind the statement -/
namespace My
open PySem PySem.Spec PyProof.Rows L2
/-- an error of the class cls with the dict d -/
def XO (cls : Value) (d : Option Addr) (a : Addr) : HO := .ext fun h => ∃ (oe : Obj) (vs : Array Value), h.get? a = some oe ∧ Zc cls d oe ∧ oe.data = .fields vs
theorem xo_ok {P : Program} {w : World} {H : Hp} {h : Heap} {a : Addr} {cls : Value} {d : Option Addr} {oe : Obj} {vs : Array Value} (e : h.get? a = some oe) (z : Zc cls d oe) (q : oe.data = .fields vs) : ObjOk P w H h a (XO cls d a) :=
  ⟨⟨oe, vs, e, z, q⟩, ⟨oe, e⟩, fun _ _ ⟨o, v, p, r⟩ k => ⟨o, v, k o p, r⟩⟩
section
variable {X : Cx} {pins : List (Addr × Obj)} {σ : L2.St} {H : Hp} {s : Shared}
theorem track {a : Addr} {oe : Obj} {vs : Array Value} {cls : Value} {d : Option Addr} (I : Inv X pins σ H s) (he : s.heap.get? a = some oe) (hz : Zc cls d oe) (hd : oe.data = .fields vs) (na : H a = none) (n0 : X.s_0.heap.get? a = none) (nL : a ≠ X.env.locals)
    (np : ∀ p ∈ X.pn ++ pins, p.1 ≠ a) : Inv X pins σ (upd H a (XO cls d a)) s := by
  have n1 : ∀ {b o}, X.s_0.heap.get? b = some o → b ≠ a := fun {b o} e z => by rw [z, n0] at e; cases e
  have n2 : ∀ {b u}, H b = some u → b ≠ a := fun {b u} e => ne_of_none e na
  refine ⟨I.ok, I.os, I.bare, ⟨I.base.keep, I.base.slot, fun b o e n q => ?_, I.base.there, fun b xs e => ?_, fun b o u e => ?_, fun b ps e => ?_⟩, I.loc, I.cell, ?_, fun x c e => ?_, fun p hp => ?_, HOk.laidN I.hok (fun _ _ e => e) na (xo_ok he hz hd), I.len⟩
  · rw [upd_ne (n1 e)]
    exact I.base.free b o e n q
  · have q := I.base.tups b xs e
    rw [upd_ne (n2 q)]
    exact q
  · have q := I.base.frzs b o u e
    rw [upd_ne (n2 q)]
    exact q
  · obtain ⟨m, q⟩ := I.base.tbls b ps e
    exact ⟨m, by rw [upd_ne (n2 q)]; exact q⟩
  · rw [upd_ne (Ne.symm nL)]
    exact I.free
  · have ne : c ≠ a := fun z => by
      obtain ⟨v, o, ho, hc⟩ := I.cell x c e
      rw [z, he] at ho
      cases ho
      rw [hd] at hc
      cases hc
    rw [upd_ne ne]
    exact I.freeC x c e
  · obtain ⟨p1, p2, p3⟩ := I.pin p hp
    exact ⟨p1, by rw [upd_ne (np p hp)]; exact p2, p3⟩
theorem fly_keep {B h h' : Heap} {l : List Env} {a : Addr} {Z : Obj → Prop} (f : HandSPX.FlyingZ B l a Z h) (k : ∀ b o, h.get? b = some o → h'.get? b = some o) : HandSPX.FlyingZ B l a Z h' := by
  obtain ⟨f1, f2, f3, oe, vs, T, oT, ts, e1, e2, e3, e4, e5, e6, e7, e8, e9⟩ := f
  exact ⟨fun b o q => k b o (f1 b o q), f2, f3.of_keeps fun b o q _ => ⟨o, k b o q, rfl⟩, oe, vs, T, oT, ts, k _ _ e1, e2, e3, e4, e5, e6, k _ _ e7, e8, e9⟩
/-! what an except clause names -/
/-- the test of a clause is evaluated, and matched -/
structure TstOk (X : Cx) (t : Expr) (cs : List Value) : Prop where
  run : ∀ {a : Addr} {oe : Obj} {cls : Value} {b : Bool} {pn pins : List (Addr × Obj)} {σ : L2.St} {H : Hp} {s : Shared} {Q : Bool → Shared → Prop} {E : Value → Shared → Prop}, Inv (X.suite a pn) pins σ H s → s.heap.get? a = some oe → oe.cls = cls →
  PySem.W.exmAny X.K cls cs = some b → (∀ h', (∀ q o, s.heap.get? q = some o → h'.get? q = some o) → Q b { s with heap := h' }) →
  wpAny (model X.prog X.w) (X.A.mark (some (.ref a))) (eval t X.env) (fun c s1 => wpAny (model X.prog X.w) (X.A.mark (some (.ref a))) (excMatches (.ref a) c) Q E s1) E s
theorem name_at {a : Addr} {pn : List (Addr × Obj)} {x : Str} {c : Value} {np : Pos} {Q : Value → Shared → Prop} {E : Value → Shared → Prop} (I : Inv (X.suite a pn) pins σ H s) (hc : L2.Names X x c) (q : Q c s) : wpAny (model X.prog X.w) (X.A.mark (some (.ref a))) (eval (.Name x np) X.env) Q E s := by
  obtain ⟨h1, h2, h3 | ⟨h3, h4, h5⟩⟩ := hc
  · exact ld_glob (X := X.suite a pn) I h1 h3 q h2
  · exact ld_blt (X := X.suite a pn) I h1 h3 h4 q h5 h2
theorem ty_look {a : Addr} {oe : Obj} {cls : Value} (he : s.heap.get? a = some oe) (hc : oe.cls = cls) : PySem.W.Looks (model X.prog X.w) s.heap (typeOf (.ref a)) cls := fun A Q E s' k q => wpAny_typeOf_ref (k _ _ he) (by rw [hc]; exact q)
theorem any_one {K : PySem.W.Frag} {cls c : Value} {b : Bool} (h : PySem.W.exmAny K cls [c] = some b) : PySem.W.exmOne K cls c = some b := by
  obtain ⟨b1, d1, e1, e2, e3⟩ := PySem.W.exmAny_cons h
  cases (show some false = some d1 from e2)
  rw [Bool.or_false] at e3
  rw [e1, e3]
theorem tst1 {x : Str} {c : Value} {np : Pos} (hc : L2.Names X x c) : TstOk X (.Name x np) [c] := ⟨fun {a oe cls b pn pins σ H s Q E} I he ho hx q => name_at I hc ((PySem.W.exm_one (M := model X.prog X.w) I.kIn (ty_look (X := X) he ho) (any_one hx)).here (q s.heap fun _ _ z => z))⟩
theorem tst2 {x1 x2 : Str} {c1 c2 : Value} {p1 p2 tp : Pos} {kk : Nat} (h1 : L2.Names X x1 c1) (h2 : L2.Names X x2 c2) : TstOk X (.Tuple [.Name x1 p1, .Name x2 p2] kk tp) [c1, c2] := ⟨fun {a oe cls b pn pins σ H s Q E} I he ho hx q => by
  refine wpAny_Tuple (wpAny_items_cons (name_at I h1 (wpAny_items_cons (name_at I h2 (wpAny_items_nil ⟨by size_fits, ?_⟩)))))
  have kp : ∀ q o, s.heap.get? q = some o → (s.heap.push { cls := .type "tuple", data := .seq [c1, c2].toArray }).get? q = some o := fun _ _ z => Heap.get?_push_of_some _ z
  exact (PySem.W.exm_tup2 (M := model X.prog X.w) (PySem.W.Frag.In.keeps I.kIn kp) ((ty_look (X := X) he ho).keeps kp) (Heap.get?_push_size s.heap rfl) hx).here (q _ kp)⟩
theorem tst3 {x1 x2 x3 : Str} {c1 c2 c3 : Value} {p1 p2 p3 tp : Pos} {kk : Nat} (h1 : L2.Names X x1 c1) (h2 : L2.Names X x2 c2) (h3 : L2.Names X x3 c3) : TstOk X (.Tuple [.Name x1 p1, .Name x2 p2, .Name x3 p3] kk tp) [c1, c2, c3] := ⟨fun {a oe cls b pn pins σ H s Q E} I he ho hx q => by
  refine wpAny_Tuple (wpAny_items_cons (name_at I h1 (wpAny_items_cons (name_at I h2 (wpAny_items_cons (name_at I h3 (wpAny_items_nil ⟨by size_fits, ?_⟩)))))))
  have kp : ∀ q o, s.heap.get? q = some o → (s.heap.push { cls := .type "tuple", data := .seq [c1, c2, c3].toArray }).get? q = some o := fun _ _ z => Heap.get?_push_of_some _ z
  exact (PySem.W.exm_tup3 (M := model X.prog X.w) (PySem.W.Frag.In.keeps I.kIn kp) ((ty_look (X := X) he ho).keeps kp) (Heap.get?_push_size s.heap rfl) hx).here (q _ kp)⟩
theorem tst4 {x1 x2 x3 x4 : Str} {c1 c2 c3 c4 : Value} {p1 p2 p3 p4 tp : Pos} {kk : Nat} (h1 : L2.Names X x1 c1) (h2 : L2.Names X x2 c2) (h3 : L2.Names X x3 c3) (h4 : L2.Names X x4 c4) : TstOk X (.Tuple [.Name x1 p1, .Name x2 p2, .Name x3 p3, .Name x4 p4] kk tp) [c1, c2, c3, c4] := ⟨fun {a oe cls b pn pins σ H s Q E} I he ho hx q => by
  refine wpAny_Tuple (wpAny_items_cons (name_at I h1 (wpAny_items_cons (name_at I h2 (wpAny_items_cons (name_at I h3 (wpAny_items_cons (name_at I h4 (wpAny_items_nil ⟨by size_fits, ?_⟩)))))))))
  have kp : ∀ q o, s.heap.get? q = some o → (s.heap.push { cls := .type "tuple", data := .seq [c1, c2, c3, c4].toArray }).get? q = some o := fun _ _ z => Heap.get?_push_of_some _ z
  exact (PySem.W.exm_tup4 (M := model X.prog X.w) (PySem.W.Frag.In.keeps I.kIn kp) ((ty_look (X := X) he ho).keeps kp) (Heap.get?_push_size s.heap rfl) hx).here (q _ kp)⟩
end
/-! the statement -/
/-- a clause: the classes it names, its name's slot, its suite's reading -/
structure Cl where
  cs : List Value
  i : Nat
  ts : Addr → Value → Option Addr → TS
def keptD (a : Addr) (cls : Value) (d : Option Addr) (i : Nat) (D : Ends) : Ends := { nx := fun σ H => D.nx (σ.set i none) (upd H a (XO cls d a)), rt := D.rt, bk := fun σ H => D.bk (σ.set i none) H, ct := fun σ H => D.ct (σ.set i none) H }
def wCl (n : Nat) (K : PySem.W.Frag) (Wout : WX) (D : Ends) : List Cl → WX
  | [] => Wout
  | c :: r => fun cls d σ H => σ.length = n → ∃ b, PySem.W.exmAny K cls c.cs = some b ∧ (b = true → ∀ a, H a = none → c.ts a cls d (keptD a cls d c.i D) (σ.set c.i (some (.ref a))) H) ∧ (b = false → wCl n K Wout D r cls d σ H)
inductive ClsOk (X : Cx) : List ExceptHandler → List Cl → Prop
  | nil : ClsOk X [] []
  | cons {t : Expr} {n : Str} {cs : List Value} {i : Nat} {ts : Addr → Value → Option Addr → TS} {b₀ : Stmt} {su : List Stmt} {hp : Pos} {hds : List ExceptHandler} {l : List Cl} (ht : TstOk X t cs) (hi : X.N[i]? = some n) (hn : X.env.kindOf n = some .local)
      (hsu : ∀ (a : Addr) (oe : Obj) (cls : Value) (d : Option Addr) (pn : List (Addr × Obj)), Zc cls d oe → (∃ vs, oe.data = .fields vs) → PSs (X.suite a ((a, oe) :: pn)) (b₀ :: su) (ts a cls d)) (r : ClsOk X hds l) :
      ClsOk X (.ExceptHandler (some t) (some n) (b₀ :: su) hp :: hds) (⟨cs, i, ts⟩ :: l)
section
variable {X : Cx} {body : List Stmt} {h₀ : ExceptHandler} {hds : List ExceptHandler} {l : List Cl} {pos : Pos} {tb : WX → TS} {Wout : WX}
theorem ps_try_kept (hs : X.stack = X.env :: X.outer) (hf : X.env.frame = some X.env.locals) (hfs : X.fs = frs X.outer) (hex : X.ex = []) (hN : X.N.Nodup) (tk : Takes X Wout)
    (hb : ∀ (W : WX) (pn : List (Addr × Obj)) (xe : Value → Shared → Prop), Takes (X.tr pn xe) W → PassesOwn (model X.prog X.w) X.A X.env xe → PSs (X.tr pn xe) body (tb W))
    (hh : ClsOk X (h₀ :: hds) l) : PS X (.Try body (h₀ :: hds) [] [] pos) (fun D σ H => tb (wCl X.N.length X.K Wout D l) D σ H) := by
  refine ⟨fun pins s σ H D I h => ?_⟩
  have ok := I.ok; have hfr : X.A.frames = some (X.env :: X.outer) := by rw [ok.frames, hs]
  refine wpAny_Try_except (wpAny_mono ((hb (wCl X.N.length X.K Wout D l) (X.pn ++ pins) (fun e s₁ => wpAny (model X.prog X.w) X.A (noteFrame e X.env) (fun _ s₂ => wpAny (model X.prog X.w) X.A (setFlight e none) (fun _ s₃ => wpAny (model X.prog X.w) X.A (handleBy e X.env (h₀ :: hds)) (SP X pins D) X.xe s₃) X.xe s₂) X.xe s₁)
    (fun u s' xx => ?_) PassesOwn.looking).run [] s σ H D (I.toTry _) h) (fun f s1 hsp => ?_) (fun e s1 he => he))
  · obtain ⟨a, B, sI, pins', σ', H', cls, d, eu, J', nb, up, sky, na, os, ag, wish⟩ := xx
    subst eu
    have J : Inv X pins σ' H' sI := J'.ofTry ok
    have sky' : Sky B (X.env :: X.outer) a (Zc cls d) X.env.locals s'.heap := hs ▸ sky
    show wpAny (model X.prog X.w) X.A (noteFrame (.ref a) X.env) _ _ _
    refine Sky.land Zc.steady hfr hf sky' fun g0 fl0 up0 => ?_
    obtain ⟨oe0, vs0, e0, z0, d0⟩ := fl0.there
    have nfr : a ∉ frs (X.env :: X.outer) := fun hm => by
      obtain ⟨_, o', e', hnf⟩ := fl0.2.2.1.mem hm
      rw [e0] at e'
      cases e'
      exact hnf _ d0
    have nL : a ≠ X.env.locals := fun z => nfr (List.mem_filterMap.mpr ⟨X.env, List.mem_cons_self, hf.trans (congrArg some z.symm)⟩)
    have nF : a ∉ X.fs := fun hm => by
      rw [hfs] at hm
      obtain ⟨e, h1, h2⟩ := List.mem_filterMap.mp hm
      exact nfr (List.mem_filterMap.mpr ⟨e, List.mem_cons_of_mem _ h1, h2⟩)
    have notI : ∀ b o, sI.heap.get? b = some o → b ∉ frs X.stack → b ≠ a := fun b o e n z => by
      have q := nb b o e n
      rw [z, fl0.2.1] at q
      cases q
    have n0 : X.s_0.heap.get? a = none := by
      cases e : X.s_0.heap.get? a with
      | none => rfl
      | some o =>
        obtain ⟨o', q⟩ := J.base.there a o e (by rw [hex]; exact fun z => nomatch z)
        exact absurd rfl (notI a o' q (by rw [hs]; exact nfr))
    have np : ∀ p ∈ X.pn ++ pins, p.1 ≠ a := fun p hp => by
      obtain ⟨p1, p2, p3, p4, _⟩ := J.pin p hp
      refine notI p.1 p.2 p1 fun hm => ?_
      rw [hs] at hm
      obtain ⟨e, h1, h2⟩ := List.mem_filterMap.mp hm
      rcases List.mem_cons.mp h1 with h1 | h1
      · rw [h1, hf] at h2
        exact p3 (Option.some.inj h2).symm
      · exact p4 (by rw [hfs]; exact List.mem_filterMap.mpr ⟨e, h1, h2⟩)
    have go : ∀ {hds' : List ExceptHandler} {l' : List Cl}, ClsOk X hds' l' → ∀ g : Heap, HandSPX.FlyingZ B (X.env :: X.outer) a (Zc cls d) g → sI.heap.UpToSlots g → wCl X.N.length X.K Wout D l' cls d σ' H' → wpAny (model X.prog X.w) X.A (handleBy (.ref a) X.env hds') (SP X pins D) X.xe { s' with heap := g } := by
      intro hds' l' hk
      induction hk with
      | nil =>
        intro g fl upg wish
        refine wpAny_handleBy_nil ?_
        obtain ⟨k1, k2, k3, oe, vs, T, oT, ts', he, hz, hd, h1, hr⟩ := id fl
        unfold PySem.passOn; refine wpAny_bind (wpAny_field he hd h1 ?_)
        rw [if_neg (show ¬ ((Value.ref T == Value.none) = true) by simp)]
        have fin : wpAny (model X.prog X.w) X.A (setFlight (.ref a) X.env.frame) (fun _ s4 => wpAny (model X.prog X.w) X.A (throw (.ref a) : Sem Flow) (SP X pins D) X.xe s4) X.xe { s' with heap := g } := by
          rw [hf]
          exact HandSPX.setFlight_upZ fl fun h4 q4 up4 => wpAny_throw (tk _ _ ⟨a, B, sI, pins, σ', H', cls, d, rfl, J, nb, upg.trans up4, .inr (.inr (by rw [hs]; exact q4)), na, os, ag, wish⟩)
        first | exact wpAny_bind (wpAny_pure (wpAny_bind fin)) | exact wpAny_bind fin
      | @cons t n cs i ts b₀ su hp hds2 l2 ht hi hn hsu r ih =>
        intro g fl upg wish
        obtain ⟨b, hb1, yes, no⟩ := wish J.len
        have Jg : Inv X pins σ' H' { s' with heap := g } := J.landed nb fl.1 upg os ag
        obtain ⟨oe, vs, he, hz, hd⟩ := fl.there
        have Sg := Jg.suite he hd na nL nF
        refine wpAny_handleBy_cons (codeAny_handlers_test (ht.run Sg he hz.1 hb1 fun g2 kp => ?_)) (by intro q; cases q)
        have fl2 := fly_keep fl kp
        have up2 : sI.heap.UpToSlots g2 := upg.trans (Heap.UpToSlots.of_keeps kp)
        cases b with
        | true =>
          refine codeAny_handlers_suite_as (HandSPX.lands_againZ fl2 fun g4 fl4 up4 => ?_)
          have J4 : Inv X pins σ' H' { s' with heap := g4 } := J.landed nb fl4.1 (up2.trans up4) os ag
          obtain ⟨oe4, vs4, he4, hz4, hd4⟩ := fl4.there
          refine store_ok (X := X.suite a ((a, oe4) :: (X.pn ++ pins))) (v := .ref a) (J4.suite he4 hd4 na nL nF) hN hi (.inl hn) rfl (fun s5 S5 => ?_) (.inr hn)
          refine wpAny_mono ((hsu a oe4 cls d (X.pn ++ pins) hz4 ⟨_, hd4⟩).run [] s5 _ H' _ S5 (yes rfl a na)) (fun f s6 hsp => ?_) (fun _ _ z => False.elim z)
          have end_ : ∀ {σ6 : L2.St} {H6 : Hp} {Q : Shared → Prop}, Inv (X.suite a ((a, oe4) :: (X.pn ++ pins))) [] σ6 H6 s6 → (∀ s7, Inv X pins (σ6.set i none) H6 s7 → Q s7) → wpAny (model X.prog X.w) X.A (do bindName X.env n .none; unbindBehindTheSuite X.env n hp) (fun _ s7 => Q s7) X.xe s6 := fun S6 hq => gone_ok (S6.unsuite ok) hN hi hn hq
          have endT : ∀ {σ6 : L2.St} {H6 : Hp} {Q : Shared → Prop}, Inv (X.suite a ((a, oe4) :: (X.pn ++ pins))) [] σ6 H6 s6 → (∀ s7, Inv X pins (σ6.set i none) (upd H6 a (XO cls d a)) s7 → Q s7) → wpAny (model X.prog X.w) X.A (do bindName X.env n .none; unbindBehindTheSuite X.env n hp) (fun _ s7 => Q s7) X.xe s6 := fun S6 hq => by
            obtain ⟨q1, q2, _⟩ := S6.pin (a, oe4) (List.mem_append_left _ List.mem_cons_self)
            exact gone_ok (track (S6.unsuite ok) q1 hz4 hd4 q2 n0 nL np) hN hi hn hq
          cases f with
          | next => obtain ⟨_, _, S6, q6⟩ := hsp; exact endT S6 fun s7 J7 => ⟨_, _, J7, q6⟩
          | brk => obtain ⟨_, _, S6, q6⟩ := hsp; exact end_ S6 fun s7 J7 => ⟨_, _, J7, q6⟩
          | cont => obtain ⟨_, _, S6, q6⟩ := hsp; exact end_ S6 fun s7 J7 => ⟨_, _, J7, q6⟩
          | ret u => obtain ⟨_, _, _, S6, r6, q6⟩ := hsp; exact end_ S6 fun s7 J7 => ⟨_, _, _, J7, r6, q6⟩
        | false => exact ih g2 fl2 up2 (no rfl)
    exact go hh g0 fl0 (up.trans up0) wish
  · cases f with
    | next => obtain ⟨_, _, J', q⟩ := hsp; exact wpAny_execs_nil ⟨_, _, J'.ofTry ok, q⟩
    | brk => obtain ⟨_, _, J', q⟩ := hsp; exact ⟨_, _, J'.ofTry ok, q⟩
    | cont => obtain ⟨_, _, J', q⟩ := hsp; exact ⟨_, _, J'.ofTry ok, q⟩
    | ret u => obtain ⟨_, _, _, J', r, q⟩ := hsp; exact ⟨_, _, _, J'.ofTry ok, r, q⟩
end
end My
set_option Elab.async false
set_option linter.all false
set_option maxRecDepth 100000
set_option maxHeartbeats 4000000
/-! a kept error: isinstance of it, its fields -/
namespace My
open PySem PySem.Spec PyProof.Rows L2
/-- what an own class of errors must say, so that isinstance asks its instances rightly -/
structure XC (K : PySem.W.Frag) (C : Addr) : Prop where
  hc : (PySem.W.clsIn K C).isSome = true
  ga : PySem.W.findIn K (.ref C) "__getattribute__" = some (some (.builtin "BaseException.__getattribute__"))
  gt : PySem.W.findIn K (.ref C) "__getattr__" = some none
  sb : PySem.W.subIn K (.ref C) (.type "BaseException") = some true
  ha : PySem.W.findIn K (.ref C) "__class__" = some (some (.builtin "object.__class__"))
  hn : PySem.W.specialIn K (.builtin "object.__class__") "__get__" = some (some (.builtin "getset_descriptor.__get__"))
  ht : PySem.W.takesIn K (.builtin "object.__class__") = some true
  hm : PySem.W.mroIn K C (.type "object") = some true
section
variable {X : Cx} {pins : List (Addr × Obj)} {σ : L2.St} {H : Hp} {s : Shared}
/-- the dict of a kept error is there -/
def DictAt (H : Hp) : Option Addr → Prop
  | none => True
  | some dd => ∃ fs, H dd = some (.xd fs)
theorem inst_of {a C : Addr} {d : Option Addr} (I : Inv X pins σ H s) (h : H a = some (XO (.ref C) d a)) (hd : DictAt H d) : ∃ ox od, PySem.W.InstAt s.heap a ox C od := by
  have hx : ObjOk X.prog X.w H s.heap a (XO (.ref C) d a) := I.hok a _ h
  obtain ⟨⟨oe, vs, h1, ⟨h2, h3⟩, h4⟩, _, _⟩ := hx
  cases d with
  | none => exact ⟨oe, none, h1, h2, by unfold PySem.W.notCls; rw [h4] <;> rfl, by rw [h3]; trivial⟩
  | some dd =>
    obtain ⟨fs, e⟩ := hd
    have hx2 : ObjOk X.prog X.w H s.heap dd (.xd fs) := I.hok dd _ e
    obtain ⟨mA, hns, _⟩ := hx2
    obtain ⟨od, ho, _⟩ := lookIn_ns hns
    exact ⟨oe, some od, h1, h2, by unfold PySem.W.notCls; rw [h4] <;> rfl, by rw [h3]; exact ho⟩
/-- isinstance(kept, c) -/
def rIsX (K : PySem.W.Frag) : List V → Hp → VK → Prop := fun xs H Q => ∃ (a C : Addr) (d : Option Addr) (c : V) (cv : Value) (b : Bool), xs = [.ref a, c] ∧ H a = some (XO (.ref C) d a) ∧ DictAt H d ∧ XC K C ∧ (∀ u, RelV c u → u = cv) ∧ PySem.W.kitOne K (.ref C) cv = some b ∧ Q (.bl b) H
theorem call_isX : CallR X (.builtin "isinstance") (rIsX X.K) := by
  intro pins s σ H xs us Q I r h
  obtain ⟨a, C, d, c, cv, b, rfl, ha, hd, T, hcv, e, q⟩ := h
  obtain ⟨u1, u2, rfl, r1, r2⟩ := vals2 r
  cases (show u1 = Value.ref a from r1)
  cases hcv _ r2
  obtain ⟨ox, od, J⟩ := inst_of I ha hd
  exact PySem.W.kia_one (PySem.W.kitx_exc (od := od) T.hc T.ga T.gt T.sb T.ha T.hn T.ht T.hm) I.kIn J e (fun z => nomatch z) fun tk => ⟨.bl b, H, I.tok tk, rfl, q⟩
/-- isinstance(kept, (c1, c2, ..)) -/
def rIsXT (K : PySem.W.Frag) : List V → Hp → VK → Prop := fun xs H Q => ∃ (a C : Addr) (d : Option Addr) (tp : Addr) (cs : List V) (ws : List Value) (b : Bool), xs = [.ref a, .ref tp] ∧ H a = some (XO (.ref C) d a) ∧ DictAt H d ∧ XC K C ∧ H tp = some (.tup cs) ∧ (∀ us, Vals cs us → us = ws) ∧ PySem.W.kitAny K (.ref C) ws = some b ∧ Q (.bl b) H
theorem call_isXT : CallR X (.builtin "isinstance") (rIsXT X.K) := by
  intro pins s σ H xs us Q I r h
  obtain ⟨a, C, d, tp, cs, ws, b, rfl, ha, hd, T, hT, hcv, e, q⟩ := h
  obtain ⟨u1, u2, rfl, r1, r2⟩ := vals2 r
  cases (show u1 = Value.ref a from r1)
  cases (show u2 = Value.ref tp from r2)
  obtain ⟨ox, od, J⟩ := inst_of I ha hd
  obtain ⟨_, its, rv, o, h1, h2, n, h3⟩ := (show ObjOk X.prog X.w H s.heap tp (.tup cs) from I.hok tp _ hT)
  cases hcv _ rv
  obtain ⟨oc, oo, dt, sl⟩ := o
  simp only at h2 h3
  subst h2 h3
  exact PySem.W.kia_tup (PySem.W.kitx_exc (od := od) T.hc T.ga T.gt T.sb T.ha T.hn T.ht T.hm) I.kIn J h1 e (fun z => nomatch z) fun tk => ⟨.bl b, H, I.tok tk, rfl, q⟩
/-- kept.f -/
def tXk (K : PySem.W.Frag) (f : Str) (te : TE) : TE := fun σ H Q => te σ H fun x H1 => ∃ (a C dd : Addr) (fs : List (Str × V)) (v : V), x = .ref a ∧ H1 a = some (XO (.ref C) (some dd) a) ∧ H1 dd = some (.xd fs) ∧ fs.lookup f = some v ∧ XfC K C ∧ PySem.W.findIn K (.ref C) f = some none ∧ Q v H1
theorem pe_xk {e : Expr} {te : TE} {pos : Pos} {n : Str} (he : PE X e te) (hb : attributeBase e n X.env (eval e X.env) = eval e X.env := by rfl) : PE X (.Attribute e n pos) (tXk X.K n te) := by
  refine ⟨fun pins s σ H Q I h => ?_⟩
  refine attr_of hb (thn (he.run pins s σ H _ I h) fun u s1 hh => ?_)
  obtain ⟨x, H1, I1, rx, a, C, dd, fs, v, ex, ha, ed, l, T, hno, q⟩ := hh
  subst ex
  cases (show u = Value.ref a from rx)
  have hx : ObjOk X.prog X.w H1 s1.heap a (XO (.ref C) (some dd) a) := I1.hok a _ ha
  obtain ⟨⟨oe, vs, h1, ⟨h2, h3⟩, h4⟩, _, _⟩ := hx
  have hx2 : ObjOk X.prog X.w H1 s1.heap dd (.xd fs) := I1.hok dd _ ed
  obtain ⟨mA, hns, hr⟩ := hx2
  obtain ⟨od, ho, hl⟩ := lookIn_ns hns
  obtain ⟨u, hu, ru⟩ := RelO.some_of (v := v) (o := mA n) (by rw [← l]; exact hr n)
  have J : PySem.W.InstAt s1.heap a oe C (some od) := ⟨h1, h2, by unfold PySem.W.notCls; rw [h4] <;> rfl, by rw [h3]; exact ho⟩
  exact HandSPX.exc_get I1.kIn J T.ga T.gg T.exC (PySem.W.findObj_own T.hdC hno rfl (by rw [hl, hu])) (handed_of ru) ⟨v, H1, I1.tok _, ru, q⟩
end
end My
set_option Elab.async false
set_option linter.all false
set_option maxRecDepth 100000
set_option maxHeartbeats 4000000
/-! _law_told of k73: what a call makes of it that may raise InvalidLayout or OtherWagons -/
namespace My
open PySem PySem.Spec PyProof.Rows L2 LamX
/-- isinstance(e, c) in the suite that holds e, with its dict -/
def rIsSD (K : PySem.W.Frag) (cls : Value) (d : Option Addr) (a : Addr) : List V → Hp → VK → Prop := fun xs H Q => ∃ (D : Addr) (c : V) (cv : Value) (b : Bool), xs = [.ref a, c] ∧ cls = .ref D ∧ DictAt H d ∧ XC K D ∧ (∀ u, RelV c u → u = cv) ∧ PySem.W.kitOne K (.ref D) cv = some b ∧ Q (.bl b) H
theorem call_isSD {X : Cx} {a : Addr} {oe : Obj} {cls : Value} {d : Option Addr} {pn : List (Addr × Obj)} (hz : Zc cls d oe) (hf : ∃ vs, oe.data = .fields vs) : CallR (X.suite a ((a, oe) :: pn)) (.builtin "isinstance") (rIsSD X.K cls d a) := by
  intro pins s σ H xs us Q I r h
  obtain ⟨D, c, cv, b, rfl, rfl, hd, T, hcv, e, q⟩ := h
  obtain ⟨u1, u2, rfl, r1, r2⟩ := vals2 r
  cases (show u1 = Value.ref a from r1)
  cases hcv _ r2
  obtain ⟨hget, _⟩ := I.pin (a, oe) (List.mem_append.mpr (.inl List.mem_cons_self))
  obtain ⟨vs, hv⟩ := hf
  obtain ⟨od, J⟩ : ∃ od, PySem.W.InstAt s.heap a oe D od := by
    cases d with
    | none => exact ⟨none, hget, hz.1, by unfold PySem.W.notCls; rw [hv] <;> rfl, by rw [hz.2]; trivial⟩
    | some dd =>
      obtain ⟨fs, e⟩ := hd
      have hx2 : ObjOk X.prog X.w H s.heap dd (.xd fs) := I.hok dd _ e
      obtain ⟨mA, hns, _⟩ := hx2
      obtain ⟨od, ho, _⟩ := lookIn_ns hns
      exact ⟨some od, hget, hz.1, by unfold PySem.W.notCls; rw [hv] <;> rfl, by rw [hz.2]; exact ho⟩
  exact PySem.W.kia_one (PySem.W.kitx_exc (od := od) T.hc T.ga T.gt T.sb T.ha T.hn T.ht T.hm) I.kIn J e (fun z => nomatch z) fun tk => ⟨.bl b, H, I.tok tk, rfl, q⟩
/-- the classes of errors that the law names -/
structure RefS (K : PySem.W.Frag) (mg : Str → Option Value) (CL CE CN CW CG CQ CA CT : Addr) : Prop where
  gL : mg "InvalidLayout" = some (.ref CL)
  gE : mg "InvalidEnd" = some (.ref CE)
  gN : mg "InvalidName" = some (.ref CN)
  gW : mg "OtherWagons" = some (.ref CW)
  gG : mg "NoWagon" = some (.ref CG)
  gQ : mg "NotCoupled" = some (.ref CQ)
  gA : mg "AlreadyCoupled" = some (.ref CA)
  gT : mg "TooLarge" = some (.ref CT)
  gV : mg "ValueError" = none
  xL : XC K CL
  fL : XfC K CL
  nL : PySem.W.findIn K (.ref CL) "value" = some none
  xW : XC K CW
  ll : PySem.W.exmAny K (.ref CL) [.ref CL] = some true
  wl : PySem.W.exmAny K (.ref CW) [.ref CL] = some false
  we : PySem.W.exmAny K (.ref CW) [.ref CE] = some false
  wn : PySem.W.exmAny K (.ref CW) [.ref CN] = some false
  ww : PySem.W.exmAny K (.ref CW) [.ref CW] = some true
  vL : PySem.W.kitOne K (.ref CL) (.type "ValueError") = some true
  vW : PySem.W.kitOne K (.ref CW) (.type "ValueError") = some true
/-- a value that is shown: its data -/
structure Shw (K : PySem.W.Frag) (H : Hp) (v : V) (dt : PyData) : Prop where
  da : ∃ p, Da K p H v dt
  sh : dt.showable = true
  dp : dt.depth ≤ 60
  sz : dt.shown.length ≤ sizeLine
theorem Shw.keep {K : PySem.W.Frag} {H H' : Hp} {v : V} {dt : PyData} (h : Shw K H v dt) (s : Same H H') : Shw K H' v dt := ⟨let ⟨p, q⟩ := h.da; ⟨p, da_keep s.keepA q⟩, h.sh, h.dp, h.sz⟩
/-- the refusal that is told of an error -/
def RefE (K : PySem.W.Frag) (CL CW : Addr) (Q : VK) : XK := fun cls d H => (cls = .ref CW ∧ d = none ∧ ∀ t H', Same H H' → H' t = some (.tup [.str "other", .bl true]) → Q (.ref t) H') ∨
  ∃ (dd : Addr) (v : V) (dt : PyData), cls = .ref CL ∧ d = some dd ∧ H dd = some (.xd [("value", v)]) ∧ Shw K H v dt ∧ ∀ t H', Same H H' → H' t = some (.tup [.str "layout", .str dt.shown, .bl true]) → Q (.ref t) H'
def TTNb (K : PySem.W.Frag) (CL CW : Addr) : (XK → Hp → VK → Prop) → Hp → VK → Prop := fun tl H Q => ∀ Q' : VK, (∀ v H1, (∀ t, H1 t = none → Q (.ref t) (upd H1 t (.tup [.str "made", v]))) → Q' v H1) → tl (RefE K CL CW Q) H Q'
theorem boot_ve : bootBuiltins "ValueError" = some (.type "ValueError") := by decide +kernel
theorem told_gives {X : Cx} {g CL CE CN CW CG CQ CA CT : Addr} {cdg : Value} {q : Str} (R : RefS X.K X.mg CL CE CN CW CG CQ CA CT) (mi : X.mg "isinstance" = none) (mr : X.mg "repr" = none) (st : Still X.A) (hr : Room 1 X.A) :
    GivesTo X ["call", "e"] "_law_told" (defScope sLTold) g cdg (defBody sLTold) "call" q (TTNb X.K CL CW) := by
  intro f c' s H Q tl act hc h
  refine ⟨_, pss_one (ps_try_kept (X := (cxOf C8.CX0 X.prog X.w X.K X.mg X.base ["call", "e"] "_law_told" (defScope sLTold) g cdg X.A X.stack s H C8.E0).nox)
        (tb := fun W D σ H => ∃ Ech : XK, (∀ cls d σ' H', Ech cls d H' → W cls d σ' H') ∧ σ[0]? = some (some (.ref f)) ∧ H c' = some (CodeO c' q) ∧ tl Ech H (fun v H1 => 2 ≤ sizeLine ∧ ∀ t, H1 t = none → D.rt (.ref t) (upd H1 t (.tup [.str "made", v]))))
        rfl rfl rfl rfl scLTold.nd L2.takes0 (fun W pn xe tk _ => ?_)
        (.cons (i := 1) (tst1 ⟨by rfl, by decide, .inl R.gL⟩) rfl rfl (fun a oe cls d pn hz hf => pss_one (ps_ret (pe_tup (pa_cons pe_str (pa_cons (pe_callB (show CallR _ _ (rReprA X.K) from call_reprA (X := Cx.suite (cxOf C8.CX0 X.prog X.w X.K X.mg X.base ["call", "e"] "_law_told" (defScope sLTold) g cdg X.A X.stack s H C8.E0).nox a ((a, oe) :: pn)) (by exact st) (show _ + 64 < cLine from (hr.deeper (envOfC "_law_told" (defScope sLTold) s.heap.objs.size g cdg)).units)) (by rfl) mr boot_repr (pa_cons (pe_xf R.fL R.nL hz hf (pv 1)) pa_nil))
          (pa_cons (pe_callB (call_isSD hz hf) (by rfl) mi boot_isinstance (pa_cons (pv 1) (pa_cons (pe_bltn (v := .ty "ValueError") (by rfl) R.gV boot_ve rfl) pa_nil))) pa_nil))))))
        (.cons (i := 1) (tst1 ⟨by rfl, by decide, .inl R.gE⟩) rfl rfl (fun a oe cls d pn hz hf => pss_one ps_no)
        (.cons (i := 1) (tst1 ⟨by rfl, by decide, .inl R.gN⟩) rfl rfl (fun a oe cls d pn hz hf => pss_one ps_no)
        (.cons (i := 1) (tst1 ⟨by rfl, by decide, .inl R.gW⟩) rfl rfl (fun a oe cls d pn hz hf => pss_one (ps_ret (pe_tup (pa_cons pe_str (pa_cons (pe_callB (call_isSD hz hf) (by rfl) mi boot_isinstance (pa_cons (pv 1) (pa_cons (pe_bltn (v := .ty "ValueError") (by rfl) R.gV boot_ve rfl) pa_nil))) pa_nil)))))
        (.cons (i := 1) (tst1 ⟨by rfl, by decide, .inl R.gG⟩) rfl rfl (fun a oe cls d pn hz hf => pss_one ps_no)
        (.cons (i := 1) (tst1 ⟨by rfl, by decide, .inl R.gQ⟩) rfl rfl (fun a oe cls d pn hz hf => pss_one ps_no)
        (.cons (i := 1) (tst1 ⟨by rfl, by decide, .inl R.gA⟩) rfl rfl (fun a oe cls d pn hz hf => pss_one ps_no)
        (.cons (i := 1) (tst1 ⟨by rfl, by decide, .inl R.gT⟩) rfl rfl (fun a oe cls d pn hz hf => pss_one ps_no)
        .nil))))))))), ?_⟩
  · refine ⟨fun pins s' σ H' D I h' => ?_⟩
    obtain ⟨Ech, hW, h1, h2, h3⟩ := h'
    exact (pss_one (ps_ret (pe_tup (pa_cons pe_str (pa_cons (act W pn xe Ech _ _ tk hW) pa_nil))))).run pins s' σ H' D I ⟨h1, h2, h3⟩
  · refine ⟨RefE X.K CL CW Q, fun cls d σ' H' hE hl => ?_, rfl, hc, ?_⟩
    · match σ', hl with
      | [x0, x1], _ =>
        rcases hE with ⟨rfl, rfl, k⟩ | ⟨dd, v, dt, rfl, rfl, ed, sv, k⟩
        · refine ⟨false, R.wl, (fun z => nomatch z), fun _ => fun _ => ⟨false, R.we, (fun z => nomatch z), fun _ => fun _ => ⟨false, R.wn, (fun z => nomatch z), fun _ => fun _ => ⟨true, R.ww, (fun _ a na => ?_), (fun z => nomatch z)⟩⟩⟩⟩
          refine ⟨_, rfl, CW, .ty "ValueError", .type "ValueError", true, rfl, rfl, True.intro, R.xW, fun u r => r, R.vW, by show 2 ≤ sizeLine; decide, fun t ht => ?_⟩
          exact k t _ (same_new ht) upd_same
        · obtain ⟨⟨p, da⟩, w1, w2, w3⟩ := id sv
          refine ⟨true, R.ll, (fun _ a na => ?_), (fun z => nomatch z)⟩
          refine ⟨_, rfl, rfl, rfl, dd, _, v, rfl, ed, rfl, p, v, dt, rfl, da, w1, w2, w3, _, rfl, CL, .ty "ValueError", .type "ValueError", true, rfl, rfl, ⟨_, ed⟩, R.xL, fun u r => r, R.vL, by show 3 ≤ sizeLine; decide, fun t ht => ?_⟩
          exact k t _ (same_new ht) upd_same
    · exact h _ fun v H1 k => ⟨by decide, k⟩
end My
set_option Elab.async false
set_option linter.all false
set_option maxRecDepth 100000
set_option maxHeartbeats 4000000
/-! few items, short texts -/
namespace My
open PySem PySem.Spec PyProof.Rows L2
def itemsD : PyData → List PyData
  | .list ds => ds
  | .tuple ds => ds
  | _ => []
structure FitN (d : PyData) : Prop where
  few : (itemsD d).length ≤ 1000
  txt : ∀ e ∈ itemsD d, ∀ x, e = .str x → x.length ≤ 100000
end My
set_option Elab.async false
set_option linter.all false
set_option maxRecDepth 100000
set_option maxHeartbeats 4000000
/-! tuples known to bear no dict -/
namespace My
open PySem PySem.Spec PyProof.Rows L2
/-- if it is a tuple, it is known to bear no dict -/
def BareV (H : Hp) (v : V) (d : PyData) : Prop := isTup d = true → ∃ a, v = .ref a ∧ BareT H a
theorem BareV.keep {H H' : Hp} {v : V} {d : PyData} (h : BareV H v d) (s : Same H H') : BareV H' v d := fun z => let ⟨a, e, b⟩ := h z; ⟨a, e, b.keep s⟩
end My
set_option Elab.async false
set_option linter.all false
set_option maxRecDepth 100000
set_option maxHeartbeats 4000000
/-! values that a law draws: of any kind, not large, shown in few signs -/
namespace My
open PySem PySem.Spec PyProof.Rows L2
/-- not large -/
structure Gm (w n : Nat) (d : PyData) : Prop where
  sh : d.showable = true
  ls : d.leavesShort 70 = true
  wt : d.weight ≤ w
  dp : d.depth ≤ n
def gmB (w n : Nat) (d : PyData) : Bool := d.showable && (d.leavesShort 70 && (decide (d.weight ≤ w) && decide (d.depth ≤ n)))
theorem gmB_ok {w n : Nat} {d : PyData} (h : gmB w n d = true) : Gm w n d := by
  unfold gmB at h
  simp only [Bool.and_eq_true, decide_eq_true_eq] at h
  exact ⟨h.1, h.2.1, h.2.2.1, h.2.2.2⟩
theorem Gm.mono {w n w' n' : Nat} {d : PyData} (h : Gm w n d) (h1 : w ≤ w') (h2 : n ≤ n') : Gm w' n' d := ⟨h.sh, h.ls, Nat.le_trans h.wt h1, Nat.le_trans h.dp h2⟩
theorem Gm.short {w n : Nat} {d : PyData} (h : Gm w n d) (hw : w ≤ 10000) : d.shown.length ≤ sizeLine := by
  have := PyData.shown_le 70 (by decide) d h.ls
  have := h.wt
  rw [sizeLine_eq]
  omega
theorem shAll_iff : ∀ {ds : List PyData}, PyData.showableAll ds = true ↔ ∀ d ∈ ds, d.showable = true
  | [] => ⟨fun _ _ z => (nomatch z), fun _ => rfl⟩
  | d :: r => by
    rw [PyData.showableAll, Bool.and_eq_true, shAll_iff]
    exact ⟨fun ⟨a, c⟩ x hx => (List.mem_cons.mp hx).elim (fun e => e ▸ a) (c x), fun h => ⟨h d List.mem_cons_self, fun x hx => h x (List.mem_cons_of_mem _ hx)⟩⟩
theorem lsAll_iff : ∀ {ds : List PyData}, PyData.leavesShortAll 70 ds = true ↔ ∀ d ∈ ds, d.leavesShort 70 = true
  | [] => ⟨fun _ _ z => (nomatch z), fun _ => rfl⟩
  | d :: r => by
    rw [PyData.leavesShortAll, Bool.and_eq_true, lsAll_iff]
    exact ⟨fun ⟨a, c⟩ x hx => (List.mem_cons.mp hx).elim (fun e => e ▸ a) (c x), fun h => ⟨h d List.mem_cons_self, fun x hx => h x (List.mem_cons_of_mem _ hx)⟩⟩
theorem gm_tup {w n : Nat} {ds : List PyData} (h : ∀ d ∈ ds, ∃ w', Gm w' n d) (hw : PyData.weightAll ds ≤ w) : Gm w (n + 1) (.tuple ds) :=
  ⟨shAll_iff.mpr fun d hd => let ⟨_, g⟩ := h d hd; g.sh, lsAll_iff.mpr fun d hd => let ⟨_, g⟩ := h d hd; g.ls, by simp only [PyData.weight]; exact hw, by simp only [PyData.depth]; have := dAll_le.mpr fun d hd => let ⟨_, g⟩ := h d hd; g.dp; omega⟩
theorem gm_lst {w n : Nat} {ds : List PyData} (h : ∀ d ∈ ds, ∃ w', Gm w' n d) (hw : PyData.weightAll ds ≤ w) : Gm w (n + 1) (.list ds) :=
  ⟨shAll_iff.mpr fun d hd => let ⟨_, g⟩ := h d hd; g.sh, lsAll_iff.mpr fun d hd => let ⟨_, g⟩ := h d hd; g.ls, by simp only [PyData.weight]; exact hw, by simp only [PyData.depth]; have := dAll_le.mpr fun d hd => let ⟨_, g⟩ := h d hd; g.dp; omega⟩
theorem gm_name {x : Str} (h : NameOk x) : Gm 8 0 (.str x) := by
  obtain ⟨h1, h2, h3⟩ := h
  refine ⟨rfl, ?_, h2, Nat.zero_le _⟩
  rw [PyData.leavesShort, List.all_eq_true]
  intro c hc
  have := h3 c hc
  exact decide_eq_true (by omega)
theorem gm_names {ns : List Str} (h : ∀ x ∈ ns, NameOk x) : ∀ d ∈ ns.map PyData.str, ∃ w', Gm w' 0 d := fun d hd => by
  obtain ⟨x, hx, rfl⟩ := List.mem_map.mp hd
  exact ⟨8, gm_name (h x hx)⟩
theorem w_names : ∀ {ns : List Str}, (∀ x ∈ ns, NameOk x) → PyData.weightAll (ns.map .str) ≤ 9 * ns.length
  | [], _ => Nat.le_refl _
  | x :: r, h => by
    have ih := w_names (ns := r) fun y hy => h y (List.mem_cons_of_mem _ hy)
    have := (gm_name (h x List.mem_cons_self)).wt
    rw [List.map_cons, PyData.weightAll, List.length_cons]
    omega
theorem fitN_of {w n : Nat} {d : PyData} (h : Gm w n d) (hw : w ≤ 1000) : FitN d := by
  have hd := h.wt
  cases d with
  | list ds =>
    simp only [PyData.weight] at hd
    refine ⟨Nat.le_trans (wAll_len ds) (by omega), fun e he x ex => ?_⟩
    have := wAll_mem (xs := ds) he
    subst ex
    have e : (PyData.str x).weight = x.length := by simp only [PyData.weight]; rfl
    omega
  | tuple ds =>
    simp only [PyData.weight] at hd
    refine ⟨Nat.le_trans (wAll_len ds) (by omega), fun e he x ex => ?_⟩
    have := wAll_mem (xs := ds) he
    subst ex
    have e : (PyData.str x).weight = x.length := by simp only [PyData.weight]; rfl
    omega
  | _ => exact ⟨Nat.zero_le _, fun e he => nomatch he⟩
/-- a value drawn -/
def GdV (m1 m2 : Nat) (K : PySem.W.Frag) (p : Addr) (H : Hp) (v : V) : Prop := ∃ d, Da K p H v d ∧ Gm m1 m2 d ∧ BareV H v d
section
variable {m1 m2 : Nat} {K : PySem.W.Frag} {p c : Addr} {n : Nat} {H H' : Hp}
theorem GdV.mono {m3 m4 : Nat} {v : V} (h : GdV m1 m2 K p H v) (a : m1 ≤ m3) (b : m2 ≤ m4) : GdV m3 m4 K p H v := let ⟨d, x, y, z⟩ := h; ⟨d, x, y.mono a b, z⟩
theorem GdV.keep {v : V} (h : GdV m1 m2 K p H v) (s : Same H H') : GdV m1 m2 K p H' v := let ⟨d, a, b, e⟩ := h; ⟨d, da_keep s.keepA a, b, e.keep s⟩
theorem BareV.keepP {v : V} {d : PyData} (h : BareV H v d) (s : SameP p H H') (G : PenAt H p c n) : BareV H' v d := fun z => let ⟨a, e, b⟩ := h z; ⟨a, e, b.keepP s G⟩
theorem GdV.keepP {v : V} (h : GdV m1 m2 K p H v) (s : SameP p H H') (G : PenAt H p c n) : GdV m1 m2 K p H' v := let ⟨d, a, b, e⟩ := h; ⟨d, da_keep (s.keepA G) a, b, e.keepP s G⟩
theorem gd_flat {v : V} {d : PyData} (a : Da K p H v d) (g : gmB m1 m2 d = true) (h : isTup d = false) : GdV m1 m2 K p H v := ⟨d, a, gmB_ok g, fun z => by rw [h] at z; cases z⟩
theorem gd_tupF {a : Addr} {xs : List V} {ds : List PyData} (h : SqT K H a xs) (b : BareT H a) (hd : DaAll K p H xs ds) (g : Gm m1 m2 (.tuple ds)) : GdV m1 m2 K p H (.ref a) := ⟨_, .tup h hd, g, fun _ => ⟨a, rfl, b⟩⟩
theorem gd_lst {a : Addr} {xs : List V} {ds : List PyData} (h : H a = some (.lst xs)) (na : a ≠ sysModules) (hd : DaAll K p H xs ds) (g : Gm m1 m2 (.list ds)) : GdV m1 m2 K p H (.ref a) := ⟨_, .lst na (.inl (.inl h)) hd, g, fun z => nomatch z⟩
theorem gd_dct {a : Addr} {kvs : List (Key × V)} {es : List (PyData × PyData)} (na : a ≠ p) (h : H a = some (.dK kvs)) (hd : DaKv K p H kvs es) (g : Gm m1 m2 (.dict es)) : GdV m1 m2 K p H (.ref a) := ⟨_, .dct na h hd, g, fun z => nomatch z⟩
end
/-- a list of such values -/
def GdL (m1 m2 : Nat) (K : PySem.W.Frag) (p : Addr) (H : Hp) (xs : List V) : Prop := ∀ v ∈ xs, GdV m1 m2 K p H v
section
variable {m1 m2 : Nat} {K : PySem.W.Frag} {p c : Addr} {n : Nat} {H H' : Hp} {xs ys : List V}
theorem GdL.keep (h : GdL m1 m2 K p H xs) (s : Same H H') : GdL m1 m2 K p H' xs := fun v hv => (h v hv).keep s
theorem GdL.keepP (h : GdL m1 m2 K p H xs) (s : SameP p H H') (G : PenAt H p c n) : GdL m1 m2 K p H' xs := fun v hv => (h v hv).keepP s G
theorem GdL.nil : GdL m1 m2 K p H [] := fun _ z => nomatch z
theorem GdL.cons {v : V} (a : GdV m1 m2 K p H v) (h : GdL m1 m2 K p H xs) : GdL m1 m2 K p H (v :: xs) := fun x hx => (List.mem_cons.mp hx).elim (fun e => e ▸ a) (h x)
theorem GdL.app (h : GdL m1 m2 K p H xs) (g : GdL m1 m2 K p H ys) : GdL m1 m2 K p H (xs ++ ys) := fun x hx => (List.mem_append.mp hx).elim (h x) (g x)
end
section
variable {X : Cx}
/-- list + list: a new list, not at sys.modules -/
theorem op_catN : OpR X (binaryOp .Add) (fun x y H Q => ∃ l b xs zs, x = .ref l ∧ y = .ref b ∧ H l = some (.lst xs) ∧ H b = some (.lst zs) ∧ xs.length + zs.length ≤ sizeLine ∧ ∀ p, H p = none → p ≠ sysModules → Q (.ref p) (upd H p (.lst (xs ++ zs)))) := by
  intro pins s σ H x y v u Q I rx ry ⟨l, b, xs, zs, e1, e2, h1, h2, hz, q⟩
  subst e1; subst e2; cases rx; cases ry
  obtain ⟨_, its, _, r1, l1, g1⟩ := I.lstM h1; obtain ⟨_, its2, _, r2, l2, g2⟩ := I.lstM h2
  refine PySem.P.add_list g1 g2 ?_ (by rw [List.size_toArray, List.size_toArray]; omega)
  rw [show its.toArray ++ its2.toArray = (its ++ its2).toArray by simp]
  exact ⟨.ref _, _, I.lnew (t' := s.toks) (r1.append r2) (by rw [List.length_append]; omega), rfl, q _ I.fresh (Nat.ne_of_gt I.big)⟩
end
end My
set_option Elab.async false
set_option linter.all false
set_option maxRecDepth 100000
set_option maxHeartbeats 4000000
/-! _law_any_value -/
namespace My
open PySem PySem.Spec PyProof.Rows L2
/-- a value, not large -/
def PvV (w n : Nat) (K : PySem.W.Frag) (p : Addr) (H : Hp) (v : V) : Prop := ∃ d, Da K p H v d ∧ Gm w n d
def PvL (w n : Nat) (K : PySem.W.Frag) (p : Addr) (H : Hp) (xs : List V) : Prop := ∀ v ∈ xs, PvV w n K p H v
section
variable {w n m : Nat} {K : PySem.W.Frag} {p c : Addr} {H H' : Hp} {v : V} {xs ys : List V}
theorem PvV.keep (h : PvV w n K p H v) (s : Same H H') : PvV w n K p H' v := let ⟨d, a, g⟩ := h; ⟨d, da_keep s.keepA a, g⟩
theorem PvV.keepP (h : PvV w n K p H v) (s : SameP p H H') (G : PenAt H p c m) : PvV w n K p H' v := let ⟨d, a, g⟩ := h; ⟨d, da_keep (s.keepA G) a, g⟩
theorem PvV.mono {w' n' : Nat} (h : PvV w n K p H v) (a : w ≤ w') (b : n ≤ n') : PvV w' n' K p H v := let ⟨d, x, g⟩ := h; ⟨d, x, g.mono a b⟩
theorem PvL.keep (h : PvL w n K p H xs) (s : Same H H') : PvL w n K p H' xs := fun v hv => (h v hv).keep s
theorem PvL.keepP (h : PvL w n K p H xs) (s : SameP p H H') (G : PenAt H p c m) : PvL w n K p H' xs := fun v hv => (h v hv).keepP s G
theorem PvL.nil : PvL w n K p H [] := fun _ z => nomatch z
theorem PvL.snoc (h : PvL w n K p H xs) (s : Same H H') (g : PvV w n K p H' v) : PvL w n K p H' (xs ++ [v]) := fun u hu => (List.mem_append.mp hu).elim (fun z => (h u z).keep s) fun z => by rw [List.mem_singleton.mp z]; exact g
theorem PvL.app (h : PvL w n K p H xs) (g : PvL w n K p H ys) : PvL w n K p H (xs ++ ys) := fun u hu => (List.mem_append.mp hu).elim (h u) (g u)
theorem pv_flat {d : PyData} (a : Da K p H v d) (g : gmB w n d = true) : PvV w n K p H v := ⟨d, a, gmB_ok g⟩
theorem pv_t {t : Addr} {ds : List PyData} (ht : H t = none) (d : DaAll K p H xs ds) (g : gmB w n (.tuple ds) = true) : PvV w n K p (upd H t (.tup xs)) (.ref t) := ⟨_, .tup (.inl (.inl upd_same)) (da_keepAll (same_new ht).keepA d), gmB_ok g⟩
theorem pv_l {t : Addr} {ds : List PyData} (ht : H t = none) (nt : t ≠ sysModules) (d : DaAll K p H xs ds) (g : gmB w n (.list ds) = true) : PvV w n K p (upd H t (.lst xs)) (.ref t) := ⟨_, .lst nt (.inl (.inl upd_same)) (da_keepAll (same_new ht).keepA d), gmB_ok g⟩
theorem merge_oneV (k : Key) (v : V) : mergeK [] [(k, v)] = [(k, v)] := by
  unfold mergeK
  simp only [List.foldl_cons, List.foldl_nil]
  rw [putK_new (kvs := []) _ rfl]
  rfl
end
section
variable {P : Program} {w : World} {K : PySem.W.Frag} {mg : Str → Option Value} {base : Heap}
def spAny (K : PySem.W.Frag) : Sp := fun vs H Q _ => ∃ (p c : Addr) (n : Nat), vs = [.ref p] ∧ PenAt H p c n ∧ n ≤ 700000000 ∧ ∀ v H', PvV 200 4 K p H' v → SameP p H H' → PenAt H' p c (n + 1) → Q v H'
theorem ok_any {f fD fP fS : Addr} {fd dD dP dS : FuncData} (F : Fun K "_law_any_value" "_law_any_value" sLAnyValue f fd) (T : Draws P w K mg base fD fP fS dD dP dS) : FnOk P w K mg base CX0 3 f fd ["pen"] (spAny K) := by
  refine F.ok scLAnyValue (fun vs H Q E h => ?_) (fun cdv A outer s H vs Q E hr h => ?_)
  · obtain ⟨p, c, n, rfl, _⟩ := h
    rfl
  · obtain ⟨p, c, n, rfl, G, hn, q⟩ := h
    refine ⟨_, pss_cons (ps_set (i := 1) scLAnyValue.nd rfl (.inl rfl) (pe_lst (pa_cons pe_non (pa_cons pe_bl (pa_cons pe_bl (pa_cons pe_int (pa_cons pe_int (pa_cons (pe_un un_neg pe_int) (pa_cons (pe_op op_pow pe_int pe_int) (pa_cons pe_str (pa_cons pe_str (pa_cons pe_str (pa_cons pe_str (pa_cons pe_str (pa_cons (pe_tup pa_nil) (pa_cons (pe_lstN pa_nil) (pa_cons pe_dnewK (pa_cons (pe_tup (pa_cons pe_str pa_nil)) (pa_cons (pe_lstN (pa_cons pe_str (pa_cons pe_int pa_nil))) pa_nil)))))))))))))))))))
      (pss_cons (ps_set (i := 1) scLAnyValue.nd rfl (.inl rfl) (pe_op op_cat (pv 1) (pe_lst (pa_cons (pe_tup (pa_cons pe_str (pa_cons pe_int pa_nil))) (pa_cons (pe_tup (pa_cons pe_str (pa_cons pe_int pa_nil))) (pa_cons (pe_tup (pa_cons pe_str (pa_cons pe_int pa_nil))) (pa_cons (pe_tup (pa_cons pe_str (pa_cons pe_bl pa_nil))) (pa_cons (pe_tup (pa_cons pe_str (pa_cons pe_non pa_nil))) (pa_cons (pe_tup (pa_cons pe_str (pa_cons pe_int pa_nil))) (pa_cons (pe_tup (pa_cons pe_str (pa_cons pe_int pa_nil))) (pa_cons (pe_tup (pa_cons pe_str (pa_cons pe_int pa_nil))) pa_nil)))))))))))
      (pss_cons (ps_set (i := 1) scLAnyValue.nd rfl (.inl rfl) (pe_op op_cat (pv 1) (pe_lst (pa_cons (pe_tup (pa_cons pe_str (pa_cons pe_int (pa_cons pe_int pa_nil)))) (pa_cons (pe_tup (pa_cons (pe_tup (pa_cons pe_str (pa_cons pe_int pa_nil))) (pa_cons (pe_tup (pa_cons pe_str (pa_cons pe_int pa_nil))) pa_nil))) (pa_cons (pe_disp (pps_cons pe_str pe_int pps_nil) (by rfl) (by rfl) (fun z => by cases z) (by decide)) (pa_cons (pe_lstN (pa_cons (pe_tup (pa_cons pe_str (pa_cons pe_int pa_nil))) pa_nil)) (pa_cons (pe_tup (pa_cons pe_str (pa_cons (pe_un un_neg pe_int) pa_nil))) (pa_cons (pe_tup (pa_cons pe_int (pa_cons pe_str pa_nil))) (pa_cons (pe_tup (pa_cons pe_str (pa_cons pe_str pa_nil))) pa_nil))))))))))
      (pss_one (ps_ret (pe_call T.oP hr (by rfl) T.gP T.kP T.bP .nil pass0 (pa_cons (pv 0) (pa_cons (pv 1) pa_nil))))))), ?_⟩
    obtain ⟨⟨_, _, _, P0, _⟩⟩ := id G
    have A : PvL 200 4 K p H [] := PvL.nil
    have S : Same H H := .refl _
    have A := A.snoc (.refl _) (v := .non) (pv_flat .non (by decide +kernel))
    have A := A.snoc (.refl _) (v := .bl true) (pv_flat (.bl _) (by decide +kernel))
    have A := A.snoc (.refl _) (v := .bl false) (pv_flat (.bl _) (by decide +kernel))
    have A := A.snoc (.refl _) (v := .int 0) (pv_flat (.int _) (by decide +kernel))
    have A := A.snoc (.refl _) (v := .int 1) (pv_flat (.int _) (by decide +kernel))
    have A := A.snoc (.refl _) (v := .int (-1)) (pv_flat (.int _) (by decide +kernel))
    have A := A.snoc (.refl _) (v := .int (10 ^ (20 : Int).toNat)) (pv_flat (.int _) (by decide +kernel))
    have A := A.snoc (.refl _) (v := .str "") (pv_flat (.str _) (by decide +kernel))
    have A := A.snoc (.refl _) (v := .str "a") (pv_flat (.str _) (by decide +kernel))
    have A := A.snoc (.refl _) (v := .str "A") (pv_flat (.str _) (by decide +kernel))
    have A := A.snoc (.refl _) (v := .str "a b") (pv_flat (.str _) (by decide +kernel))
    have A := A.snoc (.refl _) (v := .str "abcdefghi") (pv_flat (.str _) (by decide +kernel))
    refine ⟨_, rfl, _, _, rfl, rfl, ⟨by decide, by decide, by decide⟩, by show 0 ≤ sizeLine; decide, fun t1 h1 => ?_⟩
    have s1 := same_new (o := HO.tup []) h1
    have A := A.snoc s1 (pv_t (xs := []) h1 .nil (by decide +kernel))
    have S := S.trans s1
    generalize upd H t1 (HO.tup []) = H1 at A S
    clear s1 h1
    refine ⟨by show 0 ≤ sizeLine; decide, fun t2 h2 nn2 => ?_⟩
    have s2 := same_new (o := HO.lst []) h2
    have A := A.snoc s2 (pv_l (xs := []) h2 nn2 .nil (by decide +kernel))
    have S := S.trans s2
    generalize upd H1 t2 (HO.lst []) = H2 at A S
    clear s2 h2
    refine fun t3 h3 => ?_
    have s3 := same_new (o := HO.dK []) h3
    have A := A.snoc s3 ⟨.dict [], .dct (ne_of_none (S _ _ P0) h3).symm upd_same .nil, gmB_ok (by decide +kernel)⟩
    have S := S.trans s3
    generalize upd H2 t3 (HO.dK []) = H3 at A S
    clear s3 h3
    refine ⟨by show 1 ≤ sizeLine; decide, fun t4 h4 => ?_⟩
    have s4 := same_new (o := HO.tup [V.str "a"]) h4
    have A := A.snoc s4 (pv_t (xs := [V.str "a"]) h4 (.cons (.str _) .nil) (by decide +kernel))
    have S := S.trans s4
    generalize upd H3 t4 (HO.tup [V.str "a"]) = H4 at A S
    clear s4 h4
    refine ⟨by show 2 ≤ sizeLine; decide, fun t5 h5 nn5 => ?_⟩
    have s5 := same_new (o := HO.lst [V.str "a", V.int 0]) h5
    have A := A.snoc s5 (pv_l (xs := [V.str "a", V.int 0]) h5 nn5 (.cons (.str _) (.cons (.int _) .nil)) (by decide +kernel))
    have S := S.trans s5
    generalize upd H4 t5 (HO.lst [V.str "a", V.int 0]) = H5 at A S
    clear s5 h5
    refine ⟨by show 17 ≤ sizeLine; decide, fun O0 hO0 => ?_⟩
    generalize hxs : ([] ++ [V.non] ++ [V.bl true] ++ [V.bl false] ++ [V.int 0] ++ [V.int 1] ++ [V.int (-1)] ++ [V.int (10 ^ (20 : Int).toNat)] ++ [V.str ""] ++ [V.str "a"] ++ [V.str "A"] ++ [V.str "a b"] ++ [V.str "abcdefghi"] ++ [V.ref t1] ++ [V.ref t2] ++ [V.ref t3] ++ [V.ref t4] ++ [V.ref t5] : List V) = OA0 at A
    have lA0 : OA0.length = 17 := by rw [← hxs]; rfl
    rw [show ([V.non, V.bl true, V.bl false, V.int 0, V.int 1, V.int (-1), V.int (10 ^ (20 : Int).toNat), V.str "", V.str "a", V.str "A", V.str "a b", V.str "abcdefghi", V.ref t1, V.ref t2, V.ref t3, V.ref t4, V.ref t5] : List V) = OA0 from hxs]
    clear hxs
    have sO := same_new (o := HO.lst OA0) hO0
    have A := A.keep sO
    have S := S.trans sO
    have eO0 : upd H5 O0 (HO.lst OA0) O0 = some (HO.lst OA0) := upd_same
    generalize upd H5 O0 (HO.lst OA0) = H6 at A S eO0
    clear sO hO0
    have AA := A
    have eX := eO0
    have lX := lA0
    clear A eO0 lA0
    generalize OA0 = L0 at AA eX lX
    obtain ⟨X0, hX0⟩ : ∃ X, X = O0 := ⟨_, rfl⟩
    subst hX0
    have A : PvL 200 4 K p H6 [] := PvL.nil
    refine ⟨_, rfl, by show 2 ≤ sizeLine; decide, fun t6 h6 => ?_⟩
    have s6 := same_new (o := HO.tup [V.str "a", V.int 0]) h6
    have A := A.snoc s6 (pv_t (xs := [V.str "a", V.int 0]) h6 (.cons (.str _) (.cons (.int _) .nil)) (by decide +kernel))
    have S := S.trans s6
    have eX := s6 _ _ eX
    have AA := AA.keep s6
    generalize upd H6 t6 (HO.tup [V.str "a", V.int 0]) = H7 at A S eX AA
    clear s6 h6
    refine ⟨by show 2 ≤ sizeLine; decide, fun t7 h7 => ?_⟩
    have s7 := same_new (o := HO.tup [V.str "a", V.int 1]) h7
    have A := A.snoc s7 (pv_t (xs := [V.str "a", V.int 1]) h7 (.cons (.str _) (.cons (.int _) .nil)) (by decide +kernel))
    have S := S.trans s7
    have eX := s7 _ _ eX
    have AA := AA.keep s7
    generalize upd H7 t7 (HO.tup [V.str "a", V.int 1]) = H8 at A S eX AA
    clear s7 h7
    refine ⟨by show 2 ≤ sizeLine; decide, fun t8 h8 => ?_⟩
    have s8 := same_new (o := HO.tup [V.str "a", V.int 2]) h8
    have A := A.snoc s8 (pv_t (xs := [V.str "a", V.int 2]) h8 (.cons (.str _) (.cons (.int _) .nil)) (by decide +kernel))
    have S := S.trans s8
    have eX := s8 _ _ eX
    have AA := AA.keep s8
    generalize upd H8 t8 (HO.tup [V.str "a", V.int 2]) = H9 at A S eX AA
    clear s8 h8
    refine ⟨by show 2 ≤ sizeLine; decide, fun t9 h9 => ?_⟩
    have s9 := same_new (o := HO.tup [V.str "a", V.bl true]) h9
    have A := A.snoc s9 (pv_t (xs := [V.str "a", V.bl true]) h9 (.cons (.str _) (.cons (.bl _) .nil)) (by decide +kernel))
    have S := S.trans s9
    have eX := s9 _ _ eX
    have AA := AA.keep s9
    generalize upd H9 t9 (HO.tup [V.str "a", V.bl true]) = H10 at A S eX AA
    clear s9 h9
    refine ⟨by show 2 ≤ sizeLine; decide, fun t10 h10 => ?_⟩
    have s10 := same_new (o := HO.tup [V.str "a", V.non]) h10
    have A := A.snoc s10 (pv_t (xs := [V.str "a", V.non]) h10 (.cons (.str _) (.cons .non .nil)) (by decide +kernel))
    have S := S.trans s10
    have eX := s10 _ _ eX
    have AA := AA.keep s10
    generalize upd H10 t10 (HO.tup [V.str "a", V.non]) = H11 at A S eX AA
    clear s10 h10
    refine ⟨by show 2 ≤ sizeLine; decide, fun t11 h11 => ?_⟩
    have s11 := same_new (o := HO.tup [V.str "A", V.int 0]) h11
    have A := A.snoc s11 (pv_t (xs := [V.str "A", V.int 0]) h11 (.cons (.str _) (.cons (.int _) .nil)) (by decide +kernel))
    have S := S.trans s11
    have eX := s11 _ _ eX
    have AA := AA.keep s11
    generalize upd H11 t11 (HO.tup [V.str "A", V.int 0]) = H12 at A S eX AA
    clear s11 h11
    refine ⟨by show 2 ≤ sizeLine; decide, fun t12 h12 => ?_⟩
    have s12 := same_new (o := HO.tup [V.str "", V.int 1]) h12
    have A := A.snoc s12 (pv_t (xs := [V.str "", V.int 1]) h12 (.cons (.str _) (.cons (.int _) .nil)) (by decide +kernel))
    have S := S.trans s12
    have eX := s12 _ _ eX
    have AA := AA.keep s12
    generalize upd H12 t12 (HO.tup [V.str "", V.int 1]) = H13 at A S eX AA
    clear s12 h12
    refine ⟨by show 2 ≤ sizeLine; decide, fun t13 h13 => ?_⟩
    have s13 := same_new (o := HO.tup [V.str "abcdefghi", V.int 0]) h13
    have A := A.snoc s13 (pv_t (xs := [V.str "abcdefghi", V.int 0]) h13 (.cons (.str _) (.cons (.int _) .nil)) (by decide +kernel))
    have S := S.trans s13
    have eX := s13 _ _ eX
    have AA := AA.keep s13
    generalize upd H13 t13 (HO.tup [V.str "abcdefghi", V.int 0]) = H14 at A S eX AA
    clear s13 h13
    refine ⟨by show 8 ≤ sizeLine; decide, fun O1 hO1 => ?_⟩
    generalize hxs : ([] ++ [V.ref t6] ++ [V.ref t7] ++ [V.ref t8] ++ [V.ref t9] ++ [V.ref t10] ++ [V.ref t11] ++ [V.ref t12] ++ [V.ref t13] : List V) = OA1 at A
    have lA1 : OA1.length = 8 := by rw [← hxs]; rfl
    rw [show ([V.ref t6, V.ref t7, V.ref t8, V.ref t9, V.ref t10, V.ref t11, V.ref t12, V.ref t13] : List V) = OA1 from hxs]
    clear hxs
    have sO := same_new (o := HO.lst OA1) hO1
    have A := A.keep sO
    have S := S.trans sO
    have eX := sO _ _ eX
    have AA := AA.keep sO
    have eO1 : upd H14 O1 (HO.lst OA1) O1 = some (HO.lst OA1) := upd_same
    generalize upd H14 O1 (HO.lst OA1) = H15 at A S eX AA eO1
    clear sO hO1
    refine ⟨X0, O1, L0, OA1, rfl, rfl, eX, eO1, by rw [lX, lA1]; decide, fun X1 hX1 => ?_⟩
    have sO := same_new (o := HO.lst (L0 ++ OA1)) hX1
    have AB := (AA.app A).keep sO
    have S := S.trans sO
    have eY : upd H15 X1 (HO.lst (L0 ++ OA1)) X1 = some (HO.lst (L0 ++ OA1)) := upd_same
    have lY : (L0 ++ OA1).length = 25 := by rw [List.length_append, lX, lA1]
    generalize upd H15 X1 (HO.lst (L0 ++ OA1)) = H16 at AB S eY
    generalize L0 ++ OA1 = L1 at AB eY lY
    clear sO hX1 A AA eX lX eO1 lA1
    have AA := AB
    have eX := eY
    have lX := lY
    clear AB eY lY
    have A : PvL 200 4 K p H16 [] := PvL.nil
    refine ⟨_, rfl, by show 3 ≤ sizeLine; decide, fun t14 h14 => ?_⟩
    have s14 := same_new (o := HO.tup [V.str "a", V.int 0, V.int 1]) h14
    have A := A.snoc s14 (pv_t (xs := [V.str "a", V.int 0, V.int 1]) h14 (.cons (.str _) (.cons (.int _) (.cons (.int _) .nil))) (by decide +kernel))
    have S := S.trans s14
    have eX := s14 _ _ eX
    have AA := AA.keep s14
    generalize upd H16 t14 (HO.tup [V.str "a", V.int 0, V.int 1]) = H17 at A S eX AA
    clear s14 h14
    refine ⟨by show 2 ≤ sizeLine; decide, fun t16 h16 => ?_⟩
    have s16 := same_new (o := HO.tup [V.str "a", V.int 0]) h16
    have et16 : Da K p (upd H17 t16 (HO.tup [V.str "a", V.int 0])) (.ref t16) (.tuple [.str "a", .int 0]) := .tup (.inl (.inl upd_same)) (.cons (.str _) (.cons (.int _) .nil))
    have A := A.keep s16
    have S := S.trans s16
    have eX := s16 _ _ eX
    have AA := AA.keep s16
    generalize upd H17 t16 (HO.tup [V.str "a", V.int 0]) = H18 at A S eX AA et16
    clear s16 h16
    refine ⟨by show 2 ≤ sizeLine; decide, fun t17 h17 => ?_⟩
    have s17 := same_new (o := HO.tup [V.str "b", V.int 1]) h17
    have et17 : Da K p (upd H18 t17 (HO.tup [V.str "b", V.int 1])) (.ref t17) (.tuple [.str "b", .int 1]) := .tup (.inl (.inl upd_same)) (.cons (.str _) (.cons (.int _) .nil))
    have et16 := da_keep s17.keepA et16
    have A := A.keep s17
    have S := S.trans s17
    have eX := s17 _ _ eX
    have AA := AA.keep s17
    generalize upd H18 t17 (HO.tup [V.str "b", V.int 1]) = H19 at A S eX AA et17 et16
    clear s17 h17
    refine ⟨by show 2 ≤ sizeLine; decide, fun t15 h18 => ?_⟩
    have s18 := same_new (o := HO.tup [V.ref t16, V.ref t17]) h18
    have A := A.snoc s18 (pv_t h18 (.cons et16 (.cons et17 .nil)) (by decide +kernel))
    have S := S.trans s18
    have eX := s18 _ _ eX
    have AA := AA.keep s18
    generalize upd H19 t15 (HO.tup [V.ref t16, V.ref t17]) = H20 at A S eX AA
    clear s18 h18 et16 et17
    refine fun t19 h19 => ⟨upd_same, [(Sum.inr "a", .int 0)], rfl, by show 1 ≤ 15; decide, ?_⟩
    rw [merge_oneV]
    have s19 : Same H20 (upd (upd H20 t19 (HO.dK [])) t19 (HO.dK [(Sum.inr "a", .int 0)])) := fun b u e => by
      have nb := ne_of_none e h19
      rw [upd_ne nb, upd_ne nb]
      exact e
    have A := A.snoc s19 ⟨.dict [(.str "a", .int 0)], .dct (ne_of_none (S _ _ P0) h19).symm upd_same (.cons (.int 0) .nil), gmB_ok (by decide +kernel)⟩
    have S := S.trans s19
    have eX := s19 _ _ eX
    have AA := AA.keep s19
    generalize upd (upd H20 t19 (HO.dK [])) t19 (HO.dK [(Sum.inr "a", .int 0)]) = H21 at A S eX AA
    clear s19 h19
    refine ⟨by show 2 ≤ sizeLine; decide, fun t21 h21 => ?_⟩
    have s21 := same_new (o := HO.tup [V.str "a", V.int 0]) h21
    have et21 : Da K p (upd H21 t21 (HO.tup [V.str "a", V.int 0])) (.ref t21) (.tuple [.str "a", .int 0]) := .tup (.inl (.inl upd_same)) (.cons (.str _) (.cons (.int _) .nil))
    have A := A.keep s21
    have S := S.trans s21
    have eX := s21 _ _ eX
    have AA := AA.keep s21
    generalize upd H21 t21 (HO.tup [V.str "a", V.int 0]) = H22 at A S eX AA et21
    clear s21 h21
    refine ⟨by show 1 ≤ sizeLine; decide, fun t20 h22 nn22 => ?_⟩
    have s22 := same_new (o := HO.lst [V.ref t21]) h22
    have A := A.snoc s22 (pv_l h22 nn22 (.cons et21 .nil) (by decide +kernel))
    have S := S.trans s22
    have eX := s22 _ _ eX
    have AA := AA.keep s22
    generalize upd H22 t20 (HO.lst [V.ref t21]) = H23 at A S eX AA
    clear s22 h22 et21
    refine ⟨_, rfl, by show 2 ≤ sizeLine; decide, fun t23 h23 => ?_⟩
    have s23 := same_new (o := HO.tup [V.str "a", V.int (-1)]) h23
    have A := A.snoc s23 (pv_t (xs := [V.str "a", V.int (-1)]) h23 (.cons (.str _) (.cons (.int _) .nil)) (by decide +kernel))
    have S := S.trans s23
    have eX := s23 _ _ eX
    have AA := AA.keep s23
    generalize upd H23 t23 (HO.tup [V.str "a", V.int (-1)]) = H24 at A S eX AA
    clear s23 h23
    refine ⟨by show 2 ≤ sizeLine; decide, fun t24 h24 => ?_⟩
    have s24 := same_new (o := HO.tup [V.int 0, V.str "a"]) h24
    have A := A.snoc s24 (pv_t (xs := [V.int 0, V.str "a"]) h24 (.cons (.int _) (.cons (.str _) .nil)) (by decide +kernel))
    have S := S.trans s24
    have eX := s24 _ _ eX
    have AA := AA.keep s24
    generalize upd H24 t24 (HO.tup [V.int 0, V.str "a"]) = H25 at A S eX AA
    clear s24 h24
    refine ⟨by show 2 ≤ sizeLine; decide, fun t25 h25 => ?_⟩
    have s25 := same_new (o := HO.tup [V.str "a", V.str "0"]) h25
    have A := A.snoc s25 (pv_t (xs := [V.str "a", V.str "0"]) h25 (.cons (.str _) (.cons (.str _) .nil)) (by decide +kernel))
    have S := S.trans s25
    have eX := s25 _ _ eX
    have AA := AA.keep s25
    generalize upd H25 t25 (HO.tup [V.str "a", V.str "0"]) = H26 at A S eX AA
    clear s25 h25
    refine ⟨by show 7 ≤ sizeLine; decide, fun O2 hO2 => ?_⟩
    generalize hxs : ([] ++ [V.ref t14] ++ [V.ref t15] ++ [V.ref t19] ++ [V.ref t20] ++ [V.ref t23] ++ [V.ref t24] ++ [V.ref t25] : List V) = OA2 at A
    have lA2 : OA2.length = 7 := by rw [← hxs]; rfl
    rw [show ([V.ref t14, V.ref t15, V.ref t19, V.ref t20, V.ref t23, V.ref t24, V.ref t25] : List V) = OA2 from hxs]
    clear hxs
    have sO := same_new (o := HO.lst OA2) hO2
    have A := A.keep sO
    have S := S.trans sO
    have eX := sO _ _ eX
    have AA := AA.keep sO
    have eO2 : upd H26 O2 (HO.lst OA2) O2 = some (HO.lst OA2) := upd_same
    generalize upd H26 O2 (HO.lst OA2) = H27 at A S eX AA eO2
    clear sO hO2
    refine ⟨X1, O2, L1, OA2, rfl, rfl, eX, eO2, by rw [lX, lA2]; decide, fun X2 hX2 => ?_⟩
    have sO := same_new (o := HO.lst (L1 ++ OA2)) hX2
    have AB := (AA.app A).keep sO
    have S := S.trans sO
    have eY : upd H27 X2 (HO.lst (L1 ++ OA2)) X2 = some (HO.lst (L1 ++ OA2)) := upd_same
    have lY : (L1 ++ OA2).length = 32 := by rw [List.length_append, lX, lA2]
    generalize upd H27 X2 (HO.lst (L1 ++ OA2)) = H28 at AB S eY
    generalize L1 ++ OA2 = L2 at AB eY lY
    clear sO hX2 A AA eX lX eO2 lA2
    have AA := AB
    have eX := eY
    have lX := lY
    clear AB eY lY
    refine ⟨_, rfl, _, rfl, p, c, n, .ref X2, L2, rfl, G.same S, by omega, .lst (.inl (.inl eX)), by rw [lX]; decide, by rw [lX]; decide, fun j v H99 hv s99 G99 => ?_⟩
    exact q v H99 (AA.keepP s99 (G.same S) v (List.mem_of_getElem? hv)) ((SameP.of S).trans s99) G99
end
end My
set_option Elab.async false
set_option linter.all false
set_option maxRecDepth 100000
set_option maxHeartbeats 4000000
/-! what stays where tables of code objects grow -/
namespace My
open PySem PySem.Spec PyProof.Rows L2 LamX
theorem tabs_none {q : Str} {P : Addr} {H : Hp} (h : H P = some (.tbl #[])) : Tabs [(P, q)] H := fun p hp => by
  rw [List.mem_singleton.mp hp]
  exact ⟨#[], h, by trivial, fun pos cv z => by cases z⟩
theorem tabs_at {T : List (Addr × Str)} {H H' : Hp} {p : Addr} (h : Tabs T H) (s : ∀ b o, b ≠ p → H b = some o → H' b = some o) (np : ∀ ps, H p ≠ some (.tbl ps)) (nc : ∀ g, H p ≠ some (.ext g)) : Tabs T H' := fun t ht => by
  obtain ⟨ps, h1, h2, h3⟩ := h t ht
  refine ⟨ps, s _ _ (fun z => np ps (z ▸ h1)) h1, h2, fun pos cv hc => ?_⟩
  obtain ⟨c, e1, e2⟩ := h3 pos cv hc
  exact ⟨c, e1, s _ _ (fun z => nc _ (z ▸ e2)) e2⟩
theorem tabs_pen {T : List (Addr × Str)} {H H' : Hp} {p c : Addr} {n : Nat} (h : Tabs T H) (G : PenAt H p c n) (s : SameP p H H') : Tabs T H' := by
  obtain ⟨ns, t, r, e, _⟩ := G.ex
  exact tabs_at h s (fun ps z => by rw [e] at z; cases z) (fun g z => by rw [e] at z; cases z)
theorem PenAt.ext {H H' : Hp} {p c : Addr} {n : Nat} (G : PenAt H p c n) (s : ExtN H H') : PenAt H' p c n := by
  obtain ⟨ns, t, r, e1, e2, r3⟩ := G.ex
  exact ⟨ns, t, r, s _ _ e1 (fun ps z => by cases z), s _ _ e2 (fun ps z => by cases z), r3⟩
theorem extN_bare {H H' : Hp} {a : Addr} (s : ExtN H H') (h : BareT H a) : BareT H' a := by
  obtain ⟨ob, xs, e, d⟩ := h
  exact ⟨ob, xs, s _ _ e (fun ps z => by cases z), d⟩
theorem extN_t {K : PySem.W.Frag} {H H' : Hp} (e : ExtN H H') {a : Addr} {xs : List V} (h : SqT K H a xs) : SqT K H' a xs := by
  rcases h with (h | ⟨ob, h⟩) | h
  · exact .inl (.inl (e _ _ h fun ps z => by cases z))
  · exact .inl (.inr ⟨ob, e _ _ h fun ps z => by cases z⟩)
  · exact .inr h
theorem extN_l {K : PySem.W.Frag} {H H' : Hp} (e : ExtN H H') {a : Addr} {xs : List V} (h : SqL K H a xs) : SqL K H' a xs := by
  rcases h with (h | ⟨ob, h⟩) | h
  · exact .inl (.inl (e _ _ h fun ps z => by cases z))
  · exact .inl (.inr ⟨ob, e _ _ h fun ps z => by cases z⟩)
  · exact .inr h
theorem extN_keepA {K : PySem.W.Frag} {p : Addr} {H H' : Hp} (e : ExtN H H') : KeepA K p H H' := ⟨fun _ _ h => extN_l e h, fun _ _ h => extN_t e h, fun _ _ _ h => e _ _ h fun ps z => by cases z⟩
theorem GdV.ext {m1 m2 : Nat} {K : PySem.W.Frag} {p : Addr} {H H' : Hp} {v : V} (h : GdV m1 m2 K p H v) (s : ExtN H H') : GdV m1 m2 K p H' v := let ⟨d, a, b, c⟩ := h; ⟨d, da_keep (extN_keepA s) a, b, fun z => let ⟨x, y, q⟩ := c z; ⟨x, y, extN_bare s q⟩⟩
theorem GdL.ext {m1 m2 : Nat} {K : PySem.W.Frag} {p : Addr} {H H' : Hp} {xs : List V} (h : GdL m1 m2 K p H xs) (s : ExtN H H') : GdL m1 m2 K p H' xs := fun v hv => (h v hv).ext s
end My
set_option Elab.async false
set_option linter.all false
set_option maxRecDepth 100000
set_option maxHeartbeats 4000000
/-! defs whose code object is known: a lambda is made in them -/
namespace My
open PySem PySem.Spec PyProof.Rows L2
/-- a def whose code object is known -/
structure FunC (K : PySem.W.Frag) (x qual : Str) (st : Stmt) (f : Addr) (fd : FuncData) (c : Addr) : Prop where
  ex : ∃ (oc : Value) (od : Option Addr) (kV doc pm : Value) (an : Option Addr) (ct : Value) (osl : Array (Option Value)),
    fd = PySem.W.fnOf x qual (defArgs st) (defBody st) (defScope st) .none kV doc pm an (.ref c) ct ∧ K.lookup f = some ⟨oc, od, .func fd, osl⟩ ∧ PySem.W.codeIn K (.ref c) qual = true
section
variable {P : Program} {w : World} {K : PySem.W.Frag} {mg : Str → Option Value} {base : Heap}
theorem FunC.ok {x qual : Str} {st : Stmt} {f c : Addr} {fd : FuncData} {N ps : List Str} {k : Nat} {sp : Sp} (F : FunC K x qual st f fd c) (S : FnScope N ps (defScope st)) (len : ∀ vs H Q E, sp vs H Q E → vs.length = ps.length)
    (hbody : ∀ (A : Around) (outer : List Env) (s : Shared) (H : Hp) (vs : List V) (Q : VK) (E : XK), Room k (A.deeper (envOfC qual (defScope st) s.heap.objs.size f (.ref c))) → sp vs H Q E →
      ∃ t, PSs (cxOf CX0 P w K mg base N qual (defScope st) f (.ref c) A outer s H E).nox (defBody st) t ∧ t { nx := fun _ H' => Q .non H', rt := Q } (start N vs) H) : FnOk P w K mg base CX0 (k + 1) f fd ps sp := by
  obtain ⟨oc, od, kV, doc, pm, an, ct, osl, rfl, lk, hcd⟩ := F.ex
  refine fn_of lk hcd S len fun A outer s H vs Q E hr hsp => ?_
  obtain ⟨t, h, q⟩ := hbody A outer s H vs Q E hr hsp
  exact ⟨t, h.nox, q⟩
/-- the same of a def that shows values -/
theorem FunC.okG {x qual : Str} {st : Stmt} {f c : Addr} {fd : FuncData} {N ps : List Str} {k : Nat} {sp : Sp} (F : FunC K x qual st f fd c) (S : FnScope N ps (defScope st)) (len : ∀ vs H Q E, sp vs H Q E → vs.length = ps.length)
    (hbody : ∀ (A : Around) (outer : List Env) (s : Shared) (H : Hp) (vs : List V) (Q : VK) (E : XK), Still A → Room k (A.deeper (envOfC qual (defScope st) s.heap.objs.size f (.ref c))) → sp vs H Q E →
      ∃ t, PSs (cxOf CX0 P w K mg base N qual (defScope st) f (.ref c) A outer s H E).nox (defBody st) t ∧ t { nx := fun _ H' => Q .non H', rt := Q } (start N vs) H) : FnG P w K mg base CX0 (k + 1) f fd ps sp := by
  obtain ⟨oc, od, kV, doc, pm, an, ct, osl, rfl, lk, hcd⟩ := F.ex
  refine fn_ofG lk hcd S len fun A outer s H vs Q E sl hr hsp => ?_
  obtain ⟨t, h, q⟩ := hbody A outer s H vs Q E sl hr hsp
  exact ⟨t, h.nox, q⟩
end
end My
set_option Elab.async false
set_option linter.all false
set_option maxRecDepth 100000
set_option maxHeartbeats 4000000
/-! tuples that are written or added: known to bear no dict -/
namespace My
open PySem PySem.Spec PyProof.Rows L2
section
variable {X : Cx}
def tTupF (t : TA) : TE := fun σ H Q => t σ H fun xs H1 => xs.length ≤ sizeLine ∧ ∀ p ob, H1 p = none → ob.dict = none → Q (.ref p) (upd H1 p (.frz ob (.tup xs)))
theorem pe_tupF {es : List Expr} {pos : Pos} {x1 : Nat} {t : TA} (ha : PA X es t) : PE X (.Tuple es x1 pos) (tTupF t) := by
  constructor
  intro pins s0 σ H Q I q0
  refine wpAny_Tuple_spliced (thn (ha.run pos pins s0 σ H _ I q0) fun us s1 ⟨ys, H2, I2, rv, zz, q1⟩ => ⟨by have := rv.length; omega, ?_⟩)
  have fresh := I2.hok.fresh (Nat.le_refl s1.heap.objs.size)
  have nw := IsTup.new s1.heap us.toArray
  exact ⟨.ref s1.heap.objs.size, upd H2 s1.heap.objs.size (.frz { cls := .type "tuple", data := .seq us.toArray } (.tup ys)), I2.laid (t' := s1.toks) (fun _ _ e => Heap.get?_push_of_some _ e) (Nat.le_refl _) ⟨Heap.get?_push_size _ rfl, zz, us, rv, nw⟩, rfl, q1 _ _ fresh rfl⟩
/-- a + b of two tuples with items -/
def rCatF (K : PySem.W.Frag) : R2 := fun x y H Q => ∃ a b xs ys, x = .ref a ∧ y = .ref b ∧ SqT K H a xs ∧ SqT K H b ys ∧ xs.length + ys.length ≤ sizeLine ∧ xs ≠ [] ∧ ys ≠ [] ∧ ∀ p ob, H p = none → ob.dict = none → Q (.ref p) (upd H p (.frz ob (.tup (xs ++ ys))))
theorem op_catF : OpR X (binaryOp .Add) (rCatF X.K) := by
  intro pins s σ H x y v u Q I rx ry ⟨a, b, xs, ys, ex, ey, ta, tb, hz, nx, ny, q⟩
  subst ex ey
  cases rx
  cases ry
  obtain ⟨its, rv, t1, _⟩ := I.tuple ta
  obtain ⟨it2, rv2, t2, _⟩ := I.tuple tb
  have l1 := rv.length
  have l2 := rv2.length
  have i1 : its ≠ [] := fun z => nx (List.eq_nil_of_length_eq_zero (by rw [z, List.length_nil] at l1; omega))
  have i2 : it2 ≠ [] := fun z => ny (List.eq_nil_of_length_eq_zero (by rw [z, List.length_nil] at l2; omega))
  have fresh := I.hok.fresh (Nat.le_refl s.heap.objs.size)
  have nw := IsTup.new s.heap (its ++ it2).toArray
  refine HT.cat_tup t1 t2 i1 (fun z => absurd z i2) (fun _ => ?_) (by omega)
  exact ⟨.ref s.heap.objs.size, upd H s.heap.objs.size (.frz { cls := .type "tuple", data := .seq (its ++ it2).toArray } (.tup (xs ++ ys))), I.laid (t' := s.toks) (fun _ _ e => Heap.get?_push_of_some _ e) (Nat.le_refl _) ⟨Heap.get?_push_size _ rfl, by rw [List.length_append]; exact hz, its ++ it2, rv.append rv2, nw⟩, rfl, q _ _ fresh rfl⟩
theorem op_catG : OpR X (binaryOp .Add) (fun x y H Q => rCatA X.K x y H Q ∨ rCatF X.K x y H Q) := fun pins s σ H x y v u Q I rx ry h => h.elim (op_catA pins s σ H x y v u Q I rx ry) (op_catF pins s σ H x y v u Q I rx ry)
end
section
variable {K : PySem.W.Frag} {H : Hp} {a b : Addr} {xs ys : List V} {Q : VK}
/-- one lemma for all three -/
theorem cat_toG (hx : SqT K H a xs) (hy : SqT K H b ys) (hz : xs.length + ys.length ≤ sizeLine) (bx : ys = [] → xs ≠ [] → BareT H a) (hyb : xs = [] → BareT H b) (q : ∀ (c : Addr) (H' : Hp), Same H H' → SqT K H' c (xs ++ ys) → BareT H' c → Q (.ref c) H') :
    rCatA K (.ref a) (.ref b) H Q ∨ rCatF K (.ref a) (.ref b) H Q := by
  by_cases nx : xs = []
  · subst nx
    exact .inl ⟨a, b, [], ys, rfl, rfl, hx, hy, hz, fun _ => q b H (.refl H) hy (hyb rfl), fun z => absurd rfl z, fun z => absurd rfl z⟩
  · by_cases ny : ys = []
    · subst ny
      exact .inl ⟨a, b, xs, [], rfl, rfl, hx, hy, hz, fun z => absurd z nx, fun _ _ => q a H (.refl H) (by rw [List.append_nil]; exact hx) (bx rfl nx), fun _ z => absurd rfl z⟩
    · exact .inr ⟨a, b, xs, ys, rfl, rfl, hx, hy, hz, nx, ny, fun p ob hp hd => q p _ (same_new hp) (.inl (.inr ⟨ob, upd_same⟩)) ⟨ob, _, upd_same, hd⟩⟩
/-- a cut that is the whole is the same object -/
theorem sl_toG {lo hi : Option Int} (ht : SqT K H a xs) (q : ∀ (b : Addr) (H' : Hp), Same H H' → SqT K H' b (cutV xs lo hi) → (HT.sIx xs.length 0 lo = 0 → HT.sIx xs.length xs.length hi = xs.length → b = a) → Q (.ref b) H') : rSlA K (.ref a) lo hi H Q := by
  refine ⟨a, xs, rfl, ht, fun hw => q a H (.refl H) ?_ fun _ _ => rfl, fun hn b hb => q b _ (same_new hb) (.inl (.inl upd_same)) fun h1 h2 => absurd ⟨h1, h2⟩ hn⟩
  have e : cutV xs lo hi = xs := by
    unfold cutV
    rw [hw.1, hw.2, List.drop_zero, Nat.sub_zero, List.take_length]
  rw [e]
  exact ht
end
end My
set_option Elab.async false
set_option linter.all false
set_option maxRecDepth 100000
set_option maxHeartbeats 4000000
/-! cuts of tuples known to bear no dict -/
namespace My
open PySem PySem.Spec PyProof.Rows L2
section
variable {X : Cx}
def rSlF (K : PySem.W.Frag) : V → Option Int → Option Int → Hp → VK → Prop := fun x lo hi H Q => ∃ a xs, x = .ref a ∧ SqT K H a xs ∧
  ¬ (HT.sIx xs.length 0 lo = 0 ∧ HT.sIx xs.length xs.length hi = xs.length) ∧ ∀ p ob, H p = none → ob.dict = none → Q (.ref p) (upd H p (.frz ob (.tup (cutV xs lo hi))))
theorem sl_tupF : SlR X (rSlF X.K) := by
  intro pins s σ H x v vl vu lo hi sl Q I rx hs pl pu ⟨a, xs, ex, hx, hw, q⟩
  subst ex
  cases rx
  obtain ⟨its, r, ht, hz⟩ := I.tuple hx
  have hlen : its.toArray.size = xs.length := by rw [List.size_toArray]; exact r.length.symm
  have fresh := I.hok.fresh (Nat.le_refl s.heap.objs.size)
  refine ⟨"tuple", _, PyProof.Rows.slot_tuple_getitem.lookup, ht.typeIs, ?_⟩
  refine HT.getItem_tuple_cut ht hs pl pu (by rw [hlen]; exact hw) ?_ (by rw [hlen]; exact hz)
  rw [hlen]
  refine ⟨.ref s.heap.objs.size, _, I.laid (t' := s.toks) (o := .frz _ (.tup (cutV xs lo hi))) (fun _ _ e => Heap.get?_push_of_some _ e) (Nat.le_refl _)
    ⟨Heap.get?_push_size _ rfl, Nat.le_trans (cutV_length xs lo hi) hz, _, (r.drop (HT.sIx xs.length 0 lo)).take (HT.sIx xs.length xs.length hi - HT.sIx xs.length 0 lo), IsTup.new _ _⟩, rfl, q _ _ fresh rfl⟩
theorem sl_tupG : SlR X (fun x lo hi H Q => rSlA X.K x lo hi H Q ∨ rSlF X.K x lo hi H Q) := fun pins s σ H x v vl vu lo hi sl Q I rx hs pl pu h =>
  h.elim (sl_tupA pins s σ H x v vl vu lo hi sl Q I rx hs pl pu) (sl_tupF pins s σ H x v vl vu lo hi sl Q I rx hs pl pu)
end
section
variable {K : PySem.W.Frag} {H : Hp} {a b : Addr} {xs ys : List V} {Q : VK}
theorem sl_toF {lo hi : Option Int} (ht : SqT K H a xs) (hb : BareT H a) (q : ∀ (c : Addr) (H' : Hp), Same H H' → SqT K H' c (cutV xs lo hi) → BareT H' c → Q (.ref c) H') : rSlA K (.ref a) lo hi H Q ∨ rSlF K (.ref a) lo hi H Q := by
  by_cases hw : HT.sIx xs.length 0 lo = 0 ∧ HT.sIx xs.length xs.length hi = xs.length
  · refine .inl ⟨a, xs, rfl, ht, fun hw => q a H (.refl H) ?_ hb, fun hn => absurd hw hn⟩
    have e : cutV xs lo hi = xs := by
      unfold cutV
      rw [hw.1, hw.2, List.drop_zero, Nat.sub_zero, List.take_length]
    rw [e]
    exact ht
  · exact .inr ⟨a, xs, rfl, ht, hw, fun p ob hp hd => q p _ (same_new hp) (.inl (.inr ⟨ob, upd_same⟩)) ⟨ob, _, upd_same, hd⟩⟩
theorem cat_toF (hx : SqT K H a xs) (hy : SqT K H b ys) (hz : xs.length + ys.length ≤ sizeLine) (ba : BareT H a) (bb : BareT H b) (q : ∀ (c : Addr) (H' : Hp), Same H H' → SqT K H' c (xs ++ ys) → BareT H' c → Q (.ref c) H') :
    rCatA K (.ref a) (.ref b) H Q ∨ rCatF K (.ref a) (.ref b) H Q := cat_toG hx hy hz (fun _ _ => ba) (fun _ => bb) q
end
end My
set_option Elab.async false
set_option linter.all false
set_option maxRecDepth 100000
set_option maxHeartbeats 4000000
/-! t[::-1] of a tuple: a new one, known to bear no dict -/
namespace My
open PySem PySem.Spec PyProof.Rows L2 HT
def tRevF (K : PySem.W.Frag) (te : TE) : TE := fun σ H Q => te σ H fun x H1 => ∃ a xs, x = .ref a ∧ SqT K H1 a xs ∧ ∀ p ob, H1 p = none → ob.dict = none → Q (.ref p) (upd H1 p (.frz ob (.tup xs.reverse)))
section
variable {X : Cx}
theorem pe_revF {e : Expr} {te : TE} {k : Nat} {p1 p2 p3 pos : Pos} (he : PE X e te) : PE X (.Subscript e (.Slice none none (some (.UnaryOp .USub (.Constant (.int 1) k p1) p2)) p3) pos) (tRevF X.K te) := by
  refine ⟨fun pins s σ H Q I h => ?_⟩
  refine Subscript_ (thn (he.run pins s σ H _ I h) fun v s1 ⟨x, H1, I1, r1, q1⟩ => ?_)
  obtain ⟨a, xs, ex, hx, q⟩ := q1
  subst ex
  cases r1
  have hst : PO X (some (.UnaryOp .USub (.Constant (.int 1) k p1) p2)) (tPart (tUn (rU fun i => .int (-i)) (tC (.int 1)))) := po_some (pe_un un_neg pe_int)
  refine wpAny_Slice (thn (po_none.run pins s1 σ H1 (fun o H2 => o = none ∧ H2 = H1) I1 ⟨rfl, rfl⟩) fun vl s2 ⟨l, H2, I2, pl, el, e2⟩ => ?_)
  subst el e2
  refine thn (po_none.run pins s2 σ H2 (fun o H3 => o = none ∧ H3 = H2) I2 ⟨rfl, rfl⟩) fun vu s3 ⟨u, H3, I3, pu, eu, e3⟩ => ?_
  subst eu e3
  refine thn (hst.run pins s3 σ H3 (fun o H4 => o = some (-1) ∧ H4 = H3) I3 ⟨1, rfl, -1, rfl, rfl, rfl⟩) fun vs s4 ⟨o, H4, I4, ps, eo, e4⟩ => ?_
  subst eo e4
  have I5 : Inv X pins σ H4 { s4 with heap := s4.heap.push { cls := .type "slice", data := .fields #[vl, vu, vs] } } := I4.kept (t' := s4.toks) fun b ob q => Heap.get?_push_of_some _ q
  obtain ⟨its, r, ht, hz⟩ := I5.tuple hx
  have hlen := r.length
  show wpAny (model X.prog X.w) X.A (subscriptTail e (.Slice none none (some (.UnaryOp .USub (.Constant (.int 1) k p1) p2)) p3) (.ref a) (.ref s4.heap.objs.size)) (EP X pins σ Q) X.xe { s4 with heap := s4.heap.push { cls := .type "slice", data := .fields #[vl, vu, vs] } }
  refine tail_any (ops := [.ref a, .ref s4.heap.objs.size]) ht.typeIs (PyProof.Rows.slot_tuple_getitem.lookup) ?_ (by with_unfolding_all rfl)
  refine get_rev ht (Heap.IsSliceOf.new _ vl vu vs) pl pu ps ?_ (by rw [List.size_toArray]; omega)
  refine ⟨.ref _, _, I5.laid (t' := s4.toks) (o := .frz { cls := .type "tuple", data := .seq its.toArray.toList.reverse.toArray } (.tup xs.reverse)) (fun b ob q => Heap.get?_push_of_some _ q) (Nat.le_refl _) ?_, rfl, q _ _ (I5.hok.fresh (Nat.le_refl _)) rfl⟩
  exact ⟨Heap.get?_push_size _ rfl, by rw [List.length_reverse]; exact hz, _, r.reverse, IsTup.new _ _⟩
end
end My
set_option Elab.async false
set_option linter.all false
set_option maxRecDepth 100000
set_option maxHeartbeats 4000000
/-! the law of k73: neighbours or not -/
namespace My
open PySem PySem.Spec PyProof.Rows L2 LamX
open PySem.W (Datum DatumOrd EachIs)
def qLam : Str := "law.<locals>.<lambda>"
abbrev lawN : List Str := ["script", "pen", "turn", "names", "pairs", "others", "k", "other", "due", "one", "strange", "value"]
section
variable {K : PySem.W.Frag} {C x y z p c : Addr} {n : Nat} {H H' : Hp} {ws wz : List Str} {ps qs : List CoupT}
theorem LayAt.ext (h : LayAt K C H x ws ps) (e : ExtN H H') : LayAt K C H' x ws ps := h.keep (K := K) (fun _ _ a => extN_t e a) (fun _ _ a => e _ _ a fun ps z => by cases z) (fun _ _ a => e _ _ a fun ps z => by cases z) (fun _ _ a => e _ _ a fun ps z => by cases z)
theorem PsL.ext {l : Addr} (h : PsL H l ps) (e : ExtN H H') : PsL H' l ps := let ⟨us, a, b⟩ := h; ⟨us, e _ _ a (fun ps z => by cases z), coups_keep (fun _ _ a => e _ _ a fun ps z => by cases z) b⟩
theorem LyP.ext (h : LyP K C H x y ws ps qs) (e : ExtN H H') : LyP K C H' x y ws ps qs := ⟨h.a.ext e, h.b.ext e, h.w, h.n, h.m⟩
theorem LyP.one (h : LyP K C H x y ws ps qs) : LyP K C H x x ws ps ps := ⟨h.a, h.a, h.w, h.n, h.n⟩
/-- what stands behind the two layouts -/
structure LwK (K : PySem.W.Frag) (T : List (Addr × Str)) (C p c : Addr) (n : Nat) (ln lp lq x y : Addr) (ws : List Str) (ps qs : List CoupT) (H : Hp) : Prop where
  G : PenAt H p c n
  T : Tabs T H
  N : H ln = some (.lst (ws.map V.str))
  A : PsL H lp ps
  B : PsL H lq qs
  L : LyP K C H x y ws ps qs
variable {T : List (Addr × Str)} {ln lp lq : Addr}
theorem LwK.keep (h : LwK K T C p c n ln lp lq x y ws ps qs H) (s : Same H H') : LwK K T C p c n ln lp lq x y ws ps qs H' := ⟨h.G.same s, h.T.ext s, s _ _ h.N, h.A.keep s, h.B.keep s, h.L.keep s⟩
theorem LwK.ext (h : LwK K T C p c n ln lp lq x y ws ps qs H) (s : ExtN H H') (g : Tabs T H') : LwK K T C p c n ln lp lq x y ws ps qs H' := ⟨h.G.ext s, g, s _ _ h.N (fun ps z => by cases z), h.A.ext s, h.B.ext s, h.L.ext s⟩
/-- .. and behind the strange one and the value -/
structure LwZ (K : PySem.W.Frag) (T : List (Addr × Str)) (C p c : Addr) (n : Nat) (ln lp lq x y z : Addr) (ws wz : List Str) (ps qs : List CoupT) (v : V) (d : PyData) (H : Hp) : Prop where
  W : LwK K T C p c n ln lp lq x y ws ps qs H
  Z : LayAt K C H z wz []
  D : Da K p H v d
variable {v : V} {d : PyData}
theorem LwZ.keep (h : LwZ K T C p c n ln lp lq x y z ws wz ps qs v d H) (s : Same H H') : LwZ K T C p c n ln lp lq x y z ws wz ps qs v d H' := ⟨h.W.keep s, h.Z.sm s, da_keep s.keepA h.D⟩
theorem LwZ.ext (h : LwZ K T C p c n ln lp lq x y z ws wz ps qs v d H) (s : ExtN H H') (g : Tabs T H') : LwZ K T C p c n ln lp lq x y z ws wz ps qs v d H' := ⟨h.W.ext s g, h.Z.ext s, da_keep (extN_keepA s) h.D⟩
def sevA : Str := "aaaaaaaa"
/-- the wagons of the strange one -/
def strW (ws : List Str) : List Str := ws.drop 1 ++ [sevA]
theorem sev_not (nz : ∀ x ∈ ws, x.length = 8 → x.cps.toList.getLast? = some 122) : sevA ∉ ws := fun h => by
  have := nz _ h (by decide +kernel)
  revert this
  decide +kernel
theorem str_wag (h : WagA ws) (no : sevA ∉ ws) : WagsOk (strW ws) := by
  refine ⟨fun x hx => ?_, ?_, ?_⟩
  · rcases List.mem_append.mp hx with z | z
    · exact h.ok.nm x (List.mem_of_mem_drop z)
    · rw [List.mem_singleton.mp z]
      decide +kernel
  · refine List.nodup_append.mpr ⟨h.ok.nd.sublist (List.drop_sublist _ _), List.nodup_cons.mpr ⟨List.not_mem_nil, List.nodup_nil⟩, fun a ha b hb e => ?_⟩
    rw [List.mem_singleton.mp hb] at e
    exact no (e ▸ List.mem_of_mem_drop ha)
  · have := h.ok.few
    unfold strW
    rw [List.length_append, List.length_drop]
    show _ + 1 ≤ 30
    omega
theorem str_ne (no : sevA ∉ ws) : sortO (strW ws) ≠ sortO ws := fun e => by
  have h1 : sevA ∈ sortO (strW ws) := (List.mergeSort_perm _ leO).symm.subset (List.mem_append_right _ List.mem_cons_self)
  rw [e] at h1
  exact no ((List.mergeSort_perm ws leO).subset h1)
theorem flat_told (word dt : Str) : ∀ v ∈ ([.str word, .str dt, .bl true] : List V), flatB v = true := fun v hv => by
  simp only [List.mem_cons, List.not_mem_nil, or_false] at hv
  rcases hv with rfl | rfl | rfl <;> rfl
theorem flat_oth (word : Str) : ∀ v ∈ ([.str word, .bl true] : List V), flatB v = true := fun v hv => by
  simp only [List.mem_cons, List.not_mem_nil, or_false] at hv
  rcases hv with rfl | rfl <;> rfl
theorem asc_wag (nm : Names ws) (asc : Asc ws) (few : ws.length ≤ 30) : WagA ws := ⟨wagsOk nm few, asc⟩
end
section
variable {P : Program} {w : World} {K : PySem.W.Frag} {mg : Str → Option Value} {base : Heap}
def spLaw (K : PySem.W.Frag) (T : List (Addr × Str)) : Sp := fun vs H Q _ => ∃ (a : Addr) (ns : List Int), vs = [.ref a] ∧ SqL K H a (ns.map V.int) ∧ ns.length ≤ 63 ∧ Tabs T H ∧ ∀ H', Q (.bl true) H'
theorem bb_show (b : Bool) : (PyData.list [.bool b, .bool b]).showable = true ∧ (PyData.list [.bool b, .bool b]).depth ≤ 60 ∧ (PyData.list [.bool b, .bool b]).shown.length ≤ sizeLine := by
  cases b <;> exact ⟨by decide +kernel, by decide +kernel, by decide +kernel⟩
theorem ok_law {T : List (Addr × Str)} {f c P1 fR fD fP fS f1 f2 f3 f4 f5 f6 f8 fI C CL CE CN CW CG CQ CA CT dv : Addr} {fd dR dD dP dS d1 d2 d3 d4 d5 d6 d8 dI : FuncData} {ds : List Value} (F : FunC K "law" "law" sLaw f fd c) (B : Glb mg) (mn : mg "min" = none) (TB : TabB base mg c P1) (hm : (P1, qLam) ∈ T) (one : ∀ p ∈ T, p.1 = P1 → p.2 = qLam) (R : RefS K mg CL CE CN CW CG CQ CA CT)
    (FR : Fun K "_law_told" "_law_told" sLTold fR dR) (gR : mg "_law_told" = some (.ref fR)) (kR : PySem.W.keepIn K (.ref fR) = true) (bR : L2.Binds K dR ["call"] []) (D : Draws P w K mg base fD fP fS dD dP dS)
    (C1 : Has P w K mg base 1 "_law_pen" ["script"] (spPen K) f1 d1) (CNm : Has P w K mg base 3 "_law_names" ["pen", "many"] (spLNm K) f2 d2) (CPr : Has P w K mg base 2 "_law_pairs" ["pen", "names"] (spPrs K) f3 d3) (CMv : Has P w K mg base 3 "_law_moved" ["pen", "names", "pairs"] (spMov3 K) f4 d4)
    (CNe : Has P w K mg base 3 "_law_is_near" ["pairs", "others"] spNear3 f5 d5) (CA1 : Has P w K mg base 3 "_law_any_value" ["pen"] (spAny K) f6 d6)
    (GC : FnOk P w K mg base (L2.CX P w) 11 f8 d8 ["one", "other"] (spNbr K C CL CW)) (gC : mg "are_neighbours" = some (.ref f8)) (kC : PySem.W.keepIn K (.ref f8) = true) (bC : L2.Binds K d8 ["one", "other"] [])
    (M : Mk K C fI) (oI : FnOk P w K mg base CX0 7 fI dI ["self", "wagons", "couplings"] (spLay K C)) (gL : mg "Layout" = some (.ref C)) (b0 : L2.Binds K dI ["self", "wagons", "couplings"] []) (bd : L2.Binds K dI ["self", "wagons", "couplings"] ds) (vd : Vals [V.ref dv] ds) (edv : ∀ H : Hp, SqT K H dv []) :
    FnG P w K mg base C8.CX0 14 f fd ["script"] (spLaw K T) := by
  refine F.okG scLaw (fun vs H Q E h => ?_) (fun A outer s H vs Q Ex st hr h => ?_)
  · obtain ⟨a, ns, rfl, _⟩ := h
    rfl
  · obtain ⟨a, ns, rfl, hS, hl, hT, q⟩ := h
    have hr1 := hr.mono (show 1 ≤ 13 by decide)
    have hr2 := hr.mono (show 2 ≤ 13 by decide)
    have hr3 := hr.mono (show 3 ≤ 13 by decide)
    have hr8 := hr.mono (show 8 ≤ 13 by decide)
    have hr11 := hr.mono (show 11 ≤ 13 by decide)
    have sg : Still (A.deeper (envOfC "law" (defScope sLaw) s.heap.objs.size f (.ref c))) := st
    obtain ⟨oc, od, kVv, doc, pm, an, cdv, ct, osl, rfl, lk, hcd⟩ := FR.ex
    have CG0 : Has P w K mg base 11 "are_neighbours" ["one", "other"] (sp0 (spNbr K C CL CW)) f8 d8 := ⟨fnok_to0 GC, gC, kC, bC⟩
    refine ⟨_, pss_cons (ps_set (i := 1) scLaw.nd rfl (.inl rfl) (pe_has C1 hr1 (by rfl) (pa_cons (pv 0) pa_nil)))
      (pss_cons (ps_for PassesOwn.never rfl (pi_range1 (by rfl) B.range (pa_cons (pe_op op_add pe_int (pe_callB (L2.call_min2 rfl) (by rfl) mn (by decide +kernel) (pa_cons pe_int (pa_cons (pe_callB call_len (by rfl) B.len PySem.boot_len (pa_cons (pv 0) pa_nil)) pa_nil)))) pa_nil)) (pg_name (i := 2) scLaw.nd rfl (.inl rfl))
        (pss_cons (ps_set (i := 3) scLaw.nd rfl (.inl rfl) (pe_has CNm hr3 (by rfl) (pa_cons (pv 1) (pa_cons (pe_call D.oD hr1 (by rfl) D.gD D.kD D.bD .nil pass0 (pa_cons (pv 1) (pa_cons (pe_call D.oP hr2 (by rfl) D.gP D.kP D.bP .nil pass0 (pa_cons (pv 1) (pa_cons (pe_lst (pa_cons pe_int (pa_cons pe_int (pa_cons pe_int pa_nil)))) pa_nil))) pa_nil))) pa_nil))))
        (pss_cons (ps_set (i := 4) scLaw.nd rfl (.inl rfl) (pe_has CPr hr2 (by rfl) (pa_cons (pv 1) (pa_cons (pv 3) pa_nil))))
        (pss_cons (ps_set (i := 5) scLaw.nd rfl (.inl rfl) (pe_ifExp (pt_cmpR op_gt (pe_call D.oD hr1 (by rfl) D.gD D.kD D.bD .nil pass0 (pa_cons (pv 1) (pa_cons pe_int pa_nil))) pe_int (nomark _)) (pv 4) (pe_has CPr hr2 (by rfl) (pa_cons (pv 1) (pa_cons (pv 3) pa_nil)))))
        (pss_cons (ps_for PassesOwn.never rfl (pi_range1 (by rfl) B.range (pa_cons (pe_op op_mul (pe_call D.oD hr1 (by rfl) D.gD D.kD D.bD .nil pass0 (pa_cons (pv 1) (pa_cons pe_int pa_nil))) (pe_callTy call_int1 (by rfl) B.int (by decide +kernel) (pa_cons (pe_cmpR (op_neNil hr.units) (pv 3) (pe_lst pa_nil) (nomark _)) pa_nil))) pa_nil)) (pg_name (i := 6) scLaw.nd rfl (.inl rfl))
            (pss_one (ps_set (i := 5) scLaw.nd rfl (.inl rfl) (pe_has CMv hr3 (by rfl) (pa_cons (pv 1) (pa_cons (pv 3) (pa_cons (pv 5) pa_nil)))))))
        (pss_cons (ps_asg (pe_tup (pa_cons (pe_make M oI hr8 (by rfl) gL b0 .nil pass0 (pa_cons (pv 3) (pa_cons (pv 4) pa_nil))) (pa_cons (pe_make M oI hr8 (by rfl) gL b0 .nil pass0 (pa_cons (pv 3) (pa_cons (pv 5) pa_nil))) (pa_cons (pe_has CNe hr3 (by rfl) (pa_cons (pv 4) (pa_cons (pv 5) pa_nil))) pa_nil))))
            (pg_tup rfl (pgs_cons (pg_name (i := 9) scLaw.nd rfl (.inr rfl)) (pgs_cons (pg_name (i := 7) scLaw.nd rfl (.inl rfl)) (pgs_cons (pg_name (i := 8) scLaw.nd rfl (.inl rfl)) pgs_nil)))))
        (pss_cons (ps_if (pt_cmpR op_ne (pe_callB (call_repr sg hr.units) (by rfl) B.repr boot_repr (pa_cons (pe_lst (pa_cons (pe_has CG0 hr11 (by rfl) (pa_cons (pv 9) (pa_cons (pv 7) pa_nil))) (pa_cons (pe_has CG0 hr11 (by rfl) (pa_cons (pv 7) (pa_cons (pv 9) pa_nil))) pa_nil))) pa_nil))
            (pe_callB (call_repr sg hr.units) (by rfl) B.repr boot_repr (pa_cons (pe_lst (pa_cons (pv 8) (pa_cons (pv 8) pa_nil))) pa_nil)) (nomark _)) (pss_one (ps_ret pe_bl)) pss_nil)
        (pss_cons (ps_if (PW.pt (pw_or (pt_cmpR op_notBl (pe_has CG0 hr11 (by rfl) (pa_cons (pv 9) (pa_cons (pv 9) pa_nil))) pe_bl (nomark _))
            (pw_or1 (pt_cmpR op_notBl (pe_has CG0 hr11 (by rfl) (pa_cons (pv 9) (pa_cons (pe_make M oI hr8 (by rfl) gL b0 .nil pass0 (pa_cons (pv 3) (pa_cons (pv 4) pa_nil))) pa_nil))) pe_bl (nomark _))))) (pss_one (ps_ret pe_bl)) pss_nil)
        (pss_cons (ps_asg (pe_tup (pa_cons (pe_make M oI hr8 (by rfl) gL bd vd pass0 (pa_cons (pe_op op_cat (pe_slice sl_list (pv 3) (po_some pe_int) po_none) (pe_lst (pa_cons pe_str pa_nil))) pa_nil)) (pa_cons (pe_has CA1 hr3 (by rfl) (pa_cons (pv 1) pa_nil)) pa_nil)))
            (pg_tup rfl (pgs_cons (pg_name (i := 10) scLaw.nd rfl (.inr rfl)) (pgs_cons (pg_name (i := 11) scLaw.nd rfl (.inr rfl)) pgs_nil))))
        (pss_cons (ps_if (pt_cmpR (op_neS hr.units) (pe_lamcall (T := T) (TT := TTNb K CL CW) (k := 11) (t := fun E => tCallS (spNbr K C CL CW) (fun _ => E) (tCons (tVar 9) (tCons (tVar 10) tNil))) (by rfl) gR kR lk hcd bR scLTold rfl (.inl rfl)
              (told_gives R B.isi B.repr sg hr1) TB rfl hm one hr (lamS_by (sc := defScope sLaw) (by decide +kernel)) rfl (fun _ _ _ _ _ => rfl) (fun A outer s H E f c' hr' => pe_callS GC hr' (by rfl) gC kC bC (fun σ => passAt (takes_of rfl rfl rfl rfl) σ) (pa_cons (pv 9) (pa_cons (pv 10) pa_nil))))
            (pe_tup (pa_cons pe_str (pa_cons pe_bl pa_nil))) (nomark _)) (pss_one (ps_ret pe_bl)) pss_nil)
        (pss_cons (ps_if (pt_cmpR (op_neS hr.units) (pe_lamcall (T := T) (TT := TTNb K CL CW) (k := 11) (t := fun E => tCallS (spNbr K C CL CW) (fun _ => E) (tCons (tVar 11) (tCons (tC .non) tNil))) (by rfl) gR kR lk hcd bR scLTold rfl (.inl rfl)
              (told_gives R B.isi B.repr sg hr1) TB rfl hm one hr (lamS_by (sc := defScope sLaw) (by decide +kernel)) rfl (fun _ _ _ _ _ => rfl) (fun A outer s H E f c' hr' => pe_callS GC hr' (by rfl) gC kC bC (fun σ => passAt (takes_of rfl rfl rfl rfl) σ) (pa_cons (pv 11) (pa_cons pe_non pa_nil))))
            (pe_tup (pa_cons pe_str (pa_cons (pe_callB (call_reprA sg hr.units) (by rfl) B.repr boot_repr (pa_cons (pv 11) pa_nil)) (pa_cons pe_bl pa_nil)))) (nomark _)) (pss_one (ps_ret pe_bl)) pss_nil)
        (pss_one (ps_if (pt_cmpR (op_neS hr.units) (pe_lamcall (T := T) (TT := TTNb K CL CW) (k := 11) (t := fun E => tCallS (spNbr K C CL CW) (fun _ => E) (tCons (tVar 10) (tCons (tVar 11) tNil))) (by rfl) gR kR lk hcd bR scLTold rfl (.inl rfl)
              (told_gives R B.isi B.repr sg hr1) TB rfl hm one hr (lamS_by (sc := defScope sLaw) (by decide +kernel)) rfl (fun _ _ _ _ _ => rfl) (fun A outer s H E f c' hr' => pe_callS GC hr' (by rfl) gC kC bC (fun σ => passAt (takes_of rfl rfl rfl rfl) σ) (pa_cons (pv 10) (pa_cons (pv 11) pa_nil))))
            (pe_tup (pa_cons pe_str (pa_cons (pe_callB (call_reprA sg hr.units) (by rfl) B.repr boot_repr (pa_cons (pv 11) pa_nil)) (pa_cons pe_bl pa_nil)))) (nomark _)) (pss_one (ps_ret pe_bl)) pss_nil)))))))))))))
      (pss_one (ps_ret pe_bl))), ?_⟩
    refine ⟨_, rfl, a, ns, rfl, hS, hl, fun p c0 H0 hp0 s0 G0 => ?_⟩
    have T0 := hT.ext s0
    have hS0 := s0.keeps.l _ _ hS
    refine ⟨_, rfl, .ref a, ns.length, rfl, .inl ⟨_, hS0, by rw [List.length_map]⟩, _, _, rfl, _, _, rfl, rfl, ?_⟩
    obtain ⟨R0, eR0, hR0⟩ : ∃ m : Nat, (4 : Int) + (if (ns.length : Int) < 6 then (ns.length : Int) else 6) = (m : Int) ∧ m ≤ 10 := by
      by_cases z : (ns.length : Int) < 6
      · exact ⟨4 + ns.length, by rw [if_pos z]; omega, by omega⟩
      · exact ⟨10, by rw [if_neg z]; rfl, Nat.le_refl _⟩
    refine ⟨(R0 : Int), by rw [← eR0], by omega, by omega, ?_⟩
    refine for_range (lo := 0) (n := (R0 : Int).toNat) (fun i σ H' => ∃ y2 y3 y4 y5 y6 y7 y8 y9 y10 y11, σ = [some (.ref a), some (.ref p), y2, y3, y4, y5, y6, y7, y8, y9, y10, y11] ∧ PenAt H' p c0 (2000 * i) ∧ Tabs T H') ⟨_, _, _, _, _, _, _, _, _, _, rfl, G0, T0⟩ (fun i σ H hi hp => ?_) (fun σ H hp => q H)
    obtain ⟨y2, y3, y4, y5, y6, y7, y8, y9, y10, y11, rfl, G, hT⟩ := hp
    have hi10 : i < 10 := by omega
    clear hS hS0 s0 G0 T0 hp0
    -- names
    refine ⟨_, rfl, _, rfl, _, rfl, by show 3 ≤ sizeLine; decide, fun o1 ho1 => ?_⟩
    have so := same_new (o := HO.lst [V.int 3, .int 5, .int 31]) ho1
    refine ⟨p, c0, _, .ref o1, [.int 3, .int 5, .int 31], rfl, G.same so, by omega, .lst (.inl (.inl upd_same)), by decide, by decide, fun j v H1 hv s1 G1 => ?_⟩
    obtain ⟨m, rfl, m1, m31⟩ : ∃ m : Nat, v = .int (m : Int) ∧ 1 ≤ m ∧ m ≤ 31 := by
      have := List.mem_of_getElem? hv
      simp only [List.mem_cons, List.not_mem_nil, or_false] at this
      rcases this with rfl | rfl | rfl
      · exact ⟨3, rfl, by decide, by decide⟩
      · exact ⟨5, rfl, by decide, by decide⟩
      · exact ⟨31, rfl, by decide, by decide⟩
    refine ⟨p, c0, _, (m : Int), rfl, G1, by omega, by omega, by omega, fun d H2 d0 d1 s2 G2 => ?_⟩
    obtain ⟨many, rfl⟩ : ∃ k : Nat, d = (k : Int) := ⟨d.toNat, by omega⟩
    refine ⟨p, c0, _, many, rfl, G2, by omega, by omega, fun ln ws H3 nm nz asc len hln eln s3 G3 => ?_⟩
    have T3 := tabs_pen (tabs_pen (tabs_pen (hT.ext so) (G.same so) s1) G1 s2) G2 s3
    have few : ws.length ≤ 30 := by omega
    have wa := asc_wag nm asc few
    have noA := sev_not nz
    have G3 := G3.mono (show 2000 * i + 1 + 1 + 12 ≤ 2000 * i + 20 by omega)
    clear so s1 s2 s3 G G1 G2 hT hln ho1 hv d0 d1 len nz
    -- pairs, others
    refine ⟨_, rfl, _, rfl, p, c0, ln, _, ws, rfl, G3, by omega, .inl (.inl eln), few, asc, nm.nd, fun lp ps H4 hlp pA np s4 G4 => ?_⟩
    have e4 := s4.lst G3 eln
    have T4 := tabs_pen T3 G3 s4
    clear s4 G3 eln T3 hlp
    try dsimp only
    refine seq_split3 (fun σ H' => ∃ (lq : Addr) (qs : List CoupT), σ = [some (.ref a), some (.ref p), some (.int (0 + (i : Int))), some (.ref ln), some (.ref lp), some (.ref lq), y6, y7, y8, y9, y10, y11] ∧ PenAt H' p c0 (2000 * i + 300) ∧ Tabs T H' ∧ H' ln = some (.lst (ws.map V.str)) ∧ PsL H' lp ps ∧ PsL H' lq qs ∧ Nrm ws qs) (fun nx kk => ?_) (fun σ H' hh => ?_)
    · refine ⟨_, rfl, p, c0, _, 6, rfl, G4, by omega, by decide, by decide, fun d6 H5 _ _ s5 G5 => ⟨_, _, rfl, rfl, _, rfl, ?_⟩⟩
      have T5 := tabs_pen T4 G4 s5
      have e5 := s5.lst G4 e4
      have p5 := pA.keepP s5 G4
      cases decide ((0 : Int) < d6) with
      | true => exact iteT ⟨_, rfl, kk _ _ ⟨lp, ps, rfl, G5.mono (by omega), T5, e5, p5, p5, np⟩⟩
      | false =>
        refine iteF ⟨_, rfl, _, rfl, p, c0, ln, _, ws, rfl, G5, by omega, .inl (.inl e5), few, asc, nm.nd, fun lq qs H6 hlq pB nq s6 G6 => ?_⟩
        exact kk _ _ ⟨lq, qs, rfl, G6.mono (by omega), tabs_pen T5 G5 s6, s6.lst G5 e5, p5.keepP s6 G5, pB, nq⟩
    obtain ⟨lq, qs, rfl, G, hT, eN, pA, pB, nq⟩ := hh
    clear G4 T4 e4
    generalize H' = H at G hT eN pA pB
    -- others moved
    refine ⟨_, rfl, p, c0, _, 3, rfl, G, by omega, by decide, by decide, fun d3 H1 d30 d31 s1 G1 => ?_⟩
    have T1 := tabs_pen hT G s1
    have e1 := s1.lst G eN
    have pA1 := pA.keepP s1 G
    have pB1 := pB.keepP s1 G
    clear hT eN pA pB s1 G
    refine ⟨_, rfl, by show 0 ≤ sizeLine; decide, fun b hb => ?_⟩
    have s2 := same_new (o := HO.lst []) hb
    have e2 := s2 _ _ e1
    refine ⟨ln, b, _, rfl, rfl, .inl ⟨.inl (.inl e2), .inl (.inl upd_same)⟩, .inr ⟨_, rfl, ?_⟩⟩
    have T2 := T1.ext s2
    have pA2 := pA1.keep s2
    have pB2 := pB1.keep s2
    have G2 := G1.same s2
    generalize upd H1 b (.lst []) = H2 at e2 T2 pA2 pB2 G2
    clear s2 hb e1 T1 pA1 pB1 G1
    obtain ⟨m3, em3, hm3⟩ : ∃ m3 : Nat, d3 * (if (!(ws.map V.str).isEmpty) = true then (1 : Int) else 0) = (m3 : Int) ∧ m3 ≤ 2 := by
      cases (!(ws.map V.str).isEmpty) with
      | true => exact ⟨d3.toNat, by rw [if_pos rfl]; omega, by omega⟩
      | false => exact ⟨0, by rw [if_neg (by decide)]; omega, by omega⟩
    refine ⟨_, _, rfl, rfl, cmul_l (by omega) (by omega), (m3 : Int), by rw [← em3], by omega, by omega, ?_⟩
    clear em3 d30 d31
    refine for_range (lo := 0) (n := (m3 : Int).toNat) (fun j σ H' => ∃ (lq : Addr) (qs : List CoupT) (y6 : Option V), σ = [some (.ref a), some (.ref p), some (.int (0 + (i : Int))), some (.ref ln), some (.ref lp), some (.ref lq), y6, y7, y8, y9, y10, y11] ∧ PenAt H' p c0 (2000 * i + 400 + 62 * j) ∧ Tabs T H' ∧ H' ln = some (.lst (ws.map V.str)) ∧ PsL H' lp ps ∧ PsL H' lq qs ∧ Nrm ws qs)
      ⟨lq, qs, _, rfl, G2.mono (by omega), T2, e2, pA2, pB2, nq⟩ (fun j σ H3 hj hp => ?_) (fun σ H3 hp => ?_)
    · obtain ⟨lq, qs, y6', rfl, G3, T3, e3, pA3, pB3, nq3⟩ := hp
      refine ⟨_, rfl, _, rfl, _, rfl, p, c0, ln, lq, _, ws, qs, rfl, G3, by omega, .inl (.inl e3), few, nm.nd, pB3, nq3, fun t qs2 H4 ht p4 n4 s4 G4 => ?_⟩
      exact ⟨t, qs2, _, rfl, G4.mono (by omega), tabs_pen T3 G3 s4, s4.lst G3 e3, pA3.keepP s4 G3, p4, n4⟩
    obtain ⟨lq, qs, y6', rfl, G, hT, eN, pA, pB, nq⟩ := hp
    clear G2 T2 e2 pA2 pB2
    generalize H3 = H at G hT eN pA pB
    replace G := G.mono (show 2000 * i + 400 + 62 * (m3 : Int).toNat ≤ 2000 * i + 1000 by omega)
    -- one, other, due
    obtain ⟨us, eA, hA⟩ := id pA
    refine ⟨_, rfl, _, rfl, ?_⟩
    intro x dx hx hdx ndx
    have sI : Same H (upd (upd H dx (.own x)) x (.ins C dx [])) := fun b o e => by rw [upd_ne (ne_of_none e hx), upd_ne (ne_of_none e hdx)]; exact e
    refine ⟨x, dx, ln, lp, us, ps, ws, rfl, upd_same, .inl (.inl (.inl (sI _ _ eN))), wa.ok, .inl (.inl (.inl (sI _ _ eA))), coups_keep sI.tupK hA, np.ok, fun H1 sx lx => ⟨rfl, ?_⟩⟩
    have s1 := same_ins hx hdx sx
    have G1 := G.same s1
    have T1 := hT.ext s1
    have eN1 := s1 _ _ eN
    have pA1 := pA.keep s1
    have pB1 := pB.keep s1
    clear sI sx s1 hx hdx ndx G hT eN pA pB eA hA us
    obtain ⟨us, eB, hB⟩ := id pB1
    refine ⟨_, rfl, _, rfl, ?_⟩
    intro y dy hy hdy ndy
    have sI : Same H1 (upd (upd H1 dy (.own y)) y (.ins C dy [])) := fun b o e => by rw [upd_ne (ne_of_none e hy), upd_ne (ne_of_none e hdy)]; exact e
    refine ⟨y, dy, ln, lq, us, qs, ws, rfl, upd_same, .inl (.inl (.inl (sI _ _ eN1))), wa.ok, .inl (.inl (.inl (sI _ _ eB))), coups_keep sI.tupK hB, nq.ok, fun H2 sy ly => ⟨rfl, ?_⟩⟩
    have s2 := same_ins hy hdy sy
    have W : LwK K T C p c0 (2000 * i + 1000) ln lp lq x y ws ps qs H2 := ⟨G1.same s2, T1.ext s2, s2 _ _ eN1, pA1.keep s2, pB1.keep s2, ⟨lx.sm s2, ly, wa, np, nq⟩⟩
    clear sI sy s2 hy hdy ndy G1 T1 eN1 pA1 pB1 eB hB lx ly us
    refine ⟨_, rfl, _, rfl, lp, lq, ws, ps, qs, rfl, W.A, W.B, np, nq, few, fun H3 s3 => ?_⟩
    replace W := W.keep s3
    refine ⟨by show 3 ≤ sizeLine; decide, fun t ht => ?_⟩
    have s4 := same_new (o := HO.tup [V.ref x, .ref y, .bl (nearB ps qs)]) ht
    replace W := W.keep s4
    refine ⟨t, _, rfl, .inl (.inl upd_same), rfl, _, _, rfl, _, _, rfl, _, _, rfl, rfl, ?_⟩
    generalize upd H3 t (HO.tup [V.ref x, .ref y, .bl (nearB ps qs)]) = H4 at W
    clear s3 s4 ht H3 H2
    -- neighbours
    refine ⟨_, rfl, _, rfl, .inl ⟨x, y, ws, ps, qs, rfl, W.L, fun H5 s5 => ?_⟩⟩
    replace W := W.keep s5
    refine ⟨_, rfl, _, rfl, .inl ⟨y, x, ws, qs, ps, rfl, W.L.flip, fun H6 s6 => ?_⟩⟩
    replace W := W.keep s6
    rw [near_eq np nq]
    generalize nearB ps qs = N
    clear s5 s6
    obtain ⟨b1, b2, b3⟩ := bb_show N
    refine ⟨by show 2 ≤ sizeLine; decide, fun g1 hg1 => ?_⟩
    have s8 := same_new (o := HO.lst [V.bl N, .bl N]) hg1
    replace W := W.keep s8
    refine ⟨.ref g1, .list [.bool N, .bool N], rfl, .lst (.inl (.inl upd_same)) (.cons (.bl _) (.cons (.bl _) .nil)), b1, b2, b3, ?_⟩
    generalize upd H6 g1 (HO.lst [V.bl N, .bl N]) = H8 at W
    clear s8 hg1
    refine ⟨_, rfl, _, rfl, by show 2 ≤ sizeLine; decide, fun g2 hg2 => ?_⟩
    have s9 := same_new (o := HO.lst [V.bl N, .bl N]) hg2
    replace W := W.keep s9
    refine ⟨.ref g2, .list [.bool N, .bool N], rfl, .lst (.inl (.inl upd_same)) (.cons (.bl _) (.cons (.bl _) .nil)), b1, b2, b3, rfl, _, rfl, ?_⟩
    generalize upd H8 g2 (HO.lst [V.bl N, .bl N]) = H9 at W
    clear s9 hg2 H8 H6 H5 H4
    rw [decide_eq_true rfl]
    refine iteF ?_
    -- not its own neighbour
    refine ⟨_, rfl, _, rfl, .inl ⟨x, x, ws, ps, ps, rfl, W.L.one, fun H10 s10 => ⟨_, _, rfl, rfl, _, rfl, ?_⟩⟩⟩
    replace W := W.keep s10
    rw [near_self]
    refine iteF ?_
    clear s10 H9
    obtain ⟨us, eA, hA⟩ := id W.A
    refine ⟨_, rfl, _, rfl, _, rfl, ?_⟩
    intro x2 dx2 hx2 hdx2 ndx2
    have sI : Same H10 (upd (upd H10 dx2 (.own x2)) x2 (.ins C dx2 [])) := fun b o e => by rw [upd_ne (ne_of_none e hx2), upd_ne (ne_of_none e hdx2)]; exact e
    refine ⟨x2, dx2, ln, lp, us, ps, ws, rfl, upd_same, .inl (.inl (.inl (sI _ _ W.N))), wa.ok, .inl (.inl (.inl (sI _ _ eA))), coups_keep sI.tupK hA, np.ok, fun H11 sx2 lx2 => ⟨rfl, ?_⟩⟩
    have s11 := same_ins hx2 hdx2 sx2
    replace W := W.keep s11
    clear sI sx2 s11 hx2 hdx2 ndx2 eA hA us H10
    refine .inl ⟨x, x2, ws, ps, ps, rfl, ⟨W.L.a, lx2, wa, np, np⟩, fun H12 s12 => ⟨_, _, rfl, rfl, _, rfl, ?_⟩⟩
    replace W := W.keep s12
    rw [near_self]
    refine iteF ?_
    clear s12 lx2 H11
    generalize H12 = H9 at W
    -- strange, value
    refine ⟨_, rfl, _, rfl, ln, _, rfl, .inl (.inl W.N), fun c1 hc1 => ?_⟩
    rw [show (1 : Int) = ((1 : Nat) : Int) from rfl, cutV_from, ← List.map_drop]
    have s1 := same_new (o := HO.lst ((ws.drop 1).map V.str)) hc1
    replace W := W.keep s1
    have ec1 : (upd H9 c1 (.lst ((ws.drop 1).map V.str))) c1 = some (.lst ((ws.drop 1).map V.str)) := upd_same
    generalize upd H9 c1 (.lst ((ws.drop 1).map V.str)) = Ha at W ec1
    clear s1 hc1
    refine ⟨by show 1 ≤ sizeLine; decide, fun c2 hc2 => ?_⟩
    have s2 := same_new (o := HO.lst [V.str "aaaaaaaa"]) hc2
    replace W := W.keep s2
    have ec2 : (upd Ha c2 (.lst [V.str "aaaaaaaa"])) c2 = some (.lst [V.str "aaaaaaaa"]) := upd_same
    replace ec1 := s2 _ _ ec1
    refine ⟨c1, c2, _, _, rfl, rfl, ec1, ec2, by rw [List.length_map, List.length_drop, sizeLine_eq]; show _ + 1 ≤ _; omega, fun c3 hc3 => ?_⟩
    generalize upd Ha c2 (.lst [V.str "aaaaaaaa"]) = Hb at W ec1 ec2 hc3
    have eW : (ws.drop 1).map V.str ++ [V.str "aaaaaaaa"] = (strW ws).map V.str := by unfold strW; rw [List.map_append]; rfl
    rw [eW]
    have s3 := same_new (o := HO.lst ((strW ws).map V.str)) hc3
    replace W := W.keep s3
    have ec3 : (upd Hb c3 (.lst ((strW ws).map V.str))) c3 = some (.lst ((strW ws).map V.str)) := upd_same
    generalize upd Hb c3 (.lst ((strW ws).map V.str)) = Hc at W ec3
    clear s2 s3 ec1 ec2 hc2 hc3 Hb Ha
    intro z dz hz hdz ndz
    have sI : Same Hc (upd (upd Hc dz (.own z)) z (.ins C dz [])) := fun b o e => by rw [upd_ne (ne_of_none e hz), upd_ne (ne_of_none e hdz)]; exact e
    have wz := str_wag wa noA
    have nez := str_ne noA
    refine ⟨z, dz, c3, dv, [], [], strW ws, rfl, upd_same, .inl (.inl (.inl (sI _ _ ec3))), wz, .inr (edv _), .nil, pairs_nil _, fun H1 sz lz => ⟨rfl, ?_⟩⟩
    have s1 := same_ins hz hdz sz
    replace W := W.keep s1
    clear sI sz s1 hz hdz ndz ec3 Hc H9
    refine ⟨_, rfl, p, c0, _, rfl, W.G, by omega, fun v H2 pv s2 G2 => ?_⟩
    obtain ⟨d, D, gm⟩ := pv
    have keepG : ∀ {b : Addr} {o : HO}, H1 b = some o → (∀ kvs, o ≠ .dK kvs) → H2 b = some o := fun e nk => s2 _ _ (fun z => by obtain ⟨ns, t, r, e1, _⟩ := W.G.ex; rw [z, e1] at e; exact nk _ (Option.some.inj e).symm) e
    have lk2 : ∀ {x : Addr} {ws : List Str} {ps : List CoupT}, LayAt K C H1 x ws ps → LayAt K C H2 x ws ps := fun l => l.keep (K := K) (s2.keeps W.G).t (s2.tupK W.G) (fun _ _ e => keepG e fun _ z => nomatch z) (fun _ _ e => keepG e fun _ z => nomatch z)
    have U : LwZ K T C p c0 (2000 * i + 1001) ln lp lq x y z ws (strW ws) ps qs v d H2 := ⟨⟨G2, tabs_pen W.T W.G s2, s2.lst W.G W.N, W.A.keepP s2 W.G, W.B.keepP s2 W.G, ⟨lk2 W.L.a, lk2 W.L.b, wa, np, nq⟩⟩, lk2 lz, D⟩
    clear W lz lk2 keepG s2 G2 D
    refine ⟨by show 2 ≤ sizeLine; decide, fun t ht => ?_⟩
    have s3 := same_new (o := HO.tup [V.ref z, v]) ht
    replace U := U.keep s3
    refine ⟨t, _, rfl, .inl (.inl upd_same), rfl, _, _, rfl, _, _, rfl, rfl, ?_⟩
    generalize upd H2 t (HO.tup [V.ref z, v]) = H3 at U
    clear s3 ht
    have shw : ∀ {Hx : Hp}, Da K p Hx v d → Shw K Hx v d := fun z => ⟨⟨p, z⟩, gm.sh, Nat.le_trans gm.dp (by decide), gm.short (by decide)⟩
    -- change(one, strange)
    refine ⟨U.W.T, fun H4 e4 T4 Q' hQ' => ⟨_, rfl, _, rfl, .inr ⟨⟨_, _, rfl⟩, fun H5 s5 => ?_⟩⟩⟩
    replace U := (U.ext e4 T4).keep s5
    refine ⟨[(x, ws, ps), (z, strW ws, [])], [], sortO ws, rfl, by show 2 ≤ 1000; decide, fun l hl => ?_, fun l e => by cases e; rfl, .inr ⟨rfl, fun al => absurd (al (z, strW ws, []) (List.mem_cons_of_mem _ List.mem_cons_self)) nez, fun _ H6 s6 => .inl ⟨rfl, rfl, fun t H7 s7 et => ?_⟩⟩⟩
    · rcases List.mem_cons.mp hl with rfl | hl
      · exact U.W.L.a
      · rw [List.mem_singleton.mp hl]
        exact U.Z
    replace U := U.keep (s6.trans s7)
    clear s5 s6 s7 hQ' e4 T4
    refine ⟨by show 2 ≤ sizeLine; decide, fun t5 h5 => ?_⟩
    have s8 := same_new (o := HO.tup [V.str "other", .bl true]) h5
    refine ⟨.inr ⟨t, t5, _, rfl, rfl, .inl (.inl (s8 _ _ et)), .inl (.inl upd_same), flat_oth _⟩, _, rfl, iteF ?_⟩
    replace U := U.keep s8
    generalize upd H7 t5 (HO.tup [V.str "other", .bl true]) = H8 at U
    clear et h5 s8
    -- change(value, None)
    refine ⟨U.W.T, fun H4 e4 T4 Q' hQ' => ⟨_, rfl, .inr ⟨⟨_, _, rfl⟩, fun H5 s5 => ?_⟩⟩⟩
    replace U := (U.ext e4 T4).keep s5
    refine ⟨[], [v, .non], [], rfl, by show 2 ≤ 1000; decide, (fun l hl => nomatch hl), (fun l e => nomatch e), .inl ⟨v, _, p, d, rfl, U.D, fun dd H6 s6 hn ed => .inr ⟨dd, v, d, rfl, rfl, ed, shw (U.keep s6).D, fun t H7 s7 et => ?_⟩⟩⟩
    replace U := U.keep (s6.trans s7)
    clear s5 s6 s7 hQ' e4 T4 ed hn
    refine ⟨_, rfl, p, v, d, rfl, U.D, gm.sh, Nat.le_trans gm.dp (by decide), gm.short (by decide), by show 3 ≤ sizeLine; decide, fun t5 h5 => ?_⟩
    have s8 := same_new (o := HO.tup [V.str "layout", .str d.shown, .bl true]) h5
    refine ⟨.inr ⟨t, t5, _, rfl, rfl, .inl (.inl (s8 _ _ et)), .inl (.inl upd_same), flat_told _ _⟩, _, rfl, iteF ?_⟩
    replace U := U.keep s8
    generalize upd H7 t5 (HO.tup [V.str "layout", .str d.shown, .bl true]) = H9 at U
    clear et h5 s8
    -- change(strange, value)
    refine ⟨U.W.T, fun H4 e4 T4 Q' hQ' => ⟨_, rfl, _, rfl, .inr ⟨⟨_, _, rfl⟩, fun H5 s5 => ?_⟩⟩⟩
    replace U := (U.ext e4 T4).keep s5
    refine ⟨[(z, strW ws, [])], [v], sortO (strW ws), rfl, by show 2 ≤ 1000; decide, (fun l hl => by rw [List.mem_singleton.mp hl]; exact U.Z), (fun l e => by cases e; rfl), .inl ⟨v, _, p, d, rfl, U.D, fun dd H6 s6 hn ed => .inr ⟨dd, v, d, rfl, rfl, ed, shw (U.keep s6).D, fun t H7 s7 et => ?_⟩⟩⟩
    replace U := U.keep (s6.trans s7)
    clear s5 s6 s7 hQ' e4 T4 ed hn
    refine ⟨_, rfl, p, v, d, rfl, U.D, gm.sh, Nat.le_trans gm.dp (by decide), gm.short (by decide), by show 3 ≤ sizeLine; decide, fun t5 h5 => ?_⟩
    have s8 := same_new (o := HO.tup [V.str "layout", .str d.shown, .bl true]) h5
    refine ⟨.inr ⟨t, t5, _, rfl, rfl, .inl (.inl (s8 _ _ et)), .inl (.inl upd_same), flat_told _ _⟩, _, rfl, iteF ?_⟩
    replace U := U.keep s8
    generalize upd H7 t5 (HO.tup [V.str "layout", .str d.shown, .bl true]) = H10 at U
    clear et h5 s8
    exact ⟨_, _, _, _, _, _, _, _, _, _, rfl, U.W.G.mono (by omega), U.W.T⟩
end
end My
set_option Elab.async false
set_option linter.all false
set_option maxRecDepth 100000
set_option maxHeartbeats 4000000
namespace My
open PySem PySem.Spec PyProof.Rows L2 NdefX
/-! ### what the top has written -/
theorem all_mk {l : PySem.W.OpenLaw} {w : World} {K : PySem.W.Frag} {h : Heap} {mg : Str → Option Value} {fa f1 f2 f3 f4 f5 f6 f7 f8 f9 f10 f11 f12 f13 f14 f15 f16 f17 f18 f19 f20 f21 f22 f23 f24 f25 f26 f27 f28 f29 f30 f31 f32 f33 co33 P33 CA fiA dvA ppAwagons pgAwagons ppAcouplings pgAcouplings fmA__contains__ fmA__getitem__ fmA__eq__ CS fiS CY fiY coY ccY fmY__call__ CZ fiZ coZ ccZ fmZ__call__ CL fiL CW CE fiE CG fiG CN CQ CJ CT : Addr} {t1 t2 t3 : Tok} (X : K.In h) (G : h.Ns mainGlobals mg) (hfa : mg "law" = some (.ref fa))
    {prAwagons prAcouplings : List Value}
    {od1 an1 od2 an2 od3 an3 od4 an4 od5 an5 od6 an6 od7 an7 od8 an8 od9 an9 od10 an10 od11 an11 od12 an12 od13 an13 od14 an14 od15 an15 od16 an16 od17 an17 od18 an18 od19 an19 od20 an20 od21 an21 od22 an22 od23 an23 od24 an24 od25 an25 od26 an26 od27 an27 od28 an28 od29 an29 od30 an30 od31 an31 od32 an32 od33 an33 odpAwagons anpAwagons odpAcouplings anpAcouplings odmA__contains__ anmA__contains__ odmA__getitem__ anmA__getitem__ odmA__eq__ anmA__eq__ odiS aniS odiY aniY odmY__call__ anmY__call__ odiZ aniZ odmZ__call__ anmZ__call__ odiL aniL odiE aniE odiG aniG : Option Addr} {sl1 sl2 sl3 sl4 sl5 sl6 sl7 sl8 sl9 sl10 sl11 sl12 sl13 sl14 sl15 sl16 sl17 sl18 sl19 sl20 sl21 sl22 sl23 sl24 sl25 sl26 sl27 sl28 sl29 sl30 sl31 sl32 sl33 slpAwagons slpAcouplings slmA__contains__ slmA__getitem__ slmA__eq__ sliS sliY slmY__call__ sliZ slmZ__call__ sliL sliE sliG : Array (Option Value)} {oc1 kV1 dc1 pm1 cd1 ct1 oc2 kV2 dc2 pm2 cd2 ct2 oc3 kV3 dc3 pm3 cd3 ct3 oc4 kV4 dc4 pm4 cd4 ct4 oc5 kV5 dc5 pm5 cd5 ct5 oc6 kV6 dc6 pm6 cd6 ct6 oc7 kV7 dc7 pm7 cd7 ct7 oc8 kV8 dc8 pm8 cd8 ct8 oc9 kV9 dc9 pm9 cd9 ct9 oc10 kV10 dc10 pm10 cd10 ct10 oc11 kV11 dc11 pm11 cd11 ct11 oc12 kV12 dc12 pm12 cd12 ct12 oc13 kV13 dc13 pm13 cd13 ct13 oc14 kV14 dc14 pm14 cd14 ct14 oc15 kV15 dc15 pm15 cd15 ct15 oc16 kV16 dc16 pm16 cd16 ct16 oc17 kV17 dc17 pm17 cd17 ct17 oc18 kV18 dc18 pm18 cd18 ct18 oc19 kV19 dc19 pm19 cd19 ct19 oc20 kV20 dc20 pm20 cd20 ct20 oc21 kV21 dc21 pm21 cd21 ct21 oc22 kV22 dc22 pm22 cd22 ct22 oc23 kV23 dc23 pm23 cd23 ct23 oc24 kV24 dc24 pm24 cd24 ct24 oc25 kV25 dc25 pm25 cd25 ct25 oc26 kV26 dc26 pm26 cd26 ct26 oc27 kV27 dc27 pm27 cd27 ct27 oc28 kV28 dc28 pm28 cd28 ct28 oc29 kV29 dc29 pm29 cd29 ct29 oc30 kV30 dc30 pm30 cd30 ct30 oc31 kV31 dc31 pm31 cd31 ct31 oc32 kV32 dc32 pm32 cd32 ct32 oc33 kV33 dc33 pm33 ct33 ocpAwagons kVpAwagons dcpAwagons pmpAwagons cdpAwagons ctpAwagons ocpAcouplings kVpAcouplings dcpAcouplings pmpAcouplings cdpAcouplings ctpAcouplings ocmA__contains__ kVmA__contains__ dcmA__contains__ pmmA__contains__ cdmA__contains__ ctmA__contains__ ocmA__getitem__ kVmA__getitem__ dcmA__getitem__ pmmA__getitem__ cdmA__getitem__ ctmA__getitem__ ocmA__eq__ kVmA__eq__ dcmA__eq__ pmmA__eq__ cdmA__eq__ ctmA__eq__ ociS kViS dciS pmiS cdiS ctiS ociY kViY dciY pmiY ctiY ocmY__call__ kVmY__call__ dcmY__call__ pmmY__call__ cdmY__call__ ctmY__call__ ociZ kViZ dciZ pmiZ ctiZ ocmZ__call__ kVmZ__call__ dcmZ__call__ pmmZ__call__ cdmZ__call__ ctmZ__call__ ociL kViL dciL pmiL cdiL ctiL ociE kViE dciE pmiE cdiE ctiE ociG kViG dciG pmiG cdiG ctiG : Value}
    (a1 : PySem.W.nsIn K mainGlobals "is_integer" = some (some (.ref f1)))
    (l1 : K.lookup f1 = some ⟨oc1, od1, .func (PySem.W.fnOf "is_integer" "is_integer" (defArgs sIsInt) (defBody sIsInt) (defScope sIsInt) .none kV1 dc1 pm1 an1 cd1 ct1), sl1⟩)
    (c1 : PySem.W.codeIn K cd1 "is_integer" = true)
    (k1 : PySem.W.keepIn K (.ref f1) = true)
    (a2 : PySem.W.nsIn K mainGlobals "is_name" = some (some (.ref f2)))
    (l2 : K.lookup f2 = some ⟨oc2, od2, .func (PySem.W.fnOf "is_name" "is_name" (defArgs sIsName) (defBody sIsName) (defScope sIsName) .none kV2 dc2 pm2 an2 cd2 ct2), sl2⟩)
    (c2 : PySem.W.codeIn K cd2 "is_name" = true)
    (k2 : PySem.W.keepIn K (.ref f2) = true)
    (a3 : PySem.W.nsIn K mainGlobals "is_name_with" = some (some (.ref f3)))
    (l3 : K.lookup f3 = some ⟨oc3, od3, .func (PySem.W.fnOf "is_name_with" "is_name_with" (defArgs sIsWith) (defBody sIsWith) (defScope sIsWith) .none kV3 dc3 pm3 an3 cd3 ct3), sl3⟩)
    (c3 : PySem.W.codeIn K cd3 "is_name_with" = true)
    (k3 : PySem.W.keepIn K (.ref f3) = true)
    (a4 : PySem.W.nsIn K mainGlobals "is_end" = some (some (.ref f4)))
    (l4 : K.lookup f4 = some ⟨oc4, od4, .func (PySem.W.fnOf "is_end" "is_end" (defArgs sIsEnd) (defBody sIsEnd) (defScope sIsEnd) .none kV4 dc4 pm4 an4 cd4 ct4), sl4⟩)
    (c4 : PySem.W.codeIn K cd4 "is_end" = true)
    (k4 : PySem.W.keepIn K (.ref f4) = true)
    (a5 : PySem.W.nsIn K mainGlobals "is_name_list" = some (some (.ref f5)))
    (l5 : K.lookup f5 = some ⟨oc5, od5, .func (PySem.W.fnOf "is_name_list" "is_name_list" (defArgs sIsNameList) (defBody sIsNameList) (defScope sIsNameList) .none kV5 dc5 pm5 an5 cd5 ct5), sl5⟩)
    (c5 : PySem.W.codeIn K cd5 "is_name_list" = true)
    (k5 : PySem.W.keepIn K (.ref f5) = true)
    (a6 : PySem.W.nsIn K mainGlobals "ends_of" = some (some (.ref f6)))
    (l6 : K.lookup f6 = some ⟨oc6, od6, .func (PySem.W.fnOf "ends_of" "ends_of" (defArgs sEndsOf) (defBody sEndsOf) (defScope sEndsOf) .none kV6 dc6 pm6 an6 cd6 ct6), sl6⟩)
    (c6 : PySem.W.codeIn K cd6 "ends_of" = true)
    (k6 : PySem.W.keepIn K (.ref f6) = true)
    (a7 : PySem.W.nsIn K mainGlobals "is_end_pair" = some (some (.ref f7)))
    (l7 : K.lookup f7 = some ⟨oc7, od7, .func (PySem.W.fnOf "is_end_pair" "is_end_pair" (defArgs sIsEndPair) (defBody sIsEndPair) (defScope sIsEndPair) .none kV7 dc7 pm7 an7 cd7 ct7), sl7⟩)
    (c7 : PySem.W.codeIn K cd7 "is_end_pair" = true)
    (k7 : PySem.W.keepIn K (.ref f7) = true)
    (a8 : PySem.W.nsIn K mainGlobals "can_be_added" = some (some (.ref f8)))
    (l8 : K.lookup f8 = some ⟨oc8, od8, .func (PySem.W.fnOf "can_be_added" "can_be_added" (defArgs sCanBeAdded) (defBody sCanBeAdded) (defScope sCanBeAdded) .none kV8 dc8 pm8 an8 cd8 ct8), sl8⟩)
    (c8 : PySem.W.codeIn K cd8 "can_be_added" = true)
    (k8 : PySem.W.keepIn K (.ref f8) = true)
    (a9 : PySem.W.nsIn K mainGlobals "partners_by" = some (some (.ref f9)))
    (l9 : K.lookup f9 = some ⟨oc9, od9, .func (PySem.W.fnOf "partners_by" "partners_by" (defArgs sPartnersBy) (defBody sPartnersBy) (defScope sPartnersBy) .none kV9 dc9 pm9 an9 cd9 ct9), sl9⟩)
    (c9 : PySem.W.codeIn K cd9 "partners_by" = true)
    (k9 : PySem.W.keepIn K (.ref f9) = true)
    (a10 : PySem.W.nsIn K mainGlobals "check_layout" = some (some (.ref f10)))
    (l10 : K.lookup f10 = some ⟨oc10, od10, .func (PySem.W.fnOf "check_layout" "check_layout" (defArgs sCheckLayout) (defBody sCheckLayout) (defScope sCheckLayout) .none kV10 dc10 pm10 an10 cd10 ct10), sl10⟩)
    (c10 : PySem.W.codeIn K cd10 "check_layout" = true)
    (k10 : PySem.W.keepIn K (.ref f10) = true)
    (a11 : PySem.W.nsIn K mainGlobals "check_same_wagons" = some (some (.ref f11)))
    (l11 : K.lookup f11 = some ⟨oc11, od11, .func (PySem.W.fnOf "check_same_wagons" "check_same_wagons" (defArgs sCheckSameWagons) (defBody sCheckSameWagons) (defScope sCheckSameWagons) .none kV11 dc11 pm11 an11 cd11 ct11), sl11⟩)
    (c11 : PySem.W.codeIn K cd11 "check_same_wagons" = true)
    (k11 : PySem.W.keepIn K (.ref f11) = true)
    (a12 : PySem.W.nsIn K mainGlobals "difference" = some (some (.ref f12)))
    (l12 : K.lookup f12 = some ⟨oc12, od12, .func (PySem.W.fnOf "difference" "difference" (defArgs sDifference) (defBody sDifference) (defScope sDifference) .none kV12 dc12 pm12 an12 cd12 ct12), sl12⟩)
    (c12 : PySem.W.codeIn K cd12 "difference" = true)
    (k12 : PySem.W.keepIn K (.ref f12) = true)
    (a13 : PySem.W.nsIn K mainGlobals "names_of" = some (some (.ref f13)))
    (l13 : K.lookup f13 = some ⟨oc13, od13, .func (PySem.W.fnOf "names_of" "names_of" (defArgs sNames) (defBody sNames) (defScope sNames) .none kV13 dc13 pm13 an13 cd13 ct13), sl13⟩)
    (c13 : PySem.W.codeIn K cd13 "names_of" = true)
    (k13 : PySem.W.keepIn K (.ref f13) = true)
    (a14 : PySem.W.nsIn K mainGlobals "check_wagons" = some (some (.ref f14)))
    (l14 : K.lookup f14 = some ⟨oc14, od14, .func (PySem.W.fnOf "check_wagons" "check_wagons" (defArgs sCheckWagons) (defBody sCheckWagons) (defScope sCheckWagons) .none kV14 dc14 pm14 an14 cd14 ct14), sl14⟩)
    (c14 : PySem.W.codeIn K cd14 "check_wagons" = true)
    (k14 : PySem.W.keepIn K (.ref f14) = true)
    (a15 : PySem.W.nsIn K mainGlobals "relinked" = some (some (.ref f15)))
    (l15 : K.lookup f15 = some ⟨oc15, od15, .func (PySem.W.fnOf "relinked" "relinked" (defArgs sRelinked) (defBody sRelinked) (defScope sRelinked) .none kV15 dc15 pm15 an15 cd15 ct15), sl15⟩)
    (c15 : PySem.W.codeIn K cd15 "relinked" = true)
    (k15 : PySem.W.keepIn K (.ref f15) = true)
    (a16 : PySem.W.nsIn K mainGlobals "step_towards" = some (some (.ref f16)))
    (l16 : K.lookup f16 = some ⟨oc16, od16, .func (PySem.W.fnOf "step_towards" "step_towards" (defArgs sStepTowards) (defBody sStepTowards) (defScope sStepTowards) .none kV16 dc16 pm16 an16 cd16 ct16), sl16⟩)
    (c16 : PySem.W.codeIn K cd16 "step_towards" = true)
    (k16 : PySem.W.keepIn K (.ref f16) = true)
    (a17 : PySem.W.nsIn K mainGlobals "are_neighbours" = some (some (.ref f17)))
    (l17 : K.lookup f17 = some ⟨oc17, od17, .func (PySem.W.fnOf "are_neighbours" "are_neighbours" (defArgs sAreNeighbours) (defBody sAreNeighbours) (defScope sAreNeighbours) .none kV17 dc17 pm17 an17 cd17 ct17), sl17⟩)
    (c17 : PySem.W.codeIn K cd17 "are_neighbours" = true)
    (k17 : PySem.W.keepIn K (.ref f17) = true)
    (a18 : PySem.W.nsIn K mainGlobals "_law_pen" = some (some (.ref f18)))
    (l18 : K.lookup f18 = some ⟨oc18, od18, .func (PySem.W.fnOf "_law_pen" "_law_pen" (defArgs sPen) (defBody sPen) (defScope sPen) .none kV18 dc18 pm18 an18 cd18 ct18), sl18⟩)
    (c18 : PySem.W.codeIn K cd18 "_law_pen" = true)
    (k18 : PySem.W.keepIn K (.ref f18) = true)
    (a19 : PySem.W.nsIn K mainGlobals "_law_draw" = some (some (.ref f19)))
    (l19 : K.lookup f19 = some ⟨oc19, od19, .func (PySem.W.fnOf "_law_draw" "_law_draw" (defArgs sDraw) (defBody sDraw) (defScope sDraw) .none kV19 dc19 pm19 an19 cd19 ct19), sl19⟩)
    (c19 : PySem.W.codeIn K cd19 "_law_draw" = true)
    (k19 : PySem.W.keepIn K (.ref f19) = true)
    (a20 : PySem.W.nsIn K mainGlobals "_law_pick" = some (some (.ref f20)))
    (l20 : K.lookup f20 = some ⟨oc20, od20, .func (PySem.W.fnOf "_law_pick" "_law_pick" (defArgs sPick) (defBody sPick) (defScope sPick) .none kV20 dc20 pm20 an20 cd20 ct20), sl20⟩)
    (c20 : PySem.W.codeIn K cd20 "_law_pick" = true)
    (k20 : PySem.W.keepIn K (.ref f20) = true)
    (a21 : PySem.W.nsIn K mainGlobals "_law_shuffled" = some (some (.ref f21)))
    (l21 : K.lookup f21 = some ⟨oc21, od21, .func (PySem.W.fnOf "_law_shuffled" "_law_shuffled" (defArgs sShuf) (defBody sShuf) (defScope sShuf) .none kV21 dc21 pm21 an21 cd21 ct21), sl21⟩)
    (c21 : PySem.W.codeIn K cd21 "_law_shuffled" = true)
    (k21 : PySem.W.keepIn K (.ref f21) = true)
    (a22 : PySem.W.nsIn K mainGlobals "_law_names" = some (some (.ref f22)))
    (l22 : K.lookup f22 = some ⟨oc22, od22, .func (PySem.W.fnOf "_law_names" "_law_names" (defArgs sLNames) (defBody sLNames) (defScope sLNames) .none kV22 dc22 pm22 an22 cd22 ct22), sl22⟩)
    (c22 : PySem.W.codeIn K cd22 "_law_names" = true)
    (k22 : PySem.W.keepIn K (.ref f22) = true)
    (a23 : PySem.W.nsIn K mainGlobals "_law_ends" = some (some (.ref f23)))
    (l23 : K.lookup f23 = some ⟨oc23, od23, .func (PySem.W.fnOf "_law_ends" "_law_ends" (defArgs sLEnds) (defBody sLEnds) (defScope sLEnds) .none kV23 dc23 pm23 an23 cd23 ct23), sl23⟩)
    (c23 : PySem.W.codeIn K cd23 "_law_ends" = true)
    (k23 : PySem.W.keepIn K (.ref f23) = true)
    (a24 : PySem.W.nsIn K mainGlobals "_law_pairs" = some (some (.ref f24)))
    (l24 : K.lookup f24 = some ⟨oc24, od24, .func (PySem.W.fnOf "_law_pairs" "_law_pairs" (defArgs sLPairs) (defBody sLPairs) (defScope sLPairs) .none kV24 dc24 pm24 an24 cd24 ct24), sl24⟩)
    (c24 : PySem.W.codeIn K cd24 "_law_pairs" = true)
    (k24 : PySem.W.keepIn K (.ref f24) = true)
    (a25 : PySem.W.nsIn K mainGlobals "_law_partner" = some (some (.ref f25)))
    (l25 : K.lookup f25 = some ⟨oc25, od25, .func (PySem.W.fnOf "_law_partner" "_law_partner" (defArgs sLPartner) (defBody sLPartner) (defScope sLPartner) .none kV25 dc25 pm25 an25 cd25 ct25), sl25⟩)
    (c25 : PySem.W.codeIn K cd25 "_law_partner" = true)
    (k25 : PySem.W.keepIn K (.ref f25) = true)
    (a26 : PySem.W.nsIn K mainGlobals "_law_pair" = some (some (.ref f26)))
    (l26 : K.lookup f26 = some ⟨oc26, od26, .func (PySem.W.fnOf "_law_pair" "_law_pair" (defArgs sLPair) (defBody sLPair) (defScope sLPair) .none kV26 dc26 pm26 an26 cd26 ct26), sl26⟩)
    (c26 : PySem.W.codeIn K cd26 "_law_pair" = true)
    (k26 : PySem.W.keepIn K (.ref f26) = true)
    (a27 : PySem.W.nsIn K mainGlobals "_law_coupled" = some (some (.ref f27)))
    (l27 : K.lookup f27 = some ⟨oc27, od27, .func (PySem.W.fnOf "_law_coupled" "_law_coupled" (defArgs sLCoupled) (defBody sLCoupled) (defScope sLCoupled) .none kV27 dc27 pm27 an27 cd27 ct27), sl27⟩)
    (c27 : PySem.W.codeIn K cd27 "_law_coupled" = true)
    (k27 : PySem.W.keepIn K (.ref f27) = true)
    (a28 : PySem.W.nsIn K mainGlobals "_law_cut" = some (some (.ref f28)))
    (l28 : K.lookup f28 = some ⟨oc28, od28, .func (PySem.W.fnOf "_law_cut" "_law_cut" (defArgs sLCut) (defBody sLCut) (defScope sLCut) .none kV28 dc28 pm28 an28 cd28 ct28), sl28⟩)
    (c28 : PySem.W.codeIn K cd28 "_law_cut" = true)
    (k28 : PySem.W.keepIn K (.ref f28) = true)
    (a29 : PySem.W.nsIn K mainGlobals "_law_any_value" = some (some (.ref f29)))
    (l29 : K.lookup f29 = some ⟨oc29, od29, .func (PySem.W.fnOf "_law_any_value" "_law_any_value" (defArgs sLAnyValue) (defBody sLAnyValue) (defScope sLAnyValue) .none kV29 dc29 pm29 an29 cd29 ct29), sl29⟩)
    (c29 : PySem.W.codeIn K cd29 "_law_any_value" = true)
    (k29 : PySem.W.keepIn K (.ref f29) = true)
    (a30 : PySem.W.nsIn K mainGlobals "_law_moved" = some (some (.ref f30)))
    (l30 : K.lookup f30 = some ⟨oc30, od30, .func (PySem.W.fnOf "_law_moved" "_law_moved" (defArgs sLMoved) (defBody sLMoved) (defScope sLMoved) .none kV30 dc30 pm30 an30 cd30 ct30), sl30⟩)
    (c30 : PySem.W.codeIn K cd30 "_law_moved" = true)
    (k30 : PySem.W.keepIn K (.ref f30) = true)
    (a31 : PySem.W.nsIn K mainGlobals "_law_is_near" = some (some (.ref f31)))
    (l31 : K.lookup f31 = some ⟨oc31, od31, .func (PySem.W.fnOf "_law_is_near" "_law_is_near" (defArgs sLIsNear) (defBody sLIsNear) (defScope sLIsNear) .none kV31 dc31 pm31 an31 cd31 ct31), sl31⟩)
    (c31 : PySem.W.codeIn K cd31 "_law_is_near" = true)
    (k31 : PySem.W.keepIn K (.ref f31) = true)
    (a32 : PySem.W.nsIn K mainGlobals "_law_told" = some (some (.ref f32)))
    (l32 : K.lookup f32 = some ⟨oc32, od32, .func (PySem.W.fnOf "_law_told" "_law_told" (defArgs sLTold) (defBody sLTold) (defScope sLTold) .none kV32 dc32 pm32 an32 cd32 ct32), sl32⟩)
    (c32 : PySem.W.codeIn K cd32 "_law_told" = true)
    (k32 : PySem.W.keepIn K (.ref f32) = true)
    (a33 : PySem.W.nsIn K mainGlobals "law" = some (some (.ref f33)))
    (l33 : K.lookup f33 = some ⟨oc33, od33, .func (PySem.W.fnOf "law" "law" (defArgs sLaw) (defBody sLaw) (defScope sLaw) .none kV33 dc33 pm33 an33 (.ref co33) ct33), sl33⟩)
    (c33 : PySem.W.codeIn K (.ref co33) "law" = true)
    (k33 : PySem.W.keepIn K (.ref f33) = true)
    (x333 : PySem.W.codeHdIn K co33 P33 = true)
    (x433 : K.lookup P33 = none)
    (x533 : h.get? P33 = some (PySem.W.tabObj #[]))
    (caA : PySem.W.nsIn K mainGlobals "Layout" = some (some (.ref CA)))
    (pgA : PySem.W.plainGet K CA Str.empty = true)
    (hdA : PySem.W.hasDictIn K CA = true)
    (poA : PySem.W.plainOver K CA = true)
    (saA : PySem.W.findIn K (.ref CA) "__setattr__" = some (some (.builtin "object.__setattr__")))
    (noA0 : PySem.W.findIn K (.ref CA) "_wagons" = some none)
    (noA1 : PySem.W.findIn K (.ref CA) "_couplings" = some none)
    (noA2 : PySem.W.findIn K (.ref CA) "_free" = some none)
    (noA3 : PySem.W.findIn K (.ref CA) "_partners" = some none)
    (mkA : PySem.W.makesIn K CA = true)
    (inA : PySem.W.findIn K (.ref CA) "__init__" = some (some (.ref fiA)))
    (fnA : PySem.W.isFn K (.ref fiA) = true)
    (kpA : PySem.W.keepIn K (.ref CA) = true)
    (fdA : ∃ fd : FuncData, FunD K "__init__" "Layout.__init__" (defArgs sLayoutInit) (defBody sLayoutInit) (defScope sLayoutInit) [V.ref dvA] [] fiA fd)
    (etA : Hm.tupEmp K dvA = true)
    (paAwagons : PySem.W.findIn K (.ref CA) "wagons" = some (some (.ref ppAwagons)))
    (pbAwagons : PySem.W.specialIn K (.ref ppAwagons) "__get__" = some (some (.builtin "property.__get__")))
    (pcAwagons : PySem.W.takesIn K (.ref ppAwagons) = some true)
    (pdAwagons : PySem.W.recIn K ppAwagons "property" = some (.ref pgAwagons :: prAwagons))
    (lpAwagons : K.lookup pgAwagons = some ⟨ocpAwagons, odpAwagons, .func (PySem.W.fnOf "wagons" "Layout.wagons" (defArgs sLayoutWagons) (defBody sLayoutWagons) (defScope sLayoutWagons) .none kVpAwagons dcpAwagons pmpAwagons anpAwagons cdpAwagons ctpAwagons), slpAwagons⟩)
    (cpAwagons : PySem.W.codeIn K cdpAwagons "Layout.wagons" = true)
    (kpAwagons : PySem.W.keepIn K (.ref pgAwagons) = true)
    (paAcouplings : PySem.W.findIn K (.ref CA) "couplings" = some (some (.ref ppAcouplings)))
    (pbAcouplings : PySem.W.specialIn K (.ref ppAcouplings) "__get__" = some (some (.builtin "property.__get__")))
    (pcAcouplings : PySem.W.takesIn K (.ref ppAcouplings) = some true)
    (pdAcouplings : PySem.W.recIn K ppAcouplings "property" = some (.ref pgAcouplings :: prAcouplings))
    (lpAcouplings : K.lookup pgAcouplings = some ⟨ocpAcouplings, odpAcouplings, .func (PySem.W.fnOf "couplings" "Layout.couplings" (defArgs sLayoutCouplings) (defBody sLayoutCouplings) (defScope sLayoutCouplings) .none kVpAcouplings dcpAcouplings pmpAcouplings anpAcouplings cdpAcouplings ctpAcouplings), slpAcouplings⟩)
    (cpAcouplings : PySem.W.codeIn K cdpAcouplings "Layout.couplings" = true)
    (kpAcouplings : PySem.W.keepIn K (.ref pgAcouplings) = true)
    (maA__contains__ : PySem.W.findIn K (.ref CA) "__contains__" = some (some (.ref fmA__contains__)))
    (mfA__contains__ : PySem.W.isFn K (.ref fmA__contains__) = true)
    (lmA__contains__ : K.lookup fmA__contains__ = some ⟨ocmA__contains__, odmA__contains__, .func (PySem.W.fnOf "__contains__" "Layout.__contains__" (defArgs sLayoutCon) (defBody sLayoutCon) (defScope sLayoutCon) .none kVmA__contains__ dcmA__contains__ pmmA__contains__ anmA__contains__ cdmA__contains__ ctmA__contains__), slmA__contains__⟩)
    (cmA__contains__ : PySem.W.codeIn K cdmA__contains__ "Layout.__contains__" = true)
    (kmA__contains__ : PySem.W.keepIn K (.ref fmA__contains__) = true)
    (maA__getitem__ : PySem.W.findIn K (.ref CA) "__getitem__" = some (some (.ref fmA__getitem__)))
    (mfA__getitem__ : PySem.W.isFn K (.ref fmA__getitem__) = true)
    (lmA__getitem__ : K.lookup fmA__getitem__ = some ⟨ocmA__getitem__, odmA__getitem__, .func (PySem.W.fnOf "__getitem__" "Layout.__getitem__" (defArgs sLayoutGetitem) (defBody sLayoutGetitem) (defScope sLayoutGetitem) .none kVmA__getitem__ dcmA__getitem__ pmmA__getitem__ anmA__getitem__ cdmA__getitem__ ctmA__getitem__), slmA__getitem__⟩)
    (cmA__getitem__ : PySem.W.codeIn K cdmA__getitem__ "Layout.__getitem__" = true)
    (kmA__getitem__ : PySem.W.keepIn K (.ref fmA__getitem__) = true)
    (maA__eq__ : PySem.W.findIn K (.ref CA) "__eq__" = some (some (.ref fmA__eq__)))
    (mfA__eq__ : PySem.W.isFn K (.ref fmA__eq__) = true)
    (lmA__eq__ : K.lookup fmA__eq__ = some ⟨ocmA__eq__, odmA__eq__, .func (PySem.W.fnOf "__eq__" "Layout.__eq__" (defArgs sLayoutEq) (defBody sLayoutEq) (defScope sLayoutEq) .none kVmA__eq__ dcmA__eq__ pmmA__eq__ anmA__eq__ cdmA__eq__ ctmA__eq__), slmA__eq__⟩)
    (cmA__eq__ : PySem.W.codeIn K cdmA__eq__ "Layout.__eq__" = true)
    (kmA__eq__ : PySem.W.keepIn K (.ref fmA__eq__) = true)
    (caS : PySem.W.nsIn K mainGlobals "Step" = some (some (.ref CS)))
    (pgS : PySem.W.plainGet K CS Str.empty = true)
    (hdS : PySem.W.hasDictIn K CS = true)
    (poS : PySem.W.plainOver K CS = true)
    (saS : PySem.W.findIn K (.ref CS) "__setattr__" = some (some (.builtin "object.__setattr__")))
    (mkS : PySem.W.makesIn K CS = true)
    (inS : PySem.W.findIn K (.ref CS) "__init__" = some (some (.ref fiS)))
    (fnS : PySem.W.isFn K (.ref fiS) = true)
    (kpS : PySem.W.keepIn K (.ref CS) = true)
    (liS : K.lookup fiS = some ⟨ociS, odiS, .func (PySem.W.fnOf "__init__" "Step.__init__" (defArgs sStepInit) (defBody sStepInit) (defScope sStepInit) .none kViS dciS pmiS aniS cdiS ctiS), sliS⟩)
    (ciS : PySem.W.codeIn K cdiS "Step.__init__" = true)
    (kiS : PySem.W.keepIn K (.ref fiS) = true)
    (caY : PySem.W.nsIn K mainGlobals "Couple" = some (some (.ref CY)))
    (pgY : PySem.W.plainGet K CY Str.empty = true)
    (hdY : PySem.W.hasDictIn K CY = true)
    (poY : PySem.W.plainOver K CY = true)
    (saY : PySem.W.findIn K (.ref CY) "__setattr__" = some (some (.builtin "object.__setattr__")))
    (noY0 : PySem.W.findIn K (.ref CY) "_ends" = some none)
    (mkY : PySem.W.makesIn K CY = true)
    (inY : PySem.W.findIn K (.ref CY) "__init__" = some (some (.ref fiY)))
    (fnY : PySem.W.isFn K (.ref fiY) = true)
    (kpY : PySem.W.keepIn K (.ref CY) = true)
    (liY : K.lookup fiY = some ⟨ociY, odiY, .func (PySem.W.fnX "__init__" "Couple.__init__" (defArgs sCoupleInit) (defBody sCoupleInit) (defScope sCoupleInit) [(("__class__" : Str), ccY)] .none kViY dciY pmiY aniY (.ref coY) ctiY), sliY⟩)
    (ciY : PySem.W.codeIn K (.ref coY) "Couple.__init__" = true)
    (r1Y : Hm.fileB l.prog.main.file K coY = true)
    (e1Y : Hm.cellB K ccY CY = true)
    (kcY : (PySem.W.clsIn K CY).isSome = true)
    (mrY : PySem.W.mroIn K CY (.ref CY) = some true)
    (nxY : PySem.W.ks_superIn K CY CY "__init__" = some (some (.ref fiS)))
    (tf_Y : PySem.W.fnIn K fiS = true)
    (tyY : PySem.W.typeIn K (.ref fiS) = some (.type "function"))
    (maY__call__ : PySem.W.findIn K (.ref CY) "__call__" = some (some (.ref fmY__call__)))
    (mfY__call__ : PySem.W.isFn K (.ref fmY__call__) = true)
    (lmY__call__ : K.lookup fmY__call__ = some ⟨ocmY__call__, odmY__call__, .func (PySem.W.fnOf "__call__" "Couple.__call__" (defArgs sCoupleCall) (defBody sCoupleCall) (defScope sCoupleCall) .none kVmY__call__ dcmY__call__ pmmY__call__ anmY__call__ cdmY__call__ ctmY__call__), slmY__call__⟩)
    (cmY__call__ : PySem.W.codeIn K cdmY__call__ "Couple.__call__" = true)
    (kmY__call__ : PySem.W.keepIn K (.ref fmY__call__) = true)
    (caZ : PySem.W.nsIn K mainGlobals "Cut" = some (some (.ref CZ)))
    (pgZ : PySem.W.plainGet K CZ Str.empty = true)
    (hdZ : PySem.W.hasDictIn K CZ = true)
    (poZ : PySem.W.plainOver K CZ = true)
    (saZ : PySem.W.findIn K (.ref CZ) "__setattr__" = some (some (.builtin "object.__setattr__")))
    (noZ0 : PySem.W.findIn K (.ref CZ) "_ends" = some none)
    (mkZ : PySem.W.makesIn K CZ = true)
    (inZ : PySem.W.findIn K (.ref CZ) "__init__" = some (some (.ref fiZ)))
    (fnZ : PySem.W.isFn K (.ref fiZ) = true)
    (kpZ : PySem.W.keepIn K (.ref CZ) = true)
    (liZ : K.lookup fiZ = some ⟨ociZ, odiZ, .func (PySem.W.fnX "__init__" "Cut.__init__" (defArgs sCutInit) (defBody sCutInit) (defScope sCutInit) [(("__class__" : Str), ccZ)] .none kViZ dciZ pmiZ aniZ (.ref coZ) ctiZ), sliZ⟩)
    (ciZ : PySem.W.codeIn K (.ref coZ) "Cut.__init__" = true)
    (r1Z : Hm.fileB l.prog.main.file K coZ = true)
    (e1Z : Hm.cellB K ccZ CZ = true)
    (kcZ : (PySem.W.clsIn K CZ).isSome = true)
    (mrZ : PySem.W.mroIn K CZ (.ref CZ) = some true)
    (nxZ : PySem.W.ks_superIn K CZ CZ "__init__" = some (some (.ref fiS)))
    (tf_Z : PySem.W.fnIn K fiS = true)
    (tyZ : PySem.W.typeIn K (.ref fiS) = some (.type "function"))
    (maZ__call__ : PySem.W.findIn K (.ref CZ) "__call__" = some (some (.ref fmZ__call__)))
    (mfZ__call__ : PySem.W.isFn K (.ref fmZ__call__) = true)
    (lmZ__call__ : K.lookup fmZ__call__ = some ⟨ocmZ__call__, odmZ__call__, .func (PySem.W.fnOf "__call__" "Cut.__call__" (defArgs sCutCall) (defBody sCutCall) (defScope sCutCall) .none kVmZ__call__ dcmZ__call__ pmmZ__call__ anmZ__call__ cdmZ__call__ ctmZ__call__), slmZ__call__⟩)
    (cmZ__call__ : PySem.W.codeIn K cdmZ__call__ "Cut.__call__" = true)
    (kmZ__call__ : PySem.W.keepIn K (.ref fmZ__call__) = true)
    (qn : PySem.W.specialIn K (.builtin "object.__class__") "__get__" = some (some (.builtin "getset_descriptor.__get__")))
    (qt : PySem.W.takesIn K (.builtin "object.__class__") = some true)
    (caL : PySem.W.nsIn K mainGlobals "InvalidLayout" = some (some (.ref CL)))
    (q1L : (PySem.W.clsIn K CL).isSome = true)
    (q2L : PySem.W.findIn K (.ref CL) "__getattribute__" = some (some (.builtin "BaseException.__getattribute__")))
    (q3L : PySem.W.findIn K (.ref CL) "__getattr__" = some none)
    (q4L : PySem.W.subIn K (.ref CL) (.type "BaseException") = some true)
    (q5L : PySem.W.findIn K (.ref CL) "__class__" = some (some (.builtin "object.__class__")))
    (q8L : PySem.W.mroIn K CL (.type "object") = some true)
    (qbL : PySem.W.typeIn K (.ref CL) = some (.type "type"))
    (qcL : PySem.W.keepIn K (.ref CL) = true)
    (q6L : PySem.W.hasDictIn K CL = true)
    (q7L : PySem.W.findIn K (.ref CL) "value" = some none)
    (q9L : oexIn K CL "ValueError.__new__" PySem.HandSPX.refsVE = true)
    (qaL : PySem.W.findIn K (.ref CL) "__setattr__" = some (some (.builtin "object.__setattr__")))
    (qiL : PySem.W.findIn K (.ref CL) "__init__" = some (some (.ref fiL)))
    (qjL : PySem.W.typeIn K (.ref fiL) = some (.type "function"))
    (liL : K.lookup fiL = some ⟨ociL, odiL, .func (PySem.W.fnOf "__init__" "InvalidLayout.__init__" (defArgs sInvalidLayoutInit) (defBody sInvalidLayoutInit) (defScope sInvalidLayoutInit) .none kViL dciL pmiL aniL cdiL ctiL), sliL⟩)
    (ciL : PySem.W.codeIn K cdiL "InvalidLayout.__init__" = true)
    (kiL : PySem.W.keepIn K (.ref fiL) = true)
    (caW : PySem.W.nsIn K mainGlobals "OtherWagons" = some (some (.ref CW)))
    (q1W : (PySem.W.clsIn K CW).isSome = true)
    (q2W : PySem.W.findIn K (.ref CW) "__getattribute__" = some (some (.builtin "BaseException.__getattribute__")))
    (q3W : PySem.W.findIn K (.ref CW) "__getattr__" = some none)
    (q4W : PySem.W.subIn K (.ref CW) (.type "BaseException") = some true)
    (q5W : PySem.W.findIn K (.ref CW) "__class__" = some (some (.builtin "object.__class__")))
    (q8W : PySem.W.mroIn K CW (.type "object") = some true)
    (qbW : PySem.W.typeIn K (.ref CW) = some (.type "type"))
    (qcW : PySem.W.keepIn K (.ref CW) = true)
    (q9W : PySem.W.excIn K CW [.type "ValueError", .type "Exception", .type "BaseException", .type "object"] "ValueError.__new__" = true)
    (caE : PySem.W.nsIn K mainGlobals "InvalidEnd" = some (some (.ref CE)))
    (q1E : (PySem.W.clsIn K CE).isSome = true)
    (q2E : PySem.W.findIn K (.ref CE) "__getattribute__" = some (some (.builtin "BaseException.__getattribute__")))
    (q3E : PySem.W.findIn K (.ref CE) "__getattr__" = some none)
    (q4E : PySem.W.subIn K (.ref CE) (.type "BaseException") = some true)
    (q5E : PySem.W.findIn K (.ref CE) "__class__" = some (some (.builtin "object.__class__")))
    (q8E : PySem.W.mroIn K CE (.type "object") = some true)
    (qbE : PySem.W.typeIn K (.ref CE) = some (.type "type"))
    (qcE : PySem.W.keepIn K (.ref CE) = true)
    (q6E : PySem.W.hasDictIn K CE = true)
    (q7E : PySem.W.findIn K (.ref CE) "value" = some none)
    (q9E : oexIn K CE "ValueError.__new__" PySem.HandSPX.refsVE = true)
    (qaE : PySem.W.findIn K (.ref CE) "__setattr__" = some (some (.builtin "object.__setattr__")))
    (qiE : PySem.W.findIn K (.ref CE) "__init__" = some (some (.ref fiE)))
    (qjE : PySem.W.typeIn K (.ref fiE) = some (.type "function"))
    (liE : K.lookup fiE = some ⟨ociE, odiE, .func (PySem.W.fnOf "__init__" "InvalidEnd.__init__" (defArgs sInvalidEndInit) (defBody sInvalidEndInit) (defScope sInvalidEndInit) .none kViE dciE pmiE aniE cdiE ctiE), sliE⟩)
    (ciE : PySem.W.codeIn K cdiE "InvalidEnd.__init__" = true)
    (kiE : PySem.W.keepIn K (.ref fiE) = true)
    (caG : PySem.W.nsIn K mainGlobals "NoWagon" = some (some (.ref CG)))
    (q1G : (PySem.W.clsIn K CG).isSome = true)
    (q2G : PySem.W.findIn K (.ref CG) "__getattribute__" = some (some (.builtin "BaseException.__getattribute__")))
    (q3G : PySem.W.findIn K (.ref CG) "__getattr__" = some none)
    (q4G : PySem.W.subIn K (.ref CG) (.type "BaseException") = some true)
    (q5G : PySem.W.findIn K (.ref CG) "__class__" = some (some (.builtin "object.__class__")))
    (q8G : PySem.W.mroIn K CG (.type "object") = some true)
    (qbG : PySem.W.typeIn K (.ref CG) = some (.type "type"))
    (qcG : PySem.W.keepIn K (.ref CG) = true)
    (q6G : PySem.W.hasDictIn K CG = true)
    (q7G : PySem.W.findIn K (.ref CG) "name" = some none)
    (q9G : oexIn K CG "LookupError.__new__" (PySem.W.excTail [.type "LookupError", .type "Exception", .type "BaseException", .type "object"]) = true)
    (qaG : PySem.W.findIn K (.ref CG) "__setattr__" = some (some (.builtin "object.__setattr__")))
    (qiG : PySem.W.findIn K (.ref CG) "__init__" = some (some (.ref fiG)))
    (qjG : PySem.W.typeIn K (.ref fiG) = some (.type "function"))
    (liG : K.lookup fiG = some ⟨ociG, odiG, .func (PySem.W.fnOf "__init__" "NoWagon.__init__" (defArgs sNoWagonInit) (defBody sNoWagonInit) (defScope sNoWagonInit) .none kViG dciG pmiG aniG cdiG ctiG), sliG⟩)
    (ciG : PySem.W.codeIn K cdiG "NoWagon.__init__" = true)
    (kiG : PySem.W.keepIn K (.ref fiG) = true)
    (caN : PySem.W.nsIn K mainGlobals "InvalidName" = some (some (.ref CN)))
    (caQ : PySem.W.nsIn K mainGlobals "NotCoupled" = some (some (.ref CQ)))
    (caJ : PySem.W.nsIn K mainGlobals "AlreadyCoupled" = some (some (.ref CJ)))
    (caT : PySem.W.nsIn K mainGlobals "TooLarge" = some (some (.ref CT)))
    (fcA : PySem.W.findIn K (.ref CA) "__class__" = some (some (.builtin "object.__class__")))
    (moA : PySem.W.mroIn K CA (.type "object") = some true)
    (kAA : PySem.W.kitOne K (.ref CA) (.ref CA) = some true)
    (kA0 : PySem.W.kitOne K (.type "NoneType") (.ref CA) = some false)
    (kA1 : PySem.W.kitOne K (.type "bool") (.ref CA) = some false)
    (kA2 : PySem.W.kitOne K (.type "int") (.ref CA) = some false)
    (kA3 : PySem.W.kitOne K (.type "str") (.ref CA) = some false)
    (kA4 : PySem.W.kitOne K (.type "list") (.ref CA) = some false)
    (kA5 : PySem.W.kitOne K (.type "tuple") (.ref CA) = some false)
    (kA6 : PySem.W.kitOne K (.type "dict") (.ref CA) = some false)
    (ll : PySem.W.exmAny K (.ref CL) [.ref CL] = some true)
    (wl : PySem.W.exmAny K (.ref CW) [.ref CL] = some false)
    (we : PySem.W.exmAny K (.ref CW) [.ref CE] = some false)
    (wn : PySem.W.exmAny K (.ref CW) [.ref CN] = some false)
    (ww : PySem.W.exmAny K (.ref CW) [.ref CW] = some true)
    (vL : PySem.W.kitOne K (.ref CL) (.type "ValueError") = some true)
    (vW : PySem.W.kitOne K (.ref CW) (.type "ValueError") = some true)
    (nfA : PySem.W.notFirst K CA (.ref CA) = true)
    (fnG : PySem.W.fnIn K fmA__getitem__ = true)
    (gqY : PySem.W.fnIn K fmY__call__ = true)
    (gqZ : PySem.W.fnIn K fmZ__call__ = true)
    (zisinstance : PySem.W.nsIn K mainGlobals "isinstance" = some none)
    (zint : PySem.W.nsIn K mainGlobals "int" = some none)
    (zbool : PySem.W.nsIn K mainGlobals "bool" = some none)
    (zstr : PySem.W.nsIn K mainGlobals "str" = some none)
    (ztuple : PySem.W.nsIn K mainGlobals "tuple" = some none)
    (zlist : PySem.W.nsIn K mainGlobals "list" = some none)
    (zlen : PySem.W.nsIn K mainGlobals "len" = some none)
    (zall : PySem.W.nsIn K mainGlobals "all" = some none)
    (zany : PySem.W.nsIn K mainGlobals "any" = some none)
    (zset : PySem.W.nsIn K mainGlobals "set" = some none)
    (zrange : PySem.W.nsIn K mainGlobals "range" = some none)
    (zabs : PySem.W.nsIn K mainGlobals "abs" = some none)
    (zrepr : PySem.W.nsIn K mainGlobals "repr" = some none)
    (zsorted : PySem.W.nsIn K mainGlobals "sorted" = some none)
    (zmin : PySem.W.nsIn K mainGlobals "min" = some none)
    (zmax : PySem.W.nsIn K mainGlobals "max" = some none)
    (zValueError : PySem.W.nsIn K mainGlobals "ValueError" = some none)
    (zsuper : PySem.W.nsIn K mainGlobals "super" = some none)
    (zstat : PySem.W.nsIn K cStatics "thirdparty.any" = some none)
    (ztop : (l.prog.main.scope.names.lookup ("super" : Str)).isSome = false)
    (gk0 : PySem.W.nsIn K mainGlobals "NAME_LENGTH" = some (some (.int 8 t1)))
    (gk1 : PySem.W.nsIn K mainGlobals "LETTERS" = some (some (.str "abcdefghijklmnopqrstuvwxyz" t2)))
    (gk2 : PySem.W.nsIn K mainGlobals "MOST_WAGONS" = some (some (.int 30 t3)))
    : LawAtG l w K 14 63 "script" mg fa h := by
  have e := hfa.symm.trans (PySem.W.mg_of X G a33)
  cases e
  have F1 := fun_mk (st := sIsInt) l1 c1 k1
  have F2 := fun_mk (st := sIsName) l2 c2 k2
  have F3 := fun_mk (st := sIsWith) l3 c3 k3
  have F4 := fun_mk (st := sIsEnd) l4 c4 k4
  have F5 := fun_mk (st := sIsNameList) l5 c5 k5
  have F6 := fun_mk (st := sEndsOf) l6 c6 k6
  have F7 := fun_mk (st := sIsEndPair) l7 c7 k7
  have F8 := fun_mk (st := sCanBeAdded) l8 c8 k8
  have F9 := fun_mk (st := sPartnersBy) l9 c9 k9
  have F10 := fun_mk (st := sCheckLayout) l10 c10 k10
  have F11 := fun_mk (st := sCheckSameWagons) l11 c11 k11
  have F12 := fun_mk (st := sDifference) l12 c12 k12
  have F13 := fun_mk (st := sNames) l13 c13 k13
  have F14 := fun_mk (st := sCheckWagons) l14 c14 k14
  have F15 := fun_mk (st := sRelinked) l15 c15 k15
  have F16 := fun_mk (st := sStepTowards) l16 c16 k16
  have F17 := fun_mk (st := sAreNeighbours) l17 c17 k17
  have F18 := fun_mk (st := sPen) l18 c18 k18
  have F19 := fun_mk (st := sDraw) l19 c19 k19
  have F20 := fun_mk (st := sPick) l20 c20 k20
  have F21 := fun_mk (st := sShuf) l21 c21 k21
  have F22 := fun_mk (st := sLNames) l22 c22 k22
  have F23 := fun_mk (st := sLEnds) l23 c23 k23
  have F24 := fun_mk (st := sLPairs) l24 c24 k24
  have F25 := fun_mk (st := sLPartner) l25 c25 k25
  have F26 := fun_mk (st := sLPair) l26 c26 k26
  have F27 := fun_mk (st := sLCoupled) l27 c27 k27
  have F28 := fun_mk (st := sLCut) l28 c28 k28
  have F29 := fun_mk (st := sLAnyValue) l29 c29 k29
  have F30 := fun_mk (st := sLMoved) l30 c30 k30
  have F31 := fun_mk (st := sLIsNear) l31 c31 k31
  have F32 := fun_mk (st := sLTold) l32 c32 k32
  have F33 : FunC K "law" "law" sLaw fa _ co33 := ⟨⟨oc33, od33, kV33, dc33, pm33, an33, ct33, sl33, rfl, l33, c33⟩⟩
  have b1 := F1.binds (ps := ["value"]) fun _ _ _ _ _ _ us hl => match us, hl with | [_], _ => rfl
  have m1 := PySem.W.mg_of X G a1
  have b2 := F2.binds (ps := ["value"]) fun _ _ _ _ _ _ us hl => match us, hl with | [_], _ => rfl
  have m2 := PySem.W.mg_of X G a2
  have b3 := F3.binds (ps := ["value", "numbers"]) fun _ _ _ _ _ _ us hl => match us, hl with | [_, _], _ => rfl
  have m3 := PySem.W.mg_of X G a3
  have b4 := F4.binds (ps := ["value"]) fun _ _ _ _ _ _ us hl => match us, hl with | [_], _ => rfl
  have m4 := PySem.W.mg_of X G a4
  have b5 := F5.binds (ps := ["value"]) fun _ _ _ _ _ _ us hl => match us, hl with | [_], _ => rfl
  have m5 := PySem.W.mg_of X G a5
  have b6 := F6.binds (ps := ["wagons"]) fun _ _ _ _ _ _ us hl => match us, hl with | [_], _ => rfl
  have m6 := PySem.W.mg_of X G a6
  have b7 := F7.binds (ps := ["value"]) fun _ _ _ _ _ _ us hl => match us, hl with | [_], _ => rfl
  have m7 := PySem.W.mg_of X G a7
  have b8 := F8.binds (ps := ["value", "wagons", "partners"]) fun _ _ _ _ _ _ us hl => match us, hl with | [_, _, _], _ => rfl
  have m8 := PySem.W.mg_of X G a8
  have b9 := F9.binds (ps := ["couplings", "wagons"]) fun _ _ _ _ _ _ us hl => match us, hl with | [_, _], _ => rfl
  have m9 := PySem.W.mg_of X G a9
  have b10 := F10.binds (ps := ["value"]) fun _ _ _ _ _ _ us hl => match us, hl with | [_], _ => rfl
  have m10 := PySem.W.mg_of X G a10
  have m11 := PySem.W.mg_of X G a11
  have b12 := F12.binds (ps := ["one", "other"]) fun _ _ _ _ _ _ us hl => match us, hl with | [_, _], _ => rfl
  have m12 := PySem.W.mg_of X G a12
  have b13 := F13.binds (ps := ["row"]) fun _ _ _ _ _ _ us hl => match us, hl with | [_], _ => rfl
  have m13 := PySem.W.mg_of X G a13
  have b14 := F14.binds (ps := ["layout", "names"]) fun _ _ _ _ _ _ us hl => match us, hl with | [_, _], _ => rfl
  have m14 := PySem.W.mg_of X G a14
  have b15 := F15.binds (ps := ["layout", "ends"]) fun _ _ _ _ _ _ us hl => match us, hl with | [_, _], _ => rfl
  have m15 := PySem.W.mg_of X G a15
  have b16 := F16.binds (ps := ["one", "other"]) fun _ _ _ _ _ _ us hl => match us, hl with | [_, _], _ => rfl
  have m16 := PySem.W.mg_of X G a16
  have b17 := F17.binds (ps := ["one", "other"]) fun _ _ _ _ _ _ us hl => match us, hl with | [_, _], _ => rfl
  have m17 := PySem.W.mg_of X G a17
  have b18 := F18.binds (ps := ["script"]) fun _ _ _ _ _ _ us hl => match us, hl with | [_], _ => rfl
  have m18 := PySem.W.mg_of X G a18
  have b19 := F19.binds (ps := ["pen", "count"]) fun _ _ _ _ _ _ us hl => match us, hl with | [_, _], _ => rfl
  have m19 := PySem.W.mg_of X G a19
  have b20 := F20.binds (ps := ["pen", "options"]) fun _ _ _ _ _ _ us hl => match us, hl with | [_, _], _ => rfl
  have m20 := PySem.W.mg_of X G a20
  have b21 := F21.binds (ps := ["pen", "items"]) fun _ _ _ _ _ _ us hl => match us, hl with | [_, _], _ => rfl
  have m21 := PySem.W.mg_of X G a21
  have b22 := F22.binds (ps := ["pen", "many"]) fun _ _ _ _ _ _ us hl => match us, hl with | [_, _], _ => rfl
  have m22 := PySem.W.mg_of X G a22
  have b23 := F23.binds (ps := ["names"]) fun _ _ _ _ _ _ us hl => match us, hl with | [_], _ => rfl
  have m23 := PySem.W.mg_of X G a23
  have b24 := F24.binds (ps := ["pen", "names"]) fun _ _ _ _ _ _ us hl => match us, hl with | [_, _], _ => rfl
  have m24 := PySem.W.mg_of X G a24
  have b25 := F25.binds (ps := ["pairs", "end"]) fun _ _ _ _ _ _ us hl => match us, hl with | [_, _], _ => rfl
  have m25 := PySem.W.mg_of X G a25
  have b26 := F26.binds (ps := ["one", "other"]) fun _ _ _ _ _ _ us hl => match us, hl with | [_, _], _ => rfl
  have m26 := PySem.W.mg_of X G a26
  have b27 := F27.binds (ps := ["pairs", "one", "other"]) fun _ _ _ _ _ _ us hl => match us, hl with | [_, _, _], _ => rfl
  have m27 := PySem.W.mg_of X G a27
  have b28 := F28.binds (ps := ["pairs", "end"]) fun _ _ _ _ _ _ us hl => match us, hl with | [_, _], _ => rfl
  have m28 := PySem.W.mg_of X G a28
  have b29 := F29.binds (ps := ["pen"]) fun _ _ _ _ _ _ us hl => match us, hl with | [_], _ => rfl
  have m29 := PySem.W.mg_of X G a29
  have b30 := F30.binds (ps := ["pen", "names", "pairs"]) fun _ _ _ _ _ _ us hl => match us, hl with | [_, _, _], _ => rfl
  have m30 := PySem.W.mg_of X G a30
  have b31 := F31.binds (ps := ["pairs", "others"]) fun _ _ _ _ _ _ us hl => match us, hl with | [_, _], _ => rfl
  have m31 := PySem.W.mg_of X G a31
  have b32 := F32.binds (ps := ["call"]) fun _ _ _ _ _ _ us hl => match us, hl with | [_], _ => rfl
  have m32 := PySem.W.mg_of X G a32
  have b33 : Binds K (PySem.W.fnOf "law" "law" (defArgs sLaw) (defBody sLaw) (defScope sLaw) .none kV33 dc33 pm33 an33 (.ref co33) ct33) ["script"] [] := .all fun us hl => match us, hl with | [_], _ => rfl
  have m33 := PySem.W.mg_of X G a33
  have mCA := PySem.W.mg_of X G caA
  have FpAwagons := fun_mk (st := sLayoutWagons) lpAwagons cpAwagons kpAwagons
  have bpAwagons := FpAwagons.binds (ps := ["self"]) fun _ _ _ _ _ _ us hl => match us, hl with | [_], _ => rfl
  have MpAwagons : PropOf K CA "wagons" ppAwagons pgAwagons := ⟨paAwagons, pbAwagons, pcAwagons, ⟨_, pdAwagons⟩⟩
  have FpAcouplings := fun_mk (st := sLayoutCouplings) lpAcouplings cpAcouplings kpAcouplings
  have bpAcouplings := FpAcouplings.binds (ps := ["self"]) fun _ _ _ _ _ _ us hl => match us, hl with | [_], _ => rfl
  have MpAcouplings : PropOf K CA "couplings" ppAcouplings pgAcouplings := ⟨paAcouplings, pbAcouplings, pcAcouplings, ⟨_, pdAcouplings⟩⟩
  have FmA__contains__ := fun_mk (st := sLayoutCon) lmA__contains__ cmA__contains__ kmA__contains__
  have bmA__contains__ := FmA__contains__.binds (ps := ["self", "coupling"]) fun _ _ _ _ _ _ us hl => match us, hl with | [_, _], _ => rfl
  have MmA__contains__ : Meth K CA "__contains__" fmA__contains__ := ⟨maA__contains__, mfA__contains__, kmA__contains__⟩
  have FmA__getitem__ := fun_mk (st := sLayoutGetitem) lmA__getitem__ cmA__getitem__ kmA__getitem__
  have bmA__getitem__ := FmA__getitem__.binds (ps := ["self", "end"]) fun _ _ _ _ _ _ us hl => match us, hl with | [_, _], _ => rfl
  have MmA__getitem__ : Meth K CA "__getitem__" fmA__getitem__ := ⟨maA__getitem__, mfA__getitem__, kmA__getitem__⟩
  have FmA__eq__ := fun_mk (st := sLayoutEq) lmA__eq__ cmA__eq__ kmA__eq__
  have bmA__eq__ := FmA__eq__.binds (ps := ["self", "other"]) fun _ _ _ _ _ _ us hl => match us, hl with | [_, _], _ => rfl
  have MmA__eq__ : Meth K CA "__eq__" fmA__eq__ := ⟨maA__eq__, mfA__eq__, kmA__eq__⟩
  obtain ⟨fdA_, FiA⟩ := fdA
  have MkA : Mk K CA fiA := ⟨mkA, inA, fnA, kpA⟩
  have ClA : Cls K CA := ⟨pgA, hdA, poA, saA⟩
  have mCS := PySem.W.mg_of X G caS
  have FiS := fun_mk (st := sStepInit) liS ciS kiS
  have biS := FiS.binds (ps := ["self", "ends"]) fun _ _ _ _ _ _ us hl => match us, hl with | [_, _], _ => rfl
  have MkS : Mk K CS fiS := ⟨mkS, inS, fnS, kpS⟩
  have ClS : Cls K CS := ⟨pgS, hdS, poS, saS⟩
  have mCY := PySem.W.mg_of X G caY
  have FmY__call__ := fun_mk (st := sCoupleCall) lmY__call__ cmY__call__ kmY__call__
  have bmY__call__ := FmY__call__.binds (ps := ["self", "layout"]) fun _ _ _ _ _ _ us hl => match us, hl with | [_, _], _ => rfl
  have MmY__call__ : Meth K CY "__call__" fmY__call__ := ⟨maY__call__, mfY__call__, kmY__call__⟩
  have TY : SupFn l.prog K mg (nfCp ccY coY) ["self", "one", "other"] fiY CY fiS ccY _ := ⟨⟨ociY, kViY, dciY, pmiY, ctiY, odiY, aniY, sliY, rfl, liY⟩, rfl, ciY, Hm.fileB_ok r1Y, ⟨_, rfl, rfl⟩, rfl, Hm.cellB_ok e1Y, Option.isSome_iff_exists.mp kcY, mrY, nxY, tf_Y, tyY, zstat, PySem.W.mg_none_of X G zsuper, ztop⟩
  have biY : Binds K (PySem.W.fnX "__init__" "Couple.__init__" (defArgs sCoupleInit) (defBody sCoupleInit) (defScope sCoupleInit) [(("__class__" : Str), ccY)] .none kViY dciY pmiY aniY (.ref coY) ctiY) ["self", "one", "other"] [] := .all fun us hl => match us, hl with | [_, _, _], _ => rfl
  have MkY : Mk K CY fiY := ⟨mkY, inY, fnY, kpY⟩
  have ClY : Cls K CY := ⟨pgY, hdY, poY, saY⟩
  have mCZ := PySem.W.mg_of X G caZ
  have FmZ__call__ := fun_mk (st := sCutCall) lmZ__call__ cmZ__call__ kmZ__call__
  have bmZ__call__ := FmZ__call__.binds (ps := ["self", "layout"]) fun _ _ _ _ _ _ us hl => match us, hl with | [_, _], _ => rfl
  have MmZ__call__ : Meth K CZ "__call__" fmZ__call__ := ⟨maZ__call__, mfZ__call__, kmZ__call__⟩
  have TZ : SupFn l.prog K mg (nfCt ccZ coZ) ["self", "end"] fiZ CZ fiS ccZ _ := ⟨⟨ociZ, kViZ, dciZ, pmiZ, ctiZ, odiZ, aniZ, sliZ, rfl, liZ⟩, rfl, ciZ, Hm.fileB_ok r1Z, ⟨_, rfl, rfl⟩, rfl, Hm.cellB_ok e1Z, Option.isSome_iff_exists.mp kcZ, mrZ, nxZ, tf_Z, tyZ, zstat, PySem.W.mg_none_of X G zsuper, ztop⟩
  have biZ : Binds K (PySem.W.fnX "__init__" "Cut.__init__" (defArgs sCutInit) (defBody sCutInit) (defScope sCutInit) [(("__class__" : Str), ccZ)] .none kViZ dciZ pmiZ aniZ (.ref coZ) ctiZ) ["self", "end"] [] := .all fun us hl => match us, hl with | [_, _], _ => rfl
  have MkZ : Mk K CZ fiZ := ⟨mkZ, inZ, fnZ, kpZ⟩
  have ClZ : Cls K CZ := ⟨pgZ, hdZ, poZ, saZ⟩
  have mCL := PySem.W.mg_of X G caL
  have xcL : XC K CL := ⟨q1L, q2L, q3L, q4L, q5L, qn, qt, q8L⟩
  have xfL : XfC K CL := ⟨q2L, q3L, q4L, q6L⟩
  have oxL : OexC K CL := oexC_of q9L qaL q4L qbL qcL
  have FiL := fun_mk (st := sInvalidLayoutInit) liL ciL kiL
  have biL := FiL.binds (ps := ["self", "value"]) fun _ _ _ _ _ _ us hl => match us, hl with | [_, _], _ => rfl
  have mCW := PySem.W.mg_of X G caW
  have xcW : XC K CW := ⟨q1W, q2W, q3W, q4W, q5W, qn, qt, q8W⟩
  have mCE := PySem.W.mg_of X G caE
  have xcE : XC K CE := ⟨q1E, q2E, q3E, q4E, q5E, qn, qt, q8E⟩
  have xfE : XfC K CE := ⟨q2E, q3E, q4E, q6E⟩
  have oxE : OexC K CE := oexC_of q9E qaE q4E qbE qcE
  have FiE := fun_mk (st := sInvalidEndInit) liE ciE kiE
  have biE := FiE.binds (ps := ["self", "value"]) fun _ _ _ _ _ _ us hl => match us, hl with | [_, _], _ => rfl
  have mCG := PySem.W.mg_of X G caG
  have xcG : XC K CG := ⟨q1G, q2G, q3G, q4G, q5G, qn, qt, q8G⟩
  have xfG : XfC K CG := ⟨q2G, q3G, q4G, q6G⟩
  have oxG : OexB K CG _ _ := ⟨oexIn_of q9G, qaG, q4G, qbG, qcG⟩
  have FiG := fun_mk (st := sNoWagonInit) liG ciG kiG
  have biG := FiG.binds (ps := ["self", "name"]) fun _ _ _ _ _ _ us hl => match us, hl with | [_, _], _ => rfl
  have mCN := PySem.W.mg_of X G caN
  have mCQ := PySem.W.mg_of X G caQ
  have mCJ := PySem.W.mg_of X G caJ
  have mCT := PySem.W.mg_of X G caT
  have n_isinstance := PySem.W.mg_none_of X G zisinstance
  have n_int := PySem.W.mg_none_of X G zint
  have n_bool := PySem.W.mg_none_of X G zbool
  have n_str := PySem.W.mg_none_of X G zstr
  have n_tuple := PySem.W.mg_none_of X G ztuple
  have n_list := PySem.W.mg_none_of X G zlist
  have n_len := PySem.W.mg_none_of X G zlen
  have n_all := PySem.W.mg_none_of X G zall
  have n_any := PySem.W.mg_none_of X G zany
  have n_set := PySem.W.mg_none_of X G zset
  have n_range := PySem.W.mg_none_of X G zrange
  have n_abs := PySem.W.mg_none_of X G zabs
  have n_repr := PySem.W.mg_none_of X G zrepr
  have n_sorted := PySem.W.mg_none_of X G zsorted
  have n_min := PySem.W.mg_none_of X G zmin
  have n_max := PySem.W.mg_none_of X G zmax
  have n_ValueError := PySem.W.mg_none_of X G zValueError
  have inT : ∀ p : Addr × Addr, p ∈ [(co33, P33)] → p = (co33, P33) := fun p hp => List.mem_singleton.mp hp
  refine ⟨PySem.W.fnOf "law" "law" (defArgs sLaw) (defBody sLaw) (defScope sLaw) .none kV33 dc33 pm33 an33 (.ref co33) ct33, [(co33, P33)], spLaw K [(P33, qLam)], fun p hp => by rw [inT p hp]; exact x533, fun p hp => by rw [inT p hp]; exact x433, fun p hp => by rw [inT p hp]; exact PySem.W.codeHd_of_K X x333, fun s v => .of_eq rfl, fun H a ns hl _ ht hS => ⟨a, ns, rfl, hS, hl, tabs_none (ht _ List.mem_cons_self), fun _ => rfl⟩, fun base _ _ TBs => ?_⟩
  have TB := TBs _ List.mem_cons_self
  have B : Glb mg := ⟨n_isinstance, n_int, n_bool, n_str, n_tuple, n_list, n_len, n_all, n_set, n_range, n_abs, n_repr⟩
  have oInt := ok_isint (P := l.prog) (w := w) (base := base) F1 B
  have oName := ok_isname (P := l.prog) (w := w) (base := base) F2 B (PySem.W.mg_of X G gk0) (PySem.W.mg_of X G gk1)
  have oWith := ok_iswith F3 B oInt m1 k1 b1 oName m2 k2 b2
  have oEnd := ok_isend F4 oWith m3 k3 b3
  have oNL := ok_isnl F5 B ⟨oName, m2, k2, b2⟩
  have oEnds := ok_ends (P := l.prog) (w := w) (mg := mg) (base := base) F6
  have oEP := ok_isep F7 B ⟨oEnd, m4, k4, b4⟩
  have oAdd := ok_canadd F8 B ⟨oEP, m7, k7, b7⟩
  have oPB := ok_partby F9 B ⟨oAdd, m8, k8, b8⟩
  have RC : LayCls K CA := ⟨ClA, noA0, noA1, noA2, noA3⟩
  have RI : LayI K CA := ⟨fcA, qn, qt, moA, kAA, kA0, kA1, kA2, kA3, kA4, kA5, kA6⟩
  have oI := ok_layI (C := CA) FiA B n_sorted (PySem.W.mg_of X G gk2) RC ⟨oNL, m5, k5, b5⟩ ⟨oPB, m9, k9, b9⟩ ⟨oEnds, m6, k6, b6⟩
  have EL : ErrC l.prog w K mg base "InvalidLayout" "value" ["self", "value"] CL fiL _ := ⟨oxL, qiL, qjL, ok_errLay FiL, biL, q7L, mCL⟩
  have oW := ok_lyW (P := l.prog) (w := w) (mg := mg) (base := base) FpAwagons RC
  have oC := ok_lyC (P := l.prog) (w := w) (mg := mg) (base := base) FpAcouplings RC
  have oCo := ok_lyCo FmA__contains__ RC ⟨oEP, m7, k7, b7⟩
  have XI : HasX l.prog w K mg base 5 "__contains__" ["self", "coupling"] (spLyCo K CA) CA _ _ := ⟨maA__contains__, mfA__contains__, oCo, bmA__contains__⟩
  obtain ⟨ds, vd, bd⟩ := FiA.binds1 (ps := ["self", "wagons", "couplings"]) 2 0 (List.cons_ne_nil _ _) rfl fun _ _ _ _ _ _ _ us its hl hi => match us, its, hl, hi with | [_, _], [_], _, _ => ⟨_, rfl, rfl⟩
  obtain ⟨d0, v0, b0⟩ := FiA.binds1 (ps := ["self", "wagons", "couplings"]) 3 1 (List.cons_ne_nil _ _) rfl fun _ _ _ _ _ _ _ us its hl hi => match us, its, hl, hi with | [_, _, _], [_], _, _ => ⟨_, rfl, rfl⟩
  cases v0
  have oChk := ok_chkL F10 B.isi mCA RC RI EL
  have oSm := ok_same F11 n_any RC oChk m10 k10 b10 MpAwagons oW bpAwagons PySem.F.excBase_ValueError q9W mCW qcW q4W qbW
  have oDf := ok_diff F12 RC oSm m11 k11 MkA oI mCA b0 MpAwagons oW bpAwagons MpAcouplings oC bpAcouplings XI
  have EE : ErrC l.prog w K mg base "InvalidEnd" "value" ["self", "value"] CE fiE _ := ⟨oxE, qiE, qjE, ok_errEnd FiE, biE, q7E, mCE⟩
  have EN : ErrL l.prog w K mg base "NoWagon" "name" ["self", "name"] CG fiG _ := ⟨oxG, qiG, qjG, ok_errWag FiG, biG, q7G, mCG⟩
  have oG := fnok_to0 (ok_lyG FmA__getitem__ RC ⟨oEnd, m4, k4, b4⟩ EE EN)
  have oNm := ok_names (P := l.prog) (w := w) (mg := mg) (base := base) F13
  have oCW := ok_chkW F14 RC ⟨fnok_to0 oChk, m10, k10, b10⟩ MpAwagons oW bpAwagons
  have oRl := ok_rlk (CE := CE) (CN := CG) F15 RC B n_any oG bmA__getitem__ maA__getitem__ fnG mfA__getitem__ MkA oI mCA b0 MpAwagons oW bpAwagons MpAcouplings oC bpAcouplings
  have SY : StCls K CY := ⟨ClY, noY0⟩
  have SZ : StCls K CZ := ⟨ClZ, noZ0⟩
  have oSY := ok_stI FiS B n_sorted SY ⟨oEnd, m4, k4, b4⟩
  have oSZ := ok_stI FiS B n_sorted SZ ⟨oEnd, m4, k4, b4⟩
  have oYI := ok_cpI TY oSY biS
  have oZI := ok_ctI TZ oSZ biS
  have SD : StDefs l.prog w K mg base CA CE CG _ _ _ _ _ _ _ _ := ⟨⟨oCW, m14, k14, b14⟩, ⟨oNm, m13, k13, b13⟩, ⟨oRl, m15, k15, b15⟩, oG, bmA__getitem__, maA__getitem__, fnG, mfA__getitem__⟩
  have oYC := ok_cpC FmY__call__ SY SD
  have oZC := ok_ctC FmZ__call__ SZ SD
  have EQ : EqL l.prog w K mg base CA _ _ := ⟨ok_lyE FmA__eq__ B.isi mCA RC RI, bmA__eq__, maA__eq__, mfA__eq__, nfA⟩
  have oTw := ok_tow F16 RC ⟨fnok_to0 oDf, m12, k12, b12⟩ MpAcouplings oC bpAcouplings ⟨MkY, oYI, mCY, biY⟩ ⟨MkZ, oZI, mCZ, biZ⟩
  have oCh := ok_nbr F17 RC RI oSm m11 k11 EQ ⟨oTw, m16, k16, b16⟩ ⟨maY__call__, mfY__call__, gqY⟩ (FnR.imp (FnOk.raw oYC bmY__call__ .nil) fun vs H Q E h => by rw [List.append_nil]; exact h) ⟨maZ__call__, mfZ__call__, gqZ⟩ (FnR.imp (FnOk.raw oZC bmZ__call__ .nil) fun vs H Q E h => by rw [List.append_nil]; exact h)
  have oPen := ok_pen (P := l.prog) (w := w) (base := base) F18 B.list
  have oDraw := ok_draw (P := l.prog) (w := w) (base := base) (k := 0) F19 B.len B.abs
  have oPick := ok_pick F20 B.len oDraw m19 k19 b19
  have oShuf := ok_shuf F21 B.len B.list oDraw m19 k19 b19
  have D : Draws l.prog w K mg base _ _ _ _ _ _ := ⟨oDraw, m19, k19, b19, oPick, m20, k20, b20, oShuf, m21, k21, b21⟩
  have oLNm := ok_lnms F22 D B.range n_sorted
  have oLEn := ok_lends3 (P := l.prog) (w := w) (mg := mg) (base := base) F23
  have oLPr := ok_lprs3 F24 D B.len ⟨oLEn, m23, k23, b23⟩
  have oLPt := ok_part3 (P := l.prog) (w := w) (mg := mg) (base := base) F25
  have oLPi := ok_pair3 (P := l.prog) (w := w) (base := base) F26 n_min n_max
  have oLCp := ok_cpl3 F27 n_sorted ⟨oLPt, m25, k25, b25⟩ ⟨oLPi, m26, k26, b26⟩
  have oLCu := ok_cut3 (P := l.prog) (w := w) (mg := mg) (base := base) F28
  have oLMv := ok_mov3 F30 D ⟨oLEn, m23, k23, b23⟩ ⟨oLPt, m25, k25, b25⟩ ⟨oLCu, m28, k28, b28⟩ ⟨oLCp, m27, k27, b27⟩
  have oLNr := ok_near3 F31 B.len ⟨oLCp, m27, k27, b27⟩
  have oAny := ok_any F29 D
  have R : RefS K mg CL CE CN CW CG CQ CJ CT := ⟨mCL, mCE, mCN, mCW, mCG, mCQ, mCJ, mCT, n_ValueError, xcL, xfL, q7L, xcW, ll, wl, we, wn, ww, vL, vW⟩
  exact ok_law (T := [(P33, qLam)]) (C := CA) F33 B n_min TB List.mem_cons_self (fun p hp _ => by rw [List.mem_singleton.mp hp]) R F32 m32 k32 b32 D ⟨oPen, m18, k18, b18⟩ ⟨oLNm, m22, k22, b22⟩ ⟨oLPr, m24, k24, b24⟩ ⟨oLMv, m30, k30, b30⟩ ⟨oLNr, m31, k31, b31⟩ ⟨oAny, m29, k29, b29⟩ oCh m17 k17 b17 MkA oI mCA b0 bd vd (fun H => Hm.tupEmp_ok etA H)
end My
set_option Elab.async false
set_option linter.all false
set_option maxRecDepth 1000000
set_option maxHeartbeats 0
namespace My
open PySem PySem.Spec PyProof.Rows L2 Hm Hk
theorem all_of {w : World} {K : PySem.W.Frag} {h : Heap} {mg : Str → Option Value} {fa : Addr} (X : K.In h) (S : SaysF ds fs tf h K) (G : h.Ns mainGlobals mg) (hfa : mg "law" = some (.ref fa)) : LawAtG PySem.Challenge.rw_shuntplan_k73_neighbours_or_not w K 14 63 "script" mg fa h := by
  obtain ⟨_, _, _, _, _, _, _, _, _, L0, D0, E0⟩ := S.plain 0
  obtain ⟨_, _, _, _, _, _, _, _, _, L1, D1, E1⟩ := S.plain 1
  obtain ⟨_, _, _, _, _, _, _, _, _, L2, D2, E2⟩ := S.plain 2
  obtain ⟨_, _, _, _, _, _, _, _, _, L3, D3, E3⟩ := S.plain 3
  obtain ⟨_, _, _, _, _, _, _, _, _, L4, D4, E4⟩ := S.plain 4
  obtain ⟨_, _, _, _, _, _, _, _, _, L5, D5, E5⟩ := S.plain 5
  obtain ⟨_, _, _, _, _, _, _, _, _, L6, D6, E6⟩ := S.plain 6
  obtain ⟨_, _, _, _, _, _, _, _, _, L7, D7, E7⟩ := S.plain 7
  obtain ⟨_, _, _, _, _, _, _, _, _, L8, D8, E8⟩ := S.plain 8
  obtain ⟨_, _, _, _, _, _, _, _, _, L9, D9, E9⟩ := S.plain 9
  obtain ⟨_, _, _, _, _, _, _, _, _, L10, D10, E10⟩ := S.plain 10
  obtain ⟨_, _, _, _, _, _, _, _, _, L11, D11, E11⟩ := S.plain 11
  obtain ⟨_, _, _, _, _, _, _, _, _, L12, D12, E12⟩ := S.plain 12
  obtain ⟨_, _, _, _, _, _, _, _, _, L13, D13, E13⟩ := S.plain 13
  obtain ⟨_, _, _, _, _, _, _, _, _, L14, D14, E14⟩ := S.plain 14
  obtain ⟨_, _, _, _, _, _, _, _, _, L15, D15, E15⟩ := S.plain 15
  obtain ⟨_, _, _, _, _, _, _, _, _, L16, D16, E16⟩ := S.plain 16
  obtain ⟨_, _, _, _, _, _, _, _, _, L17, D17, E17⟩ := S.plain 17
  obtain ⟨_, _, _, _, _, _, _, _, _, L18, D18, E18⟩ := S.plain 18
  obtain ⟨_, _, _, _, _, _, _, _, _, L19, D19, E19⟩ := S.plain 19
  obtain ⟨_, _, _, _, _, _, _, _, _, L20, D20, E20⟩ := S.plain 20
  obtain ⟨_, _, _, _, _, _, _, _, _, L21, D21, E21⟩ := S.plain 21
  obtain ⟨_, _, _, _, _, _, _, _, _, L22, D22, E22⟩ := S.plain 22
  obtain ⟨_, _, _, _, _, _, _, _, _, L23, D23, E23⟩ := S.plain 23
  obtain ⟨_, _, _, _, _, _, _, _, _, L24, D24, E24⟩ := S.plain 24
  obtain ⟨_, _, _, _, _, _, _, _, _, L25, D25, E25⟩ := S.plain 25
  obtain ⟨_, _, _, _, _, _, _, _, _, L26, D26, E26⟩ := S.plain 26
  obtain ⟨_, _, _, _, _, _, _, _, _, L27, D27, E27⟩ := S.plain 27
  obtain ⟨_, _, _, _, _, _, _, _, _, L28, D28, E28⟩ := S.plain 28
  obtain ⟨_, _, _, _, _, _, _, _, _, L29, D29, E29⟩ := S.plain 29
  obtain ⟨_, _, _, _, _, _, _, _, _, L30, D30, E30⟩ := S.plain 30
  obtain ⟨_, _, _, _, _, _, _, _, _, L31, D31, E31⟩ := S.plain 31
  obtain ⟨_, _, _, _, _, _, _, _, _, L32, D32, E32⟩ := S.plain 32
  obtain ⟨_, _, _, _, _, _, _, _, _, L34, D34, E34⟩ := S.plain 34
  obtain ⟨_, _, _, _, _, _, _, _, _, L35, D35, E35⟩ := S.plain 35
  obtain ⟨_, _, _, _, _, _, _, _, _, L36, D36, E36⟩ := S.plain 36
  obtain ⟨_, _, _, _, _, _, _, _, _, L37, D37, E37⟩ := S.plain 37
  obtain ⟨_, _, _, _, _, _, _, _, _, L38, D38, E38⟩ := S.plain 38
  obtain ⟨_, _, _, _, _, _, _, _, _, L39, D39, E39⟩ := S.plain 39
  obtain ⟨_, _, _, _, _, _, _, _, L40, D40, E40⟩ := S.sup 40
  obtain ⟨_, _, _, _, _, _, _, _, _, L41, D41, E41⟩ := S.plain 41
  obtain ⟨_, _, _, _, _, _, _, _, L42, D42, E42⟩ := S.sup 42
  obtain ⟨_, _, _, _, _, _, _, _, _, L43, D43, E43⟩ := S.plain 43
  obtain ⟨_, _, _, _, _, _, _, _, _, L44, D44, E44⟩ := S.plain 44
  obtain ⟨_, _, _, _, _, _, _, _, _, L45, D45, E45⟩ := S.plain 45
  obtain ⟨_, _, _, _, _, _, _, _, _, L46, D46, E46⟩ := S.plain 46
  obtain rfl := codeF_eq L32 D32
  exact all_mk (f1 := a_f1 K) (f2 := a_f2 K) (f3 := a_f3 K) (f4 := a_f4 K) (f5 := a_f5 K) (f6 := a_f6 K) (f7 := a_f7 K) (f8 := a_f8 K) (f9 := a_f9 K) (f10 := a_f10 K) (f11 := a_f11 K) (f12 := a_f12 K) (f13 := a_f13 K) (f14 := a_f14 K) (f15 := a_f15 K) (f16 := a_f16 K) (f17 := a_f17 K) (f18 := a_f18 K) (f19 := a_f19 K) (f20 := a_f20 K) (f21 := a_f21 K) (f22 := a_f22 K) (f23 := a_f23 K) (f24 := a_f24 K) (f25 := a_f25 K) (f26 := a_f26 K) (f27 := a_f27 K) (f28 := a_f28 K) (f29 := a_f29 K) (f30 := a_f30 K) (f31 := a_f31 K) (f32 := a_f32 K) (f33 := a_f33 K) (co33 := a_co33 K) (P33 := a_P33 K) (CA := a_CA K) (fiA := a_fiA K) (dvA := a_dvA K) (ppAwagons := a_ppAwagons K) (pgAwagons := a_pgAwagons K) (prAwagons := a_prAwagons K) (ppAcouplings := a_ppAcouplings K) (pgAcouplings := a_pgAcouplings K) (prAcouplings := a_prAcouplings K) (fmA__contains__ := a_fmA__contains__ K) (fmA__getitem__ := a_fmA__getitem__ K) (fmA__eq__ := a_fmA__eq__ K) (CS := a_CS K) (fiS := a_fiS K) (CY := a_CY K) (fiY := a_fiY K) (coY := a_coY K) (ccY := a_ccY K) (fmY__call__ := a_fmY__call__ K) (CZ := a_CZ K) (fiZ := a_fiZ K) (coZ := a_coZ K) (ccZ := a_ccZ K) (fmZ__call__ := a_fmZ__call__ K) (CL := a_CL K) (fiL := a_fiL K) (CW := a_CW K) (CE := a_CE K) (fiE := a_fiE K) (CG := a_CG K) (fiG := a_fiG K) (CN := a_CN K) (CQ := a_CQ K) (CJ := a_CJ K) (CT := a_CT K) (t1 := a_t1 K) (t2 := a_t2 K) (t3 := a_t3 K) X G hfa (S.is 0) L0 D0 E0 (S.is 1) L1 D1 E1 (S.is 2) L2 D2 E2 (S.is 3) L3 D3 E3 (S.is 4) L4 D4 E4 (S.is 5) L5 D5 E5 (S.is 6) L6 D6 E6 (S.is 7) L7 D7 E7 (S.is 8) L8 D8 E8 (S.is 9) L9 D9 E9 (S.is 10) L10 D10 E10 (S.is 11) L11 D11 E11 (S.is 12) L12 D12 E12 (S.is 13) L13 D13 E13 (S.is 14) L14 D14 E14 (S.is 15) L15 D15 E15 (S.is 16) L16 D16 E16 (S.is 17) L17 D17 E17 (S.is 18) L18 D18 E18 (S.is 19) L19 D19 E19 (S.is 20) L20 D20 E20 (S.is 21) L21 D21 E21 (S.is 22) L22 D22 E22 (S.is 23) L23 D23 E23 (S.is 24) L24 D24 E24 (S.is 25) L25 D25 E25 (S.is 26) L26 D26 E26 (S.is 27) L27 D27 E27 (S.is 28) L28 D28 E28 (S.is 29) L29 D29 E29 (S.is 30) L30 D30 E30 (S.is 31) L31 D31 E31 (S.is 32) L32 D32 E32 (S.hd _ (List.mem_of_getElem? (i := 0) rfl)) (S.out _ (List.mem_of_getElem? (i := 0) rfl)) (S.empty _ (List.mem_of_getElem? (i := 0) rfl)) (S.is 33) (S.is 34) (S.is 35) (S.is 36) (S.is 37) (S.is 38) (S.is 39) (S.is 40) (S.is 41) (S.is 42) (S.is 43) (S.is 44) (S.is 45) (S.funD 33) (S.is 46) (S.is 47) (S.is 48) (S.is 49) (S.is 50) L34 D34 E34 (S.is 51) (S.is 52) (S.is 53) (S.is 54) L35 D35 E35 (S.is 55) (S.is 56) L36 D36 E36 (S.is 57) (S.is 58) L37 D37 E37 (S.is 59) (S.is 60) L38 D38 E38 (S.is 61) (S.is 62) (S.is 63) (S.is 64) (S.is 65) (S.is 66) (S.is 67) (S.is 68) (S.is 69) L39 D39 E39 (S.is 70) (S.is 71) (S.is 72) (S.is 73) (S.is 74) (S.is 75) (S.is 76) (S.is 77) (S.is 78) (S.is 79) L40 D40 (S.is 80) (S.is 81) (S.is 82) (S.is 83) (S.is 84) (S.is 85) (S.is 86) (S.is 87) (S.is 88) L41 D41 E41 (S.is 89) (S.is 90) (S.is 91) (S.is 92) (S.is 93) (S.is 94) (S.is 95) (S.is 96) (S.is 97) (S.is 98) L42 D42 (S.is 99) (S.is 100) (S.is 101) (S.is 102) (S.is 103) (S.is 104) (S.is 105) (S.is 106) (S.is 107) L43 D43 E43 (S.is 108) (S.is 109) (S.is 110) (S.is 111) (S.is 112) (S.is 113) (S.is 114) (S.is 115) (S.is 116) (S.is 117) (S.is 118) (S.is 119) (S.is 120) (S.is 121) (S.is 122) (S.is 123) (S.is 124) L44 D44 E44 (S.is 125) (S.is 126) (S.is 127) (S.is 128) (S.is 129) (S.is 130) (S.is 131) (S.is 132) (S.is 133) (S.is 134) (S.is 135) (S.is 136) (S.is 137) (S.is 138) (S.is 139) (S.is 140) (S.is 141) (S.is 142) (S.is 143) (S.is 144) (S.is 145) (S.is 146) (S.is 147) (S.is 148) (S.is 149) L45 D45 E45 (S.is 150) (S.is 151) (S.is 152) (S.is 153) (S.is 154) (S.is 155) (S.is 156) (S.is 157) (S.is 158) (S.is 159) (S.is 160) (S.is 161) (S.is 162) (S.is 163) (S.is 164) L46 D46 E46 (S.is 165) (S.is 166) (S.is 167) (S.is 168) (S.is 169) (S.is 170) (S.is 171) (S.is 172) (S.is 173) (S.is 174) (S.is 175) (S.is 176) (S.is 177) (S.is 178) (S.is 179) (S.is 180) (S.is 181) (S.is 182) (S.is 183) (S.is 184) (S.is 185) (S.is 186) (S.is 187) (S.is 188) (S.is 189) (S.is 190) (S.is 191) (S.is 192) (S.is 193) (S.is 194) (S.is 195) (S.is 196) (S.is 197) (S.is 198) (S.is 199) (S.is 200) (S.is 201) (S.is 202) (S.is 203) (S.is 204) (S.is 205) (S.is 206) (S.is 207) (S.is 208) (S.is 209) (S.is 210) (S.is 211) (S.is 212)
end My
open PySem PySem.W PyProof.Rows
set_option Elab.async false
set_option maxRecDepth 1000000 in
set_option maxHeartbeats 0 in
theorem PySem.Challenge.cw_shuntplan_k73_neighbours_or_not_holds : PySem.Challenge.rw_shuntplan_k73_neighbours_or_not.Holds := by
  w_on; o_law
  refine Hm.holds_cut (H := Hm.hookF Hk.xs 4 Hk.ds Hk.fs Hk.tf) (ob := Hk.obS) (C := Hk.C) (q := Hk.qv) (loose := Hk.loose) (d := HandSHeadRun.topDef Hk.P 81) (kwd := []) (fun s => Hm.obsF_eq s) Hk.shown ?hdef ?hpr ?hkw ?hwr ?said ?okc ?bare ?prom ?walk
  case hdef => rfl
  case hpr => rfl
  case hkw => rfl
  case hwr => rfl
  case said => assumption
  case okc => decide +kernel
  case bare => exact ⟨rfl, rfl, rfl, rfl, rfl, by decide +kernel⟩
  case prom => w_witness2
  case walk => exact My.walk_GX (l := PySem.Challenge.rw_shuntplan_k73_neighbours_or_not) (n := 63) (k := 14) (x := "script") rfl (by decide) rfl ⟨rfl, by decide, by decide⟩ fun w mg fa h ⟨K, X, S⟩ G hmg => ⟨K, X, My.all_of X S G hmg⟩
