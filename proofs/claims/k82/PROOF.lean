import PyProof.Rows.All
import Wide.All
import OpenK.AllK
import Wide.FinOn
import HandS.ForMost
import HandS.Wide
import HandS.EndBits
import HandS.TupAny
import HandS.IsInst
import HandS.Evl
import HandS.SetBool
import HandS.SetKeys
import HandS.Strs
import HandS.DeepEq
import KE.KIndexOf
import HandS.ExcInit
import HandS.WordsExc
import HandS.Property
import HandS.ForExc
import HandS.TryMany
import HandS.ExcValue
import KE.KExcIs
import KE.KTryMore
import HandS.ExcField
import HandS.Lambda
import KE.SortData
import KE.DatumOrd
import HandS.More
import HandS.OwnEq
import HandS.SlotsOwn
import HandS.EndTab
import PySem.Challenge.RW_shuntplan_k82_families_or_not
set_option Elab.async false
set_option linter.all false
set_option maxRecDepth 100000
set_option maxHeartbeats 4000000
/-! Defs that show values: a promise that may lean on «nothing is being shown around the call», its callers, its end, and repr of data. -/
namespace My
open PySem PySem.Spec PyProof.Rows L2

/-- no value is being shown around here -/
def Still (A : Around) : Prop := A.guards = some []
theorem Still.deeper {A : Around} (h : Still A) (e : Env) : Still (A.deeper e) := h

section
variable (P : Program) (w : World) (K : PySem.W.Frag) (mg : Str → Option Value) (base : Heap) (CX : CXT)
/-- a def's promise, kept wherever nothing is being shown -/
structure FnG (k : Nat) (f : Addr) (fd : FuncData) (ps : List Str) (sp : Sp) : Prop where
  len : ∀ vs H Q E, sp vs H Q E → vs.length = ps.length
  run : ∀ (A : Around) (stk : List Env) (s : Shared) (H : Hp) (g : Args) (us : List Value) (vs : List V) (Q : VK) (E : XK), Still A → Room k A → Env0 P w K mg base A stk s H →
    BindsTo s fd g (ps.zip us) → Vals vs us → sp vs H Q E → codeAny (model P w) A (.call (.ref f) g) (CR CX stk P w H s Q E) s
end

section
variable {P : Program} {w : World} {K : PySem.W.Frag} {mg : Str → Option Value} {base : Heap} {CX : CXT}
theorem FnG.of {k : Nat} {f : Addr} {fd : FuncData} {ps : List Str} {sp : Sp} (F : FnOk P w K mg base CX k f fd ps sp) : FnG P w K mg base CX k f fd ps sp :=
  ⟨F.len, fun A stk s H g us vs Q E _ r e b v h => F.run A stk s H g us vs Q E r e b v h⟩
theorem FnG.mono {i k : Nat} {f : Addr} {fd : FuncData} {ps : List Str} {sp : Sp} (F : FnG P w K mg base CX i f fd ps sp) (h : i ≤ k) : FnG P w K mg base CX k f fd ps sp :=
  ⟨F.len, fun A stk s H g us vs Q E st r e b v q => F.run A stk s H g us vs Q E st (r.mono h) e b v q⟩
theorem FnG.imp {k : Nat} {f : Addr} {fd : FuncData} {ps : List Str} {sp sp' : Sp} (F : FnG P w K mg base CX k f fd ps sp) (h : ∀ vs H Q E, sp' vs H Q E → sp vs H Q E) : FnG P w K mg base CX k f fd ps sp' :=
  ⟨fun vs H Q E q => F.len vs H Q E (h _ _ _ _ q), fun A stk s H g us vs Q E st r e b v q => F.run A stk s H g us vs Q E st r e b v (h _ _ _ _ q)⟩
end

section
variable {X : Cx} {CX : CXT} {k : Nat} {f C : Addr} {fd : FuncData} {ps : List Str} {sp : Sp} {dvs : List V} {ds : List Value} {E : XK} {x : Str} {p pos : Pos} {e : Expr} {es : List Expr} {t : TA}
theorem runG {pins : List (Addr × Obj)} {σ : L2.St} {H : Hp} {s : Shared} {Q : VK} {us : List Value} {vs : List V} (F : FnG X.prog X.w X.K X.mg X.base CX k f fd ps sp) (st : Still X.A) (hr : Room k X.A)
    (hb : Binds X.K fd ps ds) (hd : Vals dvs ds) (hx : Passes CX X E) (I : Inv X pins σ H s) (rv : Vals vs us) (hp : sp (vs ++ dvs) H Q E) :
    wpAny (model X.prog X.w) X.A (call (.ref f) us) (EP X pins σ Q) X.xe s := by
  have all : Vals (vs ++ dvs) (us ++ ds) := rv.append hd
  have many : (us ++ ds).length = ps.length := all.length.symm.trans (F.len _ _ _ _ hp)
  refine wpAny_call (codeAny_mono (F.run X.A X.stack s H ⟨us, []⟩ (us ++ ds) (vs ++ dvs) Q E st hr I.env0 (hb s us I.kIn many) all hp) ?_)
  intro res s' end_
  match res, end_ with
  | .error er, z => exact hx pins σ H s er s' I z
  | .ok (.ret u), z => exact I.after z
  | .ok .next, z => exact z.elim
  | .ok .brk, z => exact z.elim
  | .ok .cont, z => exact z.elim

theorem pe_callG (F : FnG X.prog X.w X.K X.mg X.base CX k f fd ps sp) (st : Still X.A) (hr : Room k X.A) (hg : Gl X x) (hm : X.mg x = some (.ref f)) (kp : PySem.W.keepIn X.K (.ref f) = true)
    (hb : Binds X.K fd ps ds) (hd : Vals dvs ds) (hx : Passes CX X E) (ha : PA X (e :: es) t) (nd : (x == ("__debug__" : Str)) = false := by decide)
    (he : starEach (e :: es) X.env = (false, eval e X.env) :: starEach es X.env := by rfl) (hp : (backTo pos (starEach es X.env)).any (·.1) = false := by rfl) :
    PE X (.Call (.Name x p) (e :: es) [] pos) (tCall sp dvs E t) :=
  ⟨fun pins s σ H Q I q => wpAny_Call_Name_kw (ld_glob I hg hm
    (PySem.W.callWith_K (h₀ := X.base) I.ok.mod.kin kp (thn (ha.run pos pins s σ H _ I q) fun _ _ ⟨_, _, J, rv, z⟩ => ⟨J.kIn, runG F st hr hb hd hx J rv z⟩) he hp) nd)⟩
theorem pe_callG0 (F : FnG X.prog X.w X.K X.mg X.base CX k f fd ps sp) (st : Still X.A) (hr : Room k X.A) (hg : Gl X x) (hm : X.mg x = some (.ref f)) (kp : PySem.W.keepIn X.K (.ref f) = true)
    (hb : Binds X.K fd ps ds) (hd : Vals dvs ds) (hx : Passes CX X E) (nd : (x == ("__debug__" : Str)) = false := by decide) : PE X (.Call (.Name x p) [] [] pos) (tCall sp dvs E tNil) :=
  ⟨fun pins s σ H Q I q => wpAny_Call_Name_kw (ld_glob I hg hm (PySem.W.callWith_K0 I.kIn kp (runG (us := []) F st hr hb hd hx I .nil q)) nd)⟩
end

/-! ### a def by its body -/
theorem fn_ofG {CX : CXT} {P : Program} {w : World} {K : PySem.W.Frag} {mg : Str → Option Value} {base : Heap} {k : Nat} {f : Addr} {name qual : Str} {params : Arguments} {body : List Stmt} {sc : Scope} {dV kV doc pm cdv ct oc : Value} {an od : Option Addr}
    {osl : Array (Option Value)} {N ps : List Str} {sp : Sp} (lk : K.lookup f = some ⟨oc, od, .func (PySem.W.fnOf name qual params body sc dV kV doc pm an cdv ct), osl⟩) (hc : PySem.W.codeIn K cdv qual = true) (S : FnScope N ps sc)
    (len : ∀ vs H Q E, sp vs H Q E → vs.length = ps.length)
    (hbody : ∀ (A : Around) (stk : List Env) (s : Shared) (H : Hp) (vs : List V) (Q : VK) (E : XK), Still A → Room k (A.deeper (envOfC qual sc s.heap.objs.size f cdv)) → sp vs H Q E →
      ∃ t, PSs (cxOf CX P w K mg base N qual sc f cdv A stk s H E) body t ∧ t { nx := fun _ H' => Q .non H', rt := Q } (start N vs) H) :
    FnG P w K mg base CX (k + 1) f (PySem.W.fnOf name qual params body sc dV kV doc pm an cdv ct) ps sp := by
  refine ⟨len, fun A stk s H g us vs Q E st hr e0 hb rv hp => ?_⟩
  have many := len _ _ _ _ hp
  have keep : ∀ b o, base.get? b = some o → s.heap.get? b = some o := fun b o e => (e0.bs b o e).1
  have KX : K.In s.heap := e0.mod.kin.keeps keep
  have lim : s.heap.NoLimit := e0.mod.nolimit.keeps keep
  refine codeAny_call_function hr.depth (KX _ _ lk) rfl S.co S.gen rfl (PySem.W.codeRec_of KX hc) (hb _ _ _ _ (wpAny_newFunctionEnv_cells S.kind ?_ ?_))
  · rintro ⟨n, v⟩ hy
    rcases S.par n (List.of_mem_zip hy).1 with q | q
    · exact .inl q
    · exact .inr ⟨q, PySem.W.cellsFrom_some _ _ _ (.inl q)⟩
  · rintro env rfl s1 x
    obtain ⟨t, ht, hq⟩ := hbody A stk s H vs Q E st (hr.deeper _) hp
    refine ⟨lim.keeps x.toInCall.keep, codeAny_func (wpAny_mono (ht.run [] s1 (start N vs) H _ (inv_start S hr.hd e0 many rv x) hq) ?_ fun _ _ z => z)⟩
    intro fl s' z
    match fl, z with
    | .ret u, ⟨v, _, H', J, r, q⟩ => exact ⟨v, H', J.os, J.bare, J.base, J.hok, r, q⟩
    | .next, ⟨_, H', J, q⟩ => exact ⟨V.non, H', J.os, J.bare, J.base, J.hok, (rfl : Value.none = Value.none), q⟩
    | .brk, ⟨_, _, _, q⟩ => exact q.elim
    | .cont, ⟨_, _, _, q⟩ => exact q.elim

section
variable {P : Program} {w : World} {K : PySem.W.Frag} {mg : Str → Option Value} {base : Heap}
theorem okG {x qual : Str} {st : Stmt} {f : Addr} {fd : FuncData} {N ps : List Str} {k : Nat} {sp : Sp} (F : Fun K x qual st f fd) (S : FnScope N ps (defScope st)) (len : ∀ vs H Q E, sp vs H Q E → vs.length = ps.length)
    (hbody : ∀ (cdv : Value) (A : Around) (stk : List Env) (s : Shared) (H : Hp) (vs : List V) (Q : VK) (E : XK), Still A → Room k (A.deeper (envOfC qual (defScope st) s.heap.objs.size f cdv)) → sp vs H Q E →
      ∃ t, PSs (cxOf CX0 P w K mg base N qual (defScope st) f cdv A stk s H E).nox (defBody st) t ∧ t { nx := fun _ H' => Q .non H', rt := Q } (start N vs) H) : FnG P w K mg base CX0 (k + 1) f fd ps sp := by
  obtain ⟨oc, od, kV, doc, pm, an, cdv, ct, osl, rfl, lk, hc⟩ := F.ex
  exact fn_ofG lk hc S len fun A stk s H vs Q E sl hr hp => let ⟨t, h, q⟩ := hbody cdv A stk s H vs Q E sl hr hp; ⟨t, h.nox, q⟩
end

/-! ### repr of data -/
section
variable {X : Cx}
def rRepr (K : PySem.W.Frag) : List V → Hp → VK → Prop := fun xs H Q => ∃ v d, xs = [v] ∧ Dp K H v d ∧ d.showable = true ∧ d.depth ≤ 60 ∧ d.shown.length ≤ sizeLine ∧ Q (.str d.shown) H
mutual
theorem noDict {K : PySem.W.Frag} {H : Hp} : ∀ (d : PyData) (v : V), Dp K H v d → d.hasDict = false
  | .none, _, _ => by simp only [PyData.hasDict]
  | .bool _, _, _ => by simp only [PyData.hasDict]
  | .int _, _, _ => by simp only [PyData.hasDict]
  | .str _, _, _ => by simp only [PyData.hasDict]
  | .list ds, _, h => by
    cases h with
    | lst _ a =>
      simp only [PyData.hasDict]
      exact noDictAll ds _ a
  | .tuple ds, _, h => by
    cases h with
    | tup _ a =>
      simp only [PyData.hasDict]
      exact noDictAll ds _ a
  | .dict _, _, h => by cases h
theorem noDictAll {K : PySem.W.Frag} {H : Hp} : ∀ (ds : List PyData) (vs : List V), DpAll K H vs ds → PyData.hasDictAll ds = false
  | [], _, _ => by simp only [PyData.hasDictAll]
  | d :: ds, _, h => by
    cases h with
    | cons a b =>
      simp only [PyData.hasDictAll, noDict d _ a, noDictAll ds _ b]
      rfl
end
theorem inv_more {pins : List (Addr × Obj)} {σ : L2.St} {H : Hp} {s : Shared} {h' : Heap} {tk : Nat} (I : Inv X pins σ H s) (k : ∀ b o, s.heap.get? b = some o → h'.get? b = some o) : Inv X pins σ H { s with heap := h', toks := tk } :=
  I.un (Un.kept k) (I.hok.kept k)
theorem call_repr (hg : Still X.A) (hu : X.A.units + 64 < cLine) : CallR X (.builtin "repr") (rRepr X.K) := by
  intro pins s σ H xs us Q I r h
  obtain ⟨v, d, rfl, hd, hs, hdp, hz, q⟩ := h
  obtain ⟨u, rfl, rv⟩ := vals1 r
  have nd := noDict d v hd
  obtain ⟨as, rd⟩ := Dp.reads I d v u hd rv
  have fin : ∀ (h' : Heap) (t tk : Tok), (∀ b o, s.heap.get? b = some o → h'.get? b = some o) → EP X pins σ Q (.str d.shown t) { s with heap := h', toks := tk } :=
    fun h' t tk k => ⟨.str d.shown, H, inv_more I k, ⟨t, rfl⟩, q⟩
  cases hd with
  | non =>
    cases rv
    exact PySem.P.repr_of_none (by simpa only [PyData.shown] using fin s.heap _ _ fun _ _ e => e)
  | bl b =>
    cases rv
    exact PySem.P.repr_of_bool (by simpa only [PyData.shown] using fin s.heap _ _ fun _ _ e => e)
  | int i =>
    obtain ⟨t, rfl⟩ := rv
    exact PySem.P.repr_of_int (by simpa [PyData.showable] using hs) (by simpa only [PyData.shown] using fin s.heap _ _ fun _ _ e => e)
  | str x =>
    obtain ⟨t, rfl⟩ := rv
    exact PySem.P.repr_of_str (by simpa only [PyData.shown] using fin s.heap _ _ fun _ _ e => e) (by simpa only [PyData.shown] using hz)
  | lst _ _ =>
    cases rv
    exact PySem.repr_of_reads' rd hs (PyData.noDict_hsm nd) hg (by omega) (fun _ _ e => e) (fun h' u tk k => fin h' u tk k) hz
  | tup _ _ =>
    cases rv
    exact PySem.repr_of_reads' rd hs (PyData.noDict_hsm nd) hg (by omega) (fun _ _ e => e) (fun h' u tk k => fin h' u tk k) hz
end
end My
set_option Elab.async false
set_option linter.all false
set_option maxRecDepth 100000
set_option maxHeartbeats 4000000
/-! The end of a law whose def shows values. -/
namespace My
open PySem PySem.Spec PyProof.Rows L2

section
variable {P : Program} {w : World} {K : PySem.W.Frag} {mg mb : Str → Option Value} {CX : CXT} {k : Nat} {fa a : Addr} {fd : FuncData} {x : Str} {sp : Sp} {s : Shared} {vs : List Value} {ns : List Int}
/-- what the law's call asks of the state behind the top -/
structure Behind (K : PySem.W.Frag) (mg mb : Str → Option Value) (a : Addr) (vs : List Value) (s : Shared) : Prop where
  kin : K.In s.heap
  glob : s.heap.Ns mainGlobals mg
  blt : s.heap.Ns builtinsNs mb
  boot : ∀ y : Str, y ≠ "__name__" → mb y = bootBuiltins y
  lim : s.heap.NoLimit
  gens : s.gens = #[]
  ob : s.heap.get? a = some { cls := .type "list", data := .seq vs.toArray }
/-- the abstract heap in which at most the script is tracked -/
structure Bare (K : PySem.W.Frag) (a : Addr) (H : Hp) : Prop where
  only : Only H
  at_ : ∀ b, H b ≠ none → b = a
  free : H a ≠ none → K.lookup a = none
theorem law_at (B : Behind K mg mb a vs s) (hr : Room k callerA) (F : ∀ base : Heap, K.In base → base.Ns mainGlobals mg → FnG P w K mg base CX k fa fd [x] sp)
    (bind : ∀ (s : Shared) (u : Value), BindsTo s fd ⟨[u], []⟩ [(x, u)]) (hCX : ∀ H e s', CX [] H s (fun _ _ _ => False) e s' → False)
    (H : Hp) (W : Bare K a H) (hok : HOk P w H s.heap) (hp : sp [.ref a] H (fun v _ => v = .bl true) fun _ _ _ => False) :
    codeAny (model P w) callerA (.call (.ref fa) ⟨[.ref a], []⟩) (fun r s' => r = .ok (.ret (.bool true)) ∧ OldK s.heap s'.heap ∧ s'.os = s.os ∧ AllBare s'.gens) s := by
  have apart : ∀ {b : Addr} {o : Obj}, s.heap.get? b = some o → (b = a → H a = none) → (hidT s.heap H).get? b = some o := fun {b o} e z => hidT_get e (by
    by_cases q : H b = none
    · exact q
    · have ba := W.at_ b q
      rw [ba]
      exact z ba)
  have ns : ∀ {b : Addr} {m : Str → Option Value}, s.heap.Ns b m → (hidT s.heap H).Ns b m := fun {b m} ⟨o, es, ep, e, d, r⟩ => ⟨o, es, ep, apart e (fun z => by
    subst z
    rw [B.ob] at e
    cases e
    exact absurd d (fun q => nomatch q)), d, r⟩
  have kb : K.In (hidT s.heap H) := fun b o e => apart (B.kin b o e) (fun z => by
    subst z
    by_cases q : H b = none
    · exact q
    · have := W.free q
      rw [e] at this
      cases this)
  have md : Mod K mg (hidT s.heap H) := ⟨kb, ns B.glob, ⟨mb, ns B.blt, B.boot⟩, match B.lim with | ⟨m, p, q⟩ => ⟨m, ns p, q⟩⟩
  have e0 : Env0 P w K mg (hidT s.heap H) callerA [] s H :=
    { frames := rfl, mod := md, bs := fun _ _ e => of_hidT e, bsz := Nat.le_of_eq (hidT_size _ _), funs := trivial, frf := fun _ z => (List.not_mem_nil z).elim, hok := hok, bare := .of_eq B.gens }
  refine codeAny_mono ((F _ kb (ns B.glob)).run callerA [] s H ⟨[.ref a], []⟩ [.ref a] [.ref a] _ _ rfl hr e0 (bind s (.ref a)) (.cons rfl .nil) hp) ?_
  intro res s' z
  match res, z with
  | .error e, z => exact (hCX H e s' z).elim
  | .ok .next, z => exact z.elim
  | .ok .brk, z => exact z.elim
  | .ok .cont, z => exact z.elim
  | .ok (.ret u), ⟨v, H', os, bare, un, hok', rv, q⟩ =>
    subst q
    cases (show u = Value.bool true from rv)
    refine ⟨rfl, OldK.of_keep fun b o e => ?_, os, bare⟩
    rcases W.only b with z | ⟨ob, xs, z⟩
    · exact un.keep b o e z List.not_mem_nil List.not_mem_nil
    · have h1 := (hok b _ z).1
      have h2 := (hok' b _ (un.frzs b ob _ z)).1
      rw [e] at h1
      cases h1
      exact h2
theorem law_endG (B : Behind K mg mb a vs s) (hi : IntsAre vs ns) (hl : ns.length ≤ sizeLine) (hr : Room k callerA)
    (F : ∀ base : Heap, K.In base → base.Ns mainGlobals mg → FnG P w K mg base CX k fa fd [x] sp) (bind : ∀ (s : Shared) (u : Value), BindsTo s fd ⟨[u], []⟩ [(x, u)])
    (hsp : ∀ H : Hp, Only H → SqL K H a (ns.map V.int) → sp [.ref a] H (fun v _ => v = .bl true) fun _ _ _ => False) (hCX : ∀ H e s', CX [] H s (fun _ _ _ => False) e s' → False) :
    codeAny (model P w) callerA (.call (.ref fa) ⟨[.ref a], []⟩) (fun r s' => r = .ok (.ret (.bool true)) ∧ OldK s.heap s'.heap ∧ s'.os = s.os ∧ AllBare s'.gens) s := by
  have rv := vals_ints hi
  have le := hi.length
  have lm : (ns.map V.int).length ≤ sizeLine := by
    rw [List.length_map]
    exact hl
  cases q : K.lookup a with
  | some o =>
    have e := B.kin a o q
    rw [B.ob] at e
    cases e
    have hS : SqL K (fun _ => none) a (ns.map V.int) := .inr ⟨_, vs.toArray, _, q, rfl, rfl, rfl, by simpa using (le ▸ hl), by simpa using rv⟩
    exact law_at B hr F bind hCX (fun _ => none) ⟨fun _ => .inl rfl, fun _ z => absurd rfl z, fun z => absurd rfl z⟩ (fun _ _ z => nomatch z) (hsp _ (fun _ => .inl rfl) hS)
  | none =>
    let fz : HO := .frz { cls := .type "list", data := .seq vs.toArray } (.lst (ns.map V.int))
    have oth : ∀ b, b ≠ a → (fun c => if c = a then some fz else none : Hp) b = none := fun b z => if_neg z
    have own : (fun c => if c = a then some fz else none : Hp) a = some fz := if_pos rfl
    have on : Only (fun c => if c = a then some fz else none) := fun b => (Decidable.em (b = a)).elim (fun z => .inr ⟨{ cls := .type "list", data := .seq vs.toArray }, ns.map V.int, if_pos z⟩) fun z => .inl (oth b z)
    refine law_at B hr F bind hCX _ ⟨on, fun b z => Decidable.byContradiction fun y => z (oth b y), fun _ => q⟩ (fun b u z => ?_) (hsp _ on (.inl (.inr ⟨_, own⟩)))
    by_cases y : b = a
    · subst y
      rw [if_pos rfl] at z
      cases z
      exact ⟨B.ob, lm, vs, _, rv, B.ob⟩
    · rw [if_neg y] at z
      cases z
end
/-- the goal that the head leaves, from a promise that may lean on «nothing is being shown»; the script's bits are told -/
theorem walk_G {l : PySem.W.OpenLaw} {n k : Nat} {q : Program} {loose : List Str} {XP : (Str → Option Value) → Heap → Prop} {YP : World → Heap → Prop} {d : DefRec} {K : Params → PySem.W.Frag} {sp : PySem.W.Frag → Sp} {x : Str}
    (hn : l.most = some n) (h2 : n ≤ sizeLine) (hd : d.params.defaults = []) (hr : Room k callerA) (hY : ∀ (w : World) (h : Heap), YP w h → (K w.params).In h)
    (F : ∀ (w : World) (mg : Str → Option Value) (fa : Addr) (h : Heap), (K w.params).In h → h.Ns mainGlobals mg → mg d.name = some (.ref fa) →
      ∃ fd : FuncData, (∀ (s : Shared) (u : Value), BindsTo s fd ⟨[u], []⟩ [(x, u)]) ∧ ∀ base : Heap, (K w.params).In base → base.Ns mainGlobals mg → FnG l.prog w (K w.params) mg base CX0 k fa fd [x] (sp (K w.params)))
    (hsp : ∀ (K : PySem.W.Frag) (H : Hp) (a : Addr) (ns : List Int), ns.length ≤ n → (∀ z ∈ ns, Builtin.Int.intBits z ≤ 1048576) → SqL K H a (ns.map V.int) → sp K [.ref a] H (fun v _ => v = .bl true) fun _ _ _ => False) :
    PySem.W.WalkO q loose XP YP l.row.toRowW d [] (fun f vs => PySem.call f vs) :=
  Att.attach_callB hn hd fun w s₀ s mg mb fa o pm cd doc a vs ns G Y _ _ _ hmg hob hi hl hb hg =>
    let ⟨_, bd, hF⟩ := F w mg fa _ (hY w _ Y) G.T.g hmg
    law_endG ⟨hY w _ Y, G.T.g, G.T.b, G.T.builtins, G.T.nolimit, hg, hob⟩ hi (Nat.le_trans hl h2) hr hF bd (fun H _ hS => hsp _ H a ns hl hb hS) fun _ _ _ z => z
end My
set_option Elab.async false
set_option linter.all false
set_option maxRecDepth 100000
set_option maxHeartbeats 4000000
namespace My
open PySem PySem.Spec PyProof.Rows L2
def topS (i : Nat) : Stmt := PySem.Challenge.pw_shuntplan_k82_families_or_not.main.body.getD i (.Pass ⟨0, 0, 0, 0⟩)
abbrev sWall : Stmt := topS 0
abbrev sInvalidLayoutInit : Stmt := inClass (topS 2) 0
abbrev sInvalidNumberInit : Stmt := inClass (topS 3) 0
abbrev sInvalidFamilyInit : Stmt := inClass (topS 4) 0
abbrev sIsName : Stmt := topS 9
abbrev sIsNested : Stmt := topS 13
abbrev sLeavesOf : Stmt := topS 14
abbrev sPlacesOf : Stmt := topS 15
abbrev sIsFamily : Stmt := topS 16
abbrev sFamilyInit : Stmt := inClass (topS 17) 0
abbrev sFamilyLeaves : Stmt := inClass (topS 17) 1
abbrev sFamilyPlaces : Stmt := inClass (topS 17) 2
abbrev sFamilyLen : Stmt := inClass (topS 17) 3
abbrev sFamilyEq : Stmt := inClass (topS 17) 4
abbrev sPen : Stmt := topS 19
abbrev sDraw : Stmt := topS 20
abbrev sPick : Stmt := topS 21
abbrev sShuf : Stmt := topS 22
abbrev sLNames : Stmt := topS 23
abbrev sLAnyValue : Stmt := topS 24
abbrev sLName : Stmt := topS 25
abbrev sLFamilyTold : Stmt := topS 26
abbrev sLShape : Stmt := topS 27
abbrev sLEvenShape : Stmt := topS 28
abbrev sLFamily : Stmt := topS 29
abbrev sLLeaves : Stmt := topS 30
abbrev sLPlaces : Stmt := topS 31
abbrev sLDepth : Stmt := topS 32
abbrev sLIsFamily : Stmt := topS 33
abbrev sLBent : Stmt := topS 34
abbrev sLLine : Stmt := topS 35
abbrev sLaw : Stmt := topS 36
theorem scInvalidLayoutInit : FnScope ["self", "value"] ["self", "value"] (defScope sInvalidLayoutInit) := ⟨rfl, rfl, rfl, by decide +kernel, rfl, by decide +kernel, by decide +kernel⟩
theorem scInvalidNumberInit : FnScope ["self", "value"] ["self", "value"] (defScope sInvalidNumberInit) := ⟨rfl, rfl, rfl, by decide +kernel, rfl, by decide +kernel, by decide +kernel⟩
theorem scInvalidFamilyInit : FnScope ["self", "value"] ["self", "value"] (defScope sInvalidFamilyInit) := ⟨rfl, rfl, rfl, by decide +kernel, rfl, by decide +kernel, by decide +kernel⟩
theorem scIsName : FnScope ["value", "letter"] ["value"] (defScope sIsName) := ⟨rfl, rfl, rfl, by decide +kernel, rfl, by decide +kernel, by decide +kernel⟩
theorem scIsNested : FnScope ["value", "deep", "part"] ["value", "deep"] (defScope sIsNested) := ⟨rfl, rfl, rfl, by decide +kernel, rfl, by decide +kernel, by decide +kernel⟩
theorem scLeavesOf : FnScope ["shape", "left", "right"] ["shape"] (defScope sLeavesOf) := ⟨rfl, rfl, rfl, by decide +kernel, rfl, by decide +kernel, by decide +kernel⟩
theorem scPlacesOf : FnScope ["shape", "left", "right"] ["shape"] (defScope sPlacesOf) := ⟨rfl, rfl, rfl, by decide +kernel, rfl, by decide +kernel, by decide +kernel⟩
theorem scIsFamily : FnScope ["value", "leaves"] ["value"] (defScope sIsFamily) := ⟨rfl, rfl, rfl, by decide +kernel, rfl, by decide +kernel, by decide +kernel⟩
theorem scFamilyInit : FnScope ["self", "shape"] ["self", "shape"] (defScope sFamilyInit) := ⟨rfl, rfl, rfl, by decide +kernel, rfl, by decide +kernel, by decide +kernel⟩
theorem scFamilyLeaves : FnScope ["self"] ["self"] (defScope sFamilyLeaves) := ⟨rfl, rfl, rfl, by decide +kernel, rfl, by decide +kernel, by decide +kernel⟩
theorem scFamilyPlaces : FnScope ["self"] ["self"] (defScope sFamilyPlaces) := ⟨rfl, rfl, rfl, by decide +kernel, rfl, by decide +kernel, by decide +kernel⟩
theorem scFamilyLen : FnScope ["self"] ["self"] (defScope sFamilyLen) := ⟨rfl, rfl, rfl, by decide +kernel, rfl, by decide +kernel, by decide +kernel⟩
theorem scFamilyEq : FnScope ["self", "other"] ["self", "other"] (defScope sFamilyEq) := ⟨rfl, rfl, rfl, by decide +kernel, rfl, by decide +kernel, by decide +kernel⟩
theorem scPen : FnScope ["script"] ["script"] (defScope sPen) := ⟨rfl, rfl, rfl, by decide +kernel, rfl, by decide +kernel, by decide +kernel⟩
theorem scDraw : FnScope ["pen", "count", "digit", "index", "cell", "mixed"] ["pen", "count"] (defScope sDraw) := ⟨rfl, rfl, rfl, by decide +kernel, rfl, by decide +kernel, by decide +kernel⟩
theorem scPick : FnScope ["pen", "options"] ["pen", "options"] (defScope sPick) := ⟨rfl, rfl, rfl, by decide +kernel, rfl, by decide +kernel, by decide +kernel⟩
theorem scShuf : FnScope ["pen", "items", "left", "found"] ["pen", "items"] (defScope sShuf) := ⟨rfl, rfl, rfl, by decide +kernel, rfl, by decide +kernel, by decide +kernel⟩
theorem scLNames : FnScope ["pen", "many", "letters", "base", "first", "stride", "found", "k"] ["pen", "many"] (defScope sLNames) := ⟨rfl, rfl, rfl, by decide +kernel, rfl, by decide +kernel, by decide +kernel⟩
theorem scLAnyValue : FnScope ["pen", "some"] ["pen"] (defScope sLAnyValue) := ⟨rfl, rfl, rfl, by decide +kernel, rfl, by decide +kernel, by decide +kernel⟩
theorem scLName : FnScope ["value", "letters", "sign"] ["value"] (defScope sLName) := ⟨rfl, rfl, rfl, by decide +kernel, rfl, by decide +kernel, by decide +kernel⟩
theorem scLFamilyTold : FnScope ["call", "e"] ["call"] (defScope sLFamilyTold) := ⟨rfl, rfl, rfl, by decide +kernel, rfl, by decide +kernel, by decide +kernel⟩
theorem scLShape : FnScope ["pen", "names", "deep", "room", "low", "high", "at"] ["pen", "names", "deep"] (defScope sLShape) := ⟨rfl, rfl, rfl, by decide +kernel, rfl, by decide +kernel, by decide +kernel⟩
theorem scLEvenShape : FnScope ["names", "half"] ["names"] (defScope sLEvenShape) := ⟨rfl, rfl, rfl, by decide +kernel, rfl, by decide +kernel, by decide +kernel⟩
theorem scLFamily : FnScope ["pen", "most", "names"] ["pen", "most"] (defScope sLFamily) := ⟨rfl, rfl, rfl, by decide +kernel, rfl, by decide +kernel, by decide +kernel⟩
theorem scLLeaves : FnScope ["shape"] ["shape"] (defScope sLLeaves) := ⟨rfl, rfl, rfl, by decide +kernel, rfl, by decide +kernel, by decide +kernel⟩
theorem scLPlaces : FnScope ["shape"] ["shape"] (defScope sLPlaces) := ⟨rfl, rfl, rfl, by decide +kernel, rfl, by decide +kernel, by decide +kernel⟩
theorem scLDepth : FnScope ["shape", "left", "right"] ["shape"] (defScope sLDepth) := ⟨rfl, rfl, rfl, by decide +kernel, rfl, by decide +kernel, by decide +kernel⟩
theorem scLIsFamily : FnScope ["shape", "deep", "names"] ["shape"] (defScope sLIsFamily) := ⟨rfl, rfl, rfl, by decide +kernel, rfl, by decide +kernel, by decide +kernel⟩
theorem scLBent : FnScope ["pen", "shape", "at", "way", "part", "some"] ["pen", "shape"] (defScope sLBent) := ⟨rfl, rfl, rfl, by decide +kernel, rfl, by decide +kernel, by decide +kernel⟩
theorem scLLine : FnScope ["names", "found", "name"] ["names"] (defScope sLLine) := ⟨rfl, rfl, rfl, by decide +kernel, rfl, by decide +kernel, by decide +kernel⟩
theorem scLaw : FnScope ["script", "pen", "turn", "names", "shapes", "made", "told", "due", "tree", "same", "shape", "other", "twin"] ["script"] (defScope sLaw) := ⟨rfl, rfl, rfl, by decide +kernel, rfl, by decide +kernel, by decide +kernel⟩
end My
set_option Elab.async false
set_option linter.all false
set_option maxRecDepth 100000
set_option maxHeartbeats 4000000
namespace My
open PySem PySem.Spec PyProof.Rows L2

/-! ### the pen: where the drawing stands -/
def kCells : Key := .inr "cells"
def kTurn : Key := .inr "index"
def kRest : Key := .inr "left"
theorem k12 : ¬ kCells = kTurn := by decide +kernel
theorem k13 : ¬ kCells = kRest := by decide +kernel
theorem k23 : ¬ kTurn = kRest := by decide +kernel
def penL (c : Addr) (t r : Int) : List (Key × V) := [(kCells, .ref c), (kTurn, .int t), (kRest, .int r)]
theorem penL_cells (c : Addr) (t r : Int) : valV (penL c t r) kCells = some (.ref c) := valV_pos (p := (kCells, V.ref c)) rfl
theorem penL_turn (c : Addr) (t r : Int) : valV (penL c t r) kTurn = some (.int t) := (valV_neg (p := (kCells, V.ref c)) k12).trans (valV_pos (p := (kTurn, V.int t)) rfl)
theorem penL_rest (c : Addr) (t r : Int) : valV (penL c t r) kRest = some (.int r) :=
  ((valV_neg (p := (kCells, V.ref c)) k13).trans (valV_neg (p := (kTurn, V.int t)) k23)).trans (valV_pos (p := (kRest, V.int r)) rfl)
theorem put_turn (c : Addr) (t r y : Int) : putK (penL c t r) kTurn (.int y) = penL c y r := by
  unfold putK penL
  rw [if_pos (by simp)]
  simp only [List.map_cons, List.map_nil]
  rw [if_neg k12, if_pos trivial, if_neg fun z => k23 z.symm]
theorem put_rest (c : Addr) (t r y : Int) : putK (penL c t r) kRest (.int y) = penL c t y := by
  unfold putK penL
  rw [if_pos (by simp)]
  simp only [List.map_cons, List.map_nil]
  rw [if_neg k13, if_neg k23, if_pos trivial]
/-- at most n draws were made; the cells stand at c -/
structure PenAt (H : Hp) (p c : Addr) (n : Nat) : Prop where
  ex : ∃ (ns : List Int) (t r : Int), H p = some (.dK (penL c t r)) ∧ H c = some (.lst (ns.map V.int)) ∧ ns.length ≤ 63 ∧ 0 ≤ t ∧ t ≤ n
theorem PenAt.mono {H : Hp} {p c : Addr} {n m : Nat} (h : PenAt H p c n) (k : n ≤ m) : PenAt H p c m := let ⟨⟨ns, t, r, a, b, d, e, f⟩⟩ := h; ⟨⟨ns, t, r, a, b, d, e, by omega⟩⟩
theorem PenAt.ne {H : Hp} {p c : Addr} {n : Nat} (h : PenAt H p c n) : c ≠ p := let ⟨⟨_, _, _, a, b, _⟩⟩ := h; ne_of b a (fun z => nomatch z)
theorem penAt_of {H : Hp} {p c : Addr} {n : Nat} {kvs : List (Key × V)} {ns : List Int} {t r : Int} (e : kvs = penL c t r) (h : H p = some (.dK kvs)) (hc : H c = some (.lst (ns.map V.int))) (hl : ns.length ≤ 63) (h0 : 0 ≤ t) (h1 : t ≤ n) : PenAt H p c n :=
  ⟨⟨ns, t, r, e ▸ h, hc, hl, h0, h1⟩⟩
/-- all that was tracked is as it was, but the pen -/
def SameP (p : Addr) (H H' : Hp) : Prop := ∀ b o, b ≠ p → H b = some o → H' b = some o
theorem SameP.refl (p : Addr) (H : Hp) : SameP p H H := fun _ _ _ h => h
theorem SameP.trans {p : Addr} {H H1 H2 : Hp} (a : SameP p H H1) (b : SameP p H1 H2) : SameP p H H2 := fun c o n h => b c o n (a c o n h)
theorem SameP.of {p : Addr} {H H' : Hp} (a : Same H H') : SameP p H H' := fun c o _ h => a c o h
theorem same_new {H : Hp} {q : Addr} {o : HO} (h : H q = none) : Same H (upd H q o) := fun b x e => by rw [upd_ne (ne_of_none e h)]; exact e
theorem SameP.new {p : Addr} {H : Hp} {q : Addr} {o : HO} (h : H q = none) : SameP p H (upd H q o) := .of (same_new h)
theorem SameP.pen {p : Addr} {H : Hp} {o : HO} : SameP p H (upd H p o) := fun b x n e => by rw [upd_ne n]; exact e
theorem PenAt.same {H H' : Hp} {p c : Addr} {n : Nat} (h : PenAt H p c n) (s : Same H H') : PenAt H' p c n := let ⟨⟨ns, t, r, a, b, d, e, f⟩⟩ := h; ⟨⟨ns, t, r, s _ _ a, s _ _ b, d, e, f⟩⟩

/-! ### the draw's numbers -/
theorem mod_lo (a : Int) {b : Int} (h : 0 < b) : 0 ≤ a % b := Int.emod_nonneg a (by omega)
theorem mod_hi (a : Int) {b : Int} (h : 0 < b) : a % b < b := Int.emod_lt_of_pos a h
def primesL : List Int := [2147483629, 2147483647, 2147483563, 2147483587, 2147483579]
theorem prime_at (t : Int) : ∃ q : Int, atI (primesL.map V.int) (t % 5) = some (.int q) ∧ 0 < q ∧ q < 2147483648 := by
  have h1 := mod_lo t (b := 5) (by decide)
  have h2 := mod_hi t (b := 5) (by decide)
  have h3 : t % 5 = 0 ∨ t % 5 = 1 ∨ t % 5 = 2 ∨ t % 5 = 3 ∨ t % 5 = 4 := by omega
  rcases h3 with e | e | e | e | e <;> rw [e]
  · exact ⟨2147483629, rfl, by decide, by decide⟩
  · exact ⟨2147483647, rfl, by decide, by decide⟩
  · exact ⟨2147483563, rfl, by decide, by decide⟩
  · exact ⟨2147483587, rfl, by decide, by decide⟩
  · exact ⟨2147483579, rfl, by decide, by decide⟩
theorem cmul_l {i j : Int} (h0 : 0 ≤ i) (h1 : i ≤ 10 ^ 19) : CMul i j := .inl ⟨by omega, by
  have h : (10 : Int) ^ 19 < 2 ^ 64 := by decide
  exact Int.lt_of_le_of_lt h1 h⟩

/-! ### lists of ints as data -/
theorem dp_ints (K : PySem.W.Frag) (H : Hp) : ∀ ns : List Int, DpAll K H (ns.map V.int) (ns.map PyData.int)
  | [] => .nil
  | n :: r => .cons (.int n) (dp_ints K H r)
theorem lay_ints : ∀ ns : List Int, PyData.canLayAll0 (ns.map PyData.int) = true
  | [] => by simp only [List.map_nil, PyData.canLayAll0]
  | n :: r => by simp only [List.map_cons, PyData.canLayAll0, PyData.canLay0, lay_ints r, Bool.and_self]
theorem depth_ints : ∀ ns : List Int, PyData.depthAll (ns.map PyData.int) = 0
  | [] => by simp only [List.map_nil, PyData.depthAll]
  | n :: r => by simp only [List.map_cons, PyData.depthAll, PyData.depth, depth_ints r, Nat.max_self]
theorem shaped_ints (ns : List Int) : SeqAt.shaped (.list (ns.map PyData.int)) = true := by
  unfold SeqAt.shaped
  simp only [PyData.canLay0, lay_ints, PyData.depth, depth_ints]
  decide
theorem eqv_nil (ds : List PyData) : PyData.eqv (.list ds) (.list []) = ds.isEmpty := by
  cases ds <;> simp only [PyData.eqv, PyData.eqvAll, List.isEmpty]

section
variable {P : Program} {w : World} {K : PySem.W.Frag} {mg : Str → Option Value} {base : Heap}
/-- a number below size is drawn; nothing but the pen is touched -/
def spDraw : Sp := fun vs H Q _ => ∃ (p c : Addr) (n : Nat) (size : Int), vs = [.ref p, .int size] ∧ PenAt H p c n ∧ n ≤ 1000000000 ∧ 0 < size ∧ size < 1073741824 ∧
  ∀ (d : Int) (H' : Hp), 0 ≤ d → d < size → SameP p H H' → PenAt H' p c (n + 1) → Q (.int d) H'
theorem ok_draw {f : Addr} {fd : FuncData} {k : Nat} (F : Fun K "_law_draw" "_law_draw" sDraw f fd) (ml : mg "len" = none) (ma : mg "abs" = none) : FnOk P w K mg base CX0 (k + 1) f fd ["pen", "count"] spDraw := by
  refine F.ok scDraw (fun vs H Q E h => ?_) (fun cdv A outer s H vs Q E hr h => ?_)
  · obtain ⟨p, c, n, size, rfl, _⟩ := h
    rfl
  · obtain ⟨p, c, n, size, rfl, ⟨⟨ns, t, r, hp, hc, hlen, t0, tn⟩⟩, hn, s0, s1, q⟩ := h
    have hu := hu_of hr
    have hcp : c ≠ p := ne_of hc hp (fun z => nomatch z)
    refine ⟨_, pss_cons (ps_if (pt_cmpR op_gt (pe_dget hu (pv 0) pe_str (fun _ _ => rfl)) pe_int (nomark _))
        (pss_cons (ps_set (i := 2) scDraw.nd rfl (.inl rfl) (pe_op op_mod (pe_dget hu (pv 0) pe_str (fun _ _ => rfl)) (pv 1)))
        (pss_cons (ps_dput hu (pv 0) pe_str (pe_op op_fdiv (pe_dget hu (pv 0) pe_str (fun _ _ => rfl)) (pv 1)) rfl)
        (pss_one (ps_ret (pv 2))))) pss_nil)
      (pss_cons (ps_set (i := 3) scDraw.nd rfl (.inl rfl) (pe_dget hu (pv 0) pe_str (fun _ _ => rfl)))
      (pss_cons (ps_dput hu (pv 0) pe_str (pe_op op_add (pv 3) pe_int) rfl)
      (pss_cons (ps_set (i := 4) scDraw.nd rfl (.inl rfl) (pe_op op_add (pe_op op_mul pe_int (pv 3)) pe_int))
      (Evl.pss_cut (ps_if (pt_cmpR (op_neD hr.units) (pe_dget hu (pv 0) pe_str (fun _ _ => rfl)) (pe_lst pa_nil) (nomark _))
        (pss_one (ps_set (i := 4) scDraw.nd rfl (.inl rfl) (pe_ix ix_list (pe_dget hu (pv 0) pe_str (fun _ _ => rfl)) (pe_op op_mod (pv 3) (pe_callB call_len_seq (by rfl) ml PySem.boot_len (pa_cons (pe_dget hu (pv 0) pe_str (fun _ _ => rfl)) pa_nil))) (fun _ _ => rfl)))) pss_nil)
      (Evl.pss_cut (ps_if (PW.pt (pw_and (pt_cmpR op_lt (pv 3) (pe_callB call_len_seq (by rfl) ml PySem.boot_len (pa_cons (pe_dget hu (pv 0) pe_str (fun _ _ => rfl)) pa_nil)) (nomark _))
            (pw_and1 (pt_cmpR op_ge (pe_callB call_abs (by rfl) ma (by decide +kernel) (pa_cons (pv 4) pa_nil)) (pe_op op_pow pe_int pe_int) (nomark _)))))
          (pss_cons (ps_dput hu (pv 0) pe_str (pe_op op_fdiv (pe_op op_sub (pe_callB call_abs (by rfl) ma (by decide +kernel) (pa_cons (pv 4) pa_nil)) (pe_op op_pow pe_int pe_int)) (pv 1)) rfl)
          (pss_one (ps_ret (pe_op op_mod (pe_op op_sub (pe_callB call_abs (by rfl) ma (by decide +kernel) (pa_cons (pv 4) pa_nil)) (pe_op op_pow pe_int pe_int)) (pv 1))))) pss_nil)
      (pss_cons (ps_set (i := 5) scDraw.nd rfl (.inl rfl) (pe_op op_add (pe_op op_mul (pe_op op_mod (pv 4) pe_int) pe_int) (pe_op op_mul (pe_op op_mul pe_int (pv 3)) (pv 3))))
      (pss_cons (ps_set (i := 5) scDraw.nd rfl (.inl rfl) (pe_op op_mod (pe_op op_add (pe_op op_add (pv 5) (pe_op op_mul pe_int (pv 3))) pe_int) pe_int))
      (pss_cons (ps_set (i := 5) scDraw.nd rfl (.inl rfl) (pe_op op_mod (pe_op op_add (pe_op op_add (pe_op op_add (pe_op op_mul (pv 5) (pv 5)) (pe_op op_mul pe_int (pv 5))) (pe_op op_mul pe_int (pv 3))) pe_int) pe_int))
      (pss_one (ps_ret (pe_op op_mod (pe_op op_fdiv (pe_op op_mod (pe_op op_mul (pv 5) (pe_op op_add (pv 5) pe_int)) pe_int) pe_int) (pv 1)))))))))))), ?_⟩
    -- if pen['rest'] > 0
    refine ⟨_, rfl, p, _, rfl, penL_rest c t r ▸ DGet.k (k := kRest) hp, r, 0, rfl, rfl, _, rfl, ite2 (fun _ => ?_) (fun _ => ?_)⟩
    · refine ⟨_, rfl, p, _, rfl, penL_rest c t r ▸ DGet.k (k := kRest) hp, _, rfl, r, size, rfl, rfl, s0, ?_⟩
      refine ⟨_, rfl, p, _, rfl, penL_rest c t r ▸ DGet.k (k := kRest) hp, _, rfl, r, size, rfl, rfl, ⟨s0, s1⟩, _, rfl, p, _, rfl, DPut.k (k := kRest) hp (by show 3 < sizeLine; decide), ?_⟩
      exact ⟨_, rfl, q _ _ (mod_lo r s0) (mod_hi r s0) SameP.pen (penAt_of (put_rest c t r _) upd_same ((upd_ne hcp).trans hc) hlen t0 (by omega))⟩
    -- turn = pen['turn']; pen['turn'] = turn + 1; cell = 61 * turn + 17
    · refine ⟨_, rfl, p, _, rfl, penL_turn c t r ▸ DGet.k (k := kTurn) hp, ?_⟩
      refine ⟨_, rfl, _, _, rfl, rfl, _, rfl, p, _, rfl, DPut.k (k := kTurn) hp (by show 3 < sizeLine; decide), ?_⟩
      rw [put_turn]
      generalize hH1 : upd H p (.dK (penL c (t + 1) r)) = H1
      have p1 : H1 p = some (.dK (penL c (t + 1) r)) := by rw [← hH1, upd_same]
      have c1 : H1 c = some (.lst (ns.map V.int)) := by rw [← hH1, upd_ne hcp]; exact hc
      have sm : SameP p H H1 := by rw [← hH1]; exact SameP.pen
      refine ⟨_, rfl, _, _, rfl, rfl, .inl ⟨by decide, by decide⟩, _, _, rfl, rfl, ?_⟩
      -- if pen['cells'] != []
      refine ⟨fun σ H2 => ∃ cell : Int, σ = [some (.ref p), some (.int size), none, some (.int t), some (.int cell), none] ∧ Same H1 H2, ?_, ?_⟩
      · refine ⟨_, rfl, p, _, rfl, penL_cells c (t + 1) r ▸ DGet.k (k := kCells) p1, by show 0 ≤ sizeLine; decide, fun l hl => ?_⟩
        have sl : Same H1 (upd H1 l (.lst [])) := same_new hl
        have c2 := sl _ _ c1
        have p2 := sl _ _ p1
        refine ⟨.list (ns.map PyData.int), .list [], .lst (.inl (.inl c2)) (dp_ints K _ ns), .lst (.inl (.inl upd_same)) .nil, shaped_ints ns, shaped_ints [], _, rfl, ?_⟩
        rw [eqv_nil]
        cases ns with
        | nil => exact iteF ⟨_, rfl, sl⟩
        | cons n0 nr =>
          refine iteT ?_
          have lp : (0 : Int) < (((n0 :: nr).map V.int).length : Int) := by simp
          obtain ⟨j, hj⟩ : ∃ j : Nat, t % (((n0 :: nr).map V.int).length : Int) = (j : Int) := ⟨(t % (((n0 :: nr).map V.int).length : Int)).toNat, by have := mod_lo t lp; omega⟩
          have hjl : j < (n0 :: nr).length := by
            have h2 := mod_hi t lp
            rw [hj, List.length_map] at h2
            omega
          refine ⟨_, rfl, p, _, rfl, penL_cells c (t + 1) r ▸ DGet.k (k := kCells) p2, _, rfl, _, rfl, p, _, rfl, penL_cells c (t + 1) r ▸ DGet.k (k := kCells) p2, c, _, rfl, .inl (.inl (.inl c2)), t, _, rfl, rfl, lp, ?_⟩
          refine ⟨c, _, _, .int (n0 :: nr)[j], rfl, rfl, .inl (.inl c2), ?_, ⟨_, rfl, sl⟩⟩
          rw [hj]
          refine atI_nat ?_
          rw [List.getElem?_map, List.getElem?_eq_getElem hjl]
          rfl
      · -- if turn < len(cells) and abs(cell) >= 10 ** 18
        rintro σ H2 ⟨cell, rfl, s2⟩
        have c2 := s2 _ _ c1
        have p2 := s2 _ _ p1
        have sm2 : SameP p H H2 := sm.trans (.of s2)
        refine ⟨fun σ H3 => σ = [some (.ref p), some (.int size), none, some (.int t), some (.int cell), none] ∧ H3 = H2, ?_, ?_⟩
        · refine ⟨_, rfl, _, rfl, p, _, rfl, penL_cells c (t + 1) r ▸ DGet.k (k := kCells) p2, c, _, rfl, .inl (.inl (.inl c2)), _, _, rfl, rfl, _, rfl, ite2 (fun _ => ?_) (fun _ => iteF ⟨rfl, rfl⟩)⟩
          refine ⟨_, rfl, _, rfl, _, _, rfl, rfl, ⟨by decide, by decide, by decide⟩, _, _, rfl, rfl, _, rfl, ite2 (fun _ => ?_) (fun _ => ⟨rfl, rfl⟩)⟩
          refine ⟨_, rfl, _, rfl, _, _, rfl, rfl, ⟨by decide, by decide, by decide⟩, _, _, rfl, rfl, _, rfl, _, _, rfl, rfl, ⟨s0, s1⟩, _, rfl, p, _, rfl, DPut.k (k := kRest) p2 (by show 3 < sizeLine; decide), ?_⟩
          refine ⟨_, rfl, _, rfl, _, _, rfl, rfl, ⟨by decide, by decide, by decide⟩, _, _, rfl, rfl, _, rfl, _, _, rfl, rfl, s0, ?_⟩
          exact q _ _ (mod_lo _ s0) (mod_hi _ s0) (sm2.trans SameP.pen) (penAt_of (put_rest c (t + 1) r _) upd_same ((upd_ne hcp).trans c2) hlen (by omega) (by omega))
        · rintro σ H3 ⟨rfl, rfl⟩
          have tb : t ≤ 1000000000 := by omega
          have m1 := mod_lo cell (b := 2147483629) (by decide)
          have m2 := mod_hi cell (b := 2147483629) (by decide)
          -- mixed
          refine ⟨_, rfl, _, _, rfl, rfl, (by show (0 : Int) < 2147483629; decide), _, _, rfl, rfl, cmul_l m1 (by omega), _, rfl, _, _, rfl, rfl, cmul_l (by decide) (by decide), _, rfl, _, _, rfl, rfl, cmul_l (by omega) (by omega), _, _, rfl, rfl, ?_⟩
          have lt1 : ∀ a : Int, a % 2147483647 ≤ 10 ^ 19 := fun a => Int.le_trans (Int.le_of_lt (mod_hi a (by decide))) (by decide)
          have lt2 : ∀ a : Int, a % 2147483587 ≤ 10 ^ 19 := fun a => Int.le_trans (Int.le_of_lt (mod_hi a (by decide))) (by decide)
          refine ⟨_, rfl, _, rfl, _, _, rfl, rfl, cmul_l (by decide) (by decide), _, _, rfl, rfl, _, _, rfl, rfl, _, _, rfl, rfl, (by show (0 : Int) < 2147483647; decide), ?_⟩
          refine ⟨_, rfl, _, rfl, _, _, rfl, rfl, cmul_l (mod_lo _ (by decide)) (lt1 _), _, rfl, _, _, rfl, rfl, cmul_l (by decide) (by decide), _, _, rfl, rfl, _, rfl, _, _, rfl, rfl, cmul_l (by decide) (by decide), _, _, rfl, rfl, _, _, rfl, rfl, _, _, rfl, rfl, (by show (0 : Int) < 2147483587; decide), ?_⟩
          refine ⟨_, rfl, _, rfl, _, _, rfl, rfl, _, _, rfl, rfl, cmul_l (mod_lo _ (by decide)) (lt2 _), _, _, rfl, rfl, (by show (0 : Int) < 2147483563; decide), _, _, rfl, rfl, ⟨by decide, by decide⟩, _, rfl, _, _, rfl, rfl, s0, ?_⟩
          exact q _ _ (mod_lo _ s0) (mod_hi _ s0) sm2 (penAt_of (t := t + 1) (r := r) rfl p2 c2 hlen (by omega) (by omega))
end
/-! ### what stays when a pen draws -/
theorem sameP_ne {p c : Addr} {H : Hp} {n : Nat} (g : PenAt H p c n) {a : Addr} {o : HO} (e : H a = some o) (h : ∀ kvs, o ≠ .dK kvs) : a ≠ p := by
  obtain ⟨⟨_, _, _, hp, _⟩⟩ := g
  rintro rfl
  rw [e] at hp
  exact h _ (Option.some.inj hp)
section
variable {K : PySem.W.Frag} {H H' : Hp} {p c : Addr} {n : Nat}
theorem SameP.lst (s : SameP p H H') (g : PenAt H p c n) {a : Addr} {xs : List V} (e : H a = some (.lst xs)) : H' a = some (.lst xs) := s _ _ (sameP_ne g e fun _ z => nomatch z) e
theorem SameP.tup (s : SameP p H H') (g : PenAt H p c n) {a : Addr} {xs : List V} (e : H a = some (.tup xs)) : H' a = some (.tup xs) := s _ _ (sameP_ne g e fun _ z => nomatch z) e
theorem SameP.sqL (s : SameP p H H') (g : PenAt H p c n) {a : Addr} {xs : List V} (e : SqL K H a xs) : SqL K H' a xs := by
  rcases e with (e | ⟨o, e⟩) | e
  · exact .inl (.inl (s.lst g e))
  · exact .inl (.inr ⟨o, s _ _ (sameP_ne g e fun _ z => nomatch z) e⟩)
  · exact .inr e
theorem SameP.sqT (s : SameP p H H') (g : PenAt H p c n) {a : Addr} {xs : List V} (e : SqT K H a xs) : SqT K H' a xs := by
  rcases e with (e | ⟨o, e⟩) | e
  · exact .inl (.inl (s.tup g e))
  · exact .inl (.inr ⟨o, s _ _ (sameP_ne g e fun _ z => nomatch z) e⟩)
  · exact .inr e
/-- lists and tuples that were read are read so again -/
structure Keeps (K : PySem.W.Frag) (H H' : Hp) : Prop where
  l : ∀ a xs, SqL K H a xs → SqL K H' a xs
  t : ∀ a xs, SqT K H a xs → SqT K H' a xs
theorem SameP.keeps (s : SameP p H H') (g : PenAt H p c n) : Keeps K H H' := ⟨fun _ _ e => s.sqL g e, fun _ _ e => s.sqT g e⟩
theorem _root_.L2.Same.keeps (s : Same H H') : Keeps K H H' := ⟨fun _ _ e => s.seq e, fun a xs e => by
  rcases e with (e | ⟨o, e⟩) | e
  · exact .inl (.inl (s _ _ e))
  · exact .inl (.inr ⟨o, s _ _ e⟩)
  · exact .inr e⟩
mutual
theorem dp_keep (s : Keeps K H H') : ∀ (d : PyData) (v : V), Dp K H v d → Dp K H' v d
  | .none, _, h => by cases h; exact .non
  | .bool _, _, h => by cases h; exact .bl _
  | .int _, _, h => by cases h; exact .int _
  | .str _, _, h => by cases h; exact .str _
  | .list ds, _, h => by
    cases h with
    | lst a b => exact .lst (s.l _ _ a) (dp_keepAll s ds _ b)
  | .tuple ds, _, h => by
    cases h with
    | tup a b => exact .tup (s.t _ _ a) (dp_keepAll s ds _ b)
  | .dict _, _, h => by cases h
theorem dp_keepAll (s : Keeps K H H') : ∀ (ds : List PyData) (vs : List V), DpAll K H vs ds → DpAll K H' vs ds
  | [], _, h => by cases h; exact .nil
  | d :: ds, _, h => by
    cases h with
    | cons a b => exact .cons (dp_keep s d _ a) (dp_keepAll s ds _ b)
end
/-- a list, a tuple, a text, by its items -/
inductive SeqOf (K : PySem.W.Frag) (H : Hp) : V → List V → Prop
  | lst {a : Addr} {xs : List V} : SqL K H a xs → SeqOf K H (.ref a) xs
  | tup {a : Addr} {xs : List V} : SqT K H a xs → SeqOf K H (.ref a) xs
  | str {z : Str} : z.length ≤ sizeLine → SeqOf K H (.str z) (z.cps.toList.map fun c => .str ⟨#[c]⟩)
theorem SeqOf.keep (s : Keeps K H H') {x : V} {xs : List V} (h : SeqOf K H x xs) : SeqOf K H' x xs := by
  cases h with
  | lst e => exact .lst (s.l _ _ e)
  | tup e => exact .tup (s.t _ _ e)
  | str e => exact .str e
theorem SeqOf.len {x : V} {xs : List V} (h : SeqOf K H x xs) : LenV K x H xs.length := by
  cases h with
  | lst e => exact .inl ⟨_, e, rfl⟩
  | tup e => exact .inr ⟨_, e, rfl⟩
  | @str z e =>
    refine ⟨e, ?_⟩
    rw [List.length_map, Array.length_toList]
    rfl
theorem SeqOf.ix {x : V} {xs : List V} (h : SeqOf K H x xs) {i : Nat} {v : V} (hi : xs[i]? = some v) {Q : VK} (q : Q v H) : rIx K x (.int i) H Q := by
  cases h with
  | lst e => exact .inl ⟨_, _, _, _, rfl, rfl, e, atI_nat hi, q⟩
  | tup e => exact .inr (.inl ⟨_, _, _, _, rfl, rfl, e, atI_nat hi, q⟩)
  | @str z e =>
    rw [List.getElem?_map] at hi
    obtain ⟨cd, h1, rfl⟩ := Option.map_eq_some_iff.mp hi
    exact .inr (.inr ⟨_, _, _, rfl, rfl, e, atI_nat h1, q⟩)
end

section
variable {P : Program} {w : World} {K : PySem.W.Frag} {mg : Str → Option Value} {base : Heap}
/-- one of the options -/
def spPick (K : PySem.W.Frag) : Sp := fun vs H Q _ => ∃ (p c : Addr) (n : Nat) (o : V) (xs : List V), vs = [.ref p, o] ∧ PenAt H p c n ∧ n ≤ 1000000000 ∧ SeqOf K H o xs ∧ 0 < xs.length ∧ xs.length < 1073741824 ∧
  ∀ (i : Nat) (v : V) (H' : Hp), xs[i]? = some v → SameP p H H' → PenAt H' p c (n + 1) → Q v H'
theorem ok_pick {f fD : Addr} {fd fdD : FuncData} {k : Nat} (F : Fun K "_law_pick" "_law_pick" sPick f fd) (ml : mg "len" = none) (GD : FnOk P w K mg base CX0 k fD fdD ["pen", "count"] spDraw) (gD : mg "_law_draw" = some (.ref fD)) (kD : PySem.W.keepIn K (.ref fD) = true)
    (bD : Binds K fdD ["pen", "count"] []) : FnOk P w K mg base CX0 (k + 1) f fd ["pen", "options"] (spPick K) := by
  refine F.ok scPick (fun vs H Q E h => ?_) (fun cdv A outer s H vs Q E hr h => ?_)
  · obtain ⟨p, c, n, o, xs, rfl, _⟩ := h
    rfl
  · obtain ⟨p, c, n, o, xs, rfl, G, hn, hx, h0, h1, q⟩ := h
    refine ⟨_, pss_one (ps_ret (pe_ix ix_seq (pv 1) (pe_call GD hr (by rfl) gD kD bD .nil pass0 (pa_cons (pv 0) (pa_cons (pe_callB call_len (by rfl) ml PySem.boot_len (pa_cons (pv 1) pa_nil)) pa_nil))) (fun _ _ => rfl))), ?_⟩
    refine ⟨_, rfl, _, rfl, _, rfl, o, xs.length, rfl, hx.len, p, c, n, _, rfl, G, hn, by omega, by omega, fun d H' d0 d1 s G' => ?_⟩
    obtain ⟨i, rfl⟩ : ∃ i : Nat, d = (i : Int) := ⟨d.toNat, by omega⟩
    have hi : i < xs.length := by omega
    exact SeqOf.ix (hx.keep (s.keeps G)) (List.getElem?_eq_getElem hi) (q i _ H' (List.getElem?_eq_getElem hi) s G')
end
end My
set_option Elab.async false
set_option linter.all false
set_option maxRecDepth 100000
set_option maxHeartbeats 4000000
/-! xs != [], t != (), == likewise, whatever the items are. -/
namespace My
open PySem PySem.Spec PyProof.Rows L2 SeqAt
section
variable {X : Cx}
/-- a list beside an empty list, a tuple beside an empty tuple -/
def rNil (K : PySem.W.Frag) (f : Bool → Bool) : R2 := fun x y H Q => ∃ a b xs, x = .ref a ∧ y = .ref b ∧ ((SqL K H a xs ∧ SqL K H b []) ∨ (SqT K H a xs ∧ SqT K H b [])) ∧ Q (.bl (f xs.isEmpty)) H
theorem vals_nil {its : List Value} (r : Vals [] its) : its = [] := by cases r; rfl
theorem vals_emp {xs : List V} {its : List Value} (r : Vals xs its) : (its.toArray.size == 0) = xs.isEmpty := by
  cases r <;> rfl
theorem op_neNil (hu : X.A.units + 64 < cLine) : OpR X (compareOp .NotEq) (rNil X.K not) := by
  intro pins s σ H x y v u Q I rx ry h
  obtain ⟨a, b, xs, rfl, rfl, h, q⟩ := h
  cases rx
  cases ry
  rcases h with ⟨ha, hb⟩ | ⟨ha, hb⟩
  · obtain ⟨its, rv, ⟨o, n, ho, hc, _, hd⟩, _⟩ := I.list ha
    obtain ⟨its2, rv2, ⟨o2, n2, ho2, hc2, _, hd2⟩, _⟩ := I.list hb
    cases vals_nil rv2
    have l1 : s.heap.IsList a its.toArray := ⟨o, ho, hc, n, hd⟩
    have l2 : s.heap.IsList b #[] := ⟨o2, ho2, hc2, n2, hd2⟩
    cases rv with
    | nil => exact RcNeAt.lists (e := fun _ => true) l1 l2 rfl (by omega) (fun j h1 => absurd h1 (Nat.not_lt_zero j)) _ _ _ _ ⟨.bl _, H, I, rfl, q⟩
    | cons r t => exact RcNeAt.lists_lengths l1 l2 (by simp) (by omega) _ _ _ _ ⟨.bl _, H, I, rfl, q⟩
  · obtain ⟨its, rv, ⟨o, ho, hc, n, hd⟩, _⟩ := I.tuple ha
    obtain ⟨its2, rv2, ⟨o2, ho2, hc2, n2, hd2⟩, _⟩ := I.tuple hb
    cases vals_nil rv2
    have l1 : s.heap.IsTuple a its.toArray := ⟨o, ho, hc, n, hd⟩
    have l2 : s.heap.IsTuple b #[] := ⟨o2, ho2, hc2, n2, hd2⟩
    refine RcNeAt.tuples (e := fun _ => true) l1 l2 (by omega) (fun j _ h2 => absurd h2 (Nat.not_lt_zero j)) _ _ _ _ ?_
    rw [show min its.toArray.size (#[] : Array Value).size = 0 from Nat.min_zero _]
    refine ⟨.bl (!xs.isEmpty), H, I, ?_, q⟩
    show Value.bool _ = Value.bool _
    rw [← vals_emp rv]
    simp
end
end My
set_option Elab.async false
set_option linter.all false
set_option maxRecDepth 100000
set_option maxHeartbeats 4000000
namespace My
open PySem PySem.Spec PyProof.Rows L2

theorem PenAt.apart {H : Hp} {p c a : Addr} {n : Nat} (G : PenAt H p c n) (h : H a = none) : c ≠ a := let ⟨⟨_, _, _, _, hc, _⟩⟩ := G; ne_of_none hc h
theorem PenAt.apart' {H : Hp} {p c a : Addr} {n : Nat} (G : PenAt H p c n) (h : H a = none) : p ≠ a := let ⟨⟨_, _, _, hp, _⟩⟩ := G; ne_of_none hp h
theorem PenAt.upd {H : Hp} {p c a : Addr} {n : Nat} {o : HO} (G : PenAt H p c n) (h : p ≠ a) (k : c ≠ a) : PenAt (upd H a o) p c n :=
  let ⟨⟨ns, t, r, hp, hc, e⟩⟩ := G; ⟨⟨ns, t, r, (upd_ne h).trans hp, (upd_ne k).trans hc, e⟩⟩
theorem SameP.free {H H' : Hp} {p c a : Addr} {n : Nat} (s : SameP p H H') (G : PenAt H' p c n) (h : H' a = none) : H a = none := by
  cases e : H a with
  | none => rfl
  | some o => rw [s a o (Ne.symm (G.apart' h)) e] at h; cases h
theorem perm_erase {α : Type} : ∀ (xs : List α) (i : Nat) (h : i < xs.length), (xs[i] :: xs.eraseIdx i).Perm xs
  | x :: r, 0, _ => .refl _
  | x :: r, i + 1, h => ((List.Perm.swap x (r[i]'(Nat.lt_of_succ_lt_succ h)) (r.eraseIdx i)).trans ((perm_erase r i (Nat.lt_of_succ_lt_succ h)).cons x))

section
variable {P : Program} {w : World} {K : PySem.W.Frag} {mg : Str → Option Value} {base : Heap}
/-- a new list of the same things in some order -/
def spShuf (K : PySem.W.Frag) : Sp := fun vs H Q _ => ∃ (p c a : Addr) (n : Nat) (xs : List V), vs = [.ref p, .ref a] ∧ PenAt H p c n ∧ n ≤ 900000000 ∧ SeqOf K H (.ref a) xs ∧ xs.length ≤ 100000 ∧
  ∀ (l : Addr) (ys : List V) (H' : Hp), ys.Perm xs → H l = none → H' l = some (.lst ys) → SameP p H H' → PenAt H' p c (n + xs.length) → Q (.ref l) H'
theorem ok_shuf {f fD : Addr} {fd fdD : FuncData} {k : Nat} (F : Fun K "_law_shuffled" "_law_shuffled" sShuf f fd) (ml : mg "len" = none) (mli : mg "list" = none) (GD : FnOk P w K mg base CX0 k fD fdD ["pen", "count"] spDraw) (gD : mg "_law_draw" = some (.ref fD)) (kD : PySem.W.keepIn K (.ref fD) = true)
    (bD : Binds K fdD ["pen", "count"] []) : FnOk P w K mg base CX0 (k + 1) f fd ["pen", "items"] (spShuf K) := by
  refine F.ok scShuf (fun vs H Q E h => ?_) (fun cdv A outer s H vs Q E hr h => ?_)
  · obtain ⟨p, c, a, n, xs, rfl, _⟩ := h
    rfl
  · obtain ⟨p, c, a, n, xs, rfl, G, hn, hx, h1, q⟩ := h
    refine ⟨_, pss_cons (ps_par (i := 2) (j := 3) (by rfl) scShuf.nd rfl rfl (by decide) rfl rfl (pa_cons (pe_callTy call_list_of (by rfl) mli (by decide +kernel) (pa_cons (pv 1) pa_nil)) (pa_cons (pe_lst pa_nil) pa_nil)) (by rfl))
      (pss_cons (ps_while PassesOwn.never (pt_cmpR (op_neNil hr.units) (pv 2) (pe_lst pa_nil) (nomark _))
        (pss_one (ps_expr (pe_bm PySem.F.plainAttrs_list PySem.F.slot_list_append PySem.F.type_list_append mt_append (pv 3) (pa_cons
          (pe_bm PySem.F.plainAttrs_list PySem.F.slot_list_pop PySem.F.type_list_pop mt_popAt (pv 2) (pa_cons (pe_call GD hr (by rfl) gD kD bD .nil pass0 (pa_cons (pv 0) (pa_cons (pe_callB call_len_seq (by rfl) ml PySem.boot_len (pa_cons (pv 2) pa_nil)) pa_nil))) pa_nil)) pa_nil)))))
      (pss_one (ps_ret (pv 3)))), ?_⟩
    -- left, found = list(some), []
    have hs : SqL K H a xs ∨ SqT K H a xs := by
      cases hx with
      | lst e => exact .inl e
      | tup e => exact .inr e
    refine ⟨_, rfl, a, xs, rfl, hs, fun l hl => ?_⟩
    refine ⟨by show 0 ≤ sizeLine; decide, fun g hg => ?_⟩
    have nlg : l ≠ g := fun z => by rw [z, upd_same] at hg; cases hg
    have g0 : H g = none := by
      rw [upd_ne (Ne.symm nlg)] at hg
      exact hg
    have s1 : Same H (upd (upd H l (.lst xs)) g (.lst [])) := (same_new hl).trans (same_new hg)
    refine ⟨_, _, rfl, ?_⟩
    -- while left != []
    refine ⟨fun m σ H2 => ∃ (left found : List V), σ = [some (.ref p), some (.ref a), some (.ref l), some (.ref g)] ∧ m = left.length ∧ SameP p H H2 ∧ H2 l = some (.lst left) ∧ H2 g = some (.lst found) ∧ (found ++ left).Perm xs ∧ PenAt H2 p c (n + found.length),
      ⟨_, xs, [], rfl, rfl, .of s1, by rw [upd_ne nlg, upd_same], upd_same, .refl _, G.same s1⟩, fun m σ H2 hW => ?_⟩
    obtain ⟨left, found, rfl, rfl, s2, el, eg, pm, G2⟩ := hW
    have hlen : found.length + left.length = xs.length := by
      have := pm.length_eq
      rwa [List.length_append] at this
    refine ⟨_, rfl, by show 0 ≤ sizeLine; decide, fun e he => ?_⟩
    have se : Same H2 (upd H2 e (.lst [])) := same_new he
    refine ⟨l, e, left, rfl, rfl, .inl ⟨.inl (.inl (se _ _ el)), .inl (.inl upd_same)⟩, _, rfl, ?_⟩
    generalize hH3 : upd H2 e (.lst []) = H3 at se
    have el3 := se _ _ el
    have eg3 := se _ _ eg
    have G3 := G2.same se
    cases left with
    | nil =>
      refine iteF ⟨_, rfl, ?_⟩
      rw [List.append_nil] at pm
      refine q g found H3 pm g0 eg3 (s2.trans (.of se)) (G3.mono ?_)
      rw [pm.length_eq]
      exact Nat.le_refl _
    | cons y0 yr =>
      refine iteT ⟨_, fun _ _ z => z, ?_⟩
      -- found.append(left.pop(draw))
      refine ⟨_, rfl, .inl ⟨rfl, _, .inl (.inl eg3)⟩, _, rfl, .inl ⟨rfl, _, .inl (.inl el3)⟩, _, rfl, _, rfl, l, _, rfl, .inl (.inl (.inl el3)), p, c, _, _, rfl, G3, by omega, by simp, by rw [List.length_cons] at *; omega, fun d H4 d0 d1 s4 G4 => ?_⟩
      obtain ⟨i, rfl⟩ : ∃ i : Nat, d = (i : Int) := ⟨d.toNat, by omega⟩
      have hi : i < (y0 :: yr).length := by omega
      have el4 := s4.lst G3 el3
      have eg4 := s4.lst G3 eg3
      refine ⟨l, _, _, i, (y0 :: yr)[i], rfl, rfl, el4, by omega, by omega, by rw [seqIndex_of (by omega) (by omega)]; rfl, List.getElem?_eq_getElem hi, ?_⟩
      refine ⟨g, found, _, rfl, rfl, by rw [upd_ne (Ne.symm nlg)]; exact eg4, Evl.sz_lt (by omega), ?_⟩
      have lp := sameP_ne G3 el3 fun _ z => nomatch z
      have gp := sameP_ne G3 eg3 fun _ z => nomatch z
      have cl : c ≠ l := G.apart hl
      have cg : c ≠ g := G.apart g0
      refine ⟨_, ?_, (y0 :: yr).eraseIdx i, found ++ [(y0 :: yr)[i]], rfl, rfl, ?_, ?_, upd_same, ?_, ?_⟩
      · rw [List.length_eraseIdx, if_pos hi]
        simp
      · intro b o nb e0
        rw [upd_ne (ne_of_none e0 g0), upd_ne (ne_of_none e0 hl)]
        exact (s2.trans (SameP.of se)).trans s4 b o nb e0
      · rw [upd_ne nlg, upd_same]
      · rw [List.append_assoc]
        exact (List.Perm.append_left found (perm_erase (y0 :: yr) i hi)).trans pm
      · exact ((G4.upd (Ne.symm lp) cl).upd (Ne.symm gp) cg).mono (by rw [List.length_append, List.length_singleton]; omega)
end
end My
set_option Elab.async false
set_option linter.all false
set_option maxRecDepth 100000
set_option maxHeartbeats 4000000
/-! Comprehensions without a test, over a name. -/
namespace My
open PySem PySem.Spec PyProof.Rows L2
section
variable {K : PySem.W.Frag} {te : TE} {vs : List Nat} {σ : L2.St} {H1 : Hp} {D : Addr} {Qd : Hp → Prop} {j : Nat}
def Grows (te : TE) (D : Addr) (Pv : Hp → Prop) (σ : L2.St) (H : Hp) : Prop := te σ H fun y H4 => ∃ acc, H4 D = some (.lst acc) ∧ acc.length < sizeLine ∧ Pv (upd H4 D (.lst (acc ++ [y])))
theorem yes_turn {te : TE} {σ0 σ2 : L2.St} {H : Hp} {vs : List Nat} {R : V → Hp → Prop} {N : Hp → Prop} (a : wipe σ2 vs = wipe σ0 vs) (b : te σ2 H R) : wipe σ2 vs = wipe σ0 vs ∧ tYes σ2 H fun b H3 => if b = true then te σ2 H3 R else N H3 :=
  ⟨a, (if_pos rfl : (if true = true then te σ2 H R else N H) = te σ2 H R).mpr b⟩
def lcN_range {lo : Int} {n : Nat} (Pv : Nat → Hp → Prop) (h0 : Pv 0 (upd H1 D (.lst [])))
    (hs : ∀ i H, i < n → Pv i H → wipe ((wipe σ vs).set j (some (.int (lo + i)))) vs = wipe σ vs ∧ Grows te D (Pv (i + 1)) ((wipe σ vs).set j (some (.int (lo + i)))) H) (hd : ∀ H, Pv n H → Qd H) :=
  lc_range (lo := lo) (n := n) (g := gName j) (tt := tYes) (te := te) (vs := vs) (σ := σ) (H1 := H1) (D := D) (Qd := Qd) Pv h0 (fun i H hi p => yes_turn (hs i H hi p).1 (hs i H hi p).2) hd
def lcN_list {a : Addr} {xs : List V} (Pv : Nat → Hp → Prop) (h0 : Pv 0 (upd H1 D (.lst []))) (hl : ∀ i H, i ≤ xs.length → Pv i H → SqL K H a xs)
    (hs : ∀ i x H, xs[i]? = some x → Pv i H → wipe ((wipe σ vs).set j (some x)) vs = wipe σ vs ∧ Grows te D (Pv (i + 1)) ((wipe σ vs).set j (some x)) H) (hd : ∀ H, Pv xs.length H → Qd H) :=
  lc_list (K := K) (a := a) (xs := xs) (g := gName j) (tt := tYes) (te := te) (vs := vs) (σ := σ) (H1 := H1) (D := D) (Qd := Qd) Pv h0 hl (fun i x H hi p => yes_turn (hs i x H hi p).1 (hs i x H hi p).2) hd
def lcN_tup {a : Addr} {xs : List V} (Pv : Nat → Hp → Prop) (h0 : Pv 0 (upd H1 D (.lst []))) (hl : ∀ i H, i ≤ xs.length → Pv i H → SqT K H a xs)
    (hs : ∀ i x H, xs[i]? = some x → Pv i H → wipe ((wipe σ vs).set j (some x)) vs = wipe σ vs ∧ Grows te D (Pv (i + 1)) ((wipe σ vs).set j (some x)) H) (hd : ∀ H, Pv xs.length H → Qd H) :=
  lc_tup (K := K) (a := a) (xs := xs) (g := gName j) (tt := tYes) (te := te) (vs := vs) (σ := σ) (H1 := H1) (D := D) (Qd := Qd) Pv h0 hl (fun i x H hi p => yes_turn (hs i x H hi p).1 (hs i x H hi p).2) hd
end
end My
set_option Elab.async false
set_option linter.all false
set_option maxRecDepth 100000
set_option maxHeartbeats 4000000
namespace My
open PySem PySem.Spec PyProof.Rows L2

/-! ### a short text some few times -/
def rMulS : R2 := fun x y H Q => ∃ (z : Str) (i : Int), x = .str z ∧ y = .int i ∧ z.length ≤ 1000 ∧ i ≤ 1000 ∧ -1000 ≤ i ∧ Q (.str (Txt.mul z i)) H
theorem mulOk_small {x : Str} {n : Int} (h : x.length ≤ 1000) (h1 : n ≤ 1000) (h2 : -1000 ≤ n) : MulOk x n := by
  refine ⟨?_, fun a _ => ?_, fun a _ => ?_⟩
  · have e1 : decide (n < -(2 ^ 63 : Int)) = false := decide_eq_false (by omega)
    have e2 : decide (n ≥ (2 : Int) ^ 63) = false := decide_eq_false (by omega)
    rw [e1, e2]
    rfl
  · have h3 : (1000 : Int) ≤ (2 ^ 63 - 1) / n := Int.le_ediv_of_mul_le (by omega) (by omega)
    omega
  · have h3 : x.length * n.toNat ≤ 1000 * 1000 := Nat.mul_le_mul h (by omega)
    exact decide_eq_false (Nat.not_lt.mpr (Nat.le_trans h3 (by decide)))
theorem op_mulS {X : Cx} : OpR X (binaryOp .Mult) rMulS := by
  intro pins s σ H x y v u Q I rx ry h
  obtain ⟨z, i, rfl, rfl, h1, h2, h3, q⟩ := h
  obtain ⟨t, rfl⟩ := rx
  obtain ⟨t', rfl⟩ := ry
  exact SB.mul (mulOk_small h1 h2 h3) fun t2 k => ⟨.str _, H, I.tok _, ⟨_, rfl⟩, q⟩

/-! ### names -/
def NameOk (x : Str) : Prop := 1 ≤ x.length ∧ x.length ≤ 8 ∧ ∀ c ∈ x.cps.toList, 97 ≤ c ∧ c ≤ 122
def abc : Str := "abcdefghijklmnopqrstuvwxyz"
theorem abc_codes : abc.cps.toList = (List.range 26).map (97 + ·) := by decide +kernel
theorem abc_len : abc.length = 26 := by decide +kernel
theorem abc_at {j : Nat} (h : j < 26) : abc.cps.toList[j]? = some (97 + j) := by
  rw [abc_codes, List.getElem?_map, List.getElem?_range h]
  rfl
/-- the name at the k-th place -/
def wName (front : Str) (first step k : Nat) : Str := front ++ ⟨#[97 + (first + step * k) % 26]⟩ ++ (if 25 < k then ⟨#[97 + k % 26]⟩ else Str.empty)
theorem wName_codes (front : Str) (first step k : Nat) : (wName front first step k).cps.toList = front.cps.toList ++ [97 + (first + step * k) % 26] ++ (if 25 < k then [97 + k % 26] else []) := by
  unfold wName
  rw [Str.cps_append, Array.toList_append, Str.cps_append, Array.toList_append]
  by_cases h : 25 < k
  · rw [if_pos h, if_pos h]
  · rw [if_neg h, if_neg h]
    rfl
theorem str_len (x : Str) : x.length = x.cps.toList.length := by
  rw [Array.length_toList]
  rfl
theorem wName_ok {front : Str} (hf : front.length ≤ 6) (hc : ∀ c ∈ front.cps.toList, 97 ≤ c ∧ c ≤ 122) (first step k : Nat) : NameOk (wName front first step k) := by
  rw [str_len] at hf
  unfold NameOk
  rw [str_len, wName_codes, List.length_append, List.length_append, List.length_singleton]
  refine ⟨by omega, ?_, fun c h => ?_⟩
  · by_cases h : 25 < k
    · rw [if_pos h, List.length_singleton]
      omega
    · rw [if_neg h, List.length_nil]
      omega
  · rcases List.mem_append.mp h with h | h
    · rcases List.mem_append.mp h with h | h
      · exact hc c h
      · rw [List.mem_singleton.mp h]
        omega
    · by_cases g : 25 < k
      · rw [if_pos g] at h
        rw [List.mem_singleton.mp h]
        omega
      · rw [if_neg g] at h
        cases h
theorem step_inj {first step i j : Nat} (hs : step = 1 ∨ step = 3 ∨ step = 5 ∨ step = 7 ∨ step = 9 ∨ step = 11) (hi : i < 26) (hj : j < 26) (h : (first + step * i) % 26 = (first + step * j) % 26) : i = j := by
  rcases hs with rfl | rfl | rfl | rfl | rfl | rfl <;> omega
theorem wName_inj {front : Str} {first step i j : Nat} (hs : step = 1 ∨ step = 3 ∨ step = 5 ∨ step = 7 ∨ step = 9 ∨ step = 11) (hi : i < 52) (hj : j < 52) (h : wName front first step i = wName front first step j) : i = j := by
  have e : (wName front first step i).cps.toList = (wName front first step j).cps.toList := by rw [h]
  rw [wName_codes, wName_codes, List.append_assoc, List.append_assoc] at e
  have e := List.append_cancel_left e
  by_cases a : 25 < i
  · by_cases b : 25 < j
    · rw [if_pos a, if_pos b] at e
      simp only [List.singleton_append, List.cons.injEq, and_true] at e
      omega
    · rw [if_pos a, if_neg b] at e
      simp at e
  · by_cases b : 25 < j
    · rw [if_neg a, if_pos b] at e
      simp at e
    · rw [if_neg a, if_neg b] at e
      simp only [List.append_nil, List.cons.injEq, and_true] at e
      exact step_inj (first := first) hs (by omega) (by omega) (by omega)
def wNames (front : Str) (first step many : Nat) : List Str := (List.range many).map (wName front first step)
theorem nodup_map_on {α β : Type} {f : α → β} : ∀ {xs : List α}, xs.Nodup → (∀ a ∈ xs, ∀ b ∈ xs, f a = f b → a = b) → (xs.map f).Nodup
  | [], _, _ => List.nodup_nil
  | x :: r, h, g => by
    rw [List.nodup_cons] at h
    rw [List.map_cons, List.nodup_cons]
    refine ⟨fun z => ?_, nodup_map_on h.2 fun a ha b hb => g a (List.mem_cons_of_mem _ ha) b (List.mem_cons_of_mem _ hb)⟩
    obtain ⟨y, hy, e⟩ := List.mem_map.mp z
    have := g y (List.mem_cons_of_mem _ hy) x List.mem_cons_self e
    exact h.1 (this ▸ hy)
theorem wNames_nodup {front : Str} {first step many : Nat} (hs : step = 1 ∨ step = 3 ∨ step = 5 ∨ step = 7 ∨ step = 9 ∨ step = 11) (hm : many ≤ 52) : (wNames front first step many).Nodup :=
  nodup_map_on List.nodup_range fun a ha b hb e => wName_inj hs (Nat.lt_of_lt_of_le (List.mem_range.mp ha) hm) (Nat.lt_of_lt_of_le (List.mem_range.mp hb) hm) e
/-- many names, all different -/
structure Names (xs : List Str) : Prop where
  ok : ∀ x ∈ xs, NameOk x
  nd : xs.Nodup
theorem Names.perm {xs ys : List Str} (h : Names xs) (p : ys.Perm xs) : Names ys := ⟨fun x hx => h.ok x (p.subset hx), p.nodup_iff.mpr h.nd⟩
def unS : V → Str
  | .str z => z
  | _ => Str.empty
theorem perm_strs {ys : List V} {xs : List Str} (p : ys.Perm (xs.map V.str)) : ∃ zs : List Str, ys = zs.map V.str ∧ zs.Perm xs := by
  refine ⟨ys.map unS, ?_, ?_⟩
  · rw [List.map_map]
    have : ∀ v ∈ ys, (V.str ∘ unS) v = v := fun v hv => by
      obtain ⟨x, _, rfl⟩ := List.mem_map.mp (p.subset hv)
      rfl
    rw [List.map_congr_left this, List.map_id']
  · have := p.map unS
    rwa [List.map_map, show (unS ∘ V.str) = id from rfl, List.map_id] at this
def sign (cd : Nat) : Str := ⟨#[cd]⟩
theorem join_signs : ∀ cs : List Nat, (Str.join Str.empty (cs.map sign)).cps.toList = cs
  | [] => rfl
  | [_] => rfl
  | x :: y :: r => by
    have ih := join_signs (y :: r)
    show (sign x ++ Str.empty ++ Str.join Str.empty ((y :: r).map sign)).cps.toList = x :: y :: r
    rw [Str.cps_append, Array.toList_append, ih, Str.cps_append, Array.toList_append]
    rfl
theorem sum_signs : ∀ cs : List Nat, ((cs.map sign).map (·.length)).sum = cs.length
  | [] => rfl
  | x :: r => by
    rw [List.map_cons, List.map_cons, List.sum_cons, sum_signs r, List.length_cons]
    show 1 + r.length = r.length + 1
    omega
theorem signs_V (cs : List Nat) : (cs.map sign).map V.str = cs.map fun cd => V.str (sign cd) := by rw [List.map_map]; rfl
theorem abc_item {i : Nat} {v : V} (h : (abc.cps.toList.map fun cd => V.str ⟨#[cd]⟩)[i]? = some v) : ∃ cd, v = .str (sign cd) ∧ 97 ≤ cd ∧ cd ≤ 122 := by
  rw [abc_codes, List.map_map, List.getElem?_map] at h
  obtain ⟨j, h1, rfl⟩ := Option.map_eq_some_iff.mp h
  have h2 := List.mem_range.mp (List.mem_of_getElem? h1)
  exact ⟨97 + j, rfl, by omega, by omega⟩
theorem steps_item {i : Nat} {v : V} (h : ([.int 1, .int 3, .int 5, .int 7, .int 9, .int 11] : List V)[i]? = some v) : ∃ st : Nat, v = .int (st : Int) ∧ (st = 1 ∨ st = 3 ∨ st = 5 ∨ st = 7 ∨ st = 9 ∨ st = 11) := by
  have := List.mem_of_getElem? h
  simp only [List.mem_cons, List.not_mem_nil, or_false] at this
  rcases this with rfl | rfl | rfl | rfl | rfl | rfl
  · exact ⟨1, rfl, by omega⟩
  · exact ⟨3, rfl, by omega⟩
  · exact ⟨5, rfl, by omega⟩
  · exact ⟨7, rfl, by omega⟩
  · exact ⟨9, rfl, by omega⟩
  · exact ⟨11, rfl, by omega⟩
theorem place_nat (f st k : Nat) : ((f : Int) + (st : Int) * ((0 : Int) + (k : Int))) % 26 = (((f + st * k) % 26 : Nat) : Int) := by
  rw [Int.zero_add, ← Int.natCast_mul]
  omega
theorem mul_sign (cd : Nat) (b : Bool) : Txt.mul (sign cd) (if b then 1 else 0) = if b = true then sign cd else Str.empty := by
  cases b <;> rfl

section
variable {P : Program} {w : World} {K : PySem.W.Frag} {mg : Str → Option Value} {base : Heap}
/-- what the draw, the pick and the shuffling have promised -/
structure Draws (P : Program) (w : World) (K : PySem.W.Frag) (mg : Str → Option Value) (base : Heap) (fD fP fS : Addr) (dD dP dS : FuncData) : Prop where
  oD : FnOk P w K mg base CX0 1 fD dD ["pen", "count"] spDraw
  gD : mg "_law_draw" = some (.ref fD)
  kD : PySem.W.keepIn K (.ref fD) = true
  bD : Binds K dD ["pen", "count"] []
  oP : FnOk P w K mg base CX0 2 fP dP ["pen", "options"] (spPick K)
  gP : mg "_law_pick" = some (.ref fP)
  kP : PySem.W.keepIn K (.ref fP) = true
  bP : Binds K dP ["pen", "options"] []
  oS : FnOk P w K mg base CX0 2 fS dS ["pen", "items"] (spShuf K)
  gS : mg "_law_shuffled" = some (.ref fS)
  kS : PySem.W.keepIn K (.ref fS) = true
  bS : Binds K dS ["pen", "items"] []
end
end My
set_option Elab.async false
set_option linter.all false
set_option maxRecDepth 100000
set_option maxHeartbeats 4000000
namespace My
open PySem PySem.Spec PyProof.Rows L2

/-! ### data that never changes: None, bools, ints, texts, tuples of such -/
mutual
inductive Dt (K : PySem.W.Frag) (H : Hp) : V → PyData → Prop
  | non : Dt K H .non .none
  | bl (b : Bool) : Dt K H (.bl b) (.bool b)
  | int (i : Int) : Dt K H (.int i) (.int i)
  | str (x : Str) : Dt K H (.str x) (.str x)
  | tup {a : Addr} {xs : List V} {ds : List PyData} : SqT K H a xs → DtAll K H xs ds → Dt K H (.ref a) (.tuple ds)
inductive DtAll (K : PySem.W.Frag) (H : Hp) : List V → List PyData → Prop
  | nil : DtAll K H [] []
  | cons {v : V} {vs : List V} {d : PyData} {ds : List PyData} : Dt K H v d → DtAll K H vs ds → DtAll K H (v :: vs) (d :: ds)
end
/-- tuples that were read are read so again -/
def KeepsT (K : PySem.W.Frag) (H H' : Hp) : Prop := ∀ a xs, SqT K H a xs → SqT K H' a xs
section
variable {K : PySem.W.Frag} {H H' H2 : Hp}
mutual
theorem dt_keep (s : KeepsT K H H') : ∀ {d : PyData} {v : V}, Dt K H v d → Dt K H' v d
  | .none, _, h => by cases h; exact .non
  | .bool _, _, h => by cases h; exact .bl _
  | .int _, _, h => by cases h; exact .int _
  | .str _, _, h => by cases h; exact .str _
  | .tuple ds, _, h => by
    cases h with
    | tup a b => exact .tup (s _ _ a) (dt_keepAll s b)
  | .list _, _, h => by cases h
  | .dict _, _, h => by cases h
theorem dt_keepAll (s : KeepsT K H H') : ∀ {ds : List PyData} {vs : List V}, DtAll K H vs ds → DtAll K H' vs ds
  | [], _, h => by cases h; exact .nil
  | d :: ds, _, h => by
    cases h with
    | cons a b => exact .cons (dt_keep s a) (dt_keepAll s b)
end
mutual
theorem dt_dp : ∀ {d : PyData} {v : V}, Dt K H v d → Dp K H v d
  | .none, _, h => by cases h; exact .non
  | .bool _, _, h => by cases h; exact .bl _
  | .int _, _, h => by cases h; exact .int _
  | .str _, _, h => by cases h; exact .str _
  | .tuple ds, _, h => by
    cases h with
    | tup a b => exact .tup a (dt_dpAll b)
  | .list _, _, h => by cases h
  | .dict _, _, h => by cases h
theorem dt_dpAll : ∀ {ds : List PyData} {vs : List V}, DtAll K H vs ds → DpAll K H vs ds
  | [], _, h => by cases h; exact .nil
  | d :: ds, _, h => by
    cases h with
    | cons a b => exact .cons (dt_dp a) (dt_dpAll b)
end
theorem KeepsT.refl : KeepsT K H H := fun _ _ h => h
theorem KeepsT.trans (a : KeepsT K H H') (b : KeepsT K H' H2) : KeepsT K H H2 := fun _ _ h => b _ _ (a _ _ h)
theorem _root_.L2.Same.keepsT (s : Same H H') : KeepsT K H H' := s.keeps.t
theorem SameP.keepsT {p c : Addr} {n : Nat} (s : SameP p H H') (G : PenAt H p c n) : KeepsT K H H' := (s.keeps G).t
/-- a change at a place where no tuple stands -/
theorem KeepsT.at {a : Addr} {o : HO} (h : ∀ xs, H a ≠ some (.tup xs)) (h' : ∀ ob u, H a ≠ some (.frz ob u)) : KeepsT K H (upd H a o) := fun b xs e => by
  rcases e with (e | ⟨ob, e⟩) | e
  · exact .inl (.inl ((upd_ne (fun z : b = a => h xs (z ▸ e))).trans e))
  · exact .inl (.inr ⟨ob, (upd_ne (fun z : b = a => h' _ _ (z ▸ e))).trans e⟩)
  · exact .inr e
theorem KeepsT.lst {a : Addr} {xs : List V} {o : HO} (h : H a = some (.lst xs)) : KeepsT K H (upd H a o) := .at (fun _ z => by rw [h] at z; cases z) (fun _ _ z => by rw [h] at z; cases z)
theorem KeepsT.new {a : Addr} {o : HO} (h : H a = none) : KeepsT K H (upd H a o) := (same_new h).keepsT
theorem DtAll.append : ∀ {xs ys : List V} {ds es : List PyData}, DtAll K H xs ds → DtAll K H ys es → DtAll K H (xs ++ ys) (ds ++ es)
  | _, _, _, _, .nil, h => h
  | _, _, _, _, .cons a b, h => .cons a (b.append h)
theorem DtAll.length : ∀ {xs : List V} {ds : List PyData}, DtAll K H xs ds → xs.length = ds.length
  | _, _, .nil => rfl
  | _, _, .cons _ b => congrArg (· + 1) b.length
theorem DtAll.at : ∀ {xs : List V} {ds : List PyData} {i : Nat} {v : V}, DtAll K H xs ds → xs[i]? = some v → ∃ d, ds[i]? = some d ∧ Dt K H v d
  | _, _, 0, _, .cons a _, h => by
    cases h
    exact ⟨_, rfl, a⟩
  | _, _, i + 1, _, .cons _ b, h => b.at (i := i) h
theorem DtAll.two {x y : V} {d e : PyData} (a : Dt K H x d) (b : Dt K H y e) : DtAll K H [x, y] [d, e] := .cons a (.cons b .nil)
end

/-! ### rows -/
def dwD (r : Str × Int) : PyData := .tuple [.str r.1, .int r.2]
def rowD (r : List (Str × Int)) : PyData := .tuple (r.map dwD)
def Dirs (r : List (Str × Int)) : Prop := ∀ x ∈ r, x.2 = 1 ∨ x.2 = -1

end My
set_option Elab.async false
set_option linter.all false
set_option maxRecDepth 100000
set_option maxHeartbeats 4000000
/-! Values of any kind: None, bools, ints, texts, tuples, lists, dicts (keys ints and texts), nested; none of them is the pen at p. -/
namespace My
open PySem PySem.Spec PyProof.Rows L2

def keyD : Key → PyData
  | .inl i => .int i
  | .inr x => .str x
mutual
inductive Da (K : PySem.W.Frag) (p : Addr) (H : Hp) : V → PyData → Prop
  | non : Da K p H .non .none
  | bl (b : Bool) : Da K p H (.bl b) (.bool b)
  | int (i : Int) : Da K p H (.int i) (.int i)
  | str (x : Str) : Da K p H (.str x) (.str x)
  | lst {a : Addr} {xs : List V} {ds : List PyData} : a ≠ sysModules → SqL K H a xs → DaAll K p H xs ds → Da K p H (.ref a) (.list ds)
  | tup {a : Addr} {xs : List V} {ds : List PyData} : SqT K H a xs → DaAll K p H xs ds → Da K p H (.ref a) (.tuple ds)
  | dct {a : Addr} {kvs : List (Key × V)} {es : List (PyData × PyData)} : a ≠ p → H a = some (.dK kvs) → DaKv K p H kvs es → Da K p H (.ref a) (.dict es)
inductive DaAll (K : PySem.W.Frag) (p : Addr) (H : Hp) : List V → List PyData → Prop
  | nil : DaAll K p H [] []
  | cons {v : V} {vs : List V} {d : PyData} {ds : List PyData} : Da K p H v d → DaAll K p H vs ds → DaAll K p H (v :: vs) (d :: ds)
inductive DaKv (K : PySem.W.Frag) (p : Addr) (H : Hp) : List (Key × V) → List (PyData × PyData) → Prop
  | nil : DaKv K p H [] []
  | cons {k : Key} {v : V} {r : List (Key × V)} {d : PyData} {es : List (PyData × PyData)} : Da K p H v d → DaKv K p H r es → DaKv K p H ((k, v) :: r) ((keyD k, d) :: es)
end
section
variable {K : PySem.W.Frag} {p c : Addr} {n : Nat} {H H' H2 : Hp}
/-- what is read of lists, tuples, dicts (but p) stays -/
structure KeepA (K : PySem.W.Frag) (p : Addr) (H H' : Hp) : Prop where
  l : ∀ a xs, SqL K H a xs → SqL K H' a xs
  t : ∀ a xs, SqT K H a xs → SqT K H' a xs
  d : ∀ a kvs, a ≠ p → H a = some (.dK kvs) → H' a = some (.dK kvs)
theorem KeepA.refl : KeepA K p H H := ⟨fun _ _ h => h, fun _ _ h => h, fun _ _ _ h => h⟩
theorem KeepA.trans (a : KeepA K p H H') (b : KeepA K p H' H2) : KeepA K p H H2 := ⟨fun _ _ h => b.l _ _ (a.l _ _ h), fun _ _ h => b.t _ _ (a.t _ _ h), fun _ _ n h => b.d _ _ n (a.d _ _ n h)⟩
theorem _root_.L2.Same.keepA (s : Same H H') : KeepA K p H H' := ⟨s.keeps.l, s.keeps.t, fun _ _ _ e => s _ _ e⟩
theorem SameP.keepA (s : SameP p H H') (G : PenAt H p c n) : KeepA K p H H' := ⟨(s.keeps G).l, (s.keeps G).t, fun _ _ ne e => s _ _ ne e⟩
mutual
theorem da_keep (s : KeepA K p H H') : ∀ {d : PyData} {v : V}, Da K p H v d → Da K p H' v d
  | .none, _, h => by cases h; exact .non
  | .bool _, _, h => by cases h; exact .bl _
  | .int _, _, h => by cases h; exact .int _
  | .str _, _, h => by cases h; exact .str _
  | .tuple ds, _, h => by
    cases h with
    | tup a b => exact .tup (s.t _ _ a) (da_keepAll s b)
  | .list _, _, h => by
    cases h with
    | lst a b c => exact .lst a (s.l _ _ b) (da_keepAll s c)
  | .dict es, _, h => by
    cases h with
    | dct a b c => exact .dct a (s.d _ _ a b) (da_keepKv s c)
theorem da_keepAll (s : KeepA K p H H') : ∀ {ds : List PyData} {vs : List V}, DaAll K p H vs ds → DaAll K p H' vs ds
  | [], _, h => by cases h; exact .nil
  | d :: ds, _, h => by
    cases h with
    | cons a b => exact .cons (da_keep s a) (da_keepAll s b)
theorem da_keepKv (s : KeepA K p H H') : ∀ {es : List (PyData × PyData)} {kvs : List (Key × V)}, DaKv K p H kvs es → DaKv K p H' kvs es
  | [], _, h => by cases h; exact .nil
  | (k, d) :: es, _, h => by
    cases h with
    | cons a b => exact .cons (da_keep s a) (da_keepKv s b)
end
mutual
theorem dt_da : ∀ {d : PyData} {v : V}, Dt K H v d → Da K p H v d
  | .none, _, h => by cases h; exact .non
  | .bool _, _, h => by cases h; exact .bl _
  | .int _, _, h => by cases h; exact .int _
  | .str _, _, h => by cases h; exact .str _
  | .tuple ds, _, h => by
    cases h with
    | tup a b => exact .tup a (dt_daAll b)
  | .list _, _, h => by cases h
  | .dict _, _, h => by cases h
theorem dt_daAll : ∀ {ds : List PyData} {vs : List V}, DtAll K H vs ds → DaAll K p H vs ds
  | [], _, h => by cases h; exact .nil
  | d :: ds, _, h => by
    cases h with
    | cons a b => exact .cons (dt_da a) (dt_daAll b)
end
theorem DaAll.append : ∀ {xs ys : List V} {ds es : List PyData}, DaAll K p H xs ds → DaAll K p H ys es → DaAll K p H (xs ++ ys) (ds ++ es)
  | _, _, _, _, .nil, h => h
  | _, _, _, _, .cons a b, h => .cons a (b.append h)
theorem DaAll.length : ∀ {xs : List V} {ds : List PyData}, DaAll K p H xs ds → xs.length = ds.length
  | _, _, .nil => rfl
  | _, _, .cons _ b => congrArg (· + 1) b.length
theorem DaAll.at : ∀ {xs : List V} {ds : List PyData} {i : Nat} {v : V}, DaAll K p H xs ds → xs[i]? = some v → ∃ d, ds[i]? = some d ∧ Da K p H v d
  | _, _, 0, _, .cons a _, h => by
    cases h
    exact ⟨_, rfl, a⟩
  | _, _, i + 1, _, .cons _ b, h => b.at (i := i) h
theorem DaAll.take : ∀ {xs : List V} {ds : List PyData} (i : Nat), DaAll K p H xs ds → DaAll K p H (xs.take i) (ds.take i)
  | _, _, 0, _ => .nil
  | _, _, _ + 1, .nil => .nil
  | _, _, i + 1, .cons a b => .cons a (b.take i)
theorem DaAll.drop : ∀ {xs : List V} {ds : List PyData} (i : Nat), DaAll K p H xs ds → DaAll K p H (xs.drop i) (ds.drop i)
  | _, _, 0, h => h
  | _, _, _ + 1, .nil => .nil
  | _, _, i + 1, .cons _ b => b.drop i
theorem DaAll.reverse : ∀ {xs : List V} {ds : List PyData}, DaAll K p H xs ds → DaAll K p H xs.reverse ds.reverse
  | _, _, .nil => .nil
  | _, _, .cons a b => by
    rw [List.reverse_cons, List.reverse_cons]
    exact b.reverse.append (.cons a .nil)
end

/-! ### its repr -/
section
variable {X : Cx} {pins : List (Addr × Obj)} {σ : L2.St} {H : Hp} {s : Shared} {p : Addr}
theorem keys_read {P : Program} {w : World} {h : Heap} : ∀ {vs : List (Key × Value)} {es : List DictEntry}, Pairs (mixKind P w) es vs → ReadsAll h (es.map (·.key)) (vs.map fun kv => keyD kv.1) []
  | _, _, .nil => .nil
  | _, _, .cons (e := e) (kv := kv) h1 h2 r => by
    have ih := keys_read (h := h) r
    rcases keyIs_shape (k := kv.1) (v := e.key) h1 with ⟨i, t, e1, e2⟩ | ⟨x, t, e1, e2⟩
    · rw [List.map_cons, List.map_cons, e1, e2]
      exact ReadsAll.cons (.int i t) ih
    · rw [List.map_cons, List.map_cons, e1, e2]
      exact ReadsAll.cons (.str x t) ih
theorem vals_read {P : Program} {w : World} : ∀ {vs : List (Key × Value)} {es : List DictEntry}, Pairs (mixKind P w) es vs → es.map (·.val) = vs.map (·.2)
  | _, _, .nil => rfl
  | _, _, .cons h1 h2 r => by rw [List.map_cons, List.map_cons, h2, vals_read r]
mutual
theorem da_reads (I : Inv X pins σ H s) : ∀ (d : PyData) (v : V) (u : Value), Da X.K p H v d → RelV v u → ∃ as, Reads s.heap u d as ∧ sysModules ∉ as
  | .none, _, _, h, r => by
    cases h
    cases r
    exact ⟨_, .none, List.not_mem_nil⟩
  | .bool b, _, _, h, r => by
    cases h
    cases r
    exact ⟨_, .bool b, List.not_mem_nil⟩
  | .int i, _, _, h, r => by
    cases h
    obtain ⟨t, rfl⟩ := r
    exact ⟨_, .int i t, List.not_mem_nil⟩
  | .str x, _, _, h, r => by
    cases h
    obtain ⟨t, rfl⟩ := r
    exact ⟨_, .str x t, List.not_mem_nil⟩
  | .list ds, _, _, h, r => by
    cases h with
    | lst hne hs ha =>
      cases r
      obtain ⟨its, rv, ⟨o, n, ho, hc, _, hd⟩, _⟩ := I.list hs
      obtain ⟨as, hr, ns⟩ := da_readsAll I ds _ its ha rv
      exact ⟨_, .list ho hc hd hr, fun z => (List.mem_cons.mp z).elim (fun e => hne e.symm) ns⟩
  | .tuple ds, _, _, h, r => by
    cases h with
    | tup hs ha =>
      cases r
      obtain ⟨its, rv, ⟨o, ho, hc, n, hd⟩, _⟩ := I.tuple hs
      obtain ⟨as, hr, ns⟩ := da_readsAll I ds _ its ha rv
      exact ⟨_, .tuple ho hc hd hr, ns⟩
  | .dict es, _, _, h, r => by
    cases h with
    | @dct a kvs _ hn ho hv =>
      cases r
      obtain ⟨_, ns, vs, kv, o, ents, ep, h1, h2, h3, _, h5, _⟩ := dk_of I.hok ho
      obtain ⟨as, hr, nsr, ek⟩ := da_readsKv I es _ vs hv kv
      have r1 := keys_read (h := s.heap) h5
      rw [ek] at r1
      refine ⟨_, .dict h1 h2.1 h3 r1 (by rw [vals_read h5]; exact hr), fun z => ?_⟩
      rcases List.mem_cons.mp (by simpa using z) with e | e
      · rw [← e] at ns
        simp at ns
      · exact nsr e
theorem da_readsAll (I : Inv X pins σ H s) : ∀ (ds : List PyData) (vs : List V) (us : List Value), DaAll X.K p H vs ds → Vals vs us → ∃ as, ReadsAll s.heap us ds as ∧ sysModules ∉ as
  | [], _, _, h, r => by
    cases h
    cases r
    exact ⟨_, .nil, List.not_mem_nil⟩
  | d :: ds, _, _, h, r => by
    cases h with
    | cons h1 h2 =>
      cases r with
      | cons r1 r2 =>
        obtain ⟨as, q1, n1⟩ := da_reads I d _ _ h1 r1
        obtain ⟨bs, q2, n2⟩ := da_readsAll I ds _ _ h2 r2
        exact ⟨_, .cons q1 q2, fun z => (List.mem_append.mp z).elim n1 n2⟩
theorem da_readsKv (I : Inv X pins σ H s) : ∀ (es : List (PyData × PyData)) (kvs : List (Key × V)) (vs : List (Key × Value)), DaKv X.K p H kvs es → KV kvs vs →
    ∃ as, ReadsAll s.heap (vs.map (·.2)) (es.map (·.2)) as ∧ sysModules ∉ as ∧ (vs.map fun kv => keyD kv.1) = es.map (·.1)
  | [], _, _, h, r => by
    cases h
    cases r
    exact ⟨_, .nil, List.not_mem_nil, rfl⟩
  | (k, d) :: es, _, _, h, r => by
    cases h with
    | cons h1 h2 =>
      cases r with
      | cons r1 r2 =>
        obtain ⟨as, q1, n1⟩ := da_reads I d _ _ h1 r1.2
        obtain ⟨bs, q2, n2, e⟩ := da_readsKv I es _ _ h2 r2
        refine ⟨_, .cons q1 q2, fun z => (List.mem_append.mp z).elim n1 n2, ?_⟩
        rw [List.map_cons, List.map_cons, e, ← r1.1]
end
end
section
variable {X : Cx}
def rReprA (K : PySem.W.Frag) : List V → Hp → VK → Prop := fun xs H Q => ∃ p v d, xs = [v] ∧ Da K p H v d ∧ d.showable = true ∧ d.depth ≤ 60 ∧ d.shown.length ≤ sizeLine ∧ Q (.str d.shown) H
theorem call_reprA (hg : Still X.A) (hu : X.A.units + 64 < cLine) : CallR X (.builtin "repr") (rReprA X.K) := by
  intro pins s σ H xs us Q I r h
  obtain ⟨p, v, d, rfl, hd, hs, hdp, hz, q⟩ := h
  obtain ⟨u, rfl, rv⟩ := vals1 r
  obtain ⟨as, rd, nsys⟩ := da_reads I d v u hd rv
  have fin : ∀ (h' : Heap) (t tk : Tok), (∀ b o, s.heap.get? b = some o → h'.get? b = some o) → EP X pins σ Q (.str d.shown t) { s with heap := h', toks := tk } :=
    fun h' t tk k => ⟨.str d.shown, H, inv_more I k, ⟨t, rfl⟩, q⟩
  cases hd with
  | non =>
    cases rv
    exact PySem.P.repr_of_none (by simpa only [PyData.shown] using fin s.heap _ _ fun _ _ e => e)
  | bl b =>
    cases rv
    exact PySem.P.repr_of_bool (by simpa only [PyData.shown] using fin s.heap _ _ fun _ _ e => e)
  | int i =>
    obtain ⟨t, rfl⟩ := rv
    exact PySem.P.repr_of_int (by simpa [PyData.showable] using hs) (by simpa only [PyData.shown] using fin s.heap _ _ fun _ _ e => e)
  | str x =>
    obtain ⟨t, rfl⟩ := rv
    exact PySem.P.repr_of_str (by simpa only [PyData.shown] using fin s.heap _ _ fun _ _ e => e) (by simpa only [PyData.shown] using hz)
  | lst _ _ _ =>
    cases rv
    exact PySem.repr_of_reads' rd hs (fun _ => nsys) hg (by omega) (fun _ _ e => e) (fun h' u tk k => fin h' u tk k) hz
  | tup _ _ =>
    cases rv
    exact PySem.repr_of_reads' rd hs (fun _ => nsys) hg (by omega) (fun _ _ e => e) (fun h' u tk k => fin h' u tk k) hz
  | dct _ _ _ =>
    cases rv
    exact PySem.repr_of_reads' rd hs (fun _ => nsys) hg (by omega) (fun _ _ e => e) (fun h' u tk k => fin h' u tk k) hz
end
/-! ### new lists: not at sys.modules -/
section
variable {X : Cx}
def tLstN (t : TA) : TE := fun σ H Q => t σ H fun xs H1 => xs.length ≤ sizeLine ∧ ∀ p, H1 p = none → p ≠ sysModules → Q (.ref p) (upd H1 p (.lst xs))
theorem pe_lstN {es : List Expr} {pos : Pos} {t : TA} (ha : PA X es t) : PE X (.List es pos) (tLstN t) := by
  constructor
  intro pins s0 σ H Q I q0
  refine wpAny_List_spliced (thn (ha.run pos pins s0 σ H _ I q0) fun us s1 ⟨ys, H2, I2, rv, zz, q1⟩ => ⟨by have := rv.length; omega, ?_⟩)
  have fresh := I2.hok.fresh (Nat.le_refl s1.heap.objs.size)
  have nsys : s1.heap.objs.size ≠ sysModules := Nat.ne_of_gt I2.big
  exact ⟨.ref s1.heap.objs.size, upd H2 s1.heap.objs.size (.lst ys), I2.laid (t' := s1.toks) (fun _ _ e => Heap.get?_push_of_some _ e) (Nat.le_refl _) ⟨zz, us, 0, rv, Heap.get?_push_size _ rfl⟩, rfl, q1 _ fresh nsys⟩
/-- list(t) of a tuple -/
theorem call_listN : CallR X (.type "list") (fun xs H Q => ∃ p ys, xs = [.ref p] ∧ SqT X.K H p ys ∧ ∀ l, H l = none → l ≠ sysModules → Q (.ref l) (upd H l (.lst ys))) := by
  intro pins s σ H xs us Q I rv ⟨p, ys, ex, ht, q⟩
  subst ex
  obtain ⟨u, rfl, r1⟩ := vals1 rv
  cases r1
  obtain ⟨its, rr, ⟨o, ho, hc, n, hd⟩, hz⟩ := I.tuple ht
  have ll := rr.length
  refine call_list_seq p (.inr rfl) ho hc hd (fun h' c' kp e => ?_) (by simp only [List.size_toArray]; omega)
  exact ⟨.ref s.heap.objs.size, _, I.laid (t' := s.toks) kp (Nat.le_refl _) (show ObjOk X.prog X.w _ h' _ (.lst ys) from ⟨hz, its, c', rr, e⟩), rfl, q _ (I.hok.fresh (Nat.le_refl _)) (Nat.ne_of_gt I.big)⟩
end
end My
set_option Elab.async false
set_option linter.all false
set_option maxRecDepth 100000
set_option maxHeartbeats 4000000
/-! {e for target in it}, e an int or a text; len of such a set. -/
namespace My
open PySem PySem.Spec PyProof.Rows L2
section
variable {X : Cx} {pins : List (Addr × Obj)} {σ : L2.St} {H : Hp} {s : Shared}
def noKeys : Key → Bool := fun _ => false
def withKey (S : Key → Bool) (k : Key) : Key → Bool := fun j => S j || decide (j = k)
def more (S : Key → Bool) (k : Key) (n : Nat) : Nat := if S k = true then n else n + 1
theorem keys_fresh {P : Program} {w : World} {h : Heap} : (h.push { cls := .type "set", dict := none, data := .set #[] 0 (.fresh 0 0 (!w.params.followText "set-order")) }).SetOf (mixKind P w) h.objs.size noKeys 0 := by
  refine ⟨_, #[], 0, _, Heap.get?_push_size _ rfl, ⟨rfl, rfl, rfl⟩, rfl, fun e z => ?_, fun k => ?_, by decide, by rfl, rfl⟩
  · exact absurd z (by simp)
  · unfold noKeys
    simp
/-- a key is added -/
theorem key_added {E : Value → Shared → Prop} {D : Addr} {S : Key → Bool} {n : Nat} {k : Key} {u : Value} {Q : Value → Shared → Prop} (I : Inv X pins σ H s) (e : H D = some (SetK X.prog X.w D S n)) (r : RelV (kV k) u) (room : n + 1 < scanBound)
    (q : ∀ s', Inv X pins σ (upd H D (SetK X.prog X.w D (withKey S k) (more S k n))) s' → Q .none s') : wpAny (model X.prog X.w) X.A (call (.builtin "set.add") [.ref D, u]) Q E s := by
  refine call_set_add (kV_is r) (key_scan r) (setK_get I e) room fun h' same now => ?_
  obtain ⟨ob, _, _, _, there, _⟩ := id now
  refine q _ (I.write (e := D) (t' := s.toks + 1) ?_ (.inl rfl) (fun b u ne hu => (same.2 b ne).trans hu) ⟨ob, there⟩ (setK_new now))
  rw [e]
  trivial
/-- what one turn wants of the element's key -/
def keyEnd (P : Program) (w : World) (D : Addr) (Nx : Hp → Prop) : VK := fun y H => ∃ (k : Key) (S : Key → Bool) (n : Nat), y = kV k ∧ H D = some (SetK P w D S n) ∧ n + 1 < scanBound ∧ Nx (upd H D (SetK P w D (withKey S k) (more S k n)))
/-- the comprehension's reading; D is the new set -/
def tSetC (P : Program) (w : World) (wi : TI) (g : TG) (te : TE) (vs : List Nat) : TE := fun σ H Q => wi σ H fun J H1 => ∀ D, H1 D = none →
  ∃ W : Nat → Nat → Hp → Prop, (∃ m, W 0 m (upd H1 D (SetK P w D noKeys 0))) ∧ ∀ i m H, W i m H → (J.stop i H ∧ Q (.ref D) H) ∨
    (J.go i H ∧ ∃ Nx : Hp → Prop, (∀ H', Nx H' → ∃ m', m' < m ∧ W (i + 1) m' H') ∧ ∀ x H', J.yld i H x H' → g x (wipe σ vs) H' fun σ2 H2 => wipe σ2 vs = wipe σ vs ∧ te σ2 H2 (keyEnd P w D Nx))
theorem pe_setc {elt tg iter : Expr} {scope : Scope} {own : List (PySem.Str × Nat)} {pos : Pos} {wi : TI} {g : TG} {te : TE} (calm : X.calm = true) (nd : X.N.Nodup) (hi : PI X tg iter wi) (ok : BlkOk X.N X.env.scope scope own)
    (hg : ∀ (s : Shared) (H : Hp) (C : Addr) (cl : List (PySem.Str × Addr)) (fp : List Addr), PG (X.blk s H scope (compEnvC scope cl C X.env) fp) tg g)
    (he : ∀ (s : Shared) (H : Hp) (C : Addr) (cl : List (PySem.Str × Addr)) (fp : List Addr), PE (X.blk s H scope (compEnvC scope cl C X.env) fp) elt te)
    (plain : ∀ x, foldedSetIterable iter X.env x = pure x := by intro _; rfl) : PE X (.SetComp elt [⟨tg, iter, [], 0⟩] scope pos) (tSetC X.prog X.w wi g te (own.map (·.2))) := by
  refine ⟨fun pins s σ H Q I h => ?_⟩
  rw [PpSet.eval_SetComp]
  have cells : ∀ y ∈ scope.names, y.2 = .free → ∃ c, X.env.cells.lookup y.1 = some c := fun y hy e =>
    (ok.free y hy e).elim (fun k => I.ok.has _ (.inl k)) fun k => I.ok.has _ (.inr k)
  refine wpAny_comprehension_free (use := none) rfl plain (closure_ok cells) ok.kind (fun y hy e => (ok.uniq y hy).trans (congrArg some e)) ?_
  refine thn (hi.run pins s σ H _ I h) fun xv sa walks => thn walks fun itv sb z => ?_
  obtain ⟨it, fp, tn, J, Hb, rfl, Ib, T, st, foot, q⟩ := z
  refine PpSet.newSet_ok (newEnv_comp ?_)
  generalize hD : sb.heap.objs.size = D
  have freeD : Hb D = none := Ib.hok.fresh (Nat.le_of_eq hD)
  obtain ⟨W, ⟨m0, w0⟩, turn⟩ := q D freeD
  generalize hc : ({ sb with heap := sb.heap.push { cls := .type "set", dict := none, data := .set #[] 0 (.fresh 0 0 (!X.w.params.followText "set-order")) } } : Shared) = sc
  have heapC : sc.heap = sb.heap.push { cls := .type "set", dict := none, data := .set #[] 0 (.fresh 0 0 (!X.w.params.followText "set-order")) } := by rw [← hc]
  have Ic : Inv X pins σ (upd Hb D (SetK X.prog X.w D noKeys 0)) sc := by
    rw [← hc]
    refine Ib.laid (t' := sb.toks) (fun b o e => Heap.get?_push_of_some _ e) (Nat.le_of_eq hD) ?_
    rw [← hD]
    exact setK_new keys_fresh
  have small : ∀ b ∈ fp, b < sb.heap.objs.size := fun b hb => let ⟨_, e, _⟩ := T.obj _ _ st b hb; Heap.lt_size e
  have footC : ∀ b ∈ fp, FpOk X pins (upd Hb D (SetK X.prog X.w D noKeys 0)) b ∧ b < sc.heap.objs.size := fun b hb => by
    have lt := small b hb
    refine ⟨⟨(upd_ne (hD ▸ Nat.ne_of_lt lt)).trans (foot b hb).1, (foot b hb).2⟩, ?_⟩
    rw [heapC, Heap.size_push]
    exact Nat.lt_succ_of_lt lt
  have stc : tn 0 sc.heap := T.keep _ _ _ st fun b _ o e => heapC ▸ Heap.get?_push_of_some _ e
  have In := block_start Ic ok nd footC
  let ce := compEnvC scope (cellsFrom (sc.heap.objs.size + 1) scope.names (cloFrom X.env.cells scope.names [])) sc.heap.objs.size X.env
  let Hc := upd Hb D (SetK X.prog X.w D noKeys 0)
  have pg : PG (X.blk sc Hc scope ce fp) tg g := hg _ _ _ _ _
  have pe : PE (X.blk sc Hc scope ce fp) elt te := he _ _ _ _ _
  let B := X.blk sc Hc scope ce fp
  have nfp : ∀ b ∈ fp, Hc b = none := fun b hb => (footC b hb).1.1
  generalize hd : ({ sc with heap := pushCells (sc.heap.push { cls := .type "dict", data := .dict #[] }) scope.names } : Shared) = sd at In
  have Id : Inv B [] (wipe σ (own.map (·.2))) Hc sd := In
  have std : tn 0 sd.heap := T.keep _ _ _ stc fun b _ o e => by rw [← hd]; exact pushCells_keeps _ _ _ _ (Heap.get?_push_of_some _ e)
  have stay : ∀ {σ' : L2.St} {H' : Hp} {s' : Shared}, Inv B [] σ' H' s' → (∀ b ∈ fp, H' b = none) → ∀ b ∈ fp, FpOk B [] H' b := fun {_ _ _} J no b hb =>
    ⟨no b hb, (J.ok.exf b hb).1, J.ok.exfs b hb, .inl hb, fun x c e => (J.ok.exf b hb).2 x c e, fun p hp => (List.not_mem_nil (List.append_nil ([] : List (Addr × Obj)) ▸ hp)).elim⟩
  have loop : codeAny (model X.prog X.w) X.A (.compLoop (.SetComp elt [⟨tg, iter, [], 0⟩] scope pos) 0 (.ref it) (.ref D) ce) (compPost (model X.prog X.w) X.A X.xe none (EP X pins σ Q) (.ref D) sc.heap.objs.size) sd := by
    refine PpSet.compLoopS_any (fun n s' => ∃ i H', Inv B [] (wipe σ (own.map (·.2))) H' s' ∧ tn i s'.heap ∧ (∀ b ∈ fp, H' b = none) ∧ W i n H') ?_ m0 ⟨0, Hc, Id, std, nfp, w0⟩
    rintro n se ⟨i, He, Ie, ste, ne, we⟩
    rcases turn i n He we with ⟨stop, fin⟩ | ⟨go, Nx, fall, step⟩
    · refine thnF (T.done B rfl rfl rfl calm i [] se _ He (fun _ _ => False) Ie (stay Ie ne) ste stop) fun r sf ⟨er, If⟩ => ?_
      subst er
      have Ig : Inv X pins σ He sf := Ic.call' (ch := fp) If.os If.base If.hok If.bare fun b hb => let f := (footC b hb).1; ⟨f.2.2.2.1, f.2.1, f.2.2.2.2.1, f.2.2.2.2.2⟩
      have noC : He sc.heap.objs.size = none := If.free
      obtain ⟨m, hn, _⟩ := If.loc
      obtain ⟨f0, f1, f2, f3, f4, f5⟩ := Ic.fpOk (Nat.le_refl _) noC
      exact ⟨m, hn, fun h'' sm => ⟨.ref D, He, Ig.turned (t' := sf.toks) (fun b o hb e => (sm.2 b hb).trans e) f0 f1 f3 f4 f5, rfl, fin⟩⟩
    · refine thnF (T.item B rfl rfl rfl calm i [] se _ He (fun _ _ => False) Ie (stay Ie ne) ste go) fun r sf ⟨u, er, hf⟩ => ?_
      subst er
      refine thnF hf fun _ sg ⟨x, Hg, Ig, rg, yg, stg, ng⟩ => ?_
      have Ip := Ig.pinned (stay Ig ng) (T.obj _ _ stg)
      refine thnF (pg.run _ sg _ Hg x u _ Ip rg (step x Hg yg)) fun _ sh ⟨σh, Hh, Ih, same, qh⟩ => ?_
      refine wpAny_tests_nil ?_
      rw [if_pos rfl]
      refine thnF (pe.run _ sh σh Hh _ Ih qh) fun v si ⟨yv, Hi, Ii, rv, k, S, c, ey, hDi, room, nx⟩ => ?_
      subst ey
      refine key_added (X := B) Ii hDi rv room fun sj Ij => ?_
      obtain ⟨m', lt, w'⟩ := fall _ nx
      have held : ∀ b ∈ fp, ∀ o, sg.heap.get? b = some o → sj.heap.get? b = some o ∧ (upd Hi D (SetK X.prog X.w D (withKey S k) (more S k c))) b = none := fun b hb o e =>
        let z := Ij.pin (b, o) (List.mem_append_right _ (List.mem_append_right _ (mem_pinsAt hb e)))
        ⟨z.1, z.2.1⟩
      have len : (wipe σ (own.map (·.2))).length = σh.length := by rw [← same, wipe_length]
      refine ⟨m', lt, i + 1, _, (Ij.unpinned (pins := [])).weak len (fun j v e => ?_), T.keep _ _ _ stg fun b hb o e => (held b hb o e).1, fun b hb => ?_, w'⟩
      · rw [← same] at e
        exact (wipe_some e).1
      · obtain ⟨o, e, _⟩ := T.obj _ _ stg b hb
        exact (held b hb o e).2
  exact PpSet.codeAny_compStart_set loop (T.self X.A 0 _ _ _ std loop)
end
end My
set_option Elab.async false
set_option linter.all false
set_option maxRecDepth 100000
set_option maxHeartbeats 8000000
/-! set(xs), xs a list (or a tuple) of ints and texts, any number of them; len of a set of such. -/
namespace My
open PySem PySem.Spec PyProof.Rows L2

theorem one_nodup {α : Type} (x : α) : [x].Nodup := List.nodup_cons.mpr ⟨List.not_mem_nil, List.nodup_nil⟩
open Classical in
/-- the keys met so far, each once -/
noncomputable def metK : List Key → List Key → List Key
  | seen, [] => seen
  | seen, k :: r => metK (if k ∈ seen then seen else seen ++ [k]) r
open Classical in
theorem metK_snoc : ∀ (xs seen : List Key) (k : Key), metK seen (xs ++ [k]) = if k ∈ metK seen xs then metK seen xs else metK seen xs ++ [k]
  | [], seen, k => rfl
  | x :: r, seen, k => metK_snoc r _ k
open Classical in
theorem mem_metK : ∀ (xs seen : List Key) (k : Key), k ∈ metK seen xs ↔ k ∈ seen ∨ k ∈ xs
  | [], seen, k => by simp [metK]
  | x :: r, seen, k => by
    rw [metK, mem_metK r]
    split
    · rename_i h
      constructor
      · rintro (z | z)
        · exact .inl z
        · exact .inr (List.mem_cons_of_mem _ z)
      · rintro (z | z)
        · exact .inl z
        · rcases List.mem_cons.mp z with e | z
          · subst e
            exact .inl h
          · exact .inr z
    · rw [List.mem_append, List.mem_singleton, List.mem_cons, or_assoc]
open Classical in
theorem nodup_metK : ∀ (xs seen : List Key), seen.Nodup → (metK seen xs).Nodup
  | [], _, h => h
  | x :: r, seen, h => by
    rw [metK]
    refine nodup_metK r _ ?_
    split
    · exact h
    · rename_i z
      exact List.nodup_append.mpr ⟨h, one_nodup x, fun a ha b hb e => z (by rw [List.mem_singleton.mp hb] at e; exact e ▸ ha)⟩
open Classical in
theorem len_metK_le : ∀ (xs seen : List Key), (metK seen xs).length ≤ seen.length + xs.length
  | [], _ => Nat.le_refl _
  | x :: r, seen => by
    rw [metK]
    have h := len_metK_le r (if x ∈ seen then seen else seen ++ [x])
    have : (if x ∈ seen then seen else seen ++ [x]).length ≤ seen.length + 1 := by
      split
      · omega
      · rw [List.length_append]; exact Nat.le_refl _
    rw [List.length_cons]
    omega
open Classical in
/-- as many as items just where all differ -/
theorem len_metK_eq : ∀ (xs seen : List Key), seen.Nodup → ((metK seen xs).length = seen.length + xs.length ↔ (seen ++ xs).Nodup)
  | [], seen, h => by simp [metK, h]
  | x :: r, seen, h => by
    rw [metK]
    by_cases z : x ∈ seen
    · rw [if_pos z]
      constructor
      · intro e
        have := len_metK_le r seen
        rw [List.length_cons] at e
        omega
      · intro nd
        have := (List.nodup_append.mp nd).2.2 x z x List.mem_cons_self
        exact absurd rfl this
    · rw [if_neg z]
      have nd : (seen ++ [x]).Nodup := List.nodup_append.mpr ⟨h, one_nodup x, fun a ha b hb e => z (by rw [List.mem_singleton.mp hb] at e; exact e ▸ ha)⟩
      have ih := len_metK_eq r (seen ++ [x]) nd
      rw [List.length_append, List.length_singleton, List.append_assoc] at ih
      rw [List.length_cons, show seen.length + (r.length + 1) = seen.length + 1 + r.length by omega]
      exact ih
open Classical in
noncomputable def inK (xs : List Key) : Key → Bool := fun k => decide (k ∈ xs)

section
variable {prog : Program} {w : World}
theorem setOf_eq {h : Heap} {a : Addr} {S T : Key → Bool} {n m : Nat} (R : h.SetOf (mixKind prog w) a S n) (e : ∀ k, S k = T k) (en : n = m) : h.SetOf (mixKind prog w) a T m := by
  cases (funext e : S = T)
  cases en
  exact R
open Classical in
theorem met_add {h : Heap} {a : Addr} {xs : List Key} {k : Key} (R : h.SetOf (mixKind prog w) a (fun j => inK (metK [] xs) j || decide (j = k)) (if inK (metK [] xs) k = true then (metK [] xs).length else (metK [] xs).length + 1)) :
    h.SetOf (mixKind prog w) a (inK (metK [] (xs ++ [k]))) (metK [] (xs ++ [k])).length := by
  refine setOf_eq R (fun j => ?_) ?_
  · unfold inK
    rw [metK_snoc]
    by_cases z : k ∈ metK [] xs
    · rw [if_pos z]
      by_cases e : j = k
      · subst e
        simp [z]
      · simp [e]
    · rw [if_neg z]
      by_cases e : j = k
      · simp [e]
      · simp [e]
  · unfold inK
    rw [metK_snoc]
    by_cases z : k ∈ metK [] xs
    · rw [if_pos z, if_pos (decide_eq_true z)]
    · rw [if_neg z, if_neg (by simpa using z), List.length_append]
      rfl
variable {A : Around} {R : Result → Shared → Prop} {it : Addr} {fp wr : List Addr} {G : Array GenState → Array GenState → Prop} {n : Nat} {Y : Nat → Value → Prop} {St : Nat → Shared → Prop}
/-- the filling loop -/
theorem fill_loop (W : WalksS prog w A.in1 it fp wr G n Y St) {D : Addr} (apart : D ∉ fp) {ks : List Key} (len : ks.length = n) (keys : ∀ i v, Y i v → ∃ k, ks[i]? = some k ∧ keyIs k v = true) (room : n + 1 < scanBound) :
    ∀ (left i : Nat) (s : Shared), i + left = n → St i s → s.heap.SetOf (mixKind prog w) D (inK (metK [] (ks.take i))) (metK [] (ks.take i)).length →
      (∀ s', Moved (D :: wr) G s s' → s'.heap.SetOf (mixKind prog w) D (inK (metK [] ks)) (metK [] ks).length → R (.ok (.ret .none)) s') → codeAny (model prog w) A (.builtin "set.update.loop" ⟨[.ref D, .ref it], []⟩) R s := by
  have notW : D ∉ wr := fun h => apart (W.sub _ h)
  have wide : ∀ b ∈ wr, b ∈ D :: wr := fun _ h => List.mem_cons_of_mem _ h
  have kept : ∀ {s s' : Shared} {S : Key → Bool} {m : Nat}, Moved wr G s s' → s.heap.SetOf (mixKind prog w) D S m → s'.heap.SetOf (mixKind prog w) D S m := fun mv q => setOf_at q fun o e => mv.heap D o notW e
  intro left
  induction left with
  | zero =>
    intro i s e st have_ go
    have all : i = n := e
    subst all
    refine codeAny_builtin PyProof.Rows.F.entry_set_update_loop ?_
    rw [Around.under_plainId PyProof.Rows.F.plain_set_update_loop _]
    refine (show wpAny _ A.in1 (pyNext (.ref it) >>= _) _ _ s from wpAny_bind (W.done s _ _ st fun s' mv => ?_))
    refine (show wpAny _ A.in1 (ret Value.none) _ _ s' from wpAny_pure (go s' (mv.mono wide) ?_))
    have q := kept mv have_
    rwa [List.take_of_length_le (Nat.le_of_eq len)] at q
  | succ left ih =>
    intro i s e st have_ go
    refine codeAny_builtin PyProof.Rows.F.entry_set_update_loop ?_
    rw [Around.under_plainId PyProof.Rows.F.plain_set_update_loop _]
    refine (show wpAny _ A.in1 (pyNext (.ref it) >>= _) _ _ s from wpAny_bind (W.item i s _ _ (by omega) st fun v s' yv st' mv => ?_))
    obtain ⟨k, hk, isk⟩ := keys i v yv
    have q := kept mv have_
    have few : (metK [] (ks.take i)).length ≤ i := by
      have h := len_metK_le (ks.take i) []
      rw [List.length_take, List.length_nil] at h
      omega
    have scan : v.scannable = true := by
      rcases keyIs_shape isk with ⟨_, _, _, rfl⟩ | ⟨_, _, _, rfl⟩ <;> rfl
    refine (show wpAny _ A.in1 (holding [v] (setAdd D v) >>= _) _ _ s' from wpAny_bind (wpAny_holding ?_))
    unfold setAdd
    refine wpAny_holding (wpAny_bind ((mixKind prog w).pyHash (k := k) isk ?_))
    refine wpAny_setAddHashed_of (knd := mixKind prog w) (s := { s' with toks := s'.toks + 1 }) isk scan q (by omega) fun h' same now => ?_
    have nowK := met_add now
    rw [show ks.take i ++ [k] = ks.take (i + 1) by rw [List.take_add_one, hk]; rfl] at nowK
    refine wpAny_pure ⟨plainId_quiet PyProof.Rows.F.plain_set_update_loop _, ih (i + 1) _ (by omega) (W.frame _ s' _ _ st' (Nat.le_succ _) fun b hb o e => ?_) nowK fun s'' mv' end_ => ?_⟩
    · exact (same.2 b fun z => apart (z ▸ hb)).trans e
    · exact go s'' (Moved.trans W.gtrans ((mv.mono wide).then_heap (Nat.le_succ _) fun b o hb e => (same.2 b fun z => hb (z ▸ List.mem_cons_self)).trans e) mv') end_
end

section
variable {prog : Program} {w : World} {A : Around} {E : Value → Shared → Prop} {s : Shared}
abbrev setOb (led : Bool) : Obj := { cls := .type "set", dict := none, data := .set #[] 0 (.fresh 0 0 led) }
theorem setFrom_list {l : Addr} {items : Array Value} {ks : List Key} {Q : Value → Shared → Prop} (calm : A.handled = none) (src : s.heap.IsList l items) (len : ks.length = items.size) (keys : ∀ (i : Nat) (v : Value), items[i]? = some v → ∃ k, ks[i]? = some k ∧ keyIs k v = true)
    (room : items.size + 1 < scanBound) (q : ∀ (h' : Heap) (tk : Nat), h'.SetOf (mixKind prog w) s.heap.objs.size (inK (metK [] ks)) (metK [] ks).length → (∀ b o, b < s.heap.objs.size → s.heap.get? b = some o → h'.get? b = some o) →
      Q (.ref s.heap.objs.size) { s with heap := h', toks := tk }) : wpAny (model prog w) A (call (.type "set") [.ref l]) Q E s := by
  obtain ⟨c0, t0, mro0⟩ := PySem.F.called_set.mro
  have made0 := PySem.F.called_set.made
  have sub0 := PySem.F.called_set.sub
  refine wpAny_call (codeAny_of_tree (show wpAny _ _ (callAny (.type "set") _) _ _ _ from ?_))
  refine wpAny_pure ⟨Code.quiet_builtin _ (by decide +kernel), codeAny_builtin PySem.F.entry_type_call ?_⟩
  rw [Around.under_plain (weight_type_call_type "set" [.ref l] []) rfl]
  have nt0 := PySem.F.called_set.notType
  have cc0 := PySem.F.called_set.canCreate
  have tc0 := PySem.F.typeCall_set_1 (.ref l)
  repeat (any_goals (first | assumption | wp_step))
  refine codeAny_mono (code_set_new_1 (.ref l) (E := E) (Q₁ := fun ob s1 => ∃ led : Bool, ob = .ref s.heap.objs.size ∧ s1 = { s with heap := s.heap.push (setOb led) }) fun led => ⟨led, rfl, rfl⟩) fun res s1 z => ?_
  match res, z with
  | .error e, z => exact z
  | .ok .next, z => exact z.elim
  | .ok .brk, z => exact z.elim
  | .ok .cont, z => exact z.elim
  | .ok (.ret ob), ⟨led, e1, e2⟩ =>
    subst e1
    subst e2
    have at0 : (s.heap.push (setOb led)).get? s.heap.objs.size = some (setOb led) := Heap.get?_push_size _ rfl
    have ty0 : Shared.TypeIs { s with heap := s.heap.push (setOb led) } (.ref s.heap.objs.size) "set" := ⟨_, at0, rfl⟩
    have li0 := PySem.F.called_set.init.lookup
    have bi0 := PySem.F.called_set.init.bind (.ref s.heap.objs.size)
    repeat (any_goals (first | assumption | wp_step))
    refine codeAny_mono (codeAny_call_builtin (R := wants (fun r s2 => r = .none ∧ ∃ h' tk, s2 = { s with heap := h', toks := tk } ∧ h'.SetOf (mixKind prog w) s.heap.objs.size (inK (metK [] ks)) (metK [] ks).length ∧
        (∀ b o, b < s.heap.objs.size → s.heap.get? b = some o → h'.get? b = some o)) E) PySem.F.called_set.init.plain PySem.F.entry_set_init (check_set_init_1 ty0 ?_)) fun res2 s2 z2 => ?_
    · obtain ⟨⟨cl, dc, dt, sl⟩, hol, hcl, nl, hdl⟩ := src
      simp only at hcl hdl
      subst hcl
      subst hdl
      have here : (s.heap.push (setOb led)).get? l = some { cls := .type "list", dict := dc, data := .seq items nl, slots := sl } := Heap.get?_push_of_some _ hol
      have su1 := PySem.F.sub_list_set
      have su2 := PySem.F.sub_list_frozenset
      have nd0 : (Value.type "list" == Value.type "dict") = false := by decide
      have src' : (s.heap.push (setOb led)).IsList l items := ⟨_, here, rfl, nl, rfl⟩
      unfold Builtin.«set.__init__» noKeywords Builtin.Frozenset.updateFrom
      generalize pz : pyIter = pzI
      wp_walk
      subst pz
      refine wpAny_pyIter_list src' (wpAny_bind (wpAny_runValue ?_))
      have below : l < s.heap.objs.size := Heap.lt_size hol
      have calm3 : A.in1.in1.in1.handled = none := by simp [calm]
      have sz1 : (s.heap.push (setOb led)).objs.size = s.heap.objs.size + 1 := Heap.size_push _ _
      have ne1 : l ≠ (s.heap.push (setOb led)).objs.size := by
        rw [sz1]
        exact Nat.ne_of_lt (Nat.lt_succ_of_lt below)
      have out : s.heap.objs.size ∉ [(s.heap.push (setOb led)).objs.size, l] := by
        rw [sz1]
        simp only [List.mem_cons, List.not_mem_nil, or_false, not_or]
        exact ⟨Nat.ne_of_lt (Nat.lt_succ_self _), Nat.ne_of_gt below⟩
      refine fill_loop ((Walks.list calm3 _ l ne1 items).toS) out len keys room items.size 0 _ (Nat.zero_add _) ⟨⟨_, Heap.get?_push_size _ rfl, rfl, rfl⟩, (src'.push _)⟩ ?_ fun s' mv end_ => ?_
      · have get0 : ((s.heap.push (setOb led)).push { cls := .type "list_iterator", data := .fields #[.ref l, .int 0 0] }).get? s.heap.objs.size = some (setOb led) := Heap.get?_push_of_some _ at0
        refine ⟨_, #[], 0, _, get0, ⟨rfl, rfl, rfl⟩, rfl, fun e z => absurd z (by simp), fun k => ?_, by decide, by rfl, rfl⟩
        simp [inK, metK]
      · obtain ⟨h', g', d', tk', os'⟩ := s'
        cases (show g' = s.gens from mv.gens)
        cases (show d' = s.drawn from mv.drawn)
        cases (show os' = s.os from mv.os)
        refine (show wpAny _ _ _ _ _ _ from wpAny_pure (show wpAny _ _ (ret Value.none) _ _ _ from wpAny_pure ⟨rfl, h', tk', rfl, end_, fun b o hb e => ?_⟩))
        refine mv.heap b o ?_ (Heap.get?_push_of_some _ (Heap.get?_push_of_some _ e))
        simp only [List.mem_cons, List.not_mem_nil, or_false, not_or]
        refine ⟨Nat.ne_of_lt hb, ?_⟩
        rw [sz1]
        exact Nat.ne_of_lt (Nat.lt_succ_of_lt hb)
    · match res2, z2 with
      | .error e, z2 => exact z2
      | .ok .next, z2 => exact z2.elim
      | .ok .brk, z2 => exact z2.elim
      | .ok .cont, z2 => exact z2.elim
      | .ok (.ret r), ⟨e1, h', tk, e2, end_, keep⟩ =>
        subst e1
        subst e2
        repeat (any_goals (first | assumption | wp_step))
        exact q _ _ end_ keep
end

section
variable {prog : Program} {w : World} {A : Around} {E : Value → Shared → Prop} {s : Shared}
theorem setFrom_tuple {l : Addr} {items : Array Value} {ks : List Key} {Q : Value → Shared → Prop} (calm : A.handled = none) (src : s.heap.IsTuple l items) (len : ks.length = items.size) (keys : ∀ (i : Nat) (v : Value), items[i]? = some v → ∃ k, ks[i]? = some k ∧ keyIs k v = true)
    (room : items.size + 1 < scanBound) (q : ∀ (h' : Heap) (tk : Nat), h'.SetOf (mixKind prog w) s.heap.objs.size (inK (metK [] ks)) (metK [] ks).length → (∀ b o, b < s.heap.objs.size → s.heap.get? b = some o → h'.get? b = some o) →
      Q (.ref s.heap.objs.size) { s with heap := h', toks := tk }) : wpAny (model prog w) A (call (.type "set") [.ref l]) Q E s := by
  obtain ⟨c0, t0, mro0⟩ := PySem.F.called_set.mro
  have made0 := PySem.F.called_set.made
  have sub0 := PySem.F.called_set.sub
  refine wpAny_call (codeAny_of_tree (show wpAny _ _ (callAny (.type "set") _) _ _ _ from ?_))
  refine wpAny_pure ⟨Code.quiet_builtin _ (by decide +kernel), codeAny_builtin PySem.F.entry_type_call ?_⟩
  rw [Around.under_plain (weight_type_call_type "set" [.ref l] []) rfl]
  have nt0 := PySem.F.called_set.notType
  have cc0 := PySem.F.called_set.canCreate
  have tc0 := PySem.F.typeCall_set_1 (.ref l)
  repeat (any_goals (first | assumption | wp_step))
  refine codeAny_mono (code_set_new_1 (.ref l) (E := E) (Q₁ := fun ob s1 => ∃ led : Bool, ob = .ref s.heap.objs.size ∧ s1 = { s with heap := s.heap.push (setOb led) }) fun led => ⟨led, rfl, rfl⟩) fun res s1 z => ?_
  match res, z with
  | .error e, z => exact z
  | .ok .next, z => exact z.elim
  | .ok .brk, z => exact z.elim
  | .ok .cont, z => exact z.elim
  | .ok (.ret ob), ⟨led, e1, e2⟩ =>
    subst e1
    subst e2
    have at0 : (s.heap.push (setOb led)).get? s.heap.objs.size = some (setOb led) := Heap.get?_push_size _ rfl
    have ty0 : Shared.TypeIs { s with heap := s.heap.push (setOb led) } (.ref s.heap.objs.size) "set" := ⟨_, at0, rfl⟩
    have li0 := PySem.F.called_set.init.lookup
    have bi0 := PySem.F.called_set.init.bind (.ref s.heap.objs.size)
    repeat (any_goals (first | assumption | wp_step))
    refine codeAny_mono (codeAny_call_builtin (R := wants (fun r s2 => r = .none ∧ ∃ h' tk, s2 = { s with heap := h', toks := tk } ∧ h'.SetOf (mixKind prog w) s.heap.objs.size (inK (metK [] ks)) (metK [] ks).length ∧
        (∀ b o, b < s.heap.objs.size → s.heap.get? b = some o → h'.get? b = some o)) E) PySem.F.called_set.init.plain PySem.F.entry_set_init (check_set_init_1 ty0 ?_)) fun res2 s2 z2 => ?_
    · obtain ⟨⟨cl, dc, dt, sl⟩, hol, hcl, nl, hdl⟩ := src
      simp only at hcl hdl
      subst hcl
      subst hdl
      have here : (s.heap.push (setOb led)).get? l = some { cls := .type "tuple", dict := dc, data := .seq items nl, slots := sl } := Heap.get?_push_of_some _ hol
      have su1 := PySem.F.sub_tuple_set
      have su2 := PySem.F.sub_tuple_frozenset
      have nd0 : (Value.type "tuple" == Value.type "dict") = false := by decide
      have src' : (s.heap.push (setOb led)).IsTuple l items := ⟨_, here, rfl, nl, rfl⟩
      unfold Builtin.«set.__init__» noKeywords Builtin.Frozenset.updateFrom
      generalize pz : pyIter = pzI
      wp_walk
      subst pz
      refine wpAny_pyIter_tuple src' (wpAny_bind (wpAny_runValue ?_))
      have below : l < s.heap.objs.size := Heap.lt_size hol
      have calm3 : A.in1.in1.in1.handled = none := by simp [calm]
      have sz1 : (s.heap.push (setOb led)).objs.size = s.heap.objs.size + 1 := Heap.size_push _ _
      have ne1 : l ≠ (s.heap.push (setOb led)).objs.size := by
        rw [sz1]
        exact Nat.ne_of_lt (Nat.lt_succ_of_lt below)
      have out : s.heap.objs.size ∉ [(s.heap.push (setOb led)).objs.size, l] := by
        rw [sz1]
        simp only [List.mem_cons, List.not_mem_nil, or_false, not_or]
        exact ⟨Nat.ne_of_lt (Nat.lt_succ_self _), Nat.ne_of_gt below⟩
      refine fill_loop ((Walks.tuple calm3 _ l ne1 items).toS) out len keys room items.size 0 _ (Nat.zero_add _) ⟨⟨_, Heap.get?_push_size _ rfl, rfl, rfl⟩, (src'.push _)⟩ ?_ fun s' mv end_ => ?_
      · have get0 : ((s.heap.push (setOb led)).push { cls := .type "tuple_iterator", data := .fields #[.ref l, .int 0 0] }).get? s.heap.objs.size = some (setOb led) := Heap.get?_push_of_some _ at0
        refine ⟨_, #[], 0, _, get0, ⟨rfl, rfl, rfl⟩, rfl, fun e z => absurd z (by simp), fun k => ?_, by decide, by rfl, rfl⟩
        simp [inK, metK]
      · obtain ⟨h', g', d', tk', os'⟩ := s'
        cases (show g' = s.gens from mv.gens)
        cases (show d' = s.drawn from mv.drawn)
        cases (show os' = s.os from mv.os)
        refine (show wpAny _ _ _ _ _ _ from wpAny_pure (show wpAny _ _ (ret Value.none) _ _ _ from wpAny_pure ⟨rfl, h', tk', rfl, end_, fun b o hb e => ?_⟩))
        refine mv.heap b o ?_ (Heap.get?_push_of_some _ (Heap.get?_push_of_some _ e))
        simp only [List.mem_cons, List.not_mem_nil, or_false, not_or]
        refine ⟨Nat.ne_of_lt hb, ?_⟩
        rw [sz1]
        exact Nat.ne_of_lt (Nat.lt_succ_of_lt hb)
    · match res2, z2 with
      | .error e, z2 => exact z2
      | .ok .next, z2 => exact z2.elim
      | .ok .brk, z2 => exact z2.elim
      | .ok .cont, z2 => exact z2.elim
      | .ok (.ret r), ⟨e1, h', tk, e2, end_, keep⟩ =>
        subst e1
        subst e2
        repeat (any_goals (first | assumption | wp_step))
        exact q _ _ end_ keep
end
end My
set_option Elab.async false
set_option linter.all false
set_option maxRecDepth 100000
set_option maxHeartbeats 4000000
/-! set(xs), len of a set, {.. for .. in t}: the rules and their turns. -/
namespace My
open PySem PySem.Spec PyProof.Rows L2
section
variable {X : Cx}
theorem vals_keys : ∀ {ks : List Key} {us : List Value}, Vals (ks.map kV) us → ∀ (i : Nat) (v : Value), us[i]? = some v → ∃ k, ks[i]? = some k ∧ keyIs k v = true
  | [], _, .nil, i, v, h => by simp at h
  | k :: r, _, .cons a b, 0, v, h => ⟨k, rfl, by
    cases h
    cases k with
    | inl i =>
      obtain ⟨t, rfl⟩ := a
      exact keyIs_int i t
    | inr x =>
      obtain ⟨t, rfl⟩ := a
      exact keyIs_str x t⟩
  | k :: r, _, .cons a b, i + 1, v, h => vals_keys b i v h
/-- set(xs) -/
def rSetOf (K : PySem.W.Frag) (P : Program) (w : World) : List V → Hp → VK → Prop := fun xs H Q => ∃ (a : Addr) (ks : List Key), xs = [.ref a] ∧ (SqL K H a (ks.map kV) ∨ SqT K H a (ks.map kV)) ∧ ks.length ≤ 1000 ∧
  ∀ p, H p = none → Q (.ref p) (upd H p (SetK P w p (inK (metK [] ks)) (metK [] ks).length))
theorem call_setOf (calm : X.calm = true) : CallR X (.type "set") (rSetOf X.K X.prog X.w) := by
  intro pins s σ H xs us Q I r h
  obtain ⟨a, ks, rfl, hs, hl, q⟩ := h
  obtain ⟨u, rfl, rx⟩ := vals1 r
  cases rx
  have fin : ∀ (h' : Heap) (tk : Nat), h'.SetOf (mixKind X.prog X.w) s.heap.objs.size (inK (metK [] ks)) (metK [] ks).length → (∀ b o, b < s.heap.objs.size → s.heap.get? b = some o → h'.get? b = some o) →
      EP X pins σ Q (.ref s.heap.objs.size) { s with heap := h', toks := tk } := fun h' tk R k =>
    ⟨.ref _, upd H s.heap.objs.size (SetK X.prog X.w s.heap.objs.size (inK (metK [] ks)) (metK [] ks).length), I.laid (t' := tk) (fun b o e => k b o (Heap.lt_size e) e) (Nat.le_refl _) (setK_new R), rfl, q _ (I.hok.fresh (Nat.le_refl _))⟩
  have sb : ks.length + 1 < scanBound := by unfold scanBound; omega
  rcases hs with hs | hs
  · obtain ⟨its, rv, pl, _⟩ := I.list hs
    have el : ks.length = its.toArray.size := by rw [List.size_toArray, ← rv.length, List.length_map]
    exact setFrom_list (I.ok.hd calm) pl.isList el (fun i v e => vals_keys rv i v (by simpa using e)) (by rw [← el]; exact sb) fin
  · obtain ⟨its, rv, pl, _⟩ := I.tuple hs
    have el : ks.length = its.toArray.size := by rw [List.size_toArray, ← rv.length, List.length_map]
    exact setFrom_tuple (I.ok.hd calm) pl el (fun i v e => vals_keys rv i v (by simpa using e)) (by rw [← el]; exact sb) fin
/-- len of a set -/
def rLenK (P : Program) (w : World) : List V → Hp → VK → Prop := fun xs H Q => ∃ (a : Addr) (S : Key → Bool) (n : Nat), xs = [.ref a] ∧ H a = some (SetK P w a S n) ∧ n ≤ 100000 ∧ Q (.int (n : Int)) H
theorem call_lenK : CallR X (.builtin "len") (rLenK X.prog X.w) := by
  intro pins s σ H xs us Q I r h
  obtain ⟨a, S, n, rfl, hs, hn, q⟩ := h
  obtain ⟨u, rfl, rx⟩ := vals1 r
  cases rx
  obtain ⟨o, es, ep, t, ho, hex, hd, _, _, _, hf, en⟩ := setK_get I hs
  exact call_len_set ho hex hd hf (by rw [en] <;> omega) ⟨.int (n : Int), H, I.tok _, ⟨_, by rw [en]⟩, q⟩
end
/-- a set comprehension over a tuple that the block leaves as it is -/
theorem setc_tup {P : Program} {w : World} {K : PySem.W.Frag} {a : Addr} {xs : List V} {g : TG} {te : TE} {vs : List Nat} {σ : L2.St} {H1 : Hp} {D : Addr} {Qd : Hp → Prop} (Pv : Nat → Hp → Prop) (h0 : Pv 0 (upd H1 D (SetK P w D noKeys 0)))
    (hl : ∀ i H, i ≤ xs.length → Pv i H → SqT K H a xs) (hs : ∀ i x H, xs[i]? = some x → Pv i H → g x (wipe σ vs) H fun σ2 H2 => wipe σ2 vs = wipe σ vs ∧ te σ2 H2 (keyEnd P w D (Pv (i + 1)))) (hd : ∀ H, Pv xs.length H → Qd H) :
    ∃ W : Nat → Nat → Hp → Prop, (∃ m, W 0 m (upd H1 D (SetK P w D noKeys 0))) ∧ ∀ i m H, W i m H → ((Itt K a).stop i H ∧ Qd H) ∨
      ((Itt K a).go i H ∧ ∃ Nx : Hp → Prop, (∀ H', Nx H' → ∃ m', m' < m ∧ W (i + 1) m' H') ∧ ∀ x H', (Itt K a).yld i H x H' → g x (wipe σ vs) H' fun σ2 H2 => wipe σ2 vs = wipe σ vs ∧ te σ2 H2 (keyEnd P w D Nx)) := by
  refine ⟨fun i m H => i + m = xs.length ∧ Pv i H, ⟨xs.length, Nat.zero_add _, h0⟩, fun i m H ⟨e, p⟩ => ?_⟩
  have there := hl i H (by omega) p
  cases m with
  | zero =>
    cases e
    exact .inl ⟨⟨xs, there, Nat.le_refl _⟩, hd H p⟩
  | succ m =>
    have lt : i < xs.length := by omega
    refine .inr ⟨⟨xs, xs[i], there, List.getElem?_eq_getElem lt⟩, Pv (i + 1), fun H' p' => ⟨m, Nat.lt_succ_self m, by omega, p'⟩, fun x H' y => ?_⟩
    obtain ⟨rfl, y⟩ := y
    exact hs i x _ (y xs there) p
end My
set_option Elab.async false
set_option linter.all false
set_option maxRecDepth 100000
set_option maxHeartbeats 4000000
namespace My
open PySem PySem.Spec PyProof.Rows L2 SeqAt
section
variable {X : Cx}
theorem op_eqNil (hu : X.A.units + 64 < cLine) : OpR X (compareOp .Eq) (rNil X.K id) := by
  intro pins s σ H x y v u Q I rx ry h
  obtain ⟨a, b, xs, rfl, rfl, h, q⟩ := h
  cases rx
  cases ry
  rcases h with ⟨ha, hb⟩ | ⟨ha, hb⟩
  · obtain ⟨its, rv, ⟨o, n, ho, hc, _, hd⟩, _⟩ := I.list ha
    obtain ⟨its2, rv2, ⟨o2, n2, ho2, hc2, _, hd2⟩, _⟩ := I.list hb
    cases vals_nil rv2
    have l1 : s.heap.IsList a its.toArray := ⟨o, ho, hc, n, hd⟩
    have l2 : s.heap.IsList b #[] := ⟨o2, ho2, hc2, n2, hd2⟩
    cases rv with
    | nil => exact RcAt.lists (e := fun _ => true) l1 l2 rfl (by omega) (fun j h1 => absurd h1 (Nat.not_lt_zero j)) _ _ _ _ ⟨.bl _, H, I, rfl, q⟩
    | cons r t => exact RcAt.lists_lengths l1 l2 (by simp) (by omega) _ _ _ _ ⟨.bl _, H, I, rfl, q⟩
  · obtain ⟨its, rv, ⟨o, ho, hc, n, hd⟩, _⟩ := I.tuple ha
    obtain ⟨its2, rv2, ⟨o2, ho2, hc2, n2, hd2⟩, _⟩ := I.tuple hb
    cases vals_nil rv2
    have l1 : s.heap.IsTuple a its.toArray := ⟨o, ho, hc, n, hd⟩
    have l2 : s.heap.IsTuple b #[] := ⟨o2, ho2, hc2, n2, hd2⟩
    refine RcAt.tuples (e := fun _ => true) l1 l2 (by omega) (fun j _ h2 => absurd h2 (Nat.not_lt_zero j)) _ _ _ _ ?_
    rw [show min its.toArray.size (#[] : Array Value).size = 0 from Nat.min_zero _]
    refine ⟨.bl xs.isEmpty, H, I, ?_, q⟩
    show Value.bool _ = Value.bool _
    rw [← vals_emp rv]
    simp
end
/-! ### a comprehension over anything of a known length -/
theorem lcJ {J : It} {n : Nat} {g : TG} {tt : TT} {te : TE} {vs : List Nat} {σ : L2.St} {H1 : Hp} {D : Addr} {Qd : Hp → Prop} (Pv : Nat → Hp → Prop) (h0 : Pv 0 (upd H1 D (.lst []))) (go : ∀ i H, i < n → Pv i H → J.go i H) (stop : ∀ H, Pv n H → J.stop n H)
    (hs : ∀ i H x H', i < n → Pv i H → J.yld i H x H' → g x (wipe σ vs) H' fun σ2 H2 => wipe σ2 vs = wipe σ vs ∧ tt σ2 H2 fun b H3 =>
      if b = true then te σ2 H3 fun y H4 => ∃ acc, H4 D = some (.lst acc) ∧ acc.length < sizeLine ∧ Pv (i + 1) (upd H4 D (.lst (acc ++ [y]))) else Pv (i + 1) H3) (hd : ∀ H, Pv n H → Qd H) :
    ∃ W : Nat → Nat → Hp → Prop, (∃ m, W 0 m (upd H1 D (.lst []))) ∧ ∀ i m H, W i m H → (J.stop i H ∧ Qd H) ∨
      (J.go i H ∧ ∃ Nx : Hp → Prop, (∀ H', Nx H' → ∃ m', m' < m ∧ W (i + 1) m' H') ∧ ∀ x H', J.yld i H x H' → g x (wipe σ vs) H' fun σ2 H2 => wipe σ2 vs = wipe σ vs ∧ tt σ2 H2 fun b H3 =>
        if b = true then te σ2 H3 fun y H4 => ∃ acc, H4 D = some (.lst acc) ∧ acc.length < sizeLine ∧ Nx (upd H4 D (.lst (acc ++ [y]))) else Nx H3) := by
  refine ⟨fun i m H => i + m = n ∧ Pv i H, ⟨n, Nat.zero_add _, h0⟩, fun i m H ⟨e, p⟩ => ?_⟩
  cases m with
  | zero =>
    cases e
    exact .inl ⟨stop H p, hd H p⟩
  | succ m => exact .inr ⟨go i H (by omega) p, Pv (i + 1), fun H' p' => ⟨m, Nat.lt_succ_self m, by omega, p'⟩, fun x H' y => hs i H x H' (by omega) p y⟩
/-- .. over a text's signs, no test -/
def lcN_str {x : Str} {te : TE} {vs : List Nat} {σ : L2.St} {H1 : Hp} {D : Addr} {Qd : Hp → Prop} {j : Nat} (Pv : Nat → Hp → Prop) (h0 : Pv 0 (upd H1 D (.lst [])))
    (hs : ∀ i c H, x.cps.toList[i]? = some c → Pv i H → wipe ((wipe σ vs).set j (some (.str (sign c)))) vs = wipe σ vs ∧ Grows te D (Pv (i + 1)) ((wipe σ vs).set j (some (.str (sign c)))) H) (hd : ∀ H, Pv x.length H → Qd H) :=
  lcJ (J := Its x) (n := x.length) (g := gName j) (tt := tYes) (te := te) (vs := vs) (σ := σ) (H1 := H1) (D := D) (Qd := Qd) Pv h0 (fun i H lt _ => lt) (fun H _ => Nat.le_refl _)
    (fun i H v H' lt p y => by
      obtain ⟨rfl, c, e, rfl⟩ := y
      have e' : x.cps.toList[i]? = some c := by rw [Array.getElem?_toList]; exact e
      exact yes_turn (hs i c _ e' p).1 (hs i c _ e' p).2) hd
/-- .. with a test whose answer is known and which leaves the heap -/
def lcT_str {x : Str} {tt : TT} {te : TE} {vs : List Nat} {σ : L2.St} {H1 : Hp} {D : Addr} {Qd : Hp → Prop} {j : Nat} (b : Nat → Bool) (Pv : Nat → Hp → Prop) (h0 : Pv 0 (upd H1 D (.lst [])))
    (hs : ∀ i c H, x.cps.toList[i]? = some c → Pv i H → wipe ((wipe σ vs).set j (some (.str (sign c)))) vs = wipe σ vs ∧ (∀ Q : Bool → Hp → Prop, Q (b c) H → tt ((wipe σ vs).set j (some (.str (sign c)))) H Q) ∧
      (b c = true → Grows te D (Pv (i + 1)) ((wipe σ vs).set j (some (.str (sign c)))) H) ∧ (b c = false → Pv (i + 1) H)) (hd : ∀ H, Pv x.length H → Qd H) :=
  lcJ (J := Its x) (n := x.length) (g := gName j) (tt := tt) (te := te) (vs := vs) (σ := σ) (H1 := H1) (D := D) (Qd := Qd) Pv h0 (fun i H lt _ => lt) (fun H _ => Nat.le_refl _)
    (fun i H v H' lt p y => by
      obtain ⟨rfl, c, e, rfl⟩ := y
      have e' : x.cps.toList[i]? = some c := by rw [Array.getElem?_toList]; exact e
      obtain ⟨w1, w2, w3, w4⟩ := hs i c _ e' p
      refine ⟨w1, w2 _ ?_⟩
      cases hb : b c with
      | true => exact iteT (w3 hb)
      | false => exact iteF (w4 hb)) hd

/-! ### kinds -/
def kindD : PyData → String
  | .none => "NoneType"
  | .bool _ => "bool"
  | .int _ => "int"
  | .str _ => "str"
  | .list _ => "list"
  | .tuple _ => "tuple"
  | .dict _ => "dict"
theorem da_ty {K : PySem.W.Frag} {p : Addr} {H : Hp} : ∀ {d : PyData} {v : V}, Da K p H v d → TyX K H v (.type (kindD d))
  | _, _, .non => .base .non
  | _, _, .bl b => .base (.bl b)
  | _, _, .int i => .base (.int i)
  | _, _, .str x => .base (.str x)
  | _, _, .lst _ h _ => by
    rcases h with (h | ⟨o, h⟩) | ⟨o, its, n, h, c, _⟩
    · exact .base (.lst h)
    · exact .base (.frz h)
    · exact .kList h c
  | _, _, .tup h _ => by
    rcases h with (h | ⟨o, h⟩) | ⟨o, its, n, h, c, _⟩
    · exact .base (.tup h)
    · exact .fTuple h
    · exact .kTuple h c
  | _, _, .dct _ h _ => .base (.dK h)
def isStr : PyData → Bool
  | .str _ => true
  | _ => false
def isTup : PyData → Bool
  | .tuple _ => true
  | _ => false
def isInt : PyData → Bool
  | .int _ => true
  | .bool _ => true
  | _ => false
def isBool : PyData → Bool
  | .bool _ => true
  | _ => false
theorem kit_str : ∀ d : PyData, kitB (kindD d) "str" = some (isStr d)
  | .none => (show kitB "NoneType" "str" = some false by decide +kernel)
  | .bool _ => (show kitB "bool" "str" = some false by decide +kernel)
  | .int _ => (show kitB "int" "str" = some false by decide +kernel)
  | .str _ => (show kitB "str" "str" = some true by decide +kernel)
  | .list _ => (show kitB "list" "str" = some false by decide +kernel)
  | .tuple _ => (show kitB "tuple" "str" = some false by decide +kernel)
  | .dict _ => (show kitB "dict" "str" = some false by decide +kernel)
theorem kit_tuple : ∀ d : PyData, kitB (kindD d) "tuple" = some (isTup d)
  | .none => (show kitB "NoneType" "tuple" = some false by decide +kernel)
  | .bool _ => (show kitB "bool" "tuple" = some false by decide +kernel)
  | .int _ => (show kitB "int" "tuple" = some false by decide +kernel)
  | .str _ => (show kitB "str" "tuple" = some false by decide +kernel)
  | .list _ => (show kitB "list" "tuple" = some false by decide +kernel)
  | .tuple _ => (show kitB "tuple" "tuple" = some true by decide +kernel)
  | .dict _ => (show kitB "dict" "tuple" = some false by decide +kernel)
theorem kit_int : ∀ d : PyData, kitB (kindD d) "int" = some (isInt d)
  | .none => (show kitB "NoneType" "int" = some false by decide +kernel)
  | .bool _ => (show kitB "bool" "int" = some true by decide +kernel)
  | .int _ => (show kitB "int" "int" = some true by decide +kernel)
  | .str _ => (show kitB "str" "int" = some false by decide +kernel)
  | .list _ => (show kitB "list" "int" = some false by decide +kernel)
  | .tuple _ => (show kitB "tuple" "int" = some false by decide +kernel)
  | .dict _ => (show kitB "dict" "int" = some false by decide +kernel)
theorem kit_bool : ∀ d : PyData, kitB (kindD d) "bool" = some (isBool d)
  | .none => (show kitB "NoneType" "bool" = some false by decide +kernel)
  | .bool _ => (show kitB "bool" "bool" = some true by decide +kernel)
  | .int _ => (show kitB "int" "bool" = some false by decide +kernel)
  | .str _ => (show kitB "str" "bool" = some false by decide +kernel)
  | .list _ => (show kitB "list" "bool" = some false by decide +kernel)
  | .tuple _ => (show kitB "tuple" "bool" = some false by decide +kernel)
  | .dict _ => (show kitB "dict" "bool" = some false by decide +kernel)
section
variable {K : PySem.W.Frag} {p : Addr} {H : Hp} {v : V} {d : PyData} {Q : VK}
theorem isi_str (h : Da K p H v d) (q : Q (.bl (isStr d)) H) : rIsi K [v, .ty "str"] H Q := ⟨v, _, _, _, _, rfl, .ty _, da_ty h, kit_ty (kit_str d), q⟩
theorem isi_tup (h : Da K p H v d) (q : Q (.bl (isTup d)) H) : rIsi K [v, .ty "tuple"] H Q := ⟨v, _, _, _, _, rfl, .ty _, da_ty h, kit_ty (kit_tuple d), q⟩
theorem isi_int (h : Da K p H v d) (q : Q (.bl (isInt d)) H) : rIsi K [v, .ty "int"] H Q := ⟨v, _, _, _, _, rfl, .ty _, da_ty h, kit_ty (kit_int d), q⟩
theorem isi_bool (h : Da K p H v d) (q : Q (.bl (isBool d)) H) : rIsi K [v, .ty "bool"] H Q := ⟨v, _, _, _, _, rfl, .ty _, da_ty h, kit_ty (kit_bool d), q⟩
end
end My
set_option Elab.async false
set_option linter.all false
set_option maxRecDepth 100000
set_option maxHeartbeats 4000000
namespace My
open PySem PySem.Spec PyProof.Rows L2

/-! ### what is a name, an integer, an end, a row -/
def lowC (c : Nat) : Bool := decide (97 ≤ c ∧ c ≤ 122)
def nmS (x : Str) : Bool := decide (1 ≤ x.length ∧ x.length ≤ 8) && x.cps.toList.all lowC
def nmD : PyData → Bool
  | .str x => nmS x
  | _ => false
def intD : PyData → Bool
  | .int _ => true
  | _ => false
theorem mem_abc (c : Nat) : decide (c ∈ abc.cps.toList) = lowC c := by
  rw [abc_codes]
  unfold lowC
  by_cases h : 97 ≤ c ∧ c ≤ 122
  · rw [decide_eq_true h, decide_eq_true (List.mem_map.mpr ⟨c - 97, List.mem_range.mpr (by omega), by omega⟩)]
  · rw [decide_eq_false h, decide_eq_false fun z => ?_]
    obtain ⟨j, hj, rfl⟩ := List.mem_map.mp z
    have := List.mem_range.mp hj
    exact h (by omega)
/-- texts and lists of a length that the model carries -/
def fitS (x : Str) : Prop := x.length ≤ 100000

section
variable {P : Program} {w : World} {K : PySem.W.Frag} {mg : Str → Option Value} {base : Heap} {t1 t2 : Tok}
/-- the names of the module that these defs read -/
structure Glb (mg : Str → Option Value) : Prop where
  isi : mg "isinstance" = none
  int : mg "int" = none
  bool : mg "bool" = none
  str : mg "str" = none
  tuple : mg "tuple" = none
  list : mg "list" = none
  len : mg "len" = none
  all : mg "all" = none
  set : mg "set" = none
  range : mg "range" = none
  abs : mg "abs" = none
  repr : mg "repr" = none
/-- is_name: of any value, for texts of a length that is carried; nothing that is tracked changes -/
def spIsName (K : PySem.W.Frag) : Sp := fun vs H Q _ => ∃ (p : Addr) (v : V) (d : PyData), vs = [v] ∧ Da K p H v d ∧ (∀ x, d = .str x → x.length ≤ 100000) ∧ ∀ H', Same H H' → Q (.bl (nmD d)) H'
theorem str_case {d : PyData} (h : isStr d = true) : ∃ x, d = .str x := by cases d <;> first | exact ⟨_, rfl⟩ | cases h
theorem nm_not {d : PyData} (h : isStr d = false) : nmD d = false := by cases d <;> first | rfl | cases h
theorem all_map (f : Nat → Bool) : ∀ l : List Nat, ((l.map f).all id) = l.all f
  | [] => rfl
  | c :: r => by rw [List.map_cons, List.all_cons, List.all_cons, all_map f r]; rfl
theorem ok_isname {f : Addr} {fd : FuncData} (F : Fun K "is_name" "is_name" sIsName f fd) (B : Glb mg) (g1 : mg "NAME_LENGTH" = some (.int 8 t1)) (g2 : mg "LETTERS" = some (.str abc t2)) : FnOk P w K mg base CX0 1 f fd ["value"] (spIsName K) := by
  refine F.ok scIsName (fun vs H Q E h => ?_) (fun cdv A outer s H vs Q E hr h => ?_)
  · obtain ⟨p, v, d, rfl, _⟩ := h
    rfl
  · obtain ⟨p, v, d, rfl, D, hx, q⟩ := h
    refine ⟨_, pss_cons (ps_if (PW.pt (pw_or (pt_not (pt_val (pe_callB call_isi (by rfl) B.isi boot_isinstance (pa_cons (pv 0) (pa_cons (pe_bltn (v := .ty "str") (by rfl) B.str boot_str rfl) pa_nil)))))
        (pw_or1 (pt_not (pt_chain op_le op_le pe_int (pe_callB call_len (by rfl) B.len PySem.boot_len (pa_cons (pv 0) pa_nil)) (pe_glob (v := .int 8) (by rfl) g1 ⟨_, rfl⟩)))))) (pss_one (ps_ret pe_bl)) pss_nil)
      (pss_one (ps_ret (pe_callB (cr_all rfl) (by rfl) B.all (by decide +kernel) (pa_cons (pe_lc (own := [("letter", 1)]) (g := gName 1) (tt := tYes) rfl scIsName.nd (pi_str (pv 0))
        (blkOk_by (own := [("letter", 1)]) (N := ["value", "letter"]) (sc := defScope sIsName) (by decide +kernel)) (fun _ _ _ _ _ => pg_name (i := 1) scIsName.nd rfl (Or.inl rfl)) (fun _ _ _ _ _ => pts_nil)
        (fun _ _ _ _ _ => pe_cmpR op_in_sign (pv 1) (pe_glob (v := .str abc) (by rfl) g2 ⟨_, rfl⟩) (by rfl))) pa_nil)))), ?_⟩
    refine ⟨_, rfl, v, _, _, _, _, rfl, .ty _, da_ty D, kit_ty (kit_str d), _, rfl, ?_⟩
    cases hi : isStr d with
    | false =>
      refine iteT ?_
      rw [← nm_not hi]
      exact q H (.refl H)
    | true =>
      obtain ⟨x, rfl⟩ := str_case hi
      cases D
      have hxl := hx x rfl
      have e0 : nmD (.str x) = nmS x := rfl
      refine iteF ⟨_, rfl, .str x, x.length, rfl, ⟨Evl.sz_of hxl, rfl⟩, _, _, rfl, rfl, _, rfl, ?_⟩
      have e1 : decide ((1 : Int) ≤ (x.length : Int)) = decide (1 ≤ x.length) := decide_eq_decide.mpr (by omega)
      have e2 : decide ((x.length : Int) ≤ (8 : Int)) = decide (x.length ≤ 8) := decide_eq_decide.mpr (by omega)
      rw [e1]
      by_cases h1 : 1 ≤ x.length
      · rw [decide_eq_true h1]
        refine iteT ⟨_, _, rfl, rfl, _, rfl, ?_⟩
        rw [e2]
        by_cases h8 : x.length ≤ 8
        · rw [decide_eq_true h8]
          refine iteF ⟨_, rfl, x, rfl, fun Dl hD => ?_⟩
          refine lcN_str (x := x) (fun i H' => H' Dl = some (.lst (((x.cps.toList.take i).map lowC).map V.bl)) ∧ Same H H') ⟨upd_same, same_new hD⟩ (fun i c H' hc hp => ⟨rfl, ?_⟩) (fun H' hp => ?_)
          · refine ⟨_, rfl, c, abc, rfl, rfl, _, hp.1, Evl.sz_lt ?_, ?_, ?_⟩
            · rw [List.length_map, List.length_map, List.length_take]
              have := str_len x
              omega
            · rw [upd_same, mem_abc, List.take_add_one, hc, List.map_append, List.map_append]
              rfl
            · intro b o e
              rw [upd_ne (ne_of_none e hD)]
              exact hp.2 b o e
          · obtain ⟨eD, sm⟩ := hp
            rw [str_len, List.take_length] at eD
            refine ⟨Dl, x.cps.toList.map lowC, rfl, .inl (.inl eD), ?_⟩
            rw [all_map]
            have e : x.cps.toList.all lowC = nmD (.str x) := by
              rw [e0, nmS, decide_eq_true ⟨h1, h8⟩]
              rfl
            rw [e]
            exact q H' sm
        · rw [decide_eq_false h8]
          refine iteT ?_
          have e : false = nmD (.str x) := by rw [e0, nmS, decide_eq_false fun z => h8 z.2]; rfl
          rw [e]
          exact q H (.refl H)
      · rw [decide_eq_false h1]
        refine iteF ⟨_, rfl, iteT ?_⟩
        have e : false = nmD (.str x) := by rw [e0, nmS, decide_eq_false fun z => h1 z.1]; rfl
        rw [e]
        exact q H (.refl H)
end
end My
set_option Elab.async false
set_option linter.all false
set_option maxRecDepth 100000
set_option maxHeartbeats 4000000
/-! few items, short texts -/
namespace My
open PySem PySem.Spec PyProof.Rows L2
def itemsD : PyData → List PyData
  | .list ds => ds
  | .tuple ds => ds
  | _ => []
structure FitN (d : PyData) : Prop where
  few : (itemsD d).length ≤ 1000
  txt : ∀ e ∈ itemsD d, ∀ x, e = .str x → x.length ≤ 100000
end My
set_option Elab.async false
set_option linter.all false
set_option maxRecDepth 100000
set_option maxHeartbeats 4000000
/-! (name, direction) in a row, row.index((name, direction)), == of such pairs, the least of some texts -/
namespace My
open PySem PySem.Spec PyProof.Rows L2
theorem dw_eqv (p q : Str × Int) : PyData.eqv (dwD p) (dwD q) = decide (p = q) := by
  obtain ⟨a, b⟩ := p
  obtain ⟨c, d⟩ := q
  show ((a == c) && ((b == d) && true)) = _
  rw [Bool.and_true, Bool.eq_iff_iff, Bool.and_eq_true, beq_iff_eq, beq_iff_eq, decide_eq_true_iff, Prod.mk.injEq]
/-- the names can be laid -/
def LayR (r : List (Str × Int)) : Prop := ∀ x ∈ r, PyData.strOk x.1 = true
theorem lay_dw {p : Str × Int} (h : PyData.strOk p.1 = true) : (dwD p).canLay0 = true := by
  show (PyData.strOk p.1 && (true && true)) = true
  rw [h]
  rfl
theorem lay_row : ∀ {r : List (Str × Int)}, LayR r → PyData.canLayAll0 (r.map dwD) = true
  | [], _ => rfl
  | x :: r, h => by
    show ((dwD x).canLay0 && PyData.canLayAll0 (r.map dwD)) = true
    rw [lay_dw (h x List.mem_cons_self), lay_row fun y hy => h y (List.mem_cons_of_mem _ hy)]
    rfl
theorem depth_dw (p : Str × Int) : (dwD p).depth = 1 := rfl
theorem any_dw (q : Str × Int) : ∀ r : List (Str × Int), ((r.map dwD).any fun z => PyData.eqv z (dwD q)) = decide (q ∈ r)
  | [] => rfl
  | x :: r => by
    rw [List.map_cons, List.any_cons, any_dw q r, dw_eqv, Bool.eq_iff_iff, Bool.or_eq_true, decide_eq_true_iff, decide_eq_true_iff, decide_eq_true_iff, List.mem_cons]
    exact or_congr ⟨fun e => e.symm, fun e => e.symm⟩ Iff.rfl
section
variable {X : Cx}
/-- what stands behind such a tuple -/
theorem row_reads {pins : List (Addr × Obj)} {σ : L2.St} {H : Hp} {s : Shared} {a : Addr} {r : List (Str × Int)} (I : Inv X pins σ H s) (h : Dt X.K H (.ref a) (rowD r)) :
    ∃ (its : List Value) (as : List Addr), s.heap.IsTuple a its.toArray ∧ ReadsAll s.heap its (r.map dwD) as ∧ its.length = r.length := by
  cases h with
  | tup hs hd =>
    obtain ⟨its, rv, ⟨o, ho, hc, n, hdd⟩, _⟩ := I.tuple hs
    obtain ⟨as, ra⟩ := Dp.readsAll I (r.map dwD) _ its (dt_dpAll hd) rv
    have e := SeqAt.ReadsAll.length (r.map dwD) its as ra
    rw [List.length_map] at e
    exact ⟨its, as, ⟨o, ho, hc, n, hdd⟩, ra, e⟩
def rInRow (K : PySem.W.Frag) (neg : Bool) : R2 := fun x y H Q => ∃ (q : Str × Int) (a : Addr) (r : List (Str × Int)), y = .ref a ∧ Dt K H x (dwD q) ∧ Dt K H (.ref a) (rowD r) ∧ PyData.strOk q.1 = true ∧ LayR r ∧ Q (.bl (if neg then !decide (q ∈ r) else decide (q ∈ r))) H
theorem items_row {pins : List (Addr × Obj)} {σ : L2.St} {H : Hp} {s : Shared} {x : V} {v : Value} {q : Str × Int} {r : List (Str × Int)} {its : List Value} {as : List Addr} {A : Around} (hu : A.units + 65 < cLine) (I : Inv X pins σ H s) (rx : RelV x v) (hx : Dt X.K H x (dwD q)) (ra : ReadsAll s.heap its (r.map dwD) as)
    (hq : PyData.strOk q.1 = true) (hr : LayR r) : ∀ y, y ∈ its.toArray → SeqAt.EqAt A.in1 s y v (PyData.eqv (SeqAt.readOf s.heap y) (dwD q)) := by
  obtain ⟨bs, rb⟩ := Dp.reads I (dwD q) x v (dt_dp hx) rx
  refine SeqAt.items_eqAt (vs := its.toArray) ra rb (lay_row hr) (lay_dw hq) ?_
  have : min (PyData.depthAll (r.map dwD)) (dwD q).depth ≤ 1 := Nat.min_le_right _ _
  omega
theorem op_inRow (hu : X.A.units + 65 < cLine) : OpR X (compareOp .In) (rInRow X.K false) := by
  intro pins s σ H x y v u Q I rx ry ⟨q, a, r, ey, hx, hy, lq, lr, k⟩
  subst ey
  cases ry
  obtain ⟨its, as, tp, ra, le⟩ := row_reads I hy
  refine SeqAt.in_tupleAt (fun z => PyData.eqv (SeqAt.readOf s.heap z) (dwD q)) tp (items_row hu I rx hx ra lq lr) ⟨.bl _, H, I, rfl, ?_⟩
  rw [show its.toArray.any (fun z => PyData.eqv (SeqAt.readOf s.heap z) (dwD q)) = decide (q ∈ r) by
    rw [← any_dw, ← SeqAt.readsAll_map (r.map dwD) its as (lay_row lr) ra]
    simp
    rfl]
  exact k
theorem op_notInRow (hu : X.A.units + 65 < cLine) : OpR X (compareOp .NotIn) (rInRow X.K true) := by
  intro pins s σ H x y v u Q I rx ry ⟨q, a, r, ey, hx, hy, lq, lr, k⟩
  subst ey
  cases ry
  obtain ⟨its, as, tp, ra, le⟩ := row_reads I hy
  refine SeqAt.notIn_tupleAt (fun z => PyData.eqv (SeqAt.readOf s.heap z) (dwD q)) tp (items_row hu I rx hx ra lq lr) ⟨.bl _, H, I, rfl, ?_⟩
  rw [show its.toArray.any (fun z => PyData.eqv (SeqAt.readOf s.heap z) (dwD q)) = decide (q ∈ r) by
    rw [← any_dw, ← SeqAt.readsAll_map (r.map dwD) its as (lay_row lr) ra]
    simp
    rfl]
  exact k
/-- row.index((name, direction)), there -/
def rIxRow (K : PySem.W.Frag) : V → List V → Hp → VK → Prop := fun x xs H Q => ∃ (q : Str × Int) (y : V) (a : Addr) (r : List (Str × Int)), x = .ref a ∧ xs = [y] ∧ Dt K H y (dwD q) ∧ Dt K H (.ref a) (rowD r) ∧ PyData.strOk q.1 = true ∧ LayR r ∧ q ∈ r ∧ Q (.int (@List.idxOf _ instBEqOfDecidableEq q r : Nat)) H
theorem mt_ixRow (hu : X.A.units + 65 < cLine) : MtR X "tuple.index" (rIxRow X.K) := by
  intro pins s σ H x xs v us Q I rx rxs ⟨q, y, a, r, ex, exs, hy, hr, lq, lr, hm, k⟩
  subst ex exs
  cases rx
  obtain ⟨u, rfl, ry⟩ := vals1 rxs
  obtain ⟨its, as, tp, ra, le⟩ := row_reads I hr
  have eqs := items_row (A := X.A) hu I ry hy ra lq lr
  have mp := SeqAt.readsAll_map (r.map dwD) its as (lay_row lr) ra
  refine PySem.SeqAt.call_tuple_index (ks := r) (k := q) tp ⟨le, fun j h1 h2 => ?_⟩ hm ⟨.int _, H, I.tok _, ⟨_, rfl⟩, k⟩
  have e1 := eqs its[j] (by simp)
  have e2 : SeqAt.readOf s.heap its[j] = dwD r[j] := by
    have : (its.map (SeqAt.readOf s.heap))[j]? = (r.map dwD)[j]? := by rw [mp]
    rw [List.getElem?_map, List.getElem?_map, List.getElem?_eq_getElem h1, List.getElem?_eq_getElem h2] at this
    exact Option.some.inj this
  rw [e2, dw_eqv] at e1
  exact e1
end
end My
set_option Elab.async false
set_option linter.all false
set_option maxRecDepth 100000
set_option maxHeartbeats 4000000
/-! new tuples that are known to bear no dict, and their methods -/
namespace My
open PySem PySem.Spec PyProof.Rows L2
def BareT (H : Hp) (a : Addr) : Prop := ∃ ob xs, H a = some (.frz ob (.tup xs)) ∧ ob.dict = none
theorem BareT.keep {H H' : Hp} {a : Addr} (h : BareT H a) (s : Same H H') : BareT H' a := let ⟨ob, xs, e, d⟩ := h; ⟨ob, xs, s _ _ e, d⟩
theorem BareT.keepP {H H' : Hp} {p c a : Addr} {n : Nat} (h : BareT H a) (s : SameP p H H') (G : PenAt H p c n) : BareT H' a := let ⟨ob, xs, e, d⟩ := h; ⟨ob, xs, s _ _ (sameP_ne G e fun _ z => nomatch z) e, d⟩
section
variable {X : Cx}
/-- tuple(list): a new tuple -/
theorem call_tupleF : CallR X (.type "tuple") (fun xs H Q => ∃ p ys, xs = [.ref p] ∧ SqL X.K H p ys ∧ ∀ l ob, H l = none → ob.dict = none → Q (.ref l) (upd H l (.frz ob (.tup ys)))) := by
  intro pins s σ H xs us Q I rv ⟨p, ys, ex, hl, q⟩
  subst ex
  obtain ⟨u, rfl, r1⟩ := vals1 rv
  cases r1
  obtain ⟨its, rr, pl, hz⟩ := I.list hl
  have ll := rr.length
  refine call_tuple_list pl.isList (fun h1 kp => ?_) (by simp only [List.size_toArray]; omega)
  have I1 : Inv X pins σ H { s with heap := h1 } := I.kept (t' := s.toks) kp
  have nw := IsTup.new h1 its.toArray
  have I2 : Inv X pins σ (upd H h1.objs.size (.frz { cls := .type "tuple", data := .seq its.toArray } (.tup ys))) { s with heap := h1.push { cls := .type "tuple", data := .seq its.toArray } } :=
    I1.laid (t' := s.toks) (fun _ _ e => Heap.get?_push_of_some _ e) (Nat.le_refl _) ⟨Heap.get?_push_size _ rfl, hz, its, rr, nw⟩
  exact ⟨.ref h1.objs.size, _, I2, rfl, q _ _ (I1.hok.fresh (Nat.le_refl _)) rfl⟩
def tTM (r : V → List V → Hp → VK → Prop) (to : TE) (t : TA) : TE := fun σ H Q => to σ H fun x H1 => (∃ a, x = .ref a ∧ BareT H1 a) ∧ t σ H1 fun xs H2 => r x xs H2 Q
/-- t.m(e), t such a tuple -/
theorem pe_tm {o e : Expr} {es : List Expr} {to : TE} {t : TA} {name : Str} {apos cpos : Pos} {id : String} {r : V → List V → Hp → VK → Prop} (slot : Slot "tuple" name id) (hty : typeOf (.builtin id) = pure (.type "method_descriptor")) (hm : MtR X id r) (ho : PE X o to) (ha : PA X (e :: es) t)
    (hbase : attributeBase o name X.env (eval o X.env) = eval o X.env := by rfl)
    (hfew : ((backTo cpos (starEach (e :: es) X.env)).all (fun x => !x.1) && (backToKw cpos (keywordEach [] X.env)).all (fun x => x.1.isSome) &&
      decide ((e :: es).length + ([] : List Keyword).length + (if ([] : List Keyword).isEmpty then 0 else 1) < 30)) = true := by rfl)
    (hline : (apos.endLine == cpos.line) = true := by rfl) (hs : starEach (e :: es) X.env = (false, eval e X.env) :: starEach es X.env := by rfl) (hplain : (backTo cpos (starEach es X.env)).any (·.1) = false := by rfl) :
    PE X (.Call (.Attribute o name apos) (e :: es) [] cpos) (tTM r to t) := by
  constructor
  intro pins s σ H Q I h
  refine wpAny_Call_method_late hbase hfew hline rfl (thn (ho.run pins s σ H _ I h) fun v s1 ⟨x, H1, I1, r1, ty, q1⟩ => ?_)
  obtain ⟨a, rfl, ob, ys, ea, hdn⟩ := ty
  cases r1
  obtain ⟨g1, _, its, _, o2, g2, hc2, _⟩ := I1.hok a _ ea
  rw [g1] at g2
  cases g2
  refine ⟨"tuple", id, PySem.F.plainAttrs_tuple, slot, hty, ⟨ob, g1, hc2⟩, fun b e => ?_, ?_⟩
  · cases e
    exact ⟨ob, g1, hdn⟩
  have hA := ha.run cpos pins s1 σ H1 _ I1 q1
  rw [hs] at hA ⊢
  refine Calls.callWith_builtin (by show (false || (backTo cpos (starEach es X.env)).any (·.1)) = false; rw [hplain] <;> rfl) (Calls.evalArgs_plain ?_)
  exact thn hA fun us s2 ⟨ws, H2, I2, r2, q2⟩ => hm pins s2 σ H2 (.ref a) ws (.ref a) us Q I2 rfl r2 q2
end
end My
set_option Elab.async false
set_option linter.all false
set_option maxRecDepth 100000
set_option maxHeartbeats 4000000
/-! tuples known to bear no dict -/
namespace My
open PySem PySem.Spec PyProof.Rows L2
/-- if it is a tuple, it is known to bear no dict -/
def BareV (H : Hp) (v : V) (d : PyData) : Prop := isTup d = true → ∃ a, v = .ref a ∧ BareT H a
theorem BareV.keep {H H' : Hp} {v : V} {d : PyData} (h : BareV H v d) (s : Same H H') : BareV H' v d := fun z => let ⟨a, e, b⟩ := h z; ⟨a, e, b.keep s⟩
end My
set_option Elab.async false
set_option linter.all false
set_option maxRecDepth 100000
set_option maxHeartbeats 4000000
namespace My
open PySem PySem.Spec PyProof.Rows L2
theorem penL_made (c : Addr) : mergeK [] [(kCells, V.ref c), (kTurn, V.int 0), (kRest, V.int 0)] = penL c 0 0 := by
  unfold mergeK penL
  simp only [List.foldl_cons, List.foldl_nil]
  rw [putK_new (kvs := []) _ rfl, List.nil_append, putK_new _ (show valV [(kCells, V.ref c)] kTurn = none from valV_neg k12), List.singleton_append,
    putK_new _ (show valV [(kCells, V.ref c), (kTurn, V.int 0)] kRest = none from (valV_neg k13).trans (valV_neg k23))]
  rfl
theorem cut_ints (ns : List Int) (lo hi : Option Int) : ∃ ms : List Int, cutV (ns.map V.int) lo hi = ms.map V.int ∧ ms.length ≤ ns.length := by
  refine ⟨(ns.drop (HT.sIx (ns.map V.int).length 0 lo)).take (HT.sIx (ns.map V.int).length (ns.map V.int).length hi - HT.sIx (ns.map V.int).length 0 lo), ?_, ?_⟩
  · unfold cutV
    rw [List.map_take, List.map_drop]
  · rw [List.length_take, List.length_drop]
    omega
section
variable {P : Program} {w : World} {K : PySem.W.Frag} {mg : Str → Option Value} {base : Heap}
/-- a pen over a script -/
def spPen (K : PySem.W.Frag) : Sp := fun vs H Q _ => ∃ (a : Addr) (ns : List Int), vs = [.ref a] ∧ SqL K H a (ns.map V.int) ∧ ns.length ≤ 63 ∧ ∀ (p c : Addr) (H' : Hp), H p = none → Same H H' → PenAt H' p c 0 → Q (.ref p) H'
theorem ok_pen {f : Addr} {fd : FuncData} (F : Fun K "_law_pen" "_law_pen" sPen f fd) (ml : mg "list" = none) : FnOk P w K mg base CX0 1 f fd ["script"] (spPen K) := by
  refine F.ok scPen (fun vs H Q E h => ?_) (fun cdv A outer s H vs Q E hr h => ?_)
  · obtain ⟨a, ns, rfl, _⟩ := h
    rfl
  · obtain ⟨a, ns, rfl, hS, hl, q⟩ := h
    refine ⟨_, pss_one (ps_ret (pe_disp (pps_cons pe_str (pe_callTy call_list_of (by rfl) ml (by decide +kernel) (pa_cons (pe_slice sl_list (pv 0) po_none (po_some pe_int)) pa_nil))
      (pps_cons pe_str pe_int (pps_cons pe_str pe_int pps_nil))) (by rfl) (by rfl) (fun z => by cases z) (by decide))), ?_⟩
    intro p hp
    have sp := same_new (o := HO.dK []) hp
    refine ⟨_, rfl, _, rfl, a, _, rfl, sp.seq hS, fun b hb => ?_⟩
    have sb := same_new (o := HO.lst (cutV (ns.map V.int) none (some 63))) hb
    refine ⟨b, _, rfl, .inl (.inl (.inl upd_same)), fun c hc => ?_⟩
    have sc := same_new (o := HO.lst (cutV (ns.map V.int) none (some 63))) hc
    have p1 : (upd (upd (upd H p (.dK [])) b (.lst (cutV (ns.map V.int) none (some 63)))) c (.lst (cutV (ns.map V.int) none (some 63)))) p = some (.dK []) := sc _ _ (sb _ _ upd_same)
    refine ⟨p1, [(kCells, .ref c), (kTurn, .int 0), (kRest, .int 0)], rfl, ?_⟩
    obtain ⟨ms, em, lm⟩ := cut_ints ns none (some 63)
    have npc : p ≠ c := ne_of_none (sb _ _ upd_same) hc
    refine ⟨by show 3 ≤ 15; decide, q p c _ hp (fun b' o e => ?_) ⟨⟨ms, 0, 0, ?_, ?_, by omega, Int.le_refl 0, Int.le_refl 0⟩⟩⟩
    · rw [upd_ne (ne_of_none e hp)]
      exact sc _ _ (sb _ _ (sp _ _ e))
    · rw [upd_same, penL_made]
    · rw [upd_ne npc.symm, upd_same, em]
end
end My
set_option Elab.async false
set_option linter.all false
set_option maxRecDepth 100000
set_option maxHeartbeats 4000000
namespace My
open PySem PySem.Spec PyProof.Rows L2
/-- the texts of a value, its lists and dicts are of a length that is carried -/
def Fit : PyData → Prop
  | .str x => x.length ≤ 100000
  | .tuple ds => ds.length ≤ 100000
  | .list ds => ds.length ≤ 100000
  | _ => True
def Fit1 (d : PyData) : Prop := Fit d ∧ ∀ ds, d = .tuple ds → ∀ e ∈ ds, Fit e
def Fit2 (d : PyData) : Prop := Fit d ∧ ∀ ds, d = .tuple ds → ∀ e ∈ ds, Fit1 e
end My
set_option Elab.async false
set_option linter.all false
set_option maxRecDepth 100000
set_option maxHeartbeats 4000000
/-! how large a value is: its texts, its ints, its weight, its depth -/
namespace My
open PySem PySem.Spec PyProof.Rows L2
mutual
def okB (b : Nat) : PyData → Bool
  | .none => true
  | .bool _ => true
  | .int i => decide (i.natAbs ≤ 10 ^ 20 + b)
  | .str x => decide (x.length ≤ b) && x.cps.toList.all fun c => decide (c < 128)
  | .list ds => okAll b ds
  | .tuple ds => okAll b ds
  | .dict es => okKv b es
def okAll (b : Nat) : List PyData → Bool
  | [] => true
  | d :: r => okB b d && okAll b r
def okKv (b : Nat) : List (PyData × PyData) → Bool
  | [] => true
  | (k, v) :: r => okB b k && okB b v && okKv b r
end
mutual
theorem okB_mono {b c : Nat} (h : b ≤ c) : ∀ d : PyData, okB b d = true → okB c d = true
  | .none, _ => rfl
  | .bool _, _ => rfl
  | .int i, e => by
    have := of_decide_eq_true e
    exact decide_eq_true (by omega)
  | .str x, e => by
    rw [okB, Bool.and_eq_true] at e ⊢
    have := of_decide_eq_true e.1
    exact ⟨decide_eq_true (by omega), e.2⟩
  | .list ds, e => okAll_mono h ds e
  | .tuple ds, e => okAll_mono h ds e
  | .dict es, e => okKv_mono h es e
theorem okAll_mono {b c : Nat} (h : b ≤ c) : ∀ ds : List PyData, okAll b ds = true → okAll c ds = true
  | [], _ => rfl
  | d :: r, e => by
    rw [okAll, Bool.and_eq_true] at e ⊢
    exact ⟨okB_mono h d e.1, okAll_mono h r e.2⟩
theorem okKv_mono {b c : Nat} (h : b ≤ c) : ∀ es : List (PyData × PyData), okKv b es = true → okKv c es = true
  | [], _ => rfl
  | (k, v) :: r, e => by
    rw [okKv, Bool.and_eq_true, Bool.and_eq_true] at e ⊢
    exact ⟨⟨okB_mono h k e.1.1, okB_mono h v e.1.2⟩, okKv_mono h r e.2⟩
end
mutual
theorem okB_short {b : Nat} (h : b ≤ 1000) : ∀ d : PyData, okB b d = true → d.leavesShort 30 = true
  | .none, _ => rfl
  | .bool _, _ => rfl
  | .int i, e => by
    have := of_decide_eq_true e
    have l := int_text_length_le10 (a := i) (k := 22) (by decide) (by omega)
    refine decide_eq_true ?_
    show (Str.ofString (toString i)).length ≤ 30
    rw [PySem.ofString_length]
    omega
  | .str x, e => by
    rw [okB, Bool.and_eq_true, List.all_eq_true] at e
    rw [PyData.leavesShort, List.all_eq_true]
    intro c hc
    have := of_decide_eq_true (e.2 c hc)
    exact decide_eq_true (by omega)
  | .list ds, e => okAll_short h ds e
  | .tuple ds, e => okAll_short h ds e
  | .dict es, e => okKv_short h es e
theorem okAll_short {b : Nat} (h : b ≤ 1000) : ∀ ds : List PyData, okAll b ds = true → PyData.leavesShortAll 30 ds = true
  | [], _ => rfl
  | d :: r, e => by
    rw [okAll, Bool.and_eq_true] at e
    rw [PyData.leavesShortAll, Bool.and_eq_true]
    exact ⟨okB_short h d e.1, okAll_short h r e.2⟩
theorem okKv_short {b : Nat} (h : b ≤ 1000) : ∀ es : List (PyData × PyData), okKv b es = true → PyData.leavesShortKv 30 es = true
  | [], _ => rfl
  | (k, v) :: r, e => by
    rw [okKv, Bool.and_eq_true, Bool.and_eq_true] at e
    rw [PyData.leavesShortKv, Bool.and_eq_true, Bool.and_eq_true]
    exact ⟨⟨okB_short h k e.1.1, okB_short h v e.1.2⟩, okKv_short h r e.2⟩
end
theorem log_small {i : Int} (h : i.natAbs ≤ 10 ^ 20 + 1000) : i.natAbs.log2 < 70 := by
  by_cases z : i.natAbs = 0
  · rw [z]; decide
  · exact (Nat.log2_lt z).mpr (by omega)
mutual
theorem okB_shows {b : Nat} (h : b ≤ 1000) : ∀ d : PyData, okB b d = true → d.showable = true
  | .none, _ => rfl
  | .bool _, _ => rfl
  | .int i, e => by
    have := of_decide_eq_true e
    have := log_small (i := i) (by omega)
    exact decide_eq_true (by omega)
  | .str x, e => rfl
  | .list ds, e => okAll_shows h ds e
  | .tuple ds, e => okAll_shows h ds e
  | .dict es, e => okKv_shows h es e
theorem okAll_shows {b : Nat} (h : b ≤ 1000) : ∀ ds : List PyData, okAll b ds = true → PyData.showableAll ds = true
  | [], _ => rfl
  | d :: r, e => by
    rw [okAll, Bool.and_eq_true] at e
    rw [PyData.showableAll, Bool.and_eq_true]
    exact ⟨okB_shows h d e.1, okAll_shows h r e.2⟩
theorem okKv_shows {b : Nat} (h : b ≤ 1000) : ∀ es : List (PyData × PyData), okKv b es = true → PyData.showableKv es = true
  | [], _ => rfl
  | (k, v) :: r, e => by
    rw [okKv, Bool.and_eq_true, Bool.and_eq_true] at e
    rw [PyData.showableKv, Bool.and_eq_true, Bool.and_eq_true]
    exact ⟨⟨okB_shows h k e.1.1, okB_shows h v e.1.2⟩, okKv_shows h r e.2⟩
end
theorem okAll_iff {b : Nat} : ∀ {ds : List PyData}, okAll b ds = true ↔ ∀ d ∈ ds, okB b d = true
  | [] => ⟨fun _ _ z => (nomatch z), fun _ => rfl⟩
  | d :: r => by
    rw [okAll, Bool.and_eq_true, okAll_iff]
    exact ⟨fun ⟨a, c⟩ x hx => (List.mem_cons.mp hx).elim (fun e => e ▸ a) (c x), fun h => ⟨h d List.mem_cons_self, fun x hx => h x (List.mem_cons_of_mem _ hx)⟩⟩
theorem wAll_append : ∀ xs ys : List PyData, PyData.weightAll (xs ++ ys) = PyData.weightAll xs + PyData.weightAll ys
  | [], ys => by rw [List.nil_append, PyData.weightAll, Nat.zero_add]
  | x :: xs, ys => by rw [List.cons_append, PyData.weightAll, PyData.weightAll, wAll_append xs ys]; omega
theorem wAll_mem : ∀ {xs : List PyData} {d : PyData}, d ∈ xs → d.weight + 1 ≤ PyData.weightAll xs
  | x :: xs, d, h => by
    rw [PyData.weightAll]
    rcases List.mem_cons.mp h with rfl | h
    · omega
    · have := wAll_mem h
      omega
theorem wAll_len : ∀ xs : List PyData, xs.length ≤ PyData.weightAll xs
  | [] => Nat.zero_le _
  | x :: xs => by
    have := wAll_len xs
    rw [PyData.weightAll, List.length_cons]
    omega
theorem wAll_rev : ∀ xs : List PyData, PyData.weightAll xs.reverse = PyData.weightAll xs
  | [] => rfl
  | x :: xs => by
    rw [List.reverse_cons, wAll_append, wAll_rev xs]
    simp only [PyData.weightAll]
    omega
theorem wAll_cut (xs : List PyData) (i : Nat) : PyData.weightAll (xs.take i) + PyData.weightAll (xs.drop i) = PyData.weightAll xs := by rw [← wAll_append, List.take_append_drop]
theorem dAll_le {n : Nat} : ∀ {xs : List PyData}, PyData.depthAll xs ≤ n ↔ ∀ d ∈ xs, d.depth ≤ n
  | [] => ⟨fun _ _ z => (nomatch z), fun _ => Nat.zero_le _⟩
  | x :: xs => by
    rw [PyData.depthAll, Nat.max_le, dAll_le]
    exact ⟨fun ⟨a, c⟩ y hy => (List.mem_cons.mp hy).elim (fun e => e ▸ a) (c y), fun h => ⟨h x List.mem_cons_self, fun y hy => h y (List.mem_cons_of_mem _ hy)⟩⟩
/-- a value of at most these measures -/
structure Lim (b w n : Nat) (d : PyData) : Prop where
  ok : okB b d = true
  wt : d.weight ≤ w
  dp : d.depth ≤ n
theorem Lim.mono {b w n b' w' n' : Nat} {d : PyData} (h : Lim b w n d) (h1 : b ≤ b') (h2 : w ≤ w') (h3 : n ≤ n') : Lim b' w' n' d := ⟨okB_mono h1 d h.ok, Nat.le_trans h.wt h2, Nat.le_trans h.dp h3⟩
theorem Lim.shows {b w n : Nat} {d : PyData} (h : Lim b w n d) (hb : b ≤ 1000) : d.showable = true := okB_shows hb d h.ok
theorem Lim.short {b w n : Nat} {d : PyData} (h : Lim b w n d) (hb : b ≤ 1000) (hw : w ≤ 100000) : d.shown.length ≤ sizeLine := by
  have := PyData.shown_le 30 (by decide) d (okB_short hb d h.ok)
  have := h.wt
  rw [sizeLine_eq]
  omega
theorem Lim.fit {b w n : Nat} {d : PyData} (h : Lim b w n d) (hb : b ≤ 1000) (hw : w ≤ 100000) : Fit d := by
  obtain ⟨h1, h2, _⟩ := h
  cases d with
  | str x =>
    rw [okB, Bool.and_eq_true] at h1
    have := of_decide_eq_true h1.1
    show x.length ≤ 100000
    omega
  | list ds =>
    have := wAll_len ds
    simp only [PyData.weight] at h2
    show ds.length ≤ 100000
    omega
  | tuple ds =>
    have := wAll_len ds
    simp only [PyData.weight] at h2
    show ds.length ≤ 100000
    omega
  | _ => trivial
theorem Lim.item {b w n : Nat} {ds : List PyData} (h : Lim b w n (.tuple ds)) {e : PyData} (he : e ∈ ds) : Lim b w (n - 1) e := by
  obtain ⟨h1, h2, h3⟩ := h
  simp only [PyData.weight] at h2
  simp only [PyData.depth] at h3
  have := wAll_mem he
  exact ⟨okAll_iff.mp h1 e he, by omega, dAll_le.mp (show PyData.depthAll ds ≤ n - 1 by omega) e he⟩
theorem Lim.fit1 {b w n : Nat} {d : PyData} (h : Lim b w n d) (hb : b ≤ 1000) (hw : w ≤ 100000) : Fit1 d := ⟨h.fit hb hw, fun ds e x hx => by
  subst e
  exact (h.item hx).fit hb hw⟩
theorem Lim.fit2 {b w n : Nat} {d : PyData} (h : Lim b w n d) (hb : b ≤ 1000) (hw : w ≤ 100000) : Fit2 d := ⟨h.fit hb hw, fun ds e x hx => by
  subst e
  exact (h.item hx).fit1 hb hw⟩
theorem lim_tup {b w n : Nat} {ds : List PyData} (h1 : ∀ d ∈ ds, okB b d = true) (h2 : PyData.weightAll ds ≤ w) (h3 : ∀ d ∈ ds, d.depth ≤ n) : Lim b w (n + 1) (.tuple ds) :=
  ⟨okAll_iff.mpr h1, by simp only [PyData.weight]; exact h2, by simp only [PyData.depth]; have := dAll_le.mpr h3; omega⟩
theorem lim_lst {b w n : Nat} {ds : List PyData} (h1 : ∀ d ∈ ds, okB b d = true) (h2 : PyData.weightAll ds ≤ w) (h3 : ∀ d ∈ ds, d.depth ≤ n) : Lim b w (n + 1) (.list ds) :=
  ⟨okAll_iff.mpr h1, by simp only [PyData.weight]; exact h2, by simp only [PyData.depth]; have := dAll_le.mpr h3; omega⟩
theorem lim_str {b w n : Nat} {x : Str} (h1 : x.length ≤ b) (h2 : ∀ c ∈ x.cps.toList, c < 128) (h3 : b ≤ w) : Lim b w n (.str x) :=
  ⟨by rw [okB, Bool.and_eq_true, List.all_eq_true]; exact ⟨decide_eq_true h1, fun c hc => decide_eq_true (h2 c hc)⟩, Nat.le_trans (show x.length ≤ b from h1) h3, Nat.zero_le _⟩
theorem lim_int {b w n : Nat} {i : Int} (h1 : i.natAbs ≤ 10 ^ 20 + b) (hb : b ≤ 1000) (h2 : 70 ≤ w) : Lim b w n (.int i) :=
  ⟨decide_eq_true h1, by
    have := log_small (i := i) (by omega)
    simp only [PyData.weight]
    split <;> omega, Nat.zero_le _⟩
end My
set_option Elab.async false
set_option linter.all false
set_option maxRecDepth 100000
set_option maxHeartbeats 4000000
/-! values that a law draws: of any kind, not large, shown in few signs -/
namespace My
open PySem PySem.Spec PyProof.Rows L2
/-- not large -/
structure Gm (w n : Nat) (d : PyData) : Prop where
  sh : d.showable = true
  ls : d.leavesShort 70 = true
  wt : d.weight ≤ w
  dp : d.depth ≤ n
def gmB (w n : Nat) (d : PyData) : Bool := d.showable && (d.leavesShort 70 && (decide (d.weight ≤ w) && decide (d.depth ≤ n)))
theorem gmB_ok {w n : Nat} {d : PyData} (h : gmB w n d = true) : Gm w n d := by
  unfold gmB at h
  simp only [Bool.and_eq_true, decide_eq_true_eq] at h
  exact ⟨h.1, h.2.1, h.2.2.1, h.2.2.2⟩
theorem Gm.mono {w n w' n' : Nat} {d : PyData} (h : Gm w n d) (h1 : w ≤ w') (h2 : n ≤ n') : Gm w' n' d := ⟨h.sh, h.ls, Nat.le_trans h.wt h1, Nat.le_trans h.dp h2⟩
theorem Gm.short {w n : Nat} {d : PyData} (h : Gm w n d) (hw : w ≤ 10000) : d.shown.length ≤ sizeLine := by
  have := PyData.shown_le 70 (by decide) d h.ls
  have := h.wt
  rw [sizeLine_eq]
  omega
theorem shAll_iff : ∀ {ds : List PyData}, PyData.showableAll ds = true ↔ ∀ d ∈ ds, d.showable = true
  | [] => ⟨fun _ _ z => (nomatch z), fun _ => rfl⟩
  | d :: r => by
    rw [PyData.showableAll, Bool.and_eq_true, shAll_iff]
    exact ⟨fun ⟨a, c⟩ x hx => (List.mem_cons.mp hx).elim (fun e => e ▸ a) (c x), fun h => ⟨h d List.mem_cons_self, fun x hx => h x (List.mem_cons_of_mem _ hx)⟩⟩
theorem lsAll_iff : ∀ {ds : List PyData}, PyData.leavesShortAll 70 ds = true ↔ ∀ d ∈ ds, d.leavesShort 70 = true
  | [] => ⟨fun _ _ z => (nomatch z), fun _ => rfl⟩
  | d :: r => by
    rw [PyData.leavesShortAll, Bool.and_eq_true, lsAll_iff]
    exact ⟨fun ⟨a, c⟩ x hx => (List.mem_cons.mp hx).elim (fun e => e ▸ a) (c x), fun h => ⟨h d List.mem_cons_self, fun x hx => h x (List.mem_cons_of_mem _ hx)⟩⟩
theorem gm_tup {w n : Nat} {ds : List PyData} (h : ∀ d ∈ ds, ∃ w', Gm w' n d) (hw : PyData.weightAll ds ≤ w) : Gm w (n + 1) (.tuple ds) :=
  ⟨shAll_iff.mpr fun d hd => let ⟨_, g⟩ := h d hd; g.sh, lsAll_iff.mpr fun d hd => let ⟨_, g⟩ := h d hd; g.ls, by simp only [PyData.weight]; exact hw, by simp only [PyData.depth]; have := dAll_le.mpr fun d hd => let ⟨_, g⟩ := h d hd; g.dp; omega⟩
theorem gm_lst {w n : Nat} {ds : List PyData} (h : ∀ d ∈ ds, ∃ w', Gm w' n d) (hw : PyData.weightAll ds ≤ w) : Gm w (n + 1) (.list ds) :=
  ⟨shAll_iff.mpr fun d hd => let ⟨_, g⟩ := h d hd; g.sh, lsAll_iff.mpr fun d hd => let ⟨_, g⟩ := h d hd; g.ls, by simp only [PyData.weight]; exact hw, by simp only [PyData.depth]; have := dAll_le.mpr fun d hd => let ⟨_, g⟩ := h d hd; g.dp; omega⟩
theorem gm_name {x : Str} (h : NameOk x) : Gm 8 0 (.str x) := by
  obtain ⟨h1, h2, h3⟩ := h
  refine ⟨rfl, ?_, h2, Nat.zero_le _⟩
  rw [PyData.leavesShort, List.all_eq_true]
  intro c hc
  have := h3 c hc
  exact decide_eq_true (by omega)
theorem gm_names {ns : List Str} (h : ∀ x ∈ ns, NameOk x) : ∀ d ∈ ns.map PyData.str, ∃ w', Gm w' 0 d := fun d hd => by
  obtain ⟨x, hx, rfl⟩ := List.mem_map.mp hd
  exact ⟨8, gm_name (h x hx)⟩
theorem w_names : ∀ {ns : List Str}, (∀ x ∈ ns, NameOk x) → PyData.weightAll (ns.map .str) ≤ 9 * ns.length
  | [], _ => Nat.le_refl _
  | x :: r, h => by
    have ih := w_names (ns := r) fun y hy => h y (List.mem_cons_of_mem _ hy)
    have := (gm_name (h x List.mem_cons_self)).wt
    rw [List.map_cons, PyData.weightAll, List.length_cons]
    omega
theorem fitN_of {w n : Nat} {d : PyData} (h : Gm w n d) (hw : w ≤ 1000) : FitN d := by
  have hd := h.wt
  cases d with
  | list ds =>
    simp only [PyData.weight] at hd
    refine ⟨Nat.le_trans (wAll_len ds) (by omega), fun e he x ex => ?_⟩
    have := wAll_mem (xs := ds) he
    subst ex
    have e : (PyData.str x).weight = x.length := by simp only [PyData.weight]; rfl
    omega
  | tuple ds =>
    simp only [PyData.weight] at hd
    refine ⟨Nat.le_trans (wAll_len ds) (by omega), fun e he x ex => ?_⟩
    have := wAll_mem (xs := ds) he
    subst ex
    have e : (PyData.str x).weight = x.length := by simp only [PyData.weight]; rfl
    omega
  | _ => exact ⟨Nat.zero_le _, fun e he => nomatch he⟩
/-- a value drawn -/
def GdV (m1 m2 : Nat) (K : PySem.W.Frag) (p : Addr) (H : Hp) (v : V) : Prop := ∃ d, Da K p H v d ∧ Gm m1 m2 d ∧ BareV H v d
section
variable {m1 m2 : Nat} {K : PySem.W.Frag} {p c : Addr} {n : Nat} {H H' : Hp}
theorem GdV.mono {m3 m4 : Nat} {v : V} (h : GdV m1 m2 K p H v) (a : m1 ≤ m3) (b : m2 ≤ m4) : GdV m3 m4 K p H v := let ⟨d, x, y, z⟩ := h; ⟨d, x, y.mono a b, z⟩
theorem GdV.keep {v : V} (h : GdV m1 m2 K p H v) (s : Same H H') : GdV m1 m2 K p H' v := let ⟨d, a, b, e⟩ := h; ⟨d, da_keep s.keepA a, b, e.keep s⟩
theorem BareV.keepP {v : V} {d : PyData} (h : BareV H v d) (s : SameP p H H') (G : PenAt H p c n) : BareV H' v d := fun z => let ⟨a, e, b⟩ := h z; ⟨a, e, b.keepP s G⟩
theorem GdV.keepP {v : V} (h : GdV m1 m2 K p H v) (s : SameP p H H') (G : PenAt H p c n) : GdV m1 m2 K p H' v := let ⟨d, a, b, e⟩ := h; ⟨d, da_keep (s.keepA G) a, b, e.keepP s G⟩
theorem gd_flat {v : V} {d : PyData} (a : Da K p H v d) (g : gmB m1 m2 d = true) (h : isTup d = false) : GdV m1 m2 K p H v := ⟨d, a, gmB_ok g, fun z => by rw [h] at z; cases z⟩
theorem gd_tupF {a : Addr} {xs : List V} {ds : List PyData} (h : SqT K H a xs) (b : BareT H a) (hd : DaAll K p H xs ds) (g : Gm m1 m2 (.tuple ds)) : GdV m1 m2 K p H (.ref a) := ⟨_, .tup h hd, g, fun _ => ⟨a, rfl, b⟩⟩
theorem gd_lst {a : Addr} {xs : List V} {ds : List PyData} (h : H a = some (.lst xs)) (na : a ≠ sysModules) (hd : DaAll K p H xs ds) (g : Gm m1 m2 (.list ds)) : GdV m1 m2 K p H (.ref a) := ⟨_, .lst na (.inl (.inl h)) hd, g, fun z => nomatch z⟩
theorem gd_dct {a : Addr} {kvs : List (Key × V)} {es : List (PyData × PyData)} (na : a ≠ p) (h : H a = some (.dK kvs)) (hd : DaKv K p H kvs es) (g : Gm m1 m2 (.dict es)) : GdV m1 m2 K p H (.ref a) := ⟨_, .dct na h hd, g, fun z => nomatch z⟩
end
/-- a list of such values -/
def GdL (m1 m2 : Nat) (K : PySem.W.Frag) (p : Addr) (H : Hp) (xs : List V) : Prop := ∀ v ∈ xs, GdV m1 m2 K p H v
section
variable {m1 m2 : Nat} {K : PySem.W.Frag} {p c : Addr} {n : Nat} {H H' : Hp} {xs ys : List V}
theorem GdL.keep (h : GdL m1 m2 K p H xs) (s : Same H H') : GdL m1 m2 K p H' xs := fun v hv => (h v hv).keep s
theorem GdL.keepP (h : GdL m1 m2 K p H xs) (s : SameP p H H') (G : PenAt H p c n) : GdL m1 m2 K p H' xs := fun v hv => (h v hv).keepP s G
theorem GdL.nil : GdL m1 m2 K p H [] := fun _ z => nomatch z
theorem GdL.cons {v : V} (a : GdV m1 m2 K p H v) (h : GdL m1 m2 K p H xs) : GdL m1 m2 K p H (v :: xs) := fun x hx => (List.mem_cons.mp hx).elim (fun e => e ▸ a) (h x)
theorem GdL.app (h : GdL m1 m2 K p H xs) (g : GdL m1 m2 K p H ys) : GdL m1 m2 K p H (xs ++ ys) := fun x hx => (List.mem_append.mp hx).elim (h x) (g x)
end
section
variable {X : Cx}
/-- list + list: a new list, not at sys.modules -/
theorem op_catN : OpR X (binaryOp .Add) (fun x y H Q => ∃ l b xs zs, x = .ref l ∧ y = .ref b ∧ H l = some (.lst xs) ∧ H b = some (.lst zs) ∧ xs.length + zs.length ≤ sizeLine ∧ ∀ p, H p = none → p ≠ sysModules → Q (.ref p) (upd H p (.lst (xs ++ zs)))) := by
  intro pins s σ H x y v u Q I rx ry ⟨l, b, xs, zs, e1, e2, h1, h2, hz, q⟩
  subst e1; subst e2; cases rx; cases ry
  obtain ⟨_, its, _, r1, l1, g1⟩ := I.lstM h1; obtain ⟨_, its2, _, r2, l2, g2⟩ := I.lstM h2
  refine PySem.P.add_list g1 g2 ?_ (by rw [List.size_toArray, List.size_toArray]; omega)
  rw [show its.toArray ++ its2.toArray = (its ++ its2).toArray by simp]
  exact ⟨.ref _, _, I.lnew (t' := s.toks) (r1.append r2) (by rw [List.length_append]; omega), rfl, q _ I.fresh (Nat.ne_of_gt I.big)⟩
end
end My
set_option Elab.async false
set_option linter.all false
set_option maxRecDepth 100000
set_option maxHeartbeats 4000000
namespace My
open PySem PySem.Spec PyProof.Rows L2
/-- a callee's promise and its name -/
structure Has (P : Program) (w : World) (K : PySem.W.Frag) (mg : Str → Option Value) (base : Heap) (k : Nat) (x : Str) (ps : List Str) (sp : Sp) (f : Addr) (fd : FuncData) : Prop where
  o : FnOk P w K mg base CX0 k f fd ps sp
  g : mg x = some (.ref f)
  k : PySem.W.keepIn K (.ref f) = true
  b : Binds K fd ps []
/-- what is not reached -/
theorem ps_no {X : Cx} {st : Stmt} : PS X st (fun _ _ _ => False) := ⟨fun _ _ _ _ _ _ h => h.elim⟩
section
variable {X : Cx} {k : Nat} {x : Str} {ps : List Str} {sp : Sp} {f : Addr} {fd : FuncData}
/-- the call of such a def by its name -/
theorem pe_has {e : Expr} {es : List Expr} {t : TA} {p pos : Pos} (G : Has X.prog X.w X.K X.mg X.base k x ps sp f fd) (hr : Room k X.A) (hg : Gl X x) (ha : PA X (e :: es) t) (nd : (x == ("__debug__" : Str)) = false := by decide)
    (he : starEach (e :: es) X.env = (false, eval e X.env) :: starEach es X.env := by rfl) (hp : (backTo pos (starEach es X.env)).any (·.1) = false := by rfl) : PE X (.Call (.Name x p) (e :: es) [] pos) (tCall sp [] E0 t) :=
  pe_call G.o hr hg G.g G.k G.b .nil pass0 ha nd he hp
end
end My
set_option Elab.async false
set_option linter.all false
set_option maxRecDepth 100000
set_option maxHeartbeats 4000000
/-! is_nested -/
namespace My
open PySem PySem.Spec PyProof.Rows L2
def itemsT : PyData → List PyData
  | .tuple ds => ds
  | _ => []
/-- a name, or two such things in a tuple, nested at most so deep -/
def nestD : Nat → PyData → Bool
  | 0 => fun d => nmD d
  | n + 1 => fun d => nmD d || (isTup d && (decide ((itemsT d).length = 2) && (itemsT d).all (nestD n)))
theorem wt_lenS : ∀ ds : List PyData, ds.length ≤ PyData.weightAll ds
  | [] => Nat.le_refl _
  | d :: r => by
    have := wt_lenS r
    rw [PyData.weightAll, List.length_cons]
    omega
theorem gm_itemS {w n : Nat} {ds : List PyData} (h : Gm w n (.tuple ds)) {e : PyData} (he : e ∈ ds) : Gm w n e := by
  refine ⟨shAll_iff.mp h.sh e he, lsAll_iff.mp h.ls e he, ?_, ?_⟩
  · have := h.wt
    simp only [PyData.weight] at this
    have := wAll_mem he
    omega
  · have := h.dp
    simp only [PyData.depth] at this
    have := (dAll_le (n := n)).mp (by omega) e he
    omega
theorem gm_txt {w n : Nat} {d : PyData} (h : Gm w n d) (hw : w ≤ 10000) : ∀ x, d = .str x → x.length ≤ 100000 := fun x e => by
  subst e
  have h1 := h.wt
  have e : (PyData.str x).weight = x.length := by simp only [PyData.weight]; rfl
  omega
theorem all_mapN {α : Type} (g : α → Bool) : ∀ l : List α, ((l.map g).all id) = l.all g
  | [] => rfl
  | c :: r => by rw [List.map_cons, List.all_cons, List.all_cons, all_mapN g r]; rfl
section
variable {P : Program} {w : World} {K : PySem.W.Frag} {mg : Str → Option Value} {base : Heap}
def spNest (K : PySem.W.Frag) (n : Nat) : Sp := fun vs H Q _ => ∃ (p : Addr) (m1 m2 : Nat) (v : V) (d : PyData), vs = [v, .int (n : Int)] ∧ Da K p H v d ∧ Gm m1 m2 d ∧ m1 ≤ 10000 ∧ ∀ H', Same H H' → Q (.bl (nestD n d)) H'
theorem nest_yes {n : Nat} {d : PyData} (h : nmD d = true) : nestD n d = true := by
  cases n with
  | zero => exact h
  | succ n => show (nmD d || _) = true; rw [h]; rfl
theorem nest_no {n : Nat} {d : PyData} (h : nmD d = false) (t : isTup d = false) : nestD n d = false := by
  cases n with
  | zero => exact h
  | succ n => show (nmD d || (isTup d && _)) = false; rw [h, t]; rfl
theorem nest_len {n : Nat} {ds : List PyData} (h : ds.length ≠ 2) : nestD n (.tuple ds) = false := by
  cases n with
  | zero => rfl
  | succ n => show (false || (true && (decide (ds.length = 2) && _))) = false; rw [decide_eq_false h]; rfl
theorem nest_two {n : Nat} {ds : List PyData} (h : ds.length = 2) : nestD (n + 1) (.tuple ds) = ds.all (nestD n) := by
  show (false || (true && (decide (ds.length = 2) && ds.all (nestD n)))) = _
  rw [decide_eq_true h]
  rfl
theorem ok_nested {f f1 : Addr} {fd e1 : FuncData} (F : Fun K "is_nested" "is_nested" sIsNested f fd) (B : Glb mg) (g : mg "is_nested" = some (.ref f)) (hk : PySem.W.keepIn K (.ref f) = true) (hb : Binds K fd ["value", "deep"] []) (CN : Has P w K mg base 1 "is_name" ["value"] (spIsName K) f1 e1) :
    ∀ n, FnOk P w K mg base CX0 (n + 2) f fd ["value", "deep"] (spNest K n)
  | 0 => by
    refine F.ok scIsNested (fun vs H Q E h => ?_) (fun cdv A outer s H vs Q E hr h => ?_)
    · obtain ⟨p, m1, m2, v, d, rfl, _⟩ := h
      rfl
    · obtain ⟨p, m1, m2, v, d, rfl, D, gm, hm, q⟩ := h
      refine ⟨_, pss_cons (ps_if (pt_val (pe_has CN hr (by rfl) (pa_cons (pv 0) pa_nil))) (pss_one (ps_ret pe_bl)) pss_nil)
        (pss_cons (ps_if (PW.pt (pw_or (pt_not (pt_val (pe_callB call_isi (by rfl) B.isi boot_isinstance (pa_cons (pv 0) (pa_cons (pe_bltn (v := .ty "tuple") (by rfl) B.tuple boot_tuple rfl) pa_nil)))))
          (pw_or (pt_cmpR op_ne (pe_callB call_len (by rfl) B.len PySem.boot_len (pa_cons (pv 0) pa_nil)) pe_int (nomark _)) (pw_or1 (pt_cmpR op_eq (pv 1) pe_int (nomark _)))))) (pss_one (ps_ret pe_bl)) pss_nil)
        (pss_one ps_no)), ?_⟩
      refine ⟨_, rfl, p, v, d, rfl, D, gm_txt gm hm, fun H1 s1 => ⟨_, rfl, ?_⟩⟩
      cases hn : nmD d with
      | true => exact iteT (by rw [nest_yes hn] at q; exact q H1 s1)
      | false =>
        have D1 := da_keep (p := p) s1.keepA D
        refine iteF ⟨_, rfl, v, _, _, _, _, rfl, .ty _, da_ty D1, kit_ty (kit_tuple d), _, rfl, ?_⟩
        have no : nestD 0 d = false := hn
        rw [no] at q
        cases hi : isTup d with
        | false => exact iteT (q H1 s1)
        | true =>
          obtain ⟨ds, rfl⟩ : ∃ ds, d = .tuple ds := by cases d <;> first | exact ⟨_, rfl⟩ | cases hi
          cases D1 with
          | @tup a xs _ hs hd =>
            refine iteF ⟨_, rfl, .ref a, xs.length, rfl, .inr ⟨_, hs, rfl⟩, rfl, _, rfl, ?_⟩
            cases decide (V.int (xs.length : Int) = V.int 2) with
            | false => exact iteT (q H1 s1)
            | true => exact iteF ⟨_, rfl, rfl, _, rfl, iteT (q H1 s1)⟩
  | n + 1 => by
    refine F.ok scIsNested (fun vs H Q E h => ?_) (fun cdv A outer s H vs Q E hr h => ?_)
    · obtain ⟨p, m1, m2, v, d, rfl, _⟩ := h
      rfl
    · obtain ⟨p, m1, m2, v, d, rfl, D, gm, hm, q⟩ := h
      have hr1 := hr.mono (show 1 ≤ n + 1 + 1 by omega)
      have hr2 := hr.mono (show n + 2 ≤ n + 1 + 1 by omega)
      refine ⟨_, pss_cons (ps_if (pt_val (pe_has CN hr1 (by rfl) (pa_cons (pv 0) pa_nil))) (pss_one (ps_ret pe_bl)) pss_nil)
        (pss_cons (ps_if (PW.pt (pw_or (pt_not (pt_val (pe_callB call_isi (by rfl) B.isi boot_isinstance (pa_cons (pv 0) (pa_cons (pe_bltn (v := .ty "tuple") (by rfl) B.tuple boot_tuple rfl) pa_nil)))))
          (pw_or (pt_cmpR op_ne (pe_callB call_len (by rfl) B.len PySem.boot_len (pa_cons (pv 0) pa_nil)) pe_int (nomark _)) (pw_or1 (pt_cmpR op_eq (pv 1) pe_int (nomark _)))))) (pss_one (ps_ret pe_bl)) pss_nil)
        (pss_one (ps_ret (pe_callB (cr_all rfl) (by rfl) B.all (by decide +kernel) (pa_cons (pe_lc (own := [("part", 2)]) (g := gName 2) (tt := tYes) (te := tCall (spNest K n) [] E0 (tCons (tVar 2) (tCons (tOp (rI0 fun i j => .int (i - j)) (tVar 1) (tC (.int 1))) tNil))) rfl scIsNested.nd (pi_tup (pv 0))
          (blkOk_by (own := [("part", 2)]) (N := ["value", "deep", "part"]) (sc := defScope sIsNested) (by decide +kernel)) (fun _ _ _ _ _ => pg_name (i := 2) scIsNested.nd rfl (Or.inl rfl)) (fun _ _ _ _ _ => pts_nil)
          (fun _ _ _ _ _ => pe_call (ok_nested F B g hk hb CN n) hr2 (by rfl) g hk hb .nil pass0 (pa_cons (pv 2) (pa_cons (pe_op op_sub (pv 1) pe_int) pa_nil)))) pa_nil))))), ?_⟩
      refine ⟨_, rfl, p, v, d, rfl, D, gm_txt gm hm, fun H1 s1 => ⟨_, rfl, ?_⟩⟩
      cases hn : nmD d with
      | true => exact iteT (by rw [nest_yes hn] at q; exact q H1 s1)
      | false =>
        have D1 := da_keep (p := p) s1.keepA D
        refine iteF ⟨_, rfl, v, _, _, _, _, rfl, .ty _, da_ty D1, kit_ty (kit_tuple d), _, rfl, ?_⟩
        cases hi : isTup d with
        | false => exact iteT (by rw [nest_no hn hi] at q; exact q H1 s1)
        | true =>
          obtain ⟨ds, rfl⟩ : ∃ ds, d = .tuple ds := by cases d <;> first | exact ⟨_, rfl⟩ | cases hi
          cases D1 with
          | @tup a xs _ hs hd =>
            have hl := hd.length
            refine iteF ⟨_, rfl, .ref a, xs.length, rfl, .inr ⟨_, hs, rfl⟩, rfl, _, rfl, ?_⟩
            by_cases h2 : ds.length = 2
            · rw [nest_two h2] at q
              rw [decide_eq_true (show V.int (xs.length : Int) = V.int 2 by congr 1; omega)]
              refine iteF ⟨_, rfl, rfl, _, rfl, ?_⟩
              rw [decide_eq_false (show ¬ V.int ((n + 1 : Nat) : Int) = V.int 0 from fun z => by have := V.int.inj z; omega)]
              refine iteF ⟨_, rfl, a, rfl, ⟨_, hs⟩, fun Dl hD => ?_⟩
              refine lcN_tup (K := K) (a := a) (xs := xs) (fun i H' => H' Dl = some (.lst (((ds.take i).map (nestD n)).map V.bl)) ∧ Same H1 H') ⟨upd_same, same_new hD⟩ (fun i H' _ hp => hp.2.keepsT _ _ hs) (fun i x H' hx hp => ⟨rfl, ?_⟩) (fun H' hp => ?_)
              · obtain ⟨e, he, De⟩ := hd.at hx
                refine ⟨_, rfl, _, rfl, _, _, rfl, rfl, p, m1, m2, x, e, ?_, da_keep hp.2.keepA De, gm_itemS gm (List.mem_of_getElem? he), hm, fun H2 s2 => ?_⟩
                · show [x, V.int (((n + 1 : Nat) : Int) - 1)] = [x, V.int (n : Int)]
                  rw [show ((n + 1 : Nat) : Int) - 1 = (n : Int) by omega]
                · refine ⟨_, s2 _ _ hp.1, Evl.sz_lt ?_, ?_, ?_⟩
                  · rw [List.length_map, List.length_map, List.length_take]
                    omega
                  · rw [upd_same, List.take_add_one, he, List.map_append, List.map_append]
                    rfl
                  · intro b o z
                    rw [upd_ne (ne_of_none z hD)]
                    exact s2 b o (hp.2 b o z)
              · obtain ⟨eD, sm⟩ := hp
                rw [hl, List.take_length] at eD
                refine ⟨Dl, ds.map (nestD n), rfl, .inl (.inl eD), ?_⟩
                show Q (.bl ((ds.map (nestD n)).all id)) H'
                rw [all_mapN]
                exact q H' (s1.trans sm)
            · rw [nest_len h2] at q
              rw [decide_eq_false (show ¬ V.int (xs.length : Int) = V.int 2 from fun z => h2 (by have := V.int.inj z; omega))]
              exact iteT (q H1 s1)
end
end My
set_option Elab.async false
set_option linter.all false
set_option maxRecDepth 100000
set_option maxHeartbeats 4000000
/-! shapes: names, or two shapes -/
namespace My
open PySem PySem.Spec PyProof.Rows L2
inductive Shp
  | leaf (x : Str)
  | two (a b : Shp)
deriving DecidableEq
def shD : Shp → PyData
  | .leaf x => .str x
  | .two a b => .tuple [shD a, shD b]
def lvS : Shp → List Str
  | .leaf x => [x]
  | .two a b => lvS a ++ lvS b
def plcS : Shp → List Shp
  | .leaf _ => []
  | .two a b => .two a b :: (plcS a ++ plcS b)
def dpS : Shp → Nat
  | .leaf _ => 0
  | .two a b => 1 + max (dpS a) (dpS b)
/-- all its names are names -/
def ShN : Shp → Prop
  | .leaf x => nmS x = true
  | .two a b => ShN a ∧ ShN b
theorem nest_shp : ∀ (n : Nat) (d : PyData), nestD n d = true → ∃ s, d = shD s ∧ ShN s ∧ dpS s ≤ n
  | 0, d, h => by
    have h : nmD d = true := h
    cases d with
    | str x => exact ⟨.leaf x, rfl, h, Nat.le_refl _⟩
    | _ => cases h
  | n + 1, d, h => by
    have h : (nmD d || (isTup d && (decide ((itemsT d).length = 2) && (itemsT d).all (nestD n)))) = true := h
    cases hn : nmD d with
    | true =>
      cases d with
      | str x => exact ⟨.leaf x, rfl, hn, Nat.zero_le _⟩
      | _ => cases hn
    | false =>
      rw [hn, Bool.false_or, Bool.and_eq_true, Bool.and_eq_true, decide_eq_true_eq, List.all_eq_true] at h
      obtain ⟨h1, h2, h3⟩ := h
      obtain ⟨ds, rfl⟩ : ∃ ds, d = .tuple ds := by cases d <;> first | exact ⟨_, rfl⟩ | cases h1
      have h2 : ds.length = 2 := h2
      obtain ⟨a, b, rfl⟩ : ∃ a b, ds = [a, b] := by
        match ds, h2 with
        | [x, y], _ => exact ⟨x, y, rfl⟩
      obtain ⟨s, rfl, s1, s2⟩ := nest_shp n a (h3 a List.mem_cons_self)
      obtain ⟨t, rfl, t1, t2⟩ := nest_shp n b (h3 b (List.mem_cons_of_mem _ List.mem_cons_self))
      exact ⟨.two s t, rfl, ⟨s1, t1⟩, by show 1 + max (dpS s) (dpS t) ≤ n + 1; omega⟩
theorem shp_nest : ∀ (s : Shp) (n : Nat), ShN s → dpS s ≤ n → nestD n (shD s) = true
  | .leaf x, n, h, _ => nest_yes h
  | .two a b, 0, _, h => by
    have h : 1 + max (dpS a) (dpS b) ≤ 0 := h
    omega
  | .two a b, n + 1, h, l => by
    have l : 1 + max (dpS a) (dpS b) ≤ n + 1 := l
    show nestD (n + 1) (.tuple [shD a, shD b]) = true
    rw [nest_two rfl, List.all_cons, List.all_cons, List.all_nil, shp_nest a n h.1 (by omega), shp_nest b n h.2 (by omega)]
    rfl
theorem lv_len : ∀ (s : Shp) (n : Nat), dpS s ≤ n → (lvS s).length ≤ 2 ^ n
  | .leaf x, n, _ => Nat.one_le_two_pow
  | .two a b, 0, h => by
    have h : 1 + max (dpS a) (dpS b) ≤ 0 := h
    omega
  | .two a b, n + 1, l => by
    have l : 1 + max (dpS a) (dpS b) ≤ n + 1 := l
    have h1 := lv_len a n (by omega)
    have h2 := lv_len b n (by omega)
    show (lvS a ++ lvS b).length ≤ 2 ^ (n + 1)
    rw [List.length_append, Nat.pow_succ]
    omega
theorem plc_len : ∀ (s : Shp), (plcS s).length + 1 = (lvS s).length
  | .leaf x => rfl
  | .two a b => by
    have h1 := plc_len a
    have h2 := plc_len b
    show ((plcS a ++ plcS b).length + 1) + 1 = (lvS a ++ lvS b).length
    rw [List.length_append, List.length_append]
    omega
theorem lv_ne : ∀ (s : Shp), lvS s ≠ []
  | .leaf x => fun z => by cases z
  | .two a b => fun z => lv_ne a (List.append_eq_nil_iff.mp z).1
theorem lv_ok : ∀ {s : Shp}, ShN s → ∀ x ∈ lvS s, nmS x = true
  | .leaf x, h, y, hy => by rw [List.mem_singleton.mp hy]; exact h
  | .two a b, h, y, hy => (List.mem_append.mp hy).elim (lv_ok h.1 y) (lv_ok h.2 y)
end My
set_option Elab.async false
set_option linter.all false
set_option maxRecDepth 100000
set_option maxHeartbeats 4000000
namespace My
open PySem PySem.Spec PyProof.Rows L2
section
variable {K : PySem.W.Frag} {p c L o : Addr} {n m : Nat} {H H' : Hp} {x : V} {lo hi : Option Int} {Q : VK} {a b : Addr} {xs ys ls : List V}
/-! ### cuts of tuples -/
theorem cutV_to (k : Nat) : cutV xs none (some (k : Int)) = xs.take k := by
  unfold cutV
  rw [HT.sIx_none, HT.sIx_nat, List.drop_zero, Nat.sub_zero]
  rcases Nat.le_total k xs.length with h | h
  · rw [Nat.min_eq_left h]
  · rw [Nat.min_eq_right h, List.take_of_length_le h, List.take_length]
theorem cutV_from (k : Nat) : cutV xs (some (k : Int)) none = xs.drop k := by
  unfold cutV
  rw [HT.sIx_none, HT.sIx_nat]
  rcases Nat.le_total k xs.length with h | h
  · rw [Nat.min_eq_left h, List.take_of_length_le (by rw [List.length_drop]; exact Nat.le_refl _)]
  · rw [Nat.min_eq_right h, Nat.sub_self, List.take_zero, List.drop_eq_nil_of_le h]
theorem sl_to (ht : SqT K H a xs) (q : ∀ (b : Addr) (H' : Hp), Same H H' → SqT K H' b (cutV xs lo hi) → Q (.ref b) H') : rSlA K (.ref a) lo hi H Q := by
  refine ⟨a, xs, rfl, ht, fun hw => q a H (.refl H) ?_, fun _ b hb => q b _ (same_new hb) (.inl (.inl upd_same))⟩
  have e : cutV xs lo hi = xs := by
    unfold cutV
    rw [hw.1, hw.2, List.drop_zero, Nat.sub_zero, List.take_length]
  rw [e]
  exact ht
theorem cat_to (hx : SqT K H a xs) (hy : SqT K H b ys) (hz : xs.length + ys.length ≤ sizeLine) (q : ∀ (b : Addr) (H' : Hp), Same H H' → SqT K H' b (xs ++ ys) → Q (.ref b) H') : rCatA K (.ref a) (.ref b) H Q := by
  refine ⟨a, b, xs, ys, rfl, rfl, hx, hy, hz, fun e => q b H (.refl H) ?_, fun _ e => q a H (.refl H) ?_, fun _ _ d hd => q d _ (same_new hd) (.inl (.inl upd_same))⟩
  · rw [e]
    exact hy
  · rw [e, List.append_nil]
    exact hx
end
end My
set_option Elab.async false
set_option linter.all false
set_option maxRecDepth 100000
set_option maxHeartbeats 4000000
/-! tuples that are written or added: known to bear no dict -/
namespace My
open PySem PySem.Spec PyProof.Rows L2
section
variable {X : Cx}
def tTupF (t : TA) : TE := fun σ H Q => t σ H fun xs H1 => xs.length ≤ sizeLine ∧ ∀ p ob, H1 p = none → ob.dict = none → Q (.ref p) (upd H1 p (.frz ob (.tup xs)))
theorem pe_tupF {es : List Expr} {pos : Pos} {x1 : Nat} {t : TA} (ha : PA X es t) : PE X (.Tuple es x1 pos) (tTupF t) := by
  constructor
  intro pins s0 σ H Q I q0
  refine wpAny_Tuple_spliced (thn (ha.run pos pins s0 σ H _ I q0) fun us s1 ⟨ys, H2, I2, rv, zz, q1⟩ => ⟨by have := rv.length; omega, ?_⟩)
  have fresh := I2.hok.fresh (Nat.le_refl s1.heap.objs.size)
  have nw := IsTup.new s1.heap us.toArray
  exact ⟨.ref s1.heap.objs.size, upd H2 s1.heap.objs.size (.frz { cls := .type "tuple", data := .seq us.toArray } (.tup ys)), I2.laid (t' := s1.toks) (fun _ _ e => Heap.get?_push_of_some _ e) (Nat.le_refl _) ⟨Heap.get?_push_size _ rfl, zz, us, rv, nw⟩, rfl, q1 _ _ fresh rfl⟩
/-- a + b of two tuples with items -/
def rCatF (K : PySem.W.Frag) : R2 := fun x y H Q => ∃ a b xs ys, x = .ref a ∧ y = .ref b ∧ SqT K H a xs ∧ SqT K H b ys ∧ xs.length + ys.length ≤ sizeLine ∧ xs ≠ [] ∧ ys ≠ [] ∧ ∀ p ob, H p = none → ob.dict = none → Q (.ref p) (upd H p (.frz ob (.tup (xs ++ ys))))
theorem op_catF : OpR X (binaryOp .Add) (rCatF X.K) := by
  intro pins s σ H x y v u Q I rx ry ⟨a, b, xs, ys, ex, ey, ta, tb, hz, nx, ny, q⟩
  subst ex ey
  cases rx
  cases ry
  obtain ⟨its, rv, t1, _⟩ := I.tuple ta
  obtain ⟨it2, rv2, t2, _⟩ := I.tuple tb
  have l1 := rv.length
  have l2 := rv2.length
  have i1 : its ≠ [] := fun z => nx (List.eq_nil_of_length_eq_zero (by rw [z, List.length_nil] at l1; omega))
  have i2 : it2 ≠ [] := fun z => ny (List.eq_nil_of_length_eq_zero (by rw [z, List.length_nil] at l2; omega))
  have fresh := I.hok.fresh (Nat.le_refl s.heap.objs.size)
  have nw := IsTup.new s.heap (its ++ it2).toArray
  refine HT.cat_tup t1 t2 i1 (fun z => absurd z i2) (fun _ => ?_) (by omega)
  exact ⟨.ref s.heap.objs.size, upd H s.heap.objs.size (.frz { cls := .type "tuple", data := .seq (its ++ it2).toArray } (.tup (xs ++ ys))), I.laid (t' := s.toks) (fun _ _ e => Heap.get?_push_of_some _ e) (Nat.le_refl _) ⟨Heap.get?_push_size _ rfl, by rw [List.length_append]; exact hz, its ++ it2, rv.append rv2, nw⟩, rfl, q _ _ fresh rfl⟩
theorem op_catG : OpR X (binaryOp .Add) (fun x y H Q => rCatA X.K x y H Q ∨ rCatF X.K x y H Q) := fun pins s σ H x y v u Q I rx ry h => h.elim (op_catA pins s σ H x y v u Q I rx ry) (op_catF pins s σ H x y v u Q I rx ry)
end
section
variable {K : PySem.W.Frag} {H : Hp} {a b : Addr} {xs ys : List V} {Q : VK}
/-- one lemma for all three -/
theorem cat_toG (hx : SqT K H a xs) (hy : SqT K H b ys) (hz : xs.length + ys.length ≤ sizeLine) (bx : ys = [] → xs ≠ [] → BareT H a) (hyb : xs = [] → BareT H b) (q : ∀ (c : Addr) (H' : Hp), Same H H' → SqT K H' c (xs ++ ys) → BareT H' c → Q (.ref c) H') :
    rCatA K (.ref a) (.ref b) H Q ∨ rCatF K (.ref a) (.ref b) H Q := by
  by_cases nx : xs = []
  · subst nx
    exact .inl ⟨a, b, [], ys, rfl, rfl, hx, hy, hz, fun _ => q b H (.refl H) hy (hyb rfl), fun z => absurd rfl z, fun z => absurd rfl z⟩
  · by_cases ny : ys = []
    · subst ny
      exact .inl ⟨a, b, xs, [], rfl, rfl, hx, hy, hz, fun z => absurd z nx, fun _ _ => q a H (.refl H) (by rw [List.append_nil]; exact hx) (bx rfl nx), fun _ z => absurd rfl z⟩
    · exact .inr ⟨a, b, xs, ys, rfl, rfl, hx, hy, hz, nx, ny, fun p ob hp hd => q p _ (same_new hp) (.inl (.inr ⟨ob, upd_same⟩)) ⟨ob, _, upd_same, hd⟩⟩
/-- a cut that is the whole is the same object -/
theorem sl_toG {lo hi : Option Int} (ht : SqT K H a xs) (q : ∀ (b : Addr) (H' : Hp), Same H H' → SqT K H' b (cutV xs lo hi) → (HT.sIx xs.length 0 lo = 0 → HT.sIx xs.length xs.length hi = xs.length → b = a) → Q (.ref b) H') : rSlA K (.ref a) lo hi H Q := by
  refine ⟨a, xs, rfl, ht, fun hw => q a H (.refl H) ?_ fun _ _ => rfl, fun hn b hb => q b _ (same_new hb) (.inl (.inl upd_same)) fun h1 h2 => absurd ⟨h1, h2⟩ hn⟩
  have e : cutV xs lo hi = xs := by
    unfold cutV
    rw [hw.1, hw.2, List.drop_zero, Nat.sub_zero, List.take_length]
  rw [e]
  exact ht
end
end My
set_option Elab.async false
set_option linter.all false
set_option maxRecDepth 100000
set_option maxHeartbeats 4000000
/-! cuts of tuples known to bear no dict -/
namespace My
open PySem PySem.Spec PyProof.Rows L2
section
variable {X : Cx}
def rSlF (K : PySem.W.Frag) : V → Option Int → Option Int → Hp → VK → Prop := fun x lo hi H Q => ∃ a xs, x = .ref a ∧ SqT K H a xs ∧
  ¬ (HT.sIx xs.length 0 lo = 0 ∧ HT.sIx xs.length xs.length hi = xs.length) ∧ ∀ p ob, H p = none → ob.dict = none → Q (.ref p) (upd H p (.frz ob (.tup (cutV xs lo hi))))
theorem sl_tupF : SlR X (rSlF X.K) := by
  intro pins s σ H x v vl vu lo hi sl Q I rx hs pl pu ⟨a, xs, ex, hx, hw, q⟩
  subst ex
  cases rx
  obtain ⟨its, r, ht, hz⟩ := I.tuple hx
  have hlen : its.toArray.size = xs.length := by rw [List.size_toArray]; exact r.length.symm
  have fresh := I.hok.fresh (Nat.le_refl s.heap.objs.size)
  refine ⟨"tuple", _, PyProof.Rows.slot_tuple_getitem.lookup, ht.typeIs, ?_⟩
  refine HT.getItem_tuple_cut ht hs pl pu (by rw [hlen]; exact hw) ?_ (by rw [hlen]; exact hz)
  rw [hlen]
  refine ⟨.ref s.heap.objs.size, _, I.laid (t' := s.toks) (o := .frz _ (.tup (cutV xs lo hi))) (fun _ _ e => Heap.get?_push_of_some _ e) (Nat.le_refl _)
    ⟨Heap.get?_push_size _ rfl, Nat.le_trans (cutV_length xs lo hi) hz, _, (r.drop (HT.sIx xs.length 0 lo)).take (HT.sIx xs.length xs.length hi - HT.sIx xs.length 0 lo), IsTup.new _ _⟩, rfl, q _ _ fresh rfl⟩
theorem sl_tupG : SlR X (fun x lo hi H Q => rSlA X.K x lo hi H Q ∨ rSlF X.K x lo hi H Q) := fun pins s σ H x v vl vu lo hi sl Q I rx hs pl pu h =>
  h.elim (sl_tupA pins s σ H x v vl vu lo hi sl Q I rx hs pl pu) (sl_tupF pins s σ H x v vl vu lo hi sl Q I rx hs pl pu)
end
section
variable {K : PySem.W.Frag} {H : Hp} {a b : Addr} {xs ys : List V} {Q : VK}
theorem sl_toF {lo hi : Option Int} (ht : SqT K H a xs) (hb : BareT H a) (q : ∀ (c : Addr) (H' : Hp), Same H H' → SqT K H' c (cutV xs lo hi) → BareT H' c → Q (.ref c) H') : rSlA K (.ref a) lo hi H Q ∨ rSlF K (.ref a) lo hi H Q := by
  by_cases hw : HT.sIx xs.length 0 lo = 0 ∧ HT.sIx xs.length xs.length hi = xs.length
  · refine .inl ⟨a, xs, rfl, ht, fun hw => q a H (.refl H) ?_ hb, fun hn => absurd hw hn⟩
    have e : cutV xs lo hi = xs := by
      unfold cutV
      rw [hw.1, hw.2, List.drop_zero, Nat.sub_zero, List.take_length]
    rw [e]
    exact ht
  · exact .inr ⟨a, xs, rfl, ht, hw, fun p ob hp hd => q p _ (same_new hp) (.inl (.inr ⟨ob, upd_same⟩)) ⟨ob, _, upd_same, hd⟩⟩
theorem cat_toF (hx : SqT K H a xs) (hy : SqT K H b ys) (hz : xs.length + ys.length ≤ sizeLine) (ba : BareT H a) (bb : BareT H b) (q : ∀ (c : Addr) (H' : Hp), Same H H' → SqT K H' c (xs ++ ys) → BareT H' c → Q (.ref c) H') :
    rCatA K (.ref a) (.ref b) H Q ∨ rCatF K (.ref a) (.ref b) H Q := cat_toG hx hy hz (fun _ _ => ba) (fun _ => bb) q
end
end My
set_option Elab.async false
set_option linter.all false
set_option maxRecDepth 100000
set_option maxHeartbeats 4000000
/-! leaves_of, places_of -/
namespace My
open PySem PySem.Spec PyProof.Rows L2
section
variable {P : Program} {w : World} {K : PySem.W.Frag} {mg : Str → Option Value} {base : Heap}
theorem nm_txt {s : Shp} (h : ShN s) : ∀ x, shD s = .str x → x.length ≤ 100000 := fun x e => by
  cases s with
  | leaf y =>
    cases e
    have h : nmS x = true := h
    unfold nmS at h
    rw [Bool.and_eq_true] at h
    have := of_decide_eq_true h.1
    omega
  | two a b => cases e
theorem nmD_sh {s : Shp} (h : ShN s) : nmD (shD s) = (match s with | .leaf _ => true | .two _ _ => false) := by
  cases s with
  | leaf x => exact h
  | two a b => rfl
theorem da_two {p : Addr} {H : Hp} {v : V} {a b : Shp} (h : Da K p H v (shD (.two a b))) : ∃ t x y, v = .ref t ∧ SqT K H t [x, y] ∧ Da K p H x (shD a) ∧ Da K p H y (shD b) := by
  have h : Da K p H v (.tuple [shD a, shD b]) := h
  cases h with
  | tup hs hd =>
    cases hd with
    | cons d1 d2 =>
      cases d2 with
      | cons d3 d4 =>
        cases d4
        exact ⟨_, _, _, rfl, hs, d1, d3⟩
def spLv (K : PySem.W.Frag) (n : Nat) : Sp := fun vs H Q _ => ∃ (p : Addr) (v : V) (s : Shp), vs = [v] ∧ Da K p H v (shD s) ∧ ShN s ∧ dpS s ≤ n ∧ n ≤ 6 ∧ ∀ l H', H l = none → H' l = some (.lst ((lvS s).map V.str)) → Same H H' → Q (.ref l) H'
theorem ok_leaves {f f1 : Addr} {fd e1 : FuncData} (F : Fun K "leaves_of" "leaves_of" sLeavesOf f fd) (g : mg "leaves_of" = some (.ref f)) (hk : PySem.W.keepIn K (.ref f) = true) (hb : Binds K fd ["shape"] []) (CN : Has P w K mg base 1 "is_name" ["value"] (spIsName K) f1 e1) :
    ∀ n, FnOk P w K mg base CX0 (n + 2) f fd ["shape"] (spLv K n)
  | 0 => by
    refine F.ok scLeavesOf (fun vs H Q E h => ?_) (fun cdv A outer s H vs Q E hr h => ?_)
    · obtain ⟨p, v, s, rfl, _⟩ := h
      rfl
    · obtain ⟨p, v, s, rfl, D, hN, hd, h6, q⟩ := h
      refine ⟨_, pss_cons (ps_if (pt_val (pe_has CN hr (by rfl) (pa_cons (pv 0) pa_nil))) (pss_one (ps_ret (pe_lst (pa_cons (pv 0) pa_nil)))) pss_nil) (pss_cons ps_no (pss_one ps_no)), ?_⟩
      refine ⟨_, rfl, p, v, _, rfl, D, nm_txt hN, fun H1 s1 => ⟨_, rfl, ?_⟩⟩
      rw [nmD_sh hN]
      cases s with
      | two a b =>
        have hd : 1 + max (dpS a) (dpS b) ≤ 0 := hd
        omega
      | leaf x =>
        cases D
        refine iteT ⟨_, rfl, by show 1 ≤ sizeLine; decide, fun l hl => ?_⟩
        exact q l _ (Option.eq_none_iff_forall_ne_some.mpr fun o e => by rw [s1 _ _ e] at hl; cases hl) upd_same (s1.trans (same_new hl))
  | n + 1 => by
    refine F.ok scLeavesOf (fun vs H Q E h => ?_) (fun cdv A outer s H vs Q E hr h => ?_)
    · obtain ⟨p, v, s, rfl, _⟩ := h
      rfl
    · obtain ⟨p, v, s, rfl, D, hN, hd, h6, q⟩ := h
      have hr1 := hr.mono (show 1 ≤ n + 1 + 1 by omega)
      refine ⟨_, pss_cons (ps_if (pt_val (pe_has CN hr1 (by rfl) (pa_cons (pv 0) pa_nil))) (pss_one (ps_ret (pe_lst (pa_cons (pv 0) pa_nil)))) pss_nil)
        (pss_cons (ps_asg (pv 0) (pg_tup rfl (pgs_cons (pg_name (i := 1) scLeavesOf.nd rfl (.inl rfl)) (pgs_cons (pg_name (i := 2) scLeavesOf.nd rfl (.inl rfl)) pgs_nil))))
        (pss_one (ps_ret (pe_op op_cat (pe_call (ok_leaves F g hk hb CN n) hr (by rfl) g hk hb .nil pass0 (pa_cons (pv 1) pa_nil)) (pe_call (ok_leaves F g hk hb CN n) hr (by rfl) g hk hb .nil pass0 (pa_cons (pv 2) pa_nil)))))), ?_⟩
      refine ⟨_, rfl, p, v, _, rfl, D, nm_txt hN, fun H1 s1 => ⟨_, rfl, ?_⟩⟩
      have new : ∀ {H2 : Hp} {l : Addr}, Same H H2 → H2 l = none → H l = none := fun s2 h => Option.eq_none_iff_forall_ne_some.mpr fun o e => by rw [s2 _ _ e] at h; cases h
      rw [nmD_sh hN]
      cases s with
      | leaf x =>
        cases D
        refine iteT ⟨_, rfl, by show 1 ≤ sizeLine; decide, fun l hl => ?_⟩
        exact q l _ (new s1 hl) upd_same (s1.trans (same_new hl))
      | two a b =>
        have hd : 1 + max (dpS a) (dpS b) ≤ n + 1 := hd
        refine iteF ?_
        obtain ⟨t, x, y, rfl, ht, Dx, Dy⟩ := da_two (da_keep (p := p) s1.keepA D)
        refine ⟨_, rfl, t, _, rfl, ht, rfl, _, _, rfl, _, _, rfl, rfl, ?_⟩
        refine ⟨_, rfl, p, x, a, rfl, Dx, hN.1, by omega, by omega, fun l1 H2 n1 e1 s2 => ?_⟩
        refine ⟨_, rfl, p, y, b, rfl, da_keep s2.keepA Dy, hN.2, by omega, by omega, fun l2 H3 n2 e2 s3 => ?_⟩
        have c1 := lv_len a n (by omega)
        have c2 := lv_len b n (by omega)
        have c3 : 2 ^ n ≤ 2 ^ 6 := Nat.pow_le_pow_right (by decide) (by omega)
        refine ⟨l1, l2, _, _, rfl, rfl, s3 _ _ e1, e2, by rw [List.length_map, List.length_map]; exact Evl.sz_of (show _ ≤ 100000 by omega), fun l3 hl3 => ?_⟩
        have S3 := (s1.trans s2).trans s3
        refine q l3 _ (new S3 hl3) ?_ (S3.trans (same_new hl3))
        rw [upd_same]
        show some (HO.lst _) = some (HO.lst ((lvS a ++ lvS b).map V.str))
        rw [List.map_append]
def spPc (K : PySem.W.Frag) (n : Nat) : Sp := fun vs H Q _ => ∃ (p : Addr) (v : V) (s : Shp), vs = [v] ∧ Da K p H v (shD s) ∧ ShN s ∧ dpS s ≤ n ∧ n ≤ 6 ∧ ∀ l us H', H l = none → H' l = some (.lst us) → DaAll K p H' us ((plcS s).map shD) → Same H H' → Q (.ref l) H'
theorem ok_places {f f1 : Addr} {fd e1 : FuncData} (F : Fun K "places_of" "places_of" sPlacesOf f fd) (g : mg "places_of" = some (.ref f)) (hk : PySem.W.keepIn K (.ref f) = true) (hb : Binds K fd ["shape"] []) (CN : Has P w K mg base 1 "is_name" ["value"] (spIsName K) f1 e1) :
    ∀ n, FnOk P w K mg base CX0 (n + 2) f fd ["shape"] (spPc K n)
  | 0 => by
    refine F.ok scPlacesOf (fun vs H Q E h => ?_) (fun cdv A outer s H vs Q E hr h => ?_)
    · obtain ⟨p, v, s, rfl, _⟩ := h
      rfl
    · obtain ⟨p, v, s, rfl, D, hN, hd, h6, q⟩ := h
      refine ⟨_, pss_cons (ps_if (pt_val (pe_has CN hr (by rfl) (pa_cons (pv 0) pa_nil))) (pss_one (ps_ret (pe_lst pa_nil))) pss_nil) (pss_cons ps_no (pss_one ps_no)), ?_⟩
      refine ⟨_, rfl, p, v, _, rfl, D, nm_txt hN, fun H1 s1 => ⟨_, rfl, ?_⟩⟩
      rw [nmD_sh hN]
      cases s with
      | two a b =>
        have hd : 1 + max (dpS a) (dpS b) ≤ 0 := hd
        omega
      | leaf x =>
        refine iteT ⟨by show 0 ≤ sizeLine; decide, fun l hl => ?_⟩
        exact q l [] _ (Option.eq_none_iff_forall_ne_some.mpr fun o e => by rw [s1 _ _ e] at hl; cases hl) upd_same .nil (s1.trans (same_new hl))
  | n + 1 => by
    refine F.ok scPlacesOf (fun vs H Q E h => ?_) (fun cdv A outer s H vs Q E hr h => ?_)
    · obtain ⟨p, v, s, rfl, _⟩ := h
      rfl
    · obtain ⟨p, v, s, rfl, D, hN, hd, h6, q⟩ := h
      have hr1 := hr.mono (show 1 ≤ n + 1 + 1 by omega)
      refine ⟨_, pss_cons (ps_if (pt_val (pe_has CN hr1 (by rfl) (pa_cons (pv 0) pa_nil))) (pss_one (ps_ret (pe_lst pa_nil))) pss_nil)
        (pss_cons (ps_asg (pv 0) (pg_tup rfl (pgs_cons (pg_name (i := 1) scPlacesOf.nd rfl (.inl rfl)) (pgs_cons (pg_name (i := 2) scPlacesOf.nd rfl (.inl rfl)) pgs_nil))))
        (pss_one (ps_ret (pe_op op_cat (pe_op op_cat (pe_lst (pa_cons (pv 0) pa_nil)) (pe_call (ok_places F g hk hb CN n) hr (by rfl) g hk hb .nil pass0 (pa_cons (pv 1) pa_nil))) (pe_call (ok_places F g hk hb CN n) hr (by rfl) g hk hb .nil pass0 (pa_cons (pv 2) pa_nil)))))), ?_⟩
      refine ⟨_, rfl, p, v, _, rfl, D, nm_txt hN, fun H1 s1 => ⟨_, rfl, ?_⟩⟩
      have new : ∀ {H2 : Hp} {l : Addr}, Same H H2 → H2 l = none → H l = none := fun s2 h => Option.eq_none_iff_forall_ne_some.mpr fun o e => by rw [s2 _ _ e] at h; cases h
      rw [nmD_sh hN]
      cases s with
      | leaf x =>
        refine iteT ⟨by show 0 ≤ sizeLine; decide, fun l hl => ?_⟩
        exact q l [] _ (new s1 hl) upd_same .nil (s1.trans (same_new hl))
      | two a b =>
        have hd : 1 + max (dpS a) (dpS b) ≤ n + 1 := hd
        refine iteF ?_
        have D1 := da_keep (p := p) s1.keepA D
        obtain ⟨t, x, y, rfl, ht, Dx, Dy⟩ := da_two D1
        refine ⟨_, rfl, t, _, rfl, ht, rfl, _, _, rfl, _, _, rfl, rfl, ?_⟩
        refine ⟨_, rfl, by show 1 ≤ sizeLine; decide, fun l0 hl0 => ?_⟩
        have s0 := same_new (o := HO.lst [.ref t]) hl0
        have e0 : upd H1 l0 (HO.lst [.ref t]) l0 = some (HO.lst [.ref t]) := upd_same
        have Dx := da_keep s0.keepA Dx
        have Dy := da_keep s0.keepA Dy
        have D1 := da_keep s0.keepA D1
        generalize upd H1 l0 (HO.lst [.ref t]) = H2 at s0 e0 Dx Dy D1
        refine ⟨_, rfl, p, x, a, rfl, Dx, hN.1, by omega, by omega, fun l1 us1 H3 n1 e1 d1 s2 => ?_⟩
        have c1 := lv_len a n (by omega)
        have c2 := lv_len b n (by omega)
        have c3 : 2 ^ n ≤ 2 ^ 6 := Nat.pow_le_pow_right (by decide) (by omega)
        have p1 := plc_len a
        have p2 := plc_len b
        have k1 := d1.length
        rw [List.length_map] at k1
        refine ⟨l0, l1, _, _, rfl, rfl, s2 _ _ e0, e1, by exact Evl.sz_of (show 1 + us1.length ≤ 100000 by omega), fun l2 hl2 => ?_⟩
        have s3 := same_new (o := HO.lst ([V.ref t] ++ us1)) hl2
        have e2 : upd H3 l2 (HO.lst ([V.ref t] ++ us1)) l2 = some (HO.lst ([V.ref t] ++ us1)) := upd_same
        have D1 := da_keep (s2.trans s3).keepA D1
        have Dy := da_keep (s2.trans s3).keepA Dy
        have d1 := da_keepAll s3.keepA d1
        generalize upd H3 l2 (HO.lst ([V.ref t] ++ us1)) = H4 at s3 e2 Dy D1 d1
        refine ⟨_, rfl, p, y, b, rfl, Dy, hN.2, by omega, by omega, fun l3 us2 H5 n3 e3 d3 s4 => ?_⟩
        have k3 := d3.length
        rw [List.length_map] at k3
        refine ⟨l2, l3, _, _, rfl, rfl, s4 _ _ e2, e3, by rw [List.length_append]; exact Evl.sz_of (show 1 + us1.length + us2.length ≤ 100000 by omega), fun l4 hl4 => ?_⟩
        have s5 := same_new (o := HO.lst ([V.ref t] ++ us1 ++ us2)) hl4
        have S5 := (((s1.trans s0).trans s2).trans s3).trans (s4.trans s5)
        refine q l4 _ _ (new ((((s1.trans s0).trans s2).trans s3).trans s4) hl4) upd_same ?_ S5
        show DaAll K p _ ([V.ref t] ++ us1 ++ us2) ((Shp.two a b :: (plcS a ++ plcS b)).map shD)
        rw [List.map_cons, List.map_append]
        exact .cons (da_keep (s4.trans s5).keepA D1) ((da_keepAll (s4.trans s5).keepA d1).append (da_keepAll s5.keepA d3))
end
end My
set_option Elab.async false
set_option linter.all false
set_option maxRecDepth 100000
set_option maxHeartbeats 4000000
/-! is_family -/
namespace My
open PySem PySem.Spec PyProof.Rows L2
theorem shD_inj : ∀ {s t : Shp}, shD s = shD t → s = t
  | .leaf x, .leaf y, h => by
    have h : PyData.str x = .str y := h
    rw [PyData.str.inj h]
  | .leaf x, .two a b, h => by cases h
  | .two a b, .leaf x, h => by cases h
  | .two a b, .two c d, h => by
    have h : PyData.tuple [shD a, shD b] = .tuple [shD c, shD d] := h
    have h := PyData.tuple.inj h
    rw [shD_inj (List.cons.inj h).1, shD_inj (List.cons.inj (List.cons.inj h).2).1]
/-- a family's shape -/
structure FamS (s : Shp) : Prop where
  nm : ShN s
  dp : dpS s ≤ 6
  few : (lvS s).length ≤ 16
  nd : (lvS s).Nodup
open Classical in
noncomputable def famD (d : PyData) : Bool := decide (∃ s, d = shD s ∧ FamS s)
open Classical in
theorem fam_yes {s : Shp} (h : FamS s) : famD (shD s) = true := decide_eq_true ⟨s, rfl, h⟩
open Classical in
theorem fam_shp {d : PyData} (h : famD d = true) : ∃ s, d = shD s ∧ FamS s := of_decide_eq_true h
open Classical in
theorem fam_not {d : PyData} (h : nestD 6 d = false) : famD d = false := decide_eq_false fun ⟨s, e, f⟩ => by
  rw [e, shp_nest s 6 f.nm f.dp] at h
  cases h
open Classical in
theorem fam_no {s : Shp} (h : ¬ FamS s) : famD (shD s) = false := decide_eq_false fun ⟨t, e, f⟩ => h (shD_inj e ▸ f)
open Classical in
theorem str_nodup (ls : List Str) : decide ((metK [] (ls.map (Sum.inr : Str → Key))).length = ls.length) = decide ls.Nodup := by
  have h := len_metK_eq (ls.map (Sum.inr : Str → Key)) [] List.nodup_nil
  rw [List.nil_append, List.length_nil, Nat.zero_add, List.length_map] at h
  refine decide_eq_decide.mpr (h.trans ⟨fun n => (List.pairwise_map.mp n).imp fun q e => q (by rw [e]), fun n => List.pairwise_map.mpr (n.imp fun q e => q (Sum.inr.inj e))⟩)
section
variable {P : Program} {w : World} {K : PySem.W.Frag} {mg : Str → Option Value} {base : Heap} {t1 t2 : Tok}
def spFam (K : PySem.W.Frag) : Sp := fun vs H Q _ => ∃ (p : Addr) (m1 m2 : Nat) (v : V) (d : PyData), vs = [v] ∧ Da K p H v d ∧ Gm m1 m2 d ∧ m1 ≤ 10000 ∧ ∀ H', Same H H' → Q (.bl (famD d)) H'
open Classical in
theorem ok_isfam {f f1 f2 : Addr} {fd e1 e2 : FuncData} (F : Fun K "is_family" "is_family" sIsFamily f fd) (B : Glb mg) (gn : mg "MOST_NESTED" = some (.int 6 t1)) (gl : mg "MOST_LEAVES" = some (.int 16 t2)) (CN : Has P w K mg base 8 "is_nested" ["value", "deep"] (spNest K 6) f1 e1) (CL : Has P w K mg base 8 "leaves_of" ["shape"] (spLv K 6) f2 e2) :
    FnOk P w K mg base CX0 9 f fd ["value"] (spFam K) := by
  refine F.ok scIsFamily (fun vs H Q E h => ?_) (fun cdv A outer s H vs Q E hr h => ?_)
  · obtain ⟨p, m1, m2, v, d, rfl, _⟩ := h
    rfl
  · obtain ⟨p, m1, m2, v, d, rfl, D, gm, hm, q⟩ := h
    refine ⟨_, pss_cons (ps_if (pt_not (pt_val (pe_has CN hr (by rfl) (pa_cons (pv 0) (pa_cons (pe_glob (v := .int 6) (by rfl) gn ⟨_, rfl⟩) pa_nil))))) (pss_one (ps_ret pe_bl)) pss_nil)
      (pss_cons (ps_set (i := 1) scIsFamily.nd rfl (.inl rfl) (pe_has CL hr (by rfl) (pa_cons (pv 0) pa_nil)))
      (pss_one (ps_ret (pe_and (pe_cmpR op_le (pe_callB call_len (by rfl) B.len PySem.boot_len (pa_cons (pv 1) pa_nil)) (pe_glob (v := .int 16) (by rfl) gl ⟨_, rfl⟩) (nomark _))
        (pe_one (pe_cmpR op_eq (pe_callB call_lenK (by rfl) B.len PySem.boot_len (pa_cons (pe_callTy (call_setOf rfl) (by rfl) B.set (by decide +kernel) (pa_cons (pv 1) pa_nil)) pa_nil)) (pe_callB call_len (by rfl) B.len PySem.boot_len (pa_cons (pv 1) pa_nil)) (nomark _))))))), ?_⟩
    refine ⟨_, rfl, p, m1, m2, v, d, rfl, D, gm, hm, fun H1 s1 => ⟨_, rfl, ?_⟩⟩
    cases hn : nestD 6 d with
    | false => exact iteT (by rw [fam_not hn] at q; exact q H1 s1)
    | true =>
      obtain ⟨z, rfl, zn, zd⟩ := nest_shp 6 d hn
      refine iteF ⟨_, rfl, p, v, z, rfl, da_keep s1.keepA D, zn, zd, Nat.le_refl _, fun l H2 nl el s2 => ?_⟩
      have c1 := lv_len z 6 zd
      have c1 : (lvS z).length ≤ 64 := c1
      have hl : SqL K H2 l ((lvS z).map V.str) := .inl (.inl el)
      refine ⟨_, rfl, .ref l, (lvS z).length, rfl, .inl ⟨_, hl, by rw [List.length_map]⟩, _, _, rfl, rfl, _, rfl, ?_⟩
      by_cases h16 : (lvS z).length ≤ 16
      · rw [decide_eq_true (show (((lvS z).length : Nat) : Int) ≤ 16 by omega)]
        have ek : (lvS z).map V.str = ((lvS z).map (Sum.inr : Str → Key)).map kV := by rw [List.map_map]; rfl
        refine iteT ⟨_, rfl, l, (lvS z).map (Sum.inr : Str → Key), rfl, ?_, by rw [List.length_map]; omega, fun ps hps => ?_⟩
        · rw [ek] at el
          exact .inl (.inl (.inl el))
        have few := len_metK_le ((lvS z).map (Sum.inr : Str → Key)) []
        rw [List.length_map, List.length_nil] at few
        have s4 := same_new (o := SetK P w ps (inK (metK [] ((lvS z).map (Sum.inr : Str → Key)))) (metK [] ((lvS z).map (Sum.inr : Str → Key))).length) hps
        refine ⟨ps, _, _, rfl, upd_same, by omega, _, rfl, .ref l, (lvS z).length, rfl, .inl ⟨_, s4.keeps.l _ _ hl, by rw [List.length_map]⟩, rfl, ?_⟩
        have ee : decide (V.int ((metK [] ((lvS z).map (Sum.inr : Str → Key))).length : Int) = V.int ((lvS z).length : Int)) = famD (shD z) := by
          rw [show decide (V.int ((metK [] ((lvS z).map (Sum.inr : Str → Key))).length : Int) = V.int ((lvS z).length : Int)) = decide ((metK [] ((lvS z).map (Sum.inr : Str → Key))).length = (lvS z).length) from decide_eq_decide.mpr ⟨fun h => by have := V.int.inj h; omega, fun h => by rw [h]⟩, str_nodup]
          by_cases nd : (lvS z).Nodup
          · rw [decide_eq_true nd, fam_yes ⟨zn, zd, h16, nd⟩]
          · rw [decide_eq_false nd, fam_no fun f => nd f.nd]
        rw [ee]
        exact q _ ((s1.trans s2).trans s4)
      · rw [decide_eq_false (show ¬ (((lvS z).length : Nat) : Int) ≤ 16 by omega)]
        refine iteF ?_
        rw [fam_no fun f => h16 f.few] at q
        exact q _ (s1.trans s2)
end
end My
set_option Elab.async false
set_option linter.all false
set_option maxRecDepth 100000
set_option maxHeartbeats 4000000
/-! Family.__init__, of any value -/
namespace My
open PySem PySem.Spec PyProof.Rows L2
section
variable {P : Program} {w : World} {K : PySem.W.Frag} {mg : Str → Option Value} {base : Heap}
/-! InvalidFamily's __init__ -/
def spErr (K : PySem.W.Frag) (C : Addr) : Sp := fun vs H Q _ => ∃ (a : Addr) (x : V), vs = [.ref a, x] ∧ H a = some (exo a C none) ∧ OexC K C ∧ PySem.W.findIn K (.ref C) "value" = some none ∧
  ∀ dx, H dx = none → dx ≠ a → Q .non (upd (upd H dx (exd dx [("value", x)])) a (exo a C (some dx)))
theorem ok_errFam {f C : Addr} {fd : FuncData} (F : Fun K "__init__" "InvalidFamily.__init__" sInvalidFamilyInit f fd) : FnOk P w K mg base CX0 1 f fd ["self", "value"] (spErr K C) := by
  refine F.ok scInvalidFamilyInit (fun vs H Q E h => ?_) (fun cdv A outer s H vs Q E hr h => ?_)
  · obtain ⟨a, x, rfl, _⟩ := h
    rfl
  · obtain ⟨a, x, rfl, ha, T, no, q⟩ := h
    refine ⟨_, pss_one (ps_ost (pv 0) (pv 1)), ?_⟩
    refine ⟨_, rfl, _, rfl, a, C, rfl, T, no, .inl ⟨ha, fun dx h1 h2 => ?_⟩⟩
    exact q dx h1 h2
structure FamCls (K : PySem.W.Frag) (C : Addr) : Prop where
  c : Cls K C
  n1 : NoAttr K C "_shape"
  n2 : NoAttr K C "_leaves"
  n3 : NoAttr K C "_places"
def famF (v : V) (tl tp : Addr) : List (Str × V) := [("_shape", v), ("_leaves", .ref tl), ("_places", .ref tp)]
/-- a Family in the heap -/
structure FamAt (K : PySem.W.Frag) (p : Addr) (C : Addr) (H : Hp) (x : Addr) (v : V) (s : Shp) : Prop where
  ex : ∃ dx tl tp us, H x = some (.ins C dx (famF v tl tp)) ∧ SqT K H tl ((lvS s).map V.str) ∧ SqT K H tp us ∧ DaAll K p H us ((plcS s).map shD)
  da : Da K p H v (shD s)
  ok : FamS s
/-- what is read of lists, tuples and dicts stays where an instance alone was written to -/
theorem keepA_ins {p x C dx : Addr} {fs : List (Str × V)} {H H' : Hp} (hx : H x = some (.ins C dx fs)) (s : SameP x H H') : KeepA K p H H' := by
  have ne : ∀ {b : Addr} {o : HO}, H b = some o → (∀ C dx fs, o ≠ .ins C dx fs) → b ≠ x := fun e n z => by rw [z, hx] at e; exact n _ _ _ (Option.some.inj e).symm
  refine ⟨fun a xs h => ?_, fun a xs h => ?_, fun a kvs _ h => s _ _ (ne h fun _ _ _ z => by cases z) h⟩
  · rcases h with (h | ⟨o, h⟩) | h
    · exact .inl (.inl (s _ _ (ne h fun _ _ _ z => by cases z) h))
    · exact .inl (.inr ⟨o, s _ _ (ne h fun _ _ _ z => by cases z) h⟩)
    · exact .inr h
  · rcases h with (h | ⟨o, h⟩) | h
    · exact .inl (.inl (s _ _ (ne h fun _ _ _ z => by cases z) h))
    · exact .inl (.inr ⟨o, s _ _ (ne h fun _ _ _ z => by cases z) h⟩)
    · exact .inr h
def spFamI (K : PySem.W.Frag) (C CF : Addr) : Sp := fun vs H Q E => ∃ (p x dx : Addr) (m1 m2 : Nat) (v : V) (d : PyData), vs = [.ref x, v] ∧ H x = some (.ins C dx []) ∧ Da K p H v d ∧ Gm m1 m2 d ∧ m1 ≤ 10000 ∧
  (∀ s, d = shD s → FamS s → ∀ H', SameP x H H' → FamAt K p C H' x v s → Q .non H') ∧
  (famD d = false → ∀ dd H', Same H H' → H dd = none → H' dd = some (.xd [("value", v)]) → E (.ref CF) (some dd) H')
theorem ok_famI {f f1 f2 f3 fI C CF : Addr} {fd e1 e2 e3 dI : FuncData} (F : Fun K "__init__" "Family.__init__" sFamilyInit f fd) (B : Glb mg) (RC : FamCls K C) (CQ : Has P w K mg base 9 "is_family" ["value"] (spFam K) f1 e1) (CL : Has P w K mg base 8 "leaves_of" ["shape"] (spLv K 6) f2 e2) (CP : Has P w K mg base 8 "places_of" ["shape"] (spPc K 6) f3 e3)
    (T : OexC K CF) (iC : PySem.W.findIn K (.ref CF) "__init__" = some (some (.ref fI))) (tI : PySem.W.typeIn K (.ref fI) = some (.type "function")) (FI : Fun K "__init__" "InvalidFamily.__init__" sInvalidFamilyInit fI dI) (bI : Binds K dI ["self", "value"] []) (no : PySem.W.findIn K (.ref CF) "value" = some none) (gC : mg "InvalidFamily" = some (.ref CF)) :
    FnOk P w K mg base (CX P w) 10 f fd ["self", "shape"] (spFamI K C CF) := by
  refine F.okX scFamilyInit (fun vs H Q E h => ?_) (fun cdv A outer s H vs Q E hr h => ?_)
  · obtain ⟨p, x, dx, m1, m2, v, d, rfl, _⟩ := h
    rfl
  · obtain ⟨p, x, dx, m1, m2, v, d, rfl, hx, D, gm, hm, q1, q2⟩ := h
    have hr8 := hr.mono (show 8 ≤ 9 by decide)
    have hr2 := hr.mono (show 2 ≤ 9 by decide)
    refine ⟨_, pss_cons (ps_if (pt_not (pt_val (pe_has CQ hr (by rfl) (pa_cons (pv 1) pa_nil)))) (pss_one (ps_raise rfl (takes_of rfl rfl rfl rfl) (pmk_oex T iC tI (ok_errFam (C := CF) FI) hr2 bI .nil pass0 (by rfl) gC (pa_cons (pv 1) pa_nil)))) pss_nil)
      (pss_cons (ps_fld (pv 0) (pv 1) rfl)
      (pss_cons (ps_fld (pv 0) (pe_callTy call_tupleF (by rfl) B.tuple (by decide +kernel) (pa_cons (pe_has CL hr8 (by rfl) (pa_cons (pv 1) pa_nil)) pa_nil)) rfl)
      (pss_one (ps_fld (pv 0) (pe_callTy call_tupleF (by rfl) B.tuple (by decide +kernel) (pa_cons (pe_has CP hr8 (by rfl) (pa_cons (pv 1) pa_nil)) pa_nil)) rfl)))), ?_⟩
    refine ⟨_, rfl, p, m1, m2, v, d, rfl, D, gm, hm, fun H1 s1 => ⟨_, rfl, ?_⟩⟩
    cases hf : famD d with
    | false =>
      refine iteT ⟨_, rfl, by show 1 ≤ 1000; decide, fun a ha => ⟨a, v, rfl, upd_same, T, no, fun dx h1 h2 => ⟨rfl, dx, _, upd_same, (upd_ne h2).trans upd_same, (upd_ne h2).symm.trans h1, by
        have hd1 : H1 dx = none := (upd_ne h2).symm.trans h1
        refine q2 hf dx _ (fun b o e => ?_) (Option.eq_none_iff_forall_ne_some.mpr fun o e => by rw [s1 _ _ e] at hd1; cases hd1) upd_same
        have e1 := s1 _ _ e
        have ba : b ≠ a := ne_of_none e1 ha
        have bd : b ≠ dx := ne_of_none e1 hd1
        rw [upd_ne bd, del_ne ba, upd_ne ba, upd_ne bd, upd_ne ba]
        exact e1⟩⟩⟩
    | true =>
      obtain ⟨z, rfl, fz⟩ := fam_shp hf
      have q1 := q1 z rfl fz
      have x1 := s1 _ _ hx
      refine iteF ⟨_, rfl, _, rfl, x, C, dx, [], rfl, x1, RC.c, RC.n1, by decide, ?_⟩
      -- _shape
      have sx : SameP x H (upd H1 x (.ins C dx (putF "_shape" v []))) := fun b o n e => by rw [upd_ne n]; exact s1 _ _ e
      have D2 := da_keep (keepA_ins (K := K) (p := p) hx sx) D
      have x2 : (upd H1 x (.ins C dx (putF "_shape" v []))) x = some (.ins C dx [("_shape", v)]) := upd_same
      generalize upd H1 x (.ins C dx (putF "_shape" v [])) = H2 at sx D2 x2
      -- _leaves
      refine ⟨_, rfl, p, v, z, rfl, D2, fz.nm, fz.dp, Nat.le_refl _, fun l H3 nl el s3 => ?_⟩
      refine ⟨l, _, rfl, .inl (.inl el), fun tl ob htl hob => ?_⟩
      have s4 := same_new (o := HO.frz ob (.tup ((lvS z).map V.str))) htl
      have et := upd_same (H := H3) (a := tl) (o := HO.frz ob (.tup ((lvS z).map V.str)))
      have S4 := s3.trans s4
      generalize upd H3 tl (.frz ob (.tup ((lvS z).map V.str))) = H4 at s4 et S4
      have x4 := S4 _ _ x2
      have ntx : tl ≠ x := fun z => by rw [z] at et; rw [et] at x4; cases x4
      refine ⟨_, rfl, x, C, dx, _, rfl, x4, RC.c, RC.n2, by show 1 + 1 ≤ 1000; decide, ?_⟩
      have sx2 : SameP x H (upd H4 x (.ins C dx (putF "_leaves" (.ref tl) [("_shape", v)]))) := fun b o n e => by rw [upd_ne n]; exact S4 _ _ (sx _ _ n e)
      have D5 := da_keep (keepA_ins (K := K) (p := p) hx sx2) D
      have x5 : (upd H4 x (.ins C dx (putF "_leaves" (.ref tl) [("_shape", v)]))) x = some (.ins C dx [("_shape", v), ("_leaves", .ref tl)]) := upd_same
      have et5 : (upd H4 x (.ins C dx (putF "_leaves" (.ref tl) [("_shape", v)]))) tl = some (.frz ob (.tup ((lvS z).map V.str))) := (upd_ne ntx).trans et
      generalize upd H4 x (.ins C dx (putF "_leaves" (.ref tl) [("_shape", v)])) = H5 at sx2 D5 x5 et5
      -- _places
      refine ⟨_, rfl, p, v, z, rfl, D5, fz.nm, fz.dp, Nat.le_refl _, fun l2 us H6 nl2 el2 du s6 => ?_⟩
      refine ⟨l2, _, rfl, .inl (.inl el2), fun tp ob2 htp hob2 => ?_⟩
      have s7 := same_new (o := HO.frz ob2 (.tup us)) htp
      have ep := upd_same (H := H6) (a := tp) (o := HO.frz ob2 (.tup us))
      have S7 := s6.trans s7
      have du := da_keepAll s7.keepA du
      generalize upd H6 tp (.frz ob2 (.tup us)) = H7 at s7 ep S7 du
      have x7 := S7 _ _ x5
      have et7 := S7 _ _ et5
      have npx : tp ≠ x := fun z => by rw [z] at ep; rw [ep] at x7; cases x7
      refine ⟨_, rfl, x, C, dx, _, rfl, x7, RC.c, RC.n3, by show 2 + 1 ≤ 1000; decide, ?_⟩
      have sx3 : SameP x H7 (upd H7 x (.ins C dx (putF "_places" (.ref tp) [("_shape", v), ("_leaves", .ref tl)]))) := fun b o n e => by rw [upd_ne n]; exact e
      have sx4 : SameP x H (upd H7 x (.ins C dx (putF "_places" (.ref tp) [("_shape", v), ("_leaves", .ref tl)]))) := fun b o n e => by rw [upd_ne n]; exact S7 _ _ (sx2 _ _ n e)
      refine q1 _ sx4 ⟨⟨dx, tl, tp, us, upd_same, .inl (.inr ⟨ob, (upd_ne ntx).trans et7⟩), .inl (.inr ⟨ob2, (upd_ne npx).trans ep⟩), da_keepAll (keepA_ins x7 sx3) du⟩, da_keep (keepA_ins (K := K) (p := p) hx sx4) D, fz⟩
end
end My
set_option Elab.async false
set_option linter.all false
set_option maxRecDepth 100000
set_option maxHeartbeats 4000000
/-! Family's leaves, places, __len__, __eq__ -/
namespace My
open PySem PySem.Spec PyProof.Rows L2
/-- shapes compared -/
theorem eqv_sh : ∀ s t : Shp, PyData.eqv (shD s) (shD t) = decide (s = t)
  | .leaf x, .leaf y => by
    show PyData.eqv (.str x) (.str y) = _
    have : PyData.eqv (.str x) (.str y) = decide (x = y) := by
      simp only [PyData.eqv]
      rw [Bool.eq_iff_iff, beq_iff_eq, decide_eq_true_eq]
    rw [this]
    exact decide_eq_decide.mpr ⟨fun e => by rw [e], fun e => by injection e⟩
  | .leaf x, .two a b => by
    rw [decide_eq_false (fun z => by cases z)]
    show PyData.eqv (.str x) (.tuple [shD a, shD b]) = false
    simp only [PyData.eqv]
  | .two a b, .leaf x => by
    rw [decide_eq_false (fun z => by cases z)]
    show PyData.eqv (.tuple [shD a, shD b]) (.str x) = false
    simp only [PyData.eqv]
  | .two a b, .two c d => by
    show PyData.eqv (.tuple [shD a, shD b]) (.tuple [shD c, shD d]) = _
    have h1 := eqv_sh a c
    have h2 := eqv_sh b d
    simp only [PyData.eqv, PyData.eqvAll, h1, h2, Bool.and_true]
    rw [← Bool.decide_and]
    exact decide_eq_decide.mpr ⟨fun e => by rw [e.1, e.2], fun e => by injection e with e1 e2; exact ⟨e1, e2⟩⟩
theorem da_dpS {K : PySem.W.Frag} {p : Addr} {H : Hp} : ∀ {s : Shp} {v : V}, Da K p H v (shD s) → Dp K H v (shD s)
  | .leaf x, v, h => by
    cases h
    exact .str x
  | .two a b, v, h => by
    obtain ⟨t, x, y, rfl, ht, h1, h2⟩ := da_two h
    exact .tup ht (.cons (da_dpS h1) (.cons (da_dpS h2) .nil))
theorem lay_sh : ∀ {s : Shp}, ShN s → PyData.canLay0 (shD s) = true
  | .leaf x, h => by
    have h : nmS x = true := h
    show PyData.canLay0 (.str x) = true
    simp only [PyData.canLay0]
    unfold PyData.strOk
    rw [← Array.all_toList, List.all_eq_true]
    intro c hc
    unfold nmS at h
    rw [Bool.and_eq_true, List.all_eq_true] at h
    have q := h.2 c hc
    unfold lowC at q
    have := of_decide_eq_true q
    exact decide_eq_true (by omega)
  | .two a b, h => by
    show PyData.canLay0 (.tuple [shD a, shD b]) = true
    simp only [PyData.canLay0, PyData.canLayAll0, lay_sh h.1, lay_sh h.2]
    rfl
theorem dep_sh : ∀ s : Shp, (shD s).depth ≤ dpS s
  | .leaf x => by show (PyData.str x).depth ≤ 0; simp only [PyData.depth]; exact Nat.le_refl _
  | .two a b => by
    have h1 := dep_sh a
    have h2 := dep_sh b
    show (PyData.tuple [shD a, shD b]).depth ≤ 1 + max (dpS a) (dpS b)
    simp only [PyData.depth, PyData.depthAll]
    omega
theorem shaped_sh {s : Shp} (h : ShN s) (d : dpS s ≤ 6) : SeqAt.shaped (shD s) = true := by
  have := dep_sh s
  unfold SeqAt.shaped
  rw [Bool.and_eq_true]
  exact ⟨lay_sh h, decide_eq_true (by omega)⟩
section
variable {P : Program} {w : World} {K : PySem.W.Frag} {mg : Str → Option Value} {base : Heap}
def spFmL (K : PySem.W.Frag) (C : Addr) : Sp := fun vs H Q _ => ∃ (p x : Addr) (v : V) (s : Shp), vs = [.ref x] ∧ FamAt K p C H x v s ∧ ∀ tl, SqT K H tl ((lvS s).map V.str) → Q (.ref tl) H
def spFmP (K : PySem.W.Frag) (C : Addr) : Sp := fun vs H Q _ => ∃ (p x : Addr) (v : V) (s : Shp), vs = [.ref x] ∧ FamAt K p C H x v s ∧ ∀ tp us, SqT K H tp us → DaAll K p H us ((plcS s).map shD) → Q (.ref tp) H
def spFmN (K : PySem.W.Frag) (C : Addr) : Sp := fun vs H Q _ => ∃ (p x : Addr) (v : V) (s : Shp), vs = [.ref x] ∧ FamAt K p C H x v s ∧ Q (.int ((lvS s).length : Nat)) H
theorem ok_fmL {f C : Addr} {fd : FuncData} (F : Fun K "leaves" "Family.leaves" sFamilyLeaves f fd) (RC : FamCls K C) : FnOk P w K mg base CX0 1 f fd ["self"] (spFmL K C) := by
  refine F.ok scFamilyLeaves (fun vs H Q E h => ?_) (fun cdv A outer s H vs Q E hr h => ?_)
  · obtain ⟨p, x, v, s, rfl, _⟩ := h
    rfl
  · obtain ⟨p, x, v, s, rfl, ⟨⟨dx, tl, tp, us, hx, hl, hp, du⟩, _, _⟩, q⟩ := h
    exact ⟨_, pss_one (ps_ret (pe_fld (pv 0) rfl)), _, rfl, x, C, dx, _, .ref tl, rfl, hx, RC.c, RC.n2, rfl, q tl hl⟩
theorem ok_fmP {f C : Addr} {fd : FuncData} (F : Fun K "places" "Family.places" sFamilyPlaces f fd) (RC : FamCls K C) : FnOk P w K mg base CX0 1 f fd ["self"] (spFmP K C) := by
  refine F.ok scFamilyPlaces (fun vs H Q E h => ?_) (fun cdv A outer s H vs Q E hr h => ?_)
  · obtain ⟨p, x, v, s, rfl, _⟩ := h
    rfl
  · obtain ⟨p, x, v, s, rfl, ⟨⟨dx, tl, tp, us, hx, hl, hp, du⟩, _, _⟩, q⟩ := h
    exact ⟨_, pss_one (ps_ret (pe_fld (pv 0) rfl)), _, rfl, x, C, dx, _, .ref tp, rfl, hx, RC.c, RC.n3, rfl, q tp us hp du⟩
theorem ok_fmN {f C : Addr} {fd : FuncData} (F : Fun K "__len__" "Family.__len__" sFamilyLen f fd) (B : Glb mg) (RC : FamCls K C) : FnOk P w K mg base CX0 1 f fd ["self"] (spFmN K C) := by
  refine F.ok scFamilyLen (fun vs H Q E h => ?_) (fun cdv A outer s H vs Q E hr h => ?_)
  · obtain ⟨p, x, v, s, rfl, _⟩ := h
    rfl
  · obtain ⟨p, x, v, s, rfl, ⟨⟨dx, tl, tp, us, hx, hl, hp, du⟩, _, _⟩, q⟩ := h
    exact ⟨_, pss_one (ps_ret (pe_callB call_len (by rfl) B.len PySem.boot_len (pa_cons (pe_fld (pv 0) rfl) pa_nil))), _, rfl, x, C, dx, _, .ref tl, rfl, hx, RC.c, RC.n2, rfl, .ref tl, (lvS s).length, rfl, .inr ⟨_, hl, by rw [List.length_map]⟩, q⟩
/-- Family == any value -/
def spFmE (K : PySem.W.Frag) (C : Addr) : Sp := fun vs H Q _ => ∃ (p x : Addr) (v y : V) (s : Shp) (t : Value) (is : Bool), vs = [.ref x, y] ∧ FamAt K p C H x v s ∧ TyX K H y t ∧ PySem.W.kitOne K t (.ref C) = some is ∧
  (if is = true then ∃ x2 v2 s2, y = .ref x2 ∧ FamAt K p C H x2 v2 s2 ∧ Q (.bl (decide (s = s2))) H else Q (.bl false) H)
theorem ok_fmE {f C : Addr} {fd : FuncData} (F : Fun K "__eq__" "Family.__eq__" sFamilyEq f fd) (B : Glb mg) (RC : FamCls K C) (gC : mg "Family" = some (.ref C)) : FnOk P w K mg base CX0 1 f fd ["self", "other"] (spFmE K C) := by
  refine F.ok scFamilyEq (fun vs H Q E h => ?_) (fun cdv A outer s H vs Q E hr h => ?_)
  · obtain ⟨p, x, v, y, s, t, is, rfl, _⟩ := h
    rfl
  · obtain ⟨p, x, v, y, s, t, is, rfl, ⟨⟨dx, tl, tp, us, hx, hl, hp, du⟩, Ds, fs⟩, ty, ki, q⟩ := h
    refine ⟨_, pss_one (ps_ret (pe_and (pe_callB call_isi (by rfl) B.isi boot_isinstance (pa_cons (pv 1) (pa_cons (pe_glob (v := .ref C) (by rfl) gC rfl) pa_nil)))
      (pe_one (pe_cmpR (op_eqD hr.units) (pe_fld (pv 0) rfl) (pe_fld (pv 1) rfl) (nomark _))))), ?_⟩
    refine ⟨_, rfl, y, _, t, _, is, rfl, .own C, ty, ki, _, rfl, ?_⟩
    cases is with
    | false => exact iteF q
    | true =>
      obtain ⟨x2, v2, s2, rfl, ⟨⟨dx2, tl2, tp2, us2, hx2, _, _, _⟩, Ds2, fs2⟩, q⟩ := q
      refine iteT ⟨_, rfl, x, C, dx, _, v, rfl, hx, RC.c, RC.n1, rfl, _, rfl, x2, C, dx2, _, v2, rfl, hx2, RC.c, RC.n1, rfl, shD s, shD s2, da_dpS Ds, da_dpS Ds2, shaped_sh fs.nm fs.dp, shaped_sh fs2.nm fs2.dp, ?_⟩
      rw [eqv_sh]
      exact q
end
end My
set_option Elab.async false
set_option linter.all false
set_option maxRecDepth 100000
set_option maxHeartbeats 4000000
/-! try .. except (X, Y) as e: kept = e .. except Z as e: ..; the error kept is tracked behind the statement -/
namespace My
open PySem PySem.Spec PyProof.Rows L2
/-- an error of the class cls with the dict d -/
def XO (cls : Value) (d : Option Addr) (a : Addr) : HO := .ext fun h => ∃ (oe : Obj) (vs : Array Value), h.get? a = some oe ∧ Zc cls d oe ∧ oe.data = .fields vs
theorem xo_ok {P : Program} {w : World} {H : Hp} {h : Heap} {a : Addr} {cls : Value} {d : Option Addr} {oe : Obj} {vs : Array Value} (e : h.get? a = some oe) (z : Zc cls d oe) (q : oe.data = .fields vs) : ObjOk P w H h a (XO cls d a) :=
  ⟨⟨oe, vs, e, z, q⟩, ⟨oe, e⟩, fun _ _ ⟨o, v, p, r⟩ k => ⟨o, v, k o p, r⟩⟩
section
variable {X : Cx} {pins : List (Addr × Obj)} {σ : L2.St} {H : Hp} {s : Shared}
theorem track {a : Addr} {oe : Obj} {vs : Array Value} {cls : Value} {d : Option Addr} (I : Inv X pins σ H s) (he : s.heap.get? a = some oe) (hz : Zc cls d oe) (hd : oe.data = .fields vs) (na : H a = none) (n0 : X.s_0.heap.get? a = none) (nL : a ≠ X.env.locals)
    (np : ∀ p ∈ X.pn ++ pins, p.1 ≠ a) : Inv X pins σ (upd H a (XO cls d a)) s := by
  have n1 : ∀ {b o}, X.s_0.heap.get? b = some o → b ≠ a := fun {b o} e z => by rw [z, n0] at e; cases e
  have n2 : ∀ {b u}, H b = some u → b ≠ a := fun {b u} e => ne_of_none e na
  refine ⟨I.ok, I.os, I.bare, ⟨I.base.keep, I.base.slot, fun b o e n q => ?_, I.base.there, fun b xs e => ?_, fun b o u e => ?_, fun b ps e => ?_⟩, I.loc, I.cell, ?_, fun x c e => ?_, fun p hp => ?_, HOk.laidN I.hok (fun _ _ e => e) na (xo_ok he hz hd), I.len⟩
  · rw [upd_ne (n1 e)]
    exact I.base.free b o e n q
  · have q := I.base.tups b xs e
    rw [upd_ne (n2 q)]
    exact q
  · have q := I.base.frzs b o u e
    rw [upd_ne (n2 q)]
    exact q
  · obtain ⟨m, q⟩ := I.base.tbls b ps e
    exact ⟨m, by rw [upd_ne (n2 q)]; exact q⟩
  · rw [upd_ne (Ne.symm nL)]
    exact I.free
  · have ne : c ≠ a := fun z => by
      obtain ⟨v, o, ho, hc⟩ := I.cell x c e
      rw [z, he] at ho
      cases ho
      rw [hd] at hc
      cases hc
    rw [upd_ne ne]
    exact I.freeC x c e
  · obtain ⟨p1, p2, p3⟩ := I.pin p hp
    exact ⟨p1, by rw [upd_ne (np p hp)]; exact p2, p3⟩
theorem fly_keep {B h h' : Heap} {l : List Env} {a : Addr} {Z : Obj → Prop} (f : HandSPX.FlyingZ B l a Z h) (k : ∀ b o, h.get? b = some o → h'.get? b = some o) : HandSPX.FlyingZ B l a Z h' := by
  obtain ⟨f1, f2, f3, oe, vs, T, oT, ts, e1, e2, e3, e4, e5, e6, e7, e8, e9⟩ := f
  exact ⟨fun b o q => k b o (f1 b o q), f2, f3.of_keeps fun b o q _ => ⟨o, k b o q, rfl⟩, oe, vs, T, oT, ts, k _ _ e1, e2, e3, e4, e5, e6, k _ _ e7, e8, e9⟩
/-! what an except clause names -/
/-- the test of a clause is evaluated, and matched -/
structure TstOk (X : Cx) (t : Expr) (cs : List Value) : Prop where
  run : ∀ {a : Addr} {oe : Obj} {cls : Value} {b : Bool} {pn pins : List (Addr × Obj)} {σ : L2.St} {H : Hp} {s : Shared} {Q : Bool → Shared → Prop} {E : Value → Shared → Prop}, Inv (X.suite a pn) pins σ H s → s.heap.get? a = some oe → oe.cls = cls →
  PySem.W.exmAny X.K cls cs = some b → (∀ h', (∀ q o, s.heap.get? q = some o → h'.get? q = some o) → Q b { s with heap := h' }) →
  wpAny (model X.prog X.w) (X.A.mark (some (.ref a))) (eval t X.env) (fun c s1 => wpAny (model X.prog X.w) (X.A.mark (some (.ref a))) (excMatches (.ref a) c) Q E s1) E s
theorem name_at {a : Addr} {pn : List (Addr × Obj)} {x : Str} {c : Value} {np : Pos} {Q : Value → Shared → Prop} {E : Value → Shared → Prop} (I : Inv (X.suite a pn) pins σ H s) (hc : L2.Names X x c) (q : Q c s) : wpAny (model X.prog X.w) (X.A.mark (some (.ref a))) (eval (.Name x np) X.env) Q E s := by
  obtain ⟨h1, h2, h3 | ⟨h3, h4, h5⟩⟩ := hc
  · exact ld_glob (X := X.suite a pn) I h1 h3 q h2
  · exact ld_blt (X := X.suite a pn) I h1 h3 h4 q h5 h2
theorem ty_look {a : Addr} {oe : Obj} {cls : Value} (he : s.heap.get? a = some oe) (hc : oe.cls = cls) : PySem.W.Looks (model X.prog X.w) s.heap (typeOf (.ref a)) cls := fun A Q E s' k q => wpAny_typeOf_ref (k _ _ he) (by rw [hc]; exact q)
theorem any_one {K : PySem.W.Frag} {cls c : Value} {b : Bool} (h : PySem.W.exmAny K cls [c] = some b) : PySem.W.exmOne K cls c = some b := by
  obtain ⟨b1, d1, e1, e2, e3⟩ := PySem.W.exmAny_cons h
  cases (show some false = some d1 from e2)
  rw [Bool.or_false] at e3
  rw [e1, e3]
theorem tst1 {x : Str} {c : Value} {np : Pos} (hc : L2.Names X x c) : TstOk X (.Name x np) [c] := ⟨fun {a oe cls b pn pins σ H s Q E} I he ho hx q => name_at I hc ((PySem.W.exm_one (M := model X.prog X.w) I.kIn (ty_look (X := X) he ho) (any_one hx)).here (q s.heap fun _ _ z => z))⟩
theorem tst2 {x1 x2 : Str} {c1 c2 : Value} {p1 p2 tp : Pos} {kk : Nat} (h1 : L2.Names X x1 c1) (h2 : L2.Names X x2 c2) : TstOk X (.Tuple [.Name x1 p1, .Name x2 p2] kk tp) [c1, c2] := ⟨fun {a oe cls b pn pins σ H s Q E} I he ho hx q => by
  refine wpAny_Tuple (wpAny_items_cons (name_at I h1 (wpAny_items_cons (name_at I h2 (wpAny_items_nil ⟨by size_fits, ?_⟩)))))
  have kp : ∀ q o, s.heap.get? q = some o → (s.heap.push { cls := .type "tuple", data := .seq [c1, c2].toArray }).get? q = some o := fun _ _ z => Heap.get?_push_of_some _ z
  exact (PySem.W.exm_tup2 (M := model X.prog X.w) (PySem.W.Frag.In.keeps I.kIn kp) ((ty_look (X := X) he ho).keeps kp) (Heap.get?_push_size s.heap rfl) hx).here (q _ kp)⟩
theorem tst3 {x1 x2 x3 : Str} {c1 c2 c3 : Value} {p1 p2 p3 tp : Pos} {kk : Nat} (h1 : L2.Names X x1 c1) (h2 : L2.Names X x2 c2) (h3 : L2.Names X x3 c3) : TstOk X (.Tuple [.Name x1 p1, .Name x2 p2, .Name x3 p3] kk tp) [c1, c2, c3] := ⟨fun {a oe cls b pn pins σ H s Q E} I he ho hx q => by
  refine wpAny_Tuple (wpAny_items_cons (name_at I h1 (wpAny_items_cons (name_at I h2 (wpAny_items_cons (name_at I h3 (wpAny_items_nil ⟨by size_fits, ?_⟩)))))))
  have kp : ∀ q o, s.heap.get? q = some o → (s.heap.push { cls := .type "tuple", data := .seq [c1, c2, c3].toArray }).get? q = some o := fun _ _ z => Heap.get?_push_of_some _ z
  exact (PySem.W.exm_tup3 (M := model X.prog X.w) (PySem.W.Frag.In.keeps I.kIn kp) ((ty_look (X := X) he ho).keeps kp) (Heap.get?_push_size s.heap rfl) hx).here (q _ kp)⟩
theorem tst4 {x1 x2 x3 x4 : Str} {c1 c2 c3 c4 : Value} {p1 p2 p3 p4 tp : Pos} {kk : Nat} (h1 : L2.Names X x1 c1) (h2 : L2.Names X x2 c2) (h3 : L2.Names X x3 c3) (h4 : L2.Names X x4 c4) : TstOk X (.Tuple [.Name x1 p1, .Name x2 p2, .Name x3 p3, .Name x4 p4] kk tp) [c1, c2, c3, c4] := ⟨fun {a oe cls b pn pins σ H s Q E} I he ho hx q => by
  refine wpAny_Tuple (wpAny_items_cons (name_at I h1 (wpAny_items_cons (name_at I h2 (wpAny_items_cons (name_at I h3 (wpAny_items_cons (name_at I h4 (wpAny_items_nil ⟨by size_fits, ?_⟩)))))))))
  have kp : ∀ q o, s.heap.get? q = some o → (s.heap.push { cls := .type "tuple", data := .seq [c1, c2, c3, c4].toArray }).get? q = some o := fun _ _ z => Heap.get?_push_of_some _ z
  exact (PySem.W.exm_tup4 (M := model X.prog X.w) (PySem.W.Frag.In.keeps I.kIn kp) ((ty_look (X := X) he ho).keeps kp) (Heap.get?_push_size s.heap rfl) hx).here (q _ kp)⟩
end
/-! the statement -/
/-- a clause: the classes it names, its name's slot, its suite's reading -/
structure Cl where
  cs : List Value
  i : Nat
  ts : Addr → Value → Option Addr → TS
def keptD (a : Addr) (cls : Value) (d : Option Addr) (i : Nat) (D : Ends) : Ends := { nx := fun σ H => D.nx (σ.set i none) (upd H a (XO cls d a)), rt := D.rt, bk := fun σ H => D.bk (σ.set i none) H, ct := fun σ H => D.ct (σ.set i none) H }
def wCl (n : Nat) (K : PySem.W.Frag) (Wout : WX) (D : Ends) : List Cl → WX
  | [] => Wout
  | c :: r => fun cls d σ H => σ.length = n → ∃ b, PySem.W.exmAny K cls c.cs = some b ∧ (b = true → ∀ a, H a = none → c.ts a cls d (keptD a cls d c.i D) (σ.set c.i (some (.ref a))) H) ∧ (b = false → wCl n K Wout D r cls d σ H)
inductive ClsOk (X : Cx) : List ExceptHandler → List Cl → Prop
  | nil : ClsOk X [] []
  | cons {t : Expr} {n : Str} {cs : List Value} {i : Nat} {ts : Addr → Value → Option Addr → TS} {b₀ : Stmt} {su : List Stmt} {hp : Pos} {hds : List ExceptHandler} {l : List Cl} (ht : TstOk X t cs) (hi : X.N[i]? = some n) (hn : X.env.kindOf n = some .local)
      (hsu : ∀ (a : Addr) (oe : Obj) (cls : Value) (d : Option Addr) (pn : List (Addr × Obj)), Zc cls d oe → (∃ vs, oe.data = .fields vs) → PSs (X.suite a ((a, oe) :: pn)) (b₀ :: su) (ts a cls d)) (r : ClsOk X hds l) :
      ClsOk X (.ExceptHandler (some t) (some n) (b₀ :: su) hp :: hds) (⟨cs, i, ts⟩ :: l)
section
variable {X : Cx} {body : List Stmt} {h₀ : ExceptHandler} {hds : List ExceptHandler} {l : List Cl} {pos : Pos} {tb : WX → TS} {Wout : WX}
theorem ps_try_kept (hs : X.stack = X.env :: X.outer) (hf : X.env.frame = some X.env.locals) (hfs : X.fs = frs X.outer) (hex : X.ex = []) (hN : X.N.Nodup) (tk : Takes X Wout)
    (hb : ∀ (W : WX) (pn : List (Addr × Obj)) (xe : Value → Shared → Prop), Takes (X.tr pn xe) W → PassesOwn (model X.prog X.w) X.A X.env xe → PSs (X.tr pn xe) body (tb W))
    (hh : ClsOk X (h₀ :: hds) l) : PS X (.Try body (h₀ :: hds) [] [] pos) (fun D σ H => tb (wCl X.N.length X.K Wout D l) D σ H) := by
  refine ⟨fun pins s σ H D I h => ?_⟩
  have ok := I.ok; have hfr : X.A.frames = some (X.env :: X.outer) := by rw [ok.frames, hs]
  refine wpAny_Try_except (wpAny_mono ((hb (wCl X.N.length X.K Wout D l) (X.pn ++ pins) (fun e s₁ => wpAny (model X.prog X.w) X.A (noteFrame e X.env) (fun _ s₂ => wpAny (model X.prog X.w) X.A (setFlight e none) (fun _ s₃ => wpAny (model X.prog X.w) X.A (handleBy e X.env (h₀ :: hds)) (SP X pins D) X.xe s₃) X.xe s₂) X.xe s₁)
    (fun u s' xx => ?_) PassesOwn.looking).run [] s σ H D (I.toTry _) h) (fun f s1 hsp => ?_) (fun e s1 he => he))
  · obtain ⟨a, B, sI, pins', σ', H', cls, d, eu, J', nb, up, sky, na, os, ag, wish⟩ := xx
    subst eu
    have J : Inv X pins σ' H' sI := J'.ofTry ok
    have sky' : Sky B (X.env :: X.outer) a (Zc cls d) X.env.locals s'.heap := hs ▸ sky
    show wpAny (model X.prog X.w) X.A (noteFrame (.ref a) X.env) _ _ _
    refine Sky.land Zc.steady hfr hf sky' fun g0 fl0 up0 => ?_
    obtain ⟨oe0, vs0, e0, z0, d0⟩ := fl0.there
    have nfr : a ∉ frs (X.env :: X.outer) := fun hm => by
      obtain ⟨_, o', e', hnf⟩ := fl0.2.2.1.mem hm
      rw [e0] at e'
      cases e'
      exact hnf _ d0
    have nL : a ≠ X.env.locals := fun z => nfr (List.mem_filterMap.mpr ⟨X.env, List.mem_cons_self, hf.trans (congrArg some z.symm)⟩)
    have nF : a ∉ X.fs := fun hm => by
      rw [hfs] at hm
      obtain ⟨e, h1, h2⟩ := List.mem_filterMap.mp hm
      exact nfr (List.mem_filterMap.mpr ⟨e, List.mem_cons_of_mem _ h1, h2⟩)
    have notI : ∀ b o, sI.heap.get? b = some o → b ∉ frs X.stack → b ≠ a := fun b o e n z => by
      have q := nb b o e n
      rw [z, fl0.2.1] at q
      cases q
    have n0 : X.s_0.heap.get? a = none := by
      cases e : X.s_0.heap.get? a with
      | none => rfl
      | some o =>
        obtain ⟨o', q⟩ := J.base.there a o e (by rw [hex]; exact fun z => nomatch z)
        exact absurd rfl (notI a o' q (by rw [hs]; exact nfr))
    have np : ∀ p ∈ X.pn ++ pins, p.1 ≠ a := fun p hp => by
      obtain ⟨p1, p2, p3, p4, _⟩ := J.pin p hp
      refine notI p.1 p.2 p1 fun hm => ?_
      rw [hs] at hm
      obtain ⟨e, h1, h2⟩ := List.mem_filterMap.mp hm
      rcases List.mem_cons.mp h1 with h1 | h1
      · rw [h1, hf] at h2
        exact p3 (Option.some.inj h2).symm
      · exact p4 (by rw [hfs]; exact List.mem_filterMap.mpr ⟨e, h1, h2⟩)
    have go : ∀ {hds' : List ExceptHandler} {l' : List Cl}, ClsOk X hds' l' → ∀ g : Heap, HandSPX.FlyingZ B (X.env :: X.outer) a (Zc cls d) g → sI.heap.UpToSlots g → wCl X.N.length X.K Wout D l' cls d σ' H' → wpAny (model X.prog X.w) X.A (handleBy (.ref a) X.env hds') (SP X pins D) X.xe { s' with heap := g } := by
      intro hds' l' hk
      induction hk with
      | nil =>
        intro g fl upg wish
        refine wpAny_handleBy_nil ?_
        obtain ⟨k1, k2, k3, oe, vs, T, oT, ts', he, hz, hd, h1, hr⟩ := id fl
        unfold PySem.passOn; refine wpAny_bind (wpAny_field he hd h1 ?_)
        rw [if_neg (show ¬ ((Value.ref T == Value.none) = true) by simp)]
        have fin : wpAny (model X.prog X.w) X.A (setFlight (.ref a) X.env.frame) (fun _ s4 => wpAny (model X.prog X.w) X.A (throw (.ref a) : Sem Flow) (SP X pins D) X.xe s4) X.xe { s' with heap := g } := by
          rw [hf]
          exact HandSPX.setFlight_upZ fl fun h4 q4 up4 => wpAny_throw (tk _ _ ⟨a, B, sI, pins, σ', H', cls, d, rfl, J, nb, upg.trans up4, .inr (.inr (by rw [hs]; exact q4)), na, os, ag, wish⟩)
        first | exact wpAny_bind (wpAny_pure (wpAny_bind fin)) | exact wpAny_bind fin
      | @cons t n cs i ts b₀ su hp hds2 l2 ht hi hn hsu r ih =>
        intro g fl upg wish
        obtain ⟨b, hb1, yes, no⟩ := wish J.len
        have Jg : Inv X pins σ' H' { s' with heap := g } := J.landed nb fl.1 upg os ag
        obtain ⟨oe, vs, he, hz, hd⟩ := fl.there
        have Sg := Jg.suite he hd na nL nF
        refine wpAny_handleBy_cons (codeAny_handlers_test (ht.run Sg he hz.1 hb1 fun g2 kp => ?_)) (by intro q; cases q)
        have fl2 := fly_keep fl kp
        have up2 : sI.heap.UpToSlots g2 := upg.trans (Heap.UpToSlots.of_keeps kp)
        cases b with
        | true =>
          refine codeAny_handlers_suite_as (HandSPX.lands_againZ fl2 fun g4 fl4 up4 => ?_)
          have J4 : Inv X pins σ' H' { s' with heap := g4 } := J.landed nb fl4.1 (up2.trans up4) os ag
          obtain ⟨oe4, vs4, he4, hz4, hd4⟩ := fl4.there
          refine store_ok (X := X.suite a ((a, oe4) :: (X.pn ++ pins))) (v := .ref a) (J4.suite he4 hd4 na nL nF) hN hi (.inl hn) rfl (fun s5 S5 => ?_) (.inr hn)
          refine wpAny_mono ((hsu a oe4 cls d (X.pn ++ pins) hz4 ⟨_, hd4⟩).run [] s5 _ H' _ S5 (yes rfl a na)) (fun f s6 hsp => ?_) (fun _ _ z => False.elim z)
          have end_ : ∀ {σ6 : L2.St} {H6 : Hp} {Q : Shared → Prop}, Inv (X.suite a ((a, oe4) :: (X.pn ++ pins))) [] σ6 H6 s6 → (∀ s7, Inv X pins (σ6.set i none) H6 s7 → Q s7) → wpAny (model X.prog X.w) X.A (do bindName X.env n .none; unbindBehindTheSuite X.env n hp) (fun _ s7 => Q s7) X.xe s6 := fun S6 hq => gone_ok (S6.unsuite ok) hN hi hn hq
          have endT : ∀ {σ6 : L2.St} {H6 : Hp} {Q : Shared → Prop}, Inv (X.suite a ((a, oe4) :: (X.pn ++ pins))) [] σ6 H6 s6 → (∀ s7, Inv X pins (σ6.set i none) (upd H6 a (XO cls d a)) s7 → Q s7) → wpAny (model X.prog X.w) X.A (do bindName X.env n .none; unbindBehindTheSuite X.env n hp) (fun _ s7 => Q s7) X.xe s6 := fun S6 hq => by
            obtain ⟨q1, q2, _⟩ := S6.pin (a, oe4) (List.mem_append_left _ List.mem_cons_self)
            exact gone_ok (track (S6.unsuite ok) q1 hz4 hd4 q2 n0 nL np) hN hi hn hq
          cases f with
          | next => obtain ⟨_, _, S6, q6⟩ := hsp; exact endT S6 fun s7 J7 => ⟨_, _, J7, q6⟩
          | brk => obtain ⟨_, _, S6, q6⟩ := hsp; exact end_ S6 fun s7 J7 => ⟨_, _, J7, q6⟩
          | cont => obtain ⟨_, _, S6, q6⟩ := hsp; exact end_ S6 fun s7 J7 => ⟨_, _, J7, q6⟩
          | ret u => obtain ⟨_, _, _, S6, r6, q6⟩ := hsp; exact end_ S6 fun s7 J7 => ⟨_, _, _, J7, r6, q6⟩
        | false => exact ih g2 fl2 up2 (no rfl)
    exact go hh g0 fl0 (up.trans up0) wish
  · cases f with
    | next => obtain ⟨_, _, J', q⟩ := hsp; exact wpAny_execs_nil ⟨_, _, J'.ofTry ok, q⟩
    | brk => obtain ⟨_, _, J', q⟩ := hsp; exact ⟨_, _, J'.ofTry ok, q⟩
    | cont => obtain ⟨_, _, J', q⟩ := hsp; exact ⟨_, _, J'.ofTry ok, q⟩
    | ret u => obtain ⟨_, _, _, J', r, q⟩ := hsp; exact ⟨_, _, _, J'.ofTry ok, r, q⟩
end
end My
set_option Elab.async false
set_option linter.all false
set_option maxRecDepth 100000
set_option maxHeartbeats 4000000
/-! a kept error: isinstance of it, its fields -/
namespace My
open PySem PySem.Spec PyProof.Rows L2
/-- what an own class of errors must say, so that isinstance asks its instances rightly -/
structure XC (K : PySem.W.Frag) (C : Addr) : Prop where
  hc : (PySem.W.clsIn K C).isSome = true
  ga : PySem.W.findIn K (.ref C) "__getattribute__" = some (some (.builtin "BaseException.__getattribute__"))
  gt : PySem.W.findIn K (.ref C) "__getattr__" = some none
  sb : PySem.W.subIn K (.ref C) (.type "BaseException") = some true
  ha : PySem.W.findIn K (.ref C) "__class__" = some (some (.builtin "object.__class__"))
  hn : PySem.W.specialIn K (.builtin "object.__class__") "__get__" = some (some (.builtin "getset_descriptor.__get__"))
  ht : PySem.W.takesIn K (.builtin "object.__class__") = some true
  hm : PySem.W.mroIn K C (.type "object") = some true
section
variable {X : Cx} {pins : List (Addr × Obj)} {σ : L2.St} {H : Hp} {s : Shared}
/-- the dict of a kept error is there -/
def DictAt (H : Hp) : Option Addr → Prop
  | none => True
  | some dd => ∃ fs, H dd = some (.xd fs)
theorem inst_of {a C : Addr} {d : Option Addr} (I : Inv X pins σ H s) (h : H a = some (XO (.ref C) d a)) (hd : DictAt H d) : ∃ ox od, PySem.W.InstAt s.heap a ox C od := by
  have hx : ObjOk X.prog X.w H s.heap a (XO (.ref C) d a) := I.hok a _ h
  obtain ⟨⟨oe, vs, h1, ⟨h2, h3⟩, h4⟩, _, _⟩ := hx
  cases d with
  | none => exact ⟨oe, none, h1, h2, by unfold PySem.W.notCls; rw [h4] <;> rfl, by rw [h3]; trivial⟩
  | some dd =>
    obtain ⟨fs, e⟩ := hd
    have hx2 : ObjOk X.prog X.w H s.heap dd (.xd fs) := I.hok dd _ e
    obtain ⟨mA, hns, _⟩ := hx2
    obtain ⟨od, ho, _⟩ := lookIn_ns hns
    exact ⟨oe, some od, h1, h2, by unfold PySem.W.notCls; rw [h4] <;> rfl, by rw [h3]; exact ho⟩
/-- isinstance(kept, c) -/
def rIsX (K : PySem.W.Frag) : List V → Hp → VK → Prop := fun xs H Q => ∃ (a C : Addr) (d : Option Addr) (c : V) (cv : Value) (b : Bool), xs = [.ref a, c] ∧ H a = some (XO (.ref C) d a) ∧ DictAt H d ∧ XC K C ∧ (∀ u, RelV c u → u = cv) ∧ PySem.W.kitOne K (.ref C) cv = some b ∧ Q (.bl b) H
theorem call_isX : CallR X (.builtin "isinstance") (rIsX X.K) := by
  intro pins s σ H xs us Q I r h
  obtain ⟨a, C, d, c, cv, b, rfl, ha, hd, T, hcv, e, q⟩ := h
  obtain ⟨u1, u2, rfl, r1, r2⟩ := vals2 r
  cases (show u1 = Value.ref a from r1)
  cases hcv _ r2
  obtain ⟨ox, od, J⟩ := inst_of I ha hd
  exact PySem.W.kia_one (PySem.W.kitx_exc (od := od) T.hc T.ga T.gt T.sb T.ha T.hn T.ht T.hm) I.kIn J e (fun z => nomatch z) fun tk => ⟨.bl b, H, I.tok tk, rfl, q⟩
/-- isinstance(kept, (c1, c2, ..)) -/
def rIsXT (K : PySem.W.Frag) : List V → Hp → VK → Prop := fun xs H Q => ∃ (a C : Addr) (d : Option Addr) (tp : Addr) (cs : List V) (ws : List Value) (b : Bool), xs = [.ref a, .ref tp] ∧ H a = some (XO (.ref C) d a) ∧ DictAt H d ∧ XC K C ∧ H tp = some (.tup cs) ∧ (∀ us, Vals cs us → us = ws) ∧ PySem.W.kitAny K (.ref C) ws = some b ∧ Q (.bl b) H
theorem call_isXT : CallR X (.builtin "isinstance") (rIsXT X.K) := by
  intro pins s σ H xs us Q I r h
  obtain ⟨a, C, d, tp, cs, ws, b, rfl, ha, hd, T, hT, hcv, e, q⟩ := h
  obtain ⟨u1, u2, rfl, r1, r2⟩ := vals2 r
  cases (show u1 = Value.ref a from r1)
  cases (show u2 = Value.ref tp from r2)
  obtain ⟨ox, od, J⟩ := inst_of I ha hd
  obtain ⟨_, its, rv, o, h1, h2, n, h3⟩ := (show ObjOk X.prog X.w H s.heap tp (.tup cs) from I.hok tp _ hT)
  cases hcv _ rv
  obtain ⟨oc, oo, dt, sl⟩ := o
  simp only at h2 h3
  subst h2 h3
  exact PySem.W.kia_tup (PySem.W.kitx_exc (od := od) T.hc T.ga T.gt T.sb T.ha T.hn T.ht T.hm) I.kIn J h1 e (fun z => nomatch z) fun tk => ⟨.bl b, H, I.tok tk, rfl, q⟩
/-- kept.f -/
def tXk (K : PySem.W.Frag) (f : Str) (te : TE) : TE := fun σ H Q => te σ H fun x H1 => ∃ (a C dd : Addr) (fs : List (Str × V)) (v : V), x = .ref a ∧ H1 a = some (XO (.ref C) (some dd) a) ∧ H1 dd = some (.xd fs) ∧ fs.lookup f = some v ∧ XfC K C ∧ PySem.W.findIn K (.ref C) f = some none ∧ Q v H1
theorem pe_xk {e : Expr} {te : TE} {pos : Pos} {n : Str} (he : PE X e te) (hb : attributeBase e n X.env (eval e X.env) = eval e X.env := by rfl) : PE X (.Attribute e n pos) (tXk X.K n te) := by
  refine ⟨fun pins s σ H Q I h => ?_⟩
  refine attr_of hb (thn (he.run pins s σ H _ I h) fun u s1 hh => ?_)
  obtain ⟨x, H1, I1, rx, a, C, dd, fs, v, ex, ha, ed, l, T, hno, q⟩ := hh
  subst ex
  cases (show u = Value.ref a from rx)
  have hx : ObjOk X.prog X.w H1 s1.heap a (XO (.ref C) (some dd) a) := I1.hok a _ ha
  obtain ⟨⟨oe, vs, h1, ⟨h2, h3⟩, h4⟩, _, _⟩ := hx
  have hx2 : ObjOk X.prog X.w H1 s1.heap dd (.xd fs) := I1.hok dd _ ed
  obtain ⟨mA, hns, hr⟩ := hx2
  obtain ⟨od, ho, hl⟩ := lookIn_ns hns
  obtain ⟨u, hu, ru⟩ := RelO.some_of (v := v) (o := mA n) (by rw [← l]; exact hr n)
  have J : PySem.W.InstAt s1.heap a oe C (some od) := ⟨h1, h2, by unfold PySem.W.notCls; rw [h4] <;> rfl, by rw [h3]; exact ho⟩
  exact HandSPX.exc_get I1.kIn J T.ga T.gg T.exC (PySem.W.findObj_own T.hdC hno rfl (by rw [hl, hu])) (handed_of ru) ⟨v, H1, I1.tok _, ru, q⟩
end
end My
set_option Elab.async false
set_option linter.all false
set_option maxRecDepth 100000
set_option maxHeartbeats 4000000
/-! _law_family_told of k82: what a call that may raise InvalidFamily makes of it -/
namespace My
open PySem PySem.Spec PyProof.Rows L2 LamX
/-- isinstance(e, c) in the suite that holds e, with its dict -/
def rIsSD (K : PySem.W.Frag) (cls : Value) (d : Option Addr) (a : Addr) : List V → Hp → VK → Prop := fun xs H Q => ∃ (D : Addr) (c : V) (cv : Value) (b : Bool), xs = [.ref a, c] ∧ cls = .ref D ∧ DictAt H d ∧ XC K D ∧ (∀ u, RelV c u → u = cv) ∧ PySem.W.kitOne K (.ref D) cv = some b ∧ Q (.bl b) H
theorem call_isSD {X : Cx} {a : Addr} {oe : Obj} {cls : Value} {d : Option Addr} {pn : List (Addr × Obj)} (hz : Zc cls d oe) (hf : ∃ vs, oe.data = .fields vs) : CallR (X.suite a ((a, oe) :: pn)) (.builtin "isinstance") (rIsSD X.K cls d a) := by
  intro pins s σ H xs us Q I r h
  obtain ⟨D, c, cv, b, rfl, rfl, hd, T, hcv, e, q⟩ := h
  obtain ⟨u1, u2, rfl, r1, r2⟩ := vals2 r
  cases (show u1 = Value.ref a from r1)
  cases hcv _ r2
  obtain ⟨hget, _⟩ := I.pin (a, oe) (List.mem_append.mpr (.inl List.mem_cons_self))
  obtain ⟨vs, hv⟩ := hf
  obtain ⟨od, J⟩ : ∃ od, PySem.W.InstAt s.heap a oe D od := by
    cases d with
    | none => exact ⟨none, hget, hz.1, by unfold PySem.W.notCls; rw [hv] <;> rfl, by rw [hz.2]; trivial⟩
    | some dd =>
      obtain ⟨fs, e⟩ := hd
      have hx2 : ObjOk X.prog X.w H s.heap dd (.xd fs) := I.hok dd _ e
      obtain ⟨mA, hns, _⟩ := hx2
      obtain ⟨od, ho, _⟩ := lookIn_ns hns
      exact ⟨some od, hget, hz.1, by unfold PySem.W.notCls; rw [hv] <;> rfl, by rw [hz.2]; exact ho⟩
  exact PySem.W.kia_one (PySem.W.kitx_exc (od := od) T.hc T.ga T.gt T.sb T.ha T.hn T.ht T.hm) I.kIn J e (fun z => nomatch z) fun tk => ⟨.bl b, H, I.tok tk, rfl, q⟩
/-- the classes of errors that the law names -/
structure RefF (K : PySem.W.Frag) (mg : Str → Option Value) (CF CL CW CN : Addr) : Prop where
  gF : mg "InvalidFamily" = some (.ref CF)
  gL : mg "InvalidLayout" = some (.ref CL)
  gW : mg "OtherWagons" = some (.ref CW)
  gN : mg "InvalidNumber" = some (.ref CN)
  gV : mg "ValueError" = none
  xF : XC K CF
  fF : XfC K CF
  nF : PySem.W.findIn K (.ref CF) "value" = some none
  eL : PySem.W.exmAny K (.ref CF) [.ref CL] = some false
  eW : PySem.W.exmAny K (.ref CF) [.ref CW] = some false
  eN : PySem.W.exmAny K (.ref CF) [.ref CN] = some false
  eF : PySem.W.exmAny K (.ref CF) [.ref CF] = some true
  vF : PySem.W.kitOne K (.ref CF) (.type "ValueError") = some true
/-- a value that is shown: its data -/
structure Shw (K : PySem.W.Frag) (H : Hp) (v : V) (dt : PyData) : Prop where
  da : ∃ p, Da K p H v dt
  sh : dt.showable = true
  dp : dt.depth ≤ 60
  sz : dt.shown.length ≤ sizeLine
theorem Shw.keep {K : PySem.W.Frag} {H H' : Hp} {v : V} {dt : PyData} (h : Shw K H v dt) (s : Same H H') : Shw K H' v dt := ⟨let ⟨p, q⟩ := h.da; ⟨p, da_keep s.keepA q⟩, h.sh, h.dp, h.sz⟩
/-- the refusal that is told of an error -/
def RefE (K : PySem.W.Frag) (CF : Addr) (Q : VK) : XK := fun cls d H => ∃ dd v dt, cls = .ref CF ∧ d = some dd ∧ H dd = some (.xd [("value", v)]) ∧ Shw K H v dt ∧ ∀ t H', Same H H' → H' t = some (.tup [.str "family", .str dt.shown, .bl true]) → Q (.ref t) H'
def TTFam (K : PySem.W.Frag) (CF : Addr) : (XK → Hp → VK → Prop) → Hp → VK → Prop := fun tl H Q => ∀ Q' : VK, (∀ v H1, (∀ t, H1 t = none → Q (.ref t) (upd H1 t (.tup [.str "made", v]))) → Q' v H1) → tl (RefE K CF Q) H Q'
theorem boot_ve : bootBuiltins "ValueError" = some (.type "ValueError") := by decide +kernel
theorem told_gives {X : Cx} {g CF CL CW CN : Addr} {cdg : Value} {q : Str} (R : RefF X.K X.mg CF CL CW CN) (mi : X.mg "isinstance" = none) (mr : X.mg "repr" = none) (st : Still X.A) (hr : Room 1 X.A) :
    GivesTo X ["call", "e"] "_law_family_told" (defScope sLFamilyTold) g cdg (defBody sLFamilyTold) "call" q (TTFam X.K CF) := by
  intro f c' s H Q tl act hc h
  refine ⟨_, pss_one (ps_try_kept (X := (cxOf C8.CX0 X.prog X.w X.K X.mg X.base ["call", "e"] "_law_family_told" (defScope sLFamilyTold) g cdg X.A X.stack s H C8.E0).nox)
        (tb := fun W D σ H => ∃ Ech : XK, (∀ cls d σ' H', Ech cls d H' → W cls d σ' H') ∧ σ[0]? = some (some (.ref f)) ∧ H c' = some (CodeO c' q) ∧ tl Ech H (fun v H1 => 2 ≤ sizeLine ∧ ∀ t, H1 t = none → D.rt (.ref t) (upd H1 t (.tup [.str "made", v]))))
        rfl rfl rfl rfl scLFamilyTold.nd L2.takes0 (fun W pn xe tk _ => ?_)
        (.cons (i := 1) (tst1 ⟨by rfl, by decide, .inl R.gL⟩) rfl rfl (fun a oe cls d pn hz hf => pss_one ps_no)
        (.cons (i := 1) (tst1 ⟨by rfl, by decide, .inl R.gW⟩) rfl rfl (fun a oe cls d pn hz hf => pss_one ps_no)
        (.cons (i := 1) (tst1 ⟨by rfl, by decide, .inl R.gN⟩) rfl rfl (fun a oe cls d pn hz hf => pss_one ps_no)
        (.cons (i := 1) (tst1 ⟨by rfl, by decide, .inl R.gF⟩) rfl rfl (fun a oe cls d pn hz hf => pss_one (ps_ret (pe_tup (pa_cons pe_str
          (pa_cons (pe_callB (show CallR _ _ (rReprA X.K) from call_reprA (X := Cx.suite (cxOf C8.CX0 X.prog X.w X.K X.mg X.base ["call", "e"] "_law_family_told" (defScope sLFamilyTold) g cdg X.A X.stack s H C8.E0).nox a ((a, oe) :: pn)) (by exact st) (show _ + 64 < cLine from (hr.deeper (envOfC "_law_family_told" (defScope sLFamilyTold) s.heap.objs.size g cdg)).units)) (by rfl) mr boot_repr (pa_cons (pe_xf R.fF R.nF hz hf (pv 1)) pa_nil))
          (pa_cons (pe_callB (call_isSD hz hf) (by rfl) mi boot_isinstance (pa_cons (pv 1) (pa_cons (pe_bltn (v := .ty "ValueError") (by rfl) R.gV boot_ve rfl) pa_nil))) pa_nil)))))) .nil))))), ?_⟩
  · refine ⟨fun pins s' σ H' D I h' => ?_⟩
    obtain ⟨Ech, hW, h1, h2, h3⟩ := h'
    exact (pss_one (ps_ret (pe_tup (pa_cons pe_str (pa_cons (act W pn xe Ech _ _ tk hW) pa_nil))))).run pins s' σ H' D I ⟨h1, h2, h3⟩
  · refine ⟨RefE X.K CF Q, fun cls d σ' H' hE hl => ?_, rfl, hc, ?_⟩
    · match σ', hl with
      | [x0, x1], _ =>
        obtain ⟨dd, v, dt, rfl, rfl, ed, sv, k⟩ := hE
        refine ⟨false, R.eL, (fun z => nomatch z), fun _ => fun _ => ⟨false, R.eW, (fun z => nomatch z), fun _ => fun _ => ⟨false, R.eN, (fun z => nomatch z), fun _ => fun _ => ⟨true, R.eF, (fun _ a na => ?_), (fun z => nomatch z)⟩⟩⟩⟩
        obtain ⟨⟨p, da⟩, w1, w2, w3⟩ := id sv
        refine ⟨_, rfl, rfl, rfl, dd, _, v, rfl, ed, rfl, p, v, dt, rfl, da, w1, w2, w3, _, rfl, CF, .ty "ValueError", .type "ValueError", true, rfl, rfl, ⟨_, ed⟩, R.xF, fun u r => r, R.vF, by show 3 ≤ sizeLine; decide, fun t ht => ?_⟩
        exact k t _ (same_new ht) upd_same
    · exact h _ fun v H1 k => ⟨by decide, k⟩
end My
set_option Elab.async false
set_option linter.all false
set_option maxRecDepth 100000
set_option maxHeartbeats 4000000
/-! _law_leaves, _law_places -/
namespace My
open PySem PySem.Spec PyProof.Rows L2
theorem pe_no {X : Cx} {e : Expr} : PE X e (fun _ _ _ => False) := ⟨fun _ _ _ _ _ _ h => h.elim⟩
theorem isStr_sh (s : Shp) : isStr (shD s) = (match s with | .leaf _ => true | .two _ _ => false) := by cases s <;> rfl
section
variable {P : Program} {w : World} {K : PySem.W.Frag} {mg : Str → Option Value} {base : Heap}
theorem ok_lleaves {f : Addr} {fd : FuncData} (F : Fun K "_law_leaves" "_law_leaves" sLLeaves f fd) (B : Glb mg) (g : mg "_law_leaves" = some (.ref f)) (hk : PySem.W.keepIn K (.ref f) = true) (hb : Binds K fd ["shape"] []) :
    ∀ n, FnOk P w K mg base CX0 (n + 1) f fd ["shape"] (spLv K n)
  | 0 => by
    refine F.ok scLLeaves (fun vs H Q E h => ?_) (fun cdv A outer s H vs Q E hr h => ?_)
    · obtain ⟨p, v, s, rfl, _⟩ := h
      rfl
    · obtain ⟨p, v, s, rfl, D, hN, hd, h6, q⟩ := h
      refine ⟨_, pss_one (ps_ret (pe_ifExp (pt_val (pe_callB call_isi (by rfl) B.isi boot_isinstance (pa_cons (pv 0) (pa_cons (pe_bltn (v := .ty "str") (by rfl) B.str boot_str rfl) pa_nil)))) (pe_lst (pa_cons (pv 0) pa_nil)) pe_no)), ?_⟩
      refine ⟨_, rfl, v, _, _, _, _, rfl, .ty _, da_ty D, kit_ty (kit_str _), _, rfl, ?_⟩
      rw [isStr_sh]
      cases s with
      | two a b =>
        have hd : 1 + max (dpS a) (dpS b) ≤ 0 := hd
        omega
      | leaf x =>
        cases D
        refine iteT ⟨_, rfl, by show 1 ≤ sizeLine; decide, fun l hl => ?_⟩
        exact q l _ hl upd_same (same_new hl)
  | n + 1 => by
    refine F.ok scLLeaves (fun vs H Q E h => ?_) (fun cdv A outer s H vs Q E hr h => ?_)
    · obtain ⟨p, v, s, rfl, _⟩ := h
      rfl
    · obtain ⟨p, v, s, rfl, D, hN, hd, h6, q⟩ := h
      refine ⟨_, pss_one (ps_ret (pe_ifExp (pt_val (pe_callB call_isi (by rfl) B.isi boot_isinstance (pa_cons (pv 0) (pa_cons (pe_bltn (v := .ty "str") (by rfl) B.str boot_str rfl) pa_nil)))) (pe_lst (pa_cons (pv 0) pa_nil))
        (pe_op op_cat (pe_call (ok_lleaves F B g hk hb n) hr (by rfl) g hk hb .nil pass0 (pa_cons (pe_ix ix_tup (pv 0) pe_int (fun _ _ => rfl)) pa_nil)) (pe_call (ok_lleaves F B g hk hb n) hr (by rfl) g hk hb .nil pass0 (pa_cons (pe_ix ix_tup (pv 0) pe_int (fun _ _ => rfl)) pa_nil))))), ?_⟩
      refine ⟨_, rfl, v, _, _, _, _, rfl, .ty _, da_ty D, kit_ty (kit_str _), _, rfl, ?_⟩
      rw [isStr_sh]
      cases s with
      | leaf x =>
        cases D
        refine iteT ⟨_, rfl, by show 1 ≤ sizeLine; decide, fun l hl => ?_⟩
        exact q l _ hl upd_same (same_new hl)
      | two a b =>
        have hd : 1 + max (dpS a) (dpS b) ≤ n + 1 := hd
        have new : ∀ {H2 : Hp} {l : Addr}, Same H H2 → H2 l = none → H l = none := fun s2 h => Option.eq_none_iff_forall_ne_some.mpr fun o e => by rw [s2 _ _ e] at h; cases h
        obtain ⟨t, x, y, rfl, ht, Dx, Dy⟩ := da_two D
        refine iteF ⟨_, rfl, t, _, 0, x, rfl, rfl, ht, atI_nat (j := 0) rfl, p, x, a, rfl, Dx, hN.1, by omega, by omega, fun l1 H2 n1 e1 s2 => ?_⟩
        refine ⟨_, rfl, t, _, 1, y, rfl, rfl, s2.keeps.t _ _ ht, atI_nat (j := 1) rfl, p, y, b, rfl, da_keep s2.keepA Dy, hN.2, by omega, by omega, fun l2 H3 n2 e2 s3 => ?_⟩
        have c1 := lv_len a n (by omega)
        have c2 := lv_len b n (by omega)
        have c3 : 2 ^ n ≤ 2 ^ 6 := Nat.pow_le_pow_right (by decide) (by omega)
        refine ⟨l1, l2, _, _, rfl, rfl, s3 _ _ e1, e2, by rw [List.length_map, List.length_map]; exact Evl.sz_of (show _ ≤ 100000 by omega), fun l3 hl3 => ?_⟩
        have S3 := s2.trans s3
        refine q l3 _ (new S3 hl3) ?_ (S3.trans (same_new hl3))
        rw [upd_same]
        show some (HO.lst _) = some (HO.lst ((lvS a ++ lvS b).map V.str))
        rw [List.map_append]
theorem ok_lplaces {f : Addr} {fd : FuncData} (F : Fun K "_law_places" "_law_places" sLPlaces f fd) (B : Glb mg) (g : mg "_law_places" = some (.ref f)) (hk : PySem.W.keepIn K (.ref f) = true) (hb : Binds K fd ["shape"] []) :
    ∀ n, FnOk P w K mg base CX0 (n + 1) f fd ["shape"] (spPc K n)
  | 0 => by
    refine F.ok scLPlaces (fun vs H Q E h => ?_) (fun cdv A outer s H vs Q E hr h => ?_)
    · obtain ⟨p, v, s, rfl, _⟩ := h
      rfl
    · obtain ⟨p, v, s, rfl, D, hN, hd, h6, q⟩ := h
      refine ⟨_, pss_cons (ps_if (pt_val (pe_callB call_isi (by rfl) B.isi boot_isinstance (pa_cons (pv 0) (pa_cons (pe_bltn (v := .ty "str") (by rfl) B.str boot_str rfl) pa_nil)))) (pss_one (ps_ret (pe_lst pa_nil))) pss_nil) (pss_one ps_no), ?_⟩
      refine ⟨_, rfl, v, _, _, _, _, rfl, .ty _, da_ty D, kit_ty (kit_str _), _, rfl, ?_⟩
      rw [isStr_sh]
      cases s with
      | two a b =>
        have hd : 1 + max (dpS a) (dpS b) ≤ 0 := hd
        omega
      | leaf x =>
        refine iteT ⟨by show 0 ≤ sizeLine; decide, fun l hl => ?_⟩
        exact q l [] _ hl upd_same .nil (same_new hl)
  | n + 1 => by
    refine F.ok scLPlaces (fun vs H Q E h => ?_) (fun cdv A outer s H vs Q E hr h => ?_)
    · obtain ⟨p, v, s, rfl, _⟩ := h
      rfl
    · obtain ⟨p, v, s, rfl, D, hN, hd, h6, q⟩ := h
      refine ⟨_, pss_cons (ps_if (pt_val (pe_callB call_isi (by rfl) B.isi boot_isinstance (pa_cons (pv 0) (pa_cons (pe_bltn (v := .ty "str") (by rfl) B.str boot_str rfl) pa_nil)))) (pss_one (ps_ret (pe_lst pa_nil))) pss_nil)
        (pss_one (ps_ret (pe_op op_cat (pe_op op_cat (pe_lst (pa_cons (pv 0) pa_nil)) (pe_call (ok_lplaces F B g hk hb n) hr (by rfl) g hk hb .nil pass0 (pa_cons (pe_ix ix_tup (pv 0) pe_int (fun _ _ => rfl)) pa_nil))) (pe_call (ok_lplaces F B g hk hb n) hr (by rfl) g hk hb .nil pass0 (pa_cons (pe_ix ix_tup (pv 0) pe_int (fun _ _ => rfl)) pa_nil))))), ?_⟩
      refine ⟨_, rfl, v, _, _, _, _, rfl, .ty _, da_ty D, kit_ty (kit_str _), _, rfl, ?_⟩
      rw [isStr_sh]
      cases s with
      | leaf x =>
        refine iteT ⟨by show 0 ≤ sizeLine; decide, fun l hl => ?_⟩
        exact q l [] _ hl upd_same .nil (same_new hl)
      | two a b =>
        have hd : 1 + max (dpS a) (dpS b) ≤ n + 1 := hd
        have new : ∀ {H2 : Hp} {l : Addr}, Same H H2 → H2 l = none → H l = none := fun s2 h => Option.eq_none_iff_forall_ne_some.mpr fun o e => by rw [s2 _ _ e] at h; cases h
        obtain ⟨t, x, y, rfl, ht, Dx, Dy⟩ := da_two D
        refine iteF ⟨_, rfl, by show 1 ≤ sizeLine; decide, fun l0 hl0 => ?_⟩
        have s0 := same_new (o := HO.lst [.ref t]) hl0
        have e0 : upd H l0 (HO.lst [.ref t]) l0 = some (HO.lst [.ref t]) := upd_same
        have ht := s0.keeps.t _ _ ht
        have Dx := da_keep s0.keepA Dx
        have Dy := da_keep s0.keepA Dy
        have D1 := da_keep s0.keepA D
        generalize upd H l0 (HO.lst [.ref t]) = H2 at s0 e0 Dx Dy D1 ht
        refine ⟨_, rfl, t, _, 0, x, rfl, rfl, ht, atI_nat (j := 0) rfl, p, x, a, rfl, Dx, hN.1, by omega, by omega, fun l1 us1 H3 n1 e1 d1 s2 => ?_⟩
        have c1 := lv_len a n (by omega)
        have c2 := lv_len b n (by omega)
        have c3 : 2 ^ n ≤ 2 ^ 6 := Nat.pow_le_pow_right (by decide) (by omega)
        have p1 := plc_len a
        have p2 := plc_len b
        have k1 := d1.length
        rw [List.length_map] at k1
        refine ⟨l0, l1, _, _, rfl, rfl, s2 _ _ e0, e1, by exact Evl.sz_of (show 1 + us1.length ≤ 100000 by omega), fun l2 hl2 => ?_⟩
        have s3 := same_new (o := HO.lst ([V.ref t] ++ us1)) hl2
        have e2 : upd H3 l2 (HO.lst ([V.ref t] ++ us1)) l2 = some (HO.lst ([V.ref t] ++ us1)) := upd_same
        have ht := (s2.trans s3).keeps.t _ _ ht
        have D1 := da_keep (s2.trans s3).keepA D1
        have Dy := da_keep (s2.trans s3).keepA Dy
        have d1 := da_keepAll s3.keepA d1
        generalize upd H3 l2 (HO.lst ([V.ref t] ++ us1)) = H4 at s3 e2 Dy D1 d1 ht
        refine ⟨_, rfl, t, _, 1, y, rfl, rfl, ht, atI_nat (j := 1) rfl, p, y, b, rfl, Dy, hN.2, by omega, by omega, fun l3 us2 H5 n3 e3 d3 s4 => ?_⟩
        have k3 := d3.length
        rw [List.length_map] at k3
        refine ⟨l2, l3, _, _, rfl, rfl, s4 _ _ e2, e3, by rw [List.length_append]; exact Evl.sz_of (show 1 + us1.length + us2.length ≤ 100000 by omega), fun l4 hl4 => ?_⟩
        have s5 := same_new (o := HO.lst ([V.ref t] ++ us1 ++ us2)) hl4
        refine q l4 _ _ (new (((s0.trans s2).trans s3).trans s4) hl4) upd_same ?_ (((s0.trans s2).trans s3).trans (s4.trans s5))
        show DaAll K p _ ([V.ref t] ++ us1 ++ us2) ((Shp.two a b :: (plcS a ++ plcS b)).map shD)
        rw [List.map_cons, List.map_append]
        exact .cons (da_keep (s4.trans s5).keepA D1) ((da_keepAll (s4.trans s5).keepA d1).append (da_keepAll s5.keepA d3))
end
end My
set_option Elab.async false
set_option linter.all false
set_option maxRecDepth 100000
set_option maxHeartbeats 4000000
/-! _law_is_name of the laws k69 to k92 -/
namespace My
open PySem PySem.Spec PyProof.Rows L2
def oddsB (cs : List Nat) : List V := (cs.filter fun c => !lowC c).map fun c => V.str (sign c)
theorem oddsB_snoc (cs : List Nat) (c : Nat) : oddsB (cs ++ [c]) = oddsB cs ++ (if lowC c = true then [] else [.str (sign c)]) := by
  unfold oddsB
  rw [List.filter_append, List.map_append, List.filter_cons]
  cases lowC c <;> simp
theorem oddsB_nil : ∀ cs : List Nat, (oddsB cs).isEmpty = cs.all lowC
  | [] => rfl
  | c :: r => by
    unfold oddsB
    rw [List.filter_cons, List.all_cons, ← oddsB_nil r]
    cases h : lowC c <;> simp [oddsB]
theorem oddsB_len (cs : List Nat) : (oddsB cs).length ≤ cs.length := by
  unfold oddsB
  rw [List.length_map]
  exact List.length_filter_le _ _
section
variable {P : Program} {w : World} {K : PySem.W.Frag} {mg : Str → Option Value} {base : Heap}
theorem ok_lnameB {f : Addr} {fd : FuncData} (F : Fun K "_law_is_name" "_law_is_name" sLName f fd) (B : Glb mg) : FnOk P w K mg base CX0 1 f fd ["value"] (spIsName K) := by
  refine F.ok scLName (fun vs H Q E h => ?_) (fun cdv A outer s H vs Q E hr h => ?_)
  · obtain ⟨p, v, d, rfl, _⟩ := h
    rfl
  · obtain ⟨p, v, d, rfl, D, hx, q⟩ := h
    refine ⟨_, pss_cons (ps_set (i := 1) scLName.nd rfl (.inr rfl) pe_str)
      (pss_cons (ps_if (PW.pt (pw_or (pt_not (pt_val (pe_callB call_isi (by rfl) B.isi boot_isinstance (pa_cons (pv 0) (pa_cons (pe_bltn (v := .ty "str") (by rfl) B.str boot_str rfl) pa_nil)))))
        (pw_or1 (pt_not (pt_chain op_lt op_lt pe_int (pe_callB call_len (by rfl) B.len PySem.boot_len (pa_cons (pv 0) pa_nil)) pe_int))))) (pss_one (ps_ret pe_bl)) pss_nil)
      (pss_one (ps_ret (pe_cmpR (op_eqNil hr.units) (pe_lc (own := [("sign", 2)]) (g := gName 2) rfl scLName.nd (pi_str (pv 0))
        (blkOk_by (own := [("sign", 2)]) (N := ["value", "letters", "sign"]) (sc := defScope sLName) (by decide +kernel)) (fun _ _ _ _ _ => pg_name (i := 2) scLName.nd rfl (Or.inl rfl))
        (fun _ _ _ _ _ => pts_one (pt_cmpR op_notIn_sign (pv 2) (pv 1) (by rfl))) (fun _ _ _ _ _ => pv 2)) (pe_lst pa_nil) (nomark _))))), ?_⟩
    refine ⟨_, rfl, v, _, _, _, _, rfl, .ty _, da_ty D, kit_ty (kit_str d), _, rfl, ?_⟩
    cases hi : isStr d with
    | false =>
      refine iteT ?_
      rw [← nm_not hi]
      exact q H (.refl H)
    | true =>
      obtain ⟨x, rfl⟩ := str_case hi
      cases D
      have hxl := hx x rfl
      have e0 : nmD (.str x) = nmS x := rfl
      refine iteF ⟨_, rfl, .str x, x.length, rfl, ⟨Evl.sz_of hxl, rfl⟩, _, _, rfl, rfl, _, rfl, ?_⟩
      have e1 : decide ((0 : Int) < (x.length : Int)) = decide (1 ≤ x.length) := decide_eq_decide.mpr (by omega)
      have e2 : decide ((x.length : Int) < (9 : Int)) = decide (x.length ≤ 8) := decide_eq_decide.mpr (by omega)
      rw [e1]
      by_cases h1 : 1 ≤ x.length
      · rw [decide_eq_true h1]
        refine iteT ⟨_, _, rfl, rfl, _, rfl, ?_⟩
        rw [e2]
        by_cases h8 : x.length ≤ 8
        · rw [decide_eq_true h8]
          refine iteF ⟨_, rfl, x, rfl, fun Dl hD => ?_⟩
          refine lcT_str (x := x) (fun c => !lowC c) (fun i H' => H' Dl = some (.lst (oddsB (x.cps.toList.take i))) ∧ Same H H') ⟨upd_same, same_new hD⟩ (fun i c H' hc hp => ⟨rfl, fun R hR => ?_, fun hb => ?_, fun hb => ?_⟩) (fun H' hp => ?_)
          · refine ⟨_, rfl, _, rfl, c, abc, rfl, rfl, _, rfl, ?_⟩
            rw [mem_abc]
            exact hR
          · have hb' : lowC c = false := by simpa using hb
            refine ⟨_, rfl, _, hp.1, Evl.sz_lt ?_, ?_, fun b o e => ?_⟩
            · have := oddsB_len (x.cps.toList.take i)
              rw [List.length_take] at this
              have := str_len x
              omega
            · rw [upd_same, List.take_add_one, hc]
              show _ = some (HO.lst (oddsB (List.take i x.cps.toList ++ [c])))
              rw [oddsB_snoc, hb']
              rfl
            · rw [upd_ne (ne_of_none e hD)]
              exact hp.2 b o e
          · have hb' : lowC c = true := by simpa using hb
            refine ⟨?_, hp.2⟩
            rw [List.take_add_one, hc]
            show _ = some (HO.lst (oddsB (List.take i x.cps.toList ++ [c])))
            rw [oddsB_snoc, hb', if_pos rfl, List.append_nil]
            exact hp.1
          · obtain ⟨eD, sm⟩ := hp
            rw [str_len, List.take_length] at eD
            refine ⟨by show 0 ≤ sizeLine; decide, fun e he => ?_⟩
            have se := same_new (o := HO.lst []) he
            refine ⟨Dl, e, oddsB x.cps.toList, rfl, rfl, .inl ⟨.inl (.inl (se _ _ eD)), .inl (.inl upd_same)⟩, ?_⟩
            show Q (.bl (oddsB x.cps.toList).isEmpty) _
            rw [oddsB_nil, show x.cps.toList.all lowC = nmD (.str x) by rw [e0, nmS, decide_eq_true ⟨h1, h8⟩]; rfl]
            exact q _ (sm.trans se)
        · rw [decide_eq_false h8]
          refine iteT ?_
          rw [show false = nmD (.str x) by rw [e0, nmS, decide_eq_false fun z => h8 z.2]; rfl]
          exact q H (.refl H)
      · rw [decide_eq_false h1]
        refine iteF ⟨_, rfl, iteT ?_⟩
        rw [show false = nmD (.str x) by rw [e0, nmS, decide_eq_false fun z => h1 z.1]; rfl]
        exact q H (.refl H)
end
end My
set_option Elab.async false
set_option linter.all false
set_option maxRecDepth 100000
set_option maxHeartbeats 4000000
/-! _law_depth, _law_is_family -/
namespace My
open PySem PySem.Spec PyProof.Rows L2
theorem gm_itemD {w n : Nat} {ds : List PyData} (h : Gm w (n + 1) (.tuple ds)) {e : PyData} (he : e ∈ ds) : Gm w n e := by
  have g := gm_itemS h he
  refine ⟨g.sh, g.ls, g.wt, ?_⟩
  have := h.dp
  simp only [PyData.depth] at this
  exact (dAll_le (n := n)).mp (by omega) e he
open Classical in
/-- how deep a shape is, of any depth -/
noncomputable def dpD (d : PyData) : Option Nat := if h : ∃ s, d = shD s ∧ ShN s then some (dpS (Classical.choose h)) else none
open Classical in
theorem dp_yes {s : Shp} (h : ShN s) : dpD (shD s) = some (dpS s) := by
  have e : ∃ t, shD s = shD t ∧ ShN t := ⟨s, rfl, h⟩
  unfold dpD
  rw [dif_pos e, ← shD_inj (Classical.choose_spec e).1]
open Classical in
theorem dp_no {d : PyData} (h : ∀ s, d = shD s → ShN s → False) : dpD d = none := by
  unfold dpD
  rw [dif_neg fun ⟨s, a, b⟩ => h s a b]
open Classical in
theorem dp_some {d : PyData} {k : Nat} (h : dpD d = some k) : ∃ s, d = shD s ∧ ShN s ∧ dpS s = k := by
  by_cases e : ∃ t, d = shD t ∧ ShN t
  · obtain ⟨s, rfl, hs⟩ := e
    rw [dp_yes hs] at h
    exact ⟨s, rfl, hs, Option.some.inj h⟩
  · rw [dp_no fun s a b => e ⟨s, a, b⟩] at h
    cases h
def optV : Option Nat → V
  | none => .non
  | some k => .int (k : Int)
section
variable {P : Program} {w : World} {K : PySem.W.Frag} {mg : Str → Option Value} {base : Heap}
def spLDp (K : PySem.W.Frag) (n : Nat) : Sp := fun vs H Q _ => ∃ (p : Addr) (m : Nat) (v : V) (d : PyData), vs = [v] ∧ Da K p H v d ∧ Gm m n d ∧ m ≤ 10000 ∧ ∀ H', Same H H' → Q (optV (dpD d)) H'
theorem ok_ldepth {f f1 : Addr} {fd e1 : FuncData} (F : Fun K "_law_depth" "_law_depth" sLDepth f fd) (B : Glb mg) (mm : mg "max" = none) (g : mg "_law_depth" = some (.ref f)) (hk : PySem.W.keepIn K (.ref f) = true) (hb : Binds K fd ["shape"] []) (CN : Has P w K mg base 1 "_law_is_name" ["value"] (spIsName K) f1 e1) :
    ∀ n, FnOk P w K mg base CX0 (n + 2) f fd ["shape"] (spLDp K n)
  | 0 => by
    refine F.ok scLDepth (fun vs H Q E h => ?_) (fun cdv A outer s H vs Q E hr h => ?_)
    · obtain ⟨p, m, v, d, rfl, _⟩ := h
      rfl
    · obtain ⟨p, m, v, d, rfl, D, gm, hm, q⟩ := h
      refine ⟨_, pss_cons (ps_if (pt_val (pe_has CN hr (by rfl) (pa_cons (pv 0) pa_nil))) (pss_one (ps_ret pe_int)) pss_nil)
        (pss_cons (ps_if (PW.pt (pw_or (pt_not (pt_val (pe_callB call_isi (by rfl) B.isi boot_isinstance (pa_cons (pv 0) (pa_cons (pe_bltn (v := .ty "tuple") (by rfl) B.tuple boot_tuple rfl) pa_nil)))))
          (pw_or1 (pt_cmpR op_ne (pe_callB call_len (by rfl) B.len PySem.boot_len (pa_cons (pv 0) pa_nil)) pe_int (nomark _))))) (pss_one (ps_ret pe_non)) pss_nil)
        (pss_cons ps_no (pss_one ps_no))), ?_⟩
      refine ⟨_, rfl, p, v, d, rfl, D, gm_txt gm hm, fun H1 s1 => ⟨_, rfl, ?_⟩⟩
      cases hn : nmD d with
      | true =>
        obtain ⟨x, rfl⟩ : ∃ x, d = .str x := by cases d <;> first | exact ⟨_, rfl⟩ | cases hn
        exact iteT (by have e : dpD (.str x) = some 0 := dp_yes (s := .leaf x) hn; rw [e] at q; exact q H1 s1)
      | false =>
        have D1 := da_keep (p := p) s1.keepA D
        refine iteF ⟨_, rfl, v, _, _, _, _, rfl, .ty _, da_ty D1, kit_ty (kit_tuple d), _, rfl, ?_⟩
        cases hi : isTup d with
        | false =>
          have e : dpD d = none := dp_no fun s es hs => by
            subst es
            cases s with
            | leaf x => have hs : nmS x = true := hs; have hn : nmS x = false := hn; rw [hs] at hn; cases hn
            | two a b => cases hi
          rw [e] at q
          exact iteT (q H1 s1)
        | true =>
          obtain ⟨ds, rfl⟩ : ∃ ds, d = .tuple ds := by cases d <;> first | exact ⟨_, rfl⟩ | cases hi
          have := gm.dp
          simp only [PyData.depth] at this
          omega
  | n + 1 => by
    refine F.ok scLDepth (fun vs H Q E h => ?_) (fun cdv A outer s H vs Q E hr h => ?_)
    · obtain ⟨p, m, v, d, rfl, _⟩ := h
      rfl
    · obtain ⟨p, m, v, d, rfl, D, gm, hm, q⟩ := h
      have hr1 := hr.mono (show 1 ≤ n + 1 + 1 by omega)
      refine ⟨_, pss_cons (ps_if (pt_val (pe_has CN hr1 (by rfl) (pa_cons (pv 0) pa_nil))) (pss_one (ps_ret pe_int)) pss_nil)
        (pss_cons (ps_if (PW.pt (pw_or (pt_not (pt_val (pe_callB call_isi (by rfl) B.isi boot_isinstance (pa_cons (pv 0) (pa_cons (pe_bltn (v := .ty "tuple") (by rfl) B.tuple boot_tuple rfl) pa_nil)))))
          (pw_or1 (pt_cmpR op_ne (pe_callB call_len (by rfl) B.len PySem.boot_len (pa_cons (pv 0) pa_nil)) pe_int (nomark _))))) (pss_one (ps_ret pe_non)) pss_nil)
        (pss_cons (ps_par (i := 1) (j := 2) (by rfl) scLDepth.nd rfl rfl (by decide) rfl rfl (pa_cons (pe_call (ok_ldepth F B mm g hk hb CN n) hr (by rfl) g hk hb .nil pass0 (pa_cons (pe_ix ix_tup (pv 0) pe_int (fun _ _ => rfl)) pa_nil)) (pa_cons (pe_call (ok_ldepth F B mm g hk hb CN n) hr (by rfl) g hk hb .nil pass0 (pa_cons (pe_ix ix_tup (pv 0) pe_int (fun _ _ => rfl)) pa_nil)) pa_nil)) (by rfl))
        (pss_one (ps_ret (pe_ifExp (PW.pt (pw_or (pt_cmpR op_isN (pv 1) pe_non (nomark _)) (pw_or1 (pt_cmpR op_isN (pv 2) pe_non (nomark _))))) pe_non
          (pe_op op_add pe_int (pe_callB (call_max2 rfl) (by rfl) mm (by decide +kernel) (pa_cons (pv 1) (pa_cons (pv 2) pa_nil))))))))), ?_⟩
      refine ⟨_, rfl, p, v, d, rfl, D, gm_txt gm hm, fun H1 s1 => ⟨_, rfl, ?_⟩⟩
      cases hn : nmD d with
      | true =>
        obtain ⟨x, rfl⟩ : ∃ x, d = .str x := by cases d <;> first | exact ⟨_, rfl⟩ | cases hn
        exact iteT (by have e : dpD (.str x) = some 0 := dp_yes (s := .leaf x) hn; rw [e] at q; exact q H1 s1)
      | false =>
        have D1 := da_keep (p := p) s1.keepA D
        refine iteF ⟨_, rfl, v, _, _, _, _, rfl, .ty _, da_ty D1, kit_ty (kit_tuple d), _, rfl, ?_⟩
        cases hi : isTup d with
        | false =>
          have e : dpD d = none := dp_no fun s es hs => by
            subst es
            cases s with
            | leaf x => have hs : nmS x = true := hs; have hn : nmS x = false := hn; rw [hs] at hn; cases hn
            | two a b => cases hi
          rw [e] at q
          exact iteT (q H1 s1)
        | true =>
          obtain ⟨ds, rfl⟩ : ∃ ds, d = .tuple ds := by cases d <;> first | exact ⟨_, rfl⟩ | cases hi
          cases D1 with
          | @tup a xs _ hs hd =>
            have hl := hd.length
            refine iteF ⟨_, rfl, .ref a, xs.length, rfl, .inr ⟨_, hs, rfl⟩, rfl, _, rfl, ?_⟩
            by_cases h2 : ds.length = 2
            · rw [decide_eq_true (show V.int (xs.length : Int) = V.int 2 by congr 1; omega)]
              refine iteF ?_
              obtain ⟨d1, d2, rfl⟩ : ∃ d1 d2, ds = [d1, d2] := by
                match ds, h2 with
                | [x, y], _ => exact ⟨x, y, rfl⟩
              cases hd with
              | @cons x1 xr _ _ D1 hd =>
                cases hd with
                | @cons x2 xr _ _ D2 hd =>
                  cases hd
                  refine ⟨_, rfl, a, _, _, _, rfl, rfl, hs, atI_nat (j := 0) rfl, p, m, x1, d1, rfl, D1, gm_itemD gm List.mem_cons_self, hm, fun H2 s2 => ?_⟩
                  refine ⟨_, rfl, a, _, _, _, rfl, rfl, s2.keeps.t _ _ hs, atI_nat (j := 1) rfl, p, m, x2, d2, rfl, da_keep s2.keepA D2, gm_itemD gm (List.mem_cons_of_mem _ List.mem_cons_self), hm, fun H3 s3 => ?_⟩
                  have S3 := (s1.trans s2).trans s3
                  refine ⟨_, _, rfl, ?_⟩
                  have two : ∀ s, PyData.tuple [d1, d2] = shD s → ∃ a b, s = .two a b ∧ d1 = shD a ∧ d2 = shD b := fun s e => by
                    cases s with
                    | leaf x => cases e
                    | two a b =>
                      have e : PyData.tuple [d1, d2] = .tuple [shD a, shD b] := e
                      have e := PyData.tuple.inj e
                      exact ⟨a, b, rfl, (List.cons.inj e).1, (List.cons.inj (List.cons.inj e).2).1⟩
                  cases e1 : dpD d1 with
                  | none =>
                    have e : dpD (.tuple [d1, d2]) = none := dp_no fun s es hs => by
                      obtain ⟨a, b, rfl, rfl, rfl⟩ := two s es
                      rw [dp_yes hs.1] at e1
                      cases e1
                    rw [e] at q
                    exact ⟨_, rfl, rfl, _, rfl, iteT (q H3 S3)⟩
                  | some k1 =>
                    refine ⟨_, rfl, rfl, _, rfl, iteF ?_⟩
                    cases e2 : dpD d2 with
                    | none =>
                      have e : dpD (.tuple [d1, d2]) = none := dp_no fun s es hs => by
                        obtain ⟨a, b, rfl, rfl, rfl⟩ := two s es
                        rw [dp_yes hs.2] at e2
                        cases e2
                      rw [e] at q
                      exact ⟨_, rfl, rfl, _, rfl, iteT (q H3 S3)⟩
                    | some k2 =>
                      refine ⟨_, rfl, rfl, _, rfl, iteF ?_⟩
                      obtain ⟨s, rfl, hs1, rfl⟩ := dp_some e1
                      obtain ⟨t, rfl, ht1, rfl⟩ := dp_some e2
                      have e : dpD (.tuple [shD s, shD t]) = some (1 + max (dpS s) (dpS t)) := dp_yes (s := .two s t) ⟨hs1, ht1⟩
                      rw [e] at q
                      refine ⟨_, rfl, _, rfl, _, _, rfl, _, _, rfl, rfl, ?_⟩
                      have em : (1 : Int) + (if ((dpS t : Nat) : Int) > ((dpS s : Nat) : Int) then ((dpS t : Nat) : Int) else ((dpS s : Nat) : Int)) = ((1 + max (dpS s) (dpS t) : Nat) : Int) := by
                        split <;> omega
                      show Q (.int ((1 : Int) + (if ((dpS t : Nat) : Int) > ((dpS s : Nat) : Int) then ((dpS t : Nat) : Int) else ((dpS s : Nat) : Int)))) H3
                      rw [em]
                      exact q H3 S3
            · have e : dpD (.tuple ds) = none := dp_no fun s es hs => by
                cases s with
                | leaf x => cases es
                | two a b => exact h2 (by rw [PyData.tuple.inj es]; rfl)
              rw [e] at q
              rw [decide_eq_false (show ¬ V.int (xs.length : Int) = V.int 2 from fun z => h2 (by have := V.int.inj z; omega))]
              exact iteT (q H1 s1)
/-- _law_is_family -/
theorem ok_lisfam {N : Nat} {f f1 f2 : Addr} {fd e1 e2 : FuncData} (F : Fun K "_law_is_family" "_law_is_family" sLIsFamily f fd) (B : Glb mg) (h7 : 7 ≤ N + 2) (CD : Has P w K mg base (N + 2) "_law_depth" ["shape"] (spLDp K N) f1 e1) (CL : Has P w K mg base 7 "_law_leaves" ["shape"] (spLv K 6) f2 e2) :
    FnOk P w K mg base CX0 (N + 3) f fd ["shape"] (fun vs H Q _ => ∃ (p : Addr) (m : Nat) (v : V) (d : PyData), vs = [v] ∧ Da K p H v d ∧ Gm m N d ∧ m ≤ 10000 ∧ ∀ H', Same H H' → Q (.bl (famD d)) H') := by
  refine F.ok scLIsFamily (fun vs H Q E h => ?_) (fun cdv A outer s H vs Q E hr h => ?_)
  · obtain ⟨p, m, v, d, rfl, _⟩ := h
    rfl
  · obtain ⟨p, m, v, d, rfl, D, gm, hm, q⟩ := h
    have hr7 := hr.mono (show 7 ≤ N + 2 by omega)
    refine ⟨_, pss_cons (ps_set (i := 1) scLIsFamily.nd rfl (.inl rfl) (pe_has CD hr (by rfl) (pa_cons (pv 0) pa_nil)))
      (pss_cons (ps_if (PW.pt (pw_or (pt_cmpR op_isN (pv 1) pe_non (nomark _)) (pw_or1 (pt_cmpR op_gt (pv 1) pe_int (nomark _))))) (pss_one (ps_ret pe_bl)) pss_nil)
      (pss_cons (ps_set (i := 2) scLIsFamily.nd rfl (.inl rfl) (pe_has CL hr7 (by rfl) (pa_cons (pv 0) pa_nil)))
      (pss_one (ps_ret (pe_and (pe_cmpR op_lt (pe_callB call_len (by rfl) B.len PySem.boot_len (pa_cons (pv 2) pa_nil)) pe_int (nomark _))
        (pe_one (pe_cmpR op_eq (pe_callB call_len (by rfl) B.len PySem.boot_len (pa_cons (pv 2) pa_nil)) (pe_callB call_lenK (by rfl) B.len PySem.boot_len (pa_cons (pe_callTy (call_setOf rfl) (by rfl) B.set (by decide +kernel) (pa_cons (pv 2) pa_nil)) pa_nil)) (nomark _)))))))), ?_⟩
    refine ⟨_, rfl, p, m, v, d, rfl, D, gm, hm, fun H1 s1 => ?_⟩
    cases e : dpD d with
    | none =>
      have ef : famD d = false := by
        cases hf : famD d with
        | false => rfl
        | true =>
          obtain ⟨s, rfl, fs⟩ := fam_shp hf
          rw [dp_yes fs.nm] at e
          cases e
      rw [ef] at q
      exact ⟨_, rfl, rfl, _, rfl, iteT (q H1 s1)⟩
    | some k =>
      obtain ⟨z, rfl, zn, rfl⟩ := dp_some e
      refine ⟨_, rfl, rfl, _, rfl, iteF ⟨_, rfl, _, _, rfl, rfl, _, rfl, ?_⟩⟩
      by_cases zd : dpS z ≤ 6
      · rw [decide_eq_false (show ¬ (6 : Int) < ((dpS z : Nat) : Int) by omega)]
        refine iteF ⟨_, rfl, p, v, z, rfl, da_keep s1.keepA D, zn, zd, Nat.le_refl _, fun l H2 nl el s2 => ?_⟩
        have c1 := lv_len z 6 zd
        have c1 : (lvS z).length ≤ 64 := c1
        have hl : SqL K H2 l ((lvS z).map V.str) := .inl (.inl el)
        refine ⟨_, rfl, .ref l, (lvS z).length, rfl, .inl ⟨_, hl, by rw [List.length_map]⟩, _, _, rfl, rfl, _, rfl, ?_⟩
        by_cases h16 : (lvS z).length ≤ 16
        · rw [decide_eq_true (show (((lvS z).length : Nat) : Int) < 17 by omega)]
          have ek : (lvS z).map V.str = ((lvS z).map (Sum.inr : Str → Key)).map kV := by rw [List.map_map]; rfl
          refine iteT ⟨_, rfl, .ref l, (lvS z).length, rfl, .inl ⟨_, hl, by rw [List.length_map]⟩, _, rfl, l, (lvS z).map (Sum.inr : Str → Key), rfl, ?_, by rw [List.length_map]; omega, fun ps hps => ?_⟩
          · rw [ek] at el
            exact .inl (.inl (.inl el))
          have few := len_metK_le ((lvS z).map (Sum.inr : Str → Key)) []
          rw [List.length_map, List.length_nil] at few
          have s4 := same_new (o := SetK P w ps (inK (metK [] ((lvS z).map (Sum.inr : Str → Key)))) (metK [] ((lvS z).map (Sum.inr : Str → Key))).length) hps
          refine ⟨ps, _, _, rfl, upd_same, by omega, rfl, ?_⟩
          have ee : decide (V.int ((lvS z).length : Int) = V.int ((metK [] ((lvS z).map (Sum.inr : Str → Key))).length : Int)) = famD (shD z) := by
            rw [show decide (V.int ((lvS z).length : Int) = V.int ((metK [] ((lvS z).map (Sum.inr : Str → Key))).length : Int)) = decide ((metK [] ((lvS z).map (Sum.inr : Str → Key))).length = (lvS z).length) from decide_eq_decide.mpr ⟨fun h => by have := V.int.inj h; omega, fun h => by rw [h]⟩, str_nodup]
            by_cases nd : (lvS z).Nodup
            · rw [decide_eq_true nd, fam_yes ⟨zn, zd, h16, nd⟩]
            · rw [decide_eq_false nd, fam_no fun f => nd f.nd]
          rw [ee]
          exact q _ ((s1.trans s2).trans s4)
        · rw [decide_eq_false (show ¬ (((lvS z).length : Nat) : Int) < 17 by omega)]
          refine iteF ?_
          rw [fam_no fun f => h16 f.few] at q
          exact q _ (s1.trans s2)
      · rw [decide_eq_true (show (6 : Int) < ((dpS z : Nat) : Int) by omega)]
        rw [fam_no fun f => zd f.dp] at q
        exact iteT (q H1 s1)
end
end My
set_option Elab.async false
set_option linter.all false
set_option maxRecDepth 100000
set_option maxHeartbeats 4000000
/-! sorted(list), a < b, a == b of tuples (of tuples ..) that are alike -/
namespace My
open PySem PySem.Spec PyProof.Rows L2
open PySem.W (Datum DatumOrd EachIs)
section
variable {α : Type} [DecidableEq α] [DatumOrd α]
abbrev leO (a b : α) : Bool := !DatumOrd.lt b a
abbrev sortO (xs : List α) : List α := xs.mergeSort leO
theorem leO_eq : PySem.W.dataLe false (fun b : α => Datum.toD b) = leO := by
  funext a b
  rw [PySem.W.dataLe_eq]
  show (!PySem.W.dataLt (Datum.toD b) (Datum.toD a)) = _
  rw [DatumOrd.lt_eq]
theorem leO_total : PySem.W.TotalLe (leO (α := α)) := by
  rw [← leO_eq]
  exact PySem.W.sortLe_total _ _ _
end
/-- a value that stands for x -/
abbrev Hd1 {α : Type} [DecidableEq α] [Datum α] (K : PySem.W.Frag) (H : Hp) (v : V) (x : α) : Prop := Dt K H v (Datum.toD x)
abbrev HdAll {α : Type} [DecidableEq α] [Datum α] (K : PySem.W.Frag) (H : Hp) (vs : List V) (xs : List α) : Prop := DtAll K H vs (xs.map Datum.toD)
section
variable {X : Cx} {α : Type} [DecidableEq α] [DatumOrd α]
def rSortD (α : Type) [DecidableEq α] [DatumOrd α] (K : PySem.W.Frag) : List V → Hp → VK → Prop := fun xs H Q => ∃ (a : Addr) (vs : List V) (bs : List α), xs = [.ref a] ∧ SqL K H a vs ∧ HdAll K H vs bs ∧ bs.length ≤ 1000 ∧
  ∀ (p : Addr) (ws : List V), H p = none → HdAll K H ws (sortO bs) → Q (.ref p) (upd H p (.lst ws))
theorem each_vals {pins : List (Addr × Obj)} {σ : L2.St} {H : Hp} {s : Shared} (I : Inv X pins σ H s) : ∀ {bs : List α} {vs : List V} {its : List Value}, Vals vs its → HdAll X.K H vs bs →
    EachIs (fun v b => ∃ x, RelV x v ∧ Hd1 X.K H x b) its bs ∧ EachIs (fun v b => ∃ as, Reads s.heap v (Datum.toD b) as) its bs
  | [], _, _, r, h => by
    cases h
    cases r
    exact ⟨.nil, .nil⟩
  | b :: bs, _, _, r, h => by
    cases h with
    | cons h1 h2 =>
      cases r with
      | cons r1 r2 =>
        obtain ⟨e1, e2⟩ := each_vals I r2 h2
        exact ⟨.cons ⟨_, r1, h1⟩ e1, .cons (Dp.reads I _ _ _ (dt_dp h1) r1) e2⟩
theorem vals_each {K : PySem.W.Frag} {H : Hp} : ∀ {bs : List α} {out : List Value}, EachIs (fun v b => ∃ x, RelV x v ∧ Hd1 K H x b) out bs → ∃ ws : List V, Vals ws out ∧ HdAll K H ws bs
  | _, _, .nil => ⟨[], .nil, .nil⟩
  | _, _, .cons h r => by
    obtain ⟨x, rx, hx⟩ := h
    obtain ⟨ws, h1, h2⟩ := vals_each r
    exact ⟨x :: ws, .cons rx h1, .cons hx h2⟩
theorem call_sortD (hs : ∀ b : α, ∃ x r, Datum.toD b = .tuple (x :: r)) (hu : X.A.units + 2 + Datum.depth α < cLine) : CallR X (.builtin "sorted") (rSortD α X.K) := by
  intro pins s σ H xs us Q I rv h
  obtain ⟨a, vs, bs, rfl, hl, hb, few, q⟩ := h
  obtain ⟨its, rr, il, hz⟩ := I.list hl
  rw [Vals.ref1 rv]
  obtain ⟨e1, e2⟩ := each_vals I rr hb
  refine PySem.W.sorted_data (R := fun v b => ∃ x, RelV x v ∧ Hd1 X.K H x b) (enc := fun b : α => Datum.toD b) il.isList e1 e2 (PySem.W.AllAlike.of fun b b' => DatumOrd.alike b b') (PySem.W.Sortable.tuples hs) (by rw [sizeLine_eq]; omega)
    (fun b _ => Nat.lt_of_le_of_lt (Nat.add_le_add_left (Datum.depth_le b) _) hu) fun out hlen ho => ?_
  rw [leO_eq] at ho
  obtain ⟨ws, rw', hw⟩ := vals_each ho
  obtain ⟨ep, he'⟩ := PyProof.Rows.sortedAll_at s.heap its out.toArray
  have hws : ws.length ≤ sizeLine := by
    have := rw'.length
    rw [sizeLine_eq]
    omega
  exact ⟨.ref _, upd H (s.heap.objs.size + 1) (.lst ws), I.laid (t' := s.toks) (fun _ _ => PyProof.Rows.sortedAll_old) (Nat.le_succ _) ⟨hws, out, ep, rw', he'⟩, rfl, q _ _ (I.hok.fresh (Nat.le_succ _)) hw⟩
def rLtD (α : Type) [DecidableEq α] [DatumOrd α] (K : PySem.W.Frag) : R2 := fun x y H Q => ∃ p q : α, Hd1 K H x p ∧ Hd1 K H y q ∧ Q (.bl (DatumOrd.lt p q)) H
theorem op_ltD (hu : X.A.units + Datum.depth α < cLine) : OpR X (compareOp .Lt) (rLtD α X.K) := by
  intro pins s σ H x y v u Q I rx ry ⟨p, q, hp, hq, k⟩
  exact PySem.W.lt_datum (Dp.reads I _ _ _ (dt_dp hp) rx) (Dp.reads I _ _ _ (dt_dp hq) ry) hu ⟨.bl _, H, I, rfl, k⟩
def rEqD (α : Type) [DecidableEq α] [Datum α] (K : PySem.W.Frag) : R2 := fun x y H Q => ∃ p q : α, Hd1 K H x p ∧ Hd1 K H y q ∧ Q (.bl (decide (p = q))) H
theorem op_eqDt (hu : X.A.units + Datum.depth α < cLine) : OpR X (compareOp .Eq) (rEqD α X.K) := by
  intro pins s σ H x y v u Q I rx ry ⟨p, q, hp, hq, k⟩
  exact PySem.W.eq_datum (Dp.reads I _ _ _ (dt_dp hp) rx) (Dp.reads I _ _ _ (dt_dp hq) ry) hu ⟨.bl _, H, I, rfl, k⟩
end
end My
set_option Elab.async false
set_option linter.all false
set_option maxRecDepth 100000
set_option maxHeartbeats 4000000
/-! sorted of lists and of tuples, what is known of the items kept -/
namespace My
open PySem PySem.Spec PyProof.Rows L2
open PySem.W (Datum DatumOrd EachIs)
section
variable {prog : Program} {w : World} {A : Around} {E : Value → Shared → Prop} {s : Shared}
theorem collect_tup {l : Addr} {vs : List Value} {Q : List Value → Shared → Prop} (hl : s.heap.IsTuple l vs.toArray) (hsz : vs.length ≤ sizeLine)
    (h : Q vs { s with heap := (s.heap.push (seqObj "list" #[] 0)).update s.heap.objs.size (Obj.mapSeq (· ++ vs.toArray)) }) : wpAny (model prog w) A (collect (.ref l)) Q E s := by
  obtain ⟨o, ho, hc, n, hd⟩ := id hl
  unfold collect
  refine wpAny_bind (wpAny_runValue (codeAny_builtin entry_proto_collect' ?_))
  show wpAny _ _ (do again (.builtin "list.__iadd__" ⟨[← newList [], .ref l], []⟩)) _ _ s
  refine wpAny_bind (wpAny_newList (wpAny_pure ⟨Code.quiet_builtin _ (by decide +kernel), codeAny_builtin entry_list_iadd' ?_⟩))
  show wpAny _ _ (Builtin.List.listExtendWith (.ref s.heap.objs.size) (.ref l) (.ref s.heap.objs.size)) _ _ { s with heap := s.heap.push (seqObj "list" #[] 0) }
  unfold Builtin.List.listExtendWith
  have ho' : (s.heap.push (seqObj "list" #[] 0)).get? l = some o := Heap.get?_push_of_some _ ho
  refine wpAny_bind (wpAny_typeOf (T := "tuple") ⟨o, ho', hc⟩ ?_)
  have ht : (Value.type "tuple" == Value.type "tuple") = true := by rfl
  rw [if_pos (by rw [ht]; simp)]
  refine wpAny_bind (listItems_at ho' hd ?_)
  refine wpAny_bind (listItems_at (xs := #[]) (n := 0) (Heap.get?_push_size _ rfl) rfl ?_)
  rw [if_neg (by simp)]
  refine wpAny_bind (listUpdate_at (xs := #[]) (n := 0) (Heap.get?_push_size _ rfl) rfl ?_ (Nat.zero_le _) (by show (#[] ++ vs.toArray).size ≤ sizeLine + 1; simp only [Array.size_append, List.size_toArray, List.length_nil]; omega))
  refine wpAny_pure ?_
  show wpAny (model prog w) A (do
      let o ← load s.heap.objs.size
      match o.data with
      | .seq xs _ => pure xs.toList
      | _ => unsupported "internal:collect") Q E { s with heap := (s.heap.push (seqObj "list" #[] 0)).update s.heap.objs.size (Obj.mapSeq (· ++ vs.toArray)) }
  refine wpAny_bind (wpAny_load (get?_update_seq (Heap.get?_push_size _ rfl) _) ?_)
  show wpAny _ _ (pure ((#[] : Array Value) ++ vs.toArray).toList) Q E _
  rw [show ((#[] : Array Value) ++ vs.toArray).toList = vs by simp]
  exact wpAny_pure h
open PySem.W in
theorem sorted_tup_vals {κ : PyProof.Rows.KeyKind} {l : Addr} {vs : List Value} {Q : Value → Shared → Prop} (hl : s.heap.IsTuple l vs.toArray) (S : SortsAt prog w A.in1.in1 { s with heap := sortingHeap (copyHeap s.heap vs) (s.heap.objs.size + 1) vs } κ vs) (hL : vs.length ≤ sizeLine)
    (h : Q (.ref (s.heap.objs.size + 1)) { s with heap := sortedAll s.heap vs (sortVals κ false vs vs).toArray }) : wpAny (model prog w) A (call (.builtin "sorted") [.ref l]) Q E s := by
  refine Calls.call_function_entry kind_sorted plain_sorted entry_sorted (args_sorted1 _) ?_
  unfold Builtin.«sorted»
  refine wpAny_bind (m := checkCount "sorted" 1 1 _) (wpAny_pure ?_)
  refine wpAny_bind (collect_tup hl hL ?_)
  refine wpAny_bind (wpAny_newList ?_ hL)
  have hsz : ((s.heap.push (seqObj "list" #[] 0)).update s.heap.objs.size (Obj.mapSeq (· ++ vs.toArray))).objs.size = s.heap.objs.size + 1 := by
    rw [Heap.size_update, size_push']
  show wpAny _ _ _ _ _ { s with heap := copyHeap s.heap vs }
  rw [hsz]
  refine wpAny_bind (wpAny_holding (wpAny_call_entry slot_list_sort ⟨_, copyHeap_at s.heap vs, rfl⟩ entry_list_sort (list_sort_vals (s := { s with heap := copyHeap s.heap vs }) (copyHeap_at s.heap vs) S hL ⟨_, rfl, ?_⟩) (args_list_sort _)))
  exact wpAny_pure ⟨_, rfl, h⟩
open PySem.W in
theorem sorted_tup_data {β : Type} {R : Value → β → Prop} {enc : β → PyData} {vs : List Value} {bs : List β} {l : Addr} {Q : Value → Shared → Prop} (hl : s.heap.IsTuple l vs.toArray) (e : EachIs R vs bs) (er : EachIs (fun v b => ∃ as, Reads s.heap v (enc b) as) vs bs) (hal : AllAlike (bs.map enc)) (hk : Sortable (bs.map enc)) (hL : bs.length ≤ sizeLine)
    (hu : ∀ b, b ∈ bs → A.units + 2 + (enc b).depth < cLine) (h : ∀ out, out.length = bs.length → EachIs R out (bs.mergeSort (dataLe false enc)) → Q (.ref (s.heap.objs.size + 1)) { s with heap := sortedAll s.heap vs (List.toArray out) }) :
    wpAny (model prog w) A (call (.builtin "sorted") [.ref l]) Q E s := by
  have er' : EachIs (fun v b => ∃ as, Reads (sortingHeap (copyHeap s.heap vs) (s.heap.objs.size + 1) vs) v (enc b) as) vs bs := er.mono fun _ _ ⟨as, r⟩ => ⟨as, PyProof.Rows.Reads.keeps (fun _ _ => sorting_copy_old) r⟩
  exact sorted_tup_vals hl (SortsAt.data (s := { s with heap := sortingHeap (copyHeap s.heap vs) (s.heap.objs.size + 1) vs }) (each_map (R := fun v d => ∃ as, Reads (sortingHeap (copyHeap s.heap vs) (s.heap.objs.size + 1) vs) v d as) enc er') hal hk (bound_map hu)) (by rw [e.length]; exact hL)
    (h _ (by rw [sortVals_length false rfl]; exact e.length) (sortVals_data false e er' hal))
end
section
variable {X : Cx} {α : Type} [DecidableEq α] [DatumOrd α]
/-- sorted(list or tuple): the items with what is known of them, in order -/
def rSortR (α : Type) [DecidableEq α] [DatumOrd α] (K : PySem.W.Frag) : List V → Hp → VK → Prop := fun xs H Q => ∃ (R : V → α → Prop) (a : Addr) (vs : List V) (bs : List α), xs = [.ref a] ∧ (SqL K H a vs ∨ SqT K H a vs) ∧ EachIs R vs bs ∧ (∀ v b, R v b → Dt K H v (Datum.toD b)) ∧ bs.length ≤ 1000 ∧
  ∀ (p : Addr) (ws : List V), H p = none → EachIs R ws (sortO bs) → Q (.ref p) (upd H p (.lst ws))
theorem each_valsR {R : V → α → Prop} {pins : List (Addr × Obj)} {σ : L2.St} {H : Hp} {s : Shared} (I : Inv X pins σ H s) (hR : ∀ v b, R v b → Dt X.K H v (Datum.toD b)) : ∀ {bs : List α} {vs : List V} {its : List Value}, Vals vs its → EachIs R vs bs →
    EachIs (fun v b => ∃ x, RelV x v ∧ R x b) its bs ∧ EachIs (fun v b => ∃ as, Reads s.heap v (Datum.toD b) as) its bs
  | [], _, _, r, h => by
    cases h
    cases r
    exact ⟨.nil, .nil⟩
  | b :: bs, _, _, r, h => by
    cases h with
    | cons h1 h2 =>
      cases r with
      | cons r1 r2 =>
        obtain ⟨e1, e2⟩ := each_valsR I hR r2 h2
        exact ⟨.cons ⟨_, r1, h1⟩ e1, .cons (Dp.reads I _ _ _ (dt_dp (hR _ _ h1)) r1) e2⟩
theorem vals_eachR {R : V → α → Prop} : ∀ {bs : List α} {out : List Value}, EachIs (fun v b => ∃ x, RelV x v ∧ R x b) out bs → ∃ ws : List V, Vals ws out ∧ EachIs R ws bs
  | _, _, .nil => ⟨[], .nil, .nil⟩
  | _, _, .cons h r => by
    obtain ⟨x, rx, hx⟩ := h
    obtain ⟨ws, h1, h2⟩ := vals_eachR r
    exact ⟨x :: ws, .cons rx h1, .cons hx h2⟩
theorem call_sortR (hs : ∀ bs : List α, PySem.W.Sortable (bs.map Datum.toD)) (hu : X.A.units + 2 + Datum.depth α < cLine) : CallR X (.builtin "sorted") (rSortR α X.K) := by
  intro pins s σ H xs us Q I rv h
  obtain ⟨R, a, vs, bs, rfl, hl, hb, hR, few, q⟩ := h
  rw [Vals.ref1 rv]
  have fin : ∀ {its : List Value}, Vals vs its → ∀ out : List Value, out.length = bs.length → EachIs (fun v b => ∃ x, RelV x v ∧ R x b) out (bs.mergeSort (PySem.W.dataLe false fun b : α => Datum.toD b)) → EP X pins σ Q (.ref (s.heap.objs.size + 1)) { s with heap := sortedAll s.heap its (List.toArray out) } := fun {its} rr out hlen ho => by
    rw [leO_eq] at ho
    obtain ⟨ws, rw', hw⟩ := vals_eachR ho
    obtain ⟨ep, he'⟩ := PyProof.Rows.sortedAll_at s.heap its out.toArray
    have hws : ws.length ≤ sizeLine := by
      have := rw'.length
      rw [sizeLine_eq]
      omega
    exact ⟨.ref _, upd H (s.heap.objs.size + 1) (.lst ws), I.laid (t' := s.toks) (fun _ _ => PyProof.Rows.sortedAll_old) (Nat.le_succ _) ⟨hws, out, ep, rw', he'⟩, rfl, q _ _ (I.hok.fresh (Nat.le_succ _)) hw⟩
  have hal : PySem.W.AllAlike (bs.map Datum.toD) := PySem.W.AllAlike.of fun b b' => DatumOrd.alike b b'
  have hsz : bs.length ≤ sizeLine := by rw [sizeLine_eq]; omega
  have hdp : ∀ b, b ∈ bs → X.A.units + 2 + (Datum.toD b).depth < cLine := fun b _ => Nat.lt_of_le_of_lt (Nat.add_le_add_left (Datum.depth_le b) _) hu
  rcases hl with hl | hl
  · obtain ⟨its, rr, il, _⟩ := I.list hl
    obtain ⟨e1, e2⟩ := each_valsR I hR rr hb
    exact PySem.W.sorted_data (R := fun v b => ∃ x, RelV x v ∧ R x b) (enc := fun b : α => Datum.toD b) il.isList e1 e2 hal (hs bs) hsz hdp (fin rr)
  · obtain ⟨its, rr, ⟨o, ho, hc, n, hd⟩, _⟩ := I.tuple hl
    obtain ⟨e1, e2⟩ := each_valsR I hR rr hb
    exact sorted_tup_data (R := fun v b => ∃ x, RelV x v ∧ R x b) (enc := fun b : α => Datum.toD b) ⟨o, ho, hc, n, hd⟩ e1 e2 hal (hs bs) hsz hdp (fin rr)
theorem sortable_str (bs : List Str) : PySem.W.Sortable (bs.map Datum.toD) := PySem.W.Sortable.others fun b => ⟨(fun e => nomatch e), fun xs e => nomatch e⟩
theorem sortable_pair {α β : Type} [DecidableEq α] [DatumOrd α] [DecidableEq β] [DatumOrd β] (bs : List (α × β)) : PySem.W.Sortable (bs.map Datum.toD) := PySem.W.Sortable.tuples fun b => ⟨_, _, rfl⟩
/-- the texts of a list stand for themselves -/
theorem each_strs : ∀ ns : List Str, EachIs (fun v x => v = V.str x) (ns.map V.str) ns
  | [] => .nil
  | n :: ns => .cons rfl (each_strs ns)
theorem strs_each : ∀ {ws : List V} {ns : List Str}, EachIs (fun v x => v = V.str x) ws ns → ws = ns.map V.str
  | _, _, .nil => rfl
  | _, _, .cons h r => by rw [h, strs_each r, List.map_cons]
end
end My
set_option Elab.async false
set_option linter.all false
set_option maxRecDepth 100000
set_option maxHeartbeats 4000000
/-! _law_names of the laws k69 to k92 -/
namespace My
open PySem PySem.Spec PyProof.Rows L2
theorem seq_splitN {t u : TS} {D : Ends} {σ : L2.St} {H : Hp} (P : L2.St → Hp → Prop) (h : ∀ nx : L2.St → Hp → Prop, (∀ σ H, P σ H → nx σ H) → t { D with nx := nx } σ H) (k : ∀ σ H, P σ H → u D σ H) : tSeq t u D σ H := h _ k
def nmK (front : Str) (f2 st k : Nat) : Str := front ++ (⟨#[97 + (f2 + st * k) % 26]⟩ : Str) ++ Txt.mul ("z" : Str) 0
theorem nmK_ok {front : Str} (f6 : front.length ≤ 6) (fok : ∀ cd ∈ front.cps.toList, 97 ≤ cd ∧ cd ≤ 122) (f2 st k : Nat) : NameOk (nmK front f2 st k) := by
  have e0 : (Txt.mul ("z" : Str) 0).cps.toList = [] := by decide +kernel
  have e : (nmK front f2 st k).cps.toList = front.cps.toList ++ [97 + (f2 + st * k) % 26] := by
    unfold nmK
    rw [Str.cps_append, Array.toList_append, Str.cps_append, Array.toList_append, e0, List.append_nil]
  have l : (nmK front f2 st k).length = front.length + 1 := by rw [str_len, e, List.length_append, ← str_len]; rfl
  refine ⟨by omega, by omega, fun c hc => ?_⟩
  rw [e] at hc
  rcases List.mem_append.mp hc with hc | hc
  · exact fok c hc
  · rw [List.mem_singleton.mp hc]
    have := Nat.mod_lt (f2 + st * k) (show 0 < 26 by decide)
    omega
abbrev nmN : List Str := ["pen", "many", "letters", "base", "first", "stride", "found", "k"]
section
variable {P : Program} {w : World} {K : PySem.W.Frag} {mg : Str → Option Value} {base : Heap}
/-- names, in a list of that length -/
def spLNm (K : PySem.W.Frag) : Sp := fun vs H Q _ => ∃ (p c : Addr) (n many : Nat), vs = [.ref p, .int (many : Int)] ∧ PenAt H p c n ∧ n ≤ 800000000 ∧ 1 ≤ many ∧ many ≤ 26 ∧
  ∀ (l : Addr) (xs : List Str) (H' : Hp), (∀ x ∈ xs, NameOk x) → xs.length = many → H l = none → H' l = some (.lst (xs.map V.str)) → SameP p H H' → PenAt H' p c (n + 12) → Q (.ref l) H'
theorem ok_lnms {f fD fP fS : Addr} {fd dD dP dS : FuncData} (F : Fun K "_law_names" "_law_names" sLNames f fd) (T : Draws P w K mg base fD fP fS dD dP dS) (mr : mg "range" = none) (ms : mg "sorted" = none) : FnOk P w K mg base CX0 3 f fd ["pen", "many"] (spLNm K) := by
  refine F.ok scLNames (fun vs H Q E h => ?_) (fun cdv A outer s H vs Q E hr h => ?_)
  · obtain ⟨p, c, n, many, rfl, _⟩ := h
    rfl
  · obtain ⟨p, c, n, many, rfl, G, hn, hm1, hm, q⟩ := h
    have hr1 := hr.mono (show 1 ≤ 2 by decide)
    have hu2 : (A.deeper (envOfC "_law_names" (defScope sLNames) s.heap.objs.size f cdv)).units + 2 + PySem.W.Datum.depth Str < cLine := by
      have := hr.units
      have e : PySem.W.Datum.depth Str = 0 := rfl
      omega
    refine ⟨_, pss_cons (ps_set (i := 2) scLNames.nd rfl (.inr rfl) pe_str)
      (pss_cons (ps_set (i := 3) scLNames.nd rfl (.inr rfl) (pe_join pe_str (pe_lc (own := [("k", 7)]) (g := gName 7) (tt := tYes) rfl scLNames.nd
          (pi_range1 (by rfl) mr (pa_cons (pe_call T.oD hr1 (by rfl) T.gD T.kD T.bD .nil pass0 (pa_cons (pv 0) (pa_cons pe_int pa_nil))) pa_nil))
          (blkOk_by (own := [("k", 7)]) (N := nmN) (sc := defScope sLNames) (by decide +kernel))
          (fun _ _ _ _ _ => pg_name (i := 7) scLNames.nd rfl (Or.inl rfl)) (fun _ _ _ _ _ => pts_nil) (fun _ _ _ _ _ => pe_call T.oP hr (by rfl) T.gP T.kP T.bP .nil pass0 (pa_cons (pv 0) (pa_cons (pv 2) pa_nil))))))
      (pss_cons (ps_asg (pe_tup (pa_cons (pe_call T.oD hr1 (by rfl) T.gD T.kD T.bD .nil pass0 (pa_cons (pv 0) (pa_cons pe_int pa_nil)))
        (pa_cons (pe_call T.oP hr (by rfl) T.gP T.kP T.bP .nil pass0 (pa_cons (pv 0) (pa_cons (pe_lst (pa_cons pe_int (pa_cons pe_int (pa_cons pe_int (pa_cons pe_int (pa_cons pe_int (pa_cons pe_int (pa_cons pe_int (pa_cons pe_int (pa_cons pe_int (pa_cons pe_int (pa_cons pe_int (pa_cons pe_int pa_nil))))))))))))) pa_nil))) pa_nil)))
        (pg_tup rfl (pgs_cons (pg_name (i := 4) scLNames.nd rfl (.inr rfl)) (pgs_cons (pg_name (i := 5) scLNames.nd rfl (.inr rfl)) pgs_nil))))
      (pss_cons (ps_setLc (i := 6) (own := [("k", 7)]) (g := gName 7) (tt := tYes) rfl scLNames.nd rfl rfl rfl (pi_range1 (by rfl) mr (pa_cons (pv 1) pa_nil))
          (blkOk_by (own := [("k", 7)]) (N := nmN) (sc := defScope sLNames) (by decide +kernel))
          (fun _ _ _ _ _ => pg_name (i := 7) scLNames.nd rfl (Or.inl rfl)) (fun _ _ _ _ _ => pts_nil)
          (fun _ _ _ _ _ => pe_op op_add_str (pe_op op_add_str (pv 3) (pe_ix ix_str (pv 2) (pe_op op_mod (pe_op op_add (pv 4) (pe_op op_mul (pv 5) (pv 7))) pe_int) (fun _ _ => rfl))) (pe_op op_mulS pe_str (pe_op op_fdiv (pv 7) pe_int))))
      (pss_cons (ps_if (PW.pt (pw_and (pt_cmpR op_gt (pv 1) pe_int (nomark _)) (pw_and (pt_cmpR op_ne (pv 3) pe_str (nomark _)) (pw_and1 (pt_cmpR op_eq (pe_call T.oD hr1 (by rfl) T.gD T.kD T.bD .nil pass0 (pa_cons (pv 0) (pa_cons pe_int pa_nil))) pe_int (nomark _))))))
          (pss_one (ps_asg (pv 3) (pg_sub (pv 6) (pe_call T.oD hr1 (by rfl) T.gD T.kD T.bD .nil pass0 (pa_cons (pv 0) (pa_cons (pv 1) pa_nil))) set_list))) pss_nil)
      (pss_one (ps_ret (pe_callB (call_sortR (α := Str) sortable_str hu2) (by rfl) ms (by decide +kernel) (pa_cons (pv 6) pa_nil)))))))), ?_⟩
    -- base
    refine ⟨⟨_, rfl⟩, _, rfl, p, c, n, 7, rfl, G, by omega, by decide, by decide, fun d H1 d0 d1 s1 G1 => ⟨d, rfl, by omega, by omega, fun Dl hD => ?_⟩⟩
    have hD0 : H Dl = none := s1.free G1 hD
    refine lcN_range (lo := 0) (n := d.toNat) (fun i H' => ∃ cs : List Nat, H' Dl = some (.lst (cs.map fun cd => V.str (sign cd))) ∧ cs.length = i ∧ (∀ cd ∈ cs, 97 ≤ cd ∧ cd ≤ 122) ∧ SameP p H H' ∧ PenAt H' p c (n + 1 + i))
      ⟨[], upd_same, rfl, fun _ z => (nomatch z), s1.trans (SameP.new hD), G1.same (same_new hD)⟩ (fun i H2 hi hp => ?_) (fun H2 hp => ?_)
    · obtain ⟨cs, eD, hl, hc, s2, G2⟩ := hp
      refine ⟨rfl, ?_⟩
      refine ⟨_, rfl, _, rfl, p, c, _, .str abc, _, rfl, G2, by omega, .str (by rw [abc_len]; decide), ?_, ?_, fun j v H3 hv s3 G3 => ?_⟩
      · rw [List.length_map, abc_codes, List.length_map, List.length_range]
        decide
      · rw [List.length_map, abc_codes, List.length_map, List.length_range]
        decide
      · obtain ⟨cd, rfl, c0, c1⟩ := abc_item hv
        have eD3 := s3.lst G2 eD
        refine ⟨_, eD3, Evl.sz_lt (by rw [List.length_map]; omega), cs ++ [cd], ?_, by rw [List.length_append, hl]; rfl, fun z hz => ?_, fun b o nb e => ?_, ?_⟩
        · rw [upd_same, List.map_append]
          rfl
        · rcases List.mem_append.mp hz with hz | hz
          · exact hc z hz
          · rw [List.mem_singleton.mp hz]
            exact ⟨c0, c1⟩
        · rw [upd_ne (ne_of_none e hD0)]
          exact (s2.trans s3) b o nb e
        · exact (G3.upd (G1.apart' hD) (G1.apart hD)).mono (by omega)
    obtain ⟨cs, eD, hl, hc, s2, G2⟩ := hp
    have hlen : cs.length ≤ 6 := by omega
    refine ⟨Str.empty, Dl, cs.map sign, rfl, rfl, .inl (by rw [signs_V]; exact .inl (.inl eD)), ?_, ?_⟩
    · rw [sum_signs, List.length_map]
      show cs.length + cs.length * 0 ≤ 16777216
      omega
    generalize hfr : Txt.join Str.empty (cs.map sign) = front
    have fc : front.cps.toList = cs := by rw [← hfr, TL.join_eq, join_signs]
    have f6 : front.length ≤ 6 := by rw [str_len, fc]; exact hlen
    have fok : ∀ cd ∈ front.cps.toList, 97 ≤ cd ∧ cd ≤ 122 := by rw [fc]; exact hc
    have G2 := G2.mono (show n + 1 + d.toNat ≤ n + 7 by omega)
    clear eD hl hc hlen hD hD0 s1 G1 hfr fc
    -- first, stride
    refine ⟨_, rfl, p, c, _, 26, rfl, G2, by omega, by decide, by decide, fun f1 H3 f0 f26 s3 G3 => ?_⟩
    refine ⟨_, rfl, by show 12 ≤ sizeLine; decide, fun o1 ho1 => ?_⟩
    have so := same_new (o := HO.lst [.int 1, .int 3, .int 5, .int 7, .int 9, .int 11, .int 15, .int 17, .int 19, .int 21, .int 23, .int 25]) ho1
    refine ⟨p, c, _, .ref o1, [.int 1, .int 3, .int 5, .int 7, .int 9, .int 11, .int 15, .int 17, .int 19, .int 21, .int 23, .int 25], rfl, G3.same so, by omega, .lst (.inl (.inl upd_same)), by decide, by decide, fun j v H4 hv s4 G4 => ?_⟩
    obtain ⟨st, rfl, hst⟩ : ∃ st : Nat, v = .int (st : Int) ∧ st ≤ 25 := by
      have := List.mem_of_getElem? hv
      simp only [List.mem_cons, List.not_mem_nil, or_false] at this
      rcases this with rfl | rfl | rfl | rfl | rfl | rfl | rfl | rfl | rfl | rfl | rfl | rfl
      · exact ⟨1, rfl, by decide⟩
      · exact ⟨3, rfl, by decide⟩
      · exact ⟨5, rfl, by decide⟩
      · exact ⟨7, rfl, by decide⟩
      · exact ⟨9, rfl, by decide⟩
      · exact ⟨11, rfl, by decide⟩
      · exact ⟨15, rfl, by decide⟩
      · exact ⟨17, rfl, by decide⟩
      · exact ⟨19, rfl, by decide⟩
      · exact ⟨21, rfl, by decide⟩
      · exact ⟨23, rfl, by decide⟩
      · exact ⟨25, rfl, by decide⟩
    obtain ⟨f2, rfl⟩ : ∃ f2 : Nat, f1 = (f2 : Int) := ⟨f1.toNat, by omega⟩
    have s5 : SameP p H H4 := ((s2.trans s3).trans (SameP.of so)).trans s4
    have G4 := G4.mono (show n + 7 + 1 + 1 ≤ n + 9 by omega)
    clear s2 s3 so s4 G2 G3 hv
    refine ⟨by show 2 ≤ sizeLine; decide, fun t0 ht0 => ?_⟩
    have s6 := same_new (o := HO.tup [V.int (f2 : Int), .int (st : Int)]) ht0
    have e6 : SqT K (upd H4 t0 (HO.tup [V.int (f2 : Int), .int (st : Int)])) t0 [V.int (f2 : Int), .int (st : Int)] := .inl (.inl upd_same)
    have G6 := G4.same s6
    have S6 : SameP p H (upd H4 t0 (HO.tup [V.int (f2 : Int), .int (st : Int)])) := s5.trans (SameP.of s6)
    generalize upd H4 t0 (HO.tup [V.int (f2 : Int), .int (st : Int)]) = H6 at e6 G6 S6
    refine ⟨t0, _, rfl, e6, rfl, _, _, rfl, _, _, rfl, rfl, ?_⟩
    clear s6 e6 ht0 s5 G4
    -- found
    refine ⟨_, rfl, (many : Int), rfl, by omega, by omega, fun Dl hD => ?_⟩
    refine lcN_range (lo := 0) (n := (many : Int).toNat) (fun i H' => H' Dl = some (.lst (((List.range i).map (nmK front f2 st)).map V.str)) ∧ Same H6 H') ⟨upd_same, same_new hD⟩ (fun i H7 hi hp => ?_) (fun H7 hp => ?_)
    · obtain ⟨eD, sm⟩ := hp
      have hi26 : i < 26 := by omega
      have e0 : ((0 : Int) + (i : Int)) / 26 = 0 := by omega
      refine ⟨rfl, ?_⟩
      refine ⟨_, rfl, _, rfl, _, rfl, _, rfl, _, rfl, _, _, rfl, rfl, cmul_l (by omega) (by omega), _, _, rfl, rfl, _, _, rfl, rfl, (by show (0 : Int) < 26; decide), abc, _, 97 + (f2 + st * i) % 26, rfl, rfl, (by rw [abc_len]; decide), ?_, _, _, rfl, rfl, ?_, _, rfl, _, _, rfl, rfl, ⟨by decide, by decide⟩, "z", _, rfl, rfl, by decide, ?_, ?_, _, _, rfl, rfl, ?_, ?_⟩
      · rw [place_nat]
        exact atI_nat (abc_at (Nat.mod_lt _ (by decide)))
      · show front.length + 1 ≤ sizeLine
        exact Evl.sz_of (by omega)
      · omega
      · omega
      · rw [e0]
        show (front ++ (⟨#[97 + (f2 + st * i) % 26]⟩ : Str)).length + (Txt.mul ("z" : Str) 0).length ≤ sizeLine
        have ez : (Txt.mul ("z" : Str) 0).length = 0 := by decide +kernel
        rw [Str.length_append, ez]
        show front.length + 1 + 0 ≤ sizeLine
        exact Evl.sz_of (by omega)
      · rw [e0]
        refine ⟨_, eD, Evl.sz_lt (by rw [List.length_map, List.length_map, List.length_range]; omega), ?_, fun b o e => ?_⟩
        · rw [upd_same, List.range_succ, List.map_append, List.map_append]
          rfl
        · rw [upd_ne (ne_of_none e hD)]
          exact sm b o e
    obtain ⟨eD, sm⟩ := hp
    rw [show (many : Int).toNat = many from rfl] at eD
    have hD0 : H Dl = none := S6.free G6 hD
    have nmo : ∀ x ∈ (List.range many).map (nmK front f2 st), NameOk x := fun x hx => by
      obtain ⟨k, _, rfl⟩ := List.mem_map.mp hx
      exact nmK_ok f6 fok f2 st k
    have lno : ((List.range many).map (nmK front f2 st)).length = many := by rw [List.length_map, List.length_range]
    generalize (List.range many).map (nmK front f2 st) = ns at eD nmo lno
    have bOk : front ≠ ("" : Str) → NameOk front := fun ne => by
      refine ⟨?_, by omega, fok⟩
      by_cases z : front.length = 0
      · refine absurd ?_ ne
        cases front with
        | mk cps =>
          have z : cps.size = 0 := z
          rw [Array.size_eq_zero_iff.mp z]
          rfl
      · omega
    have G7 := G6.same sm
    have S7 := S6.trans (SameP.of sm)
    clear sm S6 G6 hst
    -- the if
    dsimp only
    refine seq_splitN (t := tIfS _ _ _) (fun σ H' => ∃ (ns : List Str) (y7 : Option V), σ = [some (.ref p), some (.int (many : Int)), some (.str abc), some (.str front), some (.int (f2 : Int)), some (.int (st : Int)), some (.ref Dl), y7] ∧ H' Dl = some (.lst (ns.map V.str)) ∧ (∀ x ∈ ns, NameOk x) ∧ ns.length = many ∧ SameP p H H' ∧ PenAt H' p c (n + 11)) (fun nx kk => ?_) (fun σ H' hh => ?_)
    · refine ⟨_, rfl, _, _, rfl, rfl, _, rfl, ?_⟩
      rw [decide_eq_true (show (0 : Int) < (many : Int) by omega)]
      refine iteT ⟨_, rfl, rfl, _, rfl, ?_⟩
      show if (!decide (V.str front = V.str ("" : Str))) = true then _ else _
      by_cases ne : front = ("" : Str)
      · rw [decide_eq_true (congrArg V.str ne)]
        exact iteF (kk _ _ ⟨ns, _, rfl, eD, nmo, lno, S7, G7.mono (by omega)⟩)
      · rw [decide_eq_false fun z => ne (V.str.inj z)]
        refine iteT ⟨_, rfl, p, c, _, 3, rfl, G7, by omega, by decide, by decide, fun d3 H8 d30 d31 s8 G8 => ⟨rfl, _, rfl, ?_⟩⟩
        have eD8 := s8.lst G7 eD
        have S8 := S7.trans s8
        cases decide (V.int d3 = V.int 0) with
        | false => exact iteF (kk _ _ ⟨ns, _, rfl, eD8, nmo, lno, S8, G8.mono (by omega)⟩)
        | true =>
          refine iteT ⟨_, rfl, _, rfl, _, rfl, _, rfl, p, c, _, (many : Int), rfl, G8, by omega, by omega, by omega, fun d4 H9 d40 d41 s9 G9 => ?_⟩
          obtain ⟨j4, rfl⟩ : ∃ j : Nat, d4 = (j : Int) := ⟨d4.toNat, by omega⟩
          have eD9 := s9.lst G8 eD8
          have ej : ixN (ns.map V.str).length (j4 : Int) = some j4 := by
            unfold ixN
            rw [List.length_map, if_pos (by omega), if_pos (by omega)]
            simp
          refine ⟨Dl, _, _, j4, rfl, rfl, eD9, ej, ?_⟩
          refine kk _ _ ⟨ns.set j4 front, _, rfl, ?_, fun x hx => ?_, by rw [List.length_set]; exact lno, fun b o nb e => ?_, (G9.upd (G.apart' hD0) (G.apart hD0)).mono (by omega)⟩
          · rw [upd_same, List.map_set]
          · rcases List.mem_or_eq_of_mem_set hx with h | h
            · exact nmo x h
            · rw [h]; exact bOk ne
          · rw [upd_ne (ne_of_none e hD0)]
            exact s9 b o nb (S8 b o nb e)
    · obtain ⟨ns, y7, rfl, eD, nmo, lno, S8, G8⟩ := hh
      refine ⟨_, rfl, fun v x => v = V.str x, Dl, _, ns, rfl, .inl (.inl (.inl eD)), each_strs ns, fun v b e => by rw [e]; exact .str _, by omega, fun p1 ws hp e1 => ?_⟩
      rw [strs_each e1]
      have s9 := same_new (o := HO.lst ((sortO ns).map V.str)) hp
      have pm : (sortO ns).Perm ns := List.mergeSort_perm ns leO
      exact q p1 (sortO ns) _ (fun x hx => nmo x (pm.subset hx)) (by rw [pm.length_eq, lno]) (S8.free G8 hp) upd_same (S8.trans (SameP.of s9)) ((G8.same s9).mono (by omega))
end
end My
set_option Elab.async false
set_option linter.all false
set_option maxRecDepth 100000
set_option maxHeartbeats 4000000
/-! _law_shape, _law_even_shape -/
namespace My
open PySem PySem.Spec PyProof.Rows L2
section
variable {P : Program} {w : World} {K : PySem.W.Frag} {mg : Str → Option Value} {base : Heap}
/-- a shape with these names, so deep at most -/
def spShp (K : PySem.W.Frag) (n : Nat) : Sp := fun vs H Q _ => ∃ (p c l : Addr) (m : Nat) (xs : List Str), vs = [.ref p, .ref l, .int (n : Int)] ∧ PenAt H p c m ∧ m + xs.length ≤ 800000000 ∧ n ≤ 6 ∧ SqL K H l (xs.map V.str) ∧ (∀ x ∈ xs, nmS x = true) ∧ 1 ≤ xs.length ∧ xs.length ≤ 2 ^ n ∧
  ∀ (v : V) (s : Shp) (H' : Hp), Da K p H' v (shD s) → ShN s → lvS s = xs → dpS s ≤ n → SameP p H H' → PenAt H' p c (m + (xs.length - 1)) → Q v H'
theorem room_at {n : Nat} (h : n ≤ 5) : atI [V.int 0, .int 1, .int 2, .int 4, .int 8, .int 16, .int 32] ((n + 1 : Nat) : Int) = some (.int ((2 ^ n : Nat) : Int)) := by
  have : n = 0 ∨ n = 1 ∨ n = 2 ∨ n = 3 ∨ n = 4 ∨ n = 5 := by omega
  rcases this with rfl | rfl | rfl | rfl | rfl | rfl <;> exact atI_nat rfl
theorem ok_lshape {f fD fP fS : Addr} {fd dD dP dS : FuncData} (F : Fun K "_law_shape" "_law_shape" sLShape f fd) (ml : mg "len" = none) (mx : mg "max" = none) (mn : mg "min" = none) (T : Draws P w K mg base fD fP fS dD dP dS) (g : mg "_law_shape" = some (.ref f)) (hk : PySem.W.keepIn K (.ref f) = true) (hb : Binds K fd ["pen", "names", "deep"] []) :
    ∀ n, FnOk P w K mg base CX0 (n + 2) f fd ["pen", "names", "deep"] (spShp K n)
  | 0 => by
    refine F.ok scLShape (fun vs H Q E h => ?_) (fun cdv A outer s H vs Q E hr h => ?_)
    · obtain ⟨p, c, l, m, xs, rfl, _⟩ := h
      rfl
    · obtain ⟨p, c, l, m, xs, rfl, G, hm, h6, hl, nm, l1, l2, q⟩ := h
      refine ⟨_, pss_cons (ps_if (pt_cmpR op_eq (pe_callB call_len (by rfl) ml PySem.boot_len (pa_cons (pv 1) pa_nil)) pe_int (nomark _)) (pss_one (ps_ret (pe_ix ix_list (pv 1) pe_int (fun _ _ => rfl)))) pss_nil) (pss_cons ps_no (pss_cons ps_no (pss_cons ps_no (pss_one ps_no)))), ?_⟩
      have e1 : xs.length = 1 := by omega
      obtain ⟨x, rfl⟩ := List.length_eq_one_iff.mp e1
      refine ⟨_, rfl, .ref l, 1, rfl, .inl ⟨_, hl, rfl⟩, rfl, _, rfl, iteT ⟨_, rfl, l, _, 0, .str x, rfl, rfl, hl, atI_nat (j := 0) rfl, ?_⟩⟩
      exact q _ (.leaf x) H (.str x) (nm x List.mem_cons_self) rfl (Nat.le_refl _) (.refl _ _) (G.mono (by omega))
  | n + 1 => by
    refine F.ok scLShape (fun vs H Q E h => ?_) (fun cdv A outer s H vs Q E hr h => ?_)
    · obtain ⟨p, c, l, m, xs, rfl, _⟩ := h
      rfl
    · obtain ⟨p, c, l, m, xs, rfl, G, hm, h6, hl, nm, l1, l2, q⟩ := h
      have hr1 := hr.mono (show 1 ≤ n + 1 + 1 by omega)
      refine ⟨_, pss_cons (ps_if (pt_cmpR op_eq (pe_callB call_len (by rfl) ml PySem.boot_len (pa_cons (pv 1) pa_nil)) pe_int (nomark _)) (pss_one (ps_ret (pe_ix ix_list (pv 1) pe_int (fun _ _ => rfl)))) pss_nil)
        (pss_cons (ps_set (i := 3) scLShape.nd rfl (.inl rfl) (pe_ix ix_list (pe_lst (pa_cons pe_int (pa_cons pe_int (pa_cons pe_int (pa_cons pe_int (pa_cons pe_int (pa_cons pe_int (pa_cons pe_int pa_nil)))))))) (pv 2) (fun _ _ => rfl)))
        (pss_cons (ps_par (i := 4) (j := 5) (by rfl) scLShape.nd rfl rfl (by decide) rfl rfl (pa_cons (pe_callB (call_max2 rfl) (by rfl) mx (by decide +kernel) (pa_cons pe_int (pa_cons (pe_op op_sub (pe_callB call_len (by rfl) ml PySem.boot_len (pa_cons (pv 1) pa_nil)) (pv 3)) pa_nil)))
          (pa_cons (pe_callB (call_min2 rfl) (by rfl) mn (by decide +kernel) (pa_cons (pe_op op_sub (pe_callB call_len (by rfl) ml PySem.boot_len (pa_cons (pv 1) pa_nil)) pe_int) (pa_cons (pv 3) pa_nil))) pa_nil)) (by rfl))
        (pss_cons (ps_set (i := 6) scLShape.nd rfl (.inl rfl) (pe_op op_add (pv 4) (pe_call T.oD hr1 (by rfl) T.gD T.kD T.bD .nil pass0 (pa_cons (pv 0) (pa_cons (pe_op op_add (pe_op op_sub (pv 5) (pv 4)) pe_int) pa_nil)))))
        (pss_one (ps_ret (pe_tup (pa_cons (pe_call (ok_lshape F ml mx mn T g hk hb n) hr (by rfl) g hk hb .nil pass0 (pa_cons (pv 0) (pa_cons (pe_slice sl_list (pv 1) po_none (po_some (pv 6))) (pa_cons (pe_op op_sub (pv 2) pe_int) pa_nil))))
          (pa_cons (pe_call (ok_lshape F ml mx mn T g hk hb n) hr (by rfl) g hk hb .nil pass0 (pa_cons (pv 0) (pa_cons (pe_slice sl_list (pv 1) (po_some (pv 6)) po_none) (pa_cons (pe_op op_sub (pv 2) pe_int) pa_nil)))) pa_nil)))))))), ?_⟩
      refine ⟨_, rfl, .ref l, xs.length, rfl, .inl ⟨_, hl, by rw [List.length_map]⟩, rfl, _, rfl, ?_⟩
      by_cases e1 : xs.length = 1
      · obtain ⟨x, rfl⟩ := List.length_eq_one_iff.mp e1
        refine iteT ⟨_, rfl, l, _, 0, .str x, rfl, rfl, hl, atI_nat (j := 0) rfl, ?_⟩
        exact q _ (.leaf x) H (.str x) (nm x List.mem_cons_self) rfl (Nat.zero_le _) (.refl _ _) (G.mono (by omega))
      · rw [decide_eq_false (show ¬ V.int ((xs.length : Nat) : Int) = V.int 1 from fun z => e1 (by have := V.int.inj z; omega))]
        refine iteF ⟨by show 7 ≤ sizeLine; decide, fun l0 hl0 => ?_⟩
        have s0 := same_new (o := HO.lst [V.int 0, .int 1, .int 2, .int 4, .int 8, .int 16, .int 32]) hl0
        have e0 : SqL K (upd H l0 (HO.lst [V.int 0, .int 1, .int 2, .int 4, .int 8, .int 16, .int 32])) l0 [V.int 0, .int 1, .int 2, .int 4, .int 8, .int 16, .int 32] := .inl (.inl upd_same)
        have G0 := G.same s0
        have hl := s0.keeps.l _ _ hl
        generalize upd H l0 (HO.lst [V.int 0, .int 1, .int 2, .int 4, .int 8, .int 16, .int 32]) = H1 at s0 e0 G0 hl
        refine ⟨_, rfl, l0, _, _, _, rfl, rfl, e0, room_at (n := n) (by omega), ?_⟩
        have l64 : xs.length ≤ 64 := Nat.le_trans l2 (Nat.pow_le_pow_right (by decide) h6)
        have rm1 : 1 ≤ 2 ^ n := Nat.one_le_two_pow
        have l2 : xs.length ≤ 2 * 2 ^ n := by rw [Nat.pow_succ] at l2; omega
        generalize hrm : 2 ^ n = rm at rm1 l2
        have lenL : ∀ {H' : Hp}, SqL K H' l (xs.map V.str) → LenV K (.ref l) H' xs.length := fun h => .inl ⟨_, h, by rw [List.length_map]⟩
        refine ⟨_, rfl, _, xs.length, rfl, lenL hl, _, rfl, _, _, rfl, rfl, _, _, rfl, _, rfl, _, xs.length, rfl, lenL hl, _, _, rfl, rfl, _, rfl, _, _, rfl, ?_⟩
        refine ⟨_, _, rfl, ?_⟩
        obtain ⟨lo, elo, lo1, lo2, lo3⟩ : ∃ lo : Nat, (if ((xs.length : Nat) : Int) - ((rm : Nat) : Int) > 1 then ((xs.length : Nat) : Int) - ((rm : Nat) : Int) else 1) = (lo : Int) ∧ 1 ≤ lo ∧ xs.length ≤ lo + rm ∧ (lo = 1 ∨ lo + rm = xs.length) := by
          by_cases z : xs.length > rm + 1
          · exact ⟨xs.length - rm, by rw [if_pos (by omega)]; omega, by omega, by omega, by omega⟩
          · exact ⟨1, by rw [if_neg (by omega)]; rfl, by omega, by omega, .inl rfl⟩
        obtain ⟨hi, ehi, hi1, hi2, hi3⟩ : ∃ hi : Nat, (if ((rm : Nat) : Int) < ((xs.length : Nat) : Int) - 1 then ((rm : Nat) : Int) else ((xs.length : Nat) : Int) - 1) = (hi : Int) ∧ hi ≤ rm ∧ hi + 1 ≤ xs.length ∧ lo ≤ hi := by
          by_cases z : rm < xs.length - 1
          · exact ⟨rm, by rw [if_pos (by omega)], by omega, by omega, by omega⟩
          · exact ⟨xs.length - 1, by rw [if_neg (by omega)]; omega, by omega, by omega, by omega⟩
        dsimp only
        rw [elo, ehi]
        refine ⟨_, rfl, _, rfl, _, rfl, _, rfl, _, _, rfl, rfl, _, _, rfl, rfl, p, c, m, ((hi : Int) - (lo : Int) + 1), rfl, G0, by omega, by omega, by omega, fun d H2 d0 d1 s2 G2 => ⟨_, _, rfl, rfl, ?_⟩⟩
        obtain ⟨at', eat, at1, at2⟩ : ∃ k : Nat, (lo : Int) + d = (k : Int) ∧ lo ≤ k ∧ k ≤ hi := ⟨((lo : Int) + d).toNat, by omega, by omega, by omega⟩
        dsimp only
        rw [eat]
        have hl2 := s2.sqL G0 hl
        refine ⟨_, rfl, _, rfl, _, rfl, _, rfl, l, _, rfl, hl2, fun c1 hc1 => ?_⟩
        rw [cutV_to, ← List.map_take]
        have s3 := same_new (o := HO.lst ((xs.take at').map V.str)) hc1
        have e3 : SqL K (upd H2 c1 (HO.lst ((xs.take at').map V.str))) c1 ((xs.take at').map V.str) := .inl (.inl upd_same)
        have G3 := G2.same s3
        have hl3 := s3.keeps.l _ _ hl2
        generalize upd H2 c1 (HO.lst ((xs.take at').map V.str)) = H3 at s3 e3 G3 hl3
        have lt1 : (xs.take at').length = at' := by rw [List.length_take]; omega
        have lt2 : (xs.drop at').length = xs.length - at' := by rw [List.length_drop]
        refine ⟨_, rfl, _, _, rfl, rfl, p, c, c1, _, xs.take at', ?_, G3, by omega, by omega, e3, fun x hx => nm x (List.mem_of_mem_take hx), by omega, by omega, fun v1 z1 H4 D1 n1 lv1 dp1 s4 G4 => ?_⟩
        · show [V.ref p, V.ref c1, V.int (((n + 1 : Nat) : Int) - 1)] = _
          rw [show ((n + 1 : Nat) : Int) - 1 = (n : Int) by omega]
        have hl4 := s4.sqL G3 hl3
        refine ⟨_, rfl, _, rfl, _, rfl, _, rfl, l, _, rfl, hl4, fun c2 hc2 => ?_⟩
        rw [cutV_from, ← List.map_drop]
        have s5 := same_new (o := HO.lst ((xs.drop at').map V.str)) hc2
        have e5 : SqL K (upd H4 c2 (HO.lst ((xs.drop at').map V.str))) c2 ((xs.drop at').map V.str) := .inl (.inl upd_same)
        have G5 := G4.same s5
        have D1 := da_keep s5.keepA D1
        generalize upd H4 c2 (HO.lst ((xs.drop at').map V.str)) = H5 at s5 e5 G5 D1
        refine ⟨_, rfl, _, _, rfl, rfl, p, c, c2, _, xs.drop at', ?_, G5, by omega, by omega, e5, fun x hx => nm x (List.mem_of_mem_drop hx), by omega, by omega, fun v2 z2 H6 D2 n2 lv2 dp2 s6 G6 => ?_⟩
        · show [V.ref p, V.ref c2, V.int (((n + 1 : Nat) : Int) - 1)] = _
          rw [show ((n + 1 : Nat) : Int) - 1 = (n : Int) by omega]
        have D1 := da_keep (s6.keepA G5) D1
        refine ⟨by show 2 ≤ sizeLine; decide, fun t ht => ?_⟩
        have s7 := same_new (o := HO.tup [v1, v2]) ht
        refine q (.ref t) (.two z1 z2) _ (.tup (.inl (.inl upd_same)) (.cons (da_keep s7.keepA D1) (.cons (da_keep s7.keepA D2) .nil))) ⟨n1, n2⟩ ?_ (by show 1 + max (dpS z1) (dpS z2) ≤ n + 1; omega) ?_ ((G6.same s7).mono (by omega))
        · show lvS z1 ++ lvS z2 = xs
          rw [lv1, lv2, List.take_append_drop]
        · exact (((((SameP.of s0).trans s2).trans (.of s3)).trans s4).trans (.of s5)).trans (s6.trans (.of s7))
end
end My
set_option Elab.async false
set_option linter.all false
set_option maxRecDepth 100000
set_option maxHeartbeats 4000000
/-! _law_even_shape, _law_line -/
namespace My
open PySem PySem.Spec PyProof.Rows L2
section
variable {P : Program} {w : World} {K : PySem.W.Frag} {mg : Str → Option Value} {base : Heap}
def spEvn (K : PySem.W.Frag) (n : Nat) : Sp := fun vs H Q _ => ∃ (l : Addr) (xs : List Str), vs = [.ref l] ∧ n ≤ 6 ∧ SqL K H l (xs.map V.str) ∧ (∀ x ∈ xs, nmS x = true) ∧ 1 ≤ xs.length ∧ xs.length ≤ 2 ^ n ∧
  ∀ (v : V) (s : Shp) (H' : Hp), (∀ p, Da K p H' v (shD s)) → ShN s → lvS s = xs → dpS s ≤ n → Same H H' → Q v H'
theorem ok_leven {f : Addr} {fd : FuncData} (F : Fun K "_law_even_shape" "_law_even_shape" sLEvenShape f fd) (ml : mg "len" = none) (g : mg "_law_even_shape" = some (.ref f)) (hk : PySem.W.keepIn K (.ref f) = true) (hb : Binds K fd ["names"] []) :
    ∀ n, FnOk P w K mg base CX0 (n + 1) f fd ["names"] (spEvn K n)
  | 0 => by
    refine F.ok scLEvenShape (fun vs H Q E h => ?_) (fun cdv A outer s H vs Q E hr h => ?_)
    · obtain ⟨l, xs, rfl, _⟩ := h
      rfl
    · obtain ⟨l, xs, rfl, h6, hl, nm, l1, l2, q⟩ := h
      refine ⟨_, pss_cons (ps_if (pt_cmpR op_eq (pe_callB call_len (by rfl) ml PySem.boot_len (pa_cons (pv 0) pa_nil)) pe_int (nomark _)) (pss_one (ps_ret (pe_ix ix_list (pv 0) pe_int (fun _ _ => rfl)))) pss_nil) (pss_cons ps_no (pss_one ps_no)), ?_⟩
      have e1 : xs.length = 1 := by omega
      obtain ⟨x, rfl⟩ := List.length_eq_one_iff.mp e1
      refine ⟨_, rfl, .ref l, 1, rfl, .inl ⟨_, hl, rfl⟩, rfl, _, rfl, iteT ⟨_, rfl, l, _, 0, .str x, rfl, rfl, hl, atI_nat (j := 0) rfl, ?_⟩⟩
      exact q _ (.leaf x) H (fun p => .str x) (nm x List.mem_cons_self) rfl (Nat.le_refl _) (.refl _)
  | n + 1 => by
    refine F.ok scLEvenShape (fun vs H Q E h => ?_) (fun cdv A outer s H vs Q E hr h => ?_)
    · obtain ⟨l, xs, rfl, _⟩ := h
      rfl
    · obtain ⟨l, xs, rfl, h6, hl, nm, l1, l2, q⟩ := h
      refine ⟨_, pss_cons (ps_if (pt_cmpR op_eq (pe_callB call_len (by rfl) ml PySem.boot_len (pa_cons (pv 0) pa_nil)) pe_int (nomark _)) (pss_one (ps_ret (pe_ix ix_list (pv 0) pe_int (fun _ _ => rfl)))) pss_nil)
        (pss_cons (ps_set (i := 1) scLEvenShape.nd rfl (.inl rfl) (pe_op op_fdiv (pe_callB call_len (by rfl) ml PySem.boot_len (pa_cons (pv 0) pa_nil)) pe_int))
        (pss_one (ps_ret (pe_tup (pa_cons (pe_call (ok_leven F ml g hk hb n) hr (by rfl) g hk hb .nil pass0 (pa_cons (pe_slice sl_list (pv 0) po_none (po_some (pv 1))) pa_nil))
          (pa_cons (pe_call (ok_leven F ml g hk hb n) hr (by rfl) g hk hb .nil pass0 (pa_cons (pe_slice sl_list (pv 0) (po_some (pv 1)) po_none) pa_nil)) pa_nil)))))), ?_⟩
      refine ⟨_, rfl, .ref l, xs.length, rfl, .inl ⟨_, hl, by rw [List.length_map]⟩, rfl, _, rfl, ?_⟩
      by_cases e1 : xs.length = 1
      · obtain ⟨x, rfl⟩ := List.length_eq_one_iff.mp e1
        refine iteT ⟨_, rfl, l, _, 0, .str x, rfl, rfl, hl, atI_nat (j := 0) rfl, ?_⟩
        exact q _ (.leaf x) H (fun p => .str x) (nm x List.mem_cons_self) rfl (Nat.zero_le _) (.refl _)
      · rw [decide_eq_false (show ¬ V.int ((xs.length : Nat) : Int) = V.int 1 from fun z => e1 (by have := V.int.inj z; omega))]
        refine iteF ⟨_, rfl, .ref l, xs.length, rfl, .inl ⟨_, hl, by rw [List.length_map]⟩, _, _, rfl, rfl, ⟨by decide, by decide⟩, ?_⟩
        obtain ⟨at', eat, at1, at2, at3⟩ : ∃ k : Nat, ((xs.length : Nat) : Int) / 2 = (k : Int) ∧ 1 ≤ k ∧ k + k ≤ xs.length ∧ xs.length ≤ k + k + 1 := ⟨xs.length / 2, by omega, by omega, by omega, by omega⟩
        dsimp only
        rw [eat]
        have l2 : xs.length ≤ 2 * 2 ^ n := by rw [Nat.pow_succ] at l2; omega
        have lt1 : (xs.take at').length = at' := by rw [List.length_take]; omega
        have lt2 : (xs.drop at').length = xs.length - at' := by rw [List.length_drop]
        refine ⟨_, rfl, _, rfl, _, rfl, l, _, rfl, hl, fun c1 hc1 => ?_⟩
        rw [cutV_to, ← List.map_take]
        have s3 := same_new (o := HO.lst ((xs.take at').map V.str)) hc1
        have e3 : SqL K (upd H c1 (HO.lst ((xs.take at').map V.str))) c1 ((xs.take at').map V.str) := .inl (.inl upd_same)
        have hl3 := s3.keeps.l _ _ hl
        generalize upd H c1 (HO.lst ((xs.take at').map V.str)) = H3 at s3 e3 hl3
        refine ⟨c1, xs.take at', rfl, by omega, e3, fun x hx => nm x (List.mem_of_mem_take hx), by omega, by omega, fun v1 z1 H4 D1 n1 lv1 dp1 s4 => ?_⟩
        have hl4 := s4.keeps.l _ _ hl3
        refine ⟨_, rfl, _, rfl, _, rfl, l, _, rfl, hl4, fun c2 hc2 => ?_⟩
        rw [cutV_from, ← List.map_drop]
        have s5 := same_new (o := HO.lst ((xs.drop at').map V.str)) hc2
        have e5 : SqL K (upd H4 c2 (HO.lst ((xs.drop at').map V.str))) c2 ((xs.drop at').map V.str) := .inl (.inl upd_same)
        have D1 := fun p => da_keep (p := p) s5.keepA (D1 p)
        generalize upd H4 c2 (HO.lst ((xs.drop at').map V.str)) = H5 at s5 e5 D1
        refine ⟨c2, xs.drop at', rfl, by omega, e5, fun x hx => nm x (List.mem_of_mem_drop hx), by omega, by omega, fun v2 z2 H6 D2 n2 lv2 dp2 s6 => ?_⟩
        have D1 := fun p => da_keep (p := p) s6.keepA (D1 p)
        refine ⟨by show 2 ≤ sizeLine; decide, fun t ht => ?_⟩
        have s7 := same_new (o := HO.tup [v1, v2]) ht
        refine q (.ref t) (.two z1 z2) _ (fun p => .tup (.inl (.inl upd_same)) (.cons (da_keep s7.keepA (D1 p)) (.cons (da_keep s7.keepA (D2 p)) .nil))) ⟨n1, n2⟩ ?_ (by show 1 + max (dpS z1) (dpS z2) ≤ n + 1; omega) ((((s3.trans s4).trans s5).trans s6).trans s7)
        show lvS z1 ++ lvS z2 = xs
        rw [lv1, lv2, List.take_append_drop]
def spLin (K : PySem.W.Frag) : Sp := fun vs H Q _ => ∃ (l : Addr) (xs : List Str), vs = [.ref l] ∧ SqL K H l (xs.map V.str) ∧ (∀ x ∈ xs, nmS x = true) ∧ 1 ≤ xs.length ∧ xs.length ≤ 100 ∧
  ∀ (v : V) (s : Shp) (H' : Hp), (∀ p, Da K p H' v (shD s)) → ShN s → lvS s = xs → dpS s + 1 ≤ xs.length → Same H H' → Q v H'
theorem ok_lline {f : Addr} {fd : FuncData} (F : Fun K "_law_line" "_law_line" sLLine f fd) : FnOk P w K mg base CX0 1 f fd ["names"] (spLin K) := by
  refine F.ok scLLine (fun vs H Q E h => ?_) (fun cdv A outer s H vs Q E hr h => ?_)
  · obtain ⟨l, xs, rfl, _⟩ := h
    rfl
  · obtain ⟨l, xs, rfl, hl, nm, l1, l2, q⟩ := h
    refine ⟨_, pss_cons (ps_set (i := 1) scLLine.nd rfl (.inl rfl) (pe_ix ix_list (pv 0) pe_int (fun _ _ => rfl)))
      (pss_cons (ps_for PassesOwn.never rfl (pi_list (pe_slice sl_list (pv 0) (po_some pe_int) po_none)) (pg_name (i := 2) scLLine.nd rfl (.inl rfl)) (pss_one (ps_set (i := 1) scLLine.nd rfl (.inl rfl) (pe_tup (pa_cons (pv 1) (pa_cons (pv 2) pa_nil))))))
      (pss_one (ps_ret (pv 1)))), ?_⟩
    obtain ⟨x0, r, rfl⟩ : ∃ x r, xs = x :: r := by
      cases xs with
      | nil => exact absurd l1 (by decide)
      | cons x y => exact ⟨x, y, rfl⟩
    refine ⟨_, rfl, l, _, 0, .str x0, rfl, rfl, hl, atI_nat (j := 0) rfl, ?_⟩
    refine ⟨_, rfl, _, rfl, l, _, rfl, hl, fun c1 hc1 => ?_⟩
    rw [show (1 : Int) = ((1 : Nat) : Int) from rfl, cutV_from]
    show _
    have s3 := same_new (o := HO.lst (r.map V.str)) hc1
    have e3 : SqL K (upd H c1 (HO.lst (r.map V.str))) c1 (r.map V.str) := .inl (.inl upd_same)
    refine ⟨c1, rfl, ⟨_, e3⟩, ?_⟩
    refine for_list (K := K) (a := c1) (xs := r.map V.str) (fun i σ H' => ∃ v y s, σ = [some (.ref l), some v, y] ∧ (∀ p, Da K p H' v (shD s)) ∧ ShN s ∧ lvS s = x0 :: r.take i ∧ dpS s ≤ i ∧ Same (upd H c1 (HO.lst (r.map V.str))) H')
      ⟨_, _, .leaf x0, rfl, fun p => .str x0, nm x0 List.mem_cons_self, rfl, Nat.le_refl _, .refl _⟩ (fun i σ H' _ hp => let ⟨_, _, _, _, _, _, _, _, s⟩ := hp; s.keeps.l _ _ e3) (fun i x σ H' hx hp => ?_) (fun σ H' hp => ?_)
    · obtain ⟨v, y, z, rfl, D, zn, lv, dp, sm⟩ := hp
      rw [List.getElem?_map] at hx
      obtain ⟨nx, hnx, rfl⟩ := Option.map_eq_some_iff.mp hx
      refine ⟨_, rfl, _, rfl, by show 2 ≤ sizeLine; decide, fun t ht => ?_⟩
      have s7 := same_new (o := HO.tup [v, .str nx]) ht
      refine ⟨_, _, .two z (.leaf nx), rfl, fun p => .tup (.inl (.inl upd_same)) (.cons (da_keep s7.keepA (D p)) (.cons (.str nx) .nil)), ⟨zn, nm nx (List.mem_cons_of_mem _ (List.mem_of_getElem? hnx))⟩, ?_, by show 1 + max (dpS z) 0 ≤ i + 1; omega, sm.trans s7⟩
      show lvS z ++ [nx] = _
      rw [lv, List.take_add_one, hnx]
      rfl
    · obtain ⟨v, y, z, rfl, D, zn, lv, dp, sm⟩ := hp
      rw [List.length_map] at lv dp
      rw [List.take_length] at lv
      exact ⟨_, rfl, q v z H' D zn lv (by rw [List.length_cons]; omega) (s3.trans sm)⟩
end
end My
set_option Elab.async false
set_option linter.all false
set_option maxRecDepth 100000
set_option maxHeartbeats 4000000
/-! _law_family -/
namespace My
open PySem PySem.Spec PyProof.Rows L2
section
variable {P : Program} {w : World} {K : PySem.W.Frag} {mg : Str → Option Value} {base : Heap}
theorem nmS_of {x : Str} (h : NameOk x) : nmS x = true := by
  unfold nmS
  rw [Bool.and_eq_true, List.all_eq_true]
  exact ⟨decide_eq_true ⟨h.1, h.2.1⟩, fun c hc => decide_eq_true (h.2.2 c hc)⟩
def spFml (K : PySem.W.Frag) : Sp := fun vs H Q _ => ∃ (p c : Addr) (n most : Nat), vs = [.ref p, .int (most : Int)] ∧ PenAt H p c n ∧ n ≤ 600000000 ∧ 1 ≤ most ∧ most ≤ 16 ∧
  ∀ (v : V) (s : Shp) (H' : Hp), Da K p H' v (shD s) → ShN s → (lvS s).length ≤ 16 → dpS s ≤ 6 → SameP p H H' → PenAt H' p c (n + 60) → Q v H'
theorem ok_lfml {f fD fP fS f1 f2 f3 : Addr} {fd dD dP dS e1 e2 e3 : FuncData} (F : Fun K "_law_family" "_law_family" sLFamily f fd) (T : Draws P w K mg base fD fP fS dD dP dS) (CN : Has P w K mg base 3 "_law_names" ["pen", "many"] (spLNm K) f1 e1) (CS : Has P w K mg base 8 "_law_shape" ["pen", "names", "deep"] (spShp K 6) f2 e2) (CE : Has P w K mg base 7 "_law_even_shape" ["names"] (spEvn K 6) f3 e3) :
    FnOk P w K mg base CX0 9 f fd ["pen", "most"] (spFml K) := by
  refine F.ok scLFamily (fun vs H Q E h => ?_) (fun cdv A outer s H vs Q E hr h => ?_)
  · obtain ⟨p, c, n, most, rfl, _⟩ := h
    rfl
  · obtain ⟨p, c, n, most, rfl, G, hn, m1, m16, q⟩ := h
    have hr1 := hr.mono (show 1 ≤ 8 by decide)
    have hr2 := hr.mono (show 2 ≤ 8 by decide)
    have hr3 := hr.mono (show 3 ≤ 8 by decide)
    have hr7 := hr.mono (show 7 ≤ 8 by decide)
    refine ⟨_, pss_cons (ps_set (i := 2) scLFamily.nd rfl (.inl rfl) (pe_call T.oS hr2 (by rfl) T.gS T.kS T.bS .nil pass0 (pa_cons (pv 0) (pa_cons (pe_has CN hr3 (by rfl) (pa_cons (pv 0) (pa_cons (pe_op op_add pe_int (pe_call T.oD hr1 (by rfl) T.gD T.kD T.bD .nil pass0 (pa_cons (pv 0) (pa_cons (pv 1) pa_nil)))) pa_nil))) pa_nil))))
      (pss_one (ps_ret (pe_ifExp (pt_cmpR op_gt (pe_call T.oD hr1 (by rfl) T.gD T.kD T.bD .nil pass0 (pa_cons (pv 0) (pa_cons pe_int pa_nil))) pe_int (nomark _)) (pe_has CS hr (by rfl) (pa_cons (pv 0) (pa_cons (pv 2) (pa_cons pe_int pa_nil)))) (pe_has CE hr7 (by rfl) (pa_cons (pv 2) pa_nil))))), ?_⟩
    refine ⟨_, rfl, _, rfl, _, rfl, _, rfl, p, c, n, (most : Int), rfl, G, by omega, by omega, by omega, fun d H1 d0 d1 s1 G1 => ⟨_, _, rfl, rfl, ?_⟩⟩
    obtain ⟨m, em, m1', m2'⟩ : ∃ m : Nat, 1 + d = (m : Int) ∧ 1 ≤ m ∧ m ≤ 16 := ⟨(1 + d).toNat, by omega, by omega, by omega⟩
    refine ⟨p, c, _, m, by rw [← em]; rfl, G1, by omega, m1', by omega, fun l xs H2 nmx ln hl0 el s2 G2 => ?_⟩
    refine ⟨p, c, l, _, _, rfl, G2, by omega, .lst (.inl (.inl el)), by rw [List.length_map, ln]; omega, fun l2 ys H3 pm hl2 el2 s3 G3 => ?_⟩
    obtain ⟨zs, rfl, pz⟩ := perm_strs pm
    rw [List.length_map, ln] at G3
    have lz : zs.length = m := by rw [pz.length_eq, ln]
    have nz : ∀ x ∈ zs, nmS x = true := fun x hx => nmS_of (nmx x (pz.subset hx))
    have S3 := (s1.trans s2).trans s3
    refine ⟨_, rfl, p, c, _, 4, rfl, G3, by omega, by decide, by decide, fun d4 H4 d40 d41 s4 G4 => ?_⟩
    have el4 := s4.lst G3 el2
    have S4 := S3.trans s4
    refine ⟨_, _, rfl, rfl, _, rfl, ?_⟩
    cases decide ((0 : Int) < d4) with
    | true =>
      refine iteT ⟨_, rfl, _, rfl, p, c, l2, _, zs, rfl, G4, by omega, by decide, .inl (.inl el4), nz, by omega, by show zs.length ≤ 64; omega, fun v z H5 D zn lv dp s5 G5 => ?_⟩
      exact q v z H5 D zn (by rw [lv]; omega) dp (S4.trans s5) (G5.mono (by omega))
    | false =>
      refine iteF ⟨_, rfl, l2, zs, rfl, by decide, .inl (.inl el4), nz, by omega, by show zs.length ≤ 64; omega, fun v z H5 D zn lv dp s5 => ?_⟩
      exact q v z H5 (D p) zn (by rw [lv]; omega) dp (S4.trans (.of s5)) ((G4.same s5).mono (by omega))
end
end My
set_option Elab.async false
set_option linter.all false
set_option maxRecDepth 100000
set_option maxHeartbeats 4000000
/-! _law_any_value -/
namespace My
open PySem PySem.Spec PyProof.Rows L2
/-- a value, not large -/
def PvV (w n : Nat) (K : PySem.W.Frag) (p : Addr) (H : Hp) (v : V) : Prop := ∃ d, Da K p H v d ∧ Gm w n d
def PvL (w n : Nat) (K : PySem.W.Frag) (p : Addr) (H : Hp) (xs : List V) : Prop := ∀ v ∈ xs, PvV w n K p H v
section
variable {w n m : Nat} {K : PySem.W.Frag} {p c : Addr} {H H' : Hp} {v : V} {xs ys : List V}
theorem PvV.keep (h : PvV w n K p H v) (s : Same H H') : PvV w n K p H' v := let ⟨d, a, g⟩ := h; ⟨d, da_keep s.keepA a, g⟩
theorem PvV.keepP (h : PvV w n K p H v) (s : SameP p H H') (G : PenAt H p c m) : PvV w n K p H' v := let ⟨d, a, g⟩ := h; ⟨d, da_keep (s.keepA G) a, g⟩
theorem PvV.mono {w' n' : Nat} (h : PvV w n K p H v) (a : w ≤ w') (b : n ≤ n') : PvV w' n' K p H v := let ⟨d, x, g⟩ := h; ⟨d, x, g.mono a b⟩
theorem PvL.keep (h : PvL w n K p H xs) (s : Same H H') : PvL w n K p H' xs := fun v hv => (h v hv).keep s
theorem PvL.keepP (h : PvL w n K p H xs) (s : SameP p H H') (G : PenAt H p c m) : PvL w n K p H' xs := fun v hv => (h v hv).keepP s G
theorem PvL.nil : PvL w n K p H [] := fun _ z => nomatch z
theorem PvL.snoc (h : PvL w n K p H xs) (s : Same H H') (g : PvV w n K p H' v) : PvL w n K p H' (xs ++ [v]) := fun u hu => (List.mem_append.mp hu).elim (fun z => (h u z).keep s) fun z => by rw [List.mem_singleton.mp z]; exact g
theorem PvL.app (h : PvL w n K p H xs) (g : PvL w n K p H ys) : PvL w n K p H (xs ++ ys) := fun u hu => (List.mem_append.mp hu).elim (h u) (g u)
theorem pv_flat {d : PyData} (a : Da K p H v d) (g : gmB w n d = true) : PvV w n K p H v := ⟨d, a, gmB_ok g⟩
theorem pv_t {t : Addr} {ds : List PyData} (ht : H t = none) (d : DaAll K p H xs ds) (g : gmB w n (.tuple ds) = true) : PvV w n K p (upd H t (.tup xs)) (.ref t) := ⟨_, .tup (.inl (.inl upd_same)) (da_keepAll (same_new ht).keepA d), gmB_ok g⟩
theorem pv_l {t : Addr} {ds : List PyData} (ht : H t = none) (nt : t ≠ sysModules) (d : DaAll K p H xs ds) (g : gmB w n (.list ds) = true) : PvV w n K p (upd H t (.lst xs)) (.ref t) := ⟨_, .lst nt (.inl (.inl upd_same)) (da_keepAll (same_new ht).keepA d), gmB_ok g⟩
theorem merge_oneV (k : Key) (v : V) : mergeK [] [(k, v)] = [(k, v)] := by
  unfold mergeK
  simp only [List.foldl_cons, List.foldl_nil]
  rw [putK_new (kvs := []) _ rfl]
  rfl
end
section
variable {P : Program} {w : World} {K : PySem.W.Frag} {mg : Str → Option Value} {base : Heap}
def spAny (K : PySem.W.Frag) : Sp := fun vs H Q _ => ∃ (p c : Addr) (n : Nat), vs = [.ref p] ∧ PenAt H p c n ∧ n ≤ 700000000 ∧ ∀ v H', PvV 200 4 K p H' v → SameP p H H' → PenAt H' p c (n + 1) → Q v H'
theorem ok_any {f fD fP fS : Addr} {fd dD dP dS : FuncData} (F : Fun K "_law_any_value" "_law_any_value" sLAnyValue f fd) (T : Draws P w K mg base fD fP fS dD dP dS) : FnOk P w K mg base CX0 3 f fd ["pen"] (spAny K) := by
  refine F.ok scLAnyValue (fun vs H Q E h => ?_) (fun cdv A outer s H vs Q E hr h => ?_)
  · obtain ⟨p, c, n, rfl, _⟩ := h
    rfl
  · obtain ⟨p, c, n, rfl, G, hn, q⟩ := h
    refine ⟨_, pss_cons (ps_set (i := 1) scLAnyValue.nd rfl (.inl rfl) (pe_lst (pa_cons pe_non (pa_cons pe_bl (pa_cons pe_bl (pa_cons pe_int (pa_cons pe_int (pa_cons (pe_un un_neg pe_int) (pa_cons (pe_op op_pow pe_int pe_int) (pa_cons pe_str (pa_cons pe_str (pa_cons pe_str (pa_cons pe_str (pa_cons pe_str (pa_cons (pe_tup pa_nil) (pa_cons (pe_lstN pa_nil) (pa_cons pe_dnewK (pa_cons (pe_tup (pa_cons pe_str pa_nil)) (pa_cons (pe_lstN (pa_cons pe_str (pa_cons pe_int pa_nil))) pa_nil)))))))))))))))))))
      (pss_cons (ps_set (i := 1) scLAnyValue.nd rfl (.inl rfl) (pe_op op_cat (pv 1) (pe_lst (pa_cons (pe_tup (pa_cons pe_str (pa_cons pe_int pa_nil))) (pa_cons (pe_tup (pa_cons pe_str (pa_cons pe_int pa_nil))) (pa_cons (pe_tup (pa_cons pe_str (pa_cons pe_int pa_nil))) (pa_cons (pe_tup (pa_cons pe_str (pa_cons pe_bl pa_nil))) (pa_cons (pe_tup (pa_cons pe_str (pa_cons pe_non pa_nil))) (pa_cons (pe_tup (pa_cons pe_str (pa_cons pe_int pa_nil))) (pa_cons (pe_tup (pa_cons pe_str (pa_cons pe_int pa_nil))) (pa_cons (pe_tup (pa_cons pe_str (pa_cons pe_int pa_nil))) pa_nil)))))))))))
      (pss_cons (ps_set (i := 1) scLAnyValue.nd rfl (.inl rfl) (pe_op op_cat (pv 1) (pe_lst (pa_cons (pe_tup (pa_cons pe_str (pa_cons pe_int (pa_cons pe_int pa_nil)))) (pa_cons (pe_tup (pa_cons (pe_tup (pa_cons pe_str (pa_cons pe_int pa_nil))) (pa_cons (pe_tup (pa_cons pe_str (pa_cons pe_int pa_nil))) pa_nil))) (pa_cons (pe_disp (pps_cons pe_str pe_int pps_nil) (by rfl) (by rfl) (fun z => by cases z) (by decide)) (pa_cons (pe_lstN (pa_cons (pe_tup (pa_cons pe_str (pa_cons pe_int pa_nil))) pa_nil)) (pa_cons (pe_tup (pa_cons pe_str (pa_cons (pe_un un_neg pe_int) pa_nil))) (pa_cons (pe_tup (pa_cons pe_int (pa_cons pe_str pa_nil))) (pa_cons (pe_tup (pa_cons pe_str (pa_cons pe_str pa_nil))) pa_nil))))))))))
      (pss_one (ps_ret (pe_call T.oP hr (by rfl) T.gP T.kP T.bP .nil pass0 (pa_cons (pv 0) (pa_cons (pv 1) pa_nil))))))), ?_⟩
    obtain ⟨⟨_, _, _, P0, _⟩⟩ := id G
    have A : PvL 200 4 K p H [] := PvL.nil
    have S : Same H H := .refl _
    have A := A.snoc (.refl _) (v := .non) (pv_flat .non (by decide +kernel))
    have A := A.snoc (.refl _) (v := .bl true) (pv_flat (.bl _) (by decide +kernel))
    have A := A.snoc (.refl _) (v := .bl false) (pv_flat (.bl _) (by decide +kernel))
    have A := A.snoc (.refl _) (v := .int 0) (pv_flat (.int _) (by decide +kernel))
    have A := A.snoc (.refl _) (v := .int 1) (pv_flat (.int _) (by decide +kernel))
    have A := A.snoc (.refl _) (v := .int (-1)) (pv_flat (.int _) (by decide +kernel))
    have A := A.snoc (.refl _) (v := .int (10 ^ (20 : Int).toNat)) (pv_flat (.int _) (by decide +kernel))
    have A := A.snoc (.refl _) (v := .str "") (pv_flat (.str _) (by decide +kernel))
    have A := A.snoc (.refl _) (v := .str "a") (pv_flat (.str _) (by decide +kernel))
    have A := A.snoc (.refl _) (v := .str "A") (pv_flat (.str _) (by decide +kernel))
    have A := A.snoc (.refl _) (v := .str "a b") (pv_flat (.str _) (by decide +kernel))
    have A := A.snoc (.refl _) (v := .str "abcdefghi") (pv_flat (.str _) (by decide +kernel))
    refine ⟨_, rfl, _, _, rfl, rfl, ⟨by decide, by decide, by decide⟩, by show 0 ≤ sizeLine; decide, fun t1 h1 => ?_⟩
    have s1 := same_new (o := HO.tup []) h1
    have A := A.snoc s1 (pv_t (xs := []) h1 .nil (by decide +kernel))
    have S := S.trans s1
    generalize upd H t1 (HO.tup []) = H1 at A S
    clear s1 h1
    refine ⟨by show 0 ≤ sizeLine; decide, fun t2 h2 nn2 => ?_⟩
    have s2 := same_new (o := HO.lst []) h2
    have A := A.snoc s2 (pv_l (xs := []) h2 nn2 .nil (by decide +kernel))
    have S := S.trans s2
    generalize upd H1 t2 (HO.lst []) = H2 at A S
    clear s2 h2
    refine fun t3 h3 => ?_
    have s3 := same_new (o := HO.dK []) h3
    have A := A.snoc s3 ⟨.dict [], .dct (ne_of_none (S _ _ P0) h3).symm upd_same .nil, gmB_ok (by decide +kernel)⟩
    have S := S.trans s3
    generalize upd H2 t3 (HO.dK []) = H3 at A S
    clear s3 h3
    refine ⟨by show 1 ≤ sizeLine; decide, fun t4 h4 => ?_⟩
    have s4 := same_new (o := HO.tup [V.str "a"]) h4
    have A := A.snoc s4 (pv_t (xs := [V.str "a"]) h4 (.cons (.str _) .nil) (by decide +kernel))
    have S := S.trans s4
    generalize upd H3 t4 (HO.tup [V.str "a"]) = H4 at A S
    clear s4 h4
    refine ⟨by show 2 ≤ sizeLine; decide, fun t5 h5 nn5 => ?_⟩
    have s5 := same_new (o := HO.lst [V.str "a", V.int 0]) h5
    have A := A.snoc s5 (pv_l (xs := [V.str "a", V.int 0]) h5 nn5 (.cons (.str _) (.cons (.int _) .nil)) (by decide +kernel))
    have S := S.trans s5
    generalize upd H4 t5 (HO.lst [V.str "a", V.int 0]) = H5 at A S
    clear s5 h5
    refine ⟨by show 17 ≤ sizeLine; decide, fun O0 hO0 => ?_⟩
    generalize hxs : ([] ++ [V.non] ++ [V.bl true] ++ [V.bl false] ++ [V.int 0] ++ [V.int 1] ++ [V.int (-1)] ++ [V.int (10 ^ (20 : Int).toNat)] ++ [V.str ""] ++ [V.str "a"] ++ [V.str "A"] ++ [V.str "a b"] ++ [V.str "abcdefghi"] ++ [V.ref t1] ++ [V.ref t2] ++ [V.ref t3] ++ [V.ref t4] ++ [V.ref t5] : List V) = OA0 at A
    have lA0 : OA0.length = 17 := by rw [← hxs]; rfl
    rw [show ([V.non, V.bl true, V.bl false, V.int 0, V.int 1, V.int (-1), V.int (10 ^ (20 : Int).toNat), V.str "", V.str "a", V.str "A", V.str "a b", V.str "abcdefghi", V.ref t1, V.ref t2, V.ref t3, V.ref t4, V.ref t5] : List V) = OA0 from hxs]
    clear hxs
    have sO := same_new (o := HO.lst OA0) hO0
    have A := A.keep sO
    have S := S.trans sO
    have eO0 : upd H5 O0 (HO.lst OA0) O0 = some (HO.lst OA0) := upd_same
    generalize upd H5 O0 (HO.lst OA0) = H6 at A S eO0
    clear sO hO0
    have AA := A
    have eX := eO0
    have lX := lA0
    clear A eO0 lA0
    generalize OA0 = L0 at AA eX lX
    obtain ⟨X0, hX0⟩ : ∃ X, X = O0 := ⟨_, rfl⟩
    subst hX0
    have A : PvL 200 4 K p H6 [] := PvL.nil
    refine ⟨_, rfl, by show 2 ≤ sizeLine; decide, fun t6 h6 => ?_⟩
    have s6 := same_new (o := HO.tup [V.str "a", V.int 0]) h6
    have A := A.snoc s6 (pv_t (xs := [V.str "a", V.int 0]) h6 (.cons (.str _) (.cons (.int _) .nil)) (by decide +kernel))
    have S := S.trans s6
    have eX := s6 _ _ eX
    have AA := AA.keep s6
    generalize upd H6 t6 (HO.tup [V.str "a", V.int 0]) = H7 at A S eX AA
    clear s6 h6
    refine ⟨by show 2 ≤ sizeLine; decide, fun t7 h7 => ?_⟩
    have s7 := same_new (o := HO.tup [V.str "a", V.int 1]) h7
    have A := A.snoc s7 (pv_t (xs := [V.str "a", V.int 1]) h7 (.cons (.str _) (.cons (.int _) .nil)) (by decide +kernel))
    have S := S.trans s7
    have eX := s7 _ _ eX
    have AA := AA.keep s7
    generalize upd H7 t7 (HO.tup [V.str "a", V.int 1]) = H8 at A S eX AA
    clear s7 h7
    refine ⟨by show 2 ≤ sizeLine; decide, fun t8 h8 => ?_⟩
    have s8 := same_new (o := HO.tup [V.str "a", V.int 2]) h8
    have A := A.snoc s8 (pv_t (xs := [V.str "a", V.int 2]) h8 (.cons (.str _) (.cons (.int _) .nil)) (by decide +kernel))
    have S := S.trans s8
    have eX := s8 _ _ eX
    have AA := AA.keep s8
    generalize upd H8 t8 (HO.tup [V.str "a", V.int 2]) = H9 at A S eX AA
    clear s8 h8
    refine ⟨by show 2 ≤ sizeLine; decide, fun t9 h9 => ?_⟩
    have s9 := same_new (o := HO.tup [V.str "a", V.bl true]) h9
    have A := A.snoc s9 (pv_t (xs := [V.str "a", V.bl true]) h9 (.cons (.str _) (.cons (.bl _) .nil)) (by decide +kernel))
    have S := S.trans s9
    have eX := s9 _ _ eX
    have AA := AA.keep s9
    generalize upd H9 t9 (HO.tup [V.str "a", V.bl true]) = H10 at A S eX AA
    clear s9 h9
    refine ⟨by show 2 ≤ sizeLine; decide, fun t10 h10 => ?_⟩
    have s10 := same_new (o := HO.tup [V.str "a", V.non]) h10
    have A := A.snoc s10 (pv_t (xs := [V.str "a", V.non]) h10 (.cons (.str _) (.cons .non .nil)) (by decide +kernel))
    have S := S.trans s10
    have eX := s10 _ _ eX
    have AA := AA.keep s10
    generalize upd H10 t10 (HO.tup [V.str "a", V.non]) = H11 at A S eX AA
    clear s10 h10
    refine ⟨by show 2 ≤ sizeLine; decide, fun t11 h11 => ?_⟩
    have s11 := same_new (o := HO.tup [V.str "A", V.int 0]) h11
    have A := A.snoc s11 (pv_t (xs := [V.str "A", V.int 0]) h11 (.cons (.str _) (.cons (.int _) .nil)) (by decide +kernel))
    have S := S.trans s11
    have eX := s11 _ _ eX
    have AA := AA.keep s11
    generalize upd H11 t11 (HO.tup [V.str "A", V.int 0]) = H12 at A S eX AA
    clear s11 h11
    refine ⟨by show 2 ≤ sizeLine; decide, fun t12 h12 => ?_⟩
    have s12 := same_new (o := HO.tup [V.str "", V.int 1]) h12
    have A := A.snoc s12 (pv_t (xs := [V.str "", V.int 1]) h12 (.cons (.str _) (.cons (.int _) .nil)) (by decide +kernel))
    have S := S.trans s12
    have eX := s12 _ _ eX
    have AA := AA.keep s12
    generalize upd H12 t12 (HO.tup [V.str "", V.int 1]) = H13 at A S eX AA
    clear s12 h12
    refine ⟨by show 2 ≤ sizeLine; decide, fun t13 h13 => ?_⟩
    have s13 := same_new (o := HO.tup [V.str "abcdefghi", V.int 0]) h13
    have A := A.snoc s13 (pv_t (xs := [V.str "abcdefghi", V.int 0]) h13 (.cons (.str _) (.cons (.int _) .nil)) (by decide +kernel))
    have S := S.trans s13
    have eX := s13 _ _ eX
    have AA := AA.keep s13
    generalize upd H13 t13 (HO.tup [V.str "abcdefghi", V.int 0]) = H14 at A S eX AA
    clear s13 h13
    refine ⟨by show 8 ≤ sizeLine; decide, fun O1 hO1 => ?_⟩
    generalize hxs : ([] ++ [V.ref t6] ++ [V.ref t7] ++ [V.ref t8] ++ [V.ref t9] ++ [V.ref t10] ++ [V.ref t11] ++ [V.ref t12] ++ [V.ref t13] : List V) = OA1 at A
    have lA1 : OA1.length = 8 := by rw [← hxs]; rfl
    rw [show ([V.ref t6, V.ref t7, V.ref t8, V.ref t9, V.ref t10, V.ref t11, V.ref t12, V.ref t13] : List V) = OA1 from hxs]
    clear hxs
    have sO := same_new (o := HO.lst OA1) hO1
    have A := A.keep sO
    have S := S.trans sO
    have eX := sO _ _ eX
    have AA := AA.keep sO
    have eO1 : upd H14 O1 (HO.lst OA1) O1 = some (HO.lst OA1) := upd_same
    generalize upd H14 O1 (HO.lst OA1) = H15 at A S eX AA eO1
    clear sO hO1
    refine ⟨X0, O1, L0, OA1, rfl, rfl, eX, eO1, by rw [lX, lA1]; decide, fun X1 hX1 => ?_⟩
    have sO := same_new (o := HO.lst (L0 ++ OA1)) hX1
    have AB := (AA.app A).keep sO
    have S := S.trans sO
    have eY : upd H15 X1 (HO.lst (L0 ++ OA1)) X1 = some (HO.lst (L0 ++ OA1)) := upd_same
    have lY : (L0 ++ OA1).length = 25 := by rw [List.length_append, lX, lA1]
    generalize upd H15 X1 (HO.lst (L0 ++ OA1)) = H16 at AB S eY
    generalize L0 ++ OA1 = L1 at AB eY lY
    clear sO hX1 A AA eX lX eO1 lA1
    have AA := AB
    have eX := eY
    have lX := lY
    clear AB eY lY
    have A : PvL 200 4 K p H16 [] := PvL.nil
    refine ⟨_, rfl, by show 3 ≤ sizeLine; decide, fun t14 h14 => ?_⟩
    have s14 := same_new (o := HO.tup [V.str "a", V.int 0, V.int 1]) h14
    have A := A.snoc s14 (pv_t (xs := [V.str "a", V.int 0, V.int 1]) h14 (.cons (.str _) (.cons (.int _) (.cons (.int _) .nil))) (by decide +kernel))
    have S := S.trans s14
    have eX := s14 _ _ eX
    have AA := AA.keep s14
    generalize upd H16 t14 (HO.tup [V.str "a", V.int 0, V.int 1]) = H17 at A S eX AA
    clear s14 h14
    refine ⟨by show 2 ≤ sizeLine; decide, fun t16 h16 => ?_⟩
    have s16 := same_new (o := HO.tup [V.str "a", V.int 0]) h16
    have et16 : Da K p (upd H17 t16 (HO.tup [V.str "a", V.int 0])) (.ref t16) (.tuple [.str "a", .int 0]) := .tup (.inl (.inl upd_same)) (.cons (.str _) (.cons (.int _) .nil))
    have A := A.keep s16
    have S := S.trans s16
    have eX := s16 _ _ eX
    have AA := AA.keep s16
    generalize upd H17 t16 (HO.tup [V.str "a", V.int 0]) = H18 at A S eX AA et16
    clear s16 h16
    refine ⟨by show 2 ≤ sizeLine; decide, fun t17 h17 => ?_⟩
    have s17 := same_new (o := HO.tup [V.str "b", V.int 1]) h17
    have et17 : Da K p (upd H18 t17 (HO.tup [V.str "b", V.int 1])) (.ref t17) (.tuple [.str "b", .int 1]) := .tup (.inl (.inl upd_same)) (.cons (.str _) (.cons (.int _) .nil))
    have et16 := da_keep s17.keepA et16
    have A := A.keep s17
    have S := S.trans s17
    have eX := s17 _ _ eX
    have AA := AA.keep s17
    generalize upd H18 t17 (HO.tup [V.str "b", V.int 1]) = H19 at A S eX AA et17 et16
    clear s17 h17
    refine ⟨by show 2 ≤ sizeLine; decide, fun t15 h18 => ?_⟩
    have s18 := same_new (o := HO.tup [V.ref t16, V.ref t17]) h18
    have A := A.snoc s18 (pv_t h18 (.cons et16 (.cons et17 .nil)) (by decide +kernel))
    have S := S.trans s18
    have eX := s18 _ _ eX
    have AA := AA.keep s18
    generalize upd H19 t15 (HO.tup [V.ref t16, V.ref t17]) = H20 at A S eX AA
    clear s18 h18 et16 et17
    refine fun t19 h19 => ⟨upd_same, [(Sum.inr "a", .int 0)], rfl, by show 1 ≤ 15; decide, ?_⟩
    rw [merge_oneV]
    have s19 : Same H20 (upd (upd H20 t19 (HO.dK [])) t19 (HO.dK [(Sum.inr "a", .int 0)])) := fun b u e => by
      have nb := ne_of_none e h19
      rw [upd_ne nb, upd_ne nb]
      exact e
    have A := A.snoc s19 ⟨.dict [(.str "a", .int 0)], .dct (ne_of_none (S _ _ P0) h19).symm upd_same (.cons (.int 0) .nil), gmB_ok (by decide +kernel)⟩
    have S := S.trans s19
    have eX := s19 _ _ eX
    have AA := AA.keep s19
    generalize upd (upd H20 t19 (HO.dK [])) t19 (HO.dK [(Sum.inr "a", .int 0)]) = H21 at A S eX AA
    clear s19 h19
    refine ⟨by show 2 ≤ sizeLine; decide, fun t21 h21 => ?_⟩
    have s21 := same_new (o := HO.tup [V.str "a", V.int 0]) h21
    have et21 : Da K p (upd H21 t21 (HO.tup [V.str "a", V.int 0])) (.ref t21) (.tuple [.str "a", .int 0]) := .tup (.inl (.inl upd_same)) (.cons (.str _) (.cons (.int _) .nil))
    have A := A.keep s21
    have S := S.trans s21
    have eX := s21 _ _ eX
    have AA := AA.keep s21
    generalize upd H21 t21 (HO.tup [V.str "a", V.int 0]) = H22 at A S eX AA et21
    clear s21 h21
    refine ⟨by show 1 ≤ sizeLine; decide, fun t20 h22 nn22 => ?_⟩
    have s22 := same_new (o := HO.lst [V.ref t21]) h22
    have A := A.snoc s22 (pv_l h22 nn22 (.cons et21 .nil) (by decide +kernel))
    have S := S.trans s22
    have eX := s22 _ _ eX
    have AA := AA.keep s22
    generalize upd H22 t20 (HO.lst [V.ref t21]) = H23 at A S eX AA
    clear s22 h22 et21
    refine ⟨_, rfl, by show 2 ≤ sizeLine; decide, fun t23 h23 => ?_⟩
    have s23 := same_new (o := HO.tup [V.str "a", V.int (-1)]) h23
    have A := A.snoc s23 (pv_t (xs := [V.str "a", V.int (-1)]) h23 (.cons (.str _) (.cons (.int _) .nil)) (by decide +kernel))
    have S := S.trans s23
    have eX := s23 _ _ eX
    have AA := AA.keep s23
    generalize upd H23 t23 (HO.tup [V.str "a", V.int (-1)]) = H24 at A S eX AA
    clear s23 h23
    refine ⟨by show 2 ≤ sizeLine; decide, fun t24 h24 => ?_⟩
    have s24 := same_new (o := HO.tup [V.int 0, V.str "a"]) h24
    have A := A.snoc s24 (pv_t (xs := [V.int 0, V.str "a"]) h24 (.cons (.int _) (.cons (.str _) .nil)) (by decide +kernel))
    have S := S.trans s24
    have eX := s24 _ _ eX
    have AA := AA.keep s24
    generalize upd H24 t24 (HO.tup [V.int 0, V.str "a"]) = H25 at A S eX AA
    clear s24 h24
    refine ⟨by show 2 ≤ sizeLine; decide, fun t25 h25 => ?_⟩
    have s25 := same_new (o := HO.tup [V.str "a", V.str "0"]) h25
    have A := A.snoc s25 (pv_t (xs := [V.str "a", V.str "0"]) h25 (.cons (.str _) (.cons (.str _) .nil)) (by decide +kernel))
    have S := S.trans s25
    have eX := s25 _ _ eX
    have AA := AA.keep s25
    generalize upd H25 t25 (HO.tup [V.str "a", V.str "0"]) = H26 at A S eX AA
    clear s25 h25
    refine ⟨by show 7 ≤ sizeLine; decide, fun O2 hO2 => ?_⟩
    generalize hxs : ([] ++ [V.ref t14] ++ [V.ref t15] ++ [V.ref t19] ++ [V.ref t20] ++ [V.ref t23] ++ [V.ref t24] ++ [V.ref t25] : List V) = OA2 at A
    have lA2 : OA2.length = 7 := by rw [← hxs]; rfl
    rw [show ([V.ref t14, V.ref t15, V.ref t19, V.ref t20, V.ref t23, V.ref t24, V.ref t25] : List V) = OA2 from hxs]
    clear hxs
    have sO := same_new (o := HO.lst OA2) hO2
    have A := A.keep sO
    have S := S.trans sO
    have eX := sO _ _ eX
    have AA := AA.keep sO
    have eO2 : upd H26 O2 (HO.lst OA2) O2 = some (HO.lst OA2) := upd_same
    generalize upd H26 O2 (HO.lst OA2) = H27 at A S eX AA eO2
    clear sO hO2
    refine ⟨X1, O2, L1, OA2, rfl, rfl, eX, eO2, by rw [lX, lA2]; decide, fun X2 hX2 => ?_⟩
    have sO := same_new (o := HO.lst (L1 ++ OA2)) hX2
    have AB := (AA.app A).keep sO
    have S := S.trans sO
    have eY : upd H27 X2 (HO.lst (L1 ++ OA2)) X2 = some (HO.lst (L1 ++ OA2)) := upd_same
    have lY : (L1 ++ OA2).length = 32 := by rw [List.length_append, lX, lA2]
    generalize upd H27 X2 (HO.lst (L1 ++ OA2)) = H28 at AB S eY
    generalize L1 ++ OA2 = L2 at AB eY lY
    clear sO hX2 A AA eX lX eO2 lA2
    have AA := AB
    have eX := eY
    have lX := lY
    clear AB eY lY
    refine ⟨_, rfl, _, rfl, p, c, n, .ref X2, L2, rfl, G.same S, by omega, .lst (.inl (.inl eX)), by rw [lX]; decide, by rw [lX]; decide, fun j v H99 hv s99 G99 => ?_⟩
    exact q v H99 (AA.keepP s99 (G.same S) v (List.mem_of_getElem? hv)) ((SameP.of S).trans s99) G99
end
end My
set_option Elab.async false
set_option linter.all false
set_option maxRecDepth 100000
set_option maxHeartbeats 4000000
/-! _law_bent -/
namespace My
open PySem PySem.Spec PyProof.Rows L2
theorem nmS_nameB {x : Str} (h : nmS x = true) : NameOk x := by
  unfold nmS at h
  rw [Bool.and_eq_true, List.all_eq_true] at h
  obtain ⟨h1, h2⟩ := h
  have h1 := of_decide_eq_true h1
  exact ⟨h1.1, h1.2, fun c hc => of_decide_eq_true (h2 c hc)⟩
theorem gm_pair {w1 w2 n : Nat} {d e : PyData} (h : Gm w1 n d) (g : Gm w2 n e) : Gm (w1 + w2 + 2) (n + 1) (.tuple [d, e]) := gm_tup (n := n) (fun z hz => by
  simp only [List.mem_cons, List.not_mem_nil, or_false] at hz
  rcases hz with rfl | rfl
  · exact ⟨w1, h⟩
  · exact ⟨w2, g⟩) (by
  have := h.wt
  have := g.wt
  rw [PyData.weightAll, PyData.weightAll, PyData.weightAll]
  omega)
theorem gm_sh : ∀ {s : Shp}, ShN s → Gm (10 * (lvS s).length - 2) (dpS s) (shD s)
  | .leaf x, h => (gm_name (nmS_nameB h)).mono (by show 8 ≤ 10 * 1 - 2; decide) (Nat.le_refl _)
  | .two a b, h => by
    have h1 := gm_sh h.1
    have h2 := gm_sh h.2
    have k1 := List.length_pos_iff.mpr (lv_ne a)
    have k2 := List.length_pos_iff.mpr (lv_ne b)
    refine (gm_pair (n := max (dpS a) (dpS b)) (h1.mono (Nat.le_refl _) (by omega)) (h2.mono (Nat.le_refl _) (by omega))).mono ?_ ?_
    · show _ ≤ 10 * (lvS a ++ lvS b).length - 2
      rw [List.length_append]
      omega
    · show _ ≤ 1 + max (dpS a) (dpS b)
      omega
theorem gm_pairL {w1 w2 n : Nat} {d e : PyData} (h : Gm w1 n d) (g : Gm w2 n e) : Gm (w1 + w2 + 2) (n + 1) (.list [d, e]) := gm_lst (n := n) (fun z hz => by
  simp only [List.mem_cons, List.not_mem_nil, or_false] at hz
  rcases hz with rfl | rfl
  · exact ⟨w1, h⟩
  · exact ⟨w2, g⟩) (by
  have := h.wt
  have := g.wt
  rw [PyData.weightAll, PyData.weightAll, PyData.weightAll]
  omega)
theorem gm_tri {w1 w2 n : Nat} {d e f : PyData} (h : Gm w1 n d) (g : Gm w2 n e) (i : Gm 8 0 f) : Gm (w1 + w2 + 11) (n + 1) (.tuple [d, e, f]) := gm_tup (n := n) (fun z hz => by
  simp only [List.mem_cons, List.not_mem_nil, or_false] at hz
  rcases hz with rfl | rfl | rfl
  · exact ⟨w1, h⟩
  · exact ⟨w2, g⟩
  · exact ⟨8, i.mono (Nat.le_refl _) (Nat.zero_le _)⟩) (by
  have := h.wt
  have := g.wt
  have := i.wt
  rw [PyData.weightAll, PyData.weightAll, PyData.weightAll, PyData.weightAll]
  omega)
theorem gm_uno {w1 n : Nat} {d : PyData} (h : Gm w1 n d) : Gm (w1 + 1) (n + 1) (.tuple [d]) := gm_tup (n := n) (fun z hz => by
  rw [List.mem_singleton.mp hz]
  exact ⟨w1, h⟩) (by
  have := h.wt
  rw [PyData.weightAll, PyData.weightAll]
  omega)
abbrev bnN : List Str := ["pen", "shape", "at", "way", "part", "some"]
section
variable {P : Program} {w : World} {K : PySem.W.Frag} {mg : Str → Option Value} {base : Heap}
def spBnt (K : PySem.W.Frag) (n : Nat) : Sp := fun vs H Q _ => ∃ (p c : Addr) (m : Nat) (v : V) (s : Shp), vs = [.ref p, v] ∧ PenAt H p c m ∧ m + 4 * (n + 1) ≤ 700000000 ∧ Da K p H v (shD s) ∧ ShN s ∧ dpS s ≤ n ∧ (lvS s).length ≤ 40 ∧
  ∀ v' H', PvV (20 * (lvS s).length + 60) (n + 3) K p H' v' → SameP p H H' → PenAt H' p c (m + 4 * (n + 1)) → Q v' H'
theorem ok_bent {f fD fP fS : Addr} {fd dD dP dS : FuncData} (F : Fun K "_law_bent" "_law_bent" sLBent f fd) (B : Glb mg) (T : Draws P w K mg base fD fP fS dD dP dS) (g : mg "_law_bent" = some (.ref f)) (hk : PySem.W.keepIn K (.ref f) = true) (hb : Binds K fd ["pen", "shape"] []) :
    ∀ n, FnOk P w K mg base CX0 (n + 3) f fd ["pen", "shape"] (spBnt K n)
  | 0 => by
    refine F.ok scLBent (fun vs H Q E h => ?_) (fun cdv A outer s H vs Q E hr h => ?_)
    · obtain ⟨p, c, m, v, s, rfl, _⟩ := h
      rfl
    · obtain ⟨p, c, m, v, s, rfl, G, hm, D, hN, hd, hl, q⟩ := h
      have hr1 := hr.mono (show 1 ≤ 2 by decide)
      have hr2 := hr
      refine ⟨_, pss_cons (ps_if (PW.pt (pw_and (pt_val (pe_callB call_isi (by rfl) B.isi boot_isinstance (pa_cons (pv 1) (pa_cons (pe_bltn (v := .ty "tuple") (by rfl) B.tuple boot_tuple rfl) pa_nil)))) (pw_and1 (pt_cmpR op_gt (pe_call T.oD hr1 (by rfl) T.gD T.kD T.bD .nil pass0 (pa_cons (pv 0) (pa_cons pe_int pa_nil))) pe_int (nomark _))))) (pss_cons ps_no (pss_cons ps_no (pss_cons ps_no (pss_one ps_no)))) pss_nil)
        (pss_cons (ps_set (i := 5) scLBent.nd rfl (.inl rfl) (pe_lst (pa_cons pe_str (pa_cons pe_str (pa_cons pe_str (pa_cons pe_str (pa_cons pe_str (pa_cons pe_str (pa_cons pe_str (pa_cons pe_non (pa_cons pe_int (pa_cons pe_bl (pa_cons (pe_tup (pa_cons pe_str (pa_cons pe_str pa_nil))) (pa_cons (pe_lstN (pa_cons pe_str pa_nil)) (pa_cons (pe_tup pa_nil) (pa_cons pe_dnewK (pa_cons (pv 1) pa_nil)))))))))))))))))
        (pss_one (ps_ret (pe_call T.oP hr2 (by rfl) T.gP T.kP T.bP .nil pass0 (pa_cons (pv 0) (pa_cons (pv 5) pa_nil)))))), ?_⟩
      refine ⟨_, rfl, v, _, _, _, _, rfl, .ty _, da_ty D, kit_ty (kit_tuple _), _, rfl, ?_⟩
      cases s with
      | two a b =>
        have hd : 1 + max (dpS a) (dpS b) ≤ 0 := hd
        omega
      | leaf x =>
        generalize hs0 : Shp.leaf x = s at D hN hd hl q
        have ht : isTup (shD s) = false := by rw [← hs0]; rfl
        rw [ht]
        refine iteF ?_
        refine ⟨by show 2 ≤ sizeLine; decide, fun t1 h1 => ?_⟩
        have s1 := same_new (o := HO.tup [V.str "q", .str "r"]) h1
        have A : PvL 60 3 K p H [.str "q", .str "", .str "A", .str "a b", .str "abcdefgh", .str "abcdefghi", .str "a\n", .non, .int 1, .bl true] := (((((((((PvL.nil.snoc (.refl _) (pv_flat (.str _) (by decide +kernel))).snoc (.refl _) (pv_flat (.str _) (by decide +kernel))).snoc (.refl _) (pv_flat (.str _) (by decide +kernel))).snoc (.refl _) (pv_flat (.str _) (by decide +kernel))).snoc (.refl _) (pv_flat (.str _) (by decide +kernel))).snoc (.refl _) (pv_flat (.str _) (by decide +kernel))).snoc (.refl _) (pv_flat (.str _) (by decide +kernel))).snoc (.refl _) (pv_flat .non (by decide +kernel))).snoc (.refl _) (pv_flat (.int _) (by decide +kernel))).snoc (.refl _) (pv_flat (.bl _) (by decide +kernel))
        have A := A.snoc s1 (pv_t (xs := [V.str "q", .str "r"]) h1 (.cons (.str _) (.cons (.str _) .nil)) (by decide +kernel))
        have S := s1
        generalize upd H t1 (HO.tup [V.str "q", .str "r"]) = J1 at A S
        clear s1
        refine ⟨by show 1 ≤ sizeLine; decide, fun t2 h2 n2 => ?_⟩
        have s1 := same_new (o := HO.lst [V.str "q"]) h2
        have A := A.snoc s1 (pv_l (xs := [V.str "q"]) h2 n2 (.cons (.str _) .nil) (by decide +kernel))
        have S := S.trans s1
        generalize upd J1 t2 (HO.lst [V.str "q"]) = J2 at A S
        clear s1
        refine ⟨by show 0 ≤ sizeLine; decide, fun t3 h3 => ?_⟩
        have s1 := same_new (o := HO.tup []) h3
        have A := A.snoc s1 (pv_t (xs := []) h3 .nil (by decide +kernel))
        have S := S.trans s1
        generalize upd J2 t3 (HO.tup []) = J3 at A S
        clear s1
        refine fun t4 h4 => ?_
        have s1 := same_new (o := HO.dK []) h4
        obtain ⟨⟨_, _, _, PP, _⟩⟩ := id G
        have A := A.snoc s1 ⟨.dict [], .dct (ne_of_none (S _ _ PP) h4).symm upd_same .nil, gmB_ok (by decide +kernel)⟩
        have S := S.trans s1
        generalize upd J3 t4 (HO.dK []) = J4 at A S
        clear s1
        have A : PvL (20 * (lvS s).length + 60) (0 + 3) K p J4 _ := fun v hv => (A v hv).mono (by omega) (by omega)
        have A := A.snoc (.refl _) (v := v) ⟨shD s, da_keep S.keepA D, (gm_sh hN).mono (by omega) (by omega)⟩
        refine ⟨_, rfl, by show 15 ≤ sizeLine; decide, fun O hO => ?_⟩
        generalize hxs : ([V.str "q", .str "", .str "A", .str "a b", .str "abcdefgh", .str "abcdefghi", .str "a\n", .non, .int 1, .bl true] ++ [V.ref t1] ++ [V.ref t2] ++ [V.ref t3] ++ [V.ref t4] ++ [v] : List V) = OA at A
        have lA : OA.length = 15 := by rw [← hxs]; rfl
        rw [show ([V.str "q", .str "", .str "A", .str "a b", .str "abcdefgh", .str "abcdefghi", .str "a\n", .non, .int 1, .bl true, .ref t1, .ref t2, .ref t3, .ref t4, v] : List V) = OA from hxs]
        have s1 := same_new (o := HO.lst OA) hO
        have A := A.keep s1
        have S := S.trans s1
        have eO : upd J4 O (HO.lst OA) O = some (HO.lst OA) := upd_same
        generalize upd J4 O (HO.lst OA) = J5 at A S eO
        refine ⟨_, rfl, _, rfl, p, c, _, .ref O, OA, rfl, G.same S, by omega, .lst (.inl (.inl eO)), by omega, by rw [lA]; decide, fun j u J6 hu s9 G9 => ?_⟩
        exact q u J6 (A.keepP s9 (G.same S) u (List.mem_of_getElem? hu)) ((SameP.of S).trans s9) (G9.mono (by omega))
  | n + 1 => by
    refine F.ok scLBent (fun vs H Q E h => ?_) (fun cdv A outer s H vs Q E hr h => ?_)
    · obtain ⟨p, c, m, v, s, rfl, _⟩ := h
      rfl
    · obtain ⟨p, c, m, v, s, rfl, G, hm, D, hN, hd, hl, q⟩ := h
      have hr1 := hr.mono (show 1 ≤ n + 1 + 2 by omega)
      have hr2 := hr.mono (show 2 ≤ n + 1 + 2 by omega)
      refine ⟨_, pss_cons (ps_if (PW.pt (pw_and (pt_val (pe_callB call_isi (by rfl) B.isi boot_isinstance (pa_cons (pv 1) (pa_cons (pe_bltn (v := .ty "tuple") (by rfl) B.tuple boot_tuple rfl) pa_nil)))) (pw_and1 (pt_cmpR op_gt (pe_call T.oD hr1 (by rfl) T.gD T.kD T.bD .nil pass0 (pa_cons (pv 0) (pa_cons pe_int pa_nil))) pe_int (nomark _)))))
          (pss_cons (ps_par (i := 2) (j := 3) (by rfl) scLBent.nd rfl rfl (by decide) rfl rfl (pa_cons (pe_call T.oD hr1 (by rfl) T.gD T.kD T.bD .nil pass0 (pa_cons (pv 0) (pa_cons pe_int pa_nil))) (pa_cons (pe_call T.oD hr1 (by rfl) T.gD T.kD T.bD .nil pass0 (pa_cons (pv 0) (pa_cons pe_int pa_nil))) pa_nil)) (by rfl))
          (pss_cons (ps_if (pt_cmpR op_eq (pv 3) pe_int (nomark _)) (pss_one (ps_ret (pe_call T.oP hr2 (by rfl) T.gP T.kP T.bP .nil pass0 (pa_cons (pv 0) (pa_cons (pe_lst (pa_cons (pe_callTy call_listN (by rfl) B.list (by decide +kernel) (pa_cons (pv 1) pa_nil)) (pa_cons (pe_op op_catG (pv 1) (pe_tupF (pa_cons pe_str pa_nil))) (pa_cons (pe_slice sl_tupG (pv 1) po_none (po_some pe_int)) (pa_cons (pe_tup (pa_cons (pv 1) pa_nil)) (pa_cons (pe_tup (pa_cons (pe_ix ix_tup (pv 1) pe_int (fun _ _ => rfl)) (pa_cons (pe_ix ix_tup (pv 1) pe_int (fun _ _ => rfl)) pa_nil))) pa_nil)))))) pa_nil))))) pss_nil)
          (pss_cons (ps_set (i := 4) scLBent.nd rfl (.inl rfl) (pe_call (ok_bent F B T g hk hb n) hr (by rfl) g hk hb .nil pass0 (pa_cons (pv 0) (pa_cons (pe_ix ix_tup (pv 1) (pv 2) (fun _ _ => rfl)) pa_nil))))
          (pss_one (ps_ret (pe_ifExp (pt_cmpR op_eq (pv 2) pe_int (nomark _)) (pe_tup (pa_cons (pv 4) (pa_cons (pe_ix ix_tup (pv 1) pe_int (fun _ _ => rfl)) pa_nil))) (pe_tup (pa_cons (pe_ix ix_tup (pv 1) pe_int (fun _ _ => rfl)) (pa_cons (pv 4) pa_nil))))))))) pss_nil)
        (pss_cons (ps_set (i := 5) scLBent.nd rfl (.inl rfl) (pe_lst (pa_cons pe_str (pa_cons pe_str (pa_cons pe_str (pa_cons pe_str (pa_cons pe_str (pa_cons pe_str (pa_cons pe_str (pa_cons pe_non (pa_cons pe_int (pa_cons pe_bl (pa_cons (pe_tup (pa_cons pe_str (pa_cons pe_str pa_nil))) (pa_cons (pe_lstN (pa_cons pe_str pa_nil)) (pa_cons (pe_tup pa_nil) (pa_cons pe_dnewK (pa_cons (pv 1) pa_nil)))))))))))))))))
        (pss_one (ps_ret (pe_call T.oP hr2 (by rfl) T.gP T.kP T.bP .nil pass0 (pa_cons (pv 0) (pa_cons (pv 5) pa_nil)))))), ?_⟩
      refine ⟨_, rfl, v, _, _, _, _, rfl, .ty _, da_ty D, kit_ty (kit_tuple _), _, rfl, ?_⟩
      cases ht : isTup (shD s) with
      | false =>
        refine iteF ?_
        refine ⟨by show 2 ≤ sizeLine; decide, fun t1 h1 => ?_⟩
        have s1 := same_new (o := HO.tup [V.str "q", .str "r"]) h1
        have A : PvL 60 3 K p H [.str "q", .str "", .str "A", .str "a b", .str "abcdefgh", .str "abcdefghi", .str "a\n", .non, .int 1, .bl true] := (((((((((PvL.nil.snoc (.refl _) (pv_flat (.str _) (by decide +kernel))).snoc (.refl _) (pv_flat (.str _) (by decide +kernel))).snoc (.refl _) (pv_flat (.str _) (by decide +kernel))).snoc (.refl _) (pv_flat (.str _) (by decide +kernel))).snoc (.refl _) (pv_flat (.str _) (by decide +kernel))).snoc (.refl _) (pv_flat (.str _) (by decide +kernel))).snoc (.refl _) (pv_flat (.str _) (by decide +kernel))).snoc (.refl _) (pv_flat .non (by decide +kernel))).snoc (.refl _) (pv_flat (.int _) (by decide +kernel))).snoc (.refl _) (pv_flat (.bl _) (by decide +kernel))
        have A := A.snoc s1 (pv_t (xs := [V.str "q", .str "r"]) h1 (.cons (.str _) (.cons (.str _) .nil)) (by decide +kernel))
        have S := s1
        generalize upd H t1 (HO.tup [V.str "q", .str "r"]) = J1 at A S
        clear s1
        refine ⟨by show 1 ≤ sizeLine; decide, fun t2 h2 n2 => ?_⟩
        have s1 := same_new (o := HO.lst [V.str "q"]) h2
        have A := A.snoc s1 (pv_l (xs := [V.str "q"]) h2 n2 (.cons (.str _) .nil) (by decide +kernel))
        have S := S.trans s1
        generalize upd J1 t2 (HO.lst [V.str "q"]) = J2 at A S
        clear s1
        refine ⟨by show 0 ≤ sizeLine; decide, fun t3 h3 => ?_⟩
        have s1 := same_new (o := HO.tup []) h3
        have A := A.snoc s1 (pv_t (xs := []) h3 .nil (by decide +kernel))
        have S := S.trans s1
        generalize upd J2 t3 (HO.tup []) = J3 at A S
        clear s1
        refine fun t4 h4 => ?_
        have s1 := same_new (o := HO.dK []) h4
        obtain ⟨⟨_, _, _, PP, _⟩⟩ := id G
        have A := A.snoc s1 ⟨.dict [], .dct (ne_of_none (S _ _ PP) h4).symm upd_same .nil, gmB_ok (by decide +kernel)⟩
        have S := S.trans s1
        generalize upd J3 t4 (HO.dK []) = J4 at A S
        clear s1
        have A : PvL (20 * (lvS s).length + 60) ((n + 1) + 3) K p J4 _ := fun v hv => (A v hv).mono (by omega) (by omega)
        have A := A.snoc (.refl _) (v := v) ⟨shD s, da_keep S.keepA D, (gm_sh hN).mono (by omega) (by omega)⟩
        refine ⟨_, rfl, by show 15 ≤ sizeLine; decide, fun O hO => ?_⟩
        generalize hxs : ([V.str "q", .str "", .str "A", .str "a b", .str "abcdefgh", .str "abcdefghi", .str "a\n", .non, .int 1, .bl true] ++ [V.ref t1] ++ [V.ref t2] ++ [V.ref t3] ++ [V.ref t4] ++ [v] : List V) = OA at A
        have lA : OA.length = 15 := by rw [← hxs]; rfl
        rw [show ([V.str "q", .str "", .str "A", .str "a b", .str "abcdefgh", .str "abcdefghi", .str "a\n", .non, .int 1, .bl true, .ref t1, .ref t2, .ref t3, .ref t4, v] : List V) = OA from hxs]
        have s1 := same_new (o := HO.lst OA) hO
        have A := A.keep s1
        have S := S.trans s1
        have eO : upd J4 O (HO.lst OA) O = some (HO.lst OA) := upd_same
        generalize upd J4 O (HO.lst OA) = J5 at A S eO
        refine ⟨_, rfl, _, rfl, p, c, _, .ref O, OA, rfl, G.same S, by omega, .lst (.inl (.inl eO)), by omega, by rw [lA]; decide, fun j u J6 hu s9 G9 => ?_⟩
        exact q u J6 (A.keepP s9 (G.same S) u (List.mem_of_getElem? hu)) ((SameP.of S).trans s9) (G9.mono (by omega))
      | true =>
        obtain ⟨a, b, rfl⟩ : ∃ a b, s = .two a b := by
          cases s with
          | leaf x => cases ht
          | two a b => exact ⟨a, b, rfl⟩
        have hd' : 1 + max (dpS a) (dpS b) ≤ n + 1 := hd
        have hlv : (lvS (.two a b)).length = (lvS a).length + (lvS b).length := List.length_append
        refine iteT ⟨_, rfl, p, c, m, 4, rfl, G, by omega, by decide, by decide, fun d H1 d0 d1 sd1 G1 => ⟨_, _, rfl, rfl, _, rfl, ?_⟩⟩
        have D := da_keep (sd1.keepA G) D
        cases decide ((0 : Int) < d) with
        | false =>
          refine iteF ?_
          generalize hs0 : Shp.two a b = s at D hN hd hl q
          refine ⟨by show 2 ≤ sizeLine; decide, fun t1 h1 => ?_⟩
          have s1 := same_new (o := HO.tup [V.str "q", .str "r"]) h1
          have A : PvL 60 3 K p H1 [.str "q", .str "", .str "A", .str "a b", .str "abcdefgh", .str "abcdefghi", .str "a\n", .non, .int 1, .bl true] := (((((((((PvL.nil.snoc (.refl _) (pv_flat (.str _) (by decide +kernel))).snoc (.refl _) (pv_flat (.str _) (by decide +kernel))).snoc (.refl _) (pv_flat (.str _) (by decide +kernel))).snoc (.refl _) (pv_flat (.str _) (by decide +kernel))).snoc (.refl _) (pv_flat (.str _) (by decide +kernel))).snoc (.refl _) (pv_flat (.str _) (by decide +kernel))).snoc (.refl _) (pv_flat (.str _) (by decide +kernel))).snoc (.refl _) (pv_flat .non (by decide +kernel))).snoc (.refl _) (pv_flat (.int _) (by decide +kernel))).snoc (.refl _) (pv_flat (.bl _) (by decide +kernel))
          have A := A.snoc s1 (pv_t (xs := [V.str "q", .str "r"]) h1 (.cons (.str _) (.cons (.str _) .nil)) (by decide +kernel))
          have S := s1
          generalize upd H1 t1 (HO.tup [V.str "q", .str "r"]) = J1 at A S
          clear s1
          refine ⟨by show 1 ≤ sizeLine; decide, fun t2 h2 n2 => ?_⟩
          have s1 := same_new (o := HO.lst [V.str "q"]) h2
          have A := A.snoc s1 (pv_l (xs := [V.str "q"]) h2 n2 (.cons (.str _) .nil) (by decide +kernel))
          have S := S.trans s1
          generalize upd J1 t2 (HO.lst [V.str "q"]) = J2 at A S
          clear s1
          refine ⟨by show 0 ≤ sizeLine; decide, fun t3 h3 => ?_⟩
          have s1 := same_new (o := HO.tup []) h3
          have A := A.snoc s1 (pv_t (xs := []) h3 .nil (by decide +kernel))
          have S := S.trans s1
          generalize upd J2 t3 (HO.tup []) = J3 at A S
          clear s1
          refine fun t4 h4 => ?_
          have s1 := same_new (o := HO.dK []) h4
          obtain ⟨⟨_, _, _, PP, _⟩⟩ := id G1
          have A := A.snoc s1 ⟨.dict [], .dct (ne_of_none (S _ _ PP) h4).symm upd_same .nil, gmB_ok (by decide +kernel)⟩
          have S := S.trans s1
          generalize upd J3 t4 (HO.dK []) = J4 at A S
          clear s1
          have A : PvL (20 * (lvS s).length + 60) ((n + 1) + 3) K p J4 _ := fun v hv => (A v hv).mono (by omega) (by omega)
          have A := A.snoc (.refl _) (v := v) ⟨shD s, da_keep S.keepA D, (gm_sh hN).mono (by omega) (by omega)⟩
          refine ⟨_, rfl, by show 15 ≤ sizeLine; decide, fun O hO => ?_⟩
          generalize hxs : ([V.str "q", .str "", .str "A", .str "a b", .str "abcdefgh", .str "abcdefghi", .str "a\n", .non, .int 1, .bl true] ++ [V.ref t1] ++ [V.ref t2] ++ [V.ref t3] ++ [V.ref t4] ++ [v] : List V) = OA at A
          have lA : OA.length = 15 := by rw [← hxs]; rfl
          rw [show ([V.str "q", .str "", .str "A", .str "a b", .str "abcdefgh", .str "abcdefghi", .str "a\n", .non, .int 1, .bl true, .ref t1, .ref t2, .ref t3, .ref t4, v] : List V) = OA from hxs]
          have s1 := same_new (o := HO.lst OA) hO
          have A := A.keep s1
          have S := S.trans s1
          have eO : upd J4 O (HO.lst OA) O = some (HO.lst OA) := upd_same
          generalize upd J4 O (HO.lst OA) = J5 at A S eO
          refine ⟨_, rfl, _, rfl, p, c, _, .ref O, OA, rfl, G1.same S, by omega, .lst (.inl (.inl eO)), by omega, by rw [lA]; decide, fun j u J6 hu s9 G9 => ?_⟩
          exact q u J6 (A.keepP s9 (G1.same S) u (List.mem_of_getElem? hu)) ((sd1.trans (SameP.of S)).trans s9) (G9.mono (by omega))
        | true =>
          refine iteT ⟨_, rfl, p, c, _, 2, rfl, G1, by omega, by decide, by decide, fun at' H2 a0 a1 s2 G2 => ⟨_, rfl, p, c, _, 5, rfl, G2, by omega, by decide, by decide, fun way H3 w0 w1 s3 G3 => ⟨_, _, rfl, ?_⟩⟩⟩
          have D := da_keep (s3.keepA G2) (da_keep (s2.keepA G1) D)
          have S3 := (sd1.trans s2).trans s3
          obtain ⟨t, x, y, rfl, htt, Dx, Dy⟩ := da_two D
          refine ⟨_, rfl, rfl, _, rfl, ?_⟩
          cases decide (V.int way = V.int 0) with
          | true =>
            have ga := gm_sh hN.1
            have gb := gm_sh hN.2
            have k1 := List.length_pos_iff.mpr (lv_ne a)
            have k2 := List.length_pos_iff.mpr (lv_ne b)
            have gab := gm_sh hN
            have ga' : Gm (10 * (lvS a).length - 2) n (shD a) := ga.mono (Nat.le_refl _) (by omega)
            have gb' : Gm (10 * (lvS b).length - 2) n (shD b) := gb.mono (Nat.le_refl _) (by omega)
            have A : PvL (20 * (lvS (.two a b)).length + 60) (n + 4) K p H3 [] := PvL.nil
            refine iteT ⟨_, rfl, _, rfl, t, _, rfl, htt, fun l1 hl1 nl1 => ?_⟩
            have z1 := same_new (o := HO.lst [x, y]) hl1
            have A := A.snoc z1 ⟨.list [shD a, shD b], .lst nl1 (.inl (.inl upd_same)) (da_keepAll z1.keepA (.cons Dx (.cons Dy .nil))), (gm_pairL ga' gb').mono (by rw [hlv]; omega) (by omega)⟩
            have S := z1
            generalize upd H3 l1 (HO.lst [x, y]) = J1 at A S
            clear z1
            refine ⟨_, rfl, by show 1 ≤ sizeLine; decide, fun u1 ob1 hu1 hb1 => ?_⟩
            have z1 := same_new (o := HO.frz ob1 (.tup [.str "q"])) hu1
            have eu : SqT K (upd J1 u1 (HO.frz ob1 (.tup [.str "q"]))) u1 [.str "q"] := .inl (.inr ⟨ob1, upd_same⟩)
            have A := A.keep z1
            have S := S.trans z1
            generalize upd J1 u1 (HO.frz ob1 (.tup [.str "q"])) = J2 at A S eu
            clear z1
            refine cat_toG (S.keeps.t _ _ htt) eu (by show 2 + 1 ≤ sizeLine; decide) (fun z => nomatch z) (fun z => nomatch z) fun c4 J3 z2 e4 _ => ?_
            have S2 := S.trans z2
            have A := A.snoc z2 ⟨.tuple [shD a, shD b, .str "q"], .tup e4 (.cons (da_keep S2.keepA Dx) (.cons (da_keep S2.keepA Dy) (.cons (.str _) .nil))), (gm_tri ga' gb' (gmB_ok (by decide +kernel))).mono (by rw [hlv]; omega) (by omega)⟩
            clear S z2 e4 eu
            refine ⟨_, rfl, _, rfl, .inr ⟨t, [x, y], rfl, S2.keeps.t _ _ htt, fun z => absurd (show (1 : Nat) = 2 from z.2) (by decide), fun c5 ob5 h5 d5 => ?_⟩⟩
            have ec : cutV [x, y] none (some (1 : Int)) = [x] := rfl
            rw [ec]
            have z1 := same_new (o := HO.frz ob5 (.tup [x])) h5
            have A := A.snoc (v := .ref c5) z1 ⟨.tuple [shD a], .tup (.inl (.inr ⟨ob5, upd_same⟩)) (.cons (da_keep (S2.trans z1).keepA Dx) .nil), (gm_uno ga').mono (by rw [hlv]; omega) (by omega)⟩
            have S := S2.trans z1
            generalize upd J3 c5 (HO.frz ob5 (.tup [x])) = J4 at A S
            clear z1 S2
            refine ⟨_, rfl, by show 1 ≤ sizeLine; decide, fun t6 h6 => ?_⟩
            have z1 := same_new (o := HO.tup [.ref t]) h6
            have A := A.snoc (v := .ref t6) z1 ⟨.tuple [shD (.two a b)], .tup (.inl (.inl upd_same)) (.cons (da_keep (S.trans z1).keepA D) .nil), (gm_uno gab).mono (by omega) (by omega)⟩
            have S := S.trans z1
            generalize upd J4 t6 (HO.tup [.ref t]) = J5 at A S
            clear z1
            refine ⟨_, rfl, t, _, 0, x, rfl, rfl, S.keeps.t _ _ htt, atI_nat (j := 0) rfl, _, rfl, t, _, 0, x, rfl, rfl, S.keeps.t _ _ htt, atI_nat (j := 0) rfl, by show 2 ≤ sizeLine; decide, fun t7 h7 => ?_⟩
            have z1 := same_new (o := HO.tup [x, x]) h7
            have A := A.snoc (v := .ref t7) z1 ⟨.tuple [shD a, shD a], .tup (.inl (.inl upd_same)) (.cons (da_keep (S.trans z1).keepA Dx) (.cons (da_keep (S.trans z1).keepA Dx) .nil)), (gm_pair ga' ga').mono (by rw [hlv]; omega) (by omega)⟩
            have S := S.trans z1
            generalize upd J5 t7 (HO.tup [x, x]) = J6 at A S
            clear z1
            refine ⟨by show 5 ≤ sizeLine; decide, fun O hO => ?_⟩
            generalize hxs : ([] ++ [V.ref l1] ++ [V.ref c4] ++ [V.ref c5] ++ [V.ref t6] ++ [V.ref t7] : List V) = OA at A
            have lA : OA.length = 5 := by rw [← hxs]; rfl
            rw [show ([V.ref l1, .ref c4, .ref c5, .ref t6, .ref t7] : List V) = OA from hxs]
            have z1 := same_new (o := HO.lst OA) hO
            have A := A.keep z1
            have S := S.trans z1
            have eO : upd J6 O (HO.lst OA) O = some (HO.lst OA) := upd_same
            generalize upd J6 O (HO.lst OA) = J7 at A S eO
            refine ⟨p, c, _, .ref O, OA, rfl, G3.same S, by omega, .lst (.inl (.inl eO)), by omega, by rw [lA]; decide, fun j u J8 hu s9 G9 => ?_⟩
            exact q u J8 (A.keepP s9 (G3.same S) u (List.mem_of_getElem? hu)) ((S3.trans (SameP.of S)).trans s9) (G9.mono (by omega))
          | false =>
            refine iteF ?_
            have k1 := List.length_pos_iff.mpr (lv_ne a)
            have k2 := List.length_pos_iff.mpr (lv_ne b)
            have ga := gm_sh hN.1
            have gb := gm_sh hN.2
            by_cases ea : at' = 0
            · subst ea
              refine ⟨_, rfl, _, rfl, _, rfl, t, _, 0, x, rfl, rfl, htt, atI_nat (j := 0) rfl, p, c, _, x, a, rfl, G3, by omega, Dx, hN.1, by omega, by omega, fun v' H4 ⟨d4, a4, g4⟩ s4 G4 => ?_⟩
              have htt := s4.keepsT G3 _ _ htt
              have Dy := da_keep (s4.keepA G3) Dy
              refine ⟨_, rfl, rfl, _, rfl, iteT ⟨_, rfl, _, rfl, t, _, 1, y, rfl, rfl, htt, atI_nat (j := 1) rfl, by show 2 ≤ sizeLine; decide, fun t9 h9 => ?_⟩⟩
              have s9 := same_new (o := HO.tup [v', y]) h9
              exact q _ _ ⟨.tuple [d4, shD b], .tup (.inl (.inl upd_same)) (.cons (da_keep s9.keepA a4) (.cons (da_keep s9.keepA Dy) .nil)), (gm_pair (n := n + 3) g4 (gb.mono (Nat.le_refl _) (by omega))).mono (by rw [hlv]; omega) (by omega)⟩ ((S3.trans s4).trans (SameP.of s9)) ((G4.same s9).mono (by omega))
            · have e1 : at' = 1 := by omega
              subst e1
              refine ⟨_, rfl, _, rfl, _, rfl, t, _, 1, y, rfl, rfl, htt, atI_nat (j := 1) rfl, p, c, _, y, b, rfl, G3, by omega, Dy, hN.2, by omega, by omega, fun v' H4 ⟨d4, a4, g4⟩ s4 G4 => ?_⟩
              have htt := s4.keepsT G3 _ _ htt
              have Dx := da_keep (s4.keepA G3) Dx
              refine ⟨_, rfl, rfl, _, rfl, iteF ⟨_, rfl, t, _, 0, x, rfl, rfl, htt, atI_nat (j := 0) rfl, _, rfl, by show 2 ≤ sizeLine; decide, fun t9 h9 => ?_⟩⟩
              have s9 := same_new (o := HO.tup [x, v']) h9
              exact q _ _ ⟨.tuple [shD a, d4], .tup (.inl (.inl upd_same)) (.cons (da_keep s9.keepA Dx) (.cons (da_keep s9.keepA a4) .nil)), (gm_pair (n := n + 3) (ga.mono (Nat.le_refl _) (by omega)) g4).mono (by rw [hlv]; omega) (by omega)⟩ ((S3.trans s4).trans (SameP.of s9)) ((G4.same s9).mono (by omega))
end
end My
set_option Elab.async false
set_option linter.all false
set_option maxRecDepth 100000
set_option maxHeartbeats 4000000
/-! a def is called while a list is not looked at (it is being filled) -/
namespace My
open PySem PySem.Spec PyProof.Rows L2
/-- the promise, or the promise of the heap without a list, which comes back as it was -/
def spFr (sp : Sp) : Sp := fun vs H Q E => sp vs H Q E ∨ ∃ (L : Addr) (ls : List V) (H0 : Hp), H0 L = none ∧ H = upd H0 L (.lst ls) ∧ sp vs H0 (fun v H' => H' L = none → Q v (upd H' L (.lst ls))) E
section
variable {P : Program} {w : World} {K : PySem.W.Frag} {mg : Str → Option Value} {base : Heap}
theorem fn_frame {k : Nat} {f : Addr} {fd : FuncData} {ps : List Str} {sp : Sp} (F : FnOk P w K mg base CX0 k f fd ps sp) : FnOk P w K mg base CX0 k f fd ps (spFr sp) := by
  refine ⟨fun vs H Q E h => ?_, fun A outer s H args us vs Q E hr he hb hv hs => ?_⟩
  · rcases h with h | ⟨L, ls, H0, _, _, h⟩
    · exact F.len _ _ _ _ h
    · exact F.len _ _ _ _ h
  · rcases hs with hs | ⟨L, ls, H0, nL, rfl, hs⟩
    · exact F.run A outer s H args us vs Q E hr he hb hv hs
    have eL : (upd H0 L (.lst ls)) L = some (.lst ls) := upd_same
    have oth : ∀ {b : Addr} {o : HO}, H0 b = some o → b ≠ L := fun e => ne_of_none e nL
    have nn : ∀ {b : Addr}, (upd H0 L (.lst ls)) b = none → H0 b = none ∧ b ≠ L := fun {b} e => by
      by_cases z : b = L
      · rw [z, eL] at e; cases e
      · exact ⟨by rw [upd_ne z] at e; exact e, z⟩
    have ok0 : HOk P w H0 s.heap := fun a o e => by
      have ne := oth e
      have x := he.hok a o (by rw [upd_ne ne]; exact e)
      refine x.stay (fun _ _ _ q => q) (fun b q => ?_) (fun b xs q => ?_)
      · by_cases z : b = L
        · rw [z, eL] at q; cases q
        · rw [upd_ne z] at q; exact q
      · by_cases z : b = L
        · rw [z, eL] at q; cases q
        · rw [upd_ne z] at q; exact q
    have he0 : Env0 P w K mg base A outer s H0 := ⟨he.frames, he.mod, fun b o e => ⟨(he.bs b o e).1, (nn (he.bs b o e).2).1⟩, he.bsz, he.funs, fun b hb => (nn (he.frf b hb)).1, ok0, he.bare⟩
    have okL := he.hok L _ eL
    obtain ⟨zl, its, n, rv, gL⟩ : ls.length ≤ sizeLine ∧ ∃ (its : List Value) (n : Nat), Vals ls its ∧ s.heap.get? L = some { cls := .type "list", data := .seq its.toArray n } := okL
    have nfr : L ∉ frs outer := fun hm => by
      have := he.frf L hm
      rw [eL] at this
      cases this
    refine codeAny_mono (F.run A outer s H0 args us vs _ E hr he0 hb hv hs) fun r s' h => ?_
    match r, h with
    | .ok (.ret u), h =>
      obtain ⟨v, H', os, bare, un, hok, rl, q⟩ := h
      have gL' := un.keep L _ gL nL nfr (fun z => nomatch z)
      have fL := un.free L _ gL nL (fun z => nomatch z)
      refine ⟨v, upd H' L (.lst ls), os, bare, ⟨fun b o e n1 n2 n3 => un.keep b o e (nn n1).1 n2 n3, fun b o e n1 n2 n3 => un.slot b o e (nn n1).1 n2 n3, fun b o e n1 n2 => ?_, un.there, fun b xs e => ?_, fun b o u e => ?_, fun b pq e => ?_⟩, fun a o e => ?_, rl, q fL⟩
      · rw [upd_ne (nn n1).2]
        exact un.free b o e (nn n1).1 n2
      · by_cases z : b = L
        · rw [z, eL] at e; cases e
        · rw [upd_ne z] at e ⊢
          exact un.tups b xs e
      · by_cases z : b = L
        · rw [z, eL] at e; cases e
        · rw [upd_ne z] at e ⊢
          exact un.frzs b o u e
      · by_cases z : b = L
        · rw [z, eL] at e; cases e
        · rw [upd_ne z] at e ⊢
          exact un.tbls b pq e
      · by_cases z : a = L
        · subst z
          rw [upd_same] at e
          cases e
          exact ⟨zl, its, n, rv, gL'⟩
        · rw [upd_ne z] at e
          exact (hok a o e).stay (fun _ _ _ q => q) (fun b q => by rw [upd_ne (ne_of_none q fL)]; exact q) fun b xs q => by rw [upd_ne (ne_of_none q fL)]; exact q
    | .ok .next, h => exact h
    | .ok .brk, h => exact h
    | .ok .cont, h => exact h
    | .error _, h => exact h
end
theorem upd_twice {H : Hp} {L : Addr} {o u : HO} : upd (upd H L o) L u = upd H L u := by
  funext b
  by_cases z : b = L
  · rw [z, upd_same, upd_same]
  · rw [upd_ne z, upd_ne z, upd_ne z]
end My
set_option Elab.async false
set_option linter.all false
set_option maxRecDepth 100000
set_option maxHeartbeats 4000000
/-! what stays where tables of code objects grow -/
namespace My
open PySem PySem.Spec PyProof.Rows L2 LamX
theorem tabs_none {q : Str} {P : Addr} {H : Hp} (h : H P = some (.tbl #[])) : Tabs [(P, q)] H := fun p hp => by
  rw [List.mem_singleton.mp hp]
  exact ⟨#[], h, by trivial, fun pos cv z => by cases z⟩
theorem tabs_at {T : List (Addr × Str)} {H H' : Hp} {p : Addr} (h : Tabs T H) (s : ∀ b o, b ≠ p → H b = some o → H' b = some o) (np : ∀ ps, H p ≠ some (.tbl ps)) (nc : ∀ g, H p ≠ some (.ext g)) : Tabs T H' := fun t ht => by
  obtain ⟨ps, h1, h2, h3⟩ := h t ht
  refine ⟨ps, s _ _ (fun z => np ps (z ▸ h1)) h1, h2, fun pos cv hc => ?_⟩
  obtain ⟨c, e1, e2⟩ := h3 pos cv hc
  exact ⟨c, e1, s _ _ (fun z => nc _ (z ▸ e2)) e2⟩
theorem tabs_pen {T : List (Addr × Str)} {H H' : Hp} {p c : Addr} {n : Nat} (h : Tabs T H) (G : PenAt H p c n) (s : SameP p H H') : Tabs T H' := by
  obtain ⟨ns, t, r, e, _⟩ := G.ex
  exact tabs_at h s (fun ps z => by rw [e] at z; cases z) (fun g z => by rw [e] at z; cases z)
theorem PenAt.ext {H H' : Hp} {p c : Addr} {n : Nat} (G : PenAt H p c n) (s : ExtN H H') : PenAt H' p c n := by
  obtain ⟨ns, t, r, e1, e2, r3⟩ := G.ex
  exact ⟨ns, t, r, s _ _ e1 (fun ps z => by cases z), s _ _ e2 (fun ps z => by cases z), r3⟩
theorem extN_bare {H H' : Hp} {a : Addr} (s : ExtN H H') (h : BareT H a) : BareT H' a := by
  obtain ⟨ob, xs, e, d⟩ := h
  exact ⟨ob, xs, s _ _ e (fun ps z => by cases z), d⟩
theorem extN_t {K : PySem.W.Frag} {H H' : Hp} (e : ExtN H H') {a : Addr} {xs : List V} (h : SqT K H a xs) : SqT K H' a xs := by
  rcases h with (h | ⟨ob, h⟩) | h
  · exact .inl (.inl (e _ _ h fun ps z => by cases z))
  · exact .inl (.inr ⟨ob, e _ _ h fun ps z => by cases z⟩)
  · exact .inr h
theorem extN_l {K : PySem.W.Frag} {H H' : Hp} (e : ExtN H H') {a : Addr} {xs : List V} (h : SqL K H a xs) : SqL K H' a xs := by
  rcases h with (h | ⟨ob, h⟩) | h
  · exact .inl (.inl (e _ _ h fun ps z => by cases z))
  · exact .inl (.inr ⟨ob, e _ _ h fun ps z => by cases z⟩)
  · exact .inr h
theorem extN_keepA {K : PySem.W.Frag} {p : Addr} {H H' : Hp} (e : ExtN H H') : KeepA K p H H' := ⟨fun _ _ h => extN_l e h, fun _ _ h => extN_t e h, fun _ _ _ h => e _ _ h fun ps z => by cases z⟩
theorem GdV.ext {m1 m2 : Nat} {K : PySem.W.Frag} {p : Addr} {H H' : Hp} {v : V} (h : GdV m1 m2 K p H v) (s : ExtN H H') : GdV m1 m2 K p H' v := let ⟨d, a, b, c⟩ := h; ⟨d, da_keep (extN_keepA s) a, b, fun z => let ⟨x, y, q⟩ := c z; ⟨x, y, extN_bare s q⟩⟩
theorem GdL.ext {m1 m2 : Nat} {K : PySem.W.Frag} {p : Addr} {H H' : Hp} {xs : List V} (h : GdL m1 m2 K p H xs) (s : ExtN H H') : GdL m1 m2 K p H' xs := fun v hv => (h v hv).ext s
end My
set_option Elab.async false
set_option linter.all false
set_option maxRecDepth 100000
set_option maxHeartbeats 4000000
/-! defs whose code object is known: a lambda is made in them -/
namespace My
open PySem PySem.Spec PyProof.Rows L2
/-- a def whose code object is known -/
structure FunC (K : PySem.W.Frag) (x qual : Str) (st : Stmt) (f : Addr) (fd : FuncData) (c : Addr) : Prop where
  ex : ∃ (oc : Value) (od : Option Addr) (kV doc pm : Value) (an : Option Addr) (ct : Value) (osl : Array (Option Value)),
    fd = PySem.W.fnOf x qual (defArgs st) (defBody st) (defScope st) .none kV doc pm an (.ref c) ct ∧ K.lookup f = some ⟨oc, od, .func fd, osl⟩ ∧ PySem.W.codeIn K (.ref c) qual = true
section
variable {P : Program} {w : World} {K : PySem.W.Frag} {mg : Str → Option Value} {base : Heap}
theorem FunC.ok {x qual : Str} {st : Stmt} {f c : Addr} {fd : FuncData} {N ps : List Str} {k : Nat} {sp : Sp} (F : FunC K x qual st f fd c) (S : FnScope N ps (defScope st)) (len : ∀ vs H Q E, sp vs H Q E → vs.length = ps.length)
    (hbody : ∀ (A : Around) (outer : List Env) (s : Shared) (H : Hp) (vs : List V) (Q : VK) (E : XK), Room k (A.deeper (envOfC qual (defScope st) s.heap.objs.size f (.ref c))) → sp vs H Q E →
      ∃ t, PSs (cxOf CX0 P w K mg base N qual (defScope st) f (.ref c) A outer s H E).nox (defBody st) t ∧ t { nx := fun _ H' => Q .non H', rt := Q } (start N vs) H) : FnOk P w K mg base CX0 (k + 1) f fd ps sp := by
  obtain ⟨oc, od, kV, doc, pm, an, ct, osl, rfl, lk, hcd⟩ := F.ex
  refine fn_of lk hcd S len fun A outer s H vs Q E hr hsp => ?_
  obtain ⟨t, h, q⟩ := hbody A outer s H vs Q E hr hsp
  exact ⟨t, h.nox, q⟩
/-- the same of a def that shows values -/
theorem FunC.okG {x qual : Str} {st : Stmt} {f c : Addr} {fd : FuncData} {N ps : List Str} {k : Nat} {sp : Sp} (F : FunC K x qual st f fd c) (S : FnScope N ps (defScope st)) (len : ∀ vs H Q E, sp vs H Q E → vs.length = ps.length)
    (hbody : ∀ (A : Around) (outer : List Env) (s : Shared) (H : Hp) (vs : List V) (Q : VK) (E : XK), Still A → Room k (A.deeper (envOfC qual (defScope st) s.heap.objs.size f (.ref c))) → sp vs H Q E →
      ∃ t, PSs (cxOf CX0 P w K mg base N qual (defScope st) f (.ref c) A outer s H E).nox (defBody st) t ∧ t { nx := fun _ H' => Q .non H', rt := Q } (start N vs) H) : FnG P w K mg base CX0 (k + 1) f fd ps sp := by
  obtain ⟨oc, od, kV, doc, pm, an, ct, osl, rfl, lk, hcd⟩ := F.ex
  refine fn_ofG lk hcd S len fun A outer s H vs Q E sl hr hsp => ?_
  obtain ⟨t, h, q⟩ := hbody A outer s H vs Q E sl hr hsp
  exact ⟨t, h.nox, q⟩
end
end My
set_option Elab.async false
set_option linter.all false
set_option maxRecDepth 100000
set_option maxHeartbeats 4000000
/-! a != b, both None, or tuples of the same flat items -/
namespace My
open PySem PySem.Spec PyProof.Rows L2
def SameV (K : PySem.W.Frag) (H : Hp) (x y : V) : Prop := (x = .non ∧ y = .non) ∨ ∃ a b, ∃ xs : List V, x = .ref a ∧ y = .ref b ∧ SqT K H a xs ∧ SqT K H b xs ∧ ∀ v ∈ xs, flatB v = true
def rNeS (K : PySem.W.Frag) : R2 := fun x y H Q => SameV K H x y ∧ Q (.bl false) H
theorem op_neS {X : Cx} (hu : X.A.units + 64 < cLine) : OpR X (compareOp .NotEq) (rNeS X.K) := by
  intro pins s σ H x y v u Q I rx ry ⟨h, q⟩
  rcases h with ⟨rfl, rfl⟩ | ⟨a, b, xs, rfl, rfl, ha, hb, fl⟩
  · cases (show v = Value.none from rx)
    cases (show u = Value.none from ry)
    exact SeqAt.RcNeAt.none_none _ _ _ _ ⟨.bl false, H, I, rfl, q⟩
  · cases (show v = Value.ref a from rx)
    cases (show u = Value.ref b from ry)
    obtain ⟨its, r1, p1, _⟩ := I.tuple ha
    obtain ⟨its2, r2, p2, _⟩ := I.tuple hb
    have l1 := r1.length
    have l2 := r2.length
    have he : ∀ j (h1 : j < its.toArray.size) (h2 : j < its2.toArray.size), SeqAt.EqAt X.A.in1 s its.toArray[j] its2.toArray[j] ((fun _ => true) j) := fun j h1 h2 => by
      have h1' : j < its.length := by simpa using h1
      have h2' : j < its2.length := by simpa using h2
      have hx : xs[j]? = some xs[j] := List.getElem?_eq_getElem (by omega)
      obtain ⟨w1, e1, q1⟩ := r1.get hx
      obtain ⟨w2, e2, q2⟩ := r2.get hx
      have z1 : its.toArray[j] = w1 := by
        have := (List.getElem?_eq_some_iff.mp e1).2
        simpa using this
      have z2 : its2.toArray[j] = w2 := by
        have := (List.getElem?_eq_some_iff.mp e2).2
        simpa using this
      rw [z1, z2]
      exact eqAt_same q1 q2 (fl _ (List.mem_of_getElem? hx))
    have e : (!((List.range (min its.toArray.size its2.toArray.size)).all (fun _ => true) && its.toArray.size == its2.toArray.size)) = false := by
      have : its.length = its2.length := by omega
      simp [this]
    have R := SeqAt.RcNeAt.tuples (A := X.A) (s := s) p1 p2 (by omega) he
    rw [e] at R
    exact R _ _ _ _ ⟨.bl false, H, I, rfl, q⟩
end My
set_option Elab.async false
set_option linter.all false
set_option maxRecDepth 100000
set_option maxHeartbeats 4000000
/-! o == value, o != value, o of an own class with __eq__ (and no __ne__) -/
namespace My
open PySem PySem.Spec PyProof.Rows L2
section
variable {prog : Program} {w : World} {A : Around} {E : Value → Shared → Prop} {s : Shared} {K : PySem.W.Frag} {x C f : Addr} {ox : Obj} {od : Option Obj}
/-- what is found along the class and bound -/
theorem if_bound {name : Str} {g : Value} {Q : Option (Value × List Value) → Shared → Prop} (X : K.In s.heap) (I : PySem.W.InstAt s.heap x ox C od) (hs : PySem.W.findIn K (.ref C) name = some (some g))
    (hb : PySem.W.Looks (model prog w) s.heap (bindSpecial g (.ref x)) (g, [.ref x])) (h : Q (some (g, [.ref x])) s) : wpAny (model prog w) A (bindSpecialIfBound? (.ref x) name) Q E s := by
  have sp : PySem.W.Looks (model prog w) s.heap (specialOf (.ref x) name) (some g) := I.type.andThen (PySem.W.looks_findIn X hs)
  unfold bindSpecialIfBound?
  refine wpAny_bind (sp.here ?_)
  refine wpAny_bind (wpAny_askSetting ?_)
  dsimp only []
  split
  · exact wpAny_bind (hb.here (wpAny_pure h))
  · exact wpAny_tryCatch (wpAny_bind (hb.here (wpAny_pure h)))
theorem call_bound {name : Str} {g y : Value} {Q : Option Value → Shared → Prop} (X : K.In s.heap) (I : PySem.W.InstAt s.heap x ox C od) (hs : PySem.W.findIn K (.ref C) name = some (some g))
    (hb : PySem.W.Looks (model prog w) s.heap (bindSpecial g (.ref x)) (g, [.ref x])) (h : wpAny (model prog w) A (call g [.ref x, y]) (fun v s' => Q (some v) s') E s) : wpAny (model prog w) A (callSpecialIfBound? (.ref x) name [y]) Q E s := by
  unfold callSpecialIfBound?
  refine wpAny_holding (wpAny_bind (if_bound X I hs hb ?_))
  exact wpAny_bind (wpAny_mono h (fun r s' z => wpAny_pure z) fun _ _ z => z)
theorem bound_fn (X : K.In s.heap) (hf : PySem.W.isFn K (.ref f) = true) (self : Value) : PySem.W.Looks (model prog w) s.heap (bindSpecial (.ref f) self) (.ref f, [self]) := PySem.W.bind_fn X _ (beq_iff_eq.mp hf)
/-- the way of == and != to the left one's own -/
theorem rc_left {op : CmpOp} {g y tb : Value} {Q : Value → Shared → Prop} (hu : A.units < cLine) (X : K.In s.heap) (I : PySem.W.InstAt s.heap x ox C od) (ty : PySem.W.Looks (model prog w) s.heap (typeOf y) tb) (nf : PySem.W.notFirst K C tb = true)
    (hs : PySem.W.findIn K (.ref C) (cmpInfo op).2.1 = some (some g)) (hb : PySem.W.Looks (model prog w) s.heap (bindSpecial g (.ref x)) (g, [.ref x]))
    (h : wpAny (model prog w) A (call g [.ref x, y]) (fun r s' => ∃ b, r = .bool b ∧ Q (.bool b) s') E s) : wpAny (model prog w) A (richCompare op (.ref x) y) Q E s := by
  unfold richCompare
  refine wpAny_holding (wpAny_bind (wpAny_cRoomFor_or (.inr hu) ?_))
  have e1 : oneThing? op (.ref x) y = none := by
    unfold oneThing?
    rfl
  rw [e1]
  dsimp only []
  have key : wpAny (model prog w) A (tryCompare (.ref x) (cmpInfo op).2.1 y) (fun r s' => ∃ b, r = some (.bool b) ∧ Q (.bool b) s') E s := by
    unfold tryCompare
    refine wpAny_bind (call_bound X I hs hb (wpAny_mono h (fun r s' z => ?_) fun _ _ z => z))
    obtain ⟨b, rfl, q⟩ := z
    exact wpAny_pure ⟨b, rfl, q⟩
  refine wpAny_bind (I.type.here (wpAny_bind (ty.here ?_)))
  by_cases ne : ((Value.ref C) != tb) = true
  · rw [if_pos ne]
    have hsub : PySem.W.subIn K tb (.ref C) = some false := by
      unfold PySem.W.notFirst at nf
      rcases Bool.or_eq_true_iff.mp nf with z | z
      · rw [eq_of_beq z] at ne
        simp at ne
      · exact eq_of_beq z
    refine wpAny_bind ((PySem.W.looks_subIn X hsub).here ?_)
    rw [if_neg Bool.false_ne_true]
    refine wpAny_bind (wpAny_mono key (fun r s' z => ?_) fun _ _ z => z)
    obtain ⟨b, rfl, q⟩ := z
    exact wpAny_pure q
  · rw [if_neg ne]
    refine wpAny_bind (wpAny_pure ?_)
    rw [if_neg Bool.false_ne_true]
    refine wpAny_bind (wpAny_mono key (fun r s' z => ?_) fun _ _ z => z)
    obtain ⟨b, rfl, q⟩ := z
    exact wpAny_pure q
/-- object.__ne__ of an own instance whose class has an own __eq__ -/
theorem call_objNe {y : Value} {Q : Value → Shared → Prop} (hu : A.units + 1 < cLine) (X : K.In s.heap) (I : PySem.W.InstAt s.heap x ox C od) (sub : PySem.W.subIn K (.ref C) (.type "object") = some true)
    (hs : PySem.W.findIn K (.ref C) "__eq__" = some (some (.ref f))) (hf : PySem.W.isFn K (.ref f) = true)
    (h : wpAny (model prog w) A.in1 (call (.ref f) [.ref x, y]) (fun r s' => ∃ b, r = .bool b ∧ Q (.bool !b) s') E s) : wpAny (model prog w) A (call (.builtin "object.__ne__") [.ref x, y]) Q E s := by
  refine wpAny_call ?_
  refine codeAny_call_builtin (b := Builtin.«object.__ne__») PySem.F.slot_object_ne.plain PySem.F.entry_object_ne ?_
  have ck : ∀ {B : Around} {E' : Value → Shared → Prop} {Q' : Unit → Shared → Prop}, Q' () s → wpAny (model prog w) B (checkBuiltinCall "object.__ne__" ⟨[.ref x, y], []⟩) Q' E' s := fun {B E' Q'} q => by
    unfold checkBuiltinCall
    rw [show builtinKind "object.__ne__" = some .slot by decide +kernel, show splitId "object.__ne__" = some ("object", "__ne__") by decide +kernel]
    dsimp only []
    have inst : PySem.W.Looks (model prog w) s.heap (isInstance (.ref x) (.type "object")) true := I.type.andThen (PySem.W.looks_subIn X sub)
    refine wpAny_bind (inst.here ?_)
    rw [if_neg (by decide)]
    have ao := PySem.F.args_object_ne_2 (.ref x) y
    unfold argsOk at ao
    exact wpAny_of_eq ao q
  refine ck ?_
  unfold Builtin.«object.__ne__»
  refine wpAny_bind (m := slotArgs "__ne__" 1 ⟨[.ref x, y], []⟩) (wpAny_of_eq (rfl : slotArgs "__ne__" 1 ⟨[.ref x, y], []⟩ = pure (.ref x, [y])) ?_)
  dsimp only []
  refine wpAny_bind (wpAny_cRoomFor_or (.inr (by show A.units + 1 < cLine; exact hu)) ?_)
  refine wpAny_bind (call_bound X I hs (bound_fn X hf _) (wpAny_mono h (fun r s' z => ?_) fun _ _ z => z))
  obtain ⟨b, rfl, q⟩ := z
  refine wpAny_bind (wpAny_truthy_bool ?_)
  exact wpAny_pure q
end
section
variable {X : Cx} {k : Nat} {C f : Addr} {fd : FuncData} {ps : List Str} {sp : Sp}
/-- o == value, o != value -/
def rOwnCmp (K : PySem.W.Frag) (C : Addr) (sp : Sp) (neg : Bool) : R2 := fun x y H Q => ∃ a dx fs t, x = .ref a ∧ H a = some (.ins C dx fs) ∧ TyX K H y t ∧ PySem.W.notFirst K C t = true ∧ sp [.ref a, y] H (fun r H' => ∃ b, r = .bl b ∧ Q (.bl (if neg then !b else b)) H') E0
theorem op_eqOwn (F : FnOk X.prog X.w X.K X.mg X.base CX0 k f fd ps sp) (hr : Room k X.A) (hb : Binds X.K fd ps []) (hs : PySem.W.findIn X.K (.ref C) "__eq__" = some (some (.ref f))) (hf : PySem.W.isFn X.K (.ref f) = true) : OpR X (compareOp .Eq) (rOwnCmp X.K C sp false) := by
  intro pins s σ H x y v u Q I rx ry ⟨a, dx, fs, t, ex, ha, ty, nf, h⟩
  subst ex
  cases rx
  obtain ⟨mA, ob, _⟩ := ins_get I.hok ha
  obtain ⟨od, J, _⟩ := ob.look
  obtain ⟨P, kx, hp, _⟩ := kit_of I ry ty
  have hu := hr.un
  have hu1 : X.A.units < cLine := by omega
  show wpAny (model X.prog X.w) X.A (richCompare .Eq (.ref a) u) _ _ s
  refine rc_left (op := .Eq) (g := .ref f) hu1 I.kIn J (kx.ty _ _ I.kIn hp) nf hs (bound_fn I.kIn hf _) (wpAny_mono (wpAny_call (run_fnR (F.raw hb .nil) hr pass0 I (us := [.ref a, u]) (vs := [.ref a, y]) (.cons rfl (.cons ry .nil)) h)) (fun r s' z => ?_) fun _ _ z => z)
  obtain ⟨w, H', I', rw', b, rfl, q⟩ := z
  cases rw'
  exact ⟨b, rfl, .bl b, H', I', rfl, q⟩
theorem op_neOwn (F : FnOk X.prog X.w X.K X.mg X.base CX0 k f fd ps sp) (hr : Room (k + 1) X.A) (hb : Binds X.K fd ps []) (hs : PySem.W.findIn X.K (.ref C) "__eq__" = some (some (.ref f))) (hf : PySem.W.isFn X.K (.ref f) = true)
    (hn : PySem.W.findIn X.K (.ref C) "__ne__" = some (some (.builtin "object.__ne__"))) (sub : PySem.W.subIn X.K (.ref C) (.type "object") = some true) : OpR X (compareOp .NotEq) (rOwnCmp X.K C sp true) := by
  intro pins s σ H x y v u Q I rx ry ⟨a, dx, fs, t, ex, ha, ty, nf, h⟩
  subst ex
  cases rx
  obtain ⟨mA, ob, _⟩ := ins_get I.hok ha
  obtain ⟨od, J, _⟩ := ob.look
  obtain ⟨P, kx, hp, _⟩ := kit_of I ry ty
  have hu := hr.un
  have hu1 : X.A.units + 1 < cLine := by omega
  show wpAny (model X.prog X.w) X.A (richCompare .NotEq (.ref a) u) _ _ s
  refine rc_left (op := .NotEq) (g := .builtin "object.__ne__") (Nat.lt_of_succ_lt hu1) I.kIn J (kx.ty _ _ I.kIn hp) nf hn (fun A Q E s _ q => wpAny_of_eq (PySem.F.slot_object_ne.bind _) q) (call_objNe hu1 I.kIn J sub hs hf (wpAny_mono (wpAny_call (SlX.run_at (us := [.ref a, u]) (ws := [.ref a, y]) (F.raw hb .nil) hr.in1 I.env0.in1 pass0 I (.cons rfl (.cons ry .nil)) h)) (fun r s' z => ?_) fun _ _ z => z))
  obtain ⟨w, H', I', rw', b, rfl, q⟩ := z
  cases rw'
  exact ⟨b, rfl, _, rfl, .bl (!b), H', I', rfl, q⟩
end
end My
set_option Elab.async false
set_option linter.all false
set_option maxRecDepth 100000
set_option maxHeartbeats 4000000
/-! len(o), o of an own class with __len__ -/
namespace My
open PySem PySem.Spec PyProof.Rows L2
section
variable {prog : Program} {w : World} {A : Around} {E : Value → Shared → Prop} {s : Shared} {K : PySem.W.Frag} {x C f : Addr} {ox : Obj} {od : Option Obj}
theorem len_inst {Q : Value → Shared → Prop} (X : K.In s.heap) (I : PySem.W.InstAt s.heap x ox C od) (hs : PySem.W.findIn K (.ref C) "__len__" = some (some (.ref f))) (hf : PySem.W.isFn K (.ref f) = true)
    (h : wpAny (model prog w) A.in1 (call (.ref f) [.ref x]) (fun r s' => ∃ n u, r = .int n u ∧ 0 ≤ n ∧ n < 2 ^ 63 ∧ Q (.int n s'.toks) { s' with toks := s'.toks + 1 }) E s) : wpAny (model prog w) A (call (.builtin "len") [.ref x]) Q E s := by
  have sp : PySem.W.Looks (model prog w) s.heap (specialOf (.ref x) "__len__") (some (.ref f)) := I.type.andThen (PySem.W.looks_findIn X hs)
  refine Calls.call_function_entry kind_len plain_len entry_len (args_len1 _) ?_
  unfold Builtin.«len»
  refine wpAny_bind (m := oneArg "len" _) (wpAny_pure ?_)
  refine wpAny_bind (m := callSpecial? (.ref x) (Str.ofString "__len__")) ?_
  unfold callSpecial?
  refine wpAny_bind (sp.here ?_)
  refine wpAny_holding (wpAny_bind ((PySem.W.bind_fn X _ (beq_iff_eq.mp hf)).here ?_))
  refine wpAny_bind (wpAny_mono h (fun r s' hr => ?_) fun _ _ z => z)
  obtain ⟨n, u, rfl, h0, h1, hq⟩ := hr
  refine wpAny_pure (wpAny_bind (wpAny_holding (wpAny_pure ?_)))
  refine wpAny_bind (wpAny_letGo ?_)
  show wpAny _ _ (if n < 0 then _ else _) _ _ _
  rw [if_neg (by omega)]
  show wpAny _ _ (if n ≥ 2 ^ 63 then _ else _) _ _ _
  rw [if_neg (by omega)]
  exact wpAny_bind (wpAny_mkInt (wpAny_pure ⟨_, rfl, hq⟩))
end
section
variable {X : Cx} {k : Nat} {C f : Addr} {fd : FuncData} {ps : List Str} {sp : Sp}
def rLenOwn (C : Addr) (sp : Sp) : List V → Hp → VK → Prop := fun xs H Q => ∃ a dx fs, xs = [V.ref a] ∧ H a = some (.ins C dx fs) ∧ sp [.ref a] H (fun z H' => ∃ n : Nat, z = .int (n : Int) ∧ n < 1000000 ∧ Q (.int (n : Int)) H') E0
theorem call_lenOwn (F : FnOk X.prog X.w X.K X.mg X.base CX0 k f fd ps sp) (hr : Room (k + 1) X.A) (hb : Binds X.K fd ps []) (hs : PySem.W.findIn X.K (.ref C) "__len__" = some (some (.ref f))) (hf : PySem.W.isFn X.K (.ref f) = true) : CallR X (.builtin "len") (rLenOwn C sp) := by
  intro pins s σ H xs us Q I r h
  obtain ⟨a, dx, fs, rfl, ha, q⟩ := h
  obtain ⟨u, rfl, ru⟩ := r.one
  cases (show u = Value.ref a from ru)
  obtain ⟨mA, ob, _⟩ := ins_get I.hok ha
  obtain ⟨od, J, _⟩ := ob.look
  refine len_inst I.kIn J hs hf (wpAny_mono (wpAny_call (SlX.run_at (us := [.ref a]) (ws := [.ref a]) (F.raw hb .nil) hr.in1 I.env0.in1 pass0 I (.cons rfl .nil) q)) (fun w s' z => ?_) fun _ _ x => x)
  obtain ⟨z', H', I', rz, n, ez, hn, qz⟩ := z
  subst ez
  obtain ⟨t, e⟩ := (show ∃ t, w = Value.int (n : Int) t from rz)
  cases e
  exact ⟨n, t, rfl, by omega, by omega, .int n, H', I'.tok _, ⟨_, rfl⟩, qz⟩
end
end My
set_option Elab.async false
set_option linter.all false
set_option maxRecDepth 100000
set_option maxHeartbeats 4000000
/-! own classes and their methods as they are called -/
namespace My
open PySem PySem.Spec PyProof.Rows L2
/-- an own class as it is called -/
structure HasC (P : Program) (w : World) (K : PySem.W.Frag) (mg : Str → Option Value) (base : Heap) (k : Nat) (x : Str) (ps : List Str) (sp : Sp) (C f : Addr) (fd : FuncData) : Prop where
  m : Mk K C f
  o : FnOk P w K mg base CX0 k f fd ps sp
  g : mg x = some (.ref C)
  b : Binds K fd ps []
/-- a method of an own class -/
structure HasM (P : Program) (w : World) (K : PySem.W.Frag) (mg : Str → Option Value) (base : Heap) (k : Nat) (m : Str) (ps : List Str) (sp : Sp) (C f : Addr) (fd : FuncData) : Prop where
  m : Meth K C m f
  o : FnOk P w K mg base CX0 k f fd ps sp
  b : Binds K fd ps []
/-- a special method of an own class -/
structure HasX (P : Program) (w : World) (K : PySem.W.Frag) (mg : Str → Option Value) (base : Heap) (k : Nat) (m : Str) (ps : List Str) (sp : Sp) (C f : Addr) (fd : FuncData) : Prop where
  s : PySem.W.findIn K (.ref C) m = some (some (.ref f))
  n : PySem.W.isFn K (.ref f) = true
  o : FnOk P w K mg base CX0 k f fd ps sp
  b : Binds K fd ps []
theorem same_made {H H1 : Hp} {x dx : Addr} {o o' : HO} (nx : H x = none) (nd : H dx = none) (s : SameP x (upd (upd H dx o) x o') H1) : Same H H1 :=
  fun b u e => s b u (ne_of_none e nx) ((upd_ne (ne_of_none e nx)).trans ((upd_ne (ne_of_none e nd)).trans e))
end My
set_option Elab.async false
set_option linter.all false
set_option maxRecDepth 100000
set_option maxHeartbeats 4000000
/-! The end of a law whose def shows values, with tables of code objects. -/
namespace My
open PySem PySem.Spec PyProof.Rows L2
section
variable {P : Program} {w : World} {K : PySem.W.Frag} {mg mb : Str → Option Value} {CX : CXT} {k : Nat} {fa a : Addr} {fd : FuncData} {x : Str} {sp : Sp} {s : Shared} {vs : List Value} {ns : List Int} {cs : List (Addr × Addr)}
/-- what is said of the tables -/
structure TabsAt (K : PySem.W.Frag) (cs : List (Addr × Addr)) (mg : Str → Option Value) (h : Heap) : Prop where
  tb : ∀ p ∈ cs, h.get? p.2 = some { cls := .none, data := .fields #[] }
  lk : ∀ p ∈ cs, K.lookup p.2 = none
  hd : ∀ p ∈ cs, PySem.W.CodeHd h p.1 p.2
  bm : ∃ bm ob, mg "__builtins__" = some (.ref bm) ∧ bm ≠ builtinsNs ∧ h.get? bm = some ob ∧ ob.cls = .type "module" ∧ ob.dict = some builtinsNs ∧ ob.data = .plain
/-- the abstract heap in which at most the script and the tables are tracked -/
structure BareTab (K : PySem.W.Frag) (a : Addr) (cs : List (Addr × Addr)) (H : Hp) : Prop where
  only : ∀ b, H b = none ∨ (b = a ∧ ∃ o xs, H b = some (.frz o (.lst xs))) ∨ (∃ p ∈ cs, b = p.2 ∧ H b = some (.tbl #[]))
  free : H a ≠ none → K.lookup a = none
theorem law_atT (B : Behind K mg mb a vs s) (TA : TabsAt K cs mg s.heap) (hr : Room k callerA) (F : ∀ base : Heap, K.In base → base.Ns mainGlobals mg → (∀ p ∈ cs, LamX.TabB base mg p.1 p.2) → FnG P w K mg base CX k fa fd [x] sp)
    (bind : ∀ (s : Shared) (u : Value), BindsTo s fd ⟨[u], []⟩ [(x, u)]) (hCX : ∀ H e s', CX [] H s (fun _ _ _ => False) e s' → False)
    (H : Hp) (W : BareTab K a cs H) (hok : HOk P w H s.heap) (hp : sp [.ref a] H (fun v _ => v = .bl true) fun _ _ _ => False) :
    codeAny (model P w) callerA (.call (.ref fa) ⟨[.ref a], []⟩) (fun r s' => r = .ok (.ret (.bool true)) ∧ OldK s.heap s'.heap ∧ s'.os = s.os ∧ AllBare s'.gens) s := by
  have nz : ∀ {b : Addr} {o : Obj}, s.heap.get? b = some o → (∀ xs n, o.data ≠ .seq xs n) → (∀ fs, o.data = .fields fs → o.cls ≠ .none) → H b = none := fun {b o} e h1 h2 => by
    rcases W.only b with z | ⟨rfl, _⟩ | ⟨p, hp, rfl, _⟩
    · exact z
    · rw [B.ob] at e
      cases e
      exact absurd rfl (h1 _ _)
    · rw [TA.tb p hp] at e
      cases e
      exact absurd rfl (h2 _ rfl)
  have apart : ∀ {b : Addr} {o : Obj}, s.heap.get? b = some o → (∀ xs n, o.data ≠ .seq xs n) → (∀ fs, o.data = .fields fs → o.cls ≠ .none) → (hidT s.heap H).get? b = some o := fun {b o} e h1 h2 => hidT_get e (nz e h1 h2)
  have ns : ∀ {b : Addr} {m : Str → Option Value}, s.heap.Ns b m → (hidT s.heap H).Ns b m := fun {b m} ⟨o, es, ep, e, d, r⟩ => ⟨o, es, ep, apart e (fun _ _ z => by rw [d] at z; cases z) (fun _ z => by rw [d] at z; cases z), d, r⟩
  have kb : K.In (hidT s.heap H) := fun b o e => by
    refine hidT_get (B.kin b o e) ?_
    rcases W.only b with z | ⟨rfl, _⟩ | ⟨p, hp, rfl, _⟩
    · exact z
    · by_cases q : H b = none
      · exact q
      · have := W.free q
        rw [e] at this
        cases this
    · have := TA.lk p hp
      rw [e] at this
      cases this
  obtain ⟨bm, ob, b1, b2, b3, b4, b5, b6⟩ := TA.bm
  obtain ⟨og, eg, pg, e1, e2, _⟩ := B.glob
  have tbs : ∀ p ∈ cs, LamX.TabB (hidT s.heap H) mg p.1 p.2 := fun p hp => by
    obtain ⟨o, vs', file, tf, flags, tg, inF, text, tt, c1, c2, c3, c4⟩ := TA.hd p hp
    have gp : mainGlobals ≠ p.2 := fun z => by
      rw [z, TA.tb p hp] at e1
      cases e1
      cases e2
    refine ⟨⟨o, vs', file, tf, flags, tg, inF, text, tt, apart c1 (fun _ _ z => by rw [c3] at z; cases z) (fun _ _ z => by rw [c2] at z; cases z), c2, c3, c4⟩, ⟨bm, ob, b1, b2, fun z => ?_, fun z => ?_, apart b3 (fun _ _ z => by rw [b6] at z; cases z) (fun _ z => by rw [b6] at z; cases z), b4, b5, b6⟩, gp⟩
    · rw [z, e1] at b3
      cases b3
      rw [e2] at b6
      cases b6
    · rw [z, TA.tb p hp] at b3
      cases b3
      cases b6
  have md : Mod K mg (hidT s.heap H) := ⟨kb, ns B.glob, ⟨mb, ns B.blt, B.boot⟩, match B.lim with | ⟨m, p, q⟩ => ⟨m, ns p, q⟩⟩
  have e0 : Env0 P w K mg (hidT s.heap H) callerA [] s H :=
    { frames := rfl, mod := md, bs := fun _ _ e => of_hidT e, bsz := Nat.le_of_eq (hidT_size _ _), funs := trivial, frf := fun _ z => (List.not_mem_nil z).elim, hok := hok, bare := .of_eq B.gens }
  refine codeAny_mono ((F _ kb (ns B.glob) tbs).run callerA [] s H ⟨[.ref a], []⟩ [.ref a] [.ref a] _ _ rfl hr e0 (bind s (.ref a)) (.cons rfl .nil) hp) ?_
  intro res s' z
  match res, z with
  | .error e, z => exact (hCX H e s' z).elim
  | .ok .next, z => exact z.elim
  | .ok .brk, z => exact z.elim
  | .ok .cont, z => exact z.elim
  | .ok (.ret u), ⟨v, H', os, bare, un, hok', rv, q⟩ =>
    subst q
    cases (show u = Value.bool true from rv)
    refine ⟨rfl, ⟨fun b o e => ?_, fun b o e => un.there b o e List.not_mem_nil⟩, os, bare⟩
    rcases W.only b with z | ⟨_, ob, xs, z⟩ | ⟨p, hp, rfl, z⟩
    · exact .inl (un.keep b o e z List.not_mem_nil List.not_mem_nil)
    · have h1 := (hok b _ z).1
      have h2 := (hok' b _ (un.frzs b ob _ z)).1
      rw [e] at h1
      cases h1
      exact .inl h2
    · obtain ⟨more, e'⟩ := un.tbls p.2 _ z
      have h2 : s'.heap.get? p.2 = some { cls := .none, data := .fields (#[] ++ more) } := hok' p.2 _ e'
      rw [TA.tb p hp] at e
      cases e
      obtain ⟨o, vs', file, tf, flags, tg, inF, text, tt, c1, c2, c3, c4, _⟩ := TA.hd p hp
      exact .inr (.inl ⟨⟨p.1, o, vs', c1, c2, c3, c4⟩, rfl, #[], more, rfl, h2⟩)
theorem law_endT (B : Behind K mg mb a vs s) (TA : TabsAt K cs mg s.heap) (hi : IntsAre vs ns) (hl : ns.length ≤ sizeLine) (hr : Room k callerA)
    (F : ∀ base : Heap, K.In base → base.Ns mainGlobals mg → (∀ p ∈ cs, LamX.TabB base mg p.1 p.2) → FnG P w K mg base CX k fa fd [x] sp) (bind : ∀ (s : Shared) (u : Value), BindsTo s fd ⟨[u], []⟩ [(x, u)])
    (hsp : ∀ H : Hp, (∀ p ∈ cs, H p.2 = some (.tbl #[])) → SqL K H a (ns.map V.int) → sp [.ref a] H (fun v _ => v = .bl true) fun _ _ _ => False) (hCX : ∀ H e s', CX [] H s (fun _ _ _ => False) e s' → False) :
    codeAny (model P w) callerA (.call (.ref fa) ⟨[.ref a], []⟩) (fun r s' => r = .ok (.ret (.bool true)) ∧ OldK s.heap s'.heap ∧ s'.os = s.os ∧ AllBare s'.gens) s := by
  have rv := vals_ints hi
  have le := hi.length
  have lm : (ns.map V.int).length ≤ sizeLine := by
    rw [List.length_map]
    exact hl
  have na : ∀ p ∈ cs, p.2 ≠ a := fun p hp z => by
    have := TA.tb p hp
    rw [z, B.ob] at this
    cases this
  let fz : HO := .frz { cls := .type "list", data := .seq vs.toArray } (.lst (ns.map V.int))
  let T0 : Hp := fun c => if c ∈ cs.map (·.2) then some (.tbl #[]) else none
  have t0 : ∀ p ∈ cs, T0 p.2 = some (.tbl #[]) := fun p hp => if_pos (List.mem_map_of_mem hp)
  have t1 : ∀ b, T0 b = none ∨ ∃ p ∈ cs, b = p.2 ∧ T0 b = some (.tbl #[]) := fun b => (Decidable.em (b ∈ cs.map (·.2))).elim (fun z => by
    obtain ⟨p, hp, e⟩ := List.mem_map.mp z
    exact .inr ⟨p, hp, e.symm, if_pos z⟩) fun z => .inl (if_neg z)
  have ok0 : ∀ b o, T0 b = some o → ∃ p ∈ cs, b = p.2 ∧ o = .tbl #[] := fun b o e => by
    rcases t1 b with z | ⟨p, hp, eb, z⟩
    · rw [z] at e
      cases e
    · rw [z] at e
      cases e
      exact ⟨p, hp, eb, rfl⟩
  cases q : K.lookup a with
  | some o =>
    have e := B.kin a o q
    rw [B.ob] at e
    cases e
    have hS : SqL K T0 a (ns.map V.int) := .inr ⟨_, vs.toArray, _, q, rfl, rfl, rfl, by simpa using (le ▸ hl), by simpa using rv⟩
    refine law_atT B TA hr F bind hCX T0 ⟨fun b => (t1 b).imp id .inr, fun z => ?_⟩ (fun b u z => ?_) (hsp _ t0 hS)
    · rcases t1 a with y | ⟨p, hp, eb, _⟩
      · exact absurd y z
      · exact absurd eb.symm (na p hp)
    · obtain ⟨p, hp, rfl, rfl⟩ := ok0 b u z
      exact TA.tb p hp
  | none =>
    let H : Hp := fun c => if c = a then some fz else T0 c
    have own : H a = some fz := if_pos rfl
    have oth : ∀ b, b ≠ a → H b = T0 b := fun b z => if_neg z
    refine law_atT B TA hr F bind hCX H ⟨fun b => ?_, fun _ => q⟩ (fun b u z => ?_) (hsp _ (fun p hp => (oth _ (na p hp)).trans (t0 p hp)) (.inl (.inr ⟨_, own⟩)))
    · by_cases y : b = a
      · exact .inr (.inl ⟨y, _, _, by rw [y]; exact own⟩)
      · rw [oth b y]
        exact (t1 b).imp id .inr
    · by_cases y : b = a
      · subst y
        rw [own] at z
        cases z
        exact ⟨B.ob, lm, vs, _, rv, B.ob⟩
      · rw [oth b y] at z
        obtain ⟨p, hp, rfl, rfl⟩ := ok0 b u z
        exact TA.tb p hp
end
/-- what the law's def asks for the end -/
def LawAtG (l : PySem.W.OpenLaw) (w : World) (K : PySem.W.Frag) (k n : Nat) (x : Str) (mg : Str → Option Value) (fa : Addr) (h : Heap) : Prop :=
  ∃ (fd : FuncData) (cs : List (Addr × Addr)) (sp : Sp), (∀ p ∈ cs, h.get? p.2 = some { cls := .none, data := .fields #[] }) ∧ (∀ p ∈ cs, K.lookup p.2 = none) ∧ (∀ p ∈ cs, PySem.W.CodeHd h p.1 p.2) ∧
    (∀ (s : Shared) (u : Value), BindsTo s fd ⟨[u], []⟩ [(x, u)]) ∧
    (∀ (H : Hp) (a : Addr) (ns : List Int), ns.length ≤ n → (∀ z ∈ ns, Builtin.Int.intBits z ≤ 1048576) → (∀ p ∈ cs, H p.2 = some (.tbl #[])) → SqL K H a (ns.map V.int) → sp [.ref a] H (fun v _ => v = .bl true) fun _ _ _ => False) ∧
    ∀ base : Heap, K.In base → base.Ns mainGlobals mg → (∀ p ∈ cs, LamX.TabB base mg p.1 p.2) → FnG l.prog w K mg base CX0 k fa fd [x] sp
/-- the end: a law that shows values, with tables of code objects -/
theorem walk_GT {l : PySem.W.OpenLaw} {n k : Nat} {q : Program} {loose : List Str} {XP : (Str → Option Value) → Heap → Prop} {YP : World → Heap → Prop} {d : DefRec} {K : Params → PySem.W.Frag} {x : Str}
    (hn : l.most = some n) (h2 : n ≤ sizeLine) (hd : d.params.defaults = []) (hr : Room k callerA) (hY : ∀ (w : World) (h : Heap), YP w h → (K w.params).In h)
    (F : ∀ (w : World) (mg : Str → Option Value) (fa : Addr) (h : Heap), YP w h → (K w.params).In h → h.Ns mainGlobals mg → mg d.name = some (.ref fa) → LawAtG l w (K w.params) k n x mg fa h) :
    PySem.W.WalkO q loose XP YP l.row.toRowW d [] (fun f vs => PySem.call f vs) :=
  Att.attach_callB hn hd fun w s₀ s mg mb fa o pm cd doc a vs ns G Y _ _ _ hmg hob hi hl hb hg =>
    let ⟨_, cs, sp, ht, hk, hc, bd, hsp, hF⟩ := F w mg fa _ Y (hY w _ Y) G.T.g hmg
    law_endT ⟨hY w _ Y, G.T.g, G.T.b, G.T.builtins, G.T.nolimit, hg, hob⟩ ⟨ht, hk, hc, G.T.bmain⟩ hi (Nat.le_trans hl h2) hr hF bd (fun H h1 hS => hsp H a ns hl hb h1 hS) fun _ _ _ z => z
end My
set_option Elab.async false
set_option linter.all false
set_option maxRecDepth 100000
set_option maxHeartbeats 4000000
/-! the law of k82: families or not -/
namespace My
open PySem PySem.Spec PyProof.Rows L2 LamX
abbrev gPr (K : PySem.W.Frag) (i j : Nat) : TG := gTup K 2 (gCons (gName i) (gCons (gName j) gNil))
def qLam : Str := "law.<locals>.<lambda>"
theorem extN_keepAF {K : PySem.W.Frag} {p : Addr} {H H' : Hp} (e : ExtN H H') : KeepA K p H H' := extN_keepA e
section
variable {K : PySem.W.Frag} {p c C x : Addr} {n : Nat} {H H' : Hp} {v : V} {s : Shp}
theorem FamAt.go (h : FamAt K p C H x v s) (a : ∀ C dx fs, H x = some (.ins C dx fs) → H' x = some (.ins C dx fs)) (k : KeepA K p H H') : FamAt K p C H' x v s := by
  obtain ⟨⟨dx, tl, tp, us, e, h1, h2, h3⟩, d, o⟩ := h
  exact ⟨⟨dx, tl, tp, us, a _ _ _ e, k.t _ _ h1, k.t _ _ h2, da_keepAll k h3⟩, da_keep k d, o⟩
theorem FamAt.keep (h : FamAt K p C H x v s) (k : Same H H') : FamAt K p C H' x v s := h.go (fun _ _ _ e => k _ _ e) k.keepA
theorem FamAt.ext (h : FamAt K p C H x v s) (k : ExtN H H') : FamAt K p C H' x v s := h.go (fun _ _ _ e => k _ _ e fun ps z => by cases z) (extN_keepA k)
theorem PvV.ext {w m : Nat} (h : PvV w m K p H v) (k : ExtN H H') : PvV w m K p H' v := let ⟨d, a, g⟩ := h; ⟨d, da_keep (extN_keepA k) a, g⟩
theorem PvL.ext {w m : Nat} {xs : List V} (h : PvL w m K p H xs) (k : ExtN H H') : PvL w m K p H' xs := fun v hv => (h v hv).ext k
/-- (shape, Family) -/
def MdV (K : PySem.W.Frag) (p C : Addr) (H : Hp) (v : V) (s : Shp) : Prop := ∃ t vs x, v = .ref t ∧ SqT K H t [vs, .ref x] ∧ FamAt K p C H x vs s
theorem MdV.keep (h : MdV K p C H v s) (k : Same H H') : MdV K p C H' v s := let ⟨t, vs, x, e, a, b⟩ := h; ⟨t, vs, x, e, k.keeps.t _ _ a, b.keep k⟩
theorem MdV.ext (h : MdV K p C H v s) (k : ExtN H H') : MdV K p C H' v s := let ⟨t, vs, x, e, a, b⟩ := h; ⟨t, vs, x, e, extN_t k a, b.ext k⟩
def MdL (K : PySem.W.Frag) (p C : Addr) (H : Hp) (vs : List V) (ss : List Shp) : Prop := vs.length = ss.length ∧ ∀ (k : Nat) (v : V), vs[k]? = some v → ∃ s, ss[k]? = some s ∧ MdV K p C H v s
variable {vs : List V} {ss : List Shp}
theorem MdL.nil : MdL K p C H [] [] := ⟨rfl, fun k v z => by simp at z⟩
theorem MdL.keep (h : MdL K p C H vs ss) (k : Same H H') : MdL K p C H' vs ss := ⟨h.1, fun j v hv => let ⟨s, a, b⟩ := h.2 j v hv; ⟨s, a, b.keep k⟩⟩
theorem MdL.ext (h : MdL K p C H vs ss) (k : ExtN H H') : MdL K p C H' vs ss := ⟨h.1, fun j v hv => let ⟨s, a, b⟩ := h.2 j v hv; ⟨s, a, b.ext k⟩⟩
theorem MdL.snoc (h : MdL K p C H vs ss) (g : MdV K p C H v s) : MdL K p C H (vs ++ [v]) (ss ++ [s]) := by
  refine ⟨by rw [List.length_append, List.length_append, h.1]; rfl, fun k u hu => ?_⟩
  rcases Nat.lt_or_ge k vs.length with hk | hk
  · rw [List.getElem?_append_left hk] at hu
    obtain ⟨z', a, b⟩ := h.2 k u hu
    exact ⟨z', by rw [List.getElem?_append_left (by rw [← h.1]; exact hk)]; exact a, b⟩
  · rw [List.getElem?_append_right hk] at hu
    have e0 : k - vs.length = 0 := by
      have := (List.getElem?_eq_some_iff.mp hu).1
      simp at this
      omega
    rw [e0] at hu
    cases hu
    exact ⟨s, by rw [List.getElem?_append_right (by rw [← h.1]; exact hk), ← h.1, e0]; rfl, g⟩
end
/-- what stands while the shapes are gone through -/
structure WkF (K : PySem.W.Frag) (T : List (Addr × Str)) (p c la : Addr) (n : Nat) (SA : List V) (H : Hp) : Prop where
  G : PenAt H p c n
  T : Tabs T H
  L : SqL K H la SA
  A : PvL 1000 9 K p H SA
section
variable {K : PySem.W.Frag} {T : List (Addr × Str)} {p c C la tl : Addr} {n : Nat} {SA us : List V} {ss : List Shp} {H H' H0 : Hp} {v : V} {s : Shp}
theorem WkF.keep (h : WkF K T p c la n SA H) (k : Same H H') : WkF K T p c la n SA H' := ⟨h.G.same k, h.T.ext k, k.keeps.l _ _ h.L, h.A.keep k⟩
theorem WkF.ext (h : WkF K T p c la n SA H) (k : ExtN H H') (g : Tabs T H') : WkF K T p c la n SA H' := ⟨h.G.ext k, g, extN_l k h.L, h.A.ext k⟩
/-- .. and a list that is being filled with what is made; the rest stands without it -/
structure TlF (K : PySem.W.Frag) (T : List (Addr × Str)) (p c C la : Addr) (n : Nat) (SA : List V) (tl : Addr) (us : List V) (ss : List Shp) (H0 H : Hp) : Prop where
  no : H0 tl = none
  eq : H = upd H0 tl (.lst us)
  wk : WkF K T p c la n SA H0
  md : MdL K p C H0 us ss
theorem TlF.same (h : TlF K T p c C la n SA tl us ss H0 H) : Same H0 H := by rw [h.eq]; exact same_new h.no
theorem TlF.at (h : TlF K T p c C la n SA tl us ss H0 H) : H tl = some (.lst us) := by rw [h.eq]; exact upd_same
theorem TlF.now (h : TlF K T p c C la n SA tl us ss H0 H) : WkF K T p c la n SA H := h.wk.keep h.same
theorem TlF.mdn (h : TlF K T p c C la n SA tl us ss H0 H) : MdL K p C H us ss := h.md.keep h.same
/-- tables and new things came -/
theorem TlF.go (h : TlF K T p c C la n SA tl us ss H0 H) (e : ExtN H H') (g : Tabs T H') : TlF K T p c C la n SA tl us ss (del H' tl) H' := by
  have et : H' tl = some (.lst us) := e _ _ h.at fun ps z => by cases z
  have ex : ExtN H0 (del H' tl) := fun b o q nt => by
    have nb : b ≠ tl := ne_of_none q h.no
    rw [del_ne nb]
    exact e _ _ (h.same _ _ q) nt
  refine ⟨del_same, ?_, h.wk.ext ex (tabs_at g (p := tl) (fun b o nb q => by rw [del_ne nb]; exact q) (fun ps z => by rw [et] at z; cases z) (fun f z => by rw [et] at z; cases z)), h.md.ext ex⟩
  funext b
  by_cases z : b = tl
  · rw [z, upd_same, et]
  · rw [upd_ne z, del_ne z]
theorem TlF.keep (h : TlF K T p c C la n SA tl us ss H0 H) (e : Same H H') : TlF K T p c C la n SA tl us ss (del H' tl) H' := h.go (ExtN.of e) (h.now.T.ext e)
/-- what is no list that grows stands without it -/
theorem keepA_of (h0 : H0 tl = none) (e : H = upd H0 tl (.lst us)) {t : Addr} {xs : List V} (q : SqT K H t xs) : SqT K H0 t xs := by
  rcases q with (q | ⟨o, q⟩) | q
  · by_cases z : t = tl
    · rw [e, z, upd_same] at q; cases q
    · rw [e, upd_ne z] at q; exact .inl (.inl q)
  · by_cases z : t = tl
    · rw [e, z, upd_same] at q; cases q
    · rw [e, upd_ne z] at q; exact .inl (.inr ⟨o, q⟩)
  · exact .inr q
mutual
theorem da_off (h0 : H0 tl = none) (e : H = upd H0 tl (.lst us)) : ∀ {s : Shp} {v : V}, Da K p H v (shD s) → Da K p H0 v (shD s)
  | .leaf x, v, h => by
    cases h
    exact .str x
  | .two a b, v, h => by
    obtain ⟨t, x, y, rfl, ht, h1, h2⟩ := da_two h
    exact .tup (keepA_of h0 e ht) (.cons (da_off h0 e h1) (.cons (da_off h0 e h2) .nil))
end
theorem daAll_off (h0 : H0 tl = none) (e : H = upd H0 tl (.lst us)) : ∀ {ss : List Shp} {vs : List V}, DaAll K p H vs (ss.map shD) → DaAll K p H0 vs (ss.map shD)
  | [], vs, h => by
    cases h
    exact .nil
  | a :: r, vs, h => by
    cases h with
    | cons h1 h2 => exact .cons (da_off h0 e h1) (daAll_off h0 e h2)
theorem fam_off (h0 : H0 tl = none) (e : H = upd H0 tl (.lst us)) {x : Addr} (h : FamAt K p C H x v s) : FamAt K p C H0 x v s := by
  obtain ⟨⟨dx, a, b, us, hx, h1, h2, h3⟩, d, o⟩ := h
  refine ⟨⟨dx, a, b, us, ?_, keepA_of h0 e h1, keepA_of h0 e h2, daAll_off h0 e h3⟩, da_off h0 e d, o⟩
  by_cases z : x = tl
  · rw [e, z, upd_same] at hx; cases hx
  · rw [e, upd_ne z] at hx; exact hx
theorem md_off (h0 : H0 tl = none) (e : H = upd H0 tl (.lst us)) (h : MdV K p C H v s) : MdV K p C H0 v s := let ⟨t, vs, x, ev, a, b⟩ := h; ⟨t, vs, x, ev, keepA_of h0 e a, fam_off h0 e b⟩
/-- one more is made -/
theorem TlF.app (h : TlF K T p c C la n SA tl us ss H0 H) (d : MdV K p C H v s) : TlF K T p c C la n SA tl (us ++ [v]) (ss ++ [s]) H0 (upd H tl (.lst (us ++ [v]))) :=
  ⟨h.no, by rw [h.eq, upd_twice], h.wk, h.md.snoc (md_off h.no h.eq d)⟩
end
/-- how Families are compared -/
structure EqF (P : Program) (w : World) (K : PySem.W.Frag) (mg : Str → Option Value) (base : Heap) (C fE : Addr) (dE : FuncData) : Prop where
  o : FnOk P w K mg base CX0 1 fE dE ["self", "other"] (spFmE K C)
  b : Binds K dE ["self", "other"] []
  s : PySem.W.findIn K (.ref C) "__eq__" = some (some (.ref fE))
  n : PySem.W.isFn K (.ref fE) = true
  c : Cls K C
  fc : PySem.W.findIn K (.ref C) "__class__" = some (some (.builtin "object.__class__"))
  sg : PySem.W.specialIn K (.builtin "object.__class__") "__get__" = some (some (.builtin "getset_descriptor.__get__"))
  tk : PySem.W.takesIn K (.builtin "object.__class__") = some true
  mo : PySem.W.mroIn K C (.type "object") = some true
  ne : PySem.W.findIn K (.ref C) "__ne__" = some (some (.builtin "object.__ne__"))
  sub : PySem.W.subIn K (.ref C) (.type "object") = some true
  kS : PySem.W.kitOne K (.type "str") (.ref C) = some false
  kT : PySem.W.kitOne K (.type "tuple") (.ref C) = some false
  kC : PySem.W.kitOne K (.ref C) (.ref C) = some true
  nS : PySem.W.notFirst K C (.type "str") = true
  nT : PySem.W.notFirst K C (.type "tuple") = true
  nC : PySem.W.notFirst K C (.ref C) = true
section
variable {P : Program} {w : World} {K : PySem.W.Frag} {mg : Str → Option Value} {base : Heap} {C fE p x y : Addr} {dE : FuncData} {H : Hp} {v u : V} {s t : Shp} {Q : VK} {neg : Bool}
theorem FamAt.ins (h : FamAt K p C H x v s) : ∃ dx fs, H x = some (.ins C dx fs) := let ⟨dx, _, _, _, e, _⟩ := h.ex; ⟨dx, _, e⟩
theorem FamAt.ty (E : EqF P w K mg base C fE dE) (h : FamAt K p C H x v s) : TyX K H (.ref x) (.ref C) := by
  obtain ⟨dx, fs, e⟩ := h.ins
  exact .base (.ins e E.c E.fc E.sg E.tk E.mo)
/-- two Families -/
theorem eq_fam (E : EqF P w K mg base C fE dE) (h : FamAt K p C H x v s) (g : FamAt K p C H y u t) (q : Q (.bl (if neg then !decide (s = t) else decide (s = t))) H) : rOwnCmp K C (spFmE K C) neg (.ref x) (.ref y) H Q := by
  obtain ⟨dx, fs, e⟩ := h.ins
  exact ⟨x, dx, fs, .ref C, rfl, e, g.ty E, E.nC, p, x, v, .ref y, s, .ref C, true, rfl, h, g.ty E, E.kC, by rw [if_pos rfl]; exact ⟨y, u, t, rfl, g, _, rfl, q⟩⟩
/-- a Family and its shape -/
theorem eq_shape (E : EqF P w K mg base C fE dE) (h : FamAt K p C H x v s) (g : Da K p H u (shD t)) (q : Q (.bl neg) H) : rOwnCmp K C (spFmE K C) neg (.ref x) u H Q := by
  obtain ⟨dx, fs, e⟩ := h.ins
  have q : Q (.bl (if neg then !false else false)) H := by
    cases neg with
    | true => exact q
    | false => exact q
  have ty := da_ty g
  cases t with
  | leaf z => exact ⟨x, dx, fs, _, rfl, e, ty, E.nS, p, x, v, u, s, _, false, rfl, h, ty, E.kS, by rw [if_neg (by decide)]; exact ⟨_, rfl, q⟩⟩
  | two a b => exact ⟨x, dx, fs, _, rfl, e, ty, E.nT, p, x, v, u, s, _, false, rfl, h, ty, E.kT, by rw [if_neg (by decide)]; exact ⟨_, rfl, q⟩⟩
end
/-! ### bounds on what is shown -/
theorem plc_sub : ∀ {s t : Shp}, ShN s → t ∈ plcS s → ShN t ∧ (lvS t).length ≤ (lvS s).length ∧ dpS t ≤ dpS s
  | .leaf x, t, h, ht => by cases ht
  | .two a b, t, h, ht => by
    rcases List.mem_cons.mp ht with rfl | ht
    · exact ⟨h, Nat.le_refl _, Nat.le_refl _⟩
    have e1 : (lvS (.two a b)).length = (lvS a).length + (lvS b).length := by show (lvS a ++ lvS b).length = _; rw [List.length_append]
    have e2 : dpS (.two a b) = 1 + max (dpS a) (dpS b) := rfl
    rcases List.mem_append.mp ht with z | z
    · obtain ⟨x1, x2, x3⟩ := plc_sub h.1 z
      exact ⟨x1, by omega, by omega⟩
    · obtain ⟨x1, x2, x3⟩ := plc_sub h.2 z
      exact ⟨x1, by omega, by omega⟩
theorem w_each {m : Nat} : ∀ {ds : List PyData}, (∀ d ∈ ds, d.weight ≤ m) → PyData.weightAll ds ≤ (m + 1) * ds.length
  | [], _ => Nat.le_refl _
  | d :: r, h => by
    have ih := w_each (m := m) (ds := r) fun y hy => h y (List.mem_cons_of_mem _ hy)
    have := h d List.mem_cons_self
    rw [PyData.weightAll, List.length_cons, Nat.mul_succ]
    omega
theorem gm_nat {n : Nat} (h : n ≤ 64) : Gm 9 0 (.int (n : Int)) := by
  have : ∀ n : Nat, n < 65 → gmB 9 0 (.int (n : Int)) = true := by decide +kernel
  exact gmB_ok (this n (by omega))
/-- what is due of a Family -/
def dueD (s : Shp) : PyData := .tuple [.tuple ((lvS s).map .str), .tuple ((plcS s).map shD), .int ((lvS s).length : Nat)]
theorem gm_due {s : Shp} (f : FamS s) : Gm 9000 9 (dueD s) := by
  have g1 : Gm 144 1 (.tuple ((lvS s).map .str)) := gm_tup (n := 0) (gm_names fun x hx => nmS_nameB (lv_ok f.nm x hx)) (by
    have := w_names (ns := lvS s) fun x hx => nmS_nameB (lv_ok f.nm x hx)
    have := f.few
    omega)
  have g2 : Gm 8000 7 (.tuple ((plcS s).map shD)) := gm_tup (n := 6) (fun d hd => by
    obtain ⟨t, ht, rfl⟩ := List.mem_map.mp hd
    obtain ⟨h1, h2, h3⟩ := plc_sub f.nm ht
    have := f.dp
    exact ⟨_, (gm_sh h1).mono (Nat.le_refl _) (by omega)⟩) (by
    have := w_each (m := 160) (ds := (plcS s).map shD) fun d hd => by
      obtain ⟨t, ht, rfl⟩ := List.mem_map.mp hd
      obtain ⟨h1, h2, h3⟩ := plc_sub f.nm ht
      have := (gm_sh h1).wt
      have := f.few
      omega
    rw [List.length_map] at this
    have e := plc_len s
    have := f.few
    omega)
  have g3 : Gm 9 0 (.int ((lvS s).length : Nat)) := gm_nat (by have := f.few; omega)
  exact (gm_tup (n := 7) (w := 9000) (fun d hd => by
    simp only [List.mem_cons, List.not_mem_nil, or_false] at hd
    rcases hd with rfl | rfl | rfl
    · exact ⟨_, g1.mono (Nat.le_refl _) (by decide)⟩
    · exact ⟨_, g2⟩
    · exact ⟨_, g3.mono (Nat.le_refl _) (by decide)⟩) (by
    have := g1.wt
    have := g2.wt
    have := g3.wt
    rw [PyData.weightAll, PyData.weightAll, PyData.weightAll, PyData.weightAll]
    omega)).mono (Nat.le_refl _) (by decide)
theorem da_strs {K : PySem.W.Frag} {p : Addr} {H : Hp} : ∀ {xs : List Str}, DaAll K p H (xs.map V.str) (xs.map PyData.str)
  | [] => .nil
  | x :: r => .cons (.str x) da_strs
theorem gm_shp {s : Shp} (h : ShN s) (l : (lvS s).length ≤ 40) (d : dpS s ≤ 9) : Gm 1000 9 (shD s) := (gm_sh h).mono (by omega) d
/-! ### the shapes are put together -/
structure FcF (K : PySem.W.Frag) (T : List (Addr × Str)) (p l1 : Addr) (ws : List Str) (v0 v1 : V) (sh0 sh1 : Shp) (H : Hp) : Prop where
  T : Tabs T H
  W : H l1 = some (.lst (ws.map V.str))
  D0 : Da K p H v0 (shD sh0)
  D1 : Da K p H v1 (shD sh1)
structure GrF (K : PySem.W.Frag) (T : List (Addr × Str)) (p c l1 : Addr) (ws : List Str) (v0 v1 : V) (sh0 sh1 : Shp) (sp : Addr) (n : Nat) (us : List V) (B0 H : Hp) : Prop where
  no : B0 sp = none
  eq : H = upd B0 sp (.lst us)
  G : PenAt B0 p c n
  F : FcF K T p l1 ws v0 v1 sh0 sh1 B0
  A : PvL 1000 9 K p B0 us
section
variable {K : PySem.W.Frag} {T : List (Addr × Str)} {p c l1 sp : Addr} {ws : List Str} {v0 v1 v : V} {sh0 sh1 s : Shp} {n m : Nat} {us : List V} {B0 H H' : Hp}
theorem FcF.keepP (h : FcF K T p l1 ws v0 v1 sh0 sh1 H) (k : SameP p H H') (G : PenAt H p c n) : FcF K T p l1 ws v0 v1 sh0 sh1 H' := ⟨tabs_pen h.T G k, k.lst G h.W, da_keep (k.keepA G) h.D0, da_keep (k.keepA G) h.D1⟩
theorem GrF.same (h : GrF K T p c l1 ws v0 v1 sh0 sh1 sp n us B0 H) : Same B0 H := by rw [h.eq]; exact same_new h.no
theorem GrF.at (h : GrF K T p c l1 ws v0 v1 sh0 sh1 sp n us B0 H) : H sp = some (.lst us) := by rw [h.eq]; exact upd_same
theorem GrF.pen (h : GrF K T p c l1 ws v0 v1 sh0 sh1 sp n us B0 H) : PenAt H p c n := h.G.same h.same
theorem GrF.fc (h : GrF K T p c l1 ws v0 v1 sh0 sh1 sp n us B0 H) : FcF K T p l1 ws v0 v1 sh0 sh1 H := h.F.keepP (.of h.same) h.G
theorem GrF.go (h : GrF K T p c l1 ws v0 v1 sh0 sh1 sp n us B0 H) (k : SameP p H H') (G : PenAt H' p c m) : GrF K T p c l1 ws v0 v1 sh0 sh1 sp m us (del H' sp) H' := by
  obtain ⟨ns0, t0, r0, x1, x2, _⟩ := h.G.ex
  have np : p ≠ sp := ne_of_none x1 h.no
  have nc : c ≠ sp := ne_of_none x2 h.no
  have et : H' sp = some (.lst us) := k _ _ np.symm h.at
  have ex : SameP p B0 (del H' sp) := fun b o nb q => by
    rw [del_ne (ne_of_none q h.no)]
    exact k _ _ nb (h.same _ _ q)
  obtain ⟨ns, t, r, y1, y2, y3⟩ := G.ex
  refine ⟨del_same, ?_, ⟨ns, t, r, by rw [del_ne np]; exact y1, by rw [del_ne nc]; exact y2, y3⟩, h.F.keepP ex h.G, h.A.keepP ex h.G⟩
  funext b
  by_cases z : b = sp
  · rw [z, upd_same, et]
  · rw [upd_ne z, del_ne z]
theorem GrF.app (h : GrF K T p c l1 ws v0 v1 sh0 sh1 sp n us B0 H) (d : Da K p H v (shD s)) (g : Gm 1000 9 (shD s)) : GrF K T p c l1 ws v0 v1 sh0 sh1 sp n (us ++ [v]) B0 (upd H sp (.lst (us ++ [v]))) :=
  ⟨h.no, by rw [h.eq, upd_twice], h.G, h.F, h.A.snoc (.refl _) ⟨_, da_off h.no h.eq d, g⟩⟩
end
theorem shp_str {K : PySem.W.Frag} {p : Addr} {H : Hp} (x : Str) (g : gmB 1000 9 (shD (.leaf x)) = true) : ∃ s, Da K p H (.str x) (shD s) ∧ Gm 1000 9 (shD s) := ⟨.leaf x, .str x, gmB_ok g⟩
theorem shp_two {K : PySem.W.Frag} {p t : Addr} {H : Hp} {x y : Str} (h : SqT K H t [.str x, .str y]) (g : gmB 1000 9 (shD (.two (.leaf x) (.leaf y))) = true) : ∃ s, Da K p H (.ref t) (shD s) ∧ Gm 1000 9 (shD s) := ⟨.two (.leaf x) (.leaf y), .tup h (.cons (.str x) (.cons (.str y) .nil)), gmB_ok g⟩
/-! ### the second walk -/
def PrM (K : PySem.W.Frag) (p C : Addr) (H : Hp) (u : V) (o : V × Shp) : Prop := ∃ t x, u = .ref t ∧ SqT K H t [o.1, .ref x] ∧ FamAt K p C H x o.1 o.2
def PrMs (K : PySem.W.Frag) (p C : Addr) (H : Hp) (us : List V) (os : List (V × Shp)) : Prop := os.length = us.length ∧ ∀ (k : Nat) (u : V), us[k]? = some u → ∃ o, os[k]? = some o ∧ PrM K p C H u o
theorem md_os {K : PySem.W.Frag} {p C : Addr} {H : Hp} : ∀ {us : List V} {ss : List Shp}, MdL K p C H us ss → ∃ os, PrMs K p C H us os
  | [], ss, h => ⟨[], rfl, fun k u z => by simp at z⟩
  | u :: r, [], h => by have := h.1; simp at this
  | u :: r, s :: rs, h => by
    obtain ⟨s', hs, t, v, x, e, a, b⟩ := h.2 0 u rfl
    cases hs
    obtain ⟨os, l, q⟩ := md_os (us := r) (ss := rs) ⟨by have := h.1; simpa using this, fun k u hu => h.2 (k + 1) u hu⟩
    exact ⟨(v, s) :: os, by rw [List.length_cons, List.length_cons, l], fun k w hw => by
      cases k with
      | zero => cases hw; exact ⟨_, rfl, t, x, e, a, b⟩
      | succ k => exact q k w hw⟩
theorem PrM.keep {K : PySem.W.Frag} {p C : Addr} {H H' : Hp} {u : V} {o : V × Shp} (h : PrM K p C H u o) (k : Same H H') : PrM K p C H' u o := let ⟨t, x, e, a, b⟩ := h; ⟨t, x, e, k.keeps.t _ _ a, b.keep k⟩
theorem PrMs.keep {K : PySem.W.Frag} {p C : Addr} {H H' : Hp} {us : List V} {os : List (V × Shp)} (h : PrMs K p C H us os) (k : Same H H') : PrMs K p C H' us os := ⟨h.1, fun j u hu => let ⟨o, a, b⟩ := h.2 j u hu; ⟨o, a, b.keep k⟩⟩
def selO (s : Shp) (l : List (V × Shp)) : List (V × Shp) := l.filter fun o => decide (s = o.2)
theorem selO_take {s : Shp} {l : List (V × Shp)} {i : Nat} {o : V × Shp} (h : l[i]? = some o) : (selO s (l.take (i + 1))).map (·.1) = (selO s (l.take i)).map (·.1) ++ (if s = o.2 then [o.1] else []) := by
  unfold selO
  rw [List.take_add_one, h, List.filter_append, List.map_append]
  show _ ++ List.map _ (List.filter _ [o]) = _
  rw [List.filter_cons]
  by_cases z : s = o.2
  · rw [if_pos z, decide_eq_true z]
    rfl
  · rw [if_neg z, decide_eq_false z]
    rfl
theorem selO_len {s : Shp} {l : List (V × Shp)} {i : Nat} : ((selO s (l.take i)).map (·.1)).length ≤ i := by
  rw [List.length_map]
  exact Nat.le_trans (List.length_filter_le _ _) (by rw [List.length_take]; omega)
theorem dp_os {K : PySem.W.Frag} {p : Addr} {H : Hp} : ∀ {l : List (V × Shp)}, (∀ o ∈ l, Da K p H o.1 (shD o.2)) → DpAll K H (l.map (·.1)) (l.map fun o => shD o.2)
  | [], _ => .nil
  | o :: r, h => .cons (da_dpS (h o List.mem_cons_self)) (dp_os fun y hy => h y (List.mem_cons_of_mem _ hy))
theorem eqvAll_self : ∀ l : List (V × Shp), PyData.eqvAll (l.map fun o => shD o.2) (l.map fun o => shD o.2) = true
  | [] => by simp only [List.map_nil, PyData.eqvAll]
  | o :: r => by simp only [List.map_cons, PyData.eqvAll, eqv_sh, decide_true, Bool.true_and, eqvAll_self r]
theorem eqv_self (l : List (V × Shp)) : PyData.eqv (.list (l.map fun o => shD o.2)) (.list (l.map fun o => shD o.2)) = true := by
  simp only [PyData.eqv, eqvAll_self]
theorem layAll_os : ∀ {l : List (V × Shp)}, (∀ o ∈ l, ShN o.2) → PyData.canLayAll0 (l.map fun o => shD o.2) = true
  | [], _ => by simp only [List.map_nil, PyData.canLayAll0]
  | o :: r, h => by simp only [List.map_cons, PyData.canLayAll0, lay_sh (h o List.mem_cons_self), layAll_os fun y hy => h y (List.mem_cons_of_mem _ hy), Bool.and_self]
theorem depAll_os : ∀ {l : List (V × Shp)}, (∀ o ∈ l, dpS o.2 ≤ 6) → PyData.depthAll (l.map fun o => shD o.2) ≤ 6
  | [], _ => by simp only [List.map_nil, PyData.depthAll]; omega
  | o :: r, h => by
    have h1 := depAll_os (l := r) fun y hy => h y (List.mem_cons_of_mem _ hy)
    have h2 := dep_sh o.2
    have h3 := h o List.mem_cons_self
    simp only [List.map_cons, PyData.depthAll]
    omega
theorem shaped_os {l : List (V × Shp)} (h : ∀ o ∈ l, FamS o.2) : SeqAt.shaped (.list (l.map fun o => shD o.2)) = true := by
  have := depAll_os fun o ho => (h o ho).dp
  unfold SeqAt.shaped
  rw [Bool.and_eq_true]
  refine ⟨by simp only [PyData.canLay0]; exact layAll_os fun o ho => (h o ho).nm, decide_eq_true ?_⟩
  simp only [PyData.depth]
  omega
section
variable {P : Program} {w : World} {K : PySem.W.Frag} {mg : Str → Option Value} {base : Heap}
abbrev lawN : List Str := ["script", "pen", "turn", "names", "shapes", "made", "told", "due", "tree", "same", "shape", "other", "twin"]
def spLaw (K : PySem.W.Frag) (T : List (Addr × Str)) : Sp := fun vs H Q _ => ∃ (a : Addr) (ns : List Int), vs = [.ref a] ∧ SqL K H a (ns.map V.int) ∧ ns.length ≤ 63 ∧ Tabs T H ∧ ∀ H', Q (.bl true) H'
def spLIF (K : PySem.W.Frag) : Sp := fun vs H Q _ => ∃ (p : Addr) (m : Nat) (v : V) (d : PyData), vs = [v] ∧ Da K p H v d ∧ Gm m 9 d ∧ m ≤ 10000 ∧ ∀ H', Same H H' → Q (.bl (famD d)) H'
theorem ok_law {T : List (Addr × Str)} {f c P1 fR fD fP fS f1 f2 f3 f4 f5 f6 f7 f8 f9 f10 fI fL fQ fN fE C CF CL CW CN : Addr} {fd dR dD dP dS d1 d2 d3 d4 d5 d6 d7 d8 d9 d10 dI dL dQ dN dE : FuncData} (F : FunC K "law" "law" sLaw f fd c) (B : Glb mg) (mn : mg "min" = none) (TB : TabB base mg c P1) (hm : (P1, qLam) ∈ T) (one : ∀ p ∈ T, p.1 = P1 → p.2 = qLam) (R : RefF K mg CF CL CW CN)
    (FR : Fun K "_law_family_told" "_law_family_told" sLFamilyTold fR dR) (gR : mg "_law_family_told" = some (.ref fR)) (kR : PySem.W.keepIn K (.ref fR) = true) (bR : L2.Binds K dR ["call"] []) (D : Draws P w K mg base fD fP fS dD dP dS)
    (C1 : Has P w K mg base 1 "_law_pen" ["script"] (spPen K) f1 d1) (CNm : Has P w K mg base 3 "_law_names" ["pen", "many"] (spLNm K) f2 d2) (CFm : Has P w K mg base 9 "_law_family" ["pen", "most"] (spFml K) f3 d3) (CE : Has P w K mg base 7 "_law_even_shape" ["names"] (spEvn K 6) f4 d4) (CLn : Has P w K mg base 1 "_law_line" ["names"] (spLin K) f5 d5)
    (CA : Has P w K mg base 3 "_law_any_value" ["pen"] (spAny K) f6 d6) (CS : Has P w K mg base 8 "_law_shape" ["pen", "names", "deep"] (spShp K 6) f7 d7) (CB : Has P w K mg base 9 "_law_bent" ["pen", "shape"] (spFr (spBnt K 6)) f8 d8) (CI : Has P w K mg base 12 "_law_is_family" ["shape"] (spLIF K) f9 d9)
    (CLv : Has P w K mg base 7 "_law_leaves" ["shape"] (spLv K 6) f10 d10) {fPl : Addr} {dPl : FuncData} (CPl : Has P w K mg base 8 "_law_places" ["shape"] (spPc K 6) fPl dPl)
    (RC : FamCls K C) (M : Mk K C fI) (oFI : FnOk P w K mg base (L2.CX P w) 10 fI dI ["self", "shape"] (spFamI K C CF)) (gC : mg "Family" = some (.ref C)) (bF : L2.Binds K dI ["self", "shape"] [])
    (pL : PropOf K C "leaves" p0 fL) (oL : FnOk P w K mg base CX0 1 fL dL ["self"] (spFmL K C)) (bL : L2.Binds K dL ["self"] []) (pQ : PropOf K C "places" p1 fQ) (oQ : FnOk P w K mg base CX0 1 fQ dQ ["self"] (spFmP K C)) (bQ : L2.Binds K dQ ["self"] [])
    (XN : HasX P w K mg base 1 "__len__" ["self"] (spFmN K C) C fN dN) (E : EqF P w K mg base C fE dE) :
    FnG P w K mg base C8.CX0 15 f fd ["script"] (spLaw K T) := by
  refine F.okG scLaw (fun vs H Q E h => ?_) (fun A outer s H vs Q Ex st hr h => ?_)
  · obtain ⟨a, ns, rfl, _⟩ := h
    rfl
  · obtain ⟨a, ns, rfl, hS, hl, hT, q⟩ := h
    have hr1 := hr.mono (show 1 ≤ 14 by decide)
    have hr2 := hr.mono (show 2 ≤ 14 by decide)
    have hr3 := hr.mono (show 3 ≤ 14 by decide)
    have hr7 := hr.mono (show 7 ≤ 14 by decide)
    have hr8 := hr.mono (show 8 ≤ 14 by decide)
    have hr9 := hr.mono (show 9 ≤ 14 by decide)
    have hr12 := hr.mono (show 12 ≤ 14 by decide)
    have hr13 := hr.mono (show 13 ≤ 14 by decide)
    have sg : Still (A.deeper (envOfC "law" (defScope sLaw) s.heap.objs.size f (.ref c))) := st
    obtain ⟨oc, od, kVv, doc, pm, an, cdv, ct, osl, rfl, lk, hcd⟩ := FR.ex
    refine ⟨_, pss_cons (ps_set (i := 1) scLaw.nd rfl (.inl rfl) (pe_has C1 hr1 (by rfl) (pa_cons (pv 0) pa_nil)))
      (pss_cons (ps_for PassesOwn.never rfl (pi_range1 (by rfl) B.range (pa_cons (pe_op op_add pe_int (pe_callB (call_min2 rfl) (by rfl) mn (by decide +kernel) (pa_cons pe_int (pa_cons (pe_callB call_len (by rfl) B.len PySem.boot_len (pa_cons (pv 0) pa_nil)) pa_nil)))) pa_nil)) (pg_name (i := 2) scLaw.nd rfl (.inl rfl))
        (pss_cons (ps_set (i := 3) scLaw.nd rfl (.inl rfl) (pe_call D.oS hr2 (by rfl) D.gS D.kS D.bS .nil pass0 (pa_cons (pv 1) (pa_cons (pe_has CNm hr3 (by rfl) (pa_cons (pv 1) (pa_cons (pe_op op_add pe_int (pe_call D.oD hr1 (by rfl) D.gD D.kD D.bD .nil pass0 (pa_cons (pv 1) (pa_cons pe_int pa_nil)))) pa_nil))) pa_nil))))
        (pss_cons (ps_set (i := 4) scLaw.nd rfl (.inl rfl) (pe_lst (pa_cons (pe_has CFm hr9 (by rfl) (pa_cons (pv 1) (pa_cons pe_int pa_nil))) (pa_cons (pe_has CE hr7 (by rfl) (pa_cons (pv 3) pa_nil)) (pa_cons (pe_has CLn hr1 (by rfl) (pa_cons (pe_slice sl_list (pv 3) po_none (po_some pe_int)) pa_nil)) (pa_cons (pe_has CA hr3 (by rfl) (pa_cons (pv 1) pa_nil)) pa_nil))))))
        (pss_cons (ps_expr (pe_bm PySem.F.plainAttrs_list PySem.F.slot_list_append PySem.F.type_list_append mt_append (pv 4) (pa_cons (pe_tup (pa_cons (pe_has CE hr7 (by rfl) (pa_cons (pv 3) pa_nil)) (pa_cons (pe_has CS hr8 (by rfl) (pa_cons (pv 1) (pa_cons (pe_has CNm hr3 (by rfl) (pa_cons (pv 1) (pa_cons (pe_op op_add pe_int (pe_call D.oD hr1 (by rfl) D.gD D.kD D.bD .nil pass0 (pa_cons (pv 1) (pa_cons pe_int pa_nil)))) pa_nil))) (pa_cons pe_int pa_nil)))) pa_nil))) pa_nil)))
        (pss_cons (ps_expr (pe_bm PySem.F.plainAttrs_list PySem.F.slot_list_append PySem.F.type_list_append mt_append (pv 4) (pa_cons (pe_call D.oP hr2 (by rfl) D.gP D.kP D.bP .nil pass0 (pa_cons (pv 1) (pa_cons (pe_lst (pa_cons pe_str (pa_cons pe_str (pa_cons (pe_tup (pa_cons pe_str (pa_cons pe_str pa_nil))) (pa_cons (pe_tup (pa_cons pe_str (pa_cons pe_str pa_nil))) pa_nil))))) pa_nil))) pa_nil)))
        (pss_cons (ps_set (i := 5) scLaw.nd rfl (.inl rfl) (pe_lst pa_nil))
        (pss_cons (ps_for PassesOwn.never rfl (pi_list (pe_op op_cat (pv 4) (pe_lst (pa_cons (pe_ix ix_list (pv 4) pe_int (fun _ _ => rfl)) (pa_cons (pe_has CB hr9 (by rfl) (pa_cons (pv 1) (pa_cons (pe_ix ix_list (pv 4) pe_int (fun _ _ => rfl)) pa_nil))) (pa_cons (pe_has CB hr9 (by rfl) (pa_cons (pv 1) (pa_cons (pe_ix ix_list (pv 4) pe_int (fun _ _ => rfl)) pa_nil))) pa_nil)))))) (pg_name (i := 10) scLaw.nd rfl (.inr rfl))
          (pss_cons (ps_set (i := 6) scLaw.nd rfl (.inl rfl) (pe_lamcall (T := T) (TT := TTFam K CF) (k := 11) (t := fun E => tMake C (spFamI K C CF) [] E (tCons (tVar 10) tNil)) (by rfl) gR kR lk hcd bR scLFamilyTold rfl (.inl rfl)
              (told_gives R B.isi B.repr sg hr1) TB rfl hm one hr13 (lamS_by (sc := defScope sLaw) (by decide +kernel)) rfl (fun _ _ _ _ _ => rfl) (fun A outer s H E f c' hr' => pe_make M oFI hr' (by rfl) gC bF .nil (fun pins σ H s e s' I c => passAt (takes_of rfl rfl rfl rfl) σ pins H s e s' I c) (pa_cons (pv 10) pa_nil))))
          (pss_cons (ps_if (pt_not (pt_val (pe_has CI hr12 (by rfl) (pa_cons (pv 10) pa_nil))))
              (pss_cons (ps_if (pt_cmpR (op_neS hr.units) (pv 6) (pe_tup (pa_cons pe_str (pa_cons (pe_callB (call_reprA sg hr.units) (by rfl) B.repr boot_repr (pa_cons (pv 10) pa_nil)) (pa_cons pe_bl pa_nil)))) (nomark _)) (pss_one (ps_ret pe_bl)) pss_nil)
              (pss_one ps_continue)) pss_nil)
          (pss_cons (ps_set (i := 7) scLaw.nd rfl (.inl rfl) (pe_tup (pa_cons (pe_callTy call_tupleF (by rfl) B.tuple (by decide +kernel) (pa_cons (pe_has CLv hr7 (by rfl) (pa_cons (pv 10) pa_nil)) pa_nil)) (pa_cons (pe_callTy call_tupleF (by rfl) B.tuple (by decide +kernel) (pa_cons (pe_has CPl hr8 (by rfl) (pa_cons (pv 10) pa_nil)) pa_nil))
              (pa_cons (pe_callB call_len (by rfl) B.len PySem.boot_len (pa_cons (pe_has CLv hr7 (by rfl) (pa_cons (pv 10) pa_nil)) pa_nil)) pa_nil)))))
          (pss_cons (ps_if (PW.pt (pw_or (pt_cmpR op_ne (pe_ix ix_tup (pv 6) pe_int (fun _ _ => rfl)) pe_str (nomark _)) (pw_or1 (pt_cmpR op_ne (pe_callB (call_reprA sg hr.units) (by rfl) B.repr boot_repr (pa_cons (pe_tup (pa_cons (pe_prop (pe_ix ix_tup (pv 6) pe_int (fun _ _ => rfl)) RC.c pL oL hr2 bL .nil pass0 rfl)
              (pa_cons (pe_prop (pe_ix ix_tup (pv 6) pe_int (fun _ _ => rfl)) RC.c pQ oQ hr2 bQ .nil pass0 rfl) (pa_cons (pe_callB (call_lenOwn XN.o hr2 XN.b XN.s XN.n) (by rfl) B.len PySem.boot_len (pa_cons (pe_ix ix_tup (pv 6) pe_int (fun _ _ => rfl)) pa_nil)) pa_nil)))) pa_nil))
              (pe_callB (call_reprA sg hr.units) (by rfl) B.repr boot_repr (pa_cons (pv 7) pa_nil)) (nomark _))))) (pss_one (ps_ret pe_bl)) pss_nil)
          (pss_one (ps_expr (pe_bm PySem.F.plainAttrs_list PySem.F.slot_list_append PySem.F.type_list_append mt_append (pv 5) (pa_cons (pe_tup (pa_cons (pv 10) (pa_cons (pe_ix ix_tup (pv 6) pe_int (fun _ _ => rfl)) pa_nil))) pa_nil)))))))))
        (pss_one (ps_for PassesOwn.never rfl (pi_list (pv 5)) (pg_tup rfl (pgs_cons (pg_name (i := 10) scLaw.nd rfl (.inr rfl)) (pgs_cons (pg_name (i := 8) scLaw.nd rfl (.inr rfl)) pgs_nil)))
          (pss_cons (ps_if (PW.pt (pw_or (pt_cmpR (op_eqOwn E.o hr1 E.b E.s E.n) (pv 8) (pv 10) (nomark _)) (pw_or1 (pt_not (pt_cmpR (op_neOwn E.o hr2 E.b E.s E.n E.ne E.sub) (pv 8) (pv 10) (nomark _)))))) (pss_one (ps_ret pe_bl)) pss_nil)
          (pss_cons (ps_setLc (i := 9) (own := [("other", 11), ("twin", 12)]) (g := gPr K 11 12) (tt := tAnd (tTest (tOp (rOwnCmp K C (spFmE K C) false) (tVar 8) (tVar 12))) (tNot (tTest (tOp (rOwnCmp K C (spFmE K C) true) (tVar 8) (tVar 12))))) (te := tVar 11) rfl scLaw.nd rfl rfl rfl (pi_list (pv 5))
              (blkOk_by (own := [("other", 11), ("twin", 12)]) (N := lawN) (sc := defScope sLaw) (by decide +kernel)) (fun _ _ _ _ _ => pg_tup rfl (pgs_cons (pg_name (i := 11) scLaw.nd rfl (Or.inl rfl) (Or.inr rfl)) (pgs_cons (pg_name (i := 12) scLaw.nd rfl (Or.inl rfl) (Or.inr rfl)) pgs_nil)))
              (fun _ _ _ _ _ => pts_one (PW.pt (pw_and (pt_cmpR (op_eqOwn E.o hr1 E.b E.s E.n) (pv 8) (pv 12) (nomark _)) (pw_and1 (pt_not (pt_cmpR (op_neOwn E.o hr2 E.b E.s E.n E.ne E.sub) (pv 8) (pv 12) (nomark _))))))) (fun _ _ _ _ _ => pv 11))
          (pss_one (ps_if (pt_cmpR (op_neD hr.units) (pv 9) (pe_lc (own := [("other", 11), ("twin", 12)]) (g := gPr K 11 12) (tt := tTest (tOp (L2.rEqD K) (tVar 10) (tVar 11))) (te := tVar 11) rfl scLaw.nd (pi_list (pv 5))
              (blkOk_by (own := [("other", 11), ("twin", 12)]) (N := lawN) (sc := defScope sLaw) (by decide +kernel)) (fun _ _ _ _ _ => pg_tup rfl (pgs_cons (pg_name (i := 11) scLaw.nd rfl (Or.inl rfl) (Or.inr rfl)) (pgs_cons (pg_name (i := 12) scLaw.nd rfl (Or.inl rfl) (Or.inr rfl)) pgs_nil)))
              (fun _ _ _ _ _ => pts_one (pt_cmpR (op_eqD hr.units) (pv 10) (pv 11) (nomark _))) (fun _ _ _ _ _ => pv 11)) (nomark _)) (pss_one (ps_ret pe_bl)) pss_nil)))))))))))))
      (pss_one (ps_ret pe_bl))), ?_⟩
    refine ⟨_, rfl, a, ns, rfl, hS, hl, fun p c0 H0 hp0 s0 G0 => ?_⟩
    have T0 := hT.ext s0
    have hS0 := s0.keeps.l _ _ hS
    refine ⟨_, rfl, .ref a, ns.length, rfl, .inl ⟨_, hS0, by rw [List.length_map]⟩, _, _, rfl, _, _, rfl, rfl, ?_⟩
    obtain ⟨R0, eR0, hR0⟩ : ∃ m : Nat, (6 : Int) + (if (ns.length : Int) < 10 then (ns.length : Int) else 10) = (m : Int) ∧ m ≤ 16 := by
      by_cases z : (ns.length : Int) < 10
      · exact ⟨6 + ns.length, by rw [if_pos z]; omega, by omega⟩
      · exact ⟨16, by rw [if_neg z]; rfl, Nat.le_refl _⟩
    refine ⟨(R0 : Int), by rw [← eR0], by omega, by omega, ?_⟩
    refine for_range (lo := 0) (n := (R0 : Int).toNat) (fun i σ H' => ∃ y2 y3 y4 y5 y6 y7 y8 y9 y10 y11 y12, σ = [some (.ref a), some (.ref p), y2, y3, y4, y5, y6, y7, y8, y9, y10, y11, y12] ∧ PenAt H' p c0 (300 * i) ∧ Tabs T H') ⟨_, _, _, _, _, _, _, _, _, _, _, rfl, G0, T0⟩ (fun i σ H hi hp => ?_) (fun σ H hp => q H)
    obtain ⟨y2, y3, y4, y5, y6, y7, y8, y9, y10, y11, y12, rfl, G, hT⟩ := hp
    have hi16 : i < 16 := by omega
    clear hS hS0 s0 G0 T0 hp0
    -- names
    refine ⟨_, rfl, _, rfl, _, rfl, p, c0, _, 20, rfl, G, by omega, by decide, by decide, fun d H1 d0 d1 s1 G1 => ⟨_, _, rfl, rfl, ?_⟩⟩
    obtain ⟨m, em, m1, m20⟩ : ∃ m : Nat, 1 + d = (m : Int) ∧ 1 ≤ m ∧ m ≤ 20 := ⟨(1 + d).toNat, by omega, by omega, by omega⟩
    refine ⟨p, c0, _, m, by rw [← em]; rfl, G1, by omega, m1, by omega, fun l0 ws0 H2 nm0 ln0 hl0 el0 s2 G2 => ?_⟩
    refine ⟨p, c0, l0, _, _, rfl, G2, by omega, .lst (.inl (.inl el0)), by rw [List.length_map]; omega, fun l1 ys H3 pm hl1 el1 s3 G3 => ?_⟩
    obtain ⟨ws, rfl, wp⟩ := perm_strs pm
    have lw : ws.length = m := by rw [wp.length_eq, ln0]
    have nw : ∀ x ∈ ws, nmS x = true := fun x hx => nmS_of (nm0 x (wp.subset hx))
    rw [List.length_map, ln0] at G3
    have T3 := tabs_pen (tabs_pen (tabs_pen hT G s1) G1 s2) G2 s3
    clear s1 s2 s3 G G1 G2 hl0 hl1 el0 nm0 ln0 pm wp hT
    -- shapes
    refine ⟨_, rfl, p, c0, _, 16, rfl, G3, by omega, by decide, by decide, fun v0 sh0 H4 D0 N0 l0s p0s s4 G4 => ?_⟩
    have W4 := s4.lst G3 el1
    have T4 := tabs_pen T3 G3 s4
    clear s4 G3 T3 el1
    refine ⟨_, rfl, l1, ws, rfl, by decide, .inl (.inl W4), nw, by omega, by show ws.length ≤ 64; omega, fun v1 sh1 H5 D1 N1 l1s p1s s5 => ?_⟩
    have D0 := da_keep s5.keepA D0
    have G5 := G4.same s5
    have W5 := s5 _ _ W4
    have T5 := T4.ext s5
    have D1 := D1 p
    clear s5 G4 W4 T4
    refine ⟨_, rfl, _, rfl, l1, _, rfl, .inl (.inl W5), fun l2 hl2 => ?_⟩
    have s6 := same_new (o := HO.lst (cutV (ws.map V.str) none (some 9))) hl2
    have e6 : upd H5 l2 (HO.lst (cutV (ws.map V.str) none (some 9))) l2 = some (.lst ((ws.take 9).map V.str)) := by
      rw [upd_same, show cutV (ws.map V.str) none (some 9) = (ws.map V.str).take 9 from cutV_to 9, ← List.map_take]
    have D0 := da_keep s6.keepA D0
    have D1 := da_keep s6.keepA D1
    have G6 := G5.same s6
    have W6 := s6 _ _ W5
    have T6 := T5.ext s6
    generalize upd H5 l2 (HO.lst (cutV (ws.map V.str) none (some 9))) = H6 at e6 D0 D1 G6 W6 T6
    clear s6 hl2 G5 W5 T5
    refine ⟨l2, ws.take 9, rfl, .inl (.inl e6), fun x hx => nw x (List.mem_of_mem_take hx), by rw [List.length_take]; omega, by rw [List.length_take]; omega, fun v2 sh2 H7 D2 N2 l2s p2s s7 => ?_⟩
    have D0 := da_keep s7.keepA D0
    have D1 := da_keep s7.keepA D1
    have D2 := D2 p
    have G7 := G6.same s7
    have W7 := s7 _ _ W6
    have T7 := T6.ext s7
    clear s7 G6 W6 T6 e6
    refine ⟨_, rfl, p, c0, _, rfl, G7, by omega, fun v3 H8 A3 s8 G8 => ?_⟩
    have D0 := da_keep (s8.keepA G7) D0
    have D1 := da_keep (s8.keepA G7) D1
    have D2 := da_keep (s8.keepA G7) D2
    have W8 := s8.lst G7 W7
    have T8 := tabs_pen T7 G7 s8
    clear s8 G7 W7 T7
    have q0 : (lvS sh0).length ≤ 16 := l0s
    have q1 : (lvS sh1).length ≤ 20 := by rw [l1s]; omega
    have q2 : (lvS sh2).length ≤ 9 := by rw [l2s, List.length_take]; omega
    have q2d : dpS sh2 ≤ 9 := by rw [List.length_take] at p2s; omega
    have A8 : PvL 1000 9 K p H8 [v0, v1, v2, v3] := fun v hv => by
      simp only [List.mem_cons, List.not_mem_nil, or_false] at hv
      rcases hv with rfl | rfl | rfl | rfl
      · exact ⟨_, D0, gm_shp N0 (by omega) (by omega)⟩
      · exact ⟨_, D1, gm_shp N1 (by omega) (by omega)⟩
      · exact ⟨_, D2, gm_shp N2 (by omega) q2d⟩
      · exact A3.mono (by decide) (by decide)
    clear A3 D2 N2 p2s l2s q2 q2d
    refine ⟨by show 4 ≤ sizeLine; decide, fun sp hsp => ?_⟩
    have gf : GrF K T p c0 l1 ws v0 v1 sh0 sh1 sp _ [v0, v1, v2, v3] H8 (upd H8 sp (HO.lst [v0, v1, v2, v3])) := ⟨hsp, rfl, G8, ⟨T8, W8, D0, D1⟩, A8⟩
    generalize upd H8 sp (HO.lst [v0, v1, v2, v3]) = H9 at gf
    clear hsp A8 G8 W8 T8 D0 D1
    -- append (even(names), shape)
    refine ⟨_, rfl, .inl ⟨rfl, _, .inl (.inl gf.at)⟩, _, rfl, l1, ws, rfl, by decide, .inl (.inl gf.fc.W), nw, by omega, by show ws.length ≤ 64; omega, fun v4 sh4 H10 D4 N4 l4s p4s s10 => ?_⟩
    have D4 := D4 p
    have gf := gf.go (.of s10) (gf.pen.same s10)
    generalize del H10 sp = B10 at gf
    clear s10
    refine ⟨_, rfl, _, rfl, _, rfl, p, c0, _, 7, rfl, gf.pen, by omega, by decide, by decide, fun e H11 e0 e1 s11 G11 => ⟨_, _, rfl, rfl, ?_⟩⟩
    obtain ⟨m2, em2, m21, m27⟩ : ∃ m : Nat, 1 + e = (m : Int) ∧ 1 ≤ m ∧ m ≤ 7 := ⟨(1 + e).toNat, by omega, by omega, by omega⟩
    have D4 := da_keep (s11.keepA gf.pen) D4
    have gf := gf.go s11 G11
    generalize del H11 sp = B11 at gf
    clear s11 G11
    refine ⟨p, c0, _, m2, by rw [← em2]; rfl, gf.pen, by omega, m21, by omega, fun l5 ws5 H12 nm5 ln5 hl5 el5 s12 G12 => ?_⟩
    have D4 := da_keep (s12.keepA gf.pen) D4
    have gf := gf.go s12 G12
    generalize del H12 sp = B12 at gf
    clear s12 G12
    refine ⟨p, c0, l5, _, ws5, rfl, gf.pen, by omega, by decide, .inl (.inl el5), fun x hx => nmS_of (nm5 x hx), by omega, by show ws5.length ≤ 64; omega, fun v5 sh5 H13 D5 N5 l5s p5s s13 G13 => ?_⟩
    have D4 := da_keep (s13.keepA gf.pen) D4
    have gf := gf.go s13 (G13.mono (m := 300 * i + 200) (by omega))
    generalize del H13 sp = B13 at gf
    clear s13 G13 el5 hl5
    refine ⟨by show 2 ≤ sizeLine; decide, fun tq htq => ?_⟩
    have s14 := same_new (o := HO.tup [v4, v5]) htq
    have D45 : Da K p (upd H13 tq (HO.tup [v4, v5])) (.ref tq) (shD (.two sh4 sh5)) := .tup (.inl (.inl upd_same)) (.cons (da_keep s14.keepA D4) (.cons (da_keep s14.keepA D5) .nil))
    have gf := gf.go (.of s14) (gf.pen.same s14)
    generalize upd H13 tq (HO.tup [v4, v5]) = H14 at gf D45
    generalize del H14 sp = B14 at gf
    clear s14 htq D4 D5
    refine ⟨sp, _, .ref tq, rfl, rfl, gf.at, Evl.sz_lt (by show 4 + 1 ≤ _; omega), ?_⟩
    have gf := gf.app D45 (gm_shp (s := .two sh4 sh5) ⟨N4, N5⟩ (by
      show (lvS sh4 ++ lvS sh5).length ≤ 40
      rw [List.length_append, l4s, l5s]
      omega) (by show 1 + max (dpS sh4) (dpS sh5) ≤ 9; omega))
    generalize upd H14 sp (.lst ([v0, v1, v2, v3] ++ [.ref tq])) = H15 at gf
    clear D45 N4 N5 l4s l5s p4s p5s nm5 ln5 em2 m21 m27 e0 e1
    -- append a drawn one
    refine ⟨_, rfl, .inl ⟨rfl, _, .inl (.inl gf.at)⟩, _, rfl, by show 2 ≤ sizeLine; decide, fun t1 h1 => ?_⟩
    have s1 := same_new (o := HO.tup [V.str "abcdefgh", .str "a"]) h1
    have k1 : SqT K (upd H15 t1 (HO.tup [V.str "abcdefgh", .str "a"])) t1 [V.str "abcdefgh", .str "a"] := .inl (.inl upd_same)
    have gf := gf.go (.of s1) (gf.pen.same s1)
    generalize upd H15 t1 (HO.tup [V.str "abcdefgh", .str "a"]) = H15 at gf k1
    generalize del H15 sp = B15 at gf
    clear s1 h1
    refine ⟨by show 2 ≤ sizeLine; decide, fun t2 h2 => ?_⟩
    have s1 := same_new (o := HO.tup [V.str "a", .str "a\n"]) h2
    have k2 : SqT K (upd H15 t2 (HO.tup [V.str "a", .str "a\n"])) t2 [V.str "a", .str "a\n"] := .inl (.inl upd_same)
    have k1 := s1.keeps.t _ _ k1
    have gf := gf.go (.of s1) (gf.pen.same s1)
    generalize upd H15 t2 (HO.tup [V.str "a", .str "a\n"]) = H15 at gf k1 k2
    generalize del H15 sp = B15 at gf
    clear s1 h2
    refine ⟨by show 4 ≤ sizeLine; decide, fun lq hlq => ?_⟩
    have s1 := same_new (o := HO.lst [V.str "abcdefgh", .str "a\n", .ref t1, .ref t2]) hlq
    have kq : SqL K (upd H15 lq (HO.lst [V.str "abcdefgh", .str "a\n", .ref t1, .ref t2])) lq [V.str "abcdefgh", .str "a\n", .ref t1, .ref t2] := .inl (.inl upd_same)
    have k1 := s1.keeps.t _ _ k1
    have k2 := s1.keeps.t _ _ k2
    have gf := gf.go (.of s1) (gf.pen.same s1)
    generalize upd H15 lq (HO.lst [V.str "abcdefgh", .str "a\n", .ref t1, .ref t2]) = H15 at gf k1 k2 kq
    generalize del H15 sp = B15 at gf
    clear s1 hlq
    refine ⟨p, c0, _, .ref lq, _, rfl, gf.pen, by omega, .lst kq, by show 0 < 4; decide, by show 4 < 1073741824; decide, fun j6 v6 H16 hv6 s16 G16 => ?_⟩
    have k1 := s16.keepsT gf.pen _ _ k1
    have k2 := s16.keepsT gf.pen _ _ k2
    have gf := gf.go s16 (G16.mono (m := 300 * i + 210) (by omega))
    generalize del H16 sp = B16 at gf
    obtain ⟨sh6, D6, g6⟩ : ∃ s, Da K p H16 v6 (shD s) ∧ Gm 1000 9 (shD s) := by
      have := List.mem_of_getElem? hv6
      simp only [List.mem_cons, List.not_mem_nil, or_false] at this
      rcases this with rfl | rfl | rfl | rfl
      · exact shp_str _ (by decide +kernel)
      · exact shp_str _ (by decide +kernel)
      · exact shp_two k1 (by decide +kernel)
      · exact shp_two k2 (by decide +kernel)
    clear k1 k2 kq hv6 s16 G16
    refine ⟨sp, _, v6, rfl, rfl, gf.at, Evl.sz_lt (by show 5 + 1 ≤ _; omega), ?_⟩
    have gf := gf.app D6 g6
    generalize upd H16 sp (.lst ([v0, v1, v2, v3] ++ [.ref tq] ++ [v6])) = H17 at gf
    clear D6 g6
    -- made
    refine ⟨by show 0 ≤ sizeLine; decide, fun md hmd => ?_⟩
    have nsm : sp ≠ md := ne_of_none gf.at hmd
    have rd : ∀ {Hx : Hp}, Hx sp = some (.lst ([v0, v1, v2, v3] ++ [.ref tq] ++ [v6])) → SqL K (upd Hx md (.lst [])) sp ([v0, v1, v2, v3] ++ [.ref tq] ++ [v6]) := fun e => .inl (.inl ((upd_ne nsm).trans e))
    refine ⟨_, rfl, _, rfl, sp, _, 0, v0, rfl, rfl, rd gf.at, atI_nat (j := 0) rfl, ?_⟩
    refine ⟨_, rfl, _, rfl, sp, _, 0, v0, rfl, rfl, rd gf.at, atI_nat (j := 0) rfl, ?_⟩
    refine .inr ⟨md, [], H17, hmd, rfl, p, c0, _, v0, sh0, rfl, gf.pen, by omega, gf.fc.D0, N0, p0s, by omega, fun v7 H18 P7 s18 G18 nm18 => ?_⟩
    have D0 := gf.fc.D0
    have D0 := da_keep (s18.keepA gf.pen) D0
    have gf := gf.go s18 G18
    generalize del H18 sp = B18 at gf
    clear s18 G18 hmd
    refine ⟨_, rfl, _, rfl, sp, _, 1, v1, rfl, rfl, rd gf.at, atI_nat (j := 1) rfl, ?_⟩
    refine .inr ⟨md, [], H18, nm18, rfl, p, c0, _, v1, sh1, rfl, gf.pen, by omega, gf.fc.D1, N1, p1s, by omega, fun v8 H19 P8 s19 G19 nm19 => ?_⟩
    have P7 := P7.keepP s19 gf.pen
    have D0 := da_keep (s19.keepA gf.pen) D0
    have gf := gf.go s19 (G19.mono (m := 300 * i + 300) (by omega))
    generalize del H19 sp = B19 at gf
    clear s19 G19 nm18
    have A9 : PvL 1000 9 K p H19 ([v0, v1, v2, v3] ++ [.ref tq] ++ [v6] ++ [v0, v7, v8]) := (gf.A.keep gf.same).app fun v hv => by
      simp only [List.mem_cons, List.not_mem_nil, or_false] at hv
      rcases hv with rfl | rfl | rfl
      · exact ⟨_, D0, gm_shp N0 (by omega) (by omega)⟩
      · exact P7.mono (by omega) (by decide)
      · exact P8.mono (by omega) (by decide)
    have G19 := gf.pen
    have T19 := gf.fc.T
    have e19 := gf.at
    clear gf P7 P8 D0 N0 N1 p0s p1s l0s q0 q1 l1s
    refine ⟨by show 3 ≤ sizeLine; decide, fun q1 hq1 => ?_⟩
    have nqm : q1 ≠ md := fun z => by rw [z, upd_same] at hq1; cases hq1
    have nqs : sp ≠ q1 := ne_of_none ((upd_ne nsm).trans e19) hq1
    refine ⟨sp, q1, _, [v0, v7, v8], rfl, rfl, (upd_ne nqs).trans ((upd_ne nsm).trans e19), upd_same, by show 6 + 3 ≤ sizeLine; decide, fun la hla => ?_⟩
    generalize hSA : ([v0, v1, v2, v3] ++ [.ref tq] ++ [v6] ++ [v0, v7, v8] : List V) = SA at A9
    have lSA : SA.length = 9 := by rw [← hSA]; rfl
    clear hSA
    have tf : TlF K T p c0 C la (300 * i + 300) SA md [] [] (del (upd (upd (upd H19 md (HO.lst [])) q1 (HO.lst [v0, v7, v8])) la (HO.lst SA)) md) (upd (upd (upd H19 md (HO.lst [])) q1 (HO.lst [v0, v7, v8])) la (HO.lst SA)) := by
      have nla : la ≠ md := fun z => by rw [z, upd_ne nqm.symm, upd_same] at hla; cases hla
      have ss : Same H19 (del (upd (upd (upd H19 md (HO.lst [])) q1 (HO.lst [v0, v7, v8])) la (HO.lst SA)) md) := fun b o e => by
        have z1 := same_new (o := HO.lst []) nm19 _ _ e
        have z2 := same_new (o := HO.lst [v0, v7, v8]) hq1 _ _ z1
        have z3 := same_new (o := HO.lst SA) hla _ _ z2
        rw [del_ne (ne_of_none e nm19)]
        exact z3
      refine ⟨del_same, ?_, ⟨G19.same ss, T19.ext ss, .inl (.inl (by rw [del_ne nla]; exact upd_same)), A9.keep ss⟩, .nil⟩
      funext b
      by_cases z : b = md
      · rw [z, upd_same, upd_ne nla.symm, upd_ne nqm.symm, upd_same]
      · rw [upd_ne z, del_ne z]
    generalize upd (upd (upd H19 md (HO.lst [])) q1 (HO.lst [v0, v7, v8])) la (HO.lst SA) = H20 at tf
    generalize del H20 md = B20 at tf
    clear hla hq1 nqs nqm rd nm19 A9 G19 T19 e19 nsm
    refine ⟨la, rfl, ⟨_, tf.now.L⟩, ?_⟩
    refine for_list (K := K) (a := la) (xs := SA) (fun j σ H' => ∃ y6 y7 y8 y9 y10 y11 y12 us ss H0, σ = [some (.ref a), some (.ref p), some (.int (0 + (i : Int))), some (.ref l1), some (.ref sp), some (.ref md), y6, y7, y8, y9, y10, y11, y12] ∧ us.length ≤ j ∧ TlF K T p c0 C la (300 * i + 300) SA md us ss H0 H')
      ⟨_, _, _, _, _, _, _, [], [], _, rfl, Nat.le_refl _, tf⟩ (fun j σ H' hj hp => let ⟨_, _, _, _, _, _, _, _, _, _, _, _, t⟩ := hp; t.now.L) (fun j v σ H hv hp => ?_) (fun σ H hp => ?_)
    · obtain ⟨y6, y7, y8, y9, y10, y11, y12, us, ss, H0, rfl, lus, tf⟩ := hp
      have hj : j < 9 := by
        have := (List.getElem?_eq_some_iff.mp hv).1
        omega
      obtain ⟨d, D, gm⟩ := tf.now.A v (List.mem_of_getElem? hv)
      have shw : ∀ {Hx : Hp}, Da K p Hx v d → Shw K Hx v d := fun z => ⟨⟨p, z⟩, gm.sh, Nat.le_trans gm.dp (by decide), gm.short (by decide)⟩
      cases hf : famD d with
      | false =>
        refine ⟨tf.now.T, fun H1 e1 T1 Q' hQ' => ⟨_, rfl, fun x dx hx hdx nx => ?_⟩⟩
        have tf := tf.go e1 T1
        have D := da_keep (extN_keepA e1) D
        have sm := same_made (H := H1) (o := HO.own x) (o' := HO.ins C dx []) hx hdx (.refl _ _)
        refine ⟨p, x, dx, 1000, 9, v, d, rfl, upd_same, da_keep sm.keepA D, gm, by decide, (fun s es fs => by rw [es, fam_yes fs] at hf; cases hf), fun _ dd H2 s2 _ ed => ⟨dd, v, d, rfl, rfl, ed, shw (da_keep (sm.trans s2).keepA D), fun t H3 s3 et => ?_⟩⟩
        have S3 := (sm.trans s2).trans s3
        have tf := tf.keep S3
        have D := da_keep S3.keepA D
        generalize del H3 md = B3 at tf
        refine ⟨_, rfl, p, 1000, v, d, rfl, D, gm, by decide, fun H4 s4 => ⟨_, rfl, ?_⟩⟩
        have tf := tf.keep s4
        have D := da_keep s4.keepA D
        have et : SqT K H4 t [.str "family", .str d.shown, .bl true] := .inl (.inl (s4 _ _ et))
        generalize del H4 md = B4 at tf
        rw [hf]
        refine iteT ⟨_, rfl, _, rfl, p, v, d, rfl, D, gm.sh, Nat.le_trans gm.dp (by decide), gm.short (by decide), by show 3 ≤ sizeLine; decide, fun t5 h5 => ?_⟩
        have s5 := same_new (o := HO.tup [.str "family", .str d.shown, .bl true]) h5
        have tf := tf.keep s5
        have et := s5.keeps.t _ _ et
        have e5 : SqT K (upd H4 t5 (HO.tup [.str "family", .str d.shown, .bl true])) t5 [.str "family", .str d.shown, .bl true] := .inl (.inl upd_same)
        refine ⟨.inr ⟨t, t5, _, rfl, rfl, et, e5, fun z hz => by
          simp only [List.mem_cons, List.not_mem_nil, or_false] at hz
          rcases hz with rfl | rfl | rfl <;> rfl⟩, _, rfl, iteF ?_⟩
        exact ⟨_, _, _, _, _, _, _, us, ss, _, rfl, by omega, tf⟩
      | true =>
        obtain ⟨z, rfl, fz⟩ := fam_shp hf
        refine ⟨tf.now.T, fun H1 e1 T1 Q' hQ' => ⟨_, rfl, fun x dx hx hdx nx => ?_⟩⟩
        have tf := tf.go e1 T1
        have D := da_keep (extN_keepA e1) D
        have sm := same_made (H := H1) (o := HO.own x) (o' := HO.ins C dx []) hx hdx (.refl _ _)
        refine ⟨p, x, dx, 1000, 9, v, _, rfl, upd_same, da_keep sm.keepA D, gm, by decide, (fun s es fs H2 sx fa => ⟨rfl, hQ' _ _ fun t ht => ?_⟩), fun nf => by rw [nf] at hf; cases hf⟩
        cases shD_inj es
        have s2 := same_made hx hdx sx
        have s3 := same_new (o := HO.tup [.str "made", .ref x]) ht
        have tf := tf.keep (s2.trans s3)
        have D := da_keep (s2.trans s3).keepA D
        have fa := fa.keep s3
        have et : SqT K (upd H2 t (HO.tup [.str "made", .ref x])) t [.str "made", .ref x] := .inl (.inl upd_same)
        generalize upd H2 t (HO.tup [.str "made", .ref x]) = H3 at tf D fa et
        generalize del H3 md = B3 at tf
        clear s2 s3 sx sm ht hQ' hx hdx nx e1 T1
        refine ⟨_, rfl, p, 1000, v, _, rfl, D, gm, by decide, fun H4 s4 => ⟨_, rfl, ?_⟩⟩
        have tf := tf.keep s4
        have D := da_keep s4.keepA D
        have fa := fa.keep s4
        have et := s4.keeps.t _ _ et
        generalize del H4 md = B4 at tf
        rw [hf]
        clear s4
        refine iteF ⟨_, rfl, p, v, z, rfl, D, fz.nm, fz.dp, Nat.le_refl _, fun k1 H5 nk1 ek1 s5 => ?_⟩
        have tf := tf.keep s5
        have D := da_keep s5.keepA D
        have fa := fa.keep s5
        have et := s5.keeps.t _ _ et
        generalize del H5 md = B5 at tf
        refine ⟨k1, _, rfl, .inl (.inl ek1), fun k2 ob2 nk2 bd2 => ?_⟩
        have s6 := same_new (o := HO.frz ob2 (.tup ((lvS z).map V.str))) nk2
        have ek2 : SqT K (upd H5 k2 (HO.frz ob2 (.tup ((lvS z).map V.str)))) k2 ((lvS z).map V.str) := .inl (.inr ⟨ob2, upd_same⟩)
        have tf := tf.keep s6
        have D := da_keep s6.keepA D
        have fa := fa.keep s6
        have et := s6.keeps.t _ _ et
        generalize upd H5 k2 (HO.frz ob2 (.tup ((lvS z).map V.str))) = H6 at tf D fa et ek2
        generalize del H6 md = B6 at tf
        clear s5 s6 nk1 ek1 nk2 bd2
        refine ⟨_, rfl, p, v, z, rfl, D, fz.nm, fz.dp, Nat.le_refl _, fun k3 ps H7 nk3 ek3 dp s7 => ?_⟩
        have tf := tf.keep s7
        have D := da_keep s7.keepA D
        have fa := fa.keep s7
        have et := s7.keeps.t _ _ et
        have ek2 := s7.keeps.t _ _ ek2
        generalize del H7 md = B7 at tf
        refine ⟨k3, _, rfl, .inl (.inl ek3), fun k4 ob4 nk4 bd4 => ?_⟩
        have s8 := same_new (o := HO.frz ob4 (.tup ps)) nk4
        have ek4 : SqT K (upd H7 k4 (HO.frz ob4 (.tup ps))) k4 ps := .inl (.inr ⟨ob4, upd_same⟩)
        have dp := da_keepAll s8.keepA dp
        have tf := tf.keep s8
        have D := da_keep s8.keepA D
        have fa := fa.keep s8
        have et := s8.keeps.t _ _ et
        have ek2 := s8.keeps.t _ _ ek2
        generalize upd H7 k4 (HO.frz ob4 (.tup ps)) = H8 at tf D fa et ek2 ek4 dp
        generalize del H8 md = B8 at tf
        clear s7 s8 nk3 ek3 nk4 bd4
        refine ⟨_, rfl, p, v, z, rfl, D, fz.nm, fz.dp, Nat.le_refl _, fun k5 H9 nk5 ek5 s9 => ?_⟩
        have tf := tf.keep s9
        have D := da_keep s9.keepA D
        have fa := fa.keep s9
        have et := s9.keeps.t _ _ et
        have ek2 := s9.keeps.t _ _ ek2
        have ek4 := s9.keeps.t _ _ ek4
        have dp := da_keepAll s9.keepA dp
        generalize del H9 md = B9 at tf
        refine ⟨.ref k5, (lvS z).length, rfl, .inl ⟨_, .inl (.inl ek5), by rw [List.length_map]⟩, by show 3 ≤ sizeLine; decide, fun td htd => ?_⟩
        have s10 := same_new (o := HO.tup [.ref k2, .ref k4, .int ((lvS z).length : Nat)]) htd
        have Dd : Da K p (upd H9 td (HO.tup [.ref k2, .ref k4, .int ((lvS z).length : Nat)])) (.ref td) (dueD z) := .tup (.inl (.inl upd_same)) (.cons (.tup (s10.keeps.t _ _ ek2) da_strs) (.cons (.tup (s10.keeps.t _ _ ek4) (da_keepAll s10.keepA dp)) (.cons (.int _) .nil)))
        have tf := tf.keep s10
        have D := da_keep s10.keepA D
        have fa := fa.keep s10
        have et := s10.keeps.t _ _ et
        generalize upd H9 td (HO.tup [.ref k2, .ref k4, .int ((lvS z).length : Nat)]) = H10 at tf D fa et Dd
        generalize del H10 md = B10 at tf
        clear s9 s10 nk5 ek5 ek2 ek4 dp htd
        have gd := gm_due fz
        obtain ⟨dx, fs, ei⟩ := fa.ins
        refine ⟨_, rfl, t, _, 0, .str "made", rfl, rfl, et, atI_nat (j := 0) rfl, rfl, _, rfl, ?_⟩
        rw [decide_eq_true rfl]
        refine iteF ?_
        refine ⟨_, rfl, t, _, 1, .ref x, rfl, rfl, et, atI_nat (j := 1) rfl, x, dx, fs, rfl, ei, p, x, v, z, rfl, fa, fun tl etl => ?_⟩
        refine ⟨_, rfl, t, _, 1, .ref x, rfl, rfl, et, atI_nat (j := 1) rfl, x, dx, fs, rfl, ei, p, x, v, z, rfl, fa, fun tp ps etp dps => ?_⟩
        refine ⟨_, rfl, t, _, 1, .ref x, rfl, rfl, et, atI_nat (j := 1) rfl, x, dx, fs, rfl, ei, p, x, v, z, rfl, fa, (lvS z).length, rfl, by have := fz.few; omega, ?_⟩
        refine ⟨by show 3 ≤ sizeLine; decide, fun tr htr => ?_⟩
        have s11 := same_new (o := HO.tup [.ref tl, .ref tp, .int ((lvS z).length : Nat)]) htr
        have Dr : Da K p (upd H10 tr (HO.tup [.ref tl, .ref tp, .int ((lvS z).length : Nat)])) (.ref tr) (dueD z) := .tup (.inl (.inl upd_same)) (.cons (.tup (s11.keeps.t _ _ etl) da_strs) (.cons (.tup (s11.keeps.t _ _ etp) (da_keepAll s11.keepA dps)) (.cons (.int _) .nil)))
        have Dd := da_keep s11.keepA Dd
        have tf := tf.keep s11
        have D := da_keep s11.keepA D
        have fa := fa.keep s11
        have et := s11.keeps.t _ _ et
        generalize upd H10 tr (HO.tup [.ref tl, .ref tp, .int ((lvS z).length : Nat)]) = H11 at tf D fa et Dd Dr
        generalize del H11 md = B11 at tf
        clear s11 ei etl etp dps htr
        refine ⟨p, .ref tr, _, rfl, Dr, gd.sh, Nat.le_trans gd.dp (by decide), gd.short (by decide), _, rfl, p, .ref td, _, rfl, Dd, gd.sh, Nat.le_trans gd.dp (by decide), gd.short (by decide), rfl, _, rfl, ?_⟩
        rw [decide_eq_true rfl]
        refine iteF ?_
        refine ⟨_, rfl, .inl ⟨rfl, _, .inl (.inl tf.at)⟩, _, rfl, _, rfl, t, _, 1, .ref x, rfl, rfl, et, atI_nat (j := 1) rfl, by show 2 ≤ sizeLine; decide, fun tm htm => ?_⟩
        have s12 := same_new (o := HO.tup [v, .ref x]) htm
        have md1 : MdV K p C (upd H11 tm (HO.tup [v, .ref x])) (.ref tm) z := ⟨tm, v, x, rfl, .inl (.inl upd_same), fa.keep s12⟩
        have tf := tf.keep s12
        generalize upd H11 tm (HO.tup [v, .ref x]) = H12 at tf md1
        generalize del H12 md = B12 at tf
        refine ⟨md, us, .ref tm, rfl, rfl, tf.at, Evl.sz_lt (by omega), ?_⟩
        exact ⟨_, _, _, _, _, _, _, us ++ [.ref tm], ss ++ [z], _, rfl, by rw [List.length_append]; show _ + 1 ≤ _; omega, tf.app md1⟩
    · obtain ⟨y6, y7, y8, y9, y10, y11, y12, us, ss, H0, rfl, lus, tf⟩ := hp
      have us9 : us.length ≤ 9 := by omega
      have et := tf.at
      have wk := tf.now
      have ml := tf.mdn
      clear tf lus
      obtain ⟨os, po⟩ := md_os ml
      clear ml
      refine ⟨_, rfl, md, rfl, ⟨_, .inl (.inl et)⟩, ?_⟩
      refine for_list (K := K) (a := md) (xs := us) (fun j σ H' => ∃ y6 y7 y8 y9 y10 y11 y12, σ = [some (.ref a), some (.ref p), some (.int (0 + (i : Int))), some (.ref l1), some (.ref sp), some (.ref md), y6, y7, y8, y9, y10, y11, y12] ∧ WkF K T p c0 la (300 * i + 300) SA H' ∧ H' md = some (.lst us) ∧ PrMs K p C H' us os)
        ⟨_, _, _, _, _, _, _, rfl, wk, et, po⟩ (fun j σ H' hj hp => let ⟨_, _, _, _, _, _, _, _, _, e, _⟩ := hp; .inl (.inl e)) (fun j u σ H hu hp => ?_) (fun σ H hp => ?_)
      · obtain ⟨y6, y7, y8, y9, y10, y11, y12, rfl, wk, et, po⟩ := hp
        obtain ⟨⟨v, sh⟩, ho, t, x, rfl, ht, fa⟩ := po.2 j u hu
        have fa : FamAt K p C H x v sh := fa
        refine ⟨t, _, rfl, ht, rfl, _, _, rfl, _, _, rfl, rfl, ?_⟩
        refine ⟨_, rfl, _, rfl, eq_shape E fa fa.da ⟨_, rfl, iteF ⟨_, rfl, _, rfl, eq_shape E fa fa.da ⟨_, rfl, iteF ?_⟩⟩⟩⟩
        have hS : SqL K H md us := .inl (.inl et)
        refine ⟨_, rfl, md, rfl, ⟨_, hS⟩, fun Dl hD => ?_⟩
        refine lc_list (K := K) (a := md) (xs := us) (g := gPr K 11 12) (fun k H' => H' Dl = some (.lst ((selO sh (os.take k)).map (·.1))) ∧ Same H H') ⟨upd_same, same_new hD⟩ (fun k H' _ hp => hp.2.keeps.l _ _ hS) (fun k u2 H' hu2 hp => ?_) (fun H' hp => ?_)
        · obtain ⟨eD, sm⟩ := hp
          obtain ⟨⟨v2, sh2⟩, ho2, t2, x2, rfl, ht2, fa2⟩ := (po.keep sm).2 k u2 hu2
          have fa2 : FamAt K p C H' x2 v2 sh2 := fa2
          have tk := selO_take (s := sh) ho2
          have hk : k < us.length := (List.getElem?_eq_some_iff.mp hu2).1
          refine ⟨t2, _, rfl, ht2, rfl, _, _, rfl, _, _, rfl, rfl, rfl, ?_⟩
          refine ⟨_, rfl, _, rfl, eq_fam E (fa.keep sm) fa2 ⟨_, rfl, ?_⟩⟩
          by_cases z : sh = sh2
          · rw [if_pos (show sh = (v2, sh2).2 from z)] at tk
            show if decide (sh = sh2) = true then _ else _
            rw [decide_eq_true z]
            refine iteT ⟨_, rfl, _, rfl, eq_fam E (fa.keep sm) fa2 ⟨_, rfl, ?_⟩⟩
            show if (!(!decide (sh = sh2))) = true then _ else _
            rw [decide_eq_true z]
            refine iteT ⟨_, rfl, _, eD, Evl.sz_lt (by have := selO_len (s := sh) (l := os) (i := k); omega), ?_, fun b o e => by rw [upd_ne (ne_of_none e hD)]; exact sm b o e⟩
            rw [upd_same, tk]
          · rw [if_neg (show ¬ sh = (v2, sh2).2 from z), List.append_nil] at tk
            show if decide (sh = sh2) = true then _ else _
            rw [decide_eq_false z]
            refine iteF (iteF ⟨?_, sm⟩)
            rw [tk]
            exact eD
        · obtain ⟨eD, sm⟩ := hp
          rw [← po.1, List.take_length] at eD
          have wk := wk.keep sm
          have po := po.keep sm
          have et := sm _ _ et
          have fa := fa.keep sm
          have hS : SqL K H' md us := .inl (.inl et)
          clear sm hD ht
          refine ⟨_, rfl, _, rfl, md, rfl, ⟨_, hS⟩, fun D2 hD2 => ?_⟩
          refine lc_list (K := K) (a := md) (xs := us) (g := gPr K 11 12) (fun k H2 => H2 D2 = some (.lst ((selO sh (os.take k)).map (·.1))) ∧ Same H' H2) ⟨upd_same, same_new hD2⟩ (fun k H2 _ hp => hp.2.keeps.l _ _ hS) (fun k u2 H2 hu2 hp => ?_) (fun H2 hp => ?_)
          · obtain ⟨eD2, sm⟩ := hp
            obtain ⟨⟨v2, sh2⟩, ho2, t2, x2, rfl, ht2, fa2⟩ := (po.keep sm).2 k u2 hu2
            have fa2 : FamAt K p C H2 x2 v2 sh2 := fa2
            have tk := selO_take (s := sh) ho2
            have hk : k < us.length := (List.getElem?_eq_some_iff.mp hu2).1
            refine ⟨t2, _, rfl, ht2, rfl, _, _, rfl, _, _, rfl, rfl, rfl, ?_⟩
            refine ⟨_, rfl, _, rfl, shD sh, shD sh2, da_dpS (fa.keep sm).da, da_dpS fa2.da, shaped_sh fa.ok.nm fa.ok.dp, shaped_sh fa2.ok.nm fa2.ok.dp, _, rfl, ?_⟩
            rw [eqv_sh]
            by_cases z : sh = sh2
            · rw [if_pos (show sh = (v2, sh2).2 from z)] at tk
              rw [decide_eq_true z]
              refine iteT ⟨_, rfl, _, eD2, Evl.sz_lt (by have := selO_len (s := sh) (l := os) (i := k); omega), ?_, fun b o e => by rw [upd_ne (ne_of_none e hD2)]; exact sm b o e⟩
              rw [upd_same, tk]
            · rw [if_neg (show ¬ sh = (v2, sh2).2 from z), List.append_nil] at tk
              rw [decide_eq_false z]
              refine iteF ⟨?_, sm⟩
              rw [tk]
              exact eD2
          · obtain ⟨eD2, sm⟩ := hp
            rw [← po.1, List.take_length] at eD2
            have po := po.keep sm
            have eD := sm _ _ eD
            have all : ∀ o ∈ selO sh os, ∃ x, FamAt K p C H2 x o.1 o.2 := fun o ho => by
              obtain ⟨k, hk⟩ := List.getElem?_of_mem (List.mem_filter.mp ho).1
              have lk : k < us.length := by rw [← po.1]; exact (List.getElem?_eq_some_iff.mp hk).1
              obtain ⟨o', h1, t', x', _, _, f'⟩ := po.2 k us[k] (by simp [lk])
              rw [hk] at h1
              cases h1
              exact ⟨x', f'⟩
            have D1 : DpAll K H2 ((selO sh os).map (·.1)) ((selO sh os).map fun o => shD o.2) := dp_os (p := p) fun o ho => let ⟨_, f⟩ := all o ho; f.da
            have sd := shaped_os (l := selO sh os) fun o ho => let ⟨_, f⟩ := all o ho; f.ok
            refine ⟨_, _, .lst (.inl (.inl eD)) D1, .lst (.inl (.inl eD2)) D1, sd, sd, _, rfl, ?_⟩
            rw [eqv_self]
            refine iteF ?_
            exact ⟨_, _, _, _, _, _, _, rfl, wk.keep sm, sm _ _ et, po⟩
      · obtain ⟨y6, y7, y8, y9, y10, y11, y12, rfl, wk, _, _⟩ := hp
        exact ⟨_, _, _, _, _, _, _, _, _, _, _, rfl, wk.G.mono (by omega), wk.T⟩
end
end My
set_option Elab.async false
set_option linter.all false
set_option maxRecDepth 100000
set_option maxHeartbeats 4000000
namespace My
open PySem PySem.Spec PyProof.Rows L2
/-! ### what the top has written -/
theorem all_mk {l : PySem.W.OpenLaw} {w : World} {K : PySem.W.Frag} {h : Heap} {mg : Str → Option Value} {fa f1 f2 f3 f4 f5 f6 f7 f8 f9 f10 f11 f12 f13 f14 f15 f16 f17 f18 f19 f20 f21 f22 f23 co23 P23 CA fiA ppAleaves pgAleaves ppAplaces pgAplaces fmA__len__ fmA__eq__ CF fiF CL CW CN : Addr} {t1 t2 t3 t4 : Tok} (X : K.In h) (G : h.Ns mainGlobals mg) (hfa : mg "law" = some (.ref fa))
    {prAleaves prAplaces : List Value}
    {od1 an1 od2 an2 od3 an3 od4 an4 od5 an5 od6 an6 od7 an7 od8 an8 od9 an9 od10 an10 od11 an11 od12 an12 od13 an13 od14 an14 od15 an15 od16 an16 od17 an17 od18 an18 od19 an19 od20 an20 od21 an21 od22 an22 od23 an23 xd23 odiA aniA odpAleaves anpAleaves odpAplaces anpAplaces odmA__len__ anmA__len__ odmA__eq__ anmA__eq__ odiF aniF : Option Addr} {sl1 sl2 sl3 sl4 sl5 sl6 sl7 sl8 sl9 sl10 sl11 sl12 sl13 sl14 sl15 sl16 sl17 sl18 sl19 sl20 sl21 sl22 sl23 xs23 sliA slpAleaves slpAplaces slmA__len__ slmA__eq__ sliF : Array (Option Value)} {oc1 kV1 dc1 pm1 cd1 ct1 oc2 kV2 dc2 pm2 cd2 ct2 oc3 kV3 dc3 pm3 cd3 ct3 oc4 kV4 dc4 pm4 cd4 ct4 oc5 kV5 dc5 pm5 cd5 ct5 oc6 kV6 dc6 pm6 cd6 ct6 oc7 kV7 dc7 pm7 cd7 ct7 oc8 kV8 dc8 pm8 cd8 ct8 oc9 kV9 dc9 pm9 cd9 ct9 oc10 kV10 dc10 pm10 cd10 ct10 oc11 kV11 dc11 pm11 cd11 ct11 oc12 kV12 dc12 pm12 cd12 ct12 oc13 kV13 dc13 pm13 cd13 ct13 oc14 kV14 dc14 pm14 cd14 ct14 oc15 kV15 dc15 pm15 cd15 ct15 oc16 kV16 dc16 pm16 cd16 ct16 oc17 kV17 dc17 pm17 cd17 ct17 oc18 kV18 dc18 pm18 cd18 ct18 oc19 kV19 dc19 pm19 cd19 ct19 oc20 kV20 dc20 pm20 cd20 ct20 oc21 kV21 dc21 pm21 cd21 ct21 oc22 kV22 dc22 pm22 cd22 ct22 oc23 kV23 dc23 pm23 ct23 xc23 ociA kViA dciA pmiA cdiA ctiA ocpAleaves kVpAleaves dcpAleaves pmpAleaves cdpAleaves ctpAleaves ocpAplaces kVpAplaces dcpAplaces pmpAplaces cdpAplaces ctpAplaces ocmA__len__ kVmA__len__ dcmA__len__ pmmA__len__ cdmA__len__ ctmA__len__ ocmA__eq__ kVmA__eq__ dcmA__eq__ pmmA__eq__ cdmA__eq__ ctmA__eq__ ociF kViF dciF pmiF cdiF ctiF : Value} {xv23 : Array Value}
    {nmF qqF : Str} {NF : Addr} {bsF : List Value} {snF : List Str} {subF : List Value} {abF : Bool} {colF : Option Bool} {ddF : Option Addr} {m0F m1F m2F m3F m5F : Option Value}
    (a1 : PySem.W.nsIn K mainGlobals "is_name" = some (some (.ref f1)))
    (l1 : K.lookup f1 = some ⟨oc1, od1, .func (PySem.W.fnOf "is_name" "is_name" (defArgs sIsName) (defBody sIsName) (defScope sIsName) .none kV1 dc1 pm1 an1 cd1 ct1), sl1⟩)
    (c1 : PySem.W.codeIn K cd1 "is_name" = true)
    (k1 : PySem.W.keepIn K (.ref f1) = true)
    (a2 : PySem.W.nsIn K mainGlobals "is_nested" = some (some (.ref f2)))
    (l2 : K.lookup f2 = some ⟨oc2, od2, .func (PySem.W.fnOf "is_nested" "is_nested" (defArgs sIsNested) (defBody sIsNested) (defScope sIsNested) .none kV2 dc2 pm2 an2 cd2 ct2), sl2⟩)
    (c2 : PySem.W.codeIn K cd2 "is_nested" = true)
    (k2 : PySem.W.keepIn K (.ref f2) = true)
    (a3 : PySem.W.nsIn K mainGlobals "leaves_of" = some (some (.ref f3)))
    (l3 : K.lookup f3 = some ⟨oc3, od3, .func (PySem.W.fnOf "leaves_of" "leaves_of" (defArgs sLeavesOf) (defBody sLeavesOf) (defScope sLeavesOf) .none kV3 dc3 pm3 an3 cd3 ct3), sl3⟩)
    (c3 : PySem.W.codeIn K cd3 "leaves_of" = true)
    (k3 : PySem.W.keepIn K (.ref f3) = true)
    (a4 : PySem.W.nsIn K mainGlobals "places_of" = some (some (.ref f4)))
    (l4 : K.lookup f4 = some ⟨oc4, od4, .func (PySem.W.fnOf "places_of" "places_of" (defArgs sPlacesOf) (defBody sPlacesOf) (defScope sPlacesOf) .none kV4 dc4 pm4 an4 cd4 ct4), sl4⟩)
    (c4 : PySem.W.codeIn K cd4 "places_of" = true)
    (k4 : PySem.W.keepIn K (.ref f4) = true)
    (a5 : PySem.W.nsIn K mainGlobals "is_family" = some (some (.ref f5)))
    (l5 : K.lookup f5 = some ⟨oc5, od5, .func (PySem.W.fnOf "is_family" "is_family" (defArgs sIsFamily) (defBody sIsFamily) (defScope sIsFamily) .none kV5 dc5 pm5 an5 cd5 ct5), sl5⟩)
    (c5 : PySem.W.codeIn K cd5 "is_family" = true)
    (k5 : PySem.W.keepIn K (.ref f5) = true)
    (a6 : PySem.W.nsIn K mainGlobals "_law_pen" = some (some (.ref f6)))
    (l6 : K.lookup f6 = some ⟨oc6, od6, .func (PySem.W.fnOf "_law_pen" "_law_pen" (defArgs sPen) (defBody sPen) (defScope sPen) .none kV6 dc6 pm6 an6 cd6 ct6), sl6⟩)
    (c6 : PySem.W.codeIn K cd6 "_law_pen" = true)
    (k6 : PySem.W.keepIn K (.ref f6) = true)
    (a7 : PySem.W.nsIn K mainGlobals "_law_draw" = some (some (.ref f7)))
    (l7 : K.lookup f7 = some ⟨oc7, od7, .func (PySem.W.fnOf "_law_draw" "_law_draw" (defArgs sDraw) (defBody sDraw) (defScope sDraw) .none kV7 dc7 pm7 an7 cd7 ct7), sl7⟩)
    (c7 : PySem.W.codeIn K cd7 "_law_draw" = true)
    (k7 : PySem.W.keepIn K (.ref f7) = true)
    (a8 : PySem.W.nsIn K mainGlobals "_law_pick" = some (some (.ref f8)))
    (l8 : K.lookup f8 = some ⟨oc8, od8, .func (PySem.W.fnOf "_law_pick" "_law_pick" (defArgs sPick) (defBody sPick) (defScope sPick) .none kV8 dc8 pm8 an8 cd8 ct8), sl8⟩)
    (c8 : PySem.W.codeIn K cd8 "_law_pick" = true)
    (k8 : PySem.W.keepIn K (.ref f8) = true)
    (a9 : PySem.W.nsIn K mainGlobals "_law_shuffled" = some (some (.ref f9)))
    (l9 : K.lookup f9 = some ⟨oc9, od9, .func (PySem.W.fnOf "_law_shuffled" "_law_shuffled" (defArgs sShuf) (defBody sShuf) (defScope sShuf) .none kV9 dc9 pm9 an9 cd9 ct9), sl9⟩)
    (c9 : PySem.W.codeIn K cd9 "_law_shuffled" = true)
    (k9 : PySem.W.keepIn K (.ref f9) = true)
    (a10 : PySem.W.nsIn K mainGlobals "_law_names" = some (some (.ref f10)))
    (l10 : K.lookup f10 = some ⟨oc10, od10, .func (PySem.W.fnOf "_law_names" "_law_names" (defArgs sLNames) (defBody sLNames) (defScope sLNames) .none kV10 dc10 pm10 an10 cd10 ct10), sl10⟩)
    (c10 : PySem.W.codeIn K cd10 "_law_names" = true)
    (k10 : PySem.W.keepIn K (.ref f10) = true)
    (a11 : PySem.W.nsIn K mainGlobals "_law_any_value" = some (some (.ref f11)))
    (l11 : K.lookup f11 = some ⟨oc11, od11, .func (PySem.W.fnOf "_law_any_value" "_law_any_value" (defArgs sLAnyValue) (defBody sLAnyValue) (defScope sLAnyValue) .none kV11 dc11 pm11 an11 cd11 ct11), sl11⟩)
    (c11 : PySem.W.codeIn K cd11 "_law_any_value" = true)
    (k11 : PySem.W.keepIn K (.ref f11) = true)
    (a12 : PySem.W.nsIn K mainGlobals "_law_is_name" = some (some (.ref f12)))
    (l12 : K.lookup f12 = some ⟨oc12, od12, .func (PySem.W.fnOf "_law_is_name" "_law_is_name" (defArgs sLName) (defBody sLName) (defScope sLName) .none kV12 dc12 pm12 an12 cd12 ct12), sl12⟩)
    (c12 : PySem.W.codeIn K cd12 "_law_is_name" = true)
    (k12 : PySem.W.keepIn K (.ref f12) = true)
    (a13 : PySem.W.nsIn K mainGlobals "_law_family_told" = some (some (.ref f13)))
    (l13 : K.lookup f13 = some ⟨oc13, od13, .func (PySem.W.fnOf "_law_family_told" "_law_family_told" (defArgs sLFamilyTold) (defBody sLFamilyTold) (defScope sLFamilyTold) .none kV13 dc13 pm13 an13 cd13 ct13), sl13⟩)
    (c13 : PySem.W.codeIn K cd13 "_law_family_told" = true)
    (k13 : PySem.W.keepIn K (.ref f13) = true)
    (a14 : PySem.W.nsIn K mainGlobals "_law_shape" = some (some (.ref f14)))
    (l14 : K.lookup f14 = some ⟨oc14, od14, .func (PySem.W.fnOf "_law_shape" "_law_shape" (defArgs sLShape) (defBody sLShape) (defScope sLShape) .none kV14 dc14 pm14 an14 cd14 ct14), sl14⟩)
    (c14 : PySem.W.codeIn K cd14 "_law_shape" = true)
    (k14 : PySem.W.keepIn K (.ref f14) = true)
    (a15 : PySem.W.nsIn K mainGlobals "_law_even_shape" = some (some (.ref f15)))
    (l15 : K.lookup f15 = some ⟨oc15, od15, .func (PySem.W.fnOf "_law_even_shape" "_law_even_shape" (defArgs sLEvenShape) (defBody sLEvenShape) (defScope sLEvenShape) .none kV15 dc15 pm15 an15 cd15 ct15), sl15⟩)
    (c15 : PySem.W.codeIn K cd15 "_law_even_shape" = true)
    (k15 : PySem.W.keepIn K (.ref f15) = true)
    (a16 : PySem.W.nsIn K mainGlobals "_law_family" = some (some (.ref f16)))
    (l16 : K.lookup f16 = some ⟨oc16, od16, .func (PySem.W.fnOf "_law_family" "_law_family" (defArgs sLFamily) (defBody sLFamily) (defScope sLFamily) .none kV16 dc16 pm16 an16 cd16 ct16), sl16⟩)
    (c16 : PySem.W.codeIn K cd16 "_law_family" = true)
    (k16 : PySem.W.keepIn K (.ref f16) = true)
    (a17 : PySem.W.nsIn K mainGlobals "_law_leaves" = some (some (.ref f17)))
    (l17 : K.lookup f17 = some ⟨oc17, od17, .func (PySem.W.fnOf "_law_leaves" "_law_leaves" (defArgs sLLeaves) (defBody sLLeaves) (defScope sLLeaves) .none kV17 dc17 pm17 an17 cd17 ct17), sl17⟩)
    (c17 : PySem.W.codeIn K cd17 "_law_leaves" = true)
    (k17 : PySem.W.keepIn K (.ref f17) = true)
    (a18 : PySem.W.nsIn K mainGlobals "_law_places" = some (some (.ref f18)))
    (l18 : K.lookup f18 = some ⟨oc18, od18, .func (PySem.W.fnOf "_law_places" "_law_places" (defArgs sLPlaces) (defBody sLPlaces) (defScope sLPlaces) .none kV18 dc18 pm18 an18 cd18 ct18), sl18⟩)
    (c18 : PySem.W.codeIn K cd18 "_law_places" = true)
    (k18 : PySem.W.keepIn K (.ref f18) = true)
    (a19 : PySem.W.nsIn K mainGlobals "_law_depth" = some (some (.ref f19)))
    (l19 : K.lookup f19 = some ⟨oc19, od19, .func (PySem.W.fnOf "_law_depth" "_law_depth" (defArgs sLDepth) (defBody sLDepth) (defScope sLDepth) .none kV19 dc19 pm19 an19 cd19 ct19), sl19⟩)
    (c19 : PySem.W.codeIn K cd19 "_law_depth" = true)
    (k19 : PySem.W.keepIn K (.ref f19) = true)
    (a20 : PySem.W.nsIn K mainGlobals "_law_is_family" = some (some (.ref f20)))
    (l20 : K.lookup f20 = some ⟨oc20, od20, .func (PySem.W.fnOf "_law_is_family" "_law_is_family" (defArgs sLIsFamily) (defBody sLIsFamily) (defScope sLIsFamily) .none kV20 dc20 pm20 an20 cd20 ct20), sl20⟩)
    (c20 : PySem.W.codeIn K cd20 "_law_is_family" = true)
    (k20 : PySem.W.keepIn K (.ref f20) = true)
    (a21 : PySem.W.nsIn K mainGlobals "_law_bent" = some (some (.ref f21)))
    (l21 : K.lookup f21 = some ⟨oc21, od21, .func (PySem.W.fnOf "_law_bent" "_law_bent" (defArgs sLBent) (defBody sLBent) (defScope sLBent) .none kV21 dc21 pm21 an21 cd21 ct21), sl21⟩)
    (c21 : PySem.W.codeIn K cd21 "_law_bent" = true)
    (k21 : PySem.W.keepIn K (.ref f21) = true)
    (a22 : PySem.W.nsIn K mainGlobals "_law_line" = some (some (.ref f22)))
    (l22 : K.lookup f22 = some ⟨oc22, od22, .func (PySem.W.fnOf "_law_line" "_law_line" (defArgs sLLine) (defBody sLLine) (defScope sLLine) .none kV22 dc22 pm22 an22 cd22 ct22), sl22⟩)
    (c22 : PySem.W.codeIn K cd22 "_law_line" = true)
    (k22 : PySem.W.keepIn K (.ref f22) = true)
    (a23 : PySem.W.nsIn K mainGlobals "law" = some (some (.ref f23)))
    (l23 : K.lookup f23 = some ⟨oc23, od23, .func (PySem.W.fnOf "law" "law" (defArgs sLaw) (defBody sLaw) (defScope sLaw) .none kV23 dc23 pm23 an23 (.ref co23) ct23), sl23⟩)
    (c23 : PySem.W.codeIn K (.ref co23) "law" = true)
    (k23 : PySem.W.keepIn K (.ref f23) = true)
    (x123 : K.lookup co23 = some ⟨xc23, xd23, .fields xv23, xs23⟩)
    (x223 : xv23[11]? = some (.ref P23))
    (x323 : PySem.W.codeHdIn K co23 P23 = true)
    (x423 : K.lookup P23 = none)
    (x523 : h.get? P23 = some (PySem.W.tabObj #[]))
    (caA : PySem.W.nsIn K mainGlobals "Family" = some (some (.ref CA)))
    (pgA : PySem.W.plainGet K CA Str.empty = true)
    (hdA : PySem.W.hasDictIn K CA = true)
    (poA : PySem.W.plainOver K CA = true)
    (saA : PySem.W.findIn K (.ref CA) "__setattr__" = some (some (.builtin "object.__setattr__")))
    (noA0 : PySem.W.findIn K (.ref CA) "_shape" = some none)
    (noA1 : PySem.W.findIn K (.ref CA) "_leaves" = some none)
    (noA2 : PySem.W.findIn K (.ref CA) "_places" = some none)
    (mkA : PySem.W.makesIn K CA = true)
    (inA : PySem.W.findIn K (.ref CA) "__init__" = some (some (.ref fiA)))
    (fnA : PySem.W.isFn K (.ref fiA) = true)
    (kpA : PySem.W.keepIn K (.ref CA) = true)
    (liA : K.lookup fiA = some ⟨ociA, odiA, .func (PySem.W.fnOf "__init__" "Family.__init__" (defArgs sFamilyInit) (defBody sFamilyInit) (defScope sFamilyInit) .none kViA dciA pmiA aniA cdiA ctiA), sliA⟩)
    (ciA : PySem.W.codeIn K cdiA "Family.__init__" = true)
    (kiA : PySem.W.keepIn K (.ref fiA) = true)
    (paAleaves : PySem.W.findIn K (.ref CA) "leaves" = some (some (.ref ppAleaves)))
    (pbAleaves : PySem.W.specialIn K (.ref ppAleaves) "__get__" = some (some (.builtin "property.__get__")))
    (pcAleaves : PySem.W.takesIn K (.ref ppAleaves) = some true)
    (pdAleaves : PySem.W.recIn K ppAleaves "property" = some (.ref pgAleaves :: prAleaves))
    (lpAleaves : K.lookup pgAleaves = some ⟨ocpAleaves, odpAleaves, .func (PySem.W.fnOf "leaves" "Family.leaves" (defArgs sFamilyLeaves) (defBody sFamilyLeaves) (defScope sFamilyLeaves) .none kVpAleaves dcpAleaves pmpAleaves anpAleaves cdpAleaves ctpAleaves), slpAleaves⟩)
    (cpAleaves : PySem.W.codeIn K cdpAleaves "Family.leaves" = true)
    (kpAleaves : PySem.W.keepIn K (.ref pgAleaves) = true)
    (paAplaces : PySem.W.findIn K (.ref CA) "places" = some (some (.ref ppAplaces)))
    (pbAplaces : PySem.W.specialIn K (.ref ppAplaces) "__get__" = some (some (.builtin "property.__get__")))
    (pcAplaces : PySem.W.takesIn K (.ref ppAplaces) = some true)
    (pdAplaces : PySem.W.recIn K ppAplaces "property" = some (.ref pgAplaces :: prAplaces))
    (lpAplaces : K.lookup pgAplaces = some ⟨ocpAplaces, odpAplaces, .func (PySem.W.fnOf "places" "Family.places" (defArgs sFamilyPlaces) (defBody sFamilyPlaces) (defScope sFamilyPlaces) .none kVpAplaces dcpAplaces pmpAplaces anpAplaces cdpAplaces ctpAplaces), slpAplaces⟩)
    (cpAplaces : PySem.W.codeIn K cdpAplaces "Family.places" = true)
    (kpAplaces : PySem.W.keepIn K (.ref pgAplaces) = true)
    (maA__len__ : PySem.W.findIn K (.ref CA) "__len__" = some (some (.ref fmA__len__)))
    (mfA__len__ : PySem.W.isFn K (.ref fmA__len__) = true)
    (lmA__len__ : K.lookup fmA__len__ = some ⟨ocmA__len__, odmA__len__, .func (PySem.W.fnOf "__len__" "Family.__len__" (defArgs sFamilyLen) (defBody sFamilyLen) (defScope sFamilyLen) .none kVmA__len__ dcmA__len__ pmmA__len__ anmA__len__ cdmA__len__ ctmA__len__), slmA__len__⟩)
    (cmA__len__ : PySem.W.codeIn K cdmA__len__ "Family.__len__" = true)
    (kmA__len__ : PySem.W.keepIn K (.ref fmA__len__) = true)
    (maA__eq__ : PySem.W.findIn K (.ref CA) "__eq__" = some (some (.ref fmA__eq__)))
    (mfA__eq__ : PySem.W.isFn K (.ref fmA__eq__) = true)
    (lmA__eq__ : K.lookup fmA__eq__ = some ⟨ocmA__eq__, odmA__eq__, .func (PySem.W.fnOf "__eq__" "Family.__eq__" (defArgs sFamilyEq) (defBody sFamilyEq) (defScope sFamilyEq) .none kVmA__eq__ dcmA__eq__ pmmA__eq__ anmA__eq__ cdmA__eq__ ctmA__eq__), slmA__eq__⟩)
    (cmA__eq__ : PySem.W.codeIn K cdmA__eq__ "Family.__eq__" = true)
    (kmA__eq__ : PySem.W.keepIn K (.ref fmA__eq__) = true)
    (qn : PySem.W.specialIn K (.builtin "object.__class__") "__get__" = some (some (.builtin "getset_descriptor.__get__")))
    (qt : PySem.W.takesIn K (.builtin "object.__class__") = some true)
    (caF : PySem.W.nsIn K mainGlobals "InvalidFamily" = some (some (.ref CF)))
    (q1F : (PySem.W.clsIn K CF).isSome = true)
    (q2F : PySem.W.findIn K (.ref CF) "__getattribute__" = some (some (.builtin "BaseException.__getattribute__")))
    (q3F : PySem.W.findIn K (.ref CF) "__getattr__" = some none)
    (q4F : PySem.W.subIn K (.ref CF) (.type "BaseException") = some true)
    (q5F : PySem.W.findIn K (.ref CF) "__class__" = some (some (.builtin "object.__class__")))
    (q8F : PySem.W.mroIn K CF (.type "object") = some true)
    (qbF : PySem.W.typeIn K (.ref CF) = some (.type "type"))
    (qcF : PySem.W.keepIn K (.ref CF) = true)
    (q6F : PySem.W.hasDictIn K CF = true)
    (q7F : PySem.W.findIn K (.ref CF) "value" = some none)
    (q9F : K.lookup CF = some (excClassObj nmF qqF CF NF bsF [.type "ValueError", .type "Exception", .type "BaseException", .type "object"] true snF subF abF colF ddF m0F m1F m2F m3F m5F "ValueError.__new__"))
    (qaF : PySem.W.findIn K (.ref CF) "__setattr__" = some (some (.builtin "object.__setattr__")))
    (qiF : PySem.W.findIn K (.ref CF) "__init__" = some (some (.ref fiF)))
    (qjF : PySem.W.typeIn K (.ref fiF) = some (.type "function"))
    (liF : K.lookup fiF = some ⟨ociF, odiF, .func (PySem.W.fnOf "__init__" "InvalidFamily.__init__" (defArgs sInvalidFamilyInit) (defBody sInvalidFamilyInit) (defScope sInvalidFamilyInit) .none kViF dciF pmiF aniF cdiF ctiF), sliF⟩)
    (ciF : PySem.W.codeIn K cdiF "InvalidFamily.__init__" = true)
    (kiF : PySem.W.keepIn K (.ref fiF) = true)
    (caL : PySem.W.nsIn K mainGlobals "InvalidLayout" = some (some (.ref CL)))
    (caW : PySem.W.nsIn K mainGlobals "OtherWagons" = some (some (.ref CW)))
    (caN : PySem.W.nsIn K mainGlobals "InvalidNumber" = some (some (.ref CN)))
    (eL : PySem.W.exmAny K (.ref CF) [.ref CL] = some false)
    (eW : PySem.W.exmAny K (.ref CF) [.ref CW] = some false)
    (eN : PySem.W.exmAny K (.ref CF) [.ref CN] = some false)
    (eF : PySem.W.exmAny K (.ref CF) [.ref CF] = some true)
    (vF : PySem.W.kitOne K (.ref CF) (.type "ValueError") = some true)
    (fcA : PySem.W.findIn K (.ref CA) "__class__" = some (some (.builtin "object.__class__")))
    (moA : PySem.W.mroIn K CA (.type "object") = some true)
    (neA : PySem.W.findIn K (.ref CA) "__ne__" = some (some (.builtin "object.__ne__")))
    (sbA : PySem.W.subIn K (.ref CA) (.type "object") = some true)
    (kS : PySem.W.kitOne K (.type "str") (.ref CA) = some false)
    (kT : PySem.W.kitOne K (.type "tuple") (.ref CA) = some false)
    (kC : PySem.W.kitOne K (.ref CA) (.ref CA) = some true)
    (nS : PySem.W.notFirst K CA (.type "str") = true)
    (nT : PySem.W.notFirst K CA (.type "tuple") = true)
    (nC : PySem.W.notFirst K CA (.ref CA) = true)
    (zisinstance : PySem.W.nsIn K mainGlobals "isinstance" = some none)
    (zint : PySem.W.nsIn K mainGlobals "int" = some none)
    (zbool : PySem.W.nsIn K mainGlobals "bool" = some none)
    (zstr : PySem.W.nsIn K mainGlobals "str" = some none)
    (ztuple : PySem.W.nsIn K mainGlobals "tuple" = some none)
    (zlist : PySem.W.nsIn K mainGlobals "list" = some none)
    (zlen : PySem.W.nsIn K mainGlobals "len" = some none)
    (zall : PySem.W.nsIn K mainGlobals "all" = some none)
    (zset : PySem.W.nsIn K mainGlobals "set" = some none)
    (zrange : PySem.W.nsIn K mainGlobals "range" = some none)
    (zabs : PySem.W.nsIn K mainGlobals "abs" = some none)
    (zrepr : PySem.W.nsIn K mainGlobals "repr" = some none)
    (zsorted : PySem.W.nsIn K mainGlobals "sorted" = some none)
    (zmin : PySem.W.nsIn K mainGlobals "min" = some none)
    (zmax : PySem.W.nsIn K mainGlobals "max" = some none)
    (zValueError : PySem.W.nsIn K mainGlobals "ValueError" = some none)
    (gk0 : PySem.W.nsIn K mainGlobals "NAME_LENGTH" = some (some (.int 8 t1)))
    (gk1 : PySem.W.nsIn K mainGlobals "LETTERS" = some (some (.str "abcdefghijklmnopqrstuvwxyz" t2)))
    (gk2 : PySem.W.nsIn K mainGlobals "MOST_NESTED" = some (some (.int 6 t3)))
    (gk3 : PySem.W.nsIn K mainGlobals "MOST_LEAVES" = some (some (.int 16 t4)))
    : LawAtG l w K 15 63 "script" mg fa h := by
  have e := hfa.symm.trans (PySem.W.mg_of X G a23)
  cases e
  have F1 := fun_mk (st := sIsName) l1 c1 k1
  have F2 := fun_mk (st := sIsNested) l2 c2 k2
  have F3 := fun_mk (st := sLeavesOf) l3 c3 k3
  have F4 := fun_mk (st := sPlacesOf) l4 c4 k4
  have F5 := fun_mk (st := sIsFamily) l5 c5 k5
  have F6 := fun_mk (st := sPen) l6 c6 k6
  have F7 := fun_mk (st := sDraw) l7 c7 k7
  have F8 := fun_mk (st := sPick) l8 c8 k8
  have F9 := fun_mk (st := sShuf) l9 c9 k9
  have F10 := fun_mk (st := sLNames) l10 c10 k10
  have F11 := fun_mk (st := sLAnyValue) l11 c11 k11
  have F12 := fun_mk (st := sLName) l12 c12 k12
  have F13 := fun_mk (st := sLFamilyTold) l13 c13 k13
  have F14 := fun_mk (st := sLShape) l14 c14 k14
  have F15 := fun_mk (st := sLEvenShape) l15 c15 k15
  have F16 := fun_mk (st := sLFamily) l16 c16 k16
  have F17 := fun_mk (st := sLLeaves) l17 c17 k17
  have F18 := fun_mk (st := sLPlaces) l18 c18 k18
  have F19 := fun_mk (st := sLDepth) l19 c19 k19
  have F20 := fun_mk (st := sLIsFamily) l20 c20 k20
  have F21 := fun_mk (st := sLBent) l21 c21 k21
  have F22 := fun_mk (st := sLLine) l22 c22 k22
  have F23 : FunC K "law" "law" sLaw fa _ co23 := ⟨⟨oc23, od23, kV23, dc23, pm23, an23, ct23, sl23, rfl, l23, c23⟩⟩
  have b1 := F1.binds (ps := ["value"]) fun _ _ _ _ _ _ us hl => match us, hl with | [_], _ => rfl
  have m1 := PySem.W.mg_of X G a1
  have b2 := F2.binds (ps := ["value", "deep"]) fun _ _ _ _ _ _ us hl => match us, hl with | [_, _], _ => rfl
  have m2 := PySem.W.mg_of X G a2
  have b3 := F3.binds (ps := ["shape"]) fun _ _ _ _ _ _ us hl => match us, hl with | [_], _ => rfl
  have m3 := PySem.W.mg_of X G a3
  have b4 := F4.binds (ps := ["shape"]) fun _ _ _ _ _ _ us hl => match us, hl with | [_], _ => rfl
  have m4 := PySem.W.mg_of X G a4
  have b5 := F5.binds (ps := ["value"]) fun _ _ _ _ _ _ us hl => match us, hl with | [_], _ => rfl
  have m5 := PySem.W.mg_of X G a5
  have b6 := F6.binds (ps := ["script"]) fun _ _ _ _ _ _ us hl => match us, hl with | [_], _ => rfl
  have m6 := PySem.W.mg_of X G a6
  have b7 := F7.binds (ps := ["pen", "count"]) fun _ _ _ _ _ _ us hl => match us, hl with | [_, _], _ => rfl
  have m7 := PySem.W.mg_of X G a7
  have b8 := F8.binds (ps := ["pen", "options"]) fun _ _ _ _ _ _ us hl => match us, hl with | [_, _], _ => rfl
  have m8 := PySem.W.mg_of X G a8
  have b9 := F9.binds (ps := ["pen", "items"]) fun _ _ _ _ _ _ us hl => match us, hl with | [_, _], _ => rfl
  have m9 := PySem.W.mg_of X G a9
  have b10 := F10.binds (ps := ["pen", "many"]) fun _ _ _ _ _ _ us hl => match us, hl with | [_, _], _ => rfl
  have m10 := PySem.W.mg_of X G a10
  have b11 := F11.binds (ps := ["pen"]) fun _ _ _ _ _ _ us hl => match us, hl with | [_], _ => rfl
  have m11 := PySem.W.mg_of X G a11
  have b12 := F12.binds (ps := ["value"]) fun _ _ _ _ _ _ us hl => match us, hl with | [_], _ => rfl
  have m12 := PySem.W.mg_of X G a12
  have b13 := F13.binds (ps := ["call"]) fun _ _ _ _ _ _ us hl => match us, hl with | [_], _ => rfl
  have m13 := PySem.W.mg_of X G a13
  have b14 := F14.binds (ps := ["pen", "names", "deep"]) fun _ _ _ _ _ _ us hl => match us, hl with | [_, _, _], _ => rfl
  have m14 := PySem.W.mg_of X G a14
  have b15 := F15.binds (ps := ["names"]) fun _ _ _ _ _ _ us hl => match us, hl with | [_], _ => rfl
  have m15 := PySem.W.mg_of X G a15
  have b16 := F16.binds (ps := ["pen", "most"]) fun _ _ _ _ _ _ us hl => match us, hl with | [_, _], _ => rfl
  have m16 := PySem.W.mg_of X G a16
  have b17 := F17.binds (ps := ["shape"]) fun _ _ _ _ _ _ us hl => match us, hl with | [_], _ => rfl
  have m17 := PySem.W.mg_of X G a17
  have b18 := F18.binds (ps := ["shape"]) fun _ _ _ _ _ _ us hl => match us, hl with | [_], _ => rfl
  have m18 := PySem.W.mg_of X G a18
  have b19 := F19.binds (ps := ["shape"]) fun _ _ _ _ _ _ us hl => match us, hl with | [_], _ => rfl
  have m19 := PySem.W.mg_of X G a19
  have b20 := F20.binds (ps := ["shape"]) fun _ _ _ _ _ _ us hl => match us, hl with | [_], _ => rfl
  have m20 := PySem.W.mg_of X G a20
  have b21 := F21.binds (ps := ["pen", "shape"]) fun _ _ _ _ _ _ us hl => match us, hl with | [_, _], _ => rfl
  have m21 := PySem.W.mg_of X G a21
  have b22 := F22.binds (ps := ["names"]) fun _ _ _ _ _ _ us hl => match us, hl with | [_], _ => rfl
  have m22 := PySem.W.mg_of X G a22
  have b23 : Binds K (PySem.W.fnOf "law" "law" (defArgs sLaw) (defBody sLaw) (defScope sLaw) .none kV23 dc23 pm23 an23 (.ref co23) ct23) ["script"] [] := .all fun us hl => match us, hl with | [_], _ => rfl
  have m23 := PySem.W.mg_of X G a23
  have mCA := PySem.W.mg_of X G caA
  have FpAleaves := fun_mk (st := sFamilyLeaves) lpAleaves cpAleaves kpAleaves
  have bpAleaves := FpAleaves.binds (ps := ["self"]) fun _ _ _ _ _ _ us hl => match us, hl with | [_], _ => rfl
  have MpAleaves : PropOf K CA "leaves" ppAleaves pgAleaves := ⟨paAleaves, pbAleaves, pcAleaves, ⟨_, pdAleaves⟩⟩
  have FpAplaces := fun_mk (st := sFamilyPlaces) lpAplaces cpAplaces kpAplaces
  have bpAplaces := FpAplaces.binds (ps := ["self"]) fun _ _ _ _ _ _ us hl => match us, hl with | [_], _ => rfl
  have MpAplaces : PropOf K CA "places" ppAplaces pgAplaces := ⟨paAplaces, pbAplaces, pcAplaces, ⟨_, pdAplaces⟩⟩
  have FmA__len__ := fun_mk (st := sFamilyLen) lmA__len__ cmA__len__ kmA__len__
  have bmA__len__ := FmA__len__.binds (ps := ["self"]) fun _ _ _ _ _ _ us hl => match us, hl with | [_], _ => rfl
  have MmA__len__ : Meth K CA "__len__" fmA__len__ := ⟨maA__len__, mfA__len__, kmA__len__⟩
  have FmA__eq__ := fun_mk (st := sFamilyEq) lmA__eq__ cmA__eq__ kmA__eq__
  have bmA__eq__ := FmA__eq__.binds (ps := ["self", "other"]) fun _ _ _ _ _ _ us hl => match us, hl with | [_, _], _ => rfl
  have MmA__eq__ : Meth K CA "__eq__" fmA__eq__ := ⟨maA__eq__, mfA__eq__, kmA__eq__⟩
  have FiA := fun_mk (st := sFamilyInit) liA ciA kiA
  have biA := FiA.binds (ps := ["self", "shape"]) fun _ _ _ _ _ _ us hl => match us, hl with | [_, _], _ => rfl
  have MkA : Mk K CA fiA := ⟨mkA, inA, fnA, kpA⟩
  have ClA : Cls K CA := ⟨pgA, hdA, poA, saA⟩
  have mCF := PySem.W.mg_of X G caF
  have xcF : XC K CF := ⟨q1F, q2F, q3F, q4F, q5F, qn, qt, q8F⟩
  have xfF : XfC K CF := ⟨q2F, q3F, q4F, q6F⟩
  have oxF : OexC K CF := ⟨⟨nmF, qqF, NF, bsF, _, snF, subF, abF, colF, ddF, m0F, m1F, m2F, m3F, m5F, q9F, by decide +kernel⟩, qaF, q4F, qbF, qcF⟩
  have FiF := fun_mk (st := sInvalidFamilyInit) liF ciF kiF
  have biF := FiF.binds (ps := ["self", "value"]) fun _ _ _ _ _ _ us hl => match us, hl with | [_, _], _ => rfl
  have mCL := PySem.W.mg_of X G caL
  have mCW := PySem.W.mg_of X G caW
  have mCN := PySem.W.mg_of X G caN
  have n_isinstance := PySem.W.mg_none_of X G zisinstance
  have n_int := PySem.W.mg_none_of X G zint
  have n_bool := PySem.W.mg_none_of X G zbool
  have n_str := PySem.W.mg_none_of X G zstr
  have n_tuple := PySem.W.mg_none_of X G ztuple
  have n_list := PySem.W.mg_none_of X G zlist
  have n_len := PySem.W.mg_none_of X G zlen
  have n_all := PySem.W.mg_none_of X G zall
  have n_set := PySem.W.mg_none_of X G zset
  have n_range := PySem.W.mg_none_of X G zrange
  have n_abs := PySem.W.mg_none_of X G zabs
  have n_repr := PySem.W.mg_none_of X G zrepr
  have n_sorted := PySem.W.mg_none_of X G zsorted
  have n_min := PySem.W.mg_none_of X G zmin
  have n_max := PySem.W.mg_none_of X G zmax
  have n_ValueError := PySem.W.mg_none_of X G zValueError
  have inT : ∀ p : Addr × Addr, p ∈ [(co23, P23)] → p = (co23, P23) := fun p hp => List.mem_singleton.mp hp
  refine ⟨PySem.W.fnOf "law" "law" (defArgs sLaw) (defBody sLaw) (defScope sLaw) .none kV23 dc23 pm23 an23 (.ref co23) ct23, [(co23, P23)], spLaw K [(P23, qLam)], fun p hp => by rw [inT p hp]; exact x523, fun p hp => by rw [inT p hp]; exact x423, fun p hp => by rw [inT p hp]; exact PySem.W.codeHd_of_K X x323, fun s v => .of_eq rfl, fun H a ns hl _ ht hS => ⟨a, ns, rfl, hS, hl, tabs_none (ht _ List.mem_cons_self), fun _ => rfl⟩, fun base _ _ TBs => ?_⟩
  have TB := TBs _ List.mem_cons_self
  have B : Glb mg := ⟨n_isinstance, n_int, n_bool, n_str, n_tuple, n_list, n_len, n_all, n_set, n_range, n_abs, n_repr⟩
  have oName := ok_isname (P := l.prog) (w := w) (base := base) F1 B (PySem.W.mg_of X G gk0) (PySem.W.mg_of X G gk1)
  have oNest := ok_nested F2 B m2 k2 b2 ⟨oName, m1, k1, b1⟩
  have oLv := ok_leaves F3 m3 k3 b3 ⟨oName, m1, k1, b1⟩
  have oPc := ok_places F4 m4 k4 b4 ⟨oName, m1, k1, b1⟩
  have oFam := ok_isfam F5 B (PySem.W.mg_of X G gk2) (PySem.W.mg_of X G gk3) ⟨oNest 6, m2, k2, b2⟩ ⟨oLv 6, m3, k3, b3⟩
  have RC : FamCls K CA := ⟨ClA, noA0, noA1, noA2⟩
  have oFI := ok_famI FiA B RC ⟨oFam, m5, k5, b5⟩ ⟨oLv 6, m3, k3, b3⟩ ⟨oPc 6, m4, k4, b4⟩ oxF qiF qjF FiF biF q7F mCF
  have oFL := ok_fmL (P := l.prog) (w := w) (mg := mg) (base := base) FpAleaves RC
  have oFP := ok_fmP (P := l.prog) (w := w) (mg := mg) (base := base) FpAplaces RC
  have oFN := ok_fmN (P := l.prog) (w := w) (base := base) FmA__len__ B RC
  have oFE := ok_fmE (P := l.prog) (w := w) (base := base) FmA__eq__ B RC mCA
  have oPen := ok_pen (P := l.prog) (w := w) (base := base) F6 B.list
  have oDraw := ok_draw (P := l.prog) (w := w) (base := base) (k := 0) F7 B.len B.abs
  have oPick := ok_pick F8 B.len oDraw m7 k7 b7
  have oShuf := ok_shuf F9 B.len B.list oDraw m7 k7 b7
  have D : Draws l.prog w K mg base _ _ _ _ _ _ := ⟨oDraw, m7, k7, b7, oPick, m8, k8, b8, oShuf, m9, k9, b9⟩
  have oLNm := ok_lnms F10 D B.range n_sorted
  have oLN := ok_lnameB (P := l.prog) (w := w) (base := base) F12 B
  have oShp := ok_lshape F14 B.len n_max n_min D m14 k14 b14
  have oEvn := ok_leven (P := l.prog) (w := w) (base := base) F15 B.len m15 k15 b15
  have oFml := ok_lfml F16 D ⟨oLNm, m10, k10, b10⟩ ⟨oShp 6, m14, k14, b14⟩ ⟨oEvn 6, m15, k15, b15⟩
  have oLLv := ok_lleaves (P := l.prog) (w := w) (base := base) F17 B m17 k17 b17
  have oLPc := ok_lplaces (P := l.prog) (w := w) (base := base) F18 B m18 k18 b18
  have oLPc6 : FnOk l.prog w K mg base CX0 8 _ _ ["shape"] (spPc K 6) := (oLPc 6).mono (by decide)
  have oDp := ok_ldepth F19 B n_max m19 k19 b19 ⟨oLN, m12, k12, b12⟩
  have oLIF := ok_lisfam (N := 9) F20 B (by decide) ⟨oDp 9, m19, k19, b19⟩ ⟨oLLv 6, m17, k17, b17⟩
  have oAny := ok_any F11 D
  have oBnt := fn_frame (ok_bent F21 B D m21 k21 b21 6)
  have oLine := ok_lline (P := l.prog) (w := w) (mg := mg) (base := base) F22
  have R : RefF K mg CF CL CW CN := ⟨mCF, mCL, mCW, mCN, n_ValueError, xcF, xfF, q7F, eL, eW, eN, eF, vF⟩
  have E : EqF l.prog w K mg base CA _ _ := ⟨oFE, bmA__eq__, maA__eq__, mfA__eq__, ClA, fcA, qn, qt, moA, neA, sbA, kS, kT, kC, nS, nT, nC⟩
  exact ok_law (T := [(P23, qLam)]) (C := CA) (CF := CF) F23 B n_min TB List.mem_cons_self (fun p hp _ => by rw [List.mem_singleton.mp hp]) R F13 m13 k13 b13 D ⟨oPen, m6, k6, b6⟩ ⟨oLNm, m10, k10, b10⟩ ⟨oFml, m16, k16, b16⟩ ⟨oEvn 6, m15, k15, b15⟩ ⟨oLine, m22, k22, b22⟩ ⟨oAny, m11, k11, b11⟩ ⟨oShp 6, m14, k14, b14⟩ ⟨oBnt, m21, k21, b21⟩ ⟨oLIF, m20, k20, b20⟩ ⟨oLLv 6, m17, k17, b17⟩ ⟨oLPc6, m18, k18, b18⟩ RC MkA oFI mCA biA MpAleaves oFL bpAleaves MpAplaces oFP bpAplaces ⟨maA__len__, mfA__len__, oFN, bmA__len__⟩ E
theorem walk {l : PySem.W.OpenLaw} {q : Program} {loose : List Str} {XP : (Str → Option Value) → Heap → Prop} {YP : World → Heap → Prop} {d : DefRec} {K : Params → PySem.W.Frag} (hn : l.most = some 63) (hdf : d.params.defaults = [])
    (hY : ∀ (w : World) (h : Heap), YP w h → (K w.params).In h)
    (F : ∀ (w : World) (mg : Str → Option Value) (fa : Addr) (h : Heap), YP w h → (K w.params).In h → h.Ns mainGlobals mg → mg d.name = some (.ref fa) → LawAtG l w (K w.params) 15 63 "script" mg fa h) :
    PySem.W.WalkO q loose XP YP l.row.toRowW d [] (fun f vs => PySem.call f vs) :=
  walk_GT (n := 63) (k := 15) (x := "script") hn (by decide) hdf ⟨rfl, by decide, by decide⟩ hY F
end My
open PySem PySem.W PyProof.Rows
set_option Elab.async false
set_option maxRecDepth 100000 in
set_option maxHeartbeats 0 in
theorem PySem.Challenge.cw_shuntplan_k82_families_or_not_holds : PySem.Challenge.rw_shuntplan_k82_families_or_not.Holds := by
  w_on; o_law; k_head; (case hw => w_witness2)
  k_fill
  refine My.walk (l := PySem.Challenge.rw_shuntplan_k82_families_or_not) rfl rfl (fun w h Y => PySem.W.km_in_of Y) ?F
  case F =>
    intro w mg fa h Y KX G hmg
    refine' My.all_mk KX G hmg ?a1 ?l1 ?c1 ?k1 ?a2 ?l2 ?c2 ?k2 ?a3 ?l3 ?c3 ?k3 ?a4 ?l4 ?c4 ?k4 ?a5 ?l5 ?c5 ?k5 ?a6 ?l6 ?c6 ?k6 ?a7 ?l7 ?c7 ?k7 ?a8 ?l8 ?c8 ?k8 ?a9 ?l9 ?c9 ?k9 ?a10 ?l10 ?c10 ?k10 ?a11 ?l11 ?c11 ?k11 ?a12 ?l12 ?c12 ?k12 ?a13 ?l13 ?c13 ?k13 ?a14 ?l14 ?c14 ?k14 ?a15 ?l15 ?c15 ?k15 ?a16 ?l16 ?c16 ?k16 ?a17 ?l17 ?c17 ?k17 ?a18 ?l18 ?c18 ?k18 ?a19 ?l19 ?c19 ?k19 ?a20 ?l20 ?c20 ?k20 ?a21 ?l21 ?c21 ?k21 ?a22 ?l22 ?c22 ?k22 ?a23 ?l23 ?c23 ?k23 ?x123 ?x223 ?x323 ?x423 ?x523 ?caA ?pgA ?hdA ?poA ?saA ?noA0 ?noA1 ?noA2 ?mkA ?inA ?fnA ?kpA ?liA ?ciA ?kiA ?paAleaves ?pbAleaves ?pcAleaves ?pdAleaves ?lpAleaves ?cpAleaves ?kpAleaves ?paAplaces ?pbAplaces ?pcAplaces ?pdAplaces ?lpAplaces ?cpAplaces ?kpAplaces ?maA__len__ ?mfA__len__ ?lmA__len__ ?cmA__len__ ?kmA__len__ ?maA__eq__ ?mfA__eq__ ?lmA__eq__ ?cmA__eq__ ?kmA__eq__ ?qn ?qt ?caF ?q1F ?q2F ?q3F ?q4F ?q5F ?q8F ?qbF ?qcF ?q6F ?q7F ?q9F ?qaF ?qiF ?qjF ?liF ?ciF ?kiF ?caL ?caW ?caN ?eL ?eW ?eN ?eF ?vF ?fcA ?moA ?neA ?sbA ?kS ?kT ?kC ?nS ?nT ?nC ?zisinstance ?zint ?zbool ?zstr ?ztuple ?zlist ?zlen ?zall ?zset ?zrange ?zabs ?zrepr ?zsorted ?zmin ?zmax ?zValueError ?gk0 ?gk1 ?gk2 ?gk3
    (case a1 => k_is)
    (case l1 => k_is)
    (case c1 => k_is)
    (case k1 => k_is)
    (case a2 => k_is)
    (case l2 => k_is)
    (case c2 => k_is)
    (case k2 => k_is)
    (case a3 => k_is)
    (case l3 => k_is)
    (case c3 => k_is)
    (case k3 => k_is)
    (case a4 => k_is)
    (case l4 => k_is)
    (case c4 => k_is)
    (case k4 => k_is)
    (case a5 => k_is)
    (case l5 => k_is)
    (case c5 => k_is)
    (case k5 => k_is)
    (case a6 => k_is)
    (case l6 => k_is)
    (case c6 => k_is)
    (case k6 => k_is)
    (case a7 => k_is)
    (case l7 => k_is)
    (case c7 => k_is)
    (case k7 => k_is)
    (case a8 => k_is)
    (case l8 => k_is)
    (case c8 => k_is)
    (case k8 => k_is)
    (case a9 => k_is)
    (case l9 => k_is)
    (case c9 => k_is)
    (case k9 => k_is)
    (case a10 => k_is)
    (case l10 => k_is)
    (case c10 => k_is)
    (case k10 => k_is)
    (case a11 => k_is)
    (case l11 => k_is)
    (case c11 => k_is)
    (case k11 => k_is)
    (case a12 => k_is)
    (case l12 => k_is)
    (case c12 => k_is)
    (case k12 => k_is)
    (case a13 => k_is)
    (case l13 => k_is)
    (case c13 => k_is)
    (case k13 => k_is)
    (case a14 => k_is)
    (case l14 => k_is)
    (case c14 => k_is)
    (case k14 => k_is)
    (case a15 => k_is)
    (case l15 => k_is)
    (case c15 => k_is)
    (case k15 => k_is)
    (case a16 => k_is)
    (case l16 => k_is)
    (case c16 => k_is)
    (case k16 => k_is)
    (case a17 => k_is)
    (case l17 => k_is)
    (case c17 => k_is)
    (case k17 => k_is)
    (case a18 => k_is)
    (case l18 => k_is)
    (case c18 => k_is)
    (case k18 => k_is)
    (case a19 => k_is)
    (case l19 => k_is)
    (case c19 => k_is)
    (case k19 => k_is)
    (case a20 => k_is)
    (case l20 => k_is)
    (case c20 => k_is)
    (case k20 => k_is)
    (case a21 => k_is)
    (case l21 => k_is)
    (case c21 => k_is)
    (case k21 => k_is)
    (case a22 => k_is)
    (case l22 => k_is)
    (case c22 => k_is)
    (case k22 => k_is)
    (case a23 => k_is)
    (case l23 => k_is)
    (case c23 => k_is)
    (case k23 => k_is)
    (case x123 => k_is)
    (case x223 => rfl)
    (case x323 => rfl)
    (case x423 => rfl)
    (case x523 => exact PySem.W.km_tabs_of Y _ (by decide))
    (case caA => k_is)
    (case pgA => k_is)
    (case hdA => k_is)
    (case poA => k_is)
    (case saA => k_is)
    (case noA0 => k_is)
    (case noA1 => k_is)
    (case noA2 => k_is)
    (case mkA => k_is)
    (case inA => k_is)
    (case fnA => k_is)
    (case kpA => k_is)
    (case liA => k_is)
    (case ciA => k_is)
    (case kiA => k_is)
    (case paAleaves => k_is)
    (case pbAleaves => k_is)
    (case pcAleaves => k_is)
    (case pdAleaves => k_is)
    (case lpAleaves => k_is)
    (case cpAleaves => k_is)
    (case kpAleaves => k_is)
    (case paAplaces => k_is)
    (case pbAplaces => k_is)
    (case pcAplaces => k_is)
    (case pdAplaces => k_is)
    (case lpAplaces => k_is)
    (case cpAplaces => k_is)
    (case kpAplaces => k_is)
    (case maA__len__ => k_is)
    (case mfA__len__ => k_is)
    (case lmA__len__ => k_is)
    (case cmA__len__ => k_is)
    (case kmA__len__ => k_is)
    (case maA__eq__ => k_is)
    (case mfA__eq__ => k_is)
    (case lmA__eq__ => k_is)
    (case cmA__eq__ => k_is)
    (case kmA__eq__ => k_is)
    (case qn => k_is)
    (case qt => k_is)
    (case caF => k_is)
    (case q1F => first | rfl | k_is)
    (case q2F => k_is)
    (case q3F => k_is)
    (case q4F => k_is)
    (case q5F => k_is)
    (case q8F => k_is)
    (case qbF => k_is)
    (case qcF => k_is)
    (case q6F => k_is)
    (case q7F => k_is)
    (case q9F => k_is)
    (case qaF => k_is)
    (case qiF => k_is)
    (case qjF => k_is)
    (case liF => k_is)
    (case ciF => k_is)
    (case kiF => k_is)
    (case caL => k_is)
    (case caW => k_is)
    (case caN => k_is)
    (case eL => first | rfl | decide +kernel)
    (case eW => first | rfl | decide +kernel)
    (case eN => first | rfl | decide +kernel)
    (case eF => first | rfl | decide +kernel)
    (case vF => first | rfl | decide +kernel)
    (case fcA => k_is)
    (case moA => k_is)
    (case neA => k_is)
    (case sbA => first | rfl | k_is | decide +kernel)
    (case kS => first | rfl | decide +kernel)
    (case kT => first | rfl | decide +kernel)
    (case kC => first | rfl | decide +kernel)
    (case nS => first | rfl | decide +kernel)
    (case nT => first | rfl | decide +kernel)
    (case nC => first | rfl | decide +kernel)
    (case zisinstance => k_is)
    (case zint => k_is)
    (case zbool => k_is)
    (case zstr => k_is)
    (case ztuple => k_is)
    (case zlist => k_is)
    (case zlen => k_is)
    (case zall => k_is)
    (case zset => k_is)
    (case zrange => k_is)
    (case zabs => k_is)
    (case zrepr => k_is)
    (case zsorted => k_is)
    (case zmin => k_is)
    (case zmax => k_is)
    (case zValueError => k_is)
    (case gk0 => k_is)
    (case gk1 => k_is)
    (case gk2 => k_is)
    (case gk3 => k_is)
