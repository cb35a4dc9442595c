import PyProof.Rows.All
import Wide.All
import OpenK.AllK
import Wide.FinOn
import HandS.ForMost
import HandS.Wide
import HandS.EndBits
import HandS.TupAny
import HandS.IsInst
import HandS.Evl
import HandS.SetBool
import HandS.SetKeys
import HandS.Strs
import HandS.Style
import HandS.DeepEq
import KE.KIndexOf
import KE.DatumOrd
import HandS.Nested
import HandS.ClsMeth
import KE.KSuper
import KE.SortData
import HandS.Zip
import PySem.Challenge.RW_shuntplan_k03_couplings_of_trains
set_option Elab.async false
set_option linter.all false
set_option maxRecDepth 100000
set_option maxHeartbeats 4000000
/-! Defs that show values: a promise that may lean on «nothing is being shown around the call», its callers, its end, and repr of data. -/
namespace My
open PySem PySem.Spec PyProof.Rows L2

/-- no value is being shown around here -/
def Still (A : Around) : Prop := A.guards = some []
theorem Still.deeper {A : Around} (h : Still A) (e : Env) : Still (A.deeper e) := h

section
variable (P : Program) (w : World) (K : PySem.W.Frag) (mg : Str → Option Value) (base : Heap) (CX : CXT)
/-- a def's promise, kept wherever nothing is being shown -/
structure FnG (k : Nat) (f : Addr) (fd : FuncData) (ps : List Str) (sp : Sp) : Prop where
  len : ∀ vs H Q E, sp vs H Q E → vs.length = ps.length
  run : ∀ (A : Around) (stk : List Env) (s : Shared) (H : Hp) (g : Args) (us : List Value) (vs : List V) (Q : VK) (E : XK), Still A → Room k A → Env0 P w K mg base A stk s H →
    BindsTo s fd g (ps.zip us) → Vals vs us → sp vs H Q E → codeAny (model P w) A (.call (.ref f) g) (CR CX stk P w H s Q E) s
end

section
variable {P : Program} {w : World} {K : PySem.W.Frag} {mg : Str → Option Value} {base : Heap} {CX : CXT}
theorem FnG.of {k : Nat} {f : Addr} {fd : FuncData} {ps : List Str} {sp : Sp} (F : FnOk P w K mg base CX k f fd ps sp) : FnG P w K mg base CX k f fd ps sp :=
  ⟨F.len, fun A stk s H g us vs Q E _ r e b v h => F.run A stk s H g us vs Q E r e b v h⟩
theorem FnG.mono {i k : Nat} {f : Addr} {fd : FuncData} {ps : List Str} {sp : Sp} (F : FnG P w K mg base CX i f fd ps sp) (h : i ≤ k) : FnG P w K mg base CX k f fd ps sp :=
  ⟨F.len, fun A stk s H g us vs Q E st r e b v q => F.run A stk s H g us vs Q E st (r.mono h) e b v q⟩
theorem FnG.imp {k : Nat} {f : Addr} {fd : FuncData} {ps : List Str} {sp sp' : Sp} (F : FnG P w K mg base CX k f fd ps sp) (h : ∀ vs H Q E, sp' vs H Q E → sp vs H Q E) : FnG P w K mg base CX k f fd ps sp' :=
  ⟨fun vs H Q E q => F.len vs H Q E (h _ _ _ _ q), fun A stk s H g us vs Q E st r e b v q => F.run A stk s H g us vs Q E st r e b v (h _ _ _ _ q)⟩
end

section
variable {X : Cx} {CX : CXT} {k : Nat} {f C : Addr} {fd : FuncData} {ps : List Str} {sp : Sp} {dvs : List V} {ds : List Value} {E : XK} {x : Str} {p pos : Pos} {e : Expr} {es : List Expr} {t : TA}
theorem runG {pins : List (Addr × Obj)} {σ : L2.St} {H : Hp} {s : Shared} {Q : VK} {us : List Value} {vs : List V} (F : FnG X.prog X.w X.K X.mg X.base CX k f fd ps sp) (st : Still X.A) (hr : Room k X.A)
    (hb : Binds X.K fd ps ds) (hd : Vals dvs ds) (hx : Passes CX X E) (I : Inv X pins σ H s) (rv : Vals vs us) (hp : sp (vs ++ dvs) H Q E) :
    wpAny (model X.prog X.w) X.A (call (.ref f) us) (EP X pins σ Q) X.xe s := by
  have all : Vals (vs ++ dvs) (us ++ ds) := rv.append hd
  have many : (us ++ ds).length = ps.length := all.length.symm.trans (F.len _ _ _ _ hp)
  refine wpAny_call (codeAny_mono (F.run X.A X.stack s H ⟨us, []⟩ (us ++ ds) (vs ++ dvs) Q E st hr I.env0 (hb s us I.kIn many) all hp) ?_)
  intro res s' end_
  match res, end_ with
  | .error er, z => exact hx pins σ H s er s' I z
  | .ok (.ret u), z => exact I.after z
  | .ok .next, z => exact z.elim
  | .ok .brk, z => exact z.elim
  | .ok .cont, z => exact z.elim

theorem pe_callG (F : FnG X.prog X.w X.K X.mg X.base CX k f fd ps sp) (st : Still X.A) (hr : Room k X.A) (hg : Gl X x) (hm : X.mg x = some (.ref f)) (kp : PySem.W.keepIn X.K (.ref f) = true)
    (hb : Binds X.K fd ps ds) (hd : Vals dvs ds) (hx : Passes CX X E) (ha : PA X (e :: es) t) (nd : (x == ("__debug__" : Str)) = false := by decide)
    (he : starEach (e :: es) X.env = (false, eval e X.env) :: starEach es X.env := by rfl) (hp : (backTo pos (starEach es X.env)).any (·.1) = false := by rfl) :
    PE X (.Call (.Name x p) (e :: es) [] pos) (tCall sp dvs E t) :=
  ⟨fun pins s σ H Q I q => wpAny_Call_Name_kw (ld_glob I hg hm
    (PySem.W.callWith_K (h₀ := X.base) I.ok.mod.kin kp (thn (ha.run pos pins s σ H _ I q) fun _ _ ⟨_, _, J, rv, z⟩ => ⟨J.kIn, runG F st hr hb hd hx J rv z⟩) he hp) nd)⟩
theorem pe_callG0 (F : FnG X.prog X.w X.K X.mg X.base CX k f fd ps sp) (st : Still X.A) (hr : Room k X.A) (hg : Gl X x) (hm : X.mg x = some (.ref f)) (kp : PySem.W.keepIn X.K (.ref f) = true)
    (hb : Binds X.K fd ps ds) (hd : Vals dvs ds) (hx : Passes CX X E) (nd : (x == ("__debug__" : Str)) = false := by decide) : PE X (.Call (.Name x p) [] [] pos) (tCall sp dvs E tNil) :=
  ⟨fun pins s σ H Q I q => wpAny_Call_Name_kw (ld_glob I hg hm (PySem.W.callWith_K0 I.kIn kp (runG (us := []) F st hr hb hd hx I .nil q)) nd)⟩
end

/-! ### a def by its body -/
theorem fn_ofG {CX : CXT} {P : Program} {w : World} {K : PySem.W.Frag} {mg : Str → Option Value} {base : Heap} {k : Nat} {f : Addr} {name qual : Str} {params : Arguments} {body : List Stmt} {sc : Scope} {dV kV doc pm cdv ct oc : Value} {an od : Option Addr}
    {osl : Array (Option Value)} {N ps : List Str} {sp : Sp} (lk : K.lookup f = some ⟨oc, od, .func (PySem.W.fnOf name qual params body sc dV kV doc pm an cdv ct), osl⟩) (hc : PySem.W.codeIn K cdv qual = true) (S : FnScope N ps sc)
    (len : ∀ vs H Q E, sp vs H Q E → vs.length = ps.length)
    (hbody : ∀ (A : Around) (stk : List Env) (s : Shared) (H : Hp) (vs : List V) (Q : VK) (E : XK), Still A → Room k (A.deeper (envOfC qual sc s.heap.objs.size f cdv)) → sp vs H Q E →
      ∃ t, PSs (cxOf CX P w K mg base N qual sc f cdv A stk s H E) body t ∧ t { nx := fun _ H' => Q .non H', rt := Q } (start N vs) H) :
    FnG P w K mg base CX (k + 1) f (PySem.W.fnOf name qual params body sc dV kV doc pm an cdv ct) ps sp := by
  refine ⟨len, fun A stk s H g us vs Q E st hr e0 hb rv hp => ?_⟩
  have many := len _ _ _ _ hp
  have keep : ∀ b o, base.get? b = some o → s.heap.get? b = some o := fun b o e => (e0.bs b o e).1
  have KX : K.In s.heap := e0.mod.kin.keeps keep
  have lim : s.heap.NoLimit := e0.mod.nolimit.keeps keep
  refine codeAny_call_function hr.depth (KX _ _ lk) rfl S.co S.gen rfl (PySem.W.codeRec_of KX hc) (hb _ _ _ _ (wpAny_newFunctionEnv_cells S.kind ?_ ?_))
  · rintro ⟨n, v⟩ hy
    rcases S.par n (List.of_mem_zip hy).1 with q | q
    · exact .inl q
    · exact .inr ⟨q, PySem.W.cellsFrom_some _ _ _ (.inl q)⟩
  · rintro env rfl s1 x
    obtain ⟨t, ht, hq⟩ := hbody A stk s H vs Q E st (hr.deeper _) hp
    refine ⟨lim.keeps x.toInCall.keep, codeAny_func (wpAny_mono (ht.run [] s1 (start N vs) H _ (inv_start S hr.hd e0 many rv x) hq) ?_ fun _ _ z => z)⟩
    intro fl s' z
    match fl, z with
    | .ret u, ⟨v, _, H', J, r, q⟩ => exact ⟨v, H', J.os, J.bare, J.base, J.hok, r, q⟩
    | .next, ⟨_, H', J, q⟩ => exact ⟨V.non, H', J.os, J.bare, J.base, J.hok, (rfl : Value.none = Value.none), q⟩
    | .brk, ⟨_, _, _, q⟩ => exact q.elim
    | .cont, ⟨_, _, _, q⟩ => exact q.elim

section
variable {P : Program} {w : World} {K : PySem.W.Frag} {mg : Str → Option Value} {base : Heap}
theorem okG {x qual : Str} {st : Stmt} {f : Addr} {fd : FuncData} {N ps : List Str} {k : Nat} {sp : Sp} (F : Fun K x qual st f fd) (S : FnScope N ps (defScope st)) (len : ∀ vs H Q E, sp vs H Q E → vs.length = ps.length)
    (hbody : ∀ (cdv : Value) (A : Around) (stk : List Env) (s : Shared) (H : Hp) (vs : List V) (Q : VK) (E : XK), Still A → Room k (A.deeper (envOfC qual (defScope st) s.heap.objs.size f cdv)) → sp vs H Q E →
      ∃ t, PSs (cxOf CX0 P w K mg base N qual (defScope st) f cdv A stk s H E).nox (defBody st) t ∧ t { nx := fun _ H' => Q .non H', rt := Q } (start N vs) H) : FnG P w K mg base CX0 (k + 1) f fd ps sp := by
  obtain ⟨oc, od, kV, doc, pm, an, cdv, ct, osl, rfl, lk, hc⟩ := F.ex
  exact fn_ofG lk hc S len fun A stk s H vs Q E sl hr hp => let ⟨t, h, q⟩ := hbody cdv A stk s H vs Q E sl hr hp; ⟨t, h.nox, q⟩
end

/-! ### repr of data -/
section
variable {X : Cx}
def rRepr (K : PySem.W.Frag) : List V → Hp → VK → Prop := fun xs H Q => ∃ v d, xs = [v] ∧ Dp K H v d ∧ d.showable = true ∧ d.depth ≤ 60 ∧ d.shown.length ≤ sizeLine ∧ Q (.str d.shown) H
mutual
theorem noDict {K : PySem.W.Frag} {H : Hp} : ∀ (d : PyData) (v : V), Dp K H v d → d.hasDict = false
  | .none, _, _ => by simp only [PyData.hasDict]
  | .bool _, _, _ => by simp only [PyData.hasDict]
  | .int _, _, _ => by simp only [PyData.hasDict]
  | .str _, _, _ => by simp only [PyData.hasDict]
  | .list ds, _, h => by
    cases h with
    | lst _ a =>
      simp only [PyData.hasDict]
      exact noDictAll ds _ a
  | .tuple ds, _, h => by
    cases h with
    | tup _ a =>
      simp only [PyData.hasDict]
      exact noDictAll ds _ a
  | .dict _, _, h => by cases h
theorem noDictAll {K : PySem.W.Frag} {H : Hp} : ∀ (ds : List PyData) (vs : List V), DpAll K H vs ds → PyData.hasDictAll ds = false
  | [], _, _ => by simp only [PyData.hasDictAll]
  | d :: ds, _, h => by
    cases h with
    | cons a b =>
      simp only [PyData.hasDictAll, noDict d _ a, noDictAll ds _ b]
      rfl
end
theorem inv_more {pins : List (Addr × Obj)} {σ : L2.St} {H : Hp} {s : Shared} {h' : Heap} {tk : Nat} (I : Inv X pins σ H s) (k : ∀ b o, s.heap.get? b = some o → h'.get? b = some o) : Inv X pins σ H { s with heap := h', toks := tk } :=
  I.un (Un.kept k) (I.hok.kept k)
theorem call_repr (hg : Still X.A) (hu : X.A.units + 64 < cLine) : CallR X (.builtin "repr") (rRepr X.K) := by
  intro pins s σ H xs us Q I r h
  obtain ⟨v, d, rfl, hd, hs, hdp, hz, q⟩ := h
  obtain ⟨u, rfl, rv⟩ := vals1 r
  have nd := noDict d v hd
  obtain ⟨as, rd⟩ := Dp.reads I d v u hd rv
  have fin : ∀ (h' : Heap) (t tk : Tok), (∀ b o, s.heap.get? b = some o → h'.get? b = some o) → EP X pins σ Q (.str d.shown t) { s with heap := h', toks := tk } :=
    fun h' t tk k => ⟨.str d.shown, H, inv_more I k, ⟨t, rfl⟩, q⟩
  cases hd with
  | non =>
    cases rv
    exact PySem.P.repr_of_none (by simpa only [PyData.shown] using fin s.heap _ _ fun _ _ e => e)
  | bl b =>
    cases rv
    exact PySem.P.repr_of_bool (by simpa only [PyData.shown] using fin s.heap _ _ fun _ _ e => e)
  | int i =>
    obtain ⟨t, rfl⟩ := rv
    exact PySem.P.repr_of_int (by simpa [PyData.showable] using hs) (by simpa only [PyData.shown] using fin s.heap _ _ fun _ _ e => e)
  | str x =>
    obtain ⟨t, rfl⟩ := rv
    exact PySem.P.repr_of_str (by simpa only [PyData.shown] using fin s.heap _ _ fun _ _ e => e) (by simpa only [PyData.shown] using hz)
  | lst _ _ =>
    cases rv
    exact PySem.repr_of_reads' rd hs (PyData.noDict_hsm nd) hg (by omega) (fun _ _ e => e) (fun h' u tk k => fin h' u tk k) hz
  | tup _ _ =>
    cases rv
    exact PySem.repr_of_reads' rd hs (PyData.noDict_hsm nd) hg (by omega) (fun _ _ e => e) (fun h' u tk k => fin h' u tk k) hz
end
end My
set_option Elab.async false
set_option linter.all false
set_option maxRecDepth 100000
set_option maxHeartbeats 4000000
/-! The end of a law whose def shows values. -/
namespace My
open PySem PySem.Spec PyProof.Rows L2

section
variable {P : Program} {w : World} {K : PySem.W.Frag} {mg mb : Str → Option Value} {CX : CXT} {k : Nat} {fa a : Addr} {fd : FuncData} {x : Str} {sp : Sp} {s : Shared} {vs : List Value} {ns : List Int}
/-- what the law's call asks of the state behind the top -/
structure Behind (K : PySem.W.Frag) (mg mb : Str → Option Value) (a : Addr) (vs : List Value) (s : Shared) : Prop where
  kin : K.In s.heap
  glob : s.heap.Ns mainGlobals mg
  blt : s.heap.Ns builtinsNs mb
  boot : ∀ y : Str, y ≠ "__name__" → mb y = bootBuiltins y
  lim : s.heap.NoLimit
  gens : s.gens = #[]
  ob : s.heap.get? a = some { cls := .type "list", data := .seq vs.toArray }
/-- the abstract heap in which at most the script is tracked -/
structure Bare (K : PySem.W.Frag) (a : Addr) (H : Hp) : Prop where
  only : Only H
  at_ : ∀ b, H b ≠ none → b = a
  free : H a ≠ none → K.lookup a = none
theorem law_at (B : Behind K mg mb a vs s) (hr : Room k callerA) (F : ∀ base : Heap, K.In base → base.Ns mainGlobals mg → FnG P w K mg base CX k fa fd [x] sp)
    (bind : ∀ (s : Shared) (u : Value), BindsTo s fd ⟨[u], []⟩ [(x, u)]) (hCX : ∀ H e s', CX [] H s (fun _ _ _ => False) e s' → False)
    (H : Hp) (W : Bare K a H) (hok : HOk P w H s.heap) (hp : sp [.ref a] H (fun v _ => v = .bl true) fun _ _ _ => False) :
    codeAny (model P w) callerA (.call (.ref fa) ⟨[.ref a], []⟩) (fun r s' => r = .ok (.ret (.bool true)) ∧ OldK s.heap s'.heap ∧ s'.os = s.os ∧ AllBare s'.gens) s := by
  have apart : ∀ {b : Addr} {o : Obj}, s.heap.get? b = some o → (b = a → H a = none) → (hidT s.heap H).get? b = some o := fun {b o} e z => hidT_get e (by
    by_cases q : H b = none
    · exact q
    · have ba := W.at_ b q
      rw [ba]
      exact z ba)
  have ns : ∀ {b : Addr} {m : Str → Option Value}, s.heap.Ns b m → (hidT s.heap H).Ns b m := fun {b m} ⟨o, es, ep, e, d, r⟩ => ⟨o, es, ep, apart e (fun z => by
    subst z
    rw [B.ob] at e
    cases e
    exact absurd d (fun q => nomatch q)), d, r⟩
  have kb : K.In (hidT s.heap H) := fun b o e => apart (B.kin b o e) (fun z => by
    subst z
    by_cases q : H b = none
    · exact q
    · have := W.free q
      rw [e] at this
      cases this)
  have md : Mod K mg (hidT s.heap H) := ⟨kb, ns B.glob, ⟨mb, ns B.blt, B.boot⟩, match B.lim with | ⟨m, p, q⟩ => ⟨m, ns p, q⟩⟩
  have e0 : Env0 P w K mg (hidT s.heap H) callerA [] s H :=
    { frames := rfl, mod := md, bs := fun _ _ e => of_hidT e, bsz := Nat.le_of_eq (hidT_size _ _), funs := trivial, frf := fun _ z => (List.not_mem_nil z).elim, hok := hok, bare := .of_eq B.gens }
  refine codeAny_mono ((F _ kb (ns B.glob)).run callerA [] s H ⟨[.ref a], []⟩ [.ref a] [.ref a] _ _ rfl hr e0 (bind s (.ref a)) (.cons rfl .nil) hp) ?_
  intro res s' z
  match res, z with
  | .error e, z => exact (hCX H e s' z).elim
  | .ok .next, z => exact z.elim
  | .ok .brk, z => exact z.elim
  | .ok .cont, z => exact z.elim
  | .ok (.ret u), ⟨v, H', os, bare, un, hok', rv, q⟩ =>
    subst q
    cases (show u = Value.bool true from rv)
    refine ⟨rfl, OldK.of_keep fun b o e => ?_, os, bare⟩
    rcases W.only b with z | ⟨ob, xs, z⟩
    · exact un.keep b o e z List.not_mem_nil List.not_mem_nil
    · have h1 := (hok b _ z).1
      have h2 := (hok' b _ (un.frzs b ob _ z)).1
      rw [e] at h1
      cases h1
      exact h2
theorem law_endG (B : Behind K mg mb a vs s) (hi : IntsAre vs ns) (hl : ns.length ≤ sizeLine) (hr : Room k callerA)
    (F : ∀ base : Heap, K.In base → base.Ns mainGlobals mg → FnG P w K mg base CX k fa fd [x] sp) (bind : ∀ (s : Shared) (u : Value), BindsTo s fd ⟨[u], []⟩ [(x, u)])
    (hsp : ∀ H : Hp, Only H → SqL K H a (ns.map V.int) → sp [.ref a] H (fun v _ => v = .bl true) fun _ _ _ => False) (hCX : ∀ H e s', CX [] H s (fun _ _ _ => False) e s' → False) :
    codeAny (model P w) callerA (.call (.ref fa) ⟨[.ref a], []⟩) (fun r s' => r = .ok (.ret (.bool true)) ∧ OldK s.heap s'.heap ∧ s'.os = s.os ∧ AllBare s'.gens) s := by
  have rv := vals_ints hi
  have le := hi.length
  have lm : (ns.map V.int).length ≤ sizeLine := by
    rw [List.length_map]
    exact hl
  cases q : K.lookup a with
  | some o =>
    have e := B.kin a o q
    rw [B.ob] at e
    cases e
    have hS : SqL K (fun _ => none) a (ns.map V.int) := .inr ⟨_, vs.toArray, _, q, rfl, rfl, rfl, by simpa using (le ▸ hl), by simpa using rv⟩
    exact law_at B hr F bind hCX (fun _ => none) ⟨fun _ => .inl rfl, fun _ z => absurd rfl z, fun z => absurd rfl z⟩ (fun _ _ z => nomatch z) (hsp _ (fun _ => .inl rfl) hS)
  | none =>
    let fz : HO := .frz { cls := .type "list", data := .seq vs.toArray } (.lst (ns.map V.int))
    have oth : ∀ b, b ≠ a → (fun c => if c = a then some fz else none : Hp) b = none := fun b z => if_neg z
    have own : (fun c => if c = a then some fz else none : Hp) a = some fz := if_pos rfl
    have on : Only (fun c => if c = a then some fz else none) := fun b => (Decidable.em (b = a)).elim (fun z => .inr ⟨{ cls := .type "list", data := .seq vs.toArray }, ns.map V.int, if_pos z⟩) fun z => .inl (oth b z)
    refine law_at B hr F bind hCX _ ⟨on, fun b z => Decidable.byContradiction fun y => z (oth b y), fun _ => q⟩ (fun b u z => ?_) (hsp _ on (.inl (.inr ⟨_, own⟩)))
    by_cases y : b = a
    · subst y
      rw [if_pos rfl] at z
      cases z
      exact ⟨B.ob, lm, vs, _, rv, B.ob⟩
    · rw [if_neg y] at z
      cases z
end
/-- the goal that the head leaves, from a promise that may lean on «nothing is being shown»; the script's bits are told -/
theorem walk_G {l : PySem.W.OpenLaw} {n k : Nat} {q : Program} {loose : List Str} {XP : (Str → Option Value) → Heap → Prop} {YP : World → Heap → Prop} {d : DefRec} {K : Params → PySem.W.Frag} {sp : PySem.W.Frag → Sp} {x : Str}
    (hn : l.most = some n) (h2 : n ≤ sizeLine) (hd : d.params.defaults = []) (hr : Room k callerA) (hY : ∀ (w : World) (h : Heap), YP w h → (K w.params).In h)
    (F : ∀ (w : World) (mg : Str → Option Value) (fa : Addr) (h : Heap), (K w.params).In h → h.Ns mainGlobals mg → mg d.name = some (.ref fa) →
      ∃ fd : FuncData, (∀ (s : Shared) (u : Value), BindsTo s fd ⟨[u], []⟩ [(x, u)]) ∧ ∀ base : Heap, (K w.params).In base → base.Ns mainGlobals mg → FnG l.prog w (K w.params) mg base CX0 k fa fd [x] (sp (K w.params)))
    (hsp : ∀ (K : PySem.W.Frag) (H : Hp) (a : Addr) (ns : List Int), ns.length ≤ n → (∀ z ∈ ns, Builtin.Int.intBits z ≤ 1048576) → SqL K H a (ns.map V.int) → sp K [.ref a] H (fun v _ => v = .bl true) fun _ _ _ => False) :
    PySem.W.WalkO q loose XP YP l.row.toRowW d [] (fun f vs => PySem.call f vs) :=
  Att.attach_callB hn hd fun w s₀ s mg mb fa o pm cd doc a vs ns G Y _ _ _ hmg hob hi hl hb hg =>
    let ⟨_, bd, hF⟩ := F w mg fa _ (hY w _ Y) G.T.g hmg
    law_endG ⟨hY w _ Y, G.T.g, G.T.b, G.T.builtins, G.T.nolimit, hg, hob⟩ hi (Nat.le_trans hl h2) hr hF bd (fun H _ hS => hsp _ H a ns hl hb hS) fun _ _ _ z => z
end My
set_option Elab.async false
set_option linter.all false
set_option maxRecDepth 100000
set_option maxHeartbeats 4000000
namespace My
open PySem PySem.Spec PyProof.Rows L2
def topS (i : Nat) : Stmt := PySem.Challenge.pw_shuntplan_k03_couplings_of_trains.main.body.getD i (.Pass ⟨0, 0, 0, 0⟩)
abbrev sWall : Stmt := topS 0
abbrev sInvInit : Stmt := inClass (topS 2) 0
abbrev sIsInt : Stmt := topS 7
abbrev sIsName : Stmt := topS 8
abbrev sIsWith : Stmt := topS 9
abbrev sIsDir : Stmt := topS 10
abbrev sIsRow : Stmt := topS 11
abbrev sChkF : Stmt := topS 12
abbrev sTurn : Stmt := topS 13
abbrev sNames : Stmt := topS 14
abbrev sEntry : Stmt := topS 15
abbrev sOpp : Stmt := topS 16
abbrev sCoup : Stmt := topS 17
abbrev sLinks : Stmt := topS 18
abbrev sLineF : Stmt := topS 19
abbrev sRingF : Stmt := topS 20
abbrev sTrInit : Stmt := inClass (topS 21) 0
abbrev sTrRow : Stmt := inClass (topS 21) 1
abbrev sTrLinks : Stmt := inClass (topS 21) 3
abbrev sTrEq : Stmt := inClass (topS 21) 4
abbrev sTrLen : Stmt := inClass (topS 21) 5
abbrev sTrCon : Stmt := inClass (topS 21) 6
abbrev sLnInit : Stmt := inClass (topS 22) 0
abbrev sLnRow : Stmt := inClass (topS 22) 1
abbrev sLnLinks : Stmt := inClass (topS 22) 3
abbrev sLnEq : Stmt := inClass (topS 22) 4
abbrev sLnLen : Stmt := inClass (topS 22) 5
abbrev sLnCon : Stmt := inClass (topS 22) 6
abbrev sRgInit : Stmt := inClass (topS 23) 0
abbrev sRgRow : Stmt := inClass (topS 23) 1
abbrev sRgLinks : Stmt := inClass (topS 23) 3
abbrev sRgEq : Stmt := inClass (topS 23) 4
abbrev sRgLen : Stmt := inClass (topS 23) 5
abbrev sRgCon : Stmt := inClass (topS 23) 6
abbrev sPen : Stmt := topS 25
abbrev sDraw : Stmt := topS 26
abbrev sPick : Stmt := topS 27
abbrev sShuf : Stmt := topS 28
abbrev sWag : Stmt := topS 29
abbrev sRow : Stmt := topS 30
abbrev sLEnds : Stmt := topS 31
abbrev sLTurn : Stmt := topS 32
abbrev sLCoup : Stmt := topS 33
abbrev sLaw : Stmt := topS 34
theorem scInvInit : FnScope ["self", "value"] ["self", "value"] (defScope sInvInit) := ⟨rfl, rfl, rfl, by decide +kernel, rfl, by decide +kernel, by decide +kernel⟩
theorem scIsInt : FnScope ["value"] ["value"] (defScope sIsInt) := ⟨rfl, rfl, rfl, by decide +kernel, rfl, by decide +kernel, by decide +kernel⟩
theorem scIsName : FnScope ["value", "letter"] ["value"] (defScope sIsName) := ⟨rfl, rfl, rfl, by decide +kernel, rfl, by decide +kernel, by decide +kernel⟩
theorem scIsWith : FnScope ["value", "numbers"] ["value", "numbers"] (defScope sIsWith) := ⟨rfl, rfl, rfl, by decide +kernel, rfl, by decide +kernel, by decide +kernel⟩
theorem scIsDir : FnScope ["value"] ["value"] (defScope sIsDir) := ⟨rfl, rfl, rfl, by decide +kernel, rfl, by decide +kernel, by decide +kernel⟩
theorem scIsRow : FnScope ["value", "wagon", "name", "_"] ["value"] (defScope sIsRow) := ⟨rfl, rfl, rfl, by decide +kernel, rfl, by decide +kernel, by decide +kernel⟩
theorem scChkF : FnScope ["value"] ["value"] (defScope sChkF) := ⟨rfl, rfl, rfl, by decide +kernel, rfl, by decide +kernel, by decide +kernel⟩
theorem scTurn : FnScope ["row", "name", "direction"] ["row"] (defScope sTurn) := ⟨rfl, rfl, rfl, by decide +kernel, rfl, by decide +kernel, by decide +kernel⟩
theorem scNames : FnScope ["row", "name", "_"] ["row"] (defScope sNames) := ⟨rfl, rfl, rfl, by decide +kernel, rfl, by decide +kernel, by decide +kernel⟩
theorem scEntry : FnScope ["wagon", "name", "direction"] ["wagon"] (defScope sEntry) := ⟨rfl, rfl, rfl, by decide +kernel, rfl, by decide +kernel, by decide +kernel⟩
theorem scOpp : FnScope ["end", "name", "side"] ["end"] (defScope sOpp) := ⟨rfl, rfl, rfl, by decide +kernel, rfl, by decide +kernel, by decide +kernel⟩
theorem scCoup : FnScope ["one", "other"] ["one", "other"] (defScope sCoup) := ⟨rfl, rfl, rfl, by decide +kernel, rfl, by decide +kernel, by decide +kernel⟩
theorem scLinks : FnScope ["row", "one", "other"] ["row"] (defScope sLinks) := ⟨rfl, rfl, rfl, by decide +kernel, rfl, by decide +kernel, by decide +kernel⟩
theorem scLineF : FnScope ["row"] ["row"] (defScope sLineF) := ⟨rfl, rfl, rfl, by decide +kernel, rfl, by decide +kernel, by decide +kernel⟩
theorem scRingF : FnScope ["row", "least", "at"] ["row"] (defScope sRingF) := ⟨rfl, rfl, rfl, by decide +kernel, rfl, by decide +kernel, by decide +kernel⟩
theorem scTrInit : FnScope ["self", "row"] ["self", "row"] (defScope sTrInit) := ⟨rfl, rfl, rfl, by decide +kernel, rfl, by decide +kernel, by decide +kernel⟩
theorem scTrRow : FnScope ["self"] ["self"] (defScope sTrRow) := ⟨rfl, rfl, rfl, by decide +kernel, rfl, by decide +kernel, by decide +kernel⟩
theorem scTrLinks : FnScope ["self"] ["self"] (defScope sTrLinks) := ⟨rfl, rfl, rfl, by decide +kernel, rfl, by decide +kernel, by decide +kernel⟩
theorem scTrEq : FnScope ["self", "other"] ["self", "other"] (defScope sTrEq) := ⟨rfl, rfl, rfl, by decide +kernel, rfl, by decide +kernel, by decide +kernel⟩
theorem scTrLen : FnScope ["self"] ["self"] (defScope sTrLen) := ⟨rfl, rfl, rfl, by decide +kernel, rfl, by decide +kernel, by decide +kernel⟩
theorem scTrCon : FnScope ["self", "name"] ["self", "name"] (defScope sTrCon) := ⟨rfl, rfl, rfl, by decide +kernel, rfl, by decide +kernel, by decide +kernel⟩
theorem scLnRow : FnScope ["self"] ["self"] (defScope sLnRow) := ⟨rfl, rfl, rfl, by decide +kernel, rfl, by decide +kernel, by decide +kernel⟩
theorem scLnLinks : FnScope ["self"] ["self"] (defScope sLnLinks) := ⟨rfl, rfl, rfl, by decide +kernel, rfl, by decide +kernel, by decide +kernel⟩
theorem scLnEq : FnScope ["self", "other"] ["self", "other"] (defScope sLnEq) := ⟨rfl, rfl, rfl, by decide +kernel, rfl, by decide +kernel, by decide +kernel⟩
theorem scLnLen : FnScope ["self"] ["self"] (defScope sLnLen) := ⟨rfl, rfl, rfl, by decide +kernel, rfl, by decide +kernel, by decide +kernel⟩
theorem scLnCon : FnScope ["self", "name"] ["self", "name"] (defScope sLnCon) := ⟨rfl, rfl, rfl, by decide +kernel, rfl, by decide +kernel, by decide +kernel⟩
theorem scRgRow : FnScope ["self"] ["self"] (defScope sRgRow) := ⟨rfl, rfl, rfl, by decide +kernel, rfl, by decide +kernel, by decide +kernel⟩
theorem scRgLinks : FnScope ["self"] ["self"] (defScope sRgLinks) := ⟨rfl, rfl, rfl, by decide +kernel, rfl, by decide +kernel, by decide +kernel⟩
theorem scRgEq : FnScope ["self", "other"] ["self", "other"] (defScope sRgEq) := ⟨rfl, rfl, rfl, by decide +kernel, rfl, by decide +kernel, by decide +kernel⟩
theorem scRgLen : FnScope ["self"] ["self"] (defScope sRgLen) := ⟨rfl, rfl, rfl, by decide +kernel, rfl, by decide +kernel, by decide +kernel⟩
theorem scRgCon : FnScope ["self", "name"] ["self", "name"] (defScope sRgCon) := ⟨rfl, rfl, rfl, by decide +kernel, rfl, by decide +kernel, by decide +kernel⟩
theorem scPen : FnScope ["script"] ["script"] (defScope sPen) := ⟨rfl, rfl, rfl, by decide +kernel, rfl, by decide +kernel, by decide +kernel⟩
theorem scDraw : FnScope ["pen", "size", "digit", "turn", "cell", "primes", "prime", "mixed"] ["pen", "size"] (defScope sDraw) := ⟨rfl, rfl, rfl, by decide +kernel, rfl, by decide +kernel, by decide +kernel⟩
theorem scPick : FnScope ["pen", "options"] ["pen", "options"] (defScope sPick) := ⟨rfl, rfl, rfl, by decide +kernel, rfl, by decide +kernel, by decide +kernel⟩
theorem scShuf : FnScope ["pen", "some", "left", "found"] ["pen", "some"] (defScope sShuf) := ⟨rfl, rfl, rfl, by decide +kernel, rfl, by decide +kernel, by decide +kernel⟩
theorem scWag : FnScope ["pen", "many", "letters", "k", "front", "first", "step", "found", "place"] ["pen", "many"] (defScope sWag) := ⟨rfl, rfl, rfl, by decide +kernel, rfl, by decide +kernel, by decide +kernel⟩
theorem scRow : FnScope ["pen", "wagons", "name"] ["pen", "wagons"] (defScope sRow) := ⟨rfl, rfl, rfl, by decide +kernel, rfl, by decide +kernel, by decide +kernel⟩
theorem scLEnds : FnScope ["part", "name", "direction"] ["part"] (defScope sLEnds) := ⟨rfl, rfl, rfl, by decide +kernel, rfl, by decide +kernel, by decide +kernel⟩
theorem scLTurn : FnScope ["row", "name", "direction"] ["row"] (defScope sLTurn) := ⟨rfl, rfl, rfl, by decide +kernel, rfl, by decide +kernel, by decide +kernel⟩
theorem scLCoup : FnScope ["row", "is_ring", "found", "k", "pair"] ["row", "is_ring"] (defScope sLCoup) := ⟨rfl, rfl, rfl, by decide +kernel, rfl, by decide +kernel, by decide +kernel⟩
theorem scLaw : FnScope ["script", "pen", "turn", "row", "some", "line", "ring", "again", "one", "other"] ["script"] (defScope sLaw) := ⟨rfl, rfl, rfl, by decide +kernel, rfl, by decide +kernel, by decide +kernel⟩
end My
set_option Elab.async false
set_option linter.all false
set_option maxRecDepth 100000
set_option maxHeartbeats 4000000
namespace My
open PySem PySem.Spec PyProof.Rows L2

/-! ### the pen: where the drawing stands -/
def kCells : Key := .inr "cells"
def kTurn : Key := .inr "turn"
def kRest : Key := .inr "rest"
theorem k12 : ¬ kCells = kTurn := by decide +kernel
theorem k13 : ¬ kCells = kRest := by decide +kernel
theorem k23 : ¬ kTurn = kRest := by decide +kernel
def penL (c : Addr) (t r : Int) : List (Key × V) := [(kCells, .ref c), (kTurn, .int t), (kRest, .int r)]
theorem penL_cells (c : Addr) (t r : Int) : valV (penL c t r) kCells = some (.ref c) := valV_pos (p := (kCells, V.ref c)) rfl
theorem penL_turn (c : Addr) (t r : Int) : valV (penL c t r) kTurn = some (.int t) := (valV_neg (p := (kCells, V.ref c)) k12).trans (valV_pos (p := (kTurn, V.int t)) rfl)
theorem penL_rest (c : Addr) (t r : Int) : valV (penL c t r) kRest = some (.int r) :=
  ((valV_neg (p := (kCells, V.ref c)) k13).trans (valV_neg (p := (kTurn, V.int t)) k23)).trans (valV_pos (p := (kRest, V.int r)) rfl)
theorem put_turn (c : Addr) (t r y : Int) : putK (penL c t r) kTurn (.int y) = penL c y r := by
  unfold putK penL
  rw [if_pos (by simp)]
  simp only [List.map_cons, List.map_nil]
  rw [if_neg k12, if_pos trivial, if_neg fun z => k23 z.symm]
theorem put_rest (c : Addr) (t r y : Int) : putK (penL c t r) kRest (.int y) = penL c t y := by
  unfold putK penL
  rw [if_pos (by simp)]
  simp only [List.map_cons, List.map_nil]
  rw [if_neg k13, if_neg k23, if_pos trivial]
/-- at most n draws were made; the cells stand at c -/
structure PenAt (H : Hp) (p c : Addr) (n : Nat) : Prop where
  ex : ∃ (ns : List Int) (t r : Int), H p = some (.dK (penL c t r)) ∧ H c = some (.lst (ns.map V.int)) ∧ ns.length ≤ 63 ∧ 0 ≤ t ∧ t ≤ n
theorem PenAt.mono {H : Hp} {p c : Addr} {n m : Nat} (h : PenAt H p c n) (k : n ≤ m) : PenAt H p c m := let ⟨⟨ns, t, r, a, b, d, e, f⟩⟩ := h; ⟨⟨ns, t, r, a, b, d, e, by omega⟩⟩
theorem PenAt.ne {H : Hp} {p c : Addr} {n : Nat} (h : PenAt H p c n) : c ≠ p := let ⟨⟨_, _, _, a, b, _⟩⟩ := h; ne_of b a (fun z => nomatch z)
theorem penAt_of {H : Hp} {p c : Addr} {n : Nat} {kvs : List (Key × V)} {ns : List Int} {t r : Int} (e : kvs = penL c t r) (h : H p = some (.dK kvs)) (hc : H c = some (.lst (ns.map V.int))) (hl : ns.length ≤ 63) (h0 : 0 ≤ t) (h1 : t ≤ n) : PenAt H p c n :=
  ⟨⟨ns, t, r, e ▸ h, hc, hl, h0, h1⟩⟩
/-- all that was tracked is as it was, but the pen -/
def SameP (p : Addr) (H H' : Hp) : Prop := ∀ b o, b ≠ p → H b = some o → H' b = some o
theorem SameP.refl (p : Addr) (H : Hp) : SameP p H H := fun _ _ _ h => h
theorem SameP.trans {p : Addr} {H H1 H2 : Hp} (a : SameP p H H1) (b : SameP p H1 H2) : SameP p H H2 := fun c o n h => b c o n (a c o n h)
theorem SameP.of {p : Addr} {H H' : Hp} (a : Same H H') : SameP p H H' := fun c o _ h => a c o h
theorem same_new {H : Hp} {q : Addr} {o : HO} (h : H q = none) : Same H (upd H q o) := fun b x e => by rw [upd_ne (ne_of_none e h)]; exact e
theorem SameP.new {p : Addr} {H : Hp} {q : Addr} {o : HO} (h : H q = none) : SameP p H (upd H q o) := .of (same_new h)
theorem SameP.pen {p : Addr} {H : Hp} {o : HO} : SameP p H (upd H p o) := fun b x n e => by rw [upd_ne n]; exact e
theorem PenAt.same {H H' : Hp} {p c : Addr} {n : Nat} (h : PenAt H p c n) (s : Same H H') : PenAt H' p c n := let ⟨⟨ns, t, r, a, b, d, e, f⟩⟩ := h; ⟨⟨ns, t, r, s _ _ a, s _ _ b, d, e, f⟩⟩

/-! ### the draw's numbers -/
theorem mod_lo (a : Int) {b : Int} (h : 0 < b) : 0 ≤ a % b := Int.emod_nonneg a (by omega)
theorem mod_hi (a : Int) {b : Int} (h : 0 < b) : a % b < b := Int.emod_lt_of_pos a h
def primesL : List Int := [2147483629, 2147483647, 2147483563, 2147483587, 2147483579]
theorem prime_at (t : Int) : ∃ q : Int, atI (primesL.map V.int) (t % 5) = some (.int q) ∧ 0 < q ∧ q < 2147483648 := by
  have h1 := mod_lo t (b := 5) (by decide)
  have h2 := mod_hi t (b := 5) (by decide)
  have h3 : t % 5 = 0 ∨ t % 5 = 1 ∨ t % 5 = 2 ∨ t % 5 = 3 ∨ t % 5 = 4 := by omega
  rcases h3 with e | e | e | e | e <;> rw [e]
  · exact ⟨2147483629, rfl, by decide, by decide⟩
  · exact ⟨2147483647, rfl, by decide, by decide⟩
  · exact ⟨2147483563, rfl, by decide, by decide⟩
  · exact ⟨2147483587, rfl, by decide, by decide⟩
  · exact ⟨2147483579, rfl, by decide, by decide⟩
theorem cmul_l {i j : Int} (h0 : 0 ≤ i) (h1 : i ≤ 10 ^ 19) : CMul i j := .inl ⟨by omega, by
  have h : (10 : Int) ^ 19 < 2 ^ 64 := by decide
  exact Int.lt_of_le_of_lt h1 h⟩

/-! ### lists of ints as data -/
theorem dp_ints (K : PySem.W.Frag) (H : Hp) : ∀ ns : List Int, DpAll K H (ns.map V.int) (ns.map PyData.int)
  | [] => .nil
  | n :: r => .cons (.int n) (dp_ints K H r)
theorem lay_ints : ∀ ns : List Int, PyData.canLayAll0 (ns.map PyData.int) = true
  | [] => by simp only [List.map_nil, PyData.canLayAll0]
  | n :: r => by simp only [List.map_cons, PyData.canLayAll0, PyData.canLay0, lay_ints r, Bool.and_self]
theorem depth_ints : ∀ ns : List Int, PyData.depthAll (ns.map PyData.int) = 0
  | [] => by simp only [List.map_nil, PyData.depthAll]
  | n :: r => by simp only [List.map_cons, PyData.depthAll, PyData.depth, depth_ints r, Nat.max_self]
theorem shaped_ints (ns : List Int) : SeqAt.shaped (.list (ns.map PyData.int)) = true := by
  unfold SeqAt.shaped
  simp only [PyData.canLay0, lay_ints, PyData.depth, depth_ints]
  decide
theorem eqv_nil (ds : List PyData) : PyData.eqv (.list ds) (.list []) = ds.isEmpty := by
  cases ds <;> simp only [PyData.eqv, PyData.eqvAll, List.isEmpty]

section
variable {P : Program} {w : World} {K : PySem.W.Frag} {mg : Str → Option Value} {base : Heap}
/-- a number below size is drawn; nothing but the pen is touched -/
def spDraw : Sp := fun vs H Q _ => ∃ (p c : Addr) (n : Nat) (size : Int), vs = [.ref p, .int size] ∧ PenAt H p c n ∧ n ≤ 1000000000 ∧ 0 < size ∧ size < 1073741824 ∧
  ∀ (d : Int) (H' : Hp), 0 ≤ d → d < size → SameP p H H' → PenAt H' p c (n + 1) → Q (.int d) H'
theorem ok_draw {f : Addr} {fd : FuncData} {k : Nat} (F : Fun K "_law_draw" "_law_draw" sDraw f fd) (ml : mg "len" = none) (ma : mg "abs" = none) : FnOk P w K mg base CX0 (k + 1) f fd ["pen", "size"] spDraw := by
  refine F.ok scDraw (fun vs H Q E h => ?_) (fun cdv A outer s H vs Q E hr h => ?_)
  · obtain ⟨p, c, n, size, rfl, _⟩ := h
    rfl
  · obtain ⟨p, c, n, size, rfl, ⟨⟨ns, t, r, hp, hc, hlen, t0, tn⟩⟩, hn, s0, s1, q⟩ := h
    have hu := hu_of hr
    have hcp : c ≠ p := ne_of hc hp (fun z => nomatch z)
    refine ⟨_, pss_cons (ps_if (pt_cmpR op_gt (pe_dget hu (pv 0) pe_str (fun _ _ => rfl)) pe_int (nomark _))
        (pss_cons (ps_set (i := 2) scDraw.nd rfl (.inl rfl) (pe_op op_mod (pe_dget hu (pv 0) pe_str (fun _ _ => rfl)) (pv 1)))
        (pss_cons (ps_dput hu (pv 0) pe_str (pe_op op_fdiv (pe_dget hu (pv 0) pe_str (fun _ _ => rfl)) (pv 1)) rfl)
        (pss_one (ps_ret (pv 2))))) pss_nil)
      (pss_cons (ps_set (i := 3) scDraw.nd rfl (.inl rfl) (pe_dget hu (pv 0) pe_str (fun _ _ => rfl)))
      (pss_cons (ps_dput hu (pv 0) pe_str (pe_op op_add (pv 3) pe_int) rfl)
      (pss_cons (ps_set (i := 4) scDraw.nd rfl (.inl rfl) (pe_op op_add (pe_op op_mul pe_int (pv 3)) pe_int))
      (Evl.pss_cut (ps_if (pt_cmpR (op_neD hr.units) (pe_dget hu (pv 0) pe_str (fun _ _ => rfl)) (pe_lst pa_nil) (nomark _))
        (pss_one (ps_set (i := 4) scDraw.nd rfl (.inl rfl) (pe_ix ix_list (pe_dget hu (pv 0) pe_str (fun _ _ => rfl)) (pe_op op_mod (pv 3) (pe_callB call_len_seq (by rfl) ml PySem.boot_len (pa_cons (pe_dget hu (pv 0) pe_str (fun _ _ => rfl)) pa_nil))) (fun _ _ => rfl)))) pss_nil)
      (Evl.pss_cut (ps_if (PW.pt (pw_and (pt_cmpR op_lt (pv 3) (pe_callB call_len_seq (by rfl) ml PySem.boot_len (pa_cons (pe_dget hu (pv 0) pe_str (fun _ _ => rfl)) pa_nil)) (nomark _))
            (pw_and1 (pt_cmpR op_ge (pe_callB call_abs (by rfl) ma (by decide +kernel) (pa_cons (pv 4) pa_nil)) (pe_op op_pow pe_int pe_int) (nomark _)))))
          (pss_cons (ps_dput hu (pv 0) pe_str (pe_op op_fdiv (pe_op op_sub (pe_callB call_abs (by rfl) ma (by decide +kernel) (pa_cons (pv 4) pa_nil)) (pe_op op_pow pe_int pe_int)) (pv 1)) rfl)
          (pss_one (ps_ret (pe_op op_mod (pe_op op_sub (pe_callB call_abs (by rfl) ma (by decide +kernel) (pa_cons (pv 4) pa_nil)) (pe_op op_pow pe_int pe_int)) (pv 1))))) pss_nil)
      (pss_cons (ps_set (i := 5) scDraw.nd rfl (.inl rfl) (pe_lst (pa_cons pe_int (pa_cons pe_int (pa_cons pe_int (pa_cons pe_int (pa_cons pe_int pa_nil)))))))
      (pss_cons (ps_set (i := 6) scDraw.nd rfl (.inl rfl) (pe_ix ix_list (pv 5) (pe_op op_mod (pv 3) pe_int) (fun _ _ => rfl)))
      (pss_cons (ps_set (i := 7) scDraw.nd rfl (.inl rfl) (pe_op op_mod (pe_op op_add (pe_op op_add (pe_op op_add (pe_op op_mul (pe_op op_mod (pv 4) pe_int) pe_int) (pe_op op_mul (pe_op op_mul pe_int (pv 3)) (pv 3))) (pe_op op_mul pe_int (pv 3))) pe_int) (pv 6)))
      (pss_cons (ps_set (i := 7) scDraw.nd rfl (.inl rfl) (pe_op op_mod (pe_op op_add (pe_op op_add (pe_op op_add (pe_op op_mul (pv 7) (pv 7)) (pe_op op_mul pe_int (pv 7))) (pe_op op_mul pe_int (pv 3))) pe_int) pe_int))
      (pss_one (ps_ret (pe_op op_mod (pe_op op_fdiv (pe_op op_mod (pe_op op_mul (pv 7) (pe_op op_add (pv 7) pe_int)) pe_int) pe_int) (pv 1))))))))))))), ?_⟩
    -- if pen['rest'] > 0
    refine ⟨_, rfl, p, _, rfl, penL_rest c t r ▸ DGet.k (k := kRest) hp, r, 0, rfl, rfl, _, rfl, ite2 (fun _ => ?_) (fun _ => ?_)⟩
    · refine ⟨_, rfl, p, _, rfl, penL_rest c t r ▸ DGet.k (k := kRest) hp, _, rfl, r, size, rfl, rfl, s0, ?_⟩
      refine ⟨_, rfl, p, _, rfl, penL_rest c t r ▸ DGet.k (k := kRest) hp, _, rfl, r, size, rfl, rfl, ⟨s0, s1⟩, _, rfl, p, _, rfl, DPut.k (k := kRest) hp (by show 3 < sizeLine; decide), ?_⟩
      exact ⟨_, rfl, q _ _ (mod_lo r s0) (mod_hi r s0) SameP.pen (penAt_of (put_rest c t r _) upd_same ((upd_ne hcp).trans hc) hlen t0 (by omega))⟩
    -- turn = pen['turn']; pen['turn'] = turn + 1; cell = 61 * turn + 17
    · refine ⟨_, rfl, p, _, rfl, penL_turn c t r ▸ DGet.k (k := kTurn) hp, ?_⟩
      refine ⟨_, rfl, _, _, rfl, rfl, _, rfl, p, _, rfl, DPut.k (k := kTurn) hp (by show 3 < sizeLine; decide), ?_⟩
      rw [put_turn]
      generalize hH1 : upd H p (.dK (penL c (t + 1) r)) = H1
      have p1 : H1 p = some (.dK (penL c (t + 1) r)) := by rw [← hH1, upd_same]
      have c1 : H1 c = some (.lst (ns.map V.int)) := by rw [← hH1, upd_ne hcp]; exact hc
      have sm : SameP p H H1 := by rw [← hH1]; exact SameP.pen
      refine ⟨_, rfl, _, _, rfl, rfl, .inl ⟨by decide, by decide⟩, _, _, rfl, rfl, ?_⟩
      -- if pen['cells'] != []
      refine ⟨fun σ H2 => ∃ cell : Int, σ = [some (.ref p), some (.int size), none, some (.int t), some (.int cell), none, none, none] ∧ Same H1 H2, ?_, ?_⟩
      · refine ⟨_, rfl, p, _, rfl, penL_cells c (t + 1) r ▸ DGet.k (k := kCells) p1, by show 0 ≤ sizeLine; decide, fun l hl => ?_⟩
        have sl : Same H1 (upd H1 l (.lst [])) := same_new hl
        have c2 := sl _ _ c1
        have p2 := sl _ _ p1
        refine ⟨.list (ns.map PyData.int), .list [], .lst (.inl (.inl c2)) (dp_ints K _ ns), .lst (.inl (.inl upd_same)) .nil, shaped_ints ns, shaped_ints [], _, rfl, ?_⟩
        rw [eqv_nil]
        cases ns with
        | nil => exact iteF ⟨_, rfl, sl⟩
        | cons n0 nr =>
          refine iteT ?_
          have lp : (0 : Int) < (((n0 :: nr).map V.int).length : Int) := by simp
          obtain ⟨j, hj⟩ : ∃ j : Nat, t % (((n0 :: nr).map V.int).length : Int) = (j : Int) := ⟨(t % (((n0 :: nr).map V.int).length : Int)).toNat, by have := mod_lo t lp; omega⟩
          have hjl : j < (n0 :: nr).length := by
            have h2 := mod_hi t lp
            rw [hj, List.length_map] at h2
            omega
          refine ⟨_, rfl, p, _, rfl, penL_cells c (t + 1) r ▸ DGet.k (k := kCells) p2, _, rfl, _, rfl, p, _, rfl, penL_cells c (t + 1) r ▸ DGet.k (k := kCells) p2, c, _, rfl, .inl (.inl (.inl c2)), t, _, rfl, rfl, lp, ?_⟩
          refine ⟨c, _, _, .int (n0 :: nr)[j], rfl, rfl, .inl (.inl c2), ?_, ⟨_, rfl, sl⟩⟩
          rw [hj]
          refine atI_nat ?_
          rw [List.getElem?_map, List.getElem?_eq_getElem hjl]
          rfl
      · -- if turn < len(cells) and abs(cell) >= 10 ** 18
        rintro σ H2 ⟨cell, rfl, s2⟩
        have c2 := s2 _ _ c1
        have p2 := s2 _ _ p1
        have sm2 : SameP p H H2 := sm.trans (.of s2)
        refine ⟨fun σ H3 => σ = [some (.ref p), some (.int size), none, some (.int t), some (.int cell), none, none, none] ∧ H3 = H2, ?_, ?_⟩
        · refine ⟨_, rfl, _, rfl, p, _, rfl, penL_cells c (t + 1) r ▸ DGet.k (k := kCells) p2, c, _, rfl, .inl (.inl (.inl c2)), _, _, rfl, rfl, _, rfl, ite2 (fun _ => ?_) (fun _ => iteF ⟨rfl, rfl⟩)⟩
          refine ⟨_, rfl, _, rfl, _, _, rfl, rfl, ⟨by decide, by decide, by decide⟩, _, _, rfl, rfl, _, rfl, ite2 (fun _ => ?_) (fun _ => ⟨rfl, rfl⟩)⟩
          refine ⟨_, rfl, _, rfl, _, _, rfl, rfl, ⟨by decide, by decide, by decide⟩, _, _, rfl, rfl, _, rfl, _, _, rfl, rfl, ⟨s0, s1⟩, _, rfl, p, _, rfl, DPut.k (k := kRest) p2 (by show 3 < sizeLine; decide), ?_⟩
          refine ⟨_, rfl, _, rfl, _, _, rfl, rfl, ⟨by decide, by decide, by decide⟩, _, _, rfl, rfl, _, rfl, _, _, rfl, rfl, s0, ?_⟩
          exact q _ _ (mod_lo _ s0) (mod_hi _ s0) (sm2.trans SameP.pen) (penAt_of (put_rest c (t + 1) r _) upd_same ((upd_ne hcp).trans c2) hlen (by omega) (by omega))
        · rintro σ H3 ⟨rfl, rfl⟩
          -- primes, prime
          refine ⟨by show 5 ≤ sizeLine; decide, fun l hl => ?_⟩
          have sl : Same H3 (upd H3 l (.lst (primesL.map V.int))) := same_new hl
          obtain ⟨pr, hpr, pr0, pr1⟩ := prime_at t
          refine ⟨_, rfl, _, rfl, t, 5, rfl, rfl, (by show (0 : Int) < 5; decide), l, primesL.map V.int, _, _, rfl, rfl, .inl (.inl upd_same), hpr, ?_⟩
          -- mixed
          have tb : t ≤ 1000000000 := by omega
          have m1 := mod_lo cell (b := 4294967291) (by decide)
          have m2 := mod_hi cell (b := 4294967291) (by decide)
          refine ⟨_, rfl, _, _, rfl, rfl, (by show (0 : Int) < 4294967291; decide), _, _, rfl, rfl, cmul_l m1 (by omega), _, rfl, _, _, rfl, rfl, cmul_l (by decide) (by decide), _, rfl, _, _, rfl, rfl, cmul_l (by omega) (by omega), _, _, rfl, rfl,
            _, rfl, _, _, rfl, rfl, cmul_l (by decide) (by decide), _, _, rfl, rfl, _, _, rfl, rfl, _, rfl, _, _, rfl, rfl, pr0, ?_⟩
          have lt1 : ∀ a : Int, a % pr ≤ 10 ^ 19 := fun a => Int.le_trans (Int.le_of_lt (mod_hi a pr0)) (by omega)
          have lt2 : ∀ a : Int, a % 4294967279 ≤ 10 ^ 19 := fun a => Int.le_trans (Int.le_of_lt (mod_hi a (by decide))) (by decide)
          refine ⟨_, rfl, _, rfl, _, _, rfl, rfl, cmul_l (mod_lo _ pr0) (lt1 _), _, rfl, _, _, rfl, rfl, cmul_l (by decide) (by decide), _, _, rfl, rfl, _, rfl, _, _, rfl, rfl, cmul_l (by decide) (by decide), _, _, rfl, rfl, _, _, rfl, rfl,
            _, _, rfl, rfl, (by show (0 : Int) < 4294967279; decide), ?_⟩
          refine ⟨_, rfl, _, rfl, _, _, rfl, rfl, _, _, rfl, rfl, cmul_l (mod_lo _ (by decide)) (lt2 _), _, _, rfl, rfl, (by show (0 : Int) < 4294967231; decide), _, _, rfl, rfl, ⟨by decide, by decide⟩, _, rfl, _, _, rfl, rfl, s0, ?_⟩
          exact q _ _ (mod_lo _ s0) (mod_hi _ s0) (sm2.trans (.of sl)) (penAt_of (t := t + 1) (r := r) rfl (sl _ _ p2) (sl _ _ c2) hlen (by omega) (by omega))
end
/-! ### what stays when a pen draws -/
theorem sameP_ne {p c : Addr} {H : Hp} {n : Nat} (g : PenAt H p c n) {a : Addr} {o : HO} (e : H a = some o) (h : ∀ kvs, o ≠ .dK kvs) : a ≠ p := by
  obtain ⟨⟨_, _, _, hp, _⟩⟩ := g
  rintro rfl
  rw [e] at hp
  exact h _ (Option.some.inj hp)
section
variable {K : PySem.W.Frag} {H H' : Hp} {p c : Addr} {n : Nat}
theorem SameP.lst (s : SameP p H H') (g : PenAt H p c n) {a : Addr} {xs : List V} (e : H a = some (.lst xs)) : H' a = some (.lst xs) := s _ _ (sameP_ne g e fun _ z => nomatch z) e
theorem SameP.tup (s : SameP p H H') (g : PenAt H p c n) {a : Addr} {xs : List V} (e : H a = some (.tup xs)) : H' a = some (.tup xs) := s _ _ (sameP_ne g e fun _ z => nomatch z) e
theorem SameP.sqL (s : SameP p H H') (g : PenAt H p c n) {a : Addr} {xs : List V} (e : SqL K H a xs) : SqL K H' a xs := by
  rcases e with (e | ⟨o, e⟩) | e
  · exact .inl (.inl (s.lst g e))
  · exact .inl (.inr ⟨o, s _ _ (sameP_ne g e fun _ z => nomatch z) e⟩)
  · exact .inr e
theorem SameP.sqT (s : SameP p H H') (g : PenAt H p c n) {a : Addr} {xs : List V} (e : SqT K H a xs) : SqT K H' a xs := by
  rcases e with (e | ⟨o, e⟩) | e
  · exact .inl (.inl (s.tup g e))
  · exact .inl (.inr ⟨o, s _ _ (sameP_ne g e fun _ z => nomatch z) e⟩)
  · exact .inr e
/-- lists and tuples that were read are read so again -/
structure Keeps (K : PySem.W.Frag) (H H' : Hp) : Prop where
  l : ∀ a xs, SqL K H a xs → SqL K H' a xs
  t : ∀ a xs, SqT K H a xs → SqT K H' a xs
theorem SameP.keeps (s : SameP p H H') (g : PenAt H p c n) : Keeps K H H' := ⟨fun _ _ e => s.sqL g e, fun _ _ e => s.sqT g e⟩
theorem _root_.L2.Same.keeps (s : Same H H') : Keeps K H H' := ⟨fun _ _ e => s.seq e, fun a xs e => by
  rcases e with (e | ⟨o, e⟩) | e
  · exact .inl (.inl (s _ _ e))
  · exact .inl (.inr ⟨o, s _ _ e⟩)
  · exact .inr e⟩
mutual
theorem dp_keep (s : Keeps K H H') : ∀ (d : PyData) (v : V), Dp K H v d → Dp K H' v d
  | .none, _, h => by cases h; exact .non
  | .bool _, _, h => by cases h; exact .bl _
  | .int _, _, h => by cases h; exact .int _
  | .str _, _, h => by cases h; exact .str _
  | .list ds, _, h => by
    cases h with
    | lst a b => exact .lst (s.l _ _ a) (dp_keepAll s ds _ b)
  | .tuple ds, _, h => by
    cases h with
    | tup a b => exact .tup (s.t _ _ a) (dp_keepAll s ds _ b)
  | .dict _, _, h => by cases h
theorem dp_keepAll (s : Keeps K H H') : ∀ (ds : List PyData) (vs : List V), DpAll K H vs ds → DpAll K H' vs ds
  | [], _, h => by cases h; exact .nil
  | d :: ds, _, h => by
    cases h with
    | cons a b => exact .cons (dp_keep s d _ a) (dp_keepAll s ds _ b)
end
/-- a list, a tuple, a text, by its items -/
inductive SeqOf (K : PySem.W.Frag) (H : Hp) : V → List V → Prop
  | lst {a : Addr} {xs : List V} : SqL K H a xs → SeqOf K H (.ref a) xs
  | tup {a : Addr} {xs : List V} : SqT K H a xs → SeqOf K H (.ref a) xs
  | str {z : Str} : z.length ≤ sizeLine → SeqOf K H (.str z) (z.cps.toList.map fun c => .str ⟨#[c]⟩)
theorem SeqOf.keep (s : Keeps K H H') {x : V} {xs : List V} (h : SeqOf K H x xs) : SeqOf K H' x xs := by
  cases h with
  | lst e => exact .lst (s.l _ _ e)
  | tup e => exact .tup (s.t _ _ e)
  | str e => exact .str e
theorem SeqOf.len {x : V} {xs : List V} (h : SeqOf K H x xs) : LenV K x H xs.length := by
  cases h with
  | lst e => exact .inl ⟨_, e, rfl⟩
  | tup e => exact .inr ⟨_, e, rfl⟩
  | @str z e =>
    refine ⟨e, ?_⟩
    rw [List.length_map, Array.length_toList]
    rfl
theorem SeqOf.ix {x : V} {xs : List V} (h : SeqOf K H x xs) {i : Nat} {v : V} (hi : xs[i]? = some v) {Q : VK} (q : Q v H) : rIx K x (.int i) H Q := by
  cases h with
  | lst e => exact .inl ⟨_, _, _, _, rfl, rfl, e, atI_nat hi, q⟩
  | tup e => exact .inr (.inl ⟨_, _, _, _, rfl, rfl, e, atI_nat hi, q⟩)
  | @str z e =>
    rw [List.getElem?_map] at hi
    obtain ⟨cd, h1, rfl⟩ := Option.map_eq_some_iff.mp hi
    exact .inr (.inr ⟨_, _, _, rfl, rfl, e, atI_nat h1, q⟩)
end

section
variable {P : Program} {w : World} {K : PySem.W.Frag} {mg : Str → Option Value} {base : Heap}
/-- one of the options -/
def spPick (K : PySem.W.Frag) : Sp := fun vs H Q _ => ∃ (p c : Addr) (n : Nat) (o : V) (xs : List V), vs = [.ref p, o] ∧ PenAt H p c n ∧ n ≤ 1000000000 ∧ SeqOf K H o xs ∧ 0 < xs.length ∧ xs.length < 1073741824 ∧
  ∀ (i : Nat) (v : V) (H' : Hp), xs[i]? = some v → SameP p H H' → PenAt H' p c (n + 1) → Q v H'
theorem ok_pick {f fD : Addr} {fd fdD : FuncData} {k : Nat} (F : Fun K "_law_pick" "_law_pick" sPick f fd) (ml : mg "len" = none) (GD : FnOk P w K mg base CX0 k fD fdD ["pen", "size"] spDraw) (gD : mg "_law_draw" = some (.ref fD)) (kD : PySem.W.keepIn K (.ref fD) = true)
    (bD : Binds K fdD ["pen", "size"] []) : FnOk P w K mg base CX0 (k + 1) f fd ["pen", "options"] (spPick K) := by
  refine F.ok scPick (fun vs H Q E h => ?_) (fun cdv A outer s H vs Q E hr h => ?_)
  · obtain ⟨p, c, n, o, xs, rfl, _⟩ := h
    rfl
  · obtain ⟨p, c, n, o, xs, rfl, G, hn, hx, h0, h1, q⟩ := h
    refine ⟨_, pss_one (ps_ret (pe_ix ix_seq (pv 1) (pe_call GD hr (by rfl) gD kD bD .nil pass0 (pa_cons (pv 0) (pa_cons (pe_callB call_len (by rfl) ml PySem.boot_len (pa_cons (pv 1) pa_nil)) pa_nil))) (fun _ _ => rfl))), ?_⟩
    refine ⟨_, rfl, _, rfl, _, rfl, o, xs.length, rfl, hx.len, p, c, n, _, rfl, G, hn, by omega, by omega, fun d H' d0 d1 s G' => ?_⟩
    obtain ⟨i, rfl⟩ : ∃ i : Nat, d = (i : Int) := ⟨d.toNat, by omega⟩
    have hi : i < xs.length := by omega
    exact SeqOf.ix (hx.keep (s.keeps G)) (List.getElem?_eq_getElem hi) (q i _ H' (List.getElem?_eq_getElem hi) s G')
end
end My
set_option Elab.async false
set_option linter.all false
set_option maxRecDepth 100000
set_option maxHeartbeats 4000000
/-! xs != [], t != (), == likewise, whatever the items are. -/
namespace My
open PySem PySem.Spec PyProof.Rows L2 SeqAt
section
variable {X : Cx}
/-- a list beside an empty list, a tuple beside an empty tuple -/
def rNil (K : PySem.W.Frag) (f : Bool → Bool) : R2 := fun x y H Q => ∃ a b xs, x = .ref a ∧ y = .ref b ∧ ((SqL K H a xs ∧ SqL K H b []) ∨ (SqT K H a xs ∧ SqT K H b [])) ∧ Q (.bl (f xs.isEmpty)) H
theorem vals_nil {its : List Value} (r : Vals [] its) : its = [] := by cases r; rfl
theorem vals_emp {xs : List V} {its : List Value} (r : Vals xs its) : (its.toArray.size == 0) = xs.isEmpty := by
  cases r <;> rfl
theorem op_neNil (hu : X.A.units + 64 < cLine) : OpR X (compareOp .NotEq) (rNil X.K not) := by
  intro pins s σ H x y v u Q I rx ry h
  obtain ⟨a, b, xs, rfl, rfl, h, q⟩ := h
  cases rx
  cases ry
  rcases h with ⟨ha, hb⟩ | ⟨ha, hb⟩
  · obtain ⟨its, rv, ⟨o, n, ho, hc, _, hd⟩, _⟩ := I.list ha
    obtain ⟨its2, rv2, ⟨o2, n2, ho2, hc2, _, hd2⟩, _⟩ := I.list hb
    cases vals_nil rv2
    have l1 : s.heap.IsList a its.toArray := ⟨o, ho, hc, n, hd⟩
    have l2 : s.heap.IsList b #[] := ⟨o2, ho2, hc2, n2, hd2⟩
    cases rv with
    | nil => exact RcNeAt.lists (e := fun _ => true) l1 l2 rfl (by omega) (fun j h1 => absurd h1 (Nat.not_lt_zero j)) _ _ _ _ ⟨.bl _, H, I, rfl, q⟩
    | cons r t => exact RcNeAt.lists_lengths l1 l2 (by simp) (by omega) _ _ _ _ ⟨.bl _, H, I, rfl, q⟩
  · obtain ⟨its, rv, ⟨o, ho, hc, n, hd⟩, _⟩ := I.tuple ha
    obtain ⟨its2, rv2, ⟨o2, ho2, hc2, n2, hd2⟩, _⟩ := I.tuple hb
    cases vals_nil rv2
    have l1 : s.heap.IsTuple a its.toArray := ⟨o, ho, hc, n, hd⟩
    have l2 : s.heap.IsTuple b #[] := ⟨o2, ho2, hc2, n2, hd2⟩
    refine RcNeAt.tuples (e := fun _ => true) l1 l2 (by omega) (fun j _ h2 => absurd h2 (Nat.not_lt_zero j)) _ _ _ _ ?_
    rw [show min its.toArray.size (#[] : Array Value).size = 0 from Nat.min_zero _]
    refine ⟨.bl (!xs.isEmpty), H, I, ?_, q⟩
    show Value.bool _ = Value.bool _
    rw [← vals_emp rv]
    simp
end
end My
set_option Elab.async false
set_option linter.all false
set_option maxRecDepth 100000
set_option maxHeartbeats 4000000
namespace My
open PySem PySem.Spec PyProof.Rows L2

theorem PenAt.apart {H : Hp} {p c a : Addr} {n : Nat} (G : PenAt H p c n) (h : H a = none) : c ≠ a := let ⟨⟨_, _, _, _, hc, _⟩⟩ := G; ne_of_none hc h
theorem PenAt.apart' {H : Hp} {p c a : Addr} {n : Nat} (G : PenAt H p c n) (h : H a = none) : p ≠ a := let ⟨⟨_, _, _, hp, _⟩⟩ := G; ne_of_none hp h
theorem PenAt.upd {H : Hp} {p c a : Addr} {n : Nat} {o : HO} (G : PenAt H p c n) (h : p ≠ a) (k : c ≠ a) : PenAt (upd H a o) p c n :=
  let ⟨⟨ns, t, r, hp, hc, e⟩⟩ := G; ⟨⟨ns, t, r, (upd_ne h).trans hp, (upd_ne k).trans hc, e⟩⟩
theorem SameP.free {H H' : Hp} {p c a : Addr} {n : Nat} (s : SameP p H H') (G : PenAt H' p c n) (h : H' a = none) : H a = none := by
  cases e : H a with
  | none => rfl
  | some o => rw [s a o (Ne.symm (G.apart' h)) e] at h; cases h
theorem perm_erase {α : Type} : ∀ (xs : List α) (i : Nat) (h : i < xs.length), (xs[i] :: xs.eraseIdx i).Perm xs
  | x :: r, 0, _ => .refl _
  | x :: r, i + 1, h => ((List.Perm.swap x (r[i]'(Nat.lt_of_succ_lt_succ h)) (r.eraseIdx i)).trans ((perm_erase r i (Nat.lt_of_succ_lt_succ h)).cons x))

section
variable {P : Program} {w : World} {K : PySem.W.Frag} {mg : Str → Option Value} {base : Heap}
/-- a new list of the same things in some order -/
def spShuf (K : PySem.W.Frag) : Sp := fun vs H Q _ => ∃ (p c a : Addr) (n : Nat) (xs : List V), vs = [.ref p, .ref a] ∧ PenAt H p c n ∧ n ≤ 900000000 ∧ SeqOf K H (.ref a) xs ∧ xs.length ≤ 100000 ∧
  ∀ (l : Addr) (ys : List V) (H' : Hp), ys.Perm xs → H l = none → H' l = some (.lst ys) → SameP p H H' → PenAt H' p c (n + xs.length) → Q (.ref l) H'
theorem ok_shuf {f fD : Addr} {fd fdD : FuncData} {k : Nat} (F : Fun K "_law_shuffled" "_law_shuffled" sShuf f fd) (ml : mg "len" = none) (mli : mg "list" = none) (GD : FnOk P w K mg base CX0 k fD fdD ["pen", "size"] spDraw) (gD : mg "_law_draw" = some (.ref fD)) (kD : PySem.W.keepIn K (.ref fD) = true)
    (bD : Binds K fdD ["pen", "size"] []) : FnOk P w K mg base CX0 (k + 1) f fd ["pen", "some"] (spShuf K) := by
  refine F.ok scShuf (fun vs H Q E h => ?_) (fun cdv A outer s H vs Q E hr h => ?_)
  · obtain ⟨p, c, a, n, xs, rfl, _⟩ := h
    rfl
  · obtain ⟨p, c, a, n, xs, rfl, G, hn, hx, h1, q⟩ := h
    refine ⟨_, pss_cons (ps_par (i := 2) (j := 3) (by rfl) scShuf.nd rfl rfl (by decide) rfl rfl (pa_cons (pe_callTy call_list_of (by rfl) mli (by decide +kernel) (pa_cons (pv 1) pa_nil)) (pa_cons (pe_lst pa_nil) pa_nil)) (by rfl))
      (pss_cons (ps_while PassesOwn.never (pt_cmpR (op_neNil hr.units) (pv 2) (pe_lst pa_nil) (nomark _))
        (pss_one (ps_expr (pe_bm PySem.F.plainAttrs_list PySem.F.slot_list_append PySem.F.type_list_append mt_append (pv 3) (pa_cons
          (pe_bm PySem.F.plainAttrs_list PySem.F.slot_list_pop PySem.F.type_list_pop mt_popAt (pv 2) (pa_cons (pe_call GD hr (by rfl) gD kD bD .nil pass0 (pa_cons (pv 0) (pa_cons (pe_callB call_len_seq (by rfl) ml PySem.boot_len (pa_cons (pv 2) pa_nil)) pa_nil))) pa_nil)) pa_nil)))))
      (pss_one (ps_ret (pv 3)))), ?_⟩
    -- left, found = list(some), []
    have hs : SqL K H a xs ∨ SqT K H a xs := by
      cases hx with
      | lst e => exact .inl e
      | tup e => exact .inr e
    refine ⟨_, rfl, a, xs, rfl, hs, fun l hl => ?_⟩
    refine ⟨by show 0 ≤ sizeLine; decide, fun g hg => ?_⟩
    have nlg : l ≠ g := fun z => by rw [z, upd_same] at hg; cases hg
    have g0 : H g = none := by
      rw [upd_ne (Ne.symm nlg)] at hg
      exact hg
    have s1 : Same H (upd (upd H l (.lst xs)) g (.lst [])) := (same_new hl).trans (same_new hg)
    refine ⟨_, _, rfl, ?_⟩
    -- while left != []
    refine ⟨fun m σ H2 => ∃ (left found : List V), σ = [some (.ref p), some (.ref a), some (.ref l), some (.ref g)] ∧ m = left.length ∧ SameP p H H2 ∧ H2 l = some (.lst left) ∧ H2 g = some (.lst found) ∧ (found ++ left).Perm xs ∧ PenAt H2 p c (n + found.length),
      ⟨_, xs, [], rfl, rfl, .of s1, by rw [upd_ne nlg, upd_same], upd_same, .refl _, G.same s1⟩, fun m σ H2 hW => ?_⟩
    obtain ⟨left, found, rfl, rfl, s2, el, eg, pm, G2⟩ := hW
    have hlen : found.length + left.length = xs.length := by
      have := pm.length_eq
      rwa [List.length_append] at this
    refine ⟨_, rfl, by show 0 ≤ sizeLine; decide, fun e he => ?_⟩
    have se : Same H2 (upd H2 e (.lst [])) := same_new he
    refine ⟨l, e, left, rfl, rfl, .inl ⟨.inl (.inl (se _ _ el)), .inl (.inl upd_same)⟩, _, rfl, ?_⟩
    generalize hH3 : upd H2 e (.lst []) = H3 at se
    have el3 := se _ _ el
    have eg3 := se _ _ eg
    have G3 := G2.same se
    cases left with
    | nil =>
      refine iteF ⟨_, rfl, ?_⟩
      rw [List.append_nil] at pm
      refine q g found H3 pm g0 eg3 (s2.trans (.of se)) (G3.mono ?_)
      rw [pm.length_eq]
      exact Nat.le_refl _
    | cons y0 yr =>
      refine iteT ⟨_, fun _ _ z => z, ?_⟩
      -- found.append(left.pop(draw))
      refine ⟨_, rfl, .inl ⟨rfl, _, .inl (.inl eg3)⟩, _, rfl, .inl ⟨rfl, _, .inl (.inl el3)⟩, _, rfl, _, rfl, l, _, rfl, .inl (.inl (.inl el3)), p, c, _, _, rfl, G3, by omega, by simp, by rw [List.length_cons] at *; omega, fun d H4 d0 d1 s4 G4 => ?_⟩
      obtain ⟨i, rfl⟩ : ∃ i : Nat, d = (i : Int) := ⟨d.toNat, by omega⟩
      have hi : i < (y0 :: yr).length := by omega
      have el4 := s4.lst G3 el3
      have eg4 := s4.lst G3 eg3
      refine ⟨l, _, _, i, (y0 :: yr)[i], rfl, rfl, el4, by omega, by omega, by rw [seqIndex_of (by omega) (by omega)]; rfl, List.getElem?_eq_getElem hi, ?_⟩
      refine ⟨g, found, _, rfl, rfl, by rw [upd_ne (Ne.symm nlg)]; exact eg4, Evl.sz_lt (by omega), ?_⟩
      have lp := sameP_ne G3 el3 fun _ z => nomatch z
      have gp := sameP_ne G3 eg3 fun _ z => nomatch z
      have cl : c ≠ l := G.apart hl
      have cg : c ≠ g := G.apart g0
      refine ⟨_, ?_, (y0 :: yr).eraseIdx i, found ++ [(y0 :: yr)[i]], rfl, rfl, ?_, ?_, upd_same, ?_, ?_⟩
      · rw [List.length_eraseIdx, if_pos hi]
        simp
      · intro b o nb e0
        rw [upd_ne (ne_of_none e0 g0), upd_ne (ne_of_none e0 hl)]
        exact (s2.trans (SameP.of se)).trans s4 b o nb e0
      · rw [upd_ne nlg, upd_same]
      · rw [List.append_assoc]
        exact (List.Perm.append_left found (perm_erase (y0 :: yr) i hi)).trans pm
      · exact ((G4.upd (Ne.symm lp) cl).upd (Ne.symm gp) cg).mono (by rw [List.length_append, List.length_singleton]; omega)
end
end My
set_option Elab.async false
set_option linter.all false
set_option maxRecDepth 100000
set_option maxHeartbeats 4000000
/-! Comprehensions without a test, over a name. -/
namespace My
open PySem PySem.Spec PyProof.Rows L2
section
variable {K : PySem.W.Frag} {te : TE} {vs : List Nat} {σ : L2.St} {H1 : Hp} {D : Addr} {Qd : Hp → Prop} {j : Nat}
def Grows (te : TE) (D : Addr) (Pv : Hp → Prop) (σ : L2.St) (H : Hp) : Prop := te σ H fun y H4 => ∃ acc, H4 D = some (.lst acc) ∧ acc.length < sizeLine ∧ Pv (upd H4 D (.lst (acc ++ [y])))
theorem yes_turn {te : TE} {σ0 σ2 : L2.St} {H : Hp} {vs : List Nat} {R : V → Hp → Prop} {N : Hp → Prop} (a : wipe σ2 vs = wipe σ0 vs) (b : te σ2 H R) : wipe σ2 vs = wipe σ0 vs ∧ tYes σ2 H fun b H3 => if b = true then te σ2 H3 R else N H3 :=
  ⟨a, (if_pos rfl : (if true = true then te σ2 H R else N H) = te σ2 H R).mpr b⟩
def lcN_range {lo : Int} {n : Nat} (Pv : Nat → Hp → Prop) (h0 : Pv 0 (upd H1 D (.lst [])))
    (hs : ∀ i H, i < n → Pv i H → wipe ((wipe σ vs).set j (some (.int (lo + i)))) vs = wipe σ vs ∧ Grows te D (Pv (i + 1)) ((wipe σ vs).set j (some (.int (lo + i)))) H) (hd : ∀ H, Pv n H → Qd H) :=
  lc_range (lo := lo) (n := n) (g := gName j) (tt := tYes) (te := te) (vs := vs) (σ := σ) (H1 := H1) (D := D) (Qd := Qd) Pv h0 (fun i H hi p => yes_turn (hs i H hi p).1 (hs i H hi p).2) hd
def lcN_list {a : Addr} {xs : List V} (Pv : Nat → Hp → Prop) (h0 : Pv 0 (upd H1 D (.lst []))) (hl : ∀ i H, i ≤ xs.length → Pv i H → SqL K H a xs)
    (hs : ∀ i x H, xs[i]? = some x → Pv i H → wipe ((wipe σ vs).set j (some x)) vs = wipe σ vs ∧ Grows te D (Pv (i + 1)) ((wipe σ vs).set j (some x)) H) (hd : ∀ H, Pv xs.length H → Qd H) :=
  lc_list (K := K) (a := a) (xs := xs) (g := gName j) (tt := tYes) (te := te) (vs := vs) (σ := σ) (H1 := H1) (D := D) (Qd := Qd) Pv h0 hl (fun i x H hi p => yes_turn (hs i x H hi p).1 (hs i x H hi p).2) hd
def lcN_tup {a : Addr} {xs : List V} (Pv : Nat → Hp → Prop) (h0 : Pv 0 (upd H1 D (.lst []))) (hl : ∀ i H, i ≤ xs.length → Pv i H → SqT K H a xs)
    (hs : ∀ i x H, xs[i]? = some x → Pv i H → wipe ((wipe σ vs).set j (some x)) vs = wipe σ vs ∧ Grows te D (Pv (i + 1)) ((wipe σ vs).set j (some x)) H) (hd : ∀ H, Pv xs.length H → Qd H) :=
  lc_tup (K := K) (a := a) (xs := xs) (g := gName j) (tt := tYes) (te := te) (vs := vs) (σ := σ) (H1 := H1) (D := D) (Qd := Qd) Pv h0 hl (fun i x H hi p => yes_turn (hs i x H hi p).1 (hs i x H hi p).2) hd
end
end My
set_option Elab.async false
set_option linter.all false
set_option maxRecDepth 100000
set_option maxHeartbeats 4000000
namespace My
open PySem PySem.Spec PyProof.Rows L2

/-! ### a short text some few times -/
def rMulS : R2 := fun x y H Q => ∃ (z : Str) (i : Int), x = .str z ∧ y = .int i ∧ z.length ≤ 1000 ∧ i ≤ 1000 ∧ -1000 ≤ i ∧ Q (.str (Txt.mul z i)) H
theorem mulOk_small {x : Str} {n : Int} (h : x.length ≤ 1000) (h1 : n ≤ 1000) (h2 : -1000 ≤ n) : MulOk x n := by
  refine ⟨?_, fun a _ => ?_, fun a _ => ?_⟩
  · have e1 : decide (n < -(2 ^ 63 : Int)) = false := decide_eq_false (by omega)
    have e2 : decide (n ≥ (2 : Int) ^ 63) = false := decide_eq_false (by omega)
    rw [e1, e2]
    rfl
  · have h3 : (1000 : Int) ≤ (2 ^ 63 - 1) / n := Int.le_ediv_of_mul_le (by omega) (by omega)
    omega
  · have h3 : x.length * n.toNat ≤ 1000 * 1000 := Nat.mul_le_mul h (by omega)
    exact decide_eq_false (Nat.not_lt.mpr (Nat.le_trans h3 (by decide)))
theorem op_mulS {X : Cx} : OpR X (binaryOp .Mult) rMulS := by
  intro pins s σ H x y v u Q I rx ry h
  obtain ⟨z, i, rfl, rfl, h1, h2, h3, q⟩ := h
  obtain ⟨t, rfl⟩ := rx
  obtain ⟨t', rfl⟩ := ry
  exact SB.mul (mulOk_small h1 h2 h3) fun t2 k => ⟨.str _, H, I.tok _, ⟨_, rfl⟩, q⟩

/-! ### names -/
def NameOk (x : Str) : Prop := 1 ≤ x.length ∧ x.length ≤ 8 ∧ ∀ c ∈ x.cps.toList, 97 ≤ c ∧ c ≤ 122
def abc : Str := "abcdefghijklmnopqrstuvwxyz"
theorem abc_codes : abc.cps.toList = (List.range 26).map (97 + ·) := by decide +kernel
theorem abc_len : abc.length = 26 := by decide +kernel
theorem abc_at {j : Nat} (h : j < 26) : abc.cps.toList[j]? = some (97 + j) := by
  rw [abc_codes, List.getElem?_map, List.getElem?_range h]
  rfl
/-- the name at the k-th place -/
def wName (front : Str) (first step k : Nat) : Str := front ++ ⟨#[97 + (first + step * k) % 26]⟩ ++ (if 25 < k then ⟨#[97 + k % 26]⟩ else Str.empty)
theorem wName_codes (front : Str) (first step k : Nat) : (wName front first step k).cps.toList = front.cps.toList ++ [97 + (first + step * k) % 26] ++ (if 25 < k then [97 + k % 26] else []) := by
  unfold wName
  rw [Str.cps_append, Array.toList_append, Str.cps_append, Array.toList_append]
  by_cases h : 25 < k
  · rw [if_pos h, if_pos h]
  · rw [if_neg h, if_neg h]
    rfl
theorem str_len (x : Str) : x.length = x.cps.toList.length := by
  rw [Array.length_toList]
  rfl
theorem wName_ok {front : Str} (hf : front.length ≤ 6) (hc : ∀ c ∈ front.cps.toList, 97 ≤ c ∧ c ≤ 122) (first step k : Nat) : NameOk (wName front first step k) := by
  rw [str_len] at hf
  unfold NameOk
  rw [str_len, wName_codes, List.length_append, List.length_append, List.length_singleton]
  refine ⟨by omega, ?_, fun c h => ?_⟩
  · by_cases h : 25 < k
    · rw [if_pos h, List.length_singleton]
      omega
    · rw [if_neg h, List.length_nil]
      omega
  · rcases List.mem_append.mp h with h | h
    · rcases List.mem_append.mp h with h | h
      · exact hc c h
      · rw [List.mem_singleton.mp h]
        omega
    · by_cases g : 25 < k
      · rw [if_pos g] at h
        rw [List.mem_singleton.mp h]
        omega
      · rw [if_neg g] at h
        cases h
theorem step_inj {first step i j : Nat} (hs : step = 1 ∨ step = 3 ∨ step = 5 ∨ step = 7 ∨ step = 9 ∨ step = 11) (hi : i < 26) (hj : j < 26) (h : (first + step * i) % 26 = (first + step * j) % 26) : i = j := by
  rcases hs with rfl | rfl | rfl | rfl | rfl | rfl <;> omega
theorem wName_inj {front : Str} {first step i j : Nat} (hs : step = 1 ∨ step = 3 ∨ step = 5 ∨ step = 7 ∨ step = 9 ∨ step = 11) (hi : i < 52) (hj : j < 52) (h : wName front first step i = wName front first step j) : i = j := by
  have e : (wName front first step i).cps.toList = (wName front first step j).cps.toList := by rw [h]
  rw [wName_codes, wName_codes, List.append_assoc, List.append_assoc] at e
  have e := List.append_cancel_left e
  by_cases a : 25 < i
  · by_cases b : 25 < j
    · rw [if_pos a, if_pos b] at e
      simp only [List.singleton_append, List.cons.injEq, and_true] at e
      omega
    · rw [if_pos a, if_neg b] at e
      simp at e
  · by_cases b : 25 < j
    · rw [if_neg a, if_pos b] at e
      simp at e
    · rw [if_neg a, if_neg b] at e
      simp only [List.append_nil, List.cons.injEq, and_true] at e
      exact step_inj (first := first) hs (by omega) (by omega) (by omega)
def wNames (front : Str) (first step many : Nat) : List Str := (List.range many).map (wName front first step)
theorem nodup_map_on {α β : Type} {f : α → β} : ∀ {xs : List α}, xs.Nodup → (∀ a ∈ xs, ∀ b ∈ xs, f a = f b → a = b) → (xs.map f).Nodup
  | [], _, _ => List.nodup_nil
  | x :: r, h, g => by
    rw [List.nodup_cons] at h
    rw [List.map_cons, List.nodup_cons]
    refine ⟨fun z => ?_, nodup_map_on h.2 fun a ha b hb => g a (List.mem_cons_of_mem _ ha) b (List.mem_cons_of_mem _ hb)⟩
    obtain ⟨y, hy, e⟩ := List.mem_map.mp z
    have := g y (List.mem_cons_of_mem _ hy) x List.mem_cons_self e
    exact h.1 (this ▸ hy)
theorem wNames_nodup {front : Str} {first step many : Nat} (hs : step = 1 ∨ step = 3 ∨ step = 5 ∨ step = 7 ∨ step = 9 ∨ step = 11) (hm : many ≤ 52) : (wNames front first step many).Nodup :=
  nodup_map_on List.nodup_range fun a ha b hb e => wName_inj hs (Nat.lt_of_lt_of_le (List.mem_range.mp ha) hm) (Nat.lt_of_lt_of_le (List.mem_range.mp hb) hm) e
/-- many names, all different -/
structure Names (xs : List Str) : Prop where
  ok : ∀ x ∈ xs, NameOk x
  nd : xs.Nodup
theorem Names.perm {xs ys : List Str} (h : Names xs) (p : ys.Perm xs) : Names ys := ⟨fun x hx => h.ok x (p.subset hx), p.nodup_iff.mpr h.nd⟩
def unS : V → Str
  | .str z => z
  | _ => Str.empty
theorem perm_strs {ys : List V} {xs : List Str} (p : ys.Perm (xs.map V.str)) : ∃ zs : List Str, ys = zs.map V.str ∧ zs.Perm xs := by
  refine ⟨ys.map unS, ?_, ?_⟩
  · rw [List.map_map]
    have : ∀ v ∈ ys, (V.str ∘ unS) v = v := fun v hv => by
      obtain ⟨x, _, rfl⟩ := List.mem_map.mp (p.subset hv)
      rfl
    rw [List.map_congr_left this, List.map_id']
  · have := p.map unS
    rwa [List.map_map, show (unS ∘ V.str) = id from rfl, List.map_id] at this
def sign (cd : Nat) : Str := ⟨#[cd]⟩
theorem join_signs : ∀ cs : List Nat, (Str.join Str.empty (cs.map sign)).cps.toList = cs
  | [] => rfl
  | [_] => rfl
  | x :: y :: r => by
    have ih := join_signs (y :: r)
    show (sign x ++ Str.empty ++ Str.join Str.empty ((y :: r).map sign)).cps.toList = x :: y :: r
    rw [Str.cps_append, Array.toList_append, ih, Str.cps_append, Array.toList_append]
    rfl
theorem sum_signs : ∀ cs : List Nat, ((cs.map sign).map (·.length)).sum = cs.length
  | [] => rfl
  | x :: r => by
    rw [List.map_cons, List.map_cons, List.sum_cons, sum_signs r, List.length_cons]
    show 1 + r.length = r.length + 1
    omega
theorem signs_V (cs : List Nat) : (cs.map sign).map V.str = cs.map fun cd => V.str (sign cd) := by rw [List.map_map]; rfl
theorem abc_item {i : Nat} {v : V} (h : (abc.cps.toList.map fun cd => V.str ⟨#[cd]⟩)[i]? = some v) : ∃ cd, v = .str (sign cd) ∧ 97 ≤ cd ∧ cd ≤ 122 := by
  rw [abc_codes, List.map_map, List.getElem?_map] at h
  obtain ⟨j, h1, rfl⟩ := Option.map_eq_some_iff.mp h
  have h2 := List.mem_range.mp (List.mem_of_getElem? h1)
  exact ⟨97 + j, rfl, by omega, by omega⟩
theorem steps_item {i : Nat} {v : V} (h : ([.int 1, .int 3, .int 5, .int 7, .int 9, .int 11] : List V)[i]? = some v) : ∃ st : Nat, v = .int (st : Int) ∧ (st = 1 ∨ st = 3 ∨ st = 5 ∨ st = 7 ∨ st = 9 ∨ st = 11) := by
  have := List.mem_of_getElem? h
  simp only [List.mem_cons, List.not_mem_nil, or_false] at this
  rcases this with rfl | rfl | rfl | rfl | rfl | rfl
  · exact ⟨1, rfl, by omega⟩
  · exact ⟨3, rfl, by omega⟩
  · exact ⟨5, rfl, by omega⟩
  · exact ⟨7, rfl, by omega⟩
  · exact ⟨9, rfl, by omega⟩
  · exact ⟨11, rfl, by omega⟩
theorem place_nat (f st k : Nat) : ((f : Int) + (st : Int) * ((0 : Int) + (k : Int))) % 26 = (((f + st * k) % 26 : Nat) : Int) := by
  rw [Int.zero_add, ← Int.natCast_mul]
  omega
theorem mul_sign (cd : Nat) (b : Bool) : Txt.mul (sign cd) (if b then 1 else 0) = if b = true then sign cd else Str.empty := by
  cases b <;> rfl

section
variable {P : Program} {w : World} {K : PySem.W.Frag} {mg : Str → Option Value} {base : Heap}
/-- what the draw, the pick and the shuffling have promised -/
structure Draws (P : Program) (w : World) (K : PySem.W.Frag) (mg : Str → Option Value) (base : Heap) (fD fP fS : Addr) (dD dP dS : FuncData) : Prop where
  oD : FnOk P w K mg base CX0 1 fD dD ["pen", "size"] spDraw
  gD : mg "_law_draw" = some (.ref fD)
  kD : PySem.W.keepIn K (.ref fD) = true
  bD : Binds K dD ["pen", "size"] []
  oP : FnOk P w K mg base CX0 2 fP dP ["pen", "options"] (spPick K)
  gP : mg "_law_pick" = some (.ref fP)
  kP : PySem.W.keepIn K (.ref fP) = true
  bP : Binds K dP ["pen", "options"] []
  oS : FnOk P w K mg base CX0 2 fS dS ["pen", "some"] (spShuf K)
  gS : mg "_law_shuffled" = some (.ref fS)
  kS : PySem.W.keepIn K (.ref fS) = true
  bS : Binds K dS ["pen", "some"] []
/-- a new list of so many different names -/
def spWag (K : PySem.W.Frag) : Sp := fun vs H Q _ => ∃ (p c : Addr) (n many : Nat), vs = [.ref p, .int (many : Int)] ∧ PenAt H p c n ∧ n ≤ 800000000 ∧ many ≤ 52 ∧
  ∀ (l : Addr) (xs : List Str) (H' : Hp), Names xs → xs.length = many → H l = none → H' l = some (.lst (xs.map V.str)) → SameP p H H' → PenAt H' p c (n + 61) → Q (.ref l) H'
/-- .. all of one length, where they are few -/
def spWagL (K : PySem.W.Frag) : Sp := fun vs H Q _ => ∃ (p c : Addr) (n many : Nat), vs = [.ref p, .int (many : Int)] ∧ PenAt H p c n ∧ n ≤ 800000000 ∧ many ≤ 52 ∧
  ∀ (l : Addr) (xs : List Str) (H' : Hp), Names xs → xs.length = many → H l = none → H' l = some (.lst (xs.map V.str)) → SameP p H H' → PenAt H' p c (n + 61) → (many ≤ 26 → ∀ x ∈ xs, ∀ y ∈ xs, x.length = y.length) → Q (.ref l) H'
theorem ok_wagL {f fD fP fS : Addr} {fd dD dP dS : FuncData} (F : Fun K "_law_wagons" "_law_wagons" sWag f fd) (T : Draws P w K mg base fD fP fS dD dP dS) (mr : mg "range" = none) (mi : mg "int" = none) :
    FnOk P w K mg base CX0 3 f fd ["pen", "many"] (spWagL K) := by
  refine F.ok scWag (fun vs H Q E h => ?_) (fun cdv A outer s H vs Q E hr h => ?_)
  · obtain ⟨p, c, n, many, rfl, _⟩ := h
    rfl
  · obtain ⟨p, c, n, many, rfl, G, hn, hm, q⟩ := h
    have hr1 := hr.mono (show 1 ≤ 2 by decide)
    refine ⟨_, pss_cons (ps_set (i := 2) scWag.nd rfl (.inr rfl) pe_str)
      (pss_cons (ps_set (i := 4) scWag.nd rfl (.inl rfl) (pe_join pe_str (pe_lc (own := [("k", 3)]) (g := gName 3) (tt := tYes) rfl scWag.nd
          (pi_range1 (by rfl) mr (pa_cons (pe_call T.oD hr1 (by rfl) T.gD T.kD T.bD .nil pass0 (pa_cons (pv 0) (pa_cons pe_int pa_nil))) pa_nil))
          (blkOk_by (own := [("k", 3)]) (N := ["pen", "many", "letters", "k", "front", "first", "step", "found", "place"]) (sc := defScope sWag) (by decide +kernel))
          (fun _ _ _ _ _ => pg_name (i := 3) scWag.nd rfl (Or.inl rfl)) (fun _ _ _ _ _ => pts_nil) (fun _ _ _ _ _ => pe_call T.oP hr (by rfl) T.gP T.kP T.bP .nil pass0 (pa_cons (pv 0) (pa_cons (pv 2) pa_nil))))))
      (pss_cons (ps_par (i := 5) (j := 6) (by rfl) scWag.nd rfl rfl (by decide) rfl rfl (pa_cons (pe_call T.oD hr1 (by rfl) T.gD T.kD T.bD .nil pass0 (pa_cons (pv 0) (pa_cons pe_int pa_nil)))
        (pa_cons (pe_call T.oP hr (by rfl) T.gP T.kP T.bP .nil pass0 (pa_cons (pv 0) (pa_cons (pe_lst (pa_cons pe_int (pa_cons pe_int (pa_cons pe_int (pa_cons pe_int (pa_cons pe_int (pa_cons pe_int pa_nil))))))) pa_nil))) pa_nil)) (by rfl))
      (pss_cons (ps_set (i := 7) scWag.nd rfl (.inl rfl) (pe_lst pa_nil))
      (pss_cons (ps_for PassesOwn.never rfl (pi_range1 (by rfl) mr (pa_cons (pv 1) pa_nil)) (pg_name (i := 3) scWag.nd rfl (.inl rfl))
        (pss_cons (ps_set (i := 8) scWag.nd rfl (.inl rfl) (pe_op op_mod (pe_op op_add (pv 5) (pe_op op_mul (pv 6) (pv 3))) pe_int))
        (pss_one (ps_expr (pe_bm PySem.F.plainAttrs_list PySem.F.slot_list_append PySem.F.type_list_append mt_append (pv 7) (pa_cons
          (pe_op op_add_str (pe_op op_add_str (pv 4) (pe_ix ix_str (pv 2) (pv 8) (fun _ _ => rfl))) (pe_op op_mulS (pe_ix ix_str (pv 2) (pe_op op_mod (pv 3) pe_int) (fun _ _ => rfl))
            (pe_callTy call_int1 (by rfl) mi (by decide +kernel) (pa_cons (pe_cmpR op_gt (pv 3) pe_int (nomark _)) pa_nil)))) pa_nil))))))
      (pss_one (ps_ret (pe_call T.oS hr (by rfl) T.gS T.kS T.bS .nil pass0 (pa_cons (pv 0) (pa_cons (pv 7) pa_nil))))))))), ?_⟩
    -- front
    refine ⟨⟨_, rfl⟩, _, rfl, p, c, n, 7, rfl, G, by omega, by decide, by decide, fun d H1 d0 d1 s1 G1 => ⟨d, rfl, by omega, by omega, fun Dl hD => ?_⟩⟩
    have hD0 : H Dl = none := s1.free G1 hD
    refine lcN_range (lo := 0) (n := d.toNat) (fun i H' => ∃ cs : List Nat, H' Dl = some (.lst (cs.map fun cd => V.str (sign cd))) ∧ cs.length = i ∧ (∀ cd ∈ cs, 97 ≤ cd ∧ cd ≤ 122) ∧ SameP p H H' ∧ PenAt H' p c (n + 1 + i))
      ⟨[], upd_same, rfl, fun _ z => (nomatch z), s1.trans (SameP.new hD), G1.same (same_new hD)⟩ (fun i H2 hi hp => ?_) (fun H2 hp => ?_)
    · obtain ⟨cs, eD, hl, hc, s2, G2⟩ := hp
      refine ⟨rfl, ?_⟩
      refine ⟨_, rfl, _, rfl, p, c, _, .str abc, _, rfl, G2, by omega, .str (by rw [abc_len]; decide), ?_, ?_, fun j v H3 hv s3 G3 => ?_⟩
      · rw [List.length_map, abc_codes, List.length_map, List.length_range]
        decide
      · rw [List.length_map, abc_codes, List.length_map, List.length_range]
        decide
      · obtain ⟨cd, rfl, c0, c1⟩ := abc_item hv
        have eD3 := s3.lst G2 eD
        refine ⟨_, eD3, Evl.sz_lt (by rw [List.length_map]; omega), cs ++ [cd], ?_, by rw [List.length_append, hl]; rfl, fun z hz => ?_, fun b o nb e => ?_, ?_⟩
        · rw [upd_same, List.map_append]
          rfl
        · rcases List.mem_append.mp hz with hz | hz
          · exact hc z hz
          · rw [List.mem_singleton.mp hz]
            exact ⟨c0, c1⟩
        · rw [upd_ne (ne_of_none e hD0)]
          exact (s2.trans s3) b o nb e
        · exact (G3.upd (G1.apart' hD) (G1.apart hD)).mono (by omega)
    · obtain ⟨cs, eD, hl, hc, s2, G2⟩ := hp
      have hlen : cs.length ≤ 6 := by omega
      refine ⟨Str.empty, Dl, cs.map sign, rfl, rfl, .inl (by rw [signs_V]; exact .inl (.inl eD)), ?_, ?_⟩
      · rw [sum_signs, List.length_map]
        show cs.length + cs.length * 0 ≤ 16777216
        omega
      generalize hfr : Txt.join Str.empty (cs.map sign) = front
      have fc : front.cps.toList = cs := by rw [← hfr, TL.join_eq, join_signs]
      have f6 : front.length ≤ 6 := by rw [str_len, fc]; exact hlen
      have fok : ∀ cd ∈ front.cps.toList, 97 ≤ cd ∧ cd ≤ 122 := by rw [fc]; exact hc
      -- first, step
      refine ⟨_, rfl, p, c, _, 26, rfl, G2, by omega, by decide, by decide, fun f1 H3 f0 f26 s3 G3 => ?_⟩
      refine ⟨_, rfl, by show 6 ≤ sizeLine; decide, fun o1 ho1 => ?_⟩
      have so := same_new (o := HO.lst [.int 1, .int 3, .int 5, .int 7, .int 9, .int 11]) ho1
      refine ⟨p, c, _, .ref o1, [.int 1, .int 3, .int 5, .int 7, .int 9, .int 11], rfl, G3.same so, by omega, .lst (.inl (.inl upd_same)), by decide, by decide, fun j v H4 hv s4 G4 => ?_⟩
      obtain ⟨st, rfl, hst⟩ := steps_item hv
      obtain ⟨f2, rfl⟩ : ∃ f2 : Nat, f1 = (f2 : Int) := ⟨f1.toNat, by omega⟩
      refine ⟨_, _, rfl, ?_⟩
      -- found
      refine ⟨by show 0 ≤ sizeLine; decide, fun g hg => ?_⟩
      have s5 : SameP p H H4 := ((s2.trans s3).trans (SameP.of so)).trans s4
      have hg0 : H g = none := s5.free G4 hg
      refine ⟨_, rfl, (many : Int), rfl, by omega, by omega, ?_⟩
      refine for_range (lo := 0) (n := (many : Int).toNat) (fun i σ H' => ∃ y3 y8, σ = [some (.ref p), some (.int (many : Int)), some (.str abc), y3, some (.str front), some (.int (f2 : Int)), some (.int (st : Int)), some (.ref g), y8] ∧
        H' g = some (.lst ((wNames front f2 st i).map V.str)) ∧ SameP p H H' ∧ PenAt H' p c (n + 9)) ⟨_, _, rfl, upd_same, s5.trans (SameP.new hg), (G4.same (same_new hg)).mono (by omega)⟩ (fun i σ H5 hi hp => ?_) (fun σ H5 hp => ?_)
      · obtain ⟨y3, y8, rfl, eg, s6, G6⟩ := hp
        have hib : i < 52 := by omega
        refine ⟨_, rfl, _, rfl, _, rfl, _, _, rfl, rfl, cmul_l (by omega) (by omega), _, _, rfl, rfl, _, _, rfl, rfl, (by show (0 : Int) < 26; decide), ?_⟩
        refine ⟨_, rfl, .inl ⟨rfl, _, .inl (.inl eg)⟩, _, rfl, _, rfl, _, rfl, abc, _, 97 + (f2 + st * i) % 26, rfl, rfl, (by rw [abc_len]; decide), ?_, _, _, rfl, rfl, ?_, ?_⟩
        · rw [place_nat]
          exact atI_nat (abc_at (Nat.mod_lt _ (by decide)))
        · show front.length + 1 ≤ sizeLine
          exact Evl.sz_of (by omega)
        refine ⟨_, rfl, _, rfl, _, _, rfl, rfl, (by show (0 : Int) < 26; decide), abc, _, 97 + i % 26, rfl, rfl, (by rw [abc_len]; decide), ?_, _, rfl, _, _, rfl, rfl, .inr ⟨_, rfl, ?_⟩⟩
        · rw [show ((0 : Int) + (i : Int)) % 26 = ((i % 26 : Nat) : Int) by omega]
          exact atI_nat (abc_at (Nat.mod_lt _ (by decide)))
        refine ⟨sign (97 + i % 26), _, rfl, rfl, (by show 1 ≤ 1000; decide), (by split <;> decide), (by split <;> decide), _, _, rfl, rfl, ?_, ?_⟩
        · rw [mul_sign, Str.length_append]
          have h1 : (if decide ((25 : Int) < 0 + (i : Int)) = true then sign (97 + i % 26) else Str.empty).length ≤ 1 := by
            split
            · exact Nat.le_refl 1
            · exact Nat.zero_le 1
          show front.length + 1 + _ ≤ sizeLine
          exact Evl.sz_of (by omega)
        · refine ⟨g, _, _, rfl, rfl, eg, Evl.sz_lt (by rw [List.length_map, wNames, List.length_map, List.length_range]; omega), some (.int ((0 : Int) + (i : Int))), _, rfl, ?_, ?_, G6.upd ?_ ?_⟩
          · rw [upd_same, mul_sign]
            congr 2
            rw [wNames, wNames, List.range_succ, List.map_append, List.map_append]
            congr 1
            show [V.str _] = [V.str _]
            congr 2
            unfold wName sign
            congr 1
            by_cases z : 25 < i
            · rw [if_pos (decide_eq_true (by omega)), if_pos z]
            · rw [if_neg (by rw [decide_eq_false (by omega)]; decide), if_neg z]
          · intro b o nb e
            rw [upd_ne (ne_of_none e hg0)]
            exact s6 b o nb e
          · exact G.apart' hg0
          · exact G.apart hg0
      · obtain ⟨y3, y8, rfl, eg, s6, G6⟩ := hp
        rw [show (many : Int).toNat = many from rfl] at eg
        have nm : Names (wNames front f2 st many) := ⟨fun x hx => by
          obtain ⟨k, _, rfl⟩ := List.mem_map.mp hx
          exact wName_ok f6 fok f2 st k, wNames_nodup hst hm⟩
        have ln : (wNames front f2 st many).length = many := by rw [wNames, List.length_map, List.length_range]
        refine ⟨_, rfl, _, rfl, p, c, g, _, _, rfl, G6, by omega, .lst (.inl (.inl eg)), by rw [List.length_map, ln]; omega, fun l ys H6 pm hl0 el s7 G7 => ?_⟩
        · obtain ⟨zs, rfl, pz⟩ := perm_strs pm
          rw [List.length_map, ln] at G7
          have one : many ≤ 26 → ∀ x ∈ wNames front f2 st many, x.length = front.length + 1 := fun hm26 x hx => by
            obtain ⟨k, hk, rfl⟩ := List.mem_map.mp hx
            have := List.mem_range.mp hk
            rw [str_len, wName_codes, if_neg (by omega), List.append_nil, List.length_append, ← str_len]
            rfl
          refine q l zs H6 (nm.perm pz) (by rw [pz.length_eq, ln]) (s6.free G6 hl0) el (s6.trans s7) (G7.mono (by omega)) fun hm26 x hx y hy => ?_
          rw [one hm26 x (pz.subset hx), one hm26 y (pz.subset hy)]
theorem ok_wag {f fD fP fS : Addr} {fd dD dP dS : FuncData} (F : Fun K "_law_wagons" "_law_wagons" sWag f fd) (T : Draws P w K mg base fD fP fS dD dP dS) (mr : mg "range" = none) (mi : mg "int" = none) :
    FnOk P w K mg base CX0 3 f fd ["pen", "many"] (spWag K) :=
  (ok_wagL F T mr mi).imp fun vs H Q E ⟨p, c, n, many, e, G, h1, h2, q⟩ => ⟨p, c, n, many, e, G, h1, h2, fun l xs H' a1 a2 a3 a4 a5 a6 _ => q l xs H' a1 a2 a3 a4 a5 a6⟩
end
end My
set_option Elab.async false
set_option linter.all false
set_option maxRecDepth 100000
set_option maxHeartbeats 4000000
namespace My
open PySem PySem.Spec PyProof.Rows L2

/-! ### data that never changes: None, bools, ints, texts, tuples of such -/
mutual
inductive Dt (K : PySem.W.Frag) (H : Hp) : V → PyData → Prop
  | non : Dt K H .non .none
  | bl (b : Bool) : Dt K H (.bl b) (.bool b)
  | int (i : Int) : Dt K H (.int i) (.int i)
  | str (x : Str) : Dt K H (.str x) (.str x)
  | tup {a : Addr} {xs : List V} {ds : List PyData} : SqT K H a xs → DtAll K H xs ds → Dt K H (.ref a) (.tuple ds)
inductive DtAll (K : PySem.W.Frag) (H : Hp) : List V → List PyData → Prop
  | nil : DtAll K H [] []
  | cons {v : V} {vs : List V} {d : PyData} {ds : List PyData} : Dt K H v d → DtAll K H vs ds → DtAll K H (v :: vs) (d :: ds)
end
/-- tuples that were read are read so again -/
def KeepsT (K : PySem.W.Frag) (H H' : Hp) : Prop := ∀ a xs, SqT K H a xs → SqT K H' a xs
section
variable {K : PySem.W.Frag} {H H' H2 : Hp}
mutual
theorem dt_keep (s : KeepsT K H H') : ∀ {d : PyData} {v : V}, Dt K H v d → Dt K H' v d
  | .none, _, h => by cases h; exact .non
  | .bool _, _, h => by cases h; exact .bl _
  | .int _, _, h => by cases h; exact .int _
  | .str _, _, h => by cases h; exact .str _
  | .tuple ds, _, h => by
    cases h with
    | tup a b => exact .tup (s _ _ a) (dt_keepAll s b)
  | .list _, _, h => by cases h
  | .dict _, _, h => by cases h
theorem dt_keepAll (s : KeepsT K H H') : ∀ {ds : List PyData} {vs : List V}, DtAll K H vs ds → DtAll K H' vs ds
  | [], _, h => by cases h; exact .nil
  | d :: ds, _, h => by
    cases h with
    | cons a b => exact .cons (dt_keep s a) (dt_keepAll s b)
end
mutual
theorem dt_dp : ∀ {d : PyData} {v : V}, Dt K H v d → Dp K H v d
  | .none, _, h => by cases h; exact .non
  | .bool _, _, h => by cases h; exact .bl _
  | .int _, _, h => by cases h; exact .int _
  | .str _, _, h => by cases h; exact .str _
  | .tuple ds, _, h => by
    cases h with
    | tup a b => exact .tup a (dt_dpAll b)
  | .list _, _, h => by cases h
  | .dict _, _, h => by cases h
theorem dt_dpAll : ∀ {ds : List PyData} {vs : List V}, DtAll K H vs ds → DpAll K H vs ds
  | [], _, h => by cases h; exact .nil
  | d :: ds, _, h => by
    cases h with
    | cons a b => exact .cons (dt_dp a) (dt_dpAll b)
end
theorem KeepsT.refl : KeepsT K H H := fun _ _ h => h
theorem KeepsT.trans (a : KeepsT K H H') (b : KeepsT K H' H2) : KeepsT K H H2 := fun _ _ h => b _ _ (a _ _ h)
theorem _root_.L2.Same.keepsT (s : Same H H') : KeepsT K H H' := s.keeps.t
theorem SameP.keepsT {p c : Addr} {n : Nat} (s : SameP p H H') (G : PenAt H p c n) : KeepsT K H H' := (s.keeps G).t
/-- a change at a place where no tuple stands -/
theorem KeepsT.at {a : Addr} {o : HO} (h : ∀ xs, H a ≠ some (.tup xs)) (h' : ∀ ob u, H a ≠ some (.frz ob u)) : KeepsT K H (upd H a o) := fun b xs e => by
  rcases e with (e | ⟨ob, e⟩) | e
  · exact .inl (.inl ((upd_ne (fun z : b = a => h xs (z ▸ e))).trans e))
  · exact .inl (.inr ⟨ob, (upd_ne (fun z : b = a => h' _ _ (z ▸ e))).trans e⟩)
  · exact .inr e
theorem KeepsT.lst {a : Addr} {xs : List V} {o : HO} (h : H a = some (.lst xs)) : KeepsT K H (upd H a o) := .at (fun _ z => by rw [h] at z; cases z) (fun _ _ z => by rw [h] at z; cases z)
theorem KeepsT.new {a : Addr} {o : HO} (h : H a = none) : KeepsT K H (upd H a o) := (same_new h).keepsT
theorem DtAll.append : ∀ {xs ys : List V} {ds es : List PyData}, DtAll K H xs ds → DtAll K H ys es → DtAll K H (xs ++ ys) (ds ++ es)
  | _, _, _, _, .nil, h => h
  | _, _, _, _, .cons a b, h => .cons a (b.append h)
theorem DtAll.length : ∀ {xs : List V} {ds : List PyData}, DtAll K H xs ds → xs.length = ds.length
  | _, _, .nil => rfl
  | _, _, .cons _ b => congrArg (· + 1) b.length
theorem DtAll.at : ∀ {xs : List V} {ds : List PyData} {i : Nat} {v : V}, DtAll K H xs ds → xs[i]? = some v → ∃ d, ds[i]? = some d ∧ Dt K H v d
  | _, _, 0, _, .cons a _, h => by
    cases h
    exact ⟨_, rfl, a⟩
  | _, _, i + 1, _, .cons _ b, h => b.at (i := i) h
theorem DtAll.two {x y : V} {d e : PyData} (a : Dt K H x d) (b : Dt K H y e) : DtAll K H [x, y] [d, e] := .cons a (.cons b .nil)
end

/-! ### rows -/
def dwD (r : Str × Int) : PyData := .tuple [.str r.1, .int r.2]
def rowD (r : List (Str × Int)) : PyData := .tuple (r.map dwD)
def Dirs (r : List (Str × Int)) : Prop := ∀ x ∈ r, x.2 = 1 ∨ x.2 = -1

end My
set_option Elab.async false
set_option linter.all false
set_option maxRecDepth 100000
set_option maxHeartbeats 4000000
/-! Values of any kind: None, bools, ints, texts, tuples, lists, dicts (keys ints and texts), nested; none of them is the pen at p. -/
namespace My
open PySem PySem.Spec PyProof.Rows L2

def keyD : Key → PyData
  | .inl i => .int i
  | .inr x => .str x
mutual
inductive Da (K : PySem.W.Frag) (p : Addr) (H : Hp) : V → PyData → Prop
  | non : Da K p H .non .none
  | bl (b : Bool) : Da K p H (.bl b) (.bool b)
  | int (i : Int) : Da K p H (.int i) (.int i)
  | str (x : Str) : Da K p H (.str x) (.str x)
  | lst {a : Addr} {xs : List V} {ds : List PyData} : a ≠ sysModules → SqL K H a xs → DaAll K p H xs ds → Da K p H (.ref a) (.list ds)
  | tup {a : Addr} {xs : List V} {ds : List PyData} : SqT K H a xs → DaAll K p H xs ds → Da K p H (.ref a) (.tuple ds)
  | dct {a : Addr} {kvs : List (Key × V)} {es : List (PyData × PyData)} : a ≠ p → H a = some (.dK kvs) → DaKv K p H kvs es → Da K p H (.ref a) (.dict es)
inductive DaAll (K : PySem.W.Frag) (p : Addr) (H : Hp) : List V → List PyData → Prop
  | nil : DaAll K p H [] []
  | cons {v : V} {vs : List V} {d : PyData} {ds : List PyData} : Da K p H v d → DaAll K p H vs ds → DaAll K p H (v :: vs) (d :: ds)
inductive DaKv (K : PySem.W.Frag) (p : Addr) (H : Hp) : List (Key × V) → List (PyData × PyData) → Prop
  | nil : DaKv K p H [] []
  | cons {k : Key} {v : V} {r : List (Key × V)} {d : PyData} {es : List (PyData × PyData)} : Da K p H v d → DaKv K p H r es → DaKv K p H ((k, v) :: r) ((keyD k, d) :: es)
end
section
variable {K : PySem.W.Frag} {p c : Addr} {n : Nat} {H H' H2 : Hp}
/-- what is read of lists, tuples, dicts (but p) stays -/
structure KeepA (K : PySem.W.Frag) (p : Addr) (H H' : Hp) : Prop where
  l : ∀ a xs, SqL K H a xs → SqL K H' a xs
  t : ∀ a xs, SqT K H a xs → SqT K H' a xs
  d : ∀ a kvs, a ≠ p → H a = some (.dK kvs) → H' a = some (.dK kvs)
theorem KeepA.refl : KeepA K p H H := ⟨fun _ _ h => h, fun _ _ h => h, fun _ _ _ h => h⟩
theorem KeepA.trans (a : KeepA K p H H') (b : KeepA K p H' H2) : KeepA K p H H2 := ⟨fun _ _ h => b.l _ _ (a.l _ _ h), fun _ _ h => b.t _ _ (a.t _ _ h), fun _ _ n h => b.d _ _ n (a.d _ _ n h)⟩
theorem _root_.L2.Same.keepA (s : Same H H') : KeepA K p H H' := ⟨s.keeps.l, s.keeps.t, fun _ _ _ e => s _ _ e⟩
theorem SameP.keepA (s : SameP p H H') (G : PenAt H p c n) : KeepA K p H H' := ⟨(s.keeps G).l, (s.keeps G).t, fun _ _ ne e => s _ _ ne e⟩
mutual
theorem da_keep (s : KeepA K p H H') : ∀ {d : PyData} {v : V}, Da K p H v d → Da K p H' v d
  | .none, _, h => by cases h; exact .non
  | .bool _, _, h => by cases h; exact .bl _
  | .int _, _, h => by cases h; exact .int _
  | .str _, _, h => by cases h; exact .str _
  | .tuple ds, _, h => by
    cases h with
    | tup a b => exact .tup (s.t _ _ a) (da_keepAll s b)
  | .list _, _, h => by
    cases h with
    | lst a b c => exact .lst a (s.l _ _ b) (da_keepAll s c)
  | .dict es, _, h => by
    cases h with
    | dct a b c => exact .dct a (s.d _ _ a b) (da_keepKv s c)
theorem da_keepAll (s : KeepA K p H H') : ∀ {ds : List PyData} {vs : List V}, DaAll K p H vs ds → DaAll K p H' vs ds
  | [], _, h => by cases h; exact .nil
  | d :: ds, _, h => by
    cases h with
    | cons a b => exact .cons (da_keep s a) (da_keepAll s b)
theorem da_keepKv (s : KeepA K p H H') : ∀ {es : List (PyData × PyData)} {kvs : List (Key × V)}, DaKv K p H kvs es → DaKv K p H' kvs es
  | [], _, h => by cases h; exact .nil
  | (k, d) :: es, _, h => by
    cases h with
    | cons a b => exact .cons (da_keep s a) (da_keepKv s b)
end
mutual
theorem dt_da : ∀ {d : PyData} {v : V}, Dt K H v d → Da K p H v d
  | .none, _, h => by cases h; exact .non
  | .bool _, _, h => by cases h; exact .bl _
  | .int _, _, h => by cases h; exact .int _
  | .str _, _, h => by cases h; exact .str _
  | .tuple ds, _, h => by
    cases h with
    | tup a b => exact .tup a (dt_daAll b)
  | .list _, _, h => by cases h
  | .dict _, _, h => by cases h
theorem dt_daAll : ∀ {ds : List PyData} {vs : List V}, DtAll K H vs ds → DaAll K p H vs ds
  | [], _, h => by cases h; exact .nil
  | d :: ds, _, h => by
    cases h with
    | cons a b => exact .cons (dt_da a) (dt_daAll b)
end
theorem DaAll.append : ∀ {xs ys : List V} {ds es : List PyData}, DaAll K p H xs ds → DaAll K p H ys es → DaAll K p H (xs ++ ys) (ds ++ es)
  | _, _, _, _, .nil, h => h
  | _, _, _, _, .cons a b, h => .cons a (b.append h)
theorem DaAll.length : ∀ {xs : List V} {ds : List PyData}, DaAll K p H xs ds → xs.length = ds.length
  | _, _, .nil => rfl
  | _, _, .cons _ b => congrArg (· + 1) b.length
theorem DaAll.at : ∀ {xs : List V} {ds : List PyData} {i : Nat} {v : V}, DaAll K p H xs ds → xs[i]? = some v → ∃ d, ds[i]? = some d ∧ Da K p H v d
  | _, _, 0, _, .cons a _, h => by
    cases h
    exact ⟨_, rfl, a⟩
  | _, _, i + 1, _, .cons _ b, h => b.at (i := i) h
theorem DaAll.take : ∀ {xs : List V} {ds : List PyData} (i : Nat), DaAll K p H xs ds → DaAll K p H (xs.take i) (ds.take i)
  | _, _, 0, _ => .nil
  | _, _, _ + 1, .nil => .nil
  | _, _, i + 1, .cons a b => .cons a (b.take i)
theorem DaAll.drop : ∀ {xs : List V} {ds : List PyData} (i : Nat), DaAll K p H xs ds → DaAll K p H (xs.drop i) (ds.drop i)
  | _, _, 0, h => h
  | _, _, _ + 1, .nil => .nil
  | _, _, i + 1, .cons _ b => b.drop i
theorem DaAll.reverse : ∀ {xs : List V} {ds : List PyData}, DaAll K p H xs ds → DaAll K p H xs.reverse ds.reverse
  | _, _, .nil => .nil
  | _, _, .cons a b => by
    rw [List.reverse_cons, List.reverse_cons]
    exact b.reverse.append (.cons a .nil)
end

/-! ### its repr -/
section
variable {X : Cx} {pins : List (Addr × Obj)} {σ : L2.St} {H : Hp} {s : Shared} {p : Addr}
theorem keys_read {P : Program} {w : World} {h : Heap} : ∀ {vs : List (Key × Value)} {es : List DictEntry}, Pairs (mixKind P w) es vs → ReadsAll h (es.map (·.key)) (vs.map fun kv => keyD kv.1) []
  | _, _, .nil => .nil
  | _, _, .cons (e := e) (kv := kv) h1 h2 r => by
    have ih := keys_read (h := h) r
    rcases keyIs_shape (k := kv.1) (v := e.key) h1 with ⟨i, t, e1, e2⟩ | ⟨x, t, e1, e2⟩
    · rw [List.map_cons, List.map_cons, e1, e2]
      exact ReadsAll.cons (.int i t) ih
    · rw [List.map_cons, List.map_cons, e1, e2]
      exact ReadsAll.cons (.str x t) ih
theorem vals_read {P : Program} {w : World} : ∀ {vs : List (Key × Value)} {es : List DictEntry}, Pairs (mixKind P w) es vs → es.map (·.val) = vs.map (·.2)
  | _, _, .nil => rfl
  | _, _, .cons h1 h2 r => by rw [List.map_cons, List.map_cons, h2, vals_read r]
mutual
theorem da_reads (I : Inv X pins σ H s) : ∀ (d : PyData) (v : V) (u : Value), Da X.K p H v d → RelV v u → ∃ as, Reads s.heap u d as ∧ sysModules ∉ as
  | .none, _, _, h, r => by
    cases h
    cases r
    exact ⟨_, .none, List.not_mem_nil⟩
  | .bool b, _, _, h, r => by
    cases h
    cases r
    exact ⟨_, .bool b, List.not_mem_nil⟩
  | .int i, _, _, h, r => by
    cases h
    obtain ⟨t, rfl⟩ := r
    exact ⟨_, .int i t, List.not_mem_nil⟩
  | .str x, _, _, h, r => by
    cases h
    obtain ⟨t, rfl⟩ := r
    exact ⟨_, .str x t, List.not_mem_nil⟩
  | .list ds, _, _, h, r => by
    cases h with
    | lst hne hs ha =>
      cases r
      obtain ⟨its, rv, ⟨o, n, ho, hc, _, hd⟩, _⟩ := I.list hs
      obtain ⟨as, hr, ns⟩ := da_readsAll I ds _ its ha rv
      exact ⟨_, .list ho hc hd hr, fun z => (List.mem_cons.mp z).elim (fun e => hne e.symm) ns⟩
  | .tuple ds, _, _, h, r => by
    cases h with
    | tup hs ha =>
      cases r
      obtain ⟨its, rv, ⟨o, ho, hc, n, hd⟩, _⟩ := I.tuple hs
      obtain ⟨as, hr, ns⟩ := da_readsAll I ds _ its ha rv
      exact ⟨_, .tuple ho hc hd hr, ns⟩
  | .dict es, _, _, h, r => by
    cases h with
    | @dct a kvs _ hn ho hv =>
      cases r
      obtain ⟨_, ns, vs, kv, o, ents, ep, h1, h2, h3, _, h5, _⟩ := dk_of I.hok ho
      obtain ⟨as, hr, nsr, ek⟩ := da_readsKv I es _ vs hv kv
      have r1 := keys_read (h := s.heap) h5
      rw [ek] at r1
      refine ⟨_, .dict h1 h2.1 h3 r1 (by rw [vals_read h5]; exact hr), fun z => ?_⟩
      rcases List.mem_cons.mp (by simpa using z) with e | e
      · rw [← e] at ns
        simp at ns
      · exact nsr e
theorem da_readsAll (I : Inv X pins σ H s) : ∀ (ds : List PyData) (vs : List V) (us : List Value), DaAll X.K p H vs ds → Vals vs us → ∃ as, ReadsAll s.heap us ds as ∧ sysModules ∉ as
  | [], _, _, h, r => by
    cases h
    cases r
    exact ⟨_, .nil, List.not_mem_nil⟩
  | d :: ds, _, _, h, r => by
    cases h with
    | cons h1 h2 =>
      cases r with
      | cons r1 r2 =>
        obtain ⟨as, q1, n1⟩ := da_reads I d _ _ h1 r1
        obtain ⟨bs, q2, n2⟩ := da_readsAll I ds _ _ h2 r2
        exact ⟨_, .cons q1 q2, fun z => (List.mem_append.mp z).elim n1 n2⟩
theorem da_readsKv (I : Inv X pins σ H s) : ∀ (es : List (PyData × PyData)) (kvs : List (Key × V)) (vs : List (Key × Value)), DaKv X.K p H kvs es → KV kvs vs →
    ∃ as, ReadsAll s.heap (vs.map (·.2)) (es.map (·.2)) as ∧ sysModules ∉ as ∧ (vs.map fun kv => keyD kv.1) = es.map (·.1)
  | [], _, _, h, r => by
    cases h
    cases r
    exact ⟨_, .nil, List.not_mem_nil, rfl⟩
  | (k, d) :: es, _, _, h, r => by
    cases h with
    | cons h1 h2 =>
      cases r with
      | cons r1 r2 =>
        obtain ⟨as, q1, n1⟩ := da_reads I d _ _ h1 r1.2
        obtain ⟨bs, q2, n2, e⟩ := da_readsKv I es _ _ h2 r2
        refine ⟨_, .cons q1 q2, fun z => (List.mem_append.mp z).elim n1 n2, ?_⟩
        rw [List.map_cons, List.map_cons, e, ← r1.1]
end
end
section
variable {X : Cx}
def rReprA (K : PySem.W.Frag) : List V → Hp → VK → Prop := fun xs H Q => ∃ p v d, xs = [v] ∧ Da K p H v d ∧ d.showable = true ∧ d.depth ≤ 60 ∧ d.shown.length ≤ sizeLine ∧ Q (.str d.shown) H
theorem call_reprA (hg : Still X.A) (hu : X.A.units + 64 < cLine) : CallR X (.builtin "repr") (rReprA X.K) := by
  intro pins s σ H xs us Q I r h
  obtain ⟨p, v, d, rfl, hd, hs, hdp, hz, q⟩ := h
  obtain ⟨u, rfl, rv⟩ := vals1 r
  obtain ⟨as, rd, nsys⟩ := da_reads I d v u hd rv
  have fin : ∀ (h' : Heap) (t tk : Tok), (∀ b o, s.heap.get? b = some o → h'.get? b = some o) → EP X pins σ Q (.str d.shown t) { s with heap := h', toks := tk } :=
    fun h' t tk k => ⟨.str d.shown, H, inv_more I k, ⟨t, rfl⟩, q⟩
  cases hd with
  | non =>
    cases rv
    exact PySem.P.repr_of_none (by simpa only [PyData.shown] using fin s.heap _ _ fun _ _ e => e)
  | bl b =>
    cases rv
    exact PySem.P.repr_of_bool (by simpa only [PyData.shown] using fin s.heap _ _ fun _ _ e => e)
  | int i =>
    obtain ⟨t, rfl⟩ := rv
    exact PySem.P.repr_of_int (by simpa [PyData.showable] using hs) (by simpa only [PyData.shown] using fin s.heap _ _ fun _ _ e => e)
  | str x =>
    obtain ⟨t, rfl⟩ := rv
    exact PySem.P.repr_of_str (by simpa only [PyData.shown] using fin s.heap _ _ fun _ _ e => e) (by simpa only [PyData.shown] using hz)
  | lst _ _ _ =>
    cases rv
    exact PySem.repr_of_reads' rd hs (fun _ => nsys) hg (by omega) (fun _ _ e => e) (fun h' u tk k => fin h' u tk k) hz
  | tup _ _ =>
    cases rv
    exact PySem.repr_of_reads' rd hs (fun _ => nsys) hg (by omega) (fun _ _ e => e) (fun h' u tk k => fin h' u tk k) hz
  | dct _ _ _ =>
    cases rv
    exact PySem.repr_of_reads' rd hs (fun _ => nsys) hg (by omega) (fun _ _ e => e) (fun h' u tk k => fin h' u tk k) hz
end
/-! ### new lists: not at sys.modules -/
section
variable {X : Cx}
def tLstN (t : TA) : TE := fun σ H Q => t σ H fun xs H1 => xs.length ≤ sizeLine ∧ ∀ p, H1 p = none → p ≠ sysModules → Q (.ref p) (upd H1 p (.lst xs))
theorem pe_lstN {es : List Expr} {pos : Pos} {t : TA} (ha : PA X es t) : PE X (.List es pos) (tLstN t) := by
  constructor
  intro pins s0 σ H Q I q0
  refine wpAny_List_spliced (thn (ha.run pos pins s0 σ H _ I q0) fun us s1 ⟨ys, H2, I2, rv, zz, q1⟩ => ⟨by have := rv.length; omega, ?_⟩)
  have fresh := I2.hok.fresh (Nat.le_refl s1.heap.objs.size)
  have nsys : s1.heap.objs.size ≠ sysModules := Nat.ne_of_gt I2.big
  exact ⟨.ref s1.heap.objs.size, upd H2 s1.heap.objs.size (.lst ys), I2.laid (t' := s1.toks) (fun _ _ e => Heap.get?_push_of_some _ e) (Nat.le_refl _) ⟨zz, us, 0, rv, Heap.get?_push_size _ rfl⟩, rfl, q1 _ fresh nsys⟩
/-- list(t) of a tuple -/
theorem call_listN : CallR X (.type "list") (fun xs H Q => ∃ p ys, xs = [.ref p] ∧ SqT X.K H p ys ∧ ∀ l, H l = none → l ≠ sysModules → Q (.ref l) (upd H l (.lst ys))) := by
  intro pins s σ H xs us Q I rv ⟨p, ys, ex, ht, q⟩
  subst ex
  obtain ⟨u, rfl, r1⟩ := vals1 rv
  cases r1
  obtain ⟨its, rr, ⟨o, ho, hc, n, hd⟩, hz⟩ := I.tuple ht
  have ll := rr.length
  refine call_list_seq p (.inr rfl) ho hc hd (fun h' c' kp e => ?_) (by simp only [List.size_toArray]; omega)
  exact ⟨.ref s.heap.objs.size, _, I.laid (t' := s.toks) kp (Nat.le_refl _) (show ObjOk X.prog X.w _ h' _ (.lst ys) from ⟨hz, its, c', rr, e⟩), rfl, q _ (I.hok.fresh (Nat.le_refl _)) (Nat.ne_of_gt I.big)⟩
end
end My
set_option Elab.async false
set_option linter.all false
set_option maxRecDepth 100000
set_option maxHeartbeats 4000000
/-! {e for target in it}, e an int or a text; len of such a set. -/
namespace My
open PySem PySem.Spec PyProof.Rows L2
section
variable {X : Cx} {pins : List (Addr × Obj)} {σ : L2.St} {H : Hp} {s : Shared}
def noKeys : Key → Bool := fun _ => false
def withKey (S : Key → Bool) (k : Key) : Key → Bool := fun j => S j || decide (j = k)
def more (S : Key → Bool) (k : Key) (n : Nat) : Nat := if S k = true then n else n + 1
theorem keys_fresh {P : Program} {w : World} {h : Heap} : (h.push { cls := .type "set", dict := none, data := .set #[] 0 (.fresh 0 0 (!w.params.followText "set-order")) }).SetOf (mixKind P w) h.objs.size noKeys 0 := by
  refine ⟨_, #[], 0, _, Heap.get?_push_size _ rfl, ⟨rfl, rfl, rfl⟩, rfl, fun e z => ?_, fun k => ?_, by decide, by rfl, rfl⟩
  · exact absurd z (by simp)
  · unfold noKeys
    simp
/-- a key is added -/
theorem key_added {E : Value → Shared → Prop} {D : Addr} {S : Key → Bool} {n : Nat} {k : Key} {u : Value} {Q : Value → Shared → Prop} (I : Inv X pins σ H s) (e : H D = some (SetK X.prog X.w D S n)) (r : RelV (kV k) u) (room : n + 1 < scanBound)
    (q : ∀ s', Inv X pins σ (upd H D (SetK X.prog X.w D (withKey S k) (more S k n))) s' → Q .none s') : wpAny (model X.prog X.w) X.A (call (.builtin "set.add") [.ref D, u]) Q E s := by
  refine call_set_add (kV_is r) (key_scan r) (setK_get I e) room fun h' same now => ?_
  obtain ⟨ob, _, _, _, there, _⟩ := id now
  refine q _ (I.write (e := D) (t' := s.toks + 1) ?_ (.inl rfl) (fun b u ne hu => (same.2 b ne).trans hu) ⟨ob, there⟩ (setK_new now))
  rw [e]
  trivial
/-- what one turn wants of the element's key -/
def keyEnd (P : Program) (w : World) (D : Addr) (Nx : Hp → Prop) : VK := fun y H => ∃ (k : Key) (S : Key → Bool) (n : Nat), y = kV k ∧ H D = some (SetK P w D S n) ∧ n + 1 < scanBound ∧ Nx (upd H D (SetK P w D (withKey S k) (more S k n)))
/-- the comprehension's reading; D is the new set -/
def tSetC (P : Program) (w : World) (wi : TI) (g : TG) (te : TE) (vs : List Nat) : TE := fun σ H Q => wi σ H fun J H1 => ∀ D, H1 D = none →
  ∃ W : Nat → Nat → Hp → Prop, (∃ m, W 0 m (upd H1 D (SetK P w D noKeys 0))) ∧ ∀ i m H, W i m H → (J.stop i H ∧ Q (.ref D) H) ∨
    (J.go i H ∧ ∃ Nx : Hp → Prop, (∀ H', Nx H' → ∃ m', m' < m ∧ W (i + 1) m' H') ∧ ∀ x H', J.yld i H x H' → g x (wipe σ vs) H' fun σ2 H2 => wipe σ2 vs = wipe σ vs ∧ te σ2 H2 (keyEnd P w D Nx))
theorem pe_setc {elt tg iter : Expr} {scope : Scope} {own : List (PySem.Str × Nat)} {pos : Pos} {wi : TI} {g : TG} {te : TE} (calm : X.calm = true) (nd : X.N.Nodup) (hi : PI X tg iter wi) (ok : BlkOk X.N X.env.scope scope own)
    (hg : ∀ (s : Shared) (H : Hp) (C : Addr) (cl : List (PySem.Str × Addr)) (fp : List Addr), PG (X.blk s H scope (compEnvC scope cl C X.env) fp) tg g)
    (he : ∀ (s : Shared) (H : Hp) (C : Addr) (cl : List (PySem.Str × Addr)) (fp : List Addr), PE (X.blk s H scope (compEnvC scope cl C X.env) fp) elt te)
    (plain : ∀ x, foldedSetIterable iter X.env x = pure x := by intro _; rfl) : PE X (.SetComp elt [⟨tg, iter, [], 0⟩] scope pos) (tSetC X.prog X.w wi g te (own.map (·.2))) := by
  refine ⟨fun pins s σ H Q I h => ?_⟩
  rw [PpSet.eval_SetComp]
  have cells : ∀ y ∈ scope.names, y.2 = .free → ∃ c, X.env.cells.lookup y.1 = some c := fun y hy e =>
    (ok.free y hy e).elim (fun k => I.ok.has _ (.inl k)) fun k => I.ok.has _ (.inr k)
  refine wpAny_comprehension_free (use := none) rfl plain (closure_ok cells) ok.kind (fun y hy e => (ok.uniq y hy).trans (congrArg some e)) ?_
  refine thn (hi.run pins s σ H _ I h) fun xv sa walks => thn walks fun itv sb z => ?_
  obtain ⟨it, fp, tn, J, Hb, rfl, Ib, T, st, foot, q⟩ := z
  refine PpSet.newSet_ok (newEnv_comp ?_)
  generalize hD : sb.heap.objs.size = D
  have freeD : Hb D = none := Ib.hok.fresh (Nat.le_of_eq hD)
  obtain ⟨W, ⟨m0, w0⟩, turn⟩ := q D freeD
  generalize hc : ({ sb with heap := sb.heap.push { cls := .type "set", dict := none, data := .set #[] 0 (.fresh 0 0 (!X.w.params.followText "set-order")) } } : Shared) = sc
  have heapC : sc.heap = sb.heap.push { cls := .type "set", dict := none, data := .set #[] 0 (.fresh 0 0 (!X.w.params.followText "set-order")) } := by rw [← hc]
  have Ic : Inv X pins σ (upd Hb D (SetK X.prog X.w D noKeys 0)) sc := by
    rw [← hc]
    refine Ib.laid (t' := sb.toks) (fun b o e => Heap.get?_push_of_some _ e) (Nat.le_of_eq hD) ?_
    rw [← hD]
    exact setK_new keys_fresh
  have small : ∀ b ∈ fp, b < sb.heap.objs.size := fun b hb => let ⟨_, e, _⟩ := T.obj _ _ st b hb; Heap.lt_size e
  have footC : ∀ b ∈ fp, FpOk X pins (upd Hb D (SetK X.prog X.w D noKeys 0)) b ∧ b < sc.heap.objs.size := fun b hb => by
    have lt := small b hb
    refine ⟨⟨(upd_ne (hD ▸ Nat.ne_of_lt lt)).trans (foot b hb).1, (foot b hb).2⟩, ?_⟩
    rw [heapC, Heap.size_push]
    exact Nat.lt_succ_of_lt lt
  have stc : tn 0 sc.heap := T.keep _ _ _ st fun b _ o e => heapC ▸ Heap.get?_push_of_some _ e
  have In := block_start Ic ok nd footC
  let ce := compEnvC scope (cellsFrom (sc.heap.objs.size + 1) scope.names (cloFrom X.env.cells scope.names [])) sc.heap.objs.size X.env
  let Hc := upd Hb D (SetK X.prog X.w D noKeys 0)
  have pg : PG (X.blk sc Hc scope ce fp) tg g := hg _ _ _ _ _
  have pe : PE (X.blk sc Hc scope ce fp) elt te := he _ _ _ _ _
  let B := X.blk sc Hc scope ce fp
  have nfp : ∀ b ∈ fp, Hc b = none := fun b hb => (footC b hb).1.1
  generalize hd : ({ sc with heap := pushCells (sc.heap.push { cls := .type "dict", data := .dict #[] }) scope.names } : Shared) = sd at In
  have Id : Inv B [] (wipe σ (own.map (·.2))) Hc sd := In
  have std : tn 0 sd.heap := T.keep _ _ _ stc fun b _ o e => by rw [← hd]; exact pushCells_keeps _ _ _ _ (Heap.get?_push_of_some _ e)
  have stay : ∀ {σ' : L2.St} {H' : Hp} {s' : Shared}, Inv B [] σ' H' s' → (∀ b ∈ fp, H' b = none) → ∀ b ∈ fp, FpOk B [] H' b := fun {_ _ _} J no b hb =>
    ⟨no b hb, (J.ok.exf b hb).1, J.ok.exfs b hb, .inl hb, fun x c e => (J.ok.exf b hb).2 x c e, fun p hp => (List.not_mem_nil (List.append_nil ([] : List (Addr × Obj)) ▸ hp)).elim⟩
  have loop : codeAny (model X.prog X.w) X.A (.compLoop (.SetComp elt [⟨tg, iter, [], 0⟩] scope pos) 0 (.ref it) (.ref D) ce) (compPost (model X.prog X.w) X.A X.xe none (EP X pins σ Q) (.ref D) sc.heap.objs.size) sd := by
    refine PpSet.compLoopS_any (fun n s' => ∃ i H', Inv B [] (wipe σ (own.map (·.2))) H' s' ∧ tn i s'.heap ∧ (∀ b ∈ fp, H' b = none) ∧ W i n H') ?_ m0 ⟨0, Hc, Id, std, nfp, w0⟩
    rintro n se ⟨i, He, Ie, ste, ne, we⟩
    rcases turn i n He we with ⟨stop, fin⟩ | ⟨go, Nx, fall, step⟩
    · refine thnF (T.done B rfl rfl rfl calm i [] se _ He (fun _ _ => False) Ie (stay Ie ne) ste stop) fun r sf ⟨er, If⟩ => ?_
      subst er
      have Ig : Inv X pins σ He sf := Ic.call' (ch := fp) If.os If.base If.hok If.bare fun b hb => let f := (footC b hb).1; ⟨f.2.2.2.1, f.2.1, f.2.2.2.2.1, f.2.2.2.2.2⟩
      have noC : He sc.heap.objs.size = none := If.free
      obtain ⟨m, hn, _⟩ := If.loc
      obtain ⟨f0, f1, f2, f3, f4, f5⟩ := Ic.fpOk (Nat.le_refl _) noC
      exact ⟨m, hn, fun h'' sm => ⟨.ref D, He, Ig.turned (t' := sf.toks) (fun b o hb e => (sm.2 b hb).trans e) f0 f1 f3 f4 f5, rfl, fin⟩⟩
    · refine thnF (T.item B rfl rfl rfl calm i [] se _ He (fun _ _ => False) Ie (stay Ie ne) ste go) fun r sf ⟨u, er, hf⟩ => ?_
      subst er
      refine thnF hf fun _ sg ⟨x, Hg, Ig, rg, yg, stg, ng⟩ => ?_
      have Ip := Ig.pinned (stay Ig ng) (T.obj _ _ stg)
      refine thnF (pg.run _ sg _ Hg x u _ Ip rg (step x Hg yg)) fun _ sh ⟨σh, Hh, Ih, same, qh⟩ => ?_
      refine wpAny_tests_nil ?_
      rw [if_pos rfl]
      refine thnF (pe.run _ sh σh Hh _ Ih qh) fun v si ⟨yv, Hi, Ii, rv, k, S, c, ey, hDi, room, nx⟩ => ?_
      subst ey
      refine key_added (X := B) Ii hDi rv room fun sj Ij => ?_
      obtain ⟨m', lt, w'⟩ := fall _ nx
      have held : ∀ b ∈ fp, ∀ o, sg.heap.get? b = some o → sj.heap.get? b = some o ∧ (upd Hi D (SetK X.prog X.w D (withKey S k) (more S k c))) b = none := fun b hb o e =>
        let z := Ij.pin (b, o) (List.mem_append_right _ (List.mem_append_right _ (mem_pinsAt hb e)))
        ⟨z.1, z.2.1⟩
      have len : (wipe σ (own.map (·.2))).length = σh.length := by rw [← same, wipe_length]
      refine ⟨m', lt, i + 1, _, (Ij.unpinned (pins := [])).weak len (fun j v e => ?_), T.keep _ _ _ stg fun b hb o e => (held b hb o e).1, fun b hb => ?_, w'⟩
      · rw [← same] at e
        exact (wipe_some e).1
      · obtain ⟨o, e, _⟩ := T.obj _ _ stg b hb
        exact (held b hb o e).2
  exact PpSet.codeAny_compStart_set loop (T.self X.A 0 _ _ _ std loop)
end
end My
set_option Elab.async false
set_option linter.all false
set_option maxRecDepth 100000
set_option maxHeartbeats 8000000
/-! set(xs), xs a list (or a tuple) of ints and texts, any number of them; len of a set of such. -/
namespace My
open PySem PySem.Spec PyProof.Rows L2

theorem one_nodup {α : Type} (x : α) : [x].Nodup := List.nodup_cons.mpr ⟨List.not_mem_nil, List.nodup_nil⟩
open Classical in
/-- the keys met so far, each once -/
noncomputable def metK : List Key → List Key → List Key
  | seen, [] => seen
  | seen, k :: r => metK (if k ∈ seen then seen else seen ++ [k]) r
open Classical in
theorem metK_snoc : ∀ (xs seen : List Key) (k : Key), metK seen (xs ++ [k]) = if k ∈ metK seen xs then metK seen xs else metK seen xs ++ [k]
  | [], seen, k => rfl
  | x :: r, seen, k => metK_snoc r _ k
open Classical in
theorem mem_metK : ∀ (xs seen : List Key) (k : Key), k ∈ metK seen xs ↔ k ∈ seen ∨ k ∈ xs
  | [], seen, k => by simp [metK]
  | x :: r, seen, k => by
    rw [metK, mem_metK r]
    split
    · rename_i h
      constructor
      · rintro (z | z)
        · exact .inl z
        · exact .inr (List.mem_cons_of_mem _ z)
      · rintro (z | z)
        · exact .inl z
        · rcases List.mem_cons.mp z with e | z
          · subst e
            exact .inl h
          · exact .inr z
    · rw [List.mem_append, List.mem_singleton, List.mem_cons, or_assoc]
open Classical in
theorem nodup_metK : ∀ (xs seen : List Key), seen.Nodup → (metK seen xs).Nodup
  | [], _, h => h
  | x :: r, seen, h => by
    rw [metK]
    refine nodup_metK r _ ?_
    split
    · exact h
    · rename_i z
      exact List.nodup_append.mpr ⟨h, one_nodup x, fun a ha b hb e => z (by rw [List.mem_singleton.mp hb] at e; exact e ▸ ha)⟩
open Classical in
theorem len_metK_le : ∀ (xs seen : List Key), (metK seen xs).length ≤ seen.length + xs.length
  | [], _ => Nat.le_refl _
  | x :: r, seen => by
    rw [metK]
    have h := len_metK_le r (if x ∈ seen then seen else seen ++ [x])
    have : (if x ∈ seen then seen else seen ++ [x]).length ≤ seen.length + 1 := by
      split
      · omega
      · rw [List.length_append]; exact Nat.le_refl _
    rw [List.length_cons]
    omega
open Classical in
/-- as many as items just where all differ -/
theorem len_metK_eq : ∀ (xs seen : List Key), seen.Nodup → ((metK seen xs).length = seen.length + xs.length ↔ (seen ++ xs).Nodup)
  | [], seen, h => by simp [metK, h]
  | x :: r, seen, h => by
    rw [metK]
    by_cases z : x ∈ seen
    · rw [if_pos z]
      constructor
      · intro e
        have := len_metK_le r seen
        rw [List.length_cons] at e
        omega
      · intro nd
        have := (List.nodup_append.mp nd).2.2 x z x List.mem_cons_self
        exact absurd rfl this
    · rw [if_neg z]
      have nd : (seen ++ [x]).Nodup := List.nodup_append.mpr ⟨h, one_nodup x, fun a ha b hb e => z (by rw [List.mem_singleton.mp hb] at e; exact e ▸ ha)⟩
      have ih := len_metK_eq r (seen ++ [x]) nd
      rw [List.length_append, List.length_singleton, List.append_assoc] at ih
      rw [List.length_cons, show seen.length + (r.length + 1) = seen.length + 1 + r.length by omega]
      exact ih
open Classical in
noncomputable def inK (xs : List Key) : Key → Bool := fun k => decide (k ∈ xs)

section
variable {prog : Program} {w : World}
theorem setOf_eq {h : Heap} {a : Addr} {S T : Key → Bool} {n m : Nat} (R : h.SetOf (mixKind prog w) a S n) (e : ∀ k, S k = T k) (en : n = m) : h.SetOf (mixKind prog w) a T m := by
  cases (funext e : S = T)
  cases en
  exact R
open Classical in
theorem met_add {h : Heap} {a : Addr} {xs : List Key} {k : Key} (R : h.SetOf (mixKind prog w) a (fun j => inK (metK [] xs) j || decide (j = k)) (if inK (metK [] xs) k = true then (metK [] xs).length else (metK [] xs).length + 1)) :
    h.SetOf (mixKind prog w) a (inK (metK [] (xs ++ [k]))) (metK [] (xs ++ [k])).length := by
  refine setOf_eq R (fun j => ?_) ?_
  · unfold inK
    rw [metK_snoc]
    by_cases z : k ∈ metK [] xs
    · rw [if_pos z]
      by_cases e : j = k
      · subst e
        simp [z]
      · simp [e]
    · rw [if_neg z]
      by_cases e : j = k
      · simp [e]
      · simp [e]
  · unfold inK
    rw [metK_snoc]
    by_cases z : k ∈ metK [] xs
    · rw [if_pos z, if_pos (decide_eq_true z)]
    · rw [if_neg z, if_neg (by simpa using z), List.length_append]
      rfl
variable {A : Around} {R : Result → Shared → Prop} {it : Addr} {fp wr : List Addr} {G : Array GenState → Array GenState → Prop} {n : Nat} {Y : Nat → Value → Prop} {St : Nat → Shared → Prop}
/-- the filling loop -/
theorem fill_loop (W : WalksS prog w A.in1 it fp wr G n Y St) {D : Addr} (apart : D ∉ fp) {ks : List Key} (len : ks.length = n) (keys : ∀ i v, Y i v → ∃ k, ks[i]? = some k ∧ keyIs k v = true) (room : n + 1 < scanBound) :
    ∀ (left i : Nat) (s : Shared), i + left = n → St i s → s.heap.SetOf (mixKind prog w) D (inK (metK [] (ks.take i))) (metK [] (ks.take i)).length →
      (∀ s', Moved (D :: wr) G s s' → s'.heap.SetOf (mixKind prog w) D (inK (metK [] ks)) (metK [] ks).length → R (.ok (.ret .none)) s') → codeAny (model prog w) A (.builtin "set.update.loop" ⟨[.ref D, .ref it], []⟩) R s := by
  have notW : D ∉ wr := fun h => apart (W.sub _ h)
  have wide : ∀ b ∈ wr, b ∈ D :: wr := fun _ h => List.mem_cons_of_mem _ h
  have kept : ∀ {s s' : Shared} {S : Key → Bool} {m : Nat}, Moved wr G s s' → s.heap.SetOf (mixKind prog w) D S m → s'.heap.SetOf (mixKind prog w) D S m := fun mv q => setOf_at q fun o e => mv.heap D o notW e
  intro left
  induction left with
  | zero =>
    intro i s e st have_ go
    have all : i = n := e
    subst all
    refine codeAny_builtin PyProof.Rows.F.entry_set_update_loop ?_
    rw [Around.under_plainId PyProof.Rows.F.plain_set_update_loop _]
    refine (show wpAny _ A.in1 (pyNext (.ref it) >>= _) _ _ s from wpAny_bind (W.done s _ _ st fun s' mv => ?_))
    refine (show wpAny _ A.in1 (ret Value.none) _ _ s' from wpAny_pure (go s' (mv.mono wide) ?_))
    have q := kept mv have_
    rwa [List.take_of_length_le (Nat.le_of_eq len)] at q
  | succ left ih =>
    intro i s e st have_ go
    refine codeAny_builtin PyProof.Rows.F.entry_set_update_loop ?_
    rw [Around.under_plainId PyProof.Rows.F.plain_set_update_loop _]
    refine (show wpAny _ A.in1 (pyNext (.ref it) >>= _) _ _ s from wpAny_bind (W.item i s _ _ (by omega) st fun v s' yv st' mv => ?_))
    obtain ⟨k, hk, isk⟩ := keys i v yv
    have q := kept mv have_
    have few : (metK [] (ks.take i)).length ≤ i := by
      have h := len_metK_le (ks.take i) []
      rw [List.length_take, List.length_nil] at h
      omega
    have scan : v.scannable = true := by
      rcases keyIs_shape isk with ⟨_, _, _, rfl⟩ | ⟨_, _, _, rfl⟩ <;> rfl
    refine (show wpAny _ A.in1 (holding [v] (setAdd D v) >>= _) _ _ s' from wpAny_bind (wpAny_holding ?_))
    unfold setAdd
    refine wpAny_holding (wpAny_bind ((mixKind prog w).pyHash (k := k) isk ?_))
    refine wpAny_setAddHashed_of (knd := mixKind prog w) (s := { s' with toks := s'.toks + 1 }) isk scan q (by omega) fun h' same now => ?_
    have nowK := met_add now
    rw [show ks.take i ++ [k] = ks.take (i + 1) by rw [List.take_add_one, hk]; rfl] at nowK
    refine wpAny_pure ⟨plainId_quiet PyProof.Rows.F.plain_set_update_loop _, ih (i + 1) _ (by omega) (W.frame _ s' _ _ st' (Nat.le_succ _) fun b hb o e => ?_) nowK fun s'' mv' end_ => ?_⟩
    · exact (same.2 b fun z => apart (z ▸ hb)).trans e
    · exact go s'' (Moved.trans W.gtrans ((mv.mono wide).then_heap (Nat.le_succ _) fun b o hb e => (same.2 b fun z => hb (z ▸ List.mem_cons_self)).trans e) mv') end_
end

section
variable {prog : Program} {w : World} {A : Around} {E : Value → Shared → Prop} {s : Shared}
abbrev setOb (led : Bool) : Obj := { cls := .type "set", dict := none, data := .set #[] 0 (.fresh 0 0 led) }
theorem setFrom_list {l : Addr} {items : Array Value} {ks : List Key} {Q : Value → Shared → Prop} (calm : A.handled = none) (src : s.heap.IsList l items) (len : ks.length = items.size) (keys : ∀ (i : Nat) (v : Value), items[i]? = some v → ∃ k, ks[i]? = some k ∧ keyIs k v = true)
    (room : items.size + 1 < scanBound) (q : ∀ (h' : Heap) (tk : Nat), h'.SetOf (mixKind prog w) s.heap.objs.size (inK (metK [] ks)) (metK [] ks).length → (∀ b o, b < s.heap.objs.size → s.heap.get? b = some o → h'.get? b = some o) →
      Q (.ref s.heap.objs.size) { s with heap := h', toks := tk }) : wpAny (model prog w) A (call (.type "set") [.ref l]) Q E s := by
  obtain ⟨c0, t0, mro0⟩ := PySem.F.called_set.mro
  have made0 := PySem.F.called_set.made
  have sub0 := PySem.F.called_set.sub
  refine wpAny_call (codeAny_of_tree (show wpAny _ _ (callAny (.type "set") _) _ _ _ from ?_))
  refine wpAny_pure ⟨Code.quiet_builtin _ (by decide +kernel), codeAny_builtin PySem.F.entry_type_call ?_⟩
  rw [Around.under_plain (weight_type_call_type "set" [.ref l] []) rfl]
  have nt0 := PySem.F.called_set.notType
  have cc0 := PySem.F.called_set.canCreate
  have tc0 := PySem.F.typeCall_set_1 (.ref l)
  repeat (any_goals (first | assumption | wp_step))
  refine codeAny_mono (code_set_new_1 (.ref l) (E := E) (Q₁ := fun ob s1 => ∃ led : Bool, ob = .ref s.heap.objs.size ∧ s1 = { s with heap := s.heap.push (setOb led) }) fun led => ⟨led, rfl, rfl⟩) fun res s1 z => ?_
  match res, z with
  | .error e, z => exact z
  | .ok .next, z => exact z.elim
  | .ok .brk, z => exact z.elim
  | .ok .cont, z => exact z.elim
  | .ok (.ret ob), ⟨led, e1, e2⟩ =>
    subst e1
    subst e2
    have at0 : (s.heap.push (setOb led)).get? s.heap.objs.size = some (setOb led) := Heap.get?_push_size _ rfl
    have ty0 : Shared.TypeIs { s with heap := s.heap.push (setOb led) } (.ref s.heap.objs.size) "set" := ⟨_, at0, rfl⟩
    have li0 := PySem.F.called_set.init.lookup
    have bi0 := PySem.F.called_set.init.bind (.ref s.heap.objs.size)
    repeat (any_goals (first | assumption | wp_step))
    refine codeAny_mono (codeAny_call_builtin (R := wants (fun r s2 => r = .none ∧ ∃ h' tk, s2 = { s with heap := h', toks := tk } ∧ h'.SetOf (mixKind prog w) s.heap.objs.size (inK (metK [] ks)) (metK [] ks).length ∧
        (∀ b o, b < s.heap.objs.size → s.heap.get? b = some o → h'.get? b = some o)) E) PySem.F.called_set.init.plain PySem.F.entry_set_init (check_set_init_1 ty0 ?_)) fun res2 s2 z2 => ?_
    · obtain ⟨⟨cl, dc, dt, sl⟩, hol, hcl, nl, hdl⟩ := src
      simp only at hcl hdl
      subst hcl
      subst hdl
      have here : (s.heap.push (setOb led)).get? l = some { cls := .type "list", dict := dc, data := .seq items nl, slots := sl } := Heap.get?_push_of_some _ hol
      have su1 := PySem.F.sub_list_set
      have su2 := PySem.F.sub_list_frozenset
      have nd0 : (Value.type "list" == Value.type "dict") = false := by decide
      have src' : (s.heap.push (setOb led)).IsList l items := ⟨_, here, rfl, nl, rfl⟩
      unfold Builtin.«set.__init__» noKeywords Builtin.Frozenset.updateFrom
      generalize pz : pyIter = pzI
      wp_walk
      subst pz
      refine wpAny_pyIter_list src' (wpAny_bind (wpAny_runValue ?_))
      have below : l < s.heap.objs.size := Heap.lt_size hol
      have calm3 : A.in1.in1.in1.handled = none := by simp [calm]
      have sz1 : (s.heap.push (setOb led)).objs.size = s.heap.objs.size + 1 := Heap.size_push _ _
      have ne1 : l ≠ (s.heap.push (setOb led)).objs.size := by
        rw [sz1]
        exact Nat.ne_of_lt (Nat.lt_succ_of_lt below)
      have out : s.heap.objs.size ∉ [(s.heap.push (setOb led)).objs.size, l] := by
        rw [sz1]
        simp only [List.mem_cons, List.not_mem_nil, or_false, not_or]
        exact ⟨Nat.ne_of_lt (Nat.lt_succ_self _), Nat.ne_of_gt below⟩
      refine fill_loop ((Walks.list calm3 _ l ne1 items).toS) out len keys room items.size 0 _ (Nat.zero_add _) ⟨⟨_, Heap.get?_push_size _ rfl, rfl, rfl⟩, (src'.push _)⟩ ?_ fun s' mv end_ => ?_
      · have get0 : ((s.heap.push (setOb led)).push { cls := .type "list_iterator", data := .fields #[.ref l, .int 0 0] }).get? s.heap.objs.size = some (setOb led) := Heap.get?_push_of_some _ at0
        refine ⟨_, #[], 0, _, get0, ⟨rfl, rfl, rfl⟩, rfl, fun e z => absurd z (by simp), fun k => ?_, by decide, by rfl, rfl⟩
        simp [inK, metK]
      · obtain ⟨h', g', d', tk', os'⟩ := s'
        cases (show g' = s.gens from mv.gens)
        cases (show d' = s.drawn from mv.drawn)
        cases (show os' = s.os from mv.os)
        refine (show wpAny _ _ _ _ _ _ from wpAny_pure (show wpAny _ _ (ret Value.none) _ _ _ from wpAny_pure ⟨rfl, h', tk', rfl, end_, fun b o hb e => ?_⟩))
        refine mv.heap b o ?_ (Heap.get?_push_of_some _ (Heap.get?_push_of_some _ e))
        simp only [List.mem_cons, List.not_mem_nil, or_false, not_or]
        refine ⟨Nat.ne_of_lt hb, ?_⟩
        rw [sz1]
        exact Nat.ne_of_lt (Nat.lt_succ_of_lt hb)
    · match res2, z2 with
      | .error e, z2 => exact z2
      | .ok .next, z2 => exact z2.elim
      | .ok .brk, z2 => exact z2.elim
      | .ok .cont, z2 => exact z2.elim
      | .ok (.ret r), ⟨e1, h', tk, e2, end_, keep⟩ =>
        subst e1
        subst e2
        repeat (any_goals (first | assumption | wp_step))
        exact q _ _ end_ keep
end

section
variable {prog : Program} {w : World} {A : Around} {E : Value → Shared → Prop} {s : Shared}
theorem setFrom_tuple {l : Addr} {items : Array Value} {ks : List Key} {Q : Value → Shared → Prop} (calm : A.handled = none) (src : s.heap.IsTuple l items) (len : ks.length = items.size) (keys : ∀ (i : Nat) (v : Value), items[i]? = some v → ∃ k, ks[i]? = some k ∧ keyIs k v = true)
    (room : items.size + 1 < scanBound) (q : ∀ (h' : Heap) (tk : Nat), h'.SetOf (mixKind prog w) s.heap.objs.size (inK (metK [] ks)) (metK [] ks).length → (∀ b o, b < s.heap.objs.size → s.heap.get? b = some o → h'.get? b = some o) →
      Q (.ref s.heap.objs.size) { s with heap := h', toks := tk }) : wpAny (model prog w) A (call (.type "set") [.ref l]) Q E s := by
  obtain ⟨c0, t0, mro0⟩ := PySem.F.called_set.mro
  have made0 := PySem.F.called_set.made
  have sub0 := PySem.F.called_set.sub
  refine wpAny_call (codeAny_of_tree (show wpAny _ _ (callAny (.type "set") _) _ _ _ from ?_))
  refine wpAny_pure ⟨Code.quiet_builtin _ (by decide +kernel), codeAny_builtin PySem.F.entry_type_call ?_⟩
  rw [Around.under_plain (weight_type_call_type "set" [.ref l] []) rfl]
  have nt0 := PySem.F.called_set.notType
  have cc0 := PySem.F.called_set.canCreate
  have tc0 := PySem.F.typeCall_set_1 (.ref l)
  repeat (any_goals (first | assumption | wp_step))
  refine codeAny_mono (code_set_new_1 (.ref l) (E := E) (Q₁ := fun ob s1 => ∃ led : Bool, ob = .ref s.heap.objs.size ∧ s1 = { s with heap := s.heap.push (setOb led) }) fun led => ⟨led, rfl, rfl⟩) fun res s1 z => ?_
  match res, z with
  | .error e, z => exact z
  | .ok .next, z => exact z.elim
  | .ok .brk, z => exact z.elim
  | .ok .cont, z => exact z.elim
  | .ok (.ret ob), ⟨led, e1, e2⟩ =>
    subst e1
    subst e2
    have at0 : (s.heap.push (setOb led)).get? s.heap.objs.size = some (setOb led) := Heap.get?_push_size _ rfl
    have ty0 : Shared.TypeIs { s with heap := s.heap.push (setOb led) } (.ref s.heap.objs.size) "set" := ⟨_, at0, rfl⟩
    have li0 := PySem.F.called_set.init.lookup
    have bi0 := PySem.F.called_set.init.bind (.ref s.heap.objs.size)
    repeat (any_goals (first | assumption | wp_step))
    refine codeAny_mono (codeAny_call_builtin (R := wants (fun r s2 => r = .none ∧ ∃ h' tk, s2 = { s with heap := h', toks := tk } ∧ h'.SetOf (mixKind prog w) s.heap.objs.size (inK (metK [] ks)) (metK [] ks).length ∧
        (∀ b o, b < s.heap.objs.size → s.heap.get? b = some o → h'.get? b = some o)) E) PySem.F.called_set.init.plain PySem.F.entry_set_init (check_set_init_1 ty0 ?_)) fun res2 s2 z2 => ?_
    · obtain ⟨⟨cl, dc, dt, sl⟩, hol, hcl, nl, hdl⟩ := src
      simp only at hcl hdl
      subst hcl
      subst hdl
      have here : (s.heap.push (setOb led)).get? l = some { cls := .type "tuple", dict := dc, data := .seq items nl, slots := sl } := Heap.get?_push_of_some _ hol
      have su1 := PySem.F.sub_tuple_set
      have su2 := PySem.F.sub_tuple_frozenset
      have nd0 : (Value.type "tuple" == Value.type "dict") = false := by decide
      have src' : (s.heap.push (setOb led)).IsTuple l items := ⟨_, here, rfl, nl, rfl⟩
      unfold Builtin.«set.__init__» noKeywords Builtin.Frozenset.updateFrom
      generalize pz : pyIter = pzI
      wp_walk
      subst pz
      refine wpAny_pyIter_tuple src' (wpAny_bind (wpAny_runValue ?_))
      have below : l < s.heap.objs.size := Heap.lt_size hol
      have calm3 : A.in1.in1.in1.handled = none := by simp [calm]
      have sz1 : (s.heap.push (setOb led)).objs.size = s.heap.objs.size + 1 := Heap.size_push _ _
      have ne1 : l ≠ (s.heap.push (setOb led)).objs.size := by
        rw [sz1]
        exact Nat.ne_of_lt (Nat.lt_succ_of_lt below)
      have out : s.heap.objs.size ∉ [(s.heap.push (setOb led)).objs.size, l] := by
        rw [sz1]
        simp only [List.mem_cons, List.not_mem_nil, or_false, not_or]
        exact ⟨Nat.ne_of_lt (Nat.lt_succ_self _), Nat.ne_of_gt below⟩
      refine fill_loop ((Walks.tuple calm3 _ l ne1 items).toS) out len keys room items.size 0 _ (Nat.zero_add _) ⟨⟨_, Heap.get?_push_size _ rfl, rfl, rfl⟩, (src'.push _)⟩ ?_ fun s' mv end_ => ?_
      · have get0 : ((s.heap.push (setOb led)).push { cls := .type "tuple_iterator", data := .fields #[.ref l, .int 0 0] }).get? s.heap.objs.size = some (setOb led) := Heap.get?_push_of_some _ at0
        refine ⟨_, #[], 0, _, get0, ⟨rfl, rfl, rfl⟩, rfl, fun e z => absurd z (by simp), fun k => ?_, by decide, by rfl, rfl⟩
        simp [inK, metK]
      · obtain ⟨h', g', d', tk', os'⟩ := s'
        cases (show g' = s.gens from mv.gens)
        cases (show d' = s.drawn from mv.drawn)
        cases (show os' = s.os from mv.os)
        refine (show wpAny _ _ _ _ _ _ from wpAny_pure (show wpAny _ _ (ret Value.none) _ _ _ from wpAny_pure ⟨rfl, h', tk', rfl, end_, fun b o hb e => ?_⟩))
        refine mv.heap b o ?_ (Heap.get?_push_of_some _ (Heap.get?_push_of_some _ e))
        simp only [List.mem_cons, List.not_mem_nil, or_false, not_or]
        refine ⟨Nat.ne_of_lt hb, ?_⟩
        rw [sz1]
        exact Nat.ne_of_lt (Nat.lt_succ_of_lt hb)
    · match res2, z2 with
      | .error e, z2 => exact z2
      | .ok .next, z2 => exact z2.elim
      | .ok .brk, z2 => exact z2.elim
      | .ok .cont, z2 => exact z2.elim
      | .ok (.ret r), ⟨e1, h', tk, e2, end_, keep⟩ =>
        subst e1
        subst e2
        repeat (any_goals (first | assumption | wp_step))
        exact q _ _ end_ keep
end
end My
set_option Elab.async false
set_option linter.all false
set_option maxRecDepth 100000
set_option maxHeartbeats 4000000
/-! set(xs), len of a set, {.. for .. in t}: the rules and their turns. -/
namespace My
open PySem PySem.Spec PyProof.Rows L2
section
variable {X : Cx}
theorem vals_keys : ∀ {ks : List Key} {us : List Value}, Vals (ks.map kV) us → ∀ (i : Nat) (v : Value), us[i]? = some v → ∃ k, ks[i]? = some k ∧ keyIs k v = true
  | [], _, .nil, i, v, h => by simp at h
  | k :: r, _, .cons a b, 0, v, h => ⟨k, rfl, by
    cases h
    cases k with
    | inl i =>
      obtain ⟨t, rfl⟩ := a
      exact keyIs_int i t
    | inr x =>
      obtain ⟨t, rfl⟩ := a
      exact keyIs_str x t⟩
  | k :: r, _, .cons a b, i + 1, v, h => vals_keys b i v h
/-- set(xs) -/
def rSetOf (K : PySem.W.Frag) (P : Program) (w : World) : List V → Hp → VK → Prop := fun xs H Q => ∃ (a : Addr) (ks : List Key), xs = [.ref a] ∧ (SqL K H a (ks.map kV) ∨ SqT K H a (ks.map kV)) ∧ ks.length ≤ 1000 ∧
  ∀ p, H p = none → Q (.ref p) (upd H p (SetK P w p (inK (metK [] ks)) (metK [] ks).length))
theorem call_setOf (calm : X.calm = true) : CallR X (.type "set") (rSetOf X.K X.prog X.w) := by
  intro pins s σ H xs us Q I r h
  obtain ⟨a, ks, rfl, hs, hl, q⟩ := h
  obtain ⟨u, rfl, rx⟩ := vals1 r
  cases rx
  have fin : ∀ (h' : Heap) (tk : Nat), h'.SetOf (mixKind X.prog X.w) s.heap.objs.size (inK (metK [] ks)) (metK [] ks).length → (∀ b o, b < s.heap.objs.size → s.heap.get? b = some o → h'.get? b = some o) →
      EP X pins σ Q (.ref s.heap.objs.size) { s with heap := h', toks := tk } := fun h' tk R k =>
    ⟨.ref _, upd H s.heap.objs.size (SetK X.prog X.w s.heap.objs.size (inK (metK [] ks)) (metK [] ks).length), I.laid (t' := tk) (fun b o e => k b o (Heap.lt_size e) e) (Nat.le_refl _) (setK_new R), rfl, q _ (I.hok.fresh (Nat.le_refl _))⟩
  have sb : ks.length + 1 < scanBound := by unfold scanBound; omega
  rcases hs with hs | hs
  · obtain ⟨its, rv, pl, _⟩ := I.list hs
    have el : ks.length = its.toArray.size := by rw [List.size_toArray, ← rv.length, List.length_map]
    exact setFrom_list (I.ok.hd calm) pl.isList el (fun i v e => vals_keys rv i v (by simpa using e)) (by rw [← el]; exact sb) fin
  · obtain ⟨its, rv, pl, _⟩ := I.tuple hs
    have el : ks.length = its.toArray.size := by rw [List.size_toArray, ← rv.length, List.length_map]
    exact setFrom_tuple (I.ok.hd calm) pl el (fun i v e => vals_keys rv i v (by simpa using e)) (by rw [← el]; exact sb) fin
/-- len of a set -/
def rLenK (P : Program) (w : World) : List V → Hp → VK → Prop := fun xs H Q => ∃ (a : Addr) (S : Key → Bool) (n : Nat), xs = [.ref a] ∧ H a = some (SetK P w a S n) ∧ n ≤ 100000 ∧ Q (.int (n : Int)) H
theorem call_lenK : CallR X (.builtin "len") (rLenK X.prog X.w) := by
  intro pins s σ H xs us Q I r h
  obtain ⟨a, S, n, rfl, hs, hn, q⟩ := h
  obtain ⟨u, rfl, rx⟩ := vals1 r
  cases rx
  obtain ⟨o, es, ep, t, ho, hex, hd, _, _, _, hf, en⟩ := setK_get I hs
  exact call_len_set ho hex hd hf (by rw [en] <;> omega) ⟨.int (n : Int), H, I.tok _, ⟨_, by rw [en]⟩, q⟩
end
/-- a set comprehension over a tuple that the block leaves as it is -/
theorem setc_tup {P : Program} {w : World} {K : PySem.W.Frag} {a : Addr} {xs : List V} {g : TG} {te : TE} {vs : List Nat} {σ : L2.St} {H1 : Hp} {D : Addr} {Qd : Hp → Prop} (Pv : Nat → Hp → Prop) (h0 : Pv 0 (upd H1 D (SetK P w D noKeys 0)))
    (hl : ∀ i H, i ≤ xs.length → Pv i H → SqT K H a xs) (hs : ∀ i x H, xs[i]? = some x → Pv i H → g x (wipe σ vs) H fun σ2 H2 => wipe σ2 vs = wipe σ vs ∧ te σ2 H2 (keyEnd P w D (Pv (i + 1)))) (hd : ∀ H, Pv xs.length H → Qd H) :
    ∃ W : Nat → Nat → Hp → Prop, (∃ m, W 0 m (upd H1 D (SetK P w D noKeys 0))) ∧ ∀ i m H, W i m H → ((Itt K a).stop i H ∧ Qd H) ∨
      ((Itt K a).go i H ∧ ∃ Nx : Hp → Prop, (∀ H', Nx H' → ∃ m', m' < m ∧ W (i + 1) m' H') ∧ ∀ x H', (Itt K a).yld i H x H' → g x (wipe σ vs) H' fun σ2 H2 => wipe σ2 vs = wipe σ vs ∧ te σ2 H2 (keyEnd P w D Nx)) := by
  refine ⟨fun i m H => i + m = xs.length ∧ Pv i H, ⟨xs.length, Nat.zero_add _, h0⟩, fun i m H ⟨e, p⟩ => ?_⟩
  have there := hl i H (by omega) p
  cases m with
  | zero =>
    cases e
    exact .inl ⟨⟨xs, there, Nat.le_refl _⟩, hd H p⟩
  | succ m =>
    have lt : i < xs.length := by omega
    refine .inr ⟨⟨xs, xs[i], there, List.getElem?_eq_getElem lt⟩, Pv (i + 1), fun H' p' => ⟨m, Nat.lt_succ_self m, by omega, p'⟩, fun x H' y => ?_⟩
    obtain ⟨rfl, y⟩ := y
    exact hs i x _ (y xs there) p
end My
set_option Elab.async false
set_option linter.all false
set_option maxRecDepth 100000
set_option maxHeartbeats 4000000
namespace My
open PySem PySem.Spec PyProof.Rows L2 SeqAt
section
variable {X : Cx}
theorem op_eqNil (hu : X.A.units + 64 < cLine) : OpR X (compareOp .Eq) (rNil X.K id) := by
  intro pins s σ H x y v u Q I rx ry h
  obtain ⟨a, b, xs, rfl, rfl, h, q⟩ := h
  cases rx
  cases ry
  rcases h with ⟨ha, hb⟩ | ⟨ha, hb⟩
  · obtain ⟨its, rv, ⟨o, n, ho, hc, _, hd⟩, _⟩ := I.list ha
    obtain ⟨its2, rv2, ⟨o2, n2, ho2, hc2, _, hd2⟩, _⟩ := I.list hb
    cases vals_nil rv2
    have l1 : s.heap.IsList a its.toArray := ⟨o, ho, hc, n, hd⟩
    have l2 : s.heap.IsList b #[] := ⟨o2, ho2, hc2, n2, hd2⟩
    cases rv with
    | nil => exact RcAt.lists (e := fun _ => true) l1 l2 rfl (by omega) (fun j h1 => absurd h1 (Nat.not_lt_zero j)) _ _ _ _ ⟨.bl _, H, I, rfl, q⟩
    | cons r t => exact RcAt.lists_lengths l1 l2 (by simp) (by omega) _ _ _ _ ⟨.bl _, H, I, rfl, q⟩
  · obtain ⟨its, rv, ⟨o, ho, hc, n, hd⟩, _⟩ := I.tuple ha
    obtain ⟨its2, rv2, ⟨o2, ho2, hc2, n2, hd2⟩, _⟩ := I.tuple hb
    cases vals_nil rv2
    have l1 : s.heap.IsTuple a its.toArray := ⟨o, ho, hc, n, hd⟩
    have l2 : s.heap.IsTuple b #[] := ⟨o2, ho2, hc2, n2, hd2⟩
    refine RcAt.tuples (e := fun _ => true) l1 l2 (by omega) (fun j _ h2 => absurd h2 (Nat.not_lt_zero j)) _ _ _ _ ?_
    rw [show min its.toArray.size (#[] : Array Value).size = 0 from Nat.min_zero _]
    refine ⟨.bl xs.isEmpty, H, I, ?_, q⟩
    show Value.bool _ = Value.bool _
    rw [← vals_emp rv]
    simp
end
/-! ### a comprehension over anything of a known length -/
theorem lcJ {J : It} {n : Nat} {g : TG} {tt : TT} {te : TE} {vs : List Nat} {σ : L2.St} {H1 : Hp} {D : Addr} {Qd : Hp → Prop} (Pv : Nat → Hp → Prop) (h0 : Pv 0 (upd H1 D (.lst []))) (go : ∀ i H, i < n → Pv i H → J.go i H) (stop : ∀ H, Pv n H → J.stop n H)
    (hs : ∀ i H x H', i < n → Pv i H → J.yld i H x H' → g x (wipe σ vs) H' fun σ2 H2 => wipe σ2 vs = wipe σ vs ∧ tt σ2 H2 fun b H3 =>
      if b = true then te σ2 H3 fun y H4 => ∃ acc, H4 D = some (.lst acc) ∧ acc.length < sizeLine ∧ Pv (i + 1) (upd H4 D (.lst (acc ++ [y]))) else Pv (i + 1) H3) (hd : ∀ H, Pv n H → Qd H) :
    ∃ W : Nat → Nat → Hp → Prop, (∃ m, W 0 m (upd H1 D (.lst []))) ∧ ∀ i m H, W i m H → (J.stop i H ∧ Qd H) ∨
      (J.go i H ∧ ∃ Nx : Hp → Prop, (∀ H', Nx H' → ∃ m', m' < m ∧ W (i + 1) m' H') ∧ ∀ x H', J.yld i H x H' → g x (wipe σ vs) H' fun σ2 H2 => wipe σ2 vs = wipe σ vs ∧ tt σ2 H2 fun b H3 =>
        if b = true then te σ2 H3 fun y H4 => ∃ acc, H4 D = some (.lst acc) ∧ acc.length < sizeLine ∧ Nx (upd H4 D (.lst (acc ++ [y]))) else Nx H3) := by
  refine ⟨fun i m H => i + m = n ∧ Pv i H, ⟨n, Nat.zero_add _, h0⟩, fun i m H ⟨e, p⟩ => ?_⟩
  cases m with
  | zero =>
    cases e
    exact .inl ⟨stop H p, hd H p⟩
  | succ m => exact .inr ⟨go i H (by omega) p, Pv (i + 1), fun H' p' => ⟨m, Nat.lt_succ_self m, by omega, p'⟩, fun x H' y => hs i H x H' (by omega) p y⟩
/-- .. over a text's signs, no test -/
def lcN_str {x : Str} {te : TE} {vs : List Nat} {σ : L2.St} {H1 : Hp} {D : Addr} {Qd : Hp → Prop} {j : Nat} (Pv : Nat → Hp → Prop) (h0 : Pv 0 (upd H1 D (.lst [])))
    (hs : ∀ i c H, x.cps.toList[i]? = some c → Pv i H → wipe ((wipe σ vs).set j (some (.str (sign c)))) vs = wipe σ vs ∧ Grows te D (Pv (i + 1)) ((wipe σ vs).set j (some (.str (sign c)))) H) (hd : ∀ H, Pv x.length H → Qd H) :=
  lcJ (J := Its x) (n := x.length) (g := gName j) (tt := tYes) (te := te) (vs := vs) (σ := σ) (H1 := H1) (D := D) (Qd := Qd) Pv h0 (fun i H lt _ => lt) (fun H _ => Nat.le_refl _)
    (fun i H v H' lt p y => by
      obtain ⟨rfl, c, e, rfl⟩ := y
      have e' : x.cps.toList[i]? = some c := by rw [Array.getElem?_toList]; exact e
      exact yes_turn (hs i c _ e' p).1 (hs i c _ e' p).2) hd
/-- .. with a test whose answer is known and which leaves the heap -/
def lcT_str {x : Str} {tt : TT} {te : TE} {vs : List Nat} {σ : L2.St} {H1 : Hp} {D : Addr} {Qd : Hp → Prop} {j : Nat} (b : Nat → Bool) (Pv : Nat → Hp → Prop) (h0 : Pv 0 (upd H1 D (.lst [])))
    (hs : ∀ i c H, x.cps.toList[i]? = some c → Pv i H → wipe ((wipe σ vs).set j (some (.str (sign c)))) vs = wipe σ vs ∧ (∀ Q : Bool → Hp → Prop, Q (b c) H → tt ((wipe σ vs).set j (some (.str (sign c)))) H Q) ∧
      (b c = true → Grows te D (Pv (i + 1)) ((wipe σ vs).set j (some (.str (sign c)))) H) ∧ (b c = false → Pv (i + 1) H)) (hd : ∀ H, Pv x.length H → Qd H) :=
  lcJ (J := Its x) (n := x.length) (g := gName j) (tt := tt) (te := te) (vs := vs) (σ := σ) (H1 := H1) (D := D) (Qd := Qd) Pv h0 (fun i H lt _ => lt) (fun H _ => Nat.le_refl _)
    (fun i H v H' lt p y => by
      obtain ⟨rfl, c, e, rfl⟩ := y
      have e' : x.cps.toList[i]? = some c := by rw [Array.getElem?_toList]; exact e
      obtain ⟨w1, w2, w3, w4⟩ := hs i c _ e' p
      refine ⟨w1, w2 _ ?_⟩
      cases hb : b c with
      | true => exact iteT (w3 hb)
      | false => exact iteF (w4 hb)) hd

/-! ### kinds -/
def kindD : PyData → String
  | .none => "NoneType"
  | .bool _ => "bool"
  | .int _ => "int"
  | .str _ => "str"
  | .list _ => "list"
  | .tuple _ => "tuple"
  | .dict _ => "dict"
theorem da_ty {K : PySem.W.Frag} {p : Addr} {H : Hp} : ∀ {d : PyData} {v : V}, Da K p H v d → TyX K H v (.type (kindD d))
  | _, _, .non => .base .non
  | _, _, .bl b => .base (.bl b)
  | _, _, .int i => .base (.int i)
  | _, _, .str x => .base (.str x)
  | _, _, .lst _ h _ => by
    rcases h with (h | ⟨o, h⟩) | ⟨o, its, n, h, c, _⟩
    · exact .base (.lst h)
    · exact .base (.frz h)
    · exact .kList h c
  | _, _, .tup h _ => by
    rcases h with (h | ⟨o, h⟩) | ⟨o, its, n, h, c, _⟩
    · exact .base (.tup h)
    · exact .fTuple h
    · exact .kTuple h c
  | _, _, .dct _ h _ => .base (.dK h)
def isStr : PyData → Bool
  | .str _ => true
  | _ => false
def isTup : PyData → Bool
  | .tuple _ => true
  | _ => false
def isInt : PyData → Bool
  | .int _ => true
  | .bool _ => true
  | _ => false
def isBool : PyData → Bool
  | .bool _ => true
  | _ => false
theorem kit_str : ∀ d : PyData, kitB (kindD d) "str" = some (isStr d)
  | .none => (show kitB "NoneType" "str" = some false by decide +kernel)
  | .bool _ => (show kitB "bool" "str" = some false by decide +kernel)
  | .int _ => (show kitB "int" "str" = some false by decide +kernel)
  | .str _ => (show kitB "str" "str" = some true by decide +kernel)
  | .list _ => (show kitB "list" "str" = some false by decide +kernel)
  | .tuple _ => (show kitB "tuple" "str" = some false by decide +kernel)
  | .dict _ => (show kitB "dict" "str" = some false by decide +kernel)
theorem kit_tuple : ∀ d : PyData, kitB (kindD d) "tuple" = some (isTup d)
  | .none => (show kitB "NoneType" "tuple" = some false by decide +kernel)
  | .bool _ => (show kitB "bool" "tuple" = some false by decide +kernel)
  | .int _ => (show kitB "int" "tuple" = some false by decide +kernel)
  | .str _ => (show kitB "str" "tuple" = some false by decide +kernel)
  | .list _ => (show kitB "list" "tuple" = some false by decide +kernel)
  | .tuple _ => (show kitB "tuple" "tuple" = some true by decide +kernel)
  | .dict _ => (show kitB "dict" "tuple" = some false by decide +kernel)
theorem kit_int : ∀ d : PyData, kitB (kindD d) "int" = some (isInt d)
  | .none => (show kitB "NoneType" "int" = some false by decide +kernel)
  | .bool _ => (show kitB "bool" "int" = some true by decide +kernel)
  | .int _ => (show kitB "int" "int" = some true by decide +kernel)
  | .str _ => (show kitB "str" "int" = some false by decide +kernel)
  | .list _ => (show kitB "list" "int" = some false by decide +kernel)
  | .tuple _ => (show kitB "tuple" "int" = some false by decide +kernel)
  | .dict _ => (show kitB "dict" "int" = some false by decide +kernel)
theorem kit_bool : ∀ d : PyData, kitB (kindD d) "bool" = some (isBool d)
  | .none => (show kitB "NoneType" "bool" = some false by decide +kernel)
  | .bool _ => (show kitB "bool" "bool" = some true by decide +kernel)
  | .int _ => (show kitB "int" "bool" = some false by decide +kernel)
  | .str _ => (show kitB "str" "bool" = some false by decide +kernel)
  | .list _ => (show kitB "list" "bool" = some false by decide +kernel)
  | .tuple _ => (show kitB "tuple" "bool" = some false by decide +kernel)
  | .dict _ => (show kitB "dict" "bool" = some false by decide +kernel)
section
variable {K : PySem.W.Frag} {p : Addr} {H : Hp} {v : V} {d : PyData} {Q : VK}
theorem isi_str (h : Da K p H v d) (q : Q (.bl (isStr d)) H) : rIsi K [v, .ty "str"] H Q := ⟨v, _, _, _, _, rfl, .ty _, da_ty h, kit_ty (kit_str d), q⟩
theorem isi_tup (h : Da K p H v d) (q : Q (.bl (isTup d)) H) : rIsi K [v, .ty "tuple"] H Q := ⟨v, _, _, _, _, rfl, .ty _, da_ty h, kit_ty (kit_tuple d), q⟩
theorem isi_int (h : Da K p H v d) (q : Q (.bl (isInt d)) H) : rIsi K [v, .ty "int"] H Q := ⟨v, _, _, _, _, rfl, .ty _, da_ty h, kit_ty (kit_int d), q⟩
theorem isi_bool (h : Da K p H v d) (q : Q (.bl (isBool d)) H) : rIsi K [v, .ty "bool"] H Q := ⟨v, _, _, _, _, rfl, .ty _, da_ty h, kit_ty (kit_bool d), q⟩
end
end My
set_option Elab.async false
set_option linter.all false
set_option maxRecDepth 100000
set_option maxHeartbeats 4000000
namespace My
open PySem PySem.Spec PyProof.Rows L2

/-! ### what is a name, an integer, an end, a row -/
def lowC (c : Nat) : Bool := decide (97 ≤ c ∧ c ≤ 122)
def nmS (x : Str) : Bool := decide (1 ≤ x.length ∧ x.length ≤ 8) && x.cps.toList.all lowC
def nmD : PyData → Bool
  | .str x => nmS x
  | _ => false
def intD : PyData → Bool
  | .int _ => true
  | _ => false
theorem mem_abc (c : Nat) : decide (c ∈ abc.cps.toList) = lowC c := by
  rw [abc_codes]
  unfold lowC
  by_cases h : 97 ≤ c ∧ c ≤ 122
  · rw [decide_eq_true h, decide_eq_true (List.mem_map.mpr ⟨c - 97, List.mem_range.mpr (by omega), by omega⟩)]
  · rw [decide_eq_false h, decide_eq_false fun z => ?_]
    obtain ⟨j, hj, rfl⟩ := List.mem_map.mp z
    have := List.mem_range.mp hj
    exact h (by omega)
/-- texts and lists of a length that the model carries -/
def fitS (x : Str) : Prop := x.length ≤ 100000

section
variable {P : Program} {w : World} {K : PySem.W.Frag} {mg : Str → Option Value} {base : Heap} {t1 t2 : Tok}
def spIsInt (K : PySem.W.Frag) : Sp := fun vs H Q _ => ∃ (p : Addr) (v : V) (d : PyData), vs = [v] ∧ Da K p H v d ∧ Q (.bl (intD d)) H
/-- the names of the module that these defs read -/
structure Glb (mg : Str → Option Value) : Prop where
  isi : mg "isinstance" = none
  int : mg "int" = none
  bool : mg "bool" = none
  str : mg "str" = none
  tuple : mg "tuple" = none
  list : mg "list" = none
  len : mg "len" = none
  all : mg "all" = none
  set : mg "set" = none
  range : mg "range" = none
  abs : mg "abs" = none
  repr : mg "repr" = none
theorem ok_isint {f : Addr} {fd : FuncData} (F : Fun K "is_integer" "is_integer" sIsInt f fd) (B : Glb mg) : FnOk P w K mg base CX0 1 f fd ["value"] (spIsInt K) := by
  refine F.ok scIsInt (fun vs H Q E h => ?_) (fun cdv A outer s H vs Q E hr h => ?_)
  · obtain ⟨p, v, d, rfl, _⟩ := h
    rfl
  · obtain ⟨p, v, d, rfl, D, q⟩ := h
    refine ⟨_, pss_one (ps_ret (pe_and (pe_callB call_isi (by rfl) B.isi boot_isinstance (pa_cons (pv 0) (pa_cons (pe_bltn (v := .ty "int") (by rfl) B.int boot_int rfl) pa_nil)))
      (pe_one (pe_not (pe_callB call_isi (by rfl) B.isi boot_isinstance (pa_cons (pv 0) (pa_cons (pe_bltn (v := .ty "bool") (by rfl) B.bool boot_bool rfl) pa_nil))))))), ?_⟩
    refine ⟨_, rfl, v, _, _, _, _, rfl, .ty _, da_ty D, kit_ty (kit_int d), _, rfl, ?_⟩
    cases hi : isInt d with
    | true =>
      refine iteT ⟨_, rfl, v, _, _, _, _, rfl, .ty _, da_ty D, kit_ty (kit_bool d), _, rfl, ?_⟩
      have e : (!isBool d) = intD d := by cases d <;> first | rfl | cases hi
      rw [e]
      exact q
    | false =>
      refine iteF ?_
      have e : false = intD d := by cases d <;> first | rfl | cases hi
      rw [e]
      exact q
/-- is_name: of any value, for texts of a length that is carried; nothing that is tracked changes -/
def spIsName (K : PySem.W.Frag) : Sp := fun vs H Q _ => ∃ (p : Addr) (v : V) (d : PyData), vs = [v] ∧ Da K p H v d ∧ (∀ x, d = .str x → x.length ≤ 100000) ∧ ∀ H', Same H H' → Q (.bl (nmD d)) H'
theorem str_case {d : PyData} (h : isStr d = true) : ∃ x, d = .str x := by cases d <;> first | exact ⟨_, rfl⟩ | cases h
theorem nm_not {d : PyData} (h : isStr d = false) : nmD d = false := by cases d <;> first | rfl | cases h
theorem all_map (f : Nat → Bool) : ∀ l : List Nat, ((l.map f).all id) = l.all f
  | [] => rfl
  | c :: r => by rw [List.map_cons, List.all_cons, List.all_cons, all_map f r]; rfl
theorem ok_isname {f : Addr} {fd : FuncData} (F : Fun K "is_name" "is_name" sIsName f fd) (B : Glb mg) (g1 : mg "NAME_LENGTH" = some (.int 8 t1)) (g2 : mg "LETTERS" = some (.str abc t2)) : FnOk P w K mg base CX0 1 f fd ["value"] (spIsName K) := by
  refine F.ok scIsName (fun vs H Q E h => ?_) (fun cdv A outer s H vs Q E hr h => ?_)
  · obtain ⟨p, v, d, rfl, _⟩ := h
    rfl
  · obtain ⟨p, v, d, rfl, D, hx, q⟩ := h
    refine ⟨_, pss_cons (ps_if (PW.pt (pw_or (pt_not (pt_val (pe_callB call_isi (by rfl) B.isi boot_isinstance (pa_cons (pv 0) (pa_cons (pe_bltn (v := .ty "str") (by rfl) B.str boot_str rfl) pa_nil)))))
        (pw_or1 (pt_not (pt_chain op_le op_le pe_int (pe_callB call_len (by rfl) B.len PySem.boot_len (pa_cons (pv 0) pa_nil)) (pe_glob (v := .int 8) (by rfl) g1 ⟨_, rfl⟩)))))) (pss_one (ps_ret pe_bl)) pss_nil)
      (pss_one (ps_ret (pe_callB (cr_all rfl) (by rfl) B.all (by decide +kernel) (pa_cons (pe_lc (own := [("letter", 1)]) (g := gName 1) (tt := tYes) rfl scIsName.nd (pi_str (pv 0))
        (blkOk_by (own := [("letter", 1)]) (N := ["value", "letter"]) (sc := defScope sIsName) (by decide +kernel)) (fun _ _ _ _ _ => pg_name (i := 1) scIsName.nd rfl (Or.inl rfl)) (fun _ _ _ _ _ => pts_nil)
        (fun _ _ _ _ _ => pe_cmpR op_in_sign (pv 1) (pe_glob (v := .str abc) (by rfl) g2 ⟨_, rfl⟩) (by rfl))) pa_nil)))), ?_⟩
    refine ⟨_, rfl, v, _, _, _, _, rfl, .ty _, da_ty D, kit_ty (kit_str d), _, rfl, ?_⟩
    cases hi : isStr d with
    | false =>
      refine iteT ?_
      rw [← nm_not hi]
      exact q H (.refl H)
    | true =>
      obtain ⟨x, rfl⟩ := str_case hi
      cases D
      have hxl := hx x rfl
      have e0 : nmD (.str x) = nmS x := rfl
      refine iteF ⟨_, rfl, .str x, x.length, rfl, ⟨Evl.sz_of hxl, rfl⟩, _, _, rfl, rfl, _, rfl, ?_⟩
      have e1 : decide ((1 : Int) ≤ (x.length : Int)) = decide (1 ≤ x.length) := decide_eq_decide.mpr (by omega)
      have e2 : decide ((x.length : Int) ≤ (8 : Int)) = decide (x.length ≤ 8) := decide_eq_decide.mpr (by omega)
      rw [e1]
      by_cases h1 : 1 ≤ x.length
      · rw [decide_eq_true h1]
        refine iteT ⟨_, _, rfl, rfl, _, rfl, ?_⟩
        rw [e2]
        by_cases h8 : x.length ≤ 8
        · rw [decide_eq_true h8]
          refine iteF ⟨_, rfl, x, rfl, fun Dl hD => ?_⟩
          refine lcN_str (x := x) (fun i H' => H' Dl = some (.lst (((x.cps.toList.take i).map lowC).map V.bl)) ∧ Same H H') ⟨upd_same, same_new hD⟩ (fun i c H' hc hp => ⟨rfl, ?_⟩) (fun H' hp => ?_)
          · refine ⟨_, rfl, c, abc, rfl, rfl, _, hp.1, Evl.sz_lt ?_, ?_, ?_⟩
            · rw [List.length_map, List.length_map, List.length_take]
              have := str_len x
              omega
            · rw [upd_same, mem_abc, List.take_add_one, hc, List.map_append, List.map_append]
              rfl
            · intro b o e
              rw [upd_ne (ne_of_none e hD)]
              exact hp.2 b o e
          · obtain ⟨eD, sm⟩ := hp
            rw [str_len, List.take_length] at eD
            refine ⟨Dl, x.cps.toList.map lowC, rfl, .inl (.inl eD), ?_⟩
            rw [all_map]
            have e : x.cps.toList.all lowC = nmD (.str x) := by
              rw [e0, nmS, decide_eq_true ⟨h1, h8⟩]
              rfl
            rw [e]
            exact q H' sm
        · rw [decide_eq_false h8]
          refine iteT ?_
          have e : false = nmD (.str x) := by rw [e0, nmS, decide_eq_false fun z => h8 z.2]; rfl
          rw [e]
          exact q H (.refl H)
      · rw [decide_eq_false h1]
        refine iteF ⟨_, rfl, iteT ?_⟩
        have e : false = nmD (.str x) := by rw [e0, nmS, decide_eq_false fun z => h1 z.1]; rfl
        rw [e]
        exact q H (.refl H)

/-! ### a tuple of a name and a number -/
def inD (ns : List Int) : PyData → Bool
  | .int i => decide (i ∈ ns)
  | _ => false
def withD (ns : List Int) : PyData → Bool
  | .tuple [a, b] => nmD a && (intD b && inD ns b)
  | _ => false
/-- the texts of a value, its lists and dicts are of a length that is carried -/
def Fit : PyData → Prop
  | .str x => x.length ≤ 100000
  | .tuple ds => ds.length ≤ 100000
  | .list ds => ds.length ≤ 100000
  | _ => True
def Fit1 (d : PyData) : Prop := Fit d ∧ ∀ ds, d = .tuple ds → ∀ e ∈ ds, Fit e
def spIsWith (K : PySem.W.Frag) : Sp := fun vs H Q _ => ∃ (p b : Addr) (v : V) (d : PyData) (ns : List Int), vs = [v, .ref b] ∧ Da K p H v d ∧ Fit1 d ∧ SqT K H b (ns.map V.int) ∧ ∀ H', Same H H' → Q (.bl (withD ns d)) H'
theorem in_ints (i : Int) : ∀ ns : List Int, inV (.int i) (ns.map V.int) = decide (i ∈ ns)
  | [] => rfl
  | n :: r => by
    have ih := in_ints i r
    unfold inV at ih ⊢
    rw [List.map_cons, List.any_cons, ih]
    by_cases e : n = i
    · subst e
      have : eqV (V.int n) (V.int n) = true := by unfold eqV; simp
      simp [this]
    · have : eqV (V.int n) (V.int i) = false := by unfold eqV; simpa using e
      have e' : ¬ i = n := fun z => e z.symm
      simp [this, e']
theorem flat_ints : ∀ ns : List Int, (ns.map V.int).all flatV = true
  | [] => rfl
  | n :: r => by rw [List.map_cons, List.all_cons, flat_ints r]; rfl
theorem ok_iswith {f fI fN : Addr} {fd dI dN : FuncData} (F : Fun K "is_name_with" "is_name_with" sIsWith f fd) (B : Glb mg) (GI : FnOk P w K mg base CX0 1 fI dI ["value"] (spIsInt K)) (gI : mg "is_integer" = some (.ref fI)) (kI : PySem.W.keepIn K (.ref fI) = true) (bI : Binds K dI ["value"] [])
    (GN : FnOk P w K mg base CX0 1 fN dN ["value"] (spIsName K)) (gN : mg "is_name" = some (.ref fN)) (kN : PySem.W.keepIn K (.ref fN) = true) (bN : Binds K dN ["value"] []) : FnOk P w K mg base CX0 2 f fd ["value", "numbers"] (spIsWith K) := by
  refine F.ok scIsWith (fun vs H Q E h => ?_) (fun cdv A outer s H vs Q E hr h => ?_)
  · obtain ⟨p, b, v, d, ns, rfl, _⟩ := h
    rfl
  · obtain ⟨p, b, v, d, ns, rfl, D, hf, hb, q⟩ := h
    refine ⟨_, pss_cons (ps_if (PW.pt (pw_or (pt_not (pt_val (pe_callB call_isi (by rfl) B.isi boot_isinstance (pa_cons (pv 0) (pa_cons (pe_bltn (v := .ty "tuple") (by rfl) B.tuple boot_tuple rfl) pa_nil)))))
        (pw_or1 (pt_cmpR op_ne (pe_callB call_len (by rfl) B.len PySem.boot_len (pa_cons (pv 0) pa_nil)) pe_int (nomark _))))) (pss_one (ps_ret pe_bl)) pss_nil)
      (pss_one (ps_ret (pe_and (pe_call GN hr (by rfl) gN kN bN .nil pass0 (pa_cons (pe_ix ix_tup (pv 0) pe_int (fun _ _ => rfl)) pa_nil))
        (pe_and (pe_call GI hr (by rfl) gI kI bI .nil pass0 (pa_cons (pe_ix ix_tup (pv 0) pe_int (fun _ _ => rfl)) pa_nil))
        (pe_one (pe_cmpR op_in_seq (pe_ix ix_tup (pv 0) pe_int (fun _ _ => rfl)) (pv 1) (by rfl))))))), ?_⟩
    refine ⟨_, rfl, v, _, _, _, _, rfl, .ty _, da_ty D, kit_ty (kit_tuple d), _, rfl, ?_⟩
    cases hi : isTup d with
    | false =>
      refine iteT ?_
      have e : false = withD ns d := by cases d <;> first | rfl | cases hi
      rw [e]
      exact q H (.refl H)
    | true =>
      obtain ⟨ds, rfl⟩ : ∃ ds, d = .tuple ds := by cases d <;> first | exact ⟨_, rfl⟩ | cases hi
      obtain ⟨hf0, hf1⟩ := hf
      cases D with
      | @tup a xs _ hs hd =>
        have hl := hd.length
        refine iteF ⟨_, rfl, .ref a, xs.length, rfl, .inr ⟨_, hs, rfl⟩, rfl, _, rfl, ?_⟩
        by_cases h2 : xs.length = 2
        · rw [h2]
          refine iteF ?_
          obtain ⟨d1, d2, rfl⟩ : ∃ d1 d2, ds = [d1, d2] := by
            rw [h2] at hl
            match ds, hl with
            | [x, y], _ => exact ⟨x, y, rfl⟩
          cases hd with
          | @cons x1 xr _ _ D1 hd =>
            cases hd with
            | @cons x2 xr _ _ D2 hd =>
              cases hd
              have i0 : atI [x1, x2] 0 = some x1 := atI_nat (j := 0) rfl
              have i1 : atI [x1, x2] 1 = some x2 := atI_nat (j := 1) rfl
              refine ⟨_, rfl, a, _, _, _, rfl, rfl, hs, i0, p, x1, d1, rfl, D1, fun x e => (by have := hf1 _ rfl d1 List.mem_cons_self; rw [e] at this; exact this), fun H1 s1 => ⟨_, rfl, ?_⟩⟩
              have ew : withD ns (.tuple [d1, d2]) = (nmD d1 && (intD d2 && inD ns d2)) := rfl
              cases hn : nmD d1 with
              | false =>
                refine iteF ?_
                rw [show false = withD ns (.tuple [d1, d2]) by rw [ew, hn]; rfl]
                exact q H1 s1
              | true =>
                refine iteT ?_
                refine ⟨_, rfl, a, _, _, _, rfl, rfl, s1.keepsT _ _ hs, i1, p, x2, d2, rfl, da_keep s1.keepA D2, _, rfl, ?_⟩
                cases hj : intD d2 with
                | false =>
                  refine iteF ?_
                  rw [show false = withD ns (.tuple [d1, d2]) by rw [ew, hn, hj]; rfl]
                  exact q H1 s1
                | true =>
                  obtain ⟨i, rfl⟩ : ∃ i, d2 = .int i := by cases d2 <;> first | exact ⟨_, rfl⟩ | cases hj
                  cases D2
                  refine iteT ⟨_, rfl, a, _, _, _, rfl, rfl, s1.keepsT _ _ hs, i1, _, rfl, b, _, rfl, .inr (s1.keepsT _ _ hb), rfl, flat_ints ns, ?_⟩
                  show Q (.bl (if false = true then !inV (.int i) (ns.map V.int) else inV (.int i) (ns.map V.int))) H1
                  rw [if_neg Bool.false_ne_true, in_ints, show decide (i ∈ ns) = withD ns (.tuple [d1, .int i]) by rw [ew, hn]; rfl]
                  exact q H1 s1
        · have e1 : decide (V.int (xs.length : Int) = V.int 2) = false := decide_eq_false fun z => h2 (by have := V.int.inj z; omega)
          rw [e1]
          refine iteT ?_
          have e : false = withD ns (.tuple ds) := by
            match ds, hl with
            | [], _ => rfl
            | [_], _ => rfl
            | [_, _], z => exact absurd z h2
            | _ :: _ :: _ :: _, _ => rfl
          rw [e]
          exact q H (.refl H)
end
end My
set_option Elab.async false
set_option linter.all false
set_option maxRecDepth 100000
set_option maxHeartbeats 4000000
namespace My
open PySem PySem.Spec PyProof.Rows L2
open Classical in
theorem withKey_met (xs : List Key) (k : Key) : withKey (inK (metK [] xs)) k = inK (metK [] (xs ++ [k])) := by
  funext j
  unfold withKey inK
  rw [metK_snoc]
  by_cases z : k ∈ metK [] xs
  · rw [if_pos z]
    by_cases e : j = k
    · subst e
      simp [z]
    · simp [e]
  · rw [if_neg z]
    by_cases e : j = k
    · simp [e]
    · simp [e]
open Classical in
theorem more_met (xs : List Key) (k : Key) : more (inK (metK [] xs)) k (metK [] xs).length = (metK [] (xs ++ [k])).length := by
  unfold more inK
  rw [metK_snoc]
  by_cases z : k ∈ metK [] xs
  · rw [if_pos z, if_pos (decide_eq_true z)]
  · rw [if_neg z, if_neg (by simpa using z), List.length_append]
    rfl
def fstK : PyData → Key
  | .tuple (.str x :: _) => .inr x
  | _ => .inl 0
noncomputable def cntK (ds : List PyData) : Nat := (metK [] (ds.map fstK)).length
open Classical in
noncomputable def isRowD : PyData → Bool
  | .tuple ds => decide (ds.length ≤ 30) && (ds.all (withD [1, -1]) && decide (cntK ds = ds.length))
  | _ => false
theorem isRowD_not {d : PyData} (h : isTup d = false) : isRowD d = false := by cases d <;> first | (simp only [isRowD]; done) | cases h
def Fit2 (d : PyData) : Prop := Fit d ∧ ∀ ds, d = .tuple ds → ∀ e ∈ ds, Fit1 e
theorem with_shape {ns : List Int} {d : PyData} (h : withD ns d = true) : ∃ x i, d = .tuple [.str x, .int i] ∧ nmS x = true ∧ i ∈ ns := by
  match d, h with
  | .tuple [a, b], h =>
    have h1 : nmD a = true ∧ intD b = true ∧ inD ns b = true := by simpa [withD] using h
    obtain ⟨h1, h2, h3⟩ := h1
    match a, b, h1, h2, h3 with
    | .str x, .int i, h1, _, h3 => exact ⟨x, i, rfl, h1, of_decide_eq_true h3⟩
section
variable {P : Program} {w : World} {K : PySem.W.Frag} {mg : Str → Option Value} {base : Heap} {t1 t2 t3 : Tok}
def spKind (K : PySem.W.Frag) (g : PyData → Bool) : Sp := fun vs H Q _ => ∃ (p : Addr) (v : V) (d : PyData), vs = [v] ∧ Da K p H v d ∧ Fit1 d ∧ ∀ H', Same H H' → Q (.bl (g d)) H'
theorem ok_isdir {f fW : Addr} {fd dW : FuncData} (F : Fun K "is_directed" "is_directed" sIsDir f fd) (GW : FnOk P w K mg base CX0 2 fW dW ["value", "numbers"] (spIsWith K)) (gW : mg "is_name_with" = some (.ref fW)) (kW : PySem.W.keepIn K (.ref fW) = true) (bW : Binds K dW ["value", "numbers"] []) :
    FnOk P w K mg base CX0 3 f fd ["value"] (spKind K (withD [1, -1])) := by
  refine F.ok scIsDir (fun vs H Q E h => ?_) (fun cdv A outer s H vs Q E hr h => ?_)
  · obtain ⟨p, v, d, rfl, _⟩ := h
    rfl
  · obtain ⟨p, v, d, rfl, D, hf, q⟩ := h
    refine ⟨_, pss_one (ps_ret (pe_call GW hr (by rfl) gW kW bW .nil pass0 (pa_cons (pv 0) (pa_cons (pe_tup (pa_cons pe_int (pa_cons (pe_un un_neg pe_int) pa_nil))) pa_nil)))), ?_⟩
    refine ⟨_, rfl, _, rfl, by show 2 ≤ sizeLine; decide, fun b hb => ?_⟩
    have sb := same_new (o := HO.tup [.int 1, .int (-1)]) hb
    exact ⟨p, b, v, d, [1, -1], rfl, da_keep sb.keepA D, hf, .inl (.inl upd_same), fun H' s => q H' (sb.trans s)⟩
def spIsRow (K : PySem.W.Frag) : Sp := fun vs H Q _ => ∃ (p : Addr) (v : V) (d : PyData), vs = [v] ∧ Da K p H v d ∧ Fit2 d ∧ ∀ H', Same H H' → Q (.bl (isRowD d)) H'
theorem all_with (g : PyData → Bool) : ∀ l : List PyData, ((l.map g).all id) = l.all g
  | [] => rfl
  | c :: r => by rw [List.map_cons, List.all_cons, List.all_cons, all_with g r]; rfl
open Classical in
theorem ok_isrow {f fD : Addr} {fd dD : FuncData} (F : Fun K "is_row" "is_row" sIsRow f fd) (B : Glb mg) (g3 : mg "MOST_WAGONS" = some (.int 30 t3)) (GD : FnOk P w K mg base CX0 3 fD dD ["value"] (spKind K (withD [1, -1]))) (gD : mg "is_directed" = some (.ref fD)) (kD : PySem.W.keepIn K (.ref fD) = true)
    (bD : Binds K dD ["value"] []) : FnOk P w K mg base CX0 4 f fd ["value"] (spIsRow K) := by
  refine F.ok scIsRow (fun vs H Q E h => ?_) (fun cdv A outer s H vs Q E hr h => ?_)
  · obtain ⟨p, v, d, rfl, _⟩ := h
    rfl
  · obtain ⟨p, v, d, rfl, D, hf, q⟩ := h
    refine ⟨_, pss_cons (ps_if (PW.pt (pw_or (pt_not (pt_val (pe_callB call_isi (by rfl) B.isi boot_isinstance (pa_cons (pv 0) (pa_cons (pe_bltn (v := .ty "tuple") (by rfl) B.tuple boot_tuple rfl) pa_nil)))))
        (pw_or1 (pt_cmpR op_gt (pe_callB call_len (by rfl) B.len PySem.boot_len (pa_cons (pv 0) pa_nil)) (pe_glob (v := .int 30) (by rfl) g3 ⟨_, rfl⟩) (nomark _))))) (pss_one (ps_ret pe_bl)) pss_nil)
      (pss_cons (ps_if (pt_not (pt_val (pe_callB (cr_all rfl) (by rfl) B.all (by decide +kernel) (pa_cons (pe_lc (own := [("wagon", 1)]) (g := gName 1) (tt := tYes) rfl scIsRow.nd (pi_tup (pv 0))
          (blkOk_by (own := [("wagon", 1)]) (N := ["value", "wagon", "name", "_"]) (sc := defScope sIsRow) (by decide +kernel)) (fun _ _ _ _ _ => pg_name (i := 1) scIsRow.nd rfl (Or.inl rfl)) (fun _ _ _ _ _ => pts_nil)
          (fun _ _ _ _ _ => pe_call GD hr (by rfl) gD kD bD .nil pass0 (pa_cons (pv 1) pa_nil))) pa_nil)))) (pss_one (ps_ret pe_bl)) pss_nil)
      (pss_one (ps_ret (pe_cmpR op_eq (pe_callB call_lenK (by rfl) B.len PySem.boot_len (pa_cons (pe_setc (own := [("name", 2), ("_", 3)]) (g := gTup K 2 (gCons (gName 2) (gCons (gName 3) gNil))) rfl scIsRow.nd (pi_tup (pv 0))
          (blkOk_by (own := [("name", 2), ("_", 3)]) (N := ["value", "wagon", "name", "_"]) (sc := defScope sIsRow) (by decide +kernel))
          (fun _ _ _ _ _ => pg_tup rfl (pgs_cons (pg_name (i := 2) scIsRow.nd rfl (Or.inl rfl) (Or.inr rfl)) (pgs_cons (pg_name (i := 3) scIsRow.nd rfl (Or.inl rfl) (Or.inr rfl)) pgs_nil)))
          (fun _ _ _ _ _ => pv 2)) pa_nil)) (pe_callB call_len (by rfl) B.len PySem.boot_len (pa_cons (pv 0) pa_nil)) (nomark _))))), ?_⟩
    refine ⟨_, rfl, v, _, _, _, _, rfl, .ty _, da_ty D, kit_ty (kit_tuple d), _, rfl, ?_⟩
    cases hi : isTup d with
    | false =>
      refine iteT ?_
      rw [← isRowD_not hi]
      exact q H (.refl H)
    | true =>
      obtain ⟨ds, rfl⟩ : ∃ ds, d = .tuple ds := by cases d <;> first | exact ⟨_, rfl⟩ | cases hi
      obtain ⟨hf0, hf1⟩ := hf
      cases D with
      | @tup a xs _ hs hd =>
        have hl := hd.length
        have er : isRowD (.tuple ds) = (decide (ds.length ≤ 30) && (ds.all (withD [1, -1]) && decide (cntK ds = ds.length))) := rfl
        refine iteF ⟨_, rfl, .ref a, xs.length, rfl, .inr ⟨_, hs, rfl⟩, _, _, rfl, rfl, _, rfl, ?_⟩
        by_cases h30 : ds.length ≤ 30
        · rw [decide_eq_false (by omega)]
          refine iteF ⟨_, rfl, a, rfl, ⟨_, hs⟩, fun Dl hD => ?_⟩
          refine lcN_tup (K := K) (a := a) (xs := xs) (fun i H' => H' Dl = some (.lst (((ds.take i).map (withD [1, -1])).map V.bl)) ∧ Same H H') ⟨upd_same, same_new hD⟩ (fun i H' _ hp => hp.2.keepsT _ _ hs) (fun i x H' hx hp => ⟨rfl, ?_⟩) (fun H' hp => ?_)
          · obtain ⟨e, he, De⟩ := hd.at hx
            refine ⟨_, rfl, p, x, e, rfl, da_keep hp.2.keepA De, hf1 ds rfl e (List.mem_of_getElem? he), fun H2 s2 => ?_⟩
            refine ⟨_, s2 _ _ hp.1, Evl.sz_lt ?_, ?_, ?_⟩
            · rw [List.length_map, List.length_map, List.length_take]
              omega
            · rw [upd_same, List.take_add_one, he, List.map_append, List.map_append]
              rfl
            · intro b o z
              rw [upd_ne (ne_of_none z hD)]
              exact s2 b o (hp.2 b o z)
          · obtain ⟨eD, sm⟩ := hp
            rw [hl, List.take_length] at eD
            refine ⟨Dl, ds.map (withD [1, -1]), rfl, .inl (.inl eD), _, rfl, ?_⟩
            rw [all_with]
            cases ha : ds.all (withD [1, -1]) with
            | false =>
              refine iteT ?_
              rw [show false = isRowD (.tuple ds) by rw [er, ha, decide_eq_true h30]; rfl]
              exact q H' sm
            | true =>
              have hs' : SqT K H' a xs := sm.keepsT _ _ hs
              refine iteF ⟨_, rfl, a, rfl, ⟨_, hs'⟩, fun Ds hDs => ?_⟩
              refine setc_tup (K := K) (a := a) (xs := xs) (fun i H2 => H2 Ds = some (SetK P w Ds (inK (metK [] ((ds.map fstK).take i))) (metK [] ((ds.map fstK).take i)).length) ∧ Same H' H2)
                ⟨?_, same_new hDs⟩ (fun i H2 _ hp => hp.2.keepsT _ _ hs') (fun i x H2 hx hp => ?_) (fun H2 hp => ?_)
              · rw [upd_same]
                congr 2
                funext k
                simp [noKeys, inK, metK]
              · obtain ⟨e, he, De⟩ := hd.at hx
                obtain ⟨nm, dir, rfl, _, _⟩ := with_shape (List.all_eq_true.mp ha e (List.mem_of_getElem? he))
                have sm2 : Same H H2 := sm.trans hp.2
                have De' := da_keep (p := p) sm2.keepA De
                cases De' with
                | @tup b ys _ hb hy =>
                  cases hy with
                  | cons y1 hy =>
                    cases hy with
                    | cons y2 hy =>
                      cases hy
                      cases y1
                      cases y2
                      refine ⟨b, _, rfl, hb, rfl, _, _, rfl, _, _, rfl, rfl, rfl, ?_⟩
                      have few := len_metK_le ((ds.map fstK).take i) []
                      rw [List.length_take, List.length_nil] at few
                      refine ⟨_, rfl, .inr nm, _, _, rfl, hp.1, by unfold scanBound; rw [List.length_map] at few; omega, ?_, ?_⟩
                      · rw [upd_same, withKey_met, more_met]
                        have e2 : (ds.map fstK).take i ++ [Sum.inr nm] = (ds.map fstK).take (i + 1) := by
                          rw [List.take_add_one, List.getElem?_map, he]
                          rfl
                        rw [e2]
                        rfl
                      · intro b o z
                        rw [upd_ne (ne_of_none z hDs)]
                        exact hp.2 b o z
              · obtain ⟨eS, s2⟩ := hp
                have lk : (ds.map fstK).length = xs.length := by rw [List.length_map, hl]
                rw [← lk, List.take_length] at eS
                have few := len_metK_le (ds.map fstK) []
                refine ⟨Ds, _, _, rfl, eS, by rw [List.length_nil] at few; omega, _, rfl, .ref a, xs.length, rfl, .inr ⟨_, (sm.trans s2).keepsT _ _ hs, rfl⟩, rfl, ?_⟩
                have ee : decide (V.int ((metK [] (ds.map fstK)).length : Int) = V.int (xs.length : Int)) = isRowD (.tuple ds) := by
                  rw [er, ha, decide_eq_true h30]
                  show _ = (true && (true && decide (cntK ds = ds.length)))
                  rw [Bool.true_and, Bool.true_and]
                  refine decide_eq_decide.mpr ⟨fun z => ?_, fun z => ?_⟩
                  · have := V.int.inj z
                    unfold cntK
                    omega
                  · unfold cntK at z
                    rw [z, hl]
                rw [ee]
                exact q H2 (sm.trans s2)
        · rw [decide_eq_true (by omega)]
          refine iteT ?_
          rw [show false = isRowD (.tuple ds) by rw [er, decide_eq_false h30]; rfl]
          exact q H (.refl H)
end
end My
set_option Elab.async false
set_option linter.all false
set_option maxRecDepth 100000
set_option maxHeartbeats 4000000
/-! t[::-1] of a tuple -/
namespace My
open PySem PySem.Spec PyProof.Rows L2 HT
section
variable {prog : Program} {w : World} {A : Around} {E : Value → Shared → Prop} {s : Shared}
theorem adj_rev (n : Nat) : Builtin.Slice.sliceAdjust none none (-1) (n : Int) = ((n : Int) - 1, -1) := rfl
theorem places_rev (n : Nat) : Builtin.Slice.slicePlaces ((n : Int) - 1) (-1) (-1) = n := by
  unfold Builtin.Slice.slicePlaces
  rw [if_neg (by decide)]
  split
  · rw [show (-(-1) : Int) = 1 by decide, Int.ediv_one]
    omega
  · omega
theorem fm_map {α β : Type} (f : α → Option β) (g : α → β) : ∀ l : List α, (∀ a ∈ l, f a = some (g a)) → l.filterMap f = l.map g
  | [], _ => rfl
  | a :: r, h => by rw [List.filterMap_cons_some (h a List.mem_cons_self), List.map_cons, fm_map f g r fun b hb => h b (List.mem_cons_of_mem _ hb)]
theorem pick_rev (xs : Array Value) : ((List.range xs.size).filterMap fun (m : Nat) => xs[((xs.size : Int) - 1 + (m : Int) * (-1)).toNat]?).toArray = xs.toList.reverse.toArray := by
  congr 1
  apply List.ext_getElem?
  intro j
  have hl : ((List.range xs.size).filterMap fun (m : Nat) => xs[((xs.size : Int) - 1 + (m : Int) * (-1)).toNat]?) = (List.range xs.size).map fun m => xs.toList.getD (xs.size - 1 - m) .none := by
    refine fm_map _ _ _ fun m hm => ?_
    have hm := List.mem_range.mp hm
    have e : ((xs.size : Int) - 1 + (m : Int) * (-1)).toNat = xs.size - 1 - m := by omega
    rw [e, Array.getElem?_eq_getElem (by omega)]
    simp [List.getD_eq_getElem?_getD, Array.getElem?_toList, Array.getElem?_eq_getElem (show xs.size - 1 - m < xs.size by omega)]
  rw [hl]
  by_cases hj : j < xs.size
  · rw [List.getElem?_map, List.getElem?_range hj, List.getElem?_reverse (by simpa using hj), Option.map_some, List.getD_eq_getElem?_getD, List.getElem?_eq_getElem (by simp; omega)]
    simp only [Option.getD_some]
    rw [List.getElem?_eq_getElem (by simp; omega)]
    congr 1
  · rw [List.getElem?_eq_none (by simp; omega), List.getElem?_eq_none (by simp; omega)]
theorem applied_rev {sl : Addr} {vl vu vs : Value} {n : Nat} {Q : Int × Int × Nat → Shared → Prop} (hs : s.heap.IsSliceOf sl vl vu vs) (pl : IsPart vl none) (pu : IsPart vu none) (ps : IsPart vs (some (-1))) (h : Q ((n : Int) - 1, -1, n) s) :
    wpAny (model prog w) A (Builtin.Slice.sliceApplied (.ref sl) (pure (n : Int))) Q E s := by
  obtain ⟨os, hos, hcs, hds⟩ := id hs
  unfold Builtin.Slice.sliceApplied Builtin.Slice.sliceFields
  refine wpAny_bind (wpAny_bind (wpAny_field hos hds (x := vl) rfl (wpAny_bind (wpAny_field hos hds (x := vu) rfl (wpAny_bind (wpAny_field hos hds (x := vs) rfl (wpAny_pure ?_)))))))
  refine wpAny_bind (slicePart_ ps ?_)
  show wpAny _ _ (if ((-1 : Int) == 0) = true then _ else _) _ _ s
  rw [if_neg (by decide)]
  refine wpAny_bind (slicePart_ pl (wpAny_bind (slicePart_ pu (wpAny_bind (wpAny_pure ?_)))))
  show wpAny _ _ (pure ((n : Int) - 1, (-1 : Int), Builtin.Slice.slicePlaces ((n : Int) - 1) (-1) (-1))) _ _ s
  rw [places_rev]
  exact wpAny_pure h
theorem get_rev {t sl : Addr} {items : Array Value} {vl vu vs : Value} {Q : Value → Shared → Prop} (ht : IsTup s.heap t items) (hs : s.heap.IsSliceOf sl vl vu vs) (pl : IsPart vl none) (pu : IsPart vu none) (ps : IsPart vs (some (-1)))
    (h : Q (.ref s.heap.objs.size) { s with heap := s.heap.push { cls := .type "tuple", data := .seq items.toList.reverse.toArray } }) (hsz : items.size ≤ sizeLine) : wpAny (model prog w) A (getItem (.ref t) (.ref sl)) Q E s := by
  have ok : sizeOk (.seq items.toList.reverse.toArray) := by
    show items.toList.reverse.toArray.size ≤ sizeLine
    rw [List.size_toArray, List.length_reverse, Array.length_toList]
    exact hsz
  obtain ⟨os, hos, hcs, hds⟩ := id hs
  have hTs : s.TypeIs (.ref sl) "slice" := ⟨os, hos, hcs⟩
  unfold getItem
  try with_reducible refine wpAny_holding ?_
  first | refine wpAny_bind (wpAny_pure ?_) | skip
  refine wpAny_bind (wpAny_sequenceKey ht.typeIs (by decide) ?_)
  refine wpAny_bind (wpAny_callSpecial?_slot (name := Str.ofString "__getitem__") ht.typeIs PyProof.Rows.slot_tuple_getitem
    (wpAny_call_entry PyProof.Rows.slot_tuple_getitem ht.typeIs entry_tuple_getitem ?_ (args_tuple_getitem _ _)))
  show wpAny _ _ (Builtin.Tuple.tupleItemsOf (.ref t) >>= _) _ _ s
  refine wpAny_bind (tupleItemsOf_ ht ?_)
  refine wpAny_bind (wpAny_typeOf hTs ?_)
  rw [if_pos (by decide)]
  refine wpAny_bind (applied_rev hs pl pu ps ?_)
  have no : ¬ (((items.size : Int) - 1 == 0 && (-1 : Int) == 1 && items.size == items.size) = true) := by simp
  show wpAny _ _ (if ((items.size : Int) - 1 == 0 && (-1 : Int) == 1 && items.size == items.size) = true then _ else _) _ _ s
  rw [if_neg no, pick_rev]
  first
    | exact wpAny_bind (m := Builtin.Tuple.tupleExact _) (wpAny_newObj_type (wpAny_pure ⟨_, rfl, wpAny_pure h⟩) ok)
    | exact wpAny_bind (m := Builtin.Tuple.tupleExact _) (wpAny_newObj_type (wpAny_bind (wpAny_pure (wpAny_pure ⟨_, rfl, wpAny_pure h⟩))) ok)
end
def tRevT (K : PySem.W.Frag) (te : TE) : TE := fun σ H Q => te σ H fun x H1 => ∃ a xs, x = .ref a ∧ SqT K H1 a xs ∧ ∀ p, H1 p = none → Q (.ref p) (upd H1 p (.tup xs.reverse))
section
variable {X : Cx}
theorem pe_revT {e : Expr} {te : TE} {k : Nat} {p1 p2 p3 pos : Pos} (he : PE X e te) : PE X (.Subscript e (.Slice none none (some (.UnaryOp .USub (.Constant (.int 1) k p1) p2)) p3) pos) (tRevT X.K te) := by
  refine ⟨fun pins s σ H Q I h => ?_⟩
  refine Subscript_ (thn (he.run pins s σ H _ I h) fun v s1 ⟨x, H1, I1, r1, q1⟩ => ?_)
  obtain ⟨a, xs, ex, hx, q⟩ := q1
  subst ex
  cases r1
  have hst : PO X (some (.UnaryOp .USub (.Constant (.int 1) k p1) p2)) (tPart (tUn (rU fun i => .int (-i)) (tC (.int 1)))) := po_some (pe_un un_neg pe_int)
  refine wpAny_Slice (thn (po_none.run pins s1 σ H1 (fun o H2 => o = none ∧ H2 = H1) I1 ⟨rfl, rfl⟩) fun vl s2 ⟨l, H2, I2, pl, el, e2⟩ => ?_)
  subst el e2
  refine thn (po_none.run pins s2 σ H2 (fun o H3 => o = none ∧ H3 = H2) I2 ⟨rfl, rfl⟩) fun vu s3 ⟨u, H3, I3, pu, eu, e3⟩ => ?_
  subst eu e3
  refine thn (hst.run pins s3 σ H3 (fun o H4 => o = some (-1) ∧ H4 = H3) I3 ⟨1, rfl, -1, rfl, rfl, rfl⟩) fun vs s4 ⟨o, H4, I4, ps, eo, e4⟩ => ?_
  subst eo e4
  have I5 : Inv X pins σ H4 { s4 with heap := s4.heap.push { cls := .type "slice", data := .fields #[vl, vu, vs] } } := I4.kept (t' := s4.toks) fun b ob q => Heap.get?_push_of_some _ q
  obtain ⟨its, r, ht, hz⟩ := I5.tuple hx
  have hlen := r.length
  show wpAny (model X.prog X.w) X.A (subscriptTail e (.Slice none none (some (.UnaryOp .USub (.Constant (.int 1) k p1) p2)) p3) (.ref a) (.ref s4.heap.objs.size)) (EP X pins σ Q) X.xe { s4 with heap := s4.heap.push { cls := .type "slice", data := .fields #[vl, vu, vs] } }
  refine tail_any (ops := [.ref a, .ref s4.heap.objs.size]) ht.typeIs (PyProof.Rows.slot_tuple_getitem.lookup) ?_ (by with_unfolding_all rfl)
  refine get_rev ht (Heap.IsSliceOf.new _ vl vu vs) pl pu ps ?_ (by rw [List.size_toArray]; omega)
  refine ⟨.ref _, _, I5.laid (t' := s4.toks) (o := .tup xs.reverse) (fun b ob q => Heap.get?_push_of_some _ q) (Nat.le_refl _) ?_, rfl, q _ (I5.hok.fresh (Nat.le_refl _))⟩
  exact ⟨by rw [List.length_reverse]; exact hz, _, r.reverse, IsTup.new _ _⟩
end
end My
set_option Elab.async false
set_option linter.all false
set_option maxRecDepth 100000
set_option maxHeartbeats 4000000
/-! (name, direction) in a row, row.index((name, direction)), == of such pairs, the least of some texts -/
namespace My
open PySem PySem.Spec PyProof.Rows L2
theorem dw_eqv (p q : Str × Int) : PyData.eqv (dwD p) (dwD q) = decide (p = q) := by
  obtain ⟨a, b⟩ := p
  obtain ⟨c, d⟩ := q
  show ((a == c) && ((b == d) && true)) = _
  rw [Bool.and_true, Bool.eq_iff_iff, Bool.and_eq_true, beq_iff_eq, beq_iff_eq, decide_eq_true_iff, Prod.mk.injEq]
/-- the names can be laid -/
def LayR (r : List (Str × Int)) : Prop := ∀ x ∈ r, PyData.strOk x.1 = true
theorem lay_dw {p : Str × Int} (h : PyData.strOk p.1 = true) : (dwD p).canLay0 = true := by
  show (PyData.strOk p.1 && (true && true)) = true
  rw [h]
  rfl
theorem lay_row : ∀ {r : List (Str × Int)}, LayR r → PyData.canLayAll0 (r.map dwD) = true
  | [], _ => rfl
  | x :: r, h => by
    show ((dwD x).canLay0 && PyData.canLayAll0 (r.map dwD)) = true
    rw [lay_dw (h x List.mem_cons_self), lay_row fun y hy => h y (List.mem_cons_of_mem _ hy)]
    rfl
theorem depth_dw (p : Str × Int) : (dwD p).depth = 1 := rfl
theorem any_dw (q : Str × Int) : ∀ r : List (Str × Int), ((r.map dwD).any fun z => PyData.eqv z (dwD q)) = decide (q ∈ r)
  | [] => rfl
  | x :: r => by
    rw [List.map_cons, List.any_cons, any_dw q r, dw_eqv, Bool.eq_iff_iff, Bool.or_eq_true, decide_eq_true_iff, decide_eq_true_iff, decide_eq_true_iff, List.mem_cons]
    exact or_congr ⟨fun e => e.symm, fun e => e.symm⟩ Iff.rfl
section
variable {X : Cx}
/-- what stands behind such a tuple -/
theorem row_reads {pins : List (Addr × Obj)} {σ : L2.St} {H : Hp} {s : Shared} {a : Addr} {r : List (Str × Int)} (I : Inv X pins σ H s) (h : Dt X.K H (.ref a) (rowD r)) :
    ∃ (its : List Value) (as : List Addr), s.heap.IsTuple a its.toArray ∧ ReadsAll s.heap its (r.map dwD) as ∧ its.length = r.length := by
  cases h with
  | tup hs hd =>
    obtain ⟨its, rv, ⟨o, ho, hc, n, hdd⟩, _⟩ := I.tuple hs
    obtain ⟨as, ra⟩ := Dp.readsAll I (r.map dwD) _ its (dt_dpAll hd) rv
    have e := SeqAt.ReadsAll.length (r.map dwD) its as ra
    rw [List.length_map] at e
    exact ⟨its, as, ⟨o, ho, hc, n, hdd⟩, ra, e⟩
def rInRow (K : PySem.W.Frag) (neg : Bool) : R2 := fun x y H Q => ∃ (q : Str × Int) (a : Addr) (r : List (Str × Int)), y = .ref a ∧ Dt K H x (dwD q) ∧ Dt K H (.ref a) (rowD r) ∧ PyData.strOk q.1 = true ∧ LayR r ∧ Q (.bl (if neg then !decide (q ∈ r) else decide (q ∈ r))) H
theorem items_row {pins : List (Addr × Obj)} {σ : L2.St} {H : Hp} {s : Shared} {x : V} {v : Value} {q : Str × Int} {r : List (Str × Int)} {its : List Value} {as : List Addr} {A : Around} (hu : A.units + 65 < cLine) (I : Inv X pins σ H s) (rx : RelV x v) (hx : Dt X.K H x (dwD q)) (ra : ReadsAll s.heap its (r.map dwD) as)
    (hq : PyData.strOk q.1 = true) (hr : LayR r) : ∀ y, y ∈ its.toArray → SeqAt.EqAt A.in1 s y v (PyData.eqv (SeqAt.readOf s.heap y) (dwD q)) := by
  obtain ⟨bs, rb⟩ := Dp.reads I (dwD q) x v (dt_dp hx) rx
  refine SeqAt.items_eqAt (vs := its.toArray) ra rb (lay_row hr) (lay_dw hq) ?_
  have : min (PyData.depthAll (r.map dwD)) (dwD q).depth ≤ 1 := Nat.min_le_right _ _
  omega
theorem op_inRow (hu : X.A.units + 65 < cLine) : OpR X (compareOp .In) (rInRow X.K false) := by
  intro pins s σ H x y v u Q I rx ry ⟨q, a, r, ey, hx, hy, lq, lr, k⟩
  subst ey
  cases ry
  obtain ⟨its, as, tp, ra, le⟩ := row_reads I hy
  refine SeqAt.in_tupleAt (fun z => PyData.eqv (SeqAt.readOf s.heap z) (dwD q)) tp (items_row hu I rx hx ra lq lr) ⟨.bl _, H, I, rfl, ?_⟩
  rw [show its.toArray.any (fun z => PyData.eqv (SeqAt.readOf s.heap z) (dwD q)) = decide (q ∈ r) by
    rw [← any_dw, ← SeqAt.readsAll_map (r.map dwD) its as (lay_row lr) ra]
    simp
    rfl]
  exact k
theorem op_notInRow (hu : X.A.units + 65 < cLine) : OpR X (compareOp .NotIn) (rInRow X.K true) := by
  intro pins s σ H x y v u Q I rx ry ⟨q, a, r, ey, hx, hy, lq, lr, k⟩
  subst ey
  cases ry
  obtain ⟨its, as, tp, ra, le⟩ := row_reads I hy
  refine SeqAt.notIn_tupleAt (fun z => PyData.eqv (SeqAt.readOf s.heap z) (dwD q)) tp (items_row hu I rx hx ra lq lr) ⟨.bl _, H, I, rfl, ?_⟩
  rw [show its.toArray.any (fun z => PyData.eqv (SeqAt.readOf s.heap z) (dwD q)) = decide (q ∈ r) by
    rw [← any_dw, ← SeqAt.readsAll_map (r.map dwD) its as (lay_row lr) ra]
    simp
    rfl]
  exact k
/-- row.index((name, direction)), there -/
def rIxRow (K : PySem.W.Frag) : V → List V → Hp → VK → Prop := fun x xs H Q => ∃ (q : Str × Int) (y : V) (a : Addr) (r : List (Str × Int)), x = .ref a ∧ xs = [y] ∧ Dt K H y (dwD q) ∧ Dt K H (.ref a) (rowD r) ∧ PyData.strOk q.1 = true ∧ LayR r ∧ q ∈ r ∧ Q (.int (@List.idxOf _ instBEqOfDecidableEq q r : Nat)) H
theorem mt_ixRow (hu : X.A.units + 65 < cLine) : MtR X "tuple.index" (rIxRow X.K) := by
  intro pins s σ H x xs v us Q I rx rxs ⟨q, y, a, r, ex, exs, hy, hr, lq, lr, hm, k⟩
  subst ex exs
  cases rx
  obtain ⟨u, rfl, ry⟩ := vals1 rxs
  obtain ⟨its, as, tp, ra, le⟩ := row_reads I hr
  have eqs := items_row (A := X.A) hu I ry hy ra lq lr
  have mp := SeqAt.readsAll_map (r.map dwD) its as (lay_row lr) ra
  refine PySem.SeqAt.call_tuple_index (ks := r) (k := q) tp ⟨le, fun j h1 h2 => ?_⟩ hm ⟨.int _, H, I.tok _, ⟨_, rfl⟩, k⟩
  have e1 := eqs its[j] (by simp)
  have e2 : SeqAt.readOf s.heap its[j] = dwD r[j] := by
    have : (its.map (SeqAt.readOf s.heap))[j]? = (r.map dwD)[j]? := by rw [mp]
    rw [List.getElem?_map, List.getElem?_map, List.getElem?_eq_getElem h1, List.getElem?_eq_getElem h2] at this
    exact Option.some.inj this
  rw [e2, dw_eqv] at e1
  exact e1
end
end My
set_option Elab.async false
set_option linter.all false
set_option maxRecDepth 100000
set_option maxHeartbeats 4000000
/-! min of a list of texts -/
namespace My
open PySem PySem.Spec PyProof.Rows L2
/-- the first of the least of y :: t -/
abbrev minS (y : Str) (t : List Str) : Str := PySem.W.minOf y t
def ltS (a b : Str) : Bool := decide (a.cps.toList < b.cps.toList)
theorem minS_mem : ∀ (t : List Str) (y : Str), minS y t ∈ y :: t
  | [], y => List.mem_cons_self
  | z :: t, y => by
    have ih := minS_mem t (if ltS z y = true then z else y)
    show minS (if ltS z y = true then z else y) t ∈ _
    rcases List.mem_cons.mp ih with e | e
    · rw [e]
      split
      · exact List.mem_cons_of_mem _ List.mem_cons_self
      · exact List.mem_cons_self
    · exact List.mem_cons_of_mem _ (List.mem_cons_of_mem _ e)
theorem ltS_le {a b c : Str} (h1 : ltS a b = true) (h2 : ltS c b = false) : ltS c a = false := by
  unfold ltS at *
  have h1 := of_decide_eq_true h1
  have h2 := of_decide_eq_false h2
  exact decide_eq_false fun z => h2 (List.lt_trans z h1)
theorem minS_le : ∀ (t : List Str) (y : Str), ∀ x ∈ y :: t, ltS x (minS y t) = false
  | [], y, x, hx => by
    rw [List.mem_singleton.mp hx]
    exact decide_eq_false (List.lt_irrefl _)
  | z :: t, y, x, hx => by
    have ih := minS_le t (if ltS z y = true then z else y)
    show ltS x (minS (if ltS z y = true then z else y) t) = false
    cases hz : ltS z y with
    | true =>
      rw [if_pos rfl]
      rw [hz, if_pos rfl] at ih
      rcases List.mem_cons.mp hx with rfl | hx
      · have hm := ih z List.mem_cons_self
        unfold ltS at *
        have hz := of_decide_eq_true hz
        have hm := of_decide_eq_false hm
        exact decide_eq_false fun q => hm (List.lt_trans hz q)
      · exact ih x hx
    | false =>
      rw [if_neg Bool.false_ne_true]
      rw [hz, if_neg Bool.false_ne_true] at ih
      rcases List.mem_cons.mp hx with rfl | hx
      · exact ih x List.mem_cons_self
      · rcases List.mem_cons.mp hx with rfl | hx
        · have hm := ih y List.mem_cons_self
          unfold ltS at *
          have hz := of_decide_eq_false hz
          have hm := of_decide_eq_false hm
          exact decide_eq_false (List.not_lt.mpr (List.le_trans (List.not_lt.mp hm) (List.not_lt.mp hz)))
        · exact ih x (List.mem_cons_of_mem _ hx)
section
variable {X : Cx}
theorem reads_strs {h : Heap} : ∀ {ys : List Str} {its : List Value}, Vals (ys.map V.str) its → ∃ as, ReadsAll h its (ys.map PyData.str) as
  | [], _, r => by cases r; exact ⟨_, .nil⟩
  | y :: ys, _, r => by
    cases r with
    | cons r1 r2 =>
      obtain ⟨t, rfl⟩ := r1
      obtain ⟨as, h2⟩ := reads_strs (h := h) r2
      exact ⟨_, .cons (.str y t) h2⟩
theorem call_minS (hc : X.calm = true) (hu : X.A.units + 65 < cLine) : CallR X (.builtin "min") (fun xs H Q => ∃ (p : Addr) (y : Str) (t : List Str), xs = [.ref p] ∧ SqL X.K H p ((y :: t).map V.str) ∧ Q (.str (minS y t)) H) := by
  intro pins s σ H xs us Q I r ⟨p, y, t, ex, hs, q⟩
  subst ex
  obtain ⟨u, rfl, r1⟩ := vals1 r
  cases r1
  obtain ⟨its, rv, ⟨o, n, ho, hcl, _, hd⟩, hz⟩ := I.list hs
  obtain ⟨as, ra⟩ := reads_strs (h := s.heap) rv
  refine PySem.W.min_list_datum (α := Str) (x := y) (xs := t) (I.ok.hd hc) ⟨o, ho, hcl, n, hd⟩ ⟨as, ra⟩ (by show X.A.units + 1 + 0 < cLine; omega) fun i v h' tk hi hv k => ?_
  obtain ⟨bs, rd⟩ := hv
  have rd : Reads h' v (.str (minS y t)) bs := rd
  cases rd with
  | str _ tt => exact ⟨.str _, H, I.kept k, ⟨_, rfl⟩, q⟩
end
end My
set_option Elab.async false
set_option linter.all false
set_option maxRecDepth 100000
set_option maxHeartbeats 4000000
/-! super().__init__(..) as the first statement of an own class's __init__ -/
namespace My
open PySem PySem.Spec PyProof.Rows L2 NdefX
section
variable {P : Program} {w : World} {K : PySem.W.Frag} {mg : Str → Option Value} {base : Heap}
/-- what the top has written of such an __init__, at f, of the class at C, whose next __init__ stands at g -/
structure SupFn (P : Program) (K : PySem.W.Frag) (mg : Str → Option Value) (F : NF) (ps : List Str) (f C g cc : Addr) (fd : FuncData) : Prop where
  ex : ∃ (oc kV doc pm ct : Value) (od an : Option Addr) (osl : Array (Option Value)), fd = PySem.W.fnX F.name F.qual F.params F.body F.scope F.cl .none kV doc pm an (.ref F.c) ct ∧ K.lookup f = some ⟨oc, od, .func fd, osl⟩
  cl : F.cl = [(("__class__" : Str), cc)]
  code : PySem.W.codeIn K (.ref F.c) F.qual = true
  rcd : ∃ (ccl : Value) (cdd : Option Addr) (vs : Array Value) (ccs : Array (Option Value)) (file : Str) (tf : Tok), K.lookup F.c = some ⟨ccl, cdd, .fields vs, ccs⟩ ∧ vs[2]? = some (.str file tf) ∧ ((P.main.file : Str) == file) = true
  par : ∃ ar, (F.params.posonlyargs ++ F.params.args).head? = some ar ∧ ps[0]? = some ar.arg
  sup : F.scope.names.lookup ("super" : Str) = some .globalImplicit
  cell : ∃ (cl : Value) (cld : Option Addr) (csl : Array (Option Value)), K.lookup cc = some ⟨cl, cld, .cell (some (.ref C)), csl⟩
  cls : ∃ cd, PySem.W.clsIn K C = some cd
  sub : PySem.W.mroIn K C (.ref C) = some true
  nxt : PySem.W.ks_superIn K C C "__init__" = some (some (.ref g))
  fn : PySem.W.fnIn K g = true
  ty : PySem.W.typeIn K (.ref g) = some (.type "function")
  any : PySem.W.nsIn K cStatics "thirdparty.any" = some none
  free : mg "super" = none
  top : (P.main.scope.names.lookup ("super" : Str)).isSome = false
theorem cells_sup {F : NF} {ps : List Str} {f C g cc : Addr} {fd : FuncData} {A : Around} {stk : List Env} {s : Shared} {H : Hp} (T : SupFn P K mg F ps f C g cc fd) (e0 : Env0 P w K mg base A stk s H) : CellsAt F.cl [("__class__" : Str)] [none] s.heap H := by
  obtain ⟨cl, cld, csl, hk⟩ := T.cell
  have hb := e0.mod.kin _ _ hk
  have hs := e0.bs _ _ hb
  have one : ∀ (y : Str) (c : Addr), F.cl.lookup y = some c → y = ("__class__" : Str) ∧ c = cc := fun y c e => by
    rw [T.cl] at e
    by_cases h : y = ("__class__" : Str)
    · subst h
      exact ⟨rfl, (Option.some.inj e).symm⟩
    · have : ([(("__class__" : Str), cc)] : List (Str × Addr)).lookup y = none := by
        simp only [List.lookup]
        split
        · rename_i z
          exact absurd (eq_of_beq z) h
        · rfl
      rw [this] at e
      cases e
  refine ⟨rfl, fun y c e => ?_, fun x y c e1 e2 => (one x c e1).1.trans (one y c e2).1.symm, fun i y e => ?_⟩
  · rw [(one y c e).2]
    exact ⟨hs.2, _, _, hs.1, rfl⟩
  · have : i = 0 := by
      have := (List.getElem?_eq_some_iff.mp e).1
      simp at this
      exact this
    subst this
    cases e
    refine ⟨cc, by rw [T.cl]; rfl, fun v z => ?_⟩
    cases z
/-- a def whose body begins super().__init__(e) -/
theorem fn_super {F : NF} {N ps : List Str} {f C g cc : Addr} {fd gd : FuncData} {gps : List Str} {k : Nat} {sp spI : Sp} {e : Expr} {rest : List Stmt} {p0 p1 p2 p3 p4 : Pos} (T : SupFn P K mg F ps f C g cc fd) (S : NScope N ps [("__class__" : Str)] F.scope)
    (hb : F.body = .Expr (.Call (.Attribute (.Call (.Name "super" p0) [] [] p1) "__init__" p2) [e] [] p3) p4 :: rest) (GI : FnOk P w K mg base CX0 k g gd gps spI) (bI : Binds K gd gps []) (len : ∀ vs H Q E, sp vs H Q E → vs.length = ps.length)
    (hbody : ∀ (A : Around) (stk : List Env) (s : Shared) (H : Hp) (vs : List V) (Q : VK) (E : XK), Room k (A.deeper (envF F f s.heap.objs.size)) → sp vs H Q E →
      ∃ ta t, PA (ncx CX0 P w K mg base N F f A stk s H E).nox [e] ta ∧ PSs (ncx CX0 P w K mg base N F f A stk s H E).nox rest t ∧ ∃ x dx fs, vs[0]? = some (.ref x) ∧ H x = some (.ins C dx fs) ∧
        ta (startF N vs [none]) H fun ws H1 => spI (.ref x :: ws) H1 (fun _ H2 => t { nx := fun _ H' => Q .non H', rt := Q } (startF N vs [none]) H2) E0)
    (he : ∀ env : Env, starEach [e] env = (false, eval e env) :: starEach [] env)
    (hcall : ∀ env : Env, ∃ pl : Sem Bool, eval (.Call (.Attribute (.Call (.Name "super" p0) [] [] p1) "__init__" p2) [e] [] p3) env = (do
      let ov ← attributeBase (.Call (.Name "super" p0) [] [] p1) "__init__" env (eval (.Call (.Name "super" p0) [] [] p1) env)
      standAt p2.atName
      let (f, first) ← holding [ov] (getMethod ov "__init__" pl)
      callWith p3 f first (backTo p3 (starEach [e] env)) [])) : FnOk P w K mg base CX0 (k + 1) f fd ps sp := by
  obtain ⟨oc, kV, doc, pm, ct, od, an, osl, rfl, lk⟩ := T.ex
  refine ⟨len, fun A stk s H a us vs Q E hr e0 hbind rv hsp => ?_⟩
  have hl := len _ _ _ _ hsp
  have keep : ∀ b o, base.get? b = some o → s.heap.get? b = some o := fun b o z => (e0.bs b o z).1
  have KX : K.In s.heap := e0.mod.kin.keeps keep
  have lim : s.heap.NoLimit := e0.mod.nolimit.keeps keep
  refine codeAny_call_function hr.depth (KX _ _ lk) rfl S.co S.gen rfl (PySem.W.codeRec_of KX T.code) (hbind _ _ _ _ (wpAny_newFunctionEnv S.nocell (fun ⟨n, _⟩ hy => S.par n (List.of_mem_zip hy).1) (fun h1 hns hsb => ⟨lim.fresh _ hsb, ?_⟩) S.kind))
  have kp : ∀ b o, s.heap.get? b = some o → h1.get? b = some o := fun b o z => hsb.extBut b o (Nat.ne_of_lt (Heap.lt_size z)) (Heap.get?_push_of_some _ z)
  have C0 := cells_sup T e0
  obtain ⟨ta, t, hta, ht, x, dx, fs, hv0, hx, hq⟩ := hbody A stk s H vs Q E (hr.deeper _) hsp
  have I := (inv_startN (f := f) (CX := CX0) (E := E) (tk := s.toks + (ps.zip us).length) S hr.hd e0 hl rv C0 hns kp).wish fun _ _ => False
  show codeAny _ _ (.func F.body (envF F f s.heap.objs.size)) _ _
  refine PySem.ks_codeAny_funcAt (PySem.ks_wpAt_mono (E := fun _ _ => False) ?_ (fun _ _ z => z) fun _ _ z => z.elim)
  rw [hb]
  have KX1 : K.In h1 := KX.keeps kp
  obtain ⟨ccl, cdd, vs0, ccs, file, tf, hcode, hvs, hfile⟩ := T.rcd
  obtain ⟨ar, hp, hp0⟩ := T.par
  obtain ⟨cl, cld, csl, hcell⟩ := T.cell
  obtain ⟨cd, hC⟩ := T.cls
  obtain ⟨mb, hbl, hboot⟩ := e0.mod.blt
  obtain ⟨mA, ob, _⟩ := ins_get I.hok hx
  obtain ⟨odx, Ix, _⟩ := ob.look
  obtain ⟨oC, hC1, hC2⟩ : ∃ oC, h1.get? C = some oC ∧ oC.data = .cls cd := by
    unfold PySem.W.clsIn at hC
    split at hC
    · rename_i z1 z2 z3 z4 z5
      cases hC
      exact ⟨_, KX1 _ _ z5, rfl⟩
    · cases hC
  have hself : ∃ u, us[0]? = some u ∧ u = .ref x := by
    obtain ⟨u, hu, ru⟩ := rv.get hv0
    exact ⟨u, hu, ru⟩
  obtain ⟨u0, hu0, rfl⟩ := hself
  obtain ⟨pl, hpl⟩ := hcall (envF F f s.heap.objs.size)
  refine PySem.ks_wpAt_execs_cons (PySem.ks_wpAt_Expr_any (hi := by unfold interactive; rw [S.kind]; rfl) (PySem.ks_wpAt_MethodCall (pl := pl) (he := hpl) (PySem.ks_wpAt_super_base T.sup (S.frk _ List.mem_cons_self) (by decide) rfl (KX1 _ _ lk) rfl hp rfl (KX1 _ _ hcode) rfl hvs hfile T.top ?_)))
  refine PySem.W.ks_loadName_global S.kind T.sup (PySem.Calls.loadGlobal_builtin (e0.mod.glob.keeps fun b o z => kp _ _ (keep b o z)) T.free (hbl.keeps fun b o z => kp _ _ (keep b o z)) ((hboot _ (by decide +kernel)).trans (by decide +kernel : bootBuiltins "super" = some (.type "super"))) ⟨rfl, ?_⟩)
  refine wpAny_loadName_free S.kind (S.frk _ List.mem_cons_self) (by show F.cl.lookup _ = some cc; rw [T.cl]; rfl) ⟨_, KX1 _ _ hcell, rfl⟩ ?_
  have ndP : ps.Nodup := by
    have q0 := S.nd.sublist (List.take_sublist (ps.length + [("__class__" : Str)].length) N)
    rw [S.pre] at q0
    exact (List.nodup_append.mp q0).1
  refine wpAny_loadName_local S.kind (S.par _ (List.mem_of_getElem? hp0)) hns (zip_look ndP hp0 hu0) ?_
  refine PySem.ks_wpAny_isType_cls hC1 hC2 ⟨rfl, ?_⟩
  refine PySem.ks_wpAny_call_super hC1 hC2 Ix.at_ Ix.cls (fun c z => ?_) (PySem.W.looks_mroIn KX1 T.sub) (fun h2 e2 k2 => ?_)
  · have no := Ix.no
    unfold PySem.W.notCls at no
    rw [z] at no
    exact Bool.noConfusion no
  have KX2 : K.In h2 := KX1.keeps k2
  obtain ⟨of, hof, hofc⟩ : ∃ of, h2.get? g = some of ∧ of.cls = .type "function" := by
    have ty : (K.lookup g).map (·.cls) = some (.type "function") := T.ty
    cases z : K.lookup g with
    | none => rw [z] at ty; cases ty
    | some o => rw [z] at ty; exact ⟨o, KX2 _ _ z, Option.some.inj ty⟩
  have nxt := T.nxt
  unfold PySem.W.ks_superIn at nxt
  rw [hC] at nxt
  refine PySem.ks_wpAny_getMethod_super e2 (PySem.W.looks_opaque KX2 T.any) (l₀ := cd.mro) (fun A Q E s k q => wpAny_bind ((PySem.W.looks_clsIn KX2 hC) A _ E s k (wpAny_pure q))) rfl KX2 nxt hof hofc (PySem.W.ks_ne KX1 Ix hC) (by decide) ?_
  have I1 := I.kept (h' := h2) (t' := s.toks + (ps.zip us).length) k2
  have I2 := ClX.met_new (g := g) (C := x) I1
  refine ClX.callwith_cm I2 (ClX.base_none I1 (Nat.le_refl _)) T.fn (thn (hta.run p3 _ _ _ _ _ I2 hq) fun vs1 s3 ⟨ws, H1, I3, rv1, q3⟩ => ⟨⟨ClX.pin_at I3, I3.kIn⟩, thn (ClX.run_cm (Q := fun _ H2 => t { nx := fun _ H' => Q .non H', rt := Q } (startF N vs [none]) H2) (GI.raw bI .nil) (hr.deeper _) pass0 I3 rv1 (by rw [List.append_nil]; exact q3)) fun u s4 z4 => ?_⟩) (he _) rfl
  obtain ⟨v4, H2, I4, r4, q4⟩ := z4
  refine wpAt_of_any ?_
  refine wpAny_mono (ht.run [] s4 _ H2 _ I4 q4) (fun fl s5 hs => ?_) fun _ _ z => z
  have fin : ∀ {σ' : L2.St} {H' : Hp} {v : V} {u : Value}, Inv (ncx CX0 P w K mg base N F f A stk s H E).nox [] σ' H' s5 → L2.RelV v u → Q v H' → CE stk P w H s Q u s5 :=
    fun {σ' H' v u} J rr qq => ⟨v, H', J.os, J.bare, J.base, J.hok, rr, qq⟩
  cases fl with
  | ret u =>
    obtain ⟨v, σ', H', J, rr, qq⟩ := hs
    exact fin J rr qq
  | next =>
    obtain ⟨σ', H', J, qq⟩ := hs
    exact fin (v := V.non) (u := Value.none) J rfl qq
  | brk =>
    obtain ⟨_, _, _, qq⟩ := hs
    exact qq.elim
  | cont =>
    obtain ⟨_, _, _, qq⟩ := hs
    exact qq.elim
end
end My
set_option Elab.async false
set_option linter.all false
set_option maxRecDepth 100000
set_option maxHeartbeats 4000000
/-! comprehensions with a pair as target, no test -/
namespace My
open PySem PySem.Spec PyProof.Rows L2
abbrev gPair (K : PySem.W.Frag) (i j : Nat) : TG := gTup K 2 (gCons (gName i) (gCons (gName j) gNil))
section
variable {K : PySem.W.Frag} {te : TE} {vs : List Nat} {σ : L2.St} {H1 : Hp} {D : Addr} {Qd : Hp → Prop} {i1 i2 : Nat}
def lcP_tup {a : Addr} {xs : List V} (Pv : Nat → Hp → Prop) (h0 : Pv 0 (upd H1 D (.lst []))) (hl : ∀ i H, i ≤ xs.length → Pv i H → SqT K H a xs)
    (hs : ∀ i v H, xs[i]? = some v → Pv i H → ∃ b x y, v = .ref b ∧ SqT K H b [x, y] ∧ wipe (((wipe σ vs).set i1 (some x)).set i2 (some y)) vs = wipe σ vs ∧ Grows te D (Pv (i + 1)) (((wipe σ vs).set i1 (some x)).set i2 (some y)) H) (hd : ∀ H, Pv xs.length H → Qd H) :=
  lc_tup (K := K) (a := a) (xs := xs) (g := gPair K i1 i2) (tt := tYes) (te := te) (vs := vs) (σ := σ) (H1 := H1) (D := D) (Qd := Qd) Pv h0 hl (fun i v H hi p => by
    obtain ⟨b, x, y, rfl, hb, h1, h2⟩ := hs i v H hi p
    exact ⟨b, [x, y], rfl, hb, rfl, x, [y], rfl, y, [], rfl, rfl, yes_turn h1 h2⟩) hd
end
end My
set_option Elab.async false
set_option linter.all false
set_option maxRecDepth 100000
set_option maxHeartbeats 4000000
/-! new tuples that are known to bear no dict, and their methods -/
namespace My
open PySem PySem.Spec PyProof.Rows L2
def BareT (H : Hp) (a : Addr) : Prop := ∃ ob xs, H a = some (.frz ob (.tup xs)) ∧ ob.dict = none
theorem BareT.keep {H H' : Hp} {a : Addr} (h : BareT H a) (s : Same H H') : BareT H' a := let ⟨ob, xs, e, d⟩ := h; ⟨ob, xs, s _ _ e, d⟩
theorem BareT.keepP {H H' : Hp} {p c a : Addr} {n : Nat} (h : BareT H a) (s : SameP p H H') (G : PenAt H p c n) : BareT H' a := let ⟨ob, xs, e, d⟩ := h; ⟨ob, xs, s _ _ (sameP_ne G e fun _ z => nomatch z) e, d⟩
section
variable {X : Cx}
/-- tuple(list): a new tuple -/
theorem call_tupleF : CallR X (.type "tuple") (fun xs H Q => ∃ p ys, xs = [.ref p] ∧ SqL X.K H p ys ∧ ∀ l ob, H l = none → ob.dict = none → Q (.ref l) (upd H l (.frz ob (.tup ys)))) := by
  intro pins s σ H xs us Q I rv ⟨p, ys, ex, hl, q⟩
  subst ex
  obtain ⟨u, rfl, r1⟩ := vals1 rv
  cases r1
  obtain ⟨its, rr, pl, hz⟩ := I.list hl
  have ll := rr.length
  refine call_tuple_list pl.isList (fun h1 kp => ?_) (by simp only [List.size_toArray]; omega)
  have I1 : Inv X pins σ H { s with heap := h1 } := I.kept (t' := s.toks) kp
  have nw := IsTup.new h1 its.toArray
  have I2 : Inv X pins σ (upd H h1.objs.size (.frz { cls := .type "tuple", data := .seq its.toArray } (.tup ys))) { s with heap := h1.push { cls := .type "tuple", data := .seq its.toArray } } :=
    I1.laid (t' := s.toks) (fun _ _ e => Heap.get?_push_of_some _ e) (Nat.le_refl _) ⟨Heap.get?_push_size _ rfl, hz, its, rr, nw⟩
  exact ⟨.ref h1.objs.size, _, I2, rfl, q _ _ (I1.hok.fresh (Nat.le_refl _)) rfl⟩
def tTM (r : V → List V → Hp → VK → Prop) (to : TE) (t : TA) : TE := fun σ H Q => to σ H fun x H1 => (∃ a, x = .ref a ∧ BareT H1 a) ∧ t σ H1 fun xs H2 => r x xs H2 Q
/-- t.m(e), t such a tuple -/
theorem pe_tm {o e : Expr} {es : List Expr} {to : TE} {t : TA} {name : Str} {apos cpos : Pos} {id : String} {r : V → List V → Hp → VK → Prop} (slot : Slot "tuple" name id) (hty : typeOf (.builtin id) = pure (.type "method_descriptor")) (hm : MtR X id r) (ho : PE X o to) (ha : PA X (e :: es) t)
    (hbase : attributeBase o name X.env (eval o X.env) = eval o X.env := by rfl)
    (hfew : ((backTo cpos (starEach (e :: es) X.env)).all (fun x => !x.1) && (backToKw cpos (keywordEach [] X.env)).all (fun x => x.1.isSome) &&
      decide ((e :: es).length + ([] : List Keyword).length + (if ([] : List Keyword).isEmpty then 0 else 1) < 30)) = true := by rfl)
    (hline : (apos.endLine == cpos.line) = true := by rfl) (hs : starEach (e :: es) X.env = (false, eval e X.env) :: starEach es X.env := by rfl) (hplain : (backTo cpos (starEach es X.env)).any (·.1) = false := by rfl) :
    PE X (.Call (.Attribute o name apos) (e :: es) [] cpos) (tTM r to t) := by
  constructor
  intro pins s σ H Q I h
  refine wpAny_Call_method_late hbase hfew hline rfl (thn (ho.run pins s σ H _ I h) fun v s1 ⟨x, H1, I1, r1, ty, q1⟩ => ?_)
  obtain ⟨a, rfl, ob, ys, ea, hdn⟩ := ty
  cases r1
  obtain ⟨g1, _, its, _, o2, g2, hc2, _⟩ := I1.hok a _ ea
  rw [g1] at g2
  cases g2
  refine ⟨"tuple", id, PySem.F.plainAttrs_tuple, slot, hty, ⟨ob, g1, hc2⟩, fun b e => ?_, ?_⟩
  · cases e
    exact ⟨ob, g1, hdn⟩
  have hA := ha.run cpos pins s1 σ H1 _ I1 q1
  rw [hs] at hA ⊢
  refine Calls.callWith_builtin (by show (false || (backTo cpos (starEach es X.env)).any (·.1)) = false; rw [hplain] <;> rfl) (Calls.evalArgs_plain ?_)
  exact thn hA fun us s2 ⟨ws, H2, I2, r2, q2⟩ => hm pins s2 σ H2 (.ref a) ws (.ref a) us Q I2 rfl r2 q2
end
end My
set_option Elab.async false
set_option linter.all false
set_option maxRecDepth 100000
set_option maxHeartbeats 4000000
namespace My
open PySem PySem.Spec PyProof.Rows L2
section
variable {K : PySem.W.Frag} {p c L o : Addr} {n m : Nat} {H H' : Hp} {x : V} {lo hi : Option Int} {Q : VK} {a b : Addr} {xs ys ls : List V}
/-! ### cuts of tuples -/
theorem cutV_to (k : Nat) : cutV xs none (some (k : Int)) = xs.take k := by
  unfold cutV
  rw [HT.sIx_none, HT.sIx_nat, List.drop_zero, Nat.sub_zero]
  rcases Nat.le_total k xs.length with h | h
  · rw [Nat.min_eq_left h]
  · rw [Nat.min_eq_right h, List.take_of_length_le h, List.take_length]
theorem cutV_from (k : Nat) : cutV xs (some (k : Int)) none = xs.drop k := by
  unfold cutV
  rw [HT.sIx_none, HT.sIx_nat]
  rcases Nat.le_total k xs.length with h | h
  · rw [Nat.min_eq_left h, List.take_of_length_le (by rw [List.length_drop]; exact Nat.le_refl _)]
  · rw [Nat.min_eq_right h, Nat.sub_self, List.take_zero, List.drop_eq_nil_of_le h]
theorem sl_to (ht : SqT K H a xs) (q : ∀ (b : Addr) (H' : Hp), Same H H' → SqT K H' b (cutV xs lo hi) → Q (.ref b) H') : rSlA K (.ref a) lo hi H Q := by
  refine ⟨a, xs, rfl, ht, fun hw => q a H (.refl H) ?_, fun _ b hb => q b _ (same_new hb) (.inl (.inl upd_same))⟩
  have e : cutV xs lo hi = xs := by
    unfold cutV
    rw [hw.1, hw.2, List.drop_zero, Nat.sub_zero, List.take_length]
  rw [e]
  exact ht
theorem cat_to (hx : SqT K H a xs) (hy : SqT K H b ys) (hz : xs.length + ys.length ≤ sizeLine) (q : ∀ (b : Addr) (H' : Hp), Same H H' → SqT K H' b (xs ++ ys) → Q (.ref b) H') : rCatA K (.ref a) (.ref b) H Q := by
  refine ⟨a, b, xs, ys, rfl, rfl, hx, hy, hz, fun e => q b H (.refl H) ?_, fun _ e => q a H (.refl H) ?_, fun _ _ d hd => q d _ (same_new hd) (.inl (.inl upd_same))⟩
  · rw [e]
    exact hy
  · rw [e, List.append_nil]
    exact hx
end
end My
set_option Elab.async false
set_option linter.all false
set_option maxRecDepth 100000
set_option maxHeartbeats 4000000
namespace My
open PySem PySem.Spec PyProof.Rows L2
/-! ### rows -/
def turnR (r : List (Str × Int)) : List (Str × Int) := (r.reverse).map fun x => (x.1, -x.2)
/-- a row of the document: names, each once, directions; few -/
structure RowOk (r : List (Str × Int)) : Prop where
  nm : ∀ x ∈ r, NameOk x.1
  dir : Dirs r
  nd : (r.map (·.1)).Nodup
  few : r.length ≤ 30
theorem fit_row {r : List (Str × Int)} (h : RowOk r) : Fit2 (rowD r) := by
  refine ⟨?_, fun ds e x hx => ?_⟩
  · have := h.few
    show (r.map dwD).length ≤ 100000
    rw [List.length_map]
    omega
  · cases e
    obtain ⟨y, hy, rfl⟩ := List.mem_map.mp hx
    refine ⟨by show 2 ≤ 100000; decide, fun ds e z hz => ?_⟩
    cases e
    rcases List.mem_cons.mp hz with rfl | hz
    · have := (h.nm y hy).2.1
      show y.1.length ≤ 100000
      omega
    · rw [List.mem_singleton.mp hz]
      trivial
theorem nm_ok {x : Str} (h : NameOk x) : nmS x = true := by
  unfold nmS
  rw [Bool.and_eq_true, List.all_eq_true]
  exact ⟨decide_eq_true ⟨h.1, h.2.1⟩, fun c hc => decide_eq_true (h.2.2 c hc)⟩
theorem with_dw {x : Str × Int} (h : NameOk x.1) (d : x.2 = 1 ∨ x.2 = -1) : withD [1, -1] (dwD x) = true := by
  show (nmS x.1 && (true && decide (x.2 ∈ [1, -1]))) = true
  rw [nm_ok h, decide_eq_true (by rcases d with d | d <;> rw [d] <;> decide)]
  rfl
theorem keys_row (r : List (Str × Int)) : (r.map dwD).map fstK = r.map fun x => (Sum.inr x.1 : Key) := by
  rw [List.map_map]
  rfl
theorem is_row {r : List (Str × Int)} (h : RowOk r) : isRowD (rowD r) = true := by
  have e : isRowD (rowD r) = (decide ((r.map dwD).length ≤ 30) && ((r.map dwD).all (withD [1, -1]) && decide (cntK (r.map dwD) = (r.map dwD).length))) := rfl
  have e2 : (r.map dwD).all (withD [1, -1]) = true := List.all_eq_true.mpr fun d hd => by
    obtain ⟨x, hx, rfl⟩ := List.mem_map.mp hd
    exact with_dw (h.nm x hx) (h.dir x hx)
  have e3 : cntK (r.map dwD) = (r.map dwD).length := by
    unfold cntK
    rw [keys_row]
    have z := (len_metK_eq (r.map fun x => (Sum.inr x.1 : Key)) [] List.nodup_nil).mpr (by
      rw [List.nil_append]
      have e4 : (r.map fun x => (Sum.inr x.1 : Key)) = (r.map (·.1)).map Sum.inr := by rw [List.map_map]; rfl
      rw [e4]
      exact nodup_map_on h.nd fun a _ b _ q => Sum.inr.inj q)
    rw [z, List.length_map, List.length_map, List.length_nil, Nat.zero_add]
  rw [e, e2, decide_eq_true e3, decide_eq_true (show (r.map dwD).length ≤ 30 by rw [List.length_map]; exact h.few)]
  rfl
section
variable {K : PySem.W.Frag} {H H' : Hp} {a : Addr} {r : List (Str × Int)}
theorem dt_items : ∀ {xs : List V} {r : List (Str × Int)}, DtAll K H xs (r.map dwD) → ∀ (i : Nat) (v : V), xs[i]? = some v → ∃ b x, r[i]? = some x ∧ v = .ref b ∧ SqT K H b [.str x.1, .int x.2]
  | [], _, _, i, v, e => by simp at e
  | x :: xs, [], h, _, _, _ => by cases h
  | x :: xs, y :: r, h, 0, v, e => by
    cases h with
    | cons h1 h2 =>
      cases e
      cases h1 with
      | tup hs hd =>
        cases hd with
        | cons d1 d2 =>
          cases d1
          cases d2 with
          | cons d3 d4 =>
            cases d3
            cases d4
            exact ⟨_, y, rfl, rfl, hs⟩
  | x :: xs, y :: r, h, i + 1, v, e => by
    cases h with
    | cons h1 h2 => exact dt_items h2 i v e
theorem dtAll_rev : ∀ {xs : List V} {ds : List PyData}, DtAll K H xs ds → DtAll K H xs.reverse ds.reverse
  | _, _, .nil => .nil
  | _, _, .cons a b => by
    rw [List.reverse_cons, List.reverse_cons]
    exact (dtAll_rev b).append (.cons a .nil)
theorem row_at (h : Dt K H (.ref a) (rowD r)) : ∃ xs, SqT K H a xs ∧ xs.length = r.length ∧ DtAll K H xs (r.map dwD) := by
  cases h with
  | tup hs hd =>
    have := hd.length
    rw [List.length_map] at this
    exact ⟨_, hs, this, hd⟩
end
theorem turn_len (r : List (Str × Int)) : (turnR r).length = r.length := by rw [turnR, List.length_map, List.length_reverse]
theorem turn_ok {r : List (Str × Int)} (h : RowOk r) : RowOk (turnR r) := by
  refine ⟨fun x hx => ?_, fun x hx => ?_, ?_, by rw [turn_len]; exact h.few⟩
  · obtain ⟨y, hy, rfl⟩ := List.mem_map.mp hx
    exact h.nm y (List.mem_reverse.mp hy)
  · obtain ⟨y, hy, rfl⟩ := List.mem_map.mp hx
    have := h.dir y (List.mem_reverse.mp hy)
    show -y.2 = 1 ∨ -y.2 = -1
    omega
  · unfold turnR
    rw [List.map_map]
    show (r.reverse.map (·.1)).Nodup
    rw [List.map_reverse]
    exact (List.reverse_perm _).nodup_iff.mpr h.nd
/-- what is not reached -/
theorem ps_no {X : Cx} {st : Stmt} : PS X st (fun _ _ _ => False) := ⟨fun _ _ _ _ _ _ h => h.elim⟩
section
variable {P : Program} {w : World} {K : PySem.W.Frag} {mg : Str → Option Value} {base : Heap}
/-- a new row that is made of a row -/
def spRowTo (K : PySem.W.Frag) (f : List (Str × Int) → List (Str × Int)) : Sp := fun vs H Q _ => ∃ (a : Addr) (r : List (Str × Int)), vs = [.ref a] ∧ Dt K H (.ref a) (rowD r) ∧ RowOk r ∧ ∀ (b : Addr) (H' : Hp), Same H H' → Dt K H' (.ref b) (rowD (f r)) → Q (.ref b) H'
def spTurn (K : PySem.W.Frag) : Sp := fun vs H Q _ => ∃ (a : Addr) (r : List (Str × Int)), vs = [.ref a] ∧ Dt K H (.ref a) (rowD r) ∧ RowOk r ∧ ∀ (b : Addr) (H' : Hp), Same H H' → Dt K H' (.ref b) (rowD (turnR r)) → BareT H' b → Q (.ref b) H'
/-- the comprehension [(name, -direction) for name, direction in row[::-1]] grows -/
theorem turn_grows {te : TE} {H Hn : Hp} {Dl : Addr} {xs : List V} {r : List (Str × Int)} (hD : H Dl = none) {i : Nat} {v : V} (hv : xs[i]? = some v) (da : DtAll K H xs (r.reverse.map dwD)) (hn : xs.length ≤ 1000)
    (hp : ∃ cs, Hn Dl = some (.lst cs) ∧ DtAll K Hn cs (((turnR r).take i).map dwD) ∧ Same H Hn) :
    ∃ b nm z, v = .ref b ∧ SqT K Hn b [.str nm, .int z] ∧ ∀ (σ' : L2.St), (∀ R : VK, (∀ t, Hn t = none → R (.ref t) (upd Hn t (.tup [.str nm, .int (-z)]))) → te σ' Hn R) →
      Grows te Dl (fun H' => ∃ cs, H' Dl = some (.lst cs) ∧ DtAll K H' cs (((turnR r).take (i + 1)).map dwD) ∧ Same H H') σ' Hn := by
  obtain ⟨cs, eD, dc, sm⟩ := hp
  obtain ⟨b, x, hx, rfl, hb⟩ := dt_items da i v hv
  have hi := (List.getElem?_eq_some_iff.mp hx).1
  refine ⟨b, x.1, x.2, rfl, sm.keepsT _ _ hb, fun σ' hte => ?_⟩
  unfold Grows
  refine hte _ fun t ht => ?_
  have st := same_new (o := HO.tup [.str x.1, .int (-x.2)]) ht
  have eD2 := st _ _ eD
  have lc : cs.length ≤ 1000 := by
    have l1 := dc.length
    have l2 := da.length
    rw [List.length_map, List.length_take] at l1
    rw [List.length_map] at l2
    omega
  refine ⟨cs, eD2, Evl.sz_lt (Nat.lt_of_le_of_lt lc (by decide)), cs ++ [.ref t], upd_same, ?_, fun c o z => ?_⟩
  · have ti : (turnR r)[i]? = some (x.1, -x.2) := by
      unfold turnR
      rw [List.getElem?_map, hx]
      rfl
    rw [List.take_add_one, ti, List.map_append]
    exact (dt_keepAll (st.keepsT.trans (KeepsT.lst eD2)) dc).append (.cons (.tup (KeepsT.lst eD2 _ _ (.inl (.inl upd_same))) (.two (.str _) (.int _))) .nil)
  · rw [upd_ne (ne_of_none z hD)]
    exact st _ _ (sm _ _ z)
theorem ok_turned {f fR : Addr} {fd dR : FuncData} (F : Fun K "turned" "turned" sTurn f fd) (B : Glb mg) (GR : FnOk P w K mg base CX0 4 fR dR ["value"] (spIsRow K)) (gR : mg "is_row" = some (.ref fR)) (kR : PySem.W.keepIn K (.ref fR) = true) (bR : Binds K dR ["value"] []) :
    FnOk P w K mg base CX0 5 f fd ["row"] (spTurn K) := by
  refine F.ok scTurn (fun vs H Q E h => ?_) (fun cdv A outer s H vs Q E hr h => ?_)
  · obtain ⟨a, r, rfl, _⟩ := h
    rfl
  · obtain ⟨a, r, rfl, hd, ok, q⟩ := h
    obtain ⟨xs, hs, hl, da⟩ := row_at hd
    have few := ok.few
    refine ⟨_, pss_cons (ps_if (pt_not (pt_val (pe_call GR hr (by rfl) gR kR bR .nil pass0 (pa_cons (pv 0) pa_nil)))) (pss_one ps_no) pss_nil)
      (pss_one (ps_ret (pe_callTy call_tupleF (by rfl) B.tuple (by decide +kernel) (pa_cons (pe_lc (own := [("name", 1), ("direction", 2)]) (g := gPair K 1 2) (tt := tYes) rfl scTurn.nd (pi_tup (pe_revT (pv 0)))
        (blkOk_by (own := [("name", 1), ("direction", 2)]) (N := ["row", "name", "direction"]) (sc := defScope sTurn) (by decide +kernel))
        (fun _ _ _ _ _ => pg_tup rfl (pgs_cons (pg_name (i := 1) scTurn.nd rfl (Or.inl rfl) (Or.inr rfl)) (pgs_cons (pg_name (i := 2) scTurn.nd rfl (Or.inl rfl) (Or.inr rfl)) pgs_nil)))
        (fun _ _ _ _ _ => pts_nil) (fun _ _ _ _ _ => pe_tup (pa_cons (pv 1) (pa_cons (pe_un un_neg (pv 2)) pa_nil)))) pa_nil)))), ?_⟩
    refine ⟨_, rfl, a, .ref a, rowD r, rfl, dt_da hd, fit_row ok, fun H1 s1 => ⟨_, rfl, ?_⟩⟩
    rw [is_row ok]
    refine iteF ⟨_, rfl, a, xs, rfl, s1.keepsT _ _ hs, fun b hb => ?_⟩
    have s2 := s1.trans (same_new (o := HO.tup xs.reverse) hb)
    have t2 : SqT K (upd H1 b (.tup xs.reverse)) b xs.reverse := .inl (.inl upd_same)
    generalize upd H1 b (.tup xs.reverse) = H2 at s2 t2
    have dr : DtAll K H2 xs.reverse (r.reverse.map dwD) := by
      rw [List.map_reverse]
      exact dtAll_rev (dt_keepAll s2.keepsT da)
    refine ⟨b, rfl, ⟨_, t2⟩, fun Dl hDl => ?_⟩
    refine lcP_tup (K := K) (a := b) (xs := xs.reverse) (fun i Hn => ∃ cs, Hn Dl = some (.lst cs) ∧ DtAll K Hn cs (((turnR r).take i).map dwD) ∧ Same H2 Hn) ⟨[], upd_same, .nil, same_new hDl⟩ (fun i Hn _ hp => ?_) (fun i v Hn hv hp => ?_) (fun Hn hp => ?_)
    · obtain ⟨_, _, _, sm⟩ := hp
      exact sm.keepsT _ _ t2
    · obtain ⟨b2, nm, z, rfl, hb2, gr⟩ := turn_grows hDl hv dr (by rw [List.length_reverse]; omega) hp
      exact ⟨b2, .str nm, .int z, rfl, hb2, rfl, gr _ fun R hR => ⟨_, rfl, _, rfl, z, rfl, by show 2 ≤ sizeLine; decide, fun t ht => hR t ht⟩⟩
    · obtain ⟨cs, eD, dc, sm⟩ := hp
      rw [List.length_reverse, hl, ← turn_len r, List.take_length] at dc
      refine ⟨Dl, cs, rfl, .inl (.inl eD), fun c ob hc hob => ?_⟩
      have sc := same_new (o := HO.frz ob (.tup cs)) hc
      exact q c _ ((s2.trans sm).trans sc) (.tup (.inl (.inr ⟨ob, upd_same⟩)) (dt_keepAll sc.keepsT dc)) ⟨ob, cs, upd_same, hob⟩
end
end My
set_option Elab.async false
set_option linter.all false
set_option maxRecDepth 100000
set_option maxHeartbeats 4000000
/-! sorted(list), a < b, a == b of tuples (of tuples ..) that are alike -/
namespace My
open PySem PySem.Spec PyProof.Rows L2
open PySem.W (Datum DatumOrd EachIs)
section
variable {α : Type} [DecidableEq α] [DatumOrd α]
abbrev leO (a b : α) : Bool := !DatumOrd.lt b a
abbrev sortO (xs : List α) : List α := xs.mergeSort leO
theorem leO_eq : PySem.W.dataLe false (fun b : α => Datum.toD b) = leO := by
  funext a b
  rw [PySem.W.dataLe_eq]
  show (!PySem.W.dataLt (Datum.toD b) (Datum.toD a)) = _
  rw [DatumOrd.lt_eq]
theorem leO_total : PySem.W.TotalLe (leO (α := α)) := by
  rw [← leO_eq]
  exact PySem.W.sortLe_total _ _ _
end
/-- a value that stands for x -/
abbrev Hd1 {α : Type} [DecidableEq α] [Datum α] (K : PySem.W.Frag) (H : Hp) (v : V) (x : α) : Prop := Dt K H v (Datum.toD x)
abbrev HdAll {α : Type} [DecidableEq α] [Datum α] (K : PySem.W.Frag) (H : Hp) (vs : List V) (xs : List α) : Prop := DtAll K H vs (xs.map Datum.toD)
section
variable {X : Cx} {α : Type} [DecidableEq α] [DatumOrd α]
def rSortD (α : Type) [DecidableEq α] [DatumOrd α] (K : PySem.W.Frag) : List V → Hp → VK → Prop := fun xs H Q => ∃ (a : Addr) (vs : List V) (bs : List α), xs = [.ref a] ∧ SqL K H a vs ∧ HdAll K H vs bs ∧ bs.length ≤ 1000 ∧
  ∀ (p : Addr) (ws : List V), H p = none → HdAll K H ws (sortO bs) → Q (.ref p) (upd H p (.lst ws))
theorem each_vals {pins : List (Addr × Obj)} {σ : L2.St} {H : Hp} {s : Shared} (I : Inv X pins σ H s) : ∀ {bs : List α} {vs : List V} {its : List Value}, Vals vs its → HdAll X.K H vs bs →
    EachIs (fun v b => ∃ x, RelV x v ∧ Hd1 X.K H x b) its bs ∧ EachIs (fun v b => ∃ as, Reads s.heap v (Datum.toD b) as) its bs
  | [], _, _, r, h => by
    cases h
    cases r
    exact ⟨.nil, .nil⟩
  | b :: bs, _, _, r, h => by
    cases h with
    | cons h1 h2 =>
      cases r with
      | cons r1 r2 =>
        obtain ⟨e1, e2⟩ := each_vals I r2 h2
        exact ⟨.cons ⟨_, r1, h1⟩ e1, .cons (Dp.reads I _ _ _ (dt_dp h1) r1) e2⟩
theorem vals_each {K : PySem.W.Frag} {H : Hp} : ∀ {bs : List α} {out : List Value}, EachIs (fun v b => ∃ x, RelV x v ∧ Hd1 K H x b) out bs → ∃ ws : List V, Vals ws out ∧ HdAll K H ws bs
  | _, _, .nil => ⟨[], .nil, .nil⟩
  | _, _, .cons h r => by
    obtain ⟨x, rx, hx⟩ := h
    obtain ⟨ws, h1, h2⟩ := vals_each r
    exact ⟨x :: ws, .cons rx h1, .cons hx h2⟩
theorem call_sortD (hs : ∀ b : α, ∃ x r, Datum.toD b = .tuple (x :: r)) (hu : X.A.units + 2 + Datum.depth α < cLine) : CallR X (.builtin "sorted") (rSortD α X.K) := by
  intro pins s σ H xs us Q I rv h
  obtain ⟨a, vs, bs, rfl, hl, hb, few, q⟩ := h
  obtain ⟨its, rr, il, hz⟩ := I.list hl
  rw [Vals.ref1 rv]
  obtain ⟨e1, e2⟩ := each_vals I rr hb
  refine PySem.W.sorted_data (R := fun v b => ∃ x, RelV x v ∧ Hd1 X.K H x b) (enc := fun b : α => Datum.toD b) il.isList e1 e2 (PySem.W.AllAlike.of fun b b' => DatumOrd.alike b b') (PySem.W.Sortable.tuples hs) (by rw [sizeLine_eq]; omega)
    (fun b _ => Nat.lt_of_le_of_lt (Nat.add_le_add_left (Datum.depth_le b) _) hu) fun out hlen ho => ?_
  rw [leO_eq] at ho
  obtain ⟨ws, rw', hw⟩ := vals_each ho
  obtain ⟨ep, he'⟩ := PyProof.Rows.sortedAll_at s.heap its out.toArray
  have hws : ws.length ≤ sizeLine := by
    have := rw'.length
    rw [sizeLine_eq]
    omega
  exact ⟨.ref _, upd H (s.heap.objs.size + 1) (.lst ws), I.laid (t' := s.toks) (fun _ _ => PyProof.Rows.sortedAll_old) (Nat.le_succ _) ⟨hws, out, ep, rw', he'⟩, rfl, q _ _ (I.hok.fresh (Nat.le_succ _)) hw⟩
def rLtD (α : Type) [DecidableEq α] [DatumOrd α] (K : PySem.W.Frag) : R2 := fun x y H Q => ∃ p q : α, Hd1 K H x p ∧ Hd1 K H y q ∧ Q (.bl (DatumOrd.lt p q)) H
theorem op_ltD (hu : X.A.units + Datum.depth α < cLine) : OpR X (compareOp .Lt) (rLtD α X.K) := by
  intro pins s σ H x y v u Q I rx ry ⟨p, q, hp, hq, k⟩
  exact PySem.W.lt_datum (Dp.reads I _ _ _ (dt_dp hp) rx) (Dp.reads I _ _ _ (dt_dp hq) ry) hu ⟨.bl _, H, I, rfl, k⟩
def rEqD (α : Type) [DecidableEq α] [Datum α] (K : PySem.W.Frag) : R2 := fun x y H Q => ∃ p q : α, Hd1 K H x p ∧ Hd1 K H y q ∧ Q (.bl (decide (p = q))) H
theorem op_eqDt (hu : X.A.units + Datum.depth α < cLine) : OpR X (compareOp .Eq) (rEqD α X.K) := by
  intro pins s σ H x y v u Q I rx ry ⟨p, q, hp, hq, k⟩
  exact PySem.W.eq_datum (Dp.reads I _ _ _ (dt_dp hp) rx) (Dp.reads I _ _ _ (dt_dp hq) ry) hu ⟨.bl _, H, I, rfl, k⟩
end
end My
set_option Elab.async false
set_option linter.all false
set_option maxRecDepth 100000
set_option maxHeartbeats 4000000
/-! entry_of, opposite, coupling_of -/
namespace My
open PySem PySem.Spec PyProof.Rows L2
open PySem.W (Datum DatumOrd)
abbrev EndT := Str × Int
abbrev CoupT := EndT × EndT
def entR (x : Str × Int) : EndT := (x.1, if x.2 = 1 then 0 else 1)
def oppE (e : EndT) : EndT := (e.1, 1 - e.2)
def coupE (p q : EndT) : CoupT := if DatumOrd.lt p q = true then (p, q) else (q, p)
section
variable {P : Program} {w : World} {K : PySem.W.Frag} {mg : Str → Option Value} {base : Heap}
/-- of one pair to another -/
def spPair (K : PySem.W.Frag) (g : Str × Int → EndT) : Sp := fun vs H Q _ => ∃ (v : V) (x : Str × Int), vs = [v] ∧ Hd1 K H v x ∧ ∀ (u : V) (H' : Hp), Same H H' → Hd1 K H' u (g x) → Q u H'
theorem dw_at {H : Hp} {v : V} {x : Str × Int} (h : Hd1 K H v x) : ∃ a, v = .ref a ∧ SqT K H a [.str x.1, .int x.2] := by
  have h : Dt K H v (.tuple [.str x.1, .int x.2]) := h
  cases h with
  | tup hs hd =>
    cases hd with
    | cons d1 d2 =>
      cases d1
      cases d2 with
      | cons d3 d4 =>
        cases d3
        cases d4
        exact ⟨_, rfl, hs⟩
theorem dw_new {H : Hp} {t : Addr} (ht : H t = none) (x : Str) (i : Int) : Same H (upd H t (.tup [.str x, .int i])) ∧ Hd1 K (upd H t (.tup [.str x, .int i])) (.ref t) ((x, i) : Str × Int) :=
  ⟨same_new ht, .tup (.inl (.inl upd_same)) (.two (.str _) (.int _))⟩
theorem ok_entry {f : Addr} {fd : FuncData} (F : Fun K "entry_of" "entry_of" sEntry f fd) : FnOk P w K mg base CX0 1 f fd ["wagon"] (spPair K entR) := by
  refine F.ok scEntry (fun vs H Q E h => ?_) (fun cdv A outer s H vs Q E hr h => ?_)
  · obtain ⟨v, x, rfl, _⟩ := h
    rfl
  · obtain ⟨v, x, rfl, hx, q⟩ := h
    obtain ⟨a, rfl, ha⟩ := dw_at hx
    refine ⟨_, pss_cons (ps_asg (pv 0) (pg_tup rfl (pgs_cons (pg_name (i := 1) scEntry.nd rfl (.inl rfl)) (pgs_cons (pg_name (i := 2) scEntry.nd rfl (.inl rfl)) pgs_nil))))
      (pss_one (ps_ret (pe_ifExp (pt_cmpR op_eq (pv 2) pe_int (nomark _)) (pe_tup (pa_cons (pv 1) (pa_cons pe_int pa_nil))) (pe_tup (pa_cons (pv 1) (pa_cons pe_int pa_nil)))))), ?_⟩
    refine ⟨_, rfl, a, _, rfl, ha, rfl, _, _, rfl, _, _, rfl, rfl, ?_⟩
    refine ⟨_, rfl, rfl, _, rfl, ?_⟩
    by_cases h1 : x.2 = 1
    · rw [decide_eq_true (by rw [h1])]
      refine iteT ⟨_, rfl, by show 2 ≤ sizeLine; decide, fun t ht => ?_⟩
      have e : entR x = (x.1, 0) := by unfold entR; rw [if_pos h1]
      exact q _ _ (dw_new (K := K) ht x.1 0).1 (e ▸ (dw_new ht x.1 0).2)
    · rw [decide_eq_false fun z => h1 (V.int.inj z)]
      refine iteF ⟨_, rfl, by show 2 ≤ sizeLine; decide, fun t ht => ?_⟩
      have e : entR x = (x.1, 1) := by unfold entR; rw [if_neg h1]
      exact q _ _ (dw_new (K := K) ht x.1 1).1 (e ▸ (dw_new ht x.1 1).2)
theorem ok_opp {f : Addr} {fd : FuncData} (F : Fun K "opposite" "opposite" sOpp f fd) : FnOk P w K mg base CX0 1 f fd ["end"] (spPair K oppE) := by
  refine F.ok scOpp (fun vs H Q E h => ?_) (fun cdv A outer s H vs Q E hr h => ?_)
  · obtain ⟨v, x, rfl, _⟩ := h
    rfl
  · obtain ⟨v, x, rfl, hx, q⟩ := h
    obtain ⟨a, rfl, ha⟩ := dw_at hx
    refine ⟨_, pss_cons (ps_asg (pv 0) (pg_tup rfl (pgs_cons (pg_name (i := 1) scOpp.nd rfl (.inl rfl)) (pgs_cons (pg_name (i := 2) scOpp.nd rfl (.inl rfl)) pgs_nil))))
      (pss_one (ps_ret (pe_tup (pa_cons (pv 1) (pa_cons (pe_op op_sub pe_int (pv 2)) pa_nil))))), ?_⟩
    refine ⟨_, rfl, a, _, rfl, ha, rfl, _, _, rfl, _, _, rfl, rfl, ?_⟩
    refine ⟨_, rfl, _, rfl, _, _, rfl, rfl, by show 2 ≤ sizeLine; decide, fun t ht => ?_⟩
    exact q _ _ (dw_new (K := K) ht x.1 (1 - x.2)).1 (dw_new ht x.1 (1 - x.2)).2
def spCoup (K : PySem.W.Frag) : Sp := fun vs H Q _ => ∃ (v u : V) (p q : EndT), vs = [v, u] ∧ Hd1 K H v p ∧ Hd1 K H u q ∧ ∀ (z : V) (H' : Hp), Same H H' → Hd1 K H' z (coupE p q) → Q z H'
theorem coup_new {H : Hp} {t : Addr} (ht : H t = none) {v u : V} {p q : EndT} (h1 : Hd1 K H v p) (h2 : Hd1 K H u q) : Same H (upd H t (.tup [v, u])) ∧ Hd1 K (upd H t (.tup [v, u])) (.ref t) ((p, q) : CoupT) :=
  ⟨same_new ht, .tup (.inl (.inl upd_same)) (.two (dt_keep (same_new ht).keepsT h1) (dt_keep (same_new ht).keepsT h2))⟩
theorem ok_coup {f : Addr} {fd : FuncData} (F : Fun K "coupling_of" "coupling_of" sCoup f fd) : FnOk P w K mg base CX0 1 f fd ["one", "other"] (spCoup K) := by
  refine F.ok scCoup (fun vs H Q E h => ?_) (fun cdv A outer s H vs Q E hr h => ?_)
  · obtain ⟨v, u, p, q, rfl, _⟩ := h
    rfl
  · obtain ⟨v, u, p, q, rfl, h1, h2, k⟩ := h
    have hu : (A.deeper (envOfC "coupling_of" (defScope sCoup) s.heap.objs.size f cdv)).units + Datum.depth EndT < cLine := by
      have := hr.units
      show _ + 1 < cLine
      omega
    refine ⟨_, pss_one (ps_ret (pe_ifExp (pt_cmpR (op_ltD (α := EndT) hu) (pv 0) (pv 1) (nomark _)) (pe_tup (pa_cons (pv 0) (pa_cons (pv 1) pa_nil))) (pe_tup (pa_cons (pv 1) (pa_cons (pv 0) pa_nil))))), ?_⟩
    refine ⟨_, rfl, _, rfl, p, q, h1, h2, _, rfl, ?_⟩
    cases hlt : (DatumOrd.lt p q : Bool) with
    | true =>
      refine iteT ⟨_, rfl, _, rfl, by show 2 ≤ sizeLine; decide, fun t ht => ?_⟩
      have e : coupE p q = (p, q) := by unfold coupE; rw [if_pos hlt]
      exact k _ _ (coup_new (K := K) ht h1 h2).1 (e ▸ (coup_new ht h1 h2).2)
    | false =>
      refine iteF ⟨_, rfl, _, rfl, by show 2 ≤ sizeLine; decide, fun t ht => ?_⟩
      have e : coupE p q = (q, p) := by unfold coupE; rw [if_neg (by rw [hlt]; exact Bool.false_ne_true)]
      exact k _ _ (coup_new (K := K) ht h2 h1).1 (e ▸ (coup_new ht h2 h1).2)
end
end My
set_option Elab.async false
set_option linter.all false
set_option maxRecDepth 100000
set_option maxHeartbeats 4000000
/-! [e for x, y in zip(s, t)], s and t tuples -/
namespace My
open PySem PySem.Spec PyProof.Rows L2 RZ
section
variable {K : PySem.W.Frag} {te : TE} {vs : List Nat} {σ : L2.St} {H1 : Hp} {D : Addr} {Qd : Hp → Prop} {i1 i2 : Nat}
theorem lcP_zipT {a b : Addr} {xs ys : List V} (hl : ys.length ≤ xs.length) (Pv : Nat → Hp → Prop) (h0 : Pv 0 (upd H1 D (.lst []))) (hq : ∀ i H, Pv i H → SqT K H a xs ∧ SqT K H b ys)
    (hs : ∀ i x y T H, xs[i]? = some x → ys[i]? = some y → Pv i H → H T = none → wipe (((wipe σ vs).set i1 (some x)).set i2 (some y)) vs = wipe σ vs ∧ Grows te D (Pv (i + 1)) (((wipe σ vs).set i1 (some x)).set i2 (some y)) (upd H T (.tup [x, y]))) (hd : ∀ H, Pv ys.length H → Qd H) :
    ∃ W : Nat → Nat → Hp → Prop, (∃ m, W 0 m (upd H1 D (.lst []))) ∧ ∀ i m H, W i m H →
      ((ItzT K a b).stop i H ∧ Qd H) ∨ ((ItzT K a b).go i H ∧ ∃ Nx : Hp → Prop, (∀ H', Nx H' → ∃ m', m' < m ∧ W (i + 1) m' H') ∧ ∀ x H', (ItzT K a b).yld i H x H' → gPair K i1 i2 x (wipe σ vs) H' fun σ2 H2 => wipe σ2 vs = wipe σ vs ∧ tYes σ2 H2 fun b H3 =>
        if b = true then te σ2 H3 fun y H4 => ∃ acc, H4 D = some (.lst acc) ∧ acc.length < sizeLine ∧ Nx (upd H4 D (.lst (acc ++ [y]))) else Nx H3) := by
  refine ⟨fun i m H => m = ys.length - i ∧ i ≤ ys.length ∧ Pv i H, ⟨ys.length, rfl, Nat.zero_le _, h0⟩, ?_⟩
  rintro i m H ⟨rfl, hi, p⟩
  obtain ⟨qx, qy⟩ := hq i H p
  by_cases hlt : i < ys.length
  · have hy : ys[i]? = some ys[i] := List.getElem?_eq_getElem hlt
    have hlt2 : i < xs.length := by omega
    have hx : xs[i]? = some xs[i] := List.getElem?_eq_getElem hlt2
    refine .inr ⟨⟨xs, ys, _, _, qx, qy, hx, hy⟩, Pv (i + 1), fun H' p' => ⟨ys.length - (i + 1), by omega, rfl, hlt, p'⟩, fun v H' yl => ?_⟩
    obtain ⟨T, x', y', rfl, hT, rfl, f1, f2⟩ := yl
    obtain ⟨h1, h2⟩ := hs i x' y' T H (f1 xs qx) (f2 ys qy) p hT
    exact ⟨T, [x', y'], rfl, .inl (.inl upd_same), rfl, x', [y'], rfl, y', [], rfl, rfl, yes_turn h1 h2⟩
  · have e : i = ys.length := by omega
    subst e
    exact .inl ⟨⟨xs, ys, qx, qy, Or.inr (Nat.le_refl _)⟩, hd H p⟩
end
end My
set_option Elab.async false
set_option linter.all false
set_option maxRecDepth 100000
set_option maxHeartbeats 4000000
namespace My
open PySem PySem.Spec PyProof.Rows L2
/-- a callee's promise and its name -/
structure Has (P : Program) (w : World) (K : PySem.W.Frag) (mg : Str → Option Value) (base : Heap) (k : Nat) (x : Str) (ps : List Str) (sp : Sp) (f : Addr) (fd : FuncData) : Prop where
  o : FnOk P w K mg base CX0 k f fd ps sp
  g : mg x = some (.ref f)
  k : PySem.W.keepIn K (.ref f) = true
  b : Binds K fd ps []
section
variable {X : Cx} {k : Nat} {x : Str} {ps : List Str} {sp : Sp} {f : Addr} {fd : FuncData}
/-- the call of such a def by its name -/
theorem pe_has {e : Expr} {es : List Expr} {t : TA} {p pos : Pos} (G : Has X.prog X.w X.K X.mg X.base k x ps sp f fd) (hr : Room k X.A) (hg : Gl X x) (ha : PA X (e :: es) t) (nd : (x == ("__debug__" : Str)) = false := by decide)
    (he : starEach (e :: es) X.env = (false, eval e X.env) :: starEach es X.env := by rfl) (hp : (backTo pos (starEach es X.env)).any (·.1) = false := by rfl) : PE X (.Call (.Name x p) (e :: es) [] pos) (tCall sp [] E0 t) :=
  pe_call G.o hr hg G.g G.k G.b .nil pass0 ha nd he hp
end
end My
set_option Elab.async false
set_option linter.all false
set_option maxRecDepth 100000
set_option maxHeartbeats 4000000
/-! row_links -/
namespace My
open PySem PySem.Spec PyProof.Rows L2 RZ
open PySem.W (Datum DatumOrd)
def pairOf (x y : Str × Int) : CoupT := coupE (oppE (entR x)) (entR y)
def linksU (r : List (Str × Int)) : List CoupT := List.zipWith pairOf r (r.drop 1)
def linksR (r : List (Str × Int)) : List CoupT := sortO (linksU r)
theorem linksU_len (r : List (Str × Int)) : (linksU r).length = r.length - 1 := by
  unfold linksU
  rw [List.length_zipWith, List.length_drop]
  omega
section
variable {P : Program} {w : World} {K : PySem.W.Frag} {mg : Str → Option Value} {base : Heap}
def spLinks (K : PySem.W.Frag) : Sp := fun vs H Q _ => ∃ (a : Addr) (r : List (Str × Int)), vs = [.ref a] ∧ Dt K H (.ref a) (rowD r) ∧ r.length ≤ 100 ∧ ∀ (l : Addr) (ws : List V) (H' : Hp), H l = none → H' l = some (.lst ws) → HdAll K H' ws (linksR r) → Same H H' → Q (.ref l) H'
theorem ok_links {f fE fO fC : Addr} {fd dE dO dC : FuncData} (F : Fun K "row_links" "row_links" sLinks f fd) (ms : mg "sorted" = none) (mz : mg "zip" = none) (GE : Has P w K mg base 1 "entry_of" ["wagon"] (spPair K entR) fE dE) (GO : Has P w K mg base 1 "opposite" ["end"] (spPair K oppE) fO dO)
    (GC : Has P w K mg base 1 "coupling_of" ["one", "other"] (spCoup K) fC dC) : FnOk P w K mg base CX0 2 f fd ["row"] (spLinks K) := by
  refine F.ok scLinks (fun vs H Q E h => ?_) (fun cdv A outer s H vs Q E hr h => ?_)
  · obtain ⟨a, r, rfl, _⟩ := h
    rfl
  · obtain ⟨a, r, rfl, hd, few, q⟩ := h
    obtain ⟨xs, hs, hl, da⟩ := row_at hd
    have hu : (A.deeper (envOfC "row_links" (defScope sLinks) s.heap.objs.size f cdv)).units + 2 + Datum.depth CoupT < cLine := by
      have := hr.units
      show _ + 2 + 2 < cLine
      omega
    refine ⟨_, pss_one (ps_ret (pe_callB (call_sortD (α := CoupT) (fun b => ⟨_, _, rfl⟩) hu) (by rfl) ms (by decide +kernel) (pa_cons (pe_lc (own := [("one", 1), ("other", 2)]) (g := gPair K 1 2) (tt := tYes) rfl scLinks.nd
        (pi_zipA (by rfl) mz (pa_cons (pv 0) (pa_cons (pe_slice sl_tupA (pv 0) (po_some pe_int) po_none) pa_nil)))
        (blkOk_by (own := [("one", 1), ("other", 2)]) (N := ["row", "one", "other"]) (sc := defScope sLinks) (by decide +kernel))
        (fun _ _ _ _ _ => pg_tup rfl (pgs_cons (pg_name (i := 1) scLinks.nd rfl (Or.inl rfl) (Or.inr rfl)) (pgs_cons (pg_name (i := 2) scLinks.nd rfl (Or.inl rfl) (Or.inr rfl)) pgs_nil)))
        (fun _ _ _ _ _ => pts_nil)
        (fun _ _ _ _ _ => pe_has GC hr (by rfl) (pa_cons (pe_has GO hr (by rfl) (pa_cons (pe_has GE hr (by rfl) (pa_cons (pv 1) pa_nil)) pa_nil)) (pa_cons (pe_has GE hr (by rfl) (pa_cons (pv 2) pa_nil)) pa_nil)))) pa_nil))), ?_⟩
    refine ⟨_, rfl, _, rfl, _, rfl, ?_⟩
    unfold tNoPart
    dsimp only []
    refine sl_to (lo := some 1) (hi := none) hs fun b H1 s1 t1 => ?_
    rw [show (some (1 : Int)) = some ((1 : Nat) : Int) from rfl, cutV_from] at t1
    refine ⟨a, b, xs, xs.drop 1, rfl, .inr ⟨s1.keepsT _ _ hs, t1, fun Dl hDl => ?_⟩⟩
    have da1 := dt_keepAll s1.keepsT da
    refine lcP_zipT (K := K) (a := a) (b := b) (xs := xs) (ys := xs.drop 1) (by rw [List.length_drop]; omega) (fun i Hn => ∃ cs, Hn Dl = some (.lst cs) ∧ HdAll K Hn cs ((linksU r).take i) ∧ Same H1 Hn) ⟨[], upd_same, .nil, same_new hDl⟩ (fun i Hn hp => ?_) (fun i x y T Hn hx hy hp hT => ?_) (fun Hn hp => ?_)
    · obtain ⟨_, _, _, sm⟩ := hp
      exact ⟨sm.keepsT _ _ (s1.keepsT _ _ hs), sm.keepsT _ _ t1⟩
    · obtain ⟨cs, eD, dc, sm⟩ := hp
      rw [List.getElem?_drop] at hy
      obtain ⟨d1, e1, h1⟩ := da1.at hx
      obtain ⟨d2, e2, h2⟩ := da1.at hy
      rw [List.getElem?_map] at e1 e2
      obtain ⟨r1, er1, rfl⟩ := Option.map_eq_some_iff.mp e1
      obtain ⟨r2, er2, rfl⟩ := Option.map_eq_some_iff.mp e2
      have sT := same_new (o := HO.tup [x, y]) hT
      refine ⟨rfl, ?_⟩
      unfold Grows
      refine ⟨_, rfl, x, r1, rfl, dt_keep (sm.trans sT).keepsT h1, fun u1 H2 s2 k1 => ⟨u1, _, rfl, k1, fun u2 H3 s3 k2 => ⟨_, rfl, y, r2, rfl, dt_keep (((sm.trans sT).trans s2).trans s3).keepsT h2, fun u3 H4 s4 k3 => ⟨u2, u3, _, _, rfl, dt_keep s4.keepsT k2, k3, fun z H5 s5 k5 => ?_⟩⟩⟩⟩
      have st := (((sT.trans s2).trans s3).trans s4).trans s5
      have eD2 := st _ _ eD
      have lc : cs.length ≤ 1000 := by
        have l1 := dc.length
        rw [List.length_map, List.length_take, linksU_len] at l1
        omega
      refine ⟨cs, eD2, Evl.sz_lt (Nat.lt_of_le_of_lt lc (by decide)), cs ++ [z], upd_same, ?_, fun c o hc => ?_⟩
      · have ti : (linksU r)[i]? = some (pairOf r1 r2) := by
          unfold linksU
          rw [List.getElem?_zipWith, List.getElem?_drop, er1, er2]
        show DtAll K _ _ (List.map Datum.toD _)
        rw [List.take_add_one, ti, List.map_append]
        exact (dt_keepAll (st.keepsT.trans (KeepsT.lst eD2)) dc).append (.cons (dt_keep (KeepsT.lst eD2) k5) .nil)
      · rw [upd_ne (ne_of_none hc hDl)]
        exact st _ _ (sm _ _ hc)
    · obtain ⟨cs, eD, dc, sm⟩ := hp
      rw [show (xs.drop 1).length = (linksU r).length by rw [List.length_drop, linksU_len, hl], List.take_length] at dc
      refine ⟨Dl, cs, linksU r, rfl, .inl (.inl eD), dc, by rw [linksU_len]; omega, fun p ws hp hw => ?_⟩
      have sp := same_new (o := HO.lst ws) hp
      exact q p ws _ ((s1.trans sm).free hp) upd_same (dt_keepAll sp.keepsT hw) ((s1.trans sm).trans sp)
end
end My
set_option Elab.async false
set_option linter.all false
set_option maxRecDepth 100000
set_option maxHeartbeats 4000000
namespace My
open PySem PySem.Spec PyProof.Rows L2
section
variable {P : Program} {w : World} {K : PySem.W.Frag} {mg : Str → Option Value} {base : Heap}
def spNames (K : PySem.W.Frag) : Sp := fun vs H Q _ => ∃ (a : Addr) (r : List (Str × Int)), vs = [.ref a] ∧ Dt K H (.ref a) (rowD r) ∧ r.length ≤ 1000 ∧ ∀ (l : Addr) (H' : Hp), H l = none → H' l = some (.lst ((r.map (·.1)).map V.str)) → Same H H' → Q (.ref l) H'
theorem ok_names {f : Addr} {fd : FuncData} (F : Fun K "names_of" "names_of" sNames f fd) : FnOk P w K mg base CX0 1 f fd ["row"] (spNames K) := by
  refine F.ok scNames (fun vs H Q E h => ?_) (fun cdv A outer s H vs Q E hr h => ?_)
  · obtain ⟨a, r, rfl, _⟩ := h
    rfl
  · obtain ⟨a, r, rfl, hd, few, q⟩ := h
    obtain ⟨xs, hs, hl, da⟩ := row_at hd
    refine ⟨_, pss_one (ps_ret (pe_lc (own := [("name", 1), ("_", 2)]) (g := gPair K 1 2) (tt := tYes) rfl scNames.nd (pi_tup (pv 0))
        (blkOk_by (own := [("name", 1), ("_", 2)]) (N := ["row", "name", "_"]) (sc := defScope sNames) (by decide +kernel))
        (fun _ _ _ _ _ => pg_tup rfl (pgs_cons (pg_name (i := 1) scNames.nd rfl (Or.inl rfl) (Or.inr rfl)) (pgs_cons (pg_name (i := 2) scNames.nd rfl (Or.inl rfl) (Or.inr rfl)) pgs_nil)))
        (fun _ _ _ _ _ => pts_nil) (fun _ _ _ _ _ => pv 1))), ?_⟩
    refine ⟨_, rfl, a, rfl, ⟨_, hs⟩, fun Dl hD => ?_⟩
    refine lcP_tup (K := K) (a := a) (xs := xs) (fun i Hn => Hn Dl = some (.lst (((r.map (·.1)).take i).map V.str)) ∧ Same H Hn) ⟨upd_same, same_new hD⟩ (fun i Hn _ hp => hp.2.keepsT _ _ hs) (fun i v Hn hv hp => ?_) (fun Hn hp => ?_)
    · obtain ⟨b, x, hx, rfl, hb⟩ := dt_items da i v hv
      have hi := (List.getElem?_eq_some_iff.mp hx).1
      refine ⟨b, .str x.1, .int x.2, rfl, hp.2.keepsT _ _ hb, rfl, _, rfl, _, hp.1, Evl.sz_lt (by rw [List.length_map, List.length_take]; omega), ?_, fun c o z => ?_⟩
      · rw [upd_same, List.take_add_one, List.getElem?_map, hx, List.map_append]
        rfl
      · rw [upd_ne (ne_of_none z hD)]
        exact hp.2 c o z
    · refine q Dl Hn hD ?_ hp.2
      rw [hp.1, hl, ← List.length_map (f := fun x : Str × Int => x.1), List.take_length]
/-- of a row that isn't empty -/
def spNe (K : PySem.W.Frag) (g : List (Str × Int) → List (Str × Int)) (pre : Addr → Hp → Prop) : Sp := fun vs H Q _ => ∃ (a : Addr) (r : List (Str × Int)), vs = [.ref a] ∧ Dt K H (.ref a) (rowD r) ∧ RowOk r ∧ r ≠ [] ∧ pre a H ∧ ∀ (b : Addr) (H' : Hp), Same H H' → Dt K H' (.ref b) (rowD (g r)) → Q (.ref b) H'
/-! ### a line's normal form -/
def nthN (r : List (Str × Int)) (i : Nat) : Str := (r.getD i (Str.empty, 0)).1
def fstN (r : List (Str × Int)) : Str := nthN r 0
def lstN (r : List (Str × Int)) : Str := nthN r (r.length - 1)
theorem nthN_of {r : List (Str × Int)} {i : Nat} {x : Str × Int} (h : r[i]? = some x) : nthN r i = x.1 := by
  unfold nthN
  rw [List.getD_eq_getElem?_getD, h]
  rfl
theorem atI_neg1 {α : Type} {xs : List α} {v : α} (h : xs[xs.length - 1]? = some v) (h0 : xs ≠ []) : atI xs (-1) = some v := by
  obtain ⟨ys, z, rfl⟩ : ∃ ys z, xs = ys ++ [z] := ⟨xs.dropLast, xs.getLast h0, (List.dropLast_concat_getLast h0).symm⟩
  have e : (ys ++ [z]).length - 1 = ys.length := by simp
  rw [e, List.getElem?_append_right (Nat.le_refl _), Nat.sub_self] at h
  cases h
  exact atI_last ys v
def lineR (r : List (Str × Int)) : List (Str × Int) := if r.length = 1 then [(fstN r, 1)] else if ltS (fstN r) (lstN r) = true then r else turnR r
theorem ok_line {f fT : Addr} {fd dT : FuncData} (F : Fun K "line_form" "line_form" sLineF f fd) (B : Glb mg) (GT : FnOk P w K mg base CX0 5 fT dT ["row"] (spTurn K)) (gT : mg "turned" = some (.ref fT)) (kT : PySem.W.keepIn K (.ref fT) = true) (bT : Binds K dT ["row"] []) :
    FnOk P w K mg base CX0 6 f fd ["row"] (spNe K lineR fun _ _ => True) := by
  refine F.ok scLineF (fun vs H Q E h => ?_) (fun cdv A outer s H vs Q E hr h => ?_)
  · obtain ⟨a, r, rfl, _⟩ := h
    rfl
  · obtain ⟨a, r, rfl, hd, ok, hne, _, q⟩ := h
    obtain ⟨xs, hs, hl, da⟩ := row_at hd
    have few := ok.few
    refine ⟨_, pss_cons (ps_if (pt_cmpR op_eq (pe_callB call_len (by rfl) B.len PySem.boot_len (pa_cons (pv 0) pa_nil)) pe_int (nomark _))
        (pss_one (ps_ret (pe_tup (pa_cons (pe_tup (pa_cons (pe_ix ix_tup (pe_ix ix_tup (pv 0) pe_int (fun _ _ => rfl)) pe_int (fun _ _ => rfl)) (pa_cons pe_int pa_nil))) pa_nil)))) pss_nil)
      (pss_one (ps_ret (pe_ifExp (pt_cmpR op_lt_str (pe_ix ix_tup (pe_ix ix_tup (pv 0) pe_int (fun _ _ => rfl)) pe_int (fun _ _ => rfl)) (pe_ix ix_tup (pe_ix ix_tup (pv 0) (pe_un un_neg pe_int) (fun _ _ => rfl)) pe_int (fun _ _ => rfl)) (nomark _))
        (pv 0) (pe_call GT hr (by rfl) gT kT bT .nil pass0 (pa_cons (pv 0) pa_nil))))), ?_⟩
    have xl : 0 < xs.length := by
      cases r with
      | nil => exact absurd rfl hne
      | cons x t => rw [hl]; exact Nat.succ_pos _
    obtain ⟨b0, x0, hx0, e0, hb0⟩ := dt_items da 0 xs[0] (List.getElem?_eq_getElem xl)
    have at0 : atI xs 0 = some (.ref b0) := by
      rw [← e0]
      exact atI_nat (j := 0) (List.getElem?_eq_getElem xl)
    refine ⟨_, rfl, .ref a, xs.length, rfl, .inr ⟨_, hs, rfl⟩, rfl, _, rfl, ?_⟩
    by_cases h1 : xs.length = 1
    · rw [h1]
      refine iteT ⟨_, rfl, a, xs, 0, _, rfl, rfl, hs, at0, b0, _, 0, _, rfl, rfl, hb0, atI_nat (j := 0) rfl, by show 2 ≤ sizeLine; decide, fun t ht => ⟨by show 1 ≤ sizeLine; decide, fun t2 ht2 => ?_⟩⟩
      have s1 := same_new (o := HO.tup [.str x0.1, .int 1]) ht
      have s2 := same_new (o := HO.tup [.ref t]) ht2
      refine q t2 _ (s1.trans s2) ?_
      have el : lineR r = [(x0.1, 1)] := by
        unfold lineR
        rw [if_pos (by omega), show fstN r = x0.1 from nthN_of hx0]
      rw [el]
      exact .tup (.inl (.inl upd_same)) (.cons (.tup (s2.keepsT _ _ (.inl (.inl upd_same))) (.two (.str _) (.int _))) .nil)
    · have e1 : decide (V.int (xs.length : Int) = V.int 1) = false := decide_eq_false fun z => h1 (by have := V.int.inj z; omega)
      rw [e1]
      obtain ⟨b1, x1, hx1, e1', hb1⟩ := dt_items da (xs.length - 1) xs[xs.length - 1] (List.getElem?_eq_getElem (by omega))
      have at1 : atI xs (-1) = some (.ref b1) := by
        rw [← e1']
        exact atI_neg1 (List.getElem?_eq_getElem (by omega)) (fun z => by rw [z] at xl; exact absurd xl (Nat.lt_irrefl 0))
      refine iteF ⟨_, rfl, a, xs, 0, _, rfl, rfl, hs, at0, b0, _, 0, _, rfl, rfl, hb0, atI_nat (j := 0) rfl, _, rfl, 1, rfl, a, xs, -1, _, rfl, rfl, hs, at1, b1, _, 0, _, rfl, rfl, hb1, atI_nat (j := 0) rfl, x0.1, x1.1, rfl, rfl, _, rfl, ?_⟩
      have el : lineR r = if ltS x0.1 x1.1 = true then r else turnR r := by
        unfold lineR
        rw [if_neg (by omega), show fstN r = x0.1 from nthN_of hx0, show lstN r = x1.1 from nthN_of (by rw [← hl]; exact hx1)]
      show if ltS x0.1 x1.1 = true then _ else _
      cases hlt : ltS x0.1 x1.1 with
      | true =>
        rw [hlt, if_pos rfl] at el
        refine iteT ⟨_, rfl, q a H (.refl H) ?_⟩
        rw [el]
        exact hd
      | false =>
        rw [hlt, if_neg Bool.false_ne_true] at el
        refine iteF ⟨_, rfl, a, r, rfl, hd, ok, fun b H' s' d' _ => q b H' s' ?_⟩
        rw [el]
        exact d'
end
end My
set_option Elab.async false
set_option linter.all false
set_option maxRecDepth 100000
set_option maxHeartbeats 4000000
namespace My
open PySem PySem.Spec PyProof.Rows L2
def leastN (r : List (Str × Int)) : Str := match r.map (·.1) with
  | [] => Str.empty
  | y :: t => minS y t
theorem leastN_mem {r : List (Str × Int)} (h : r ≠ []) : leastN r ∈ r.map (·.1) := by
  cases r with
  | nil => exact absurd rfl h
  | cons x t => exact minS_mem (t.map (·.1)) x.1
def upR (r : List (Str × Int)) : List (Str × Int) := if (leastN r, (1 : Int)) ∈ r then r else turnR r
def atR (r : List (Str × Int)) : Nat := @List.idxOf _ instBEqOfDecidableEq (leastN r, (1 : Int)) (upR r)
def ringR (r : List (Str × Int)) : List (Str × Int) := (upR r).drop (atR r) ++ (upR r).take (atR r)
theorem up_ok {r : List (Str × Int)} (h : RowOk r) : RowOk (upR r) := by
  unfold upR
  split
  · exact h
  · exact turn_ok h
theorem up_has {r : List (Str × Int)} (h : RowOk r) (h0 : r ≠ []) : (leastN r, (1 : Int)) ∈ upR r := by
  unfold upR
  split
  · assumption
  · rename_i z
    obtain ⟨x, hx, e⟩ := List.mem_map.mp (leastN_mem h0)
    rcases h.dir x hx with d | d
    · exact absurd (show (leastN r, (1 : Int)) ∈ r by rw [← e, ← d]; exact hx) z
    · exact List.mem_map.mpr ⟨x, List.mem_reverse.mpr hx, by rw [e, d]; rfl⟩
theorem str_ok {x : Str} (h : NameOk x) : PyData.strOk x = true := by
  unfold PyData.strOk
  rw [Array.all_eq_true_iff_forall_mem]
  intro c hc
  have := h.2.2 c (Array.mem_toList_iff.mpr hc)
  exact decide_eq_true (by omega)
theorem RowOk.lay {r : List (Str × Int)} (h : RowOk r) : LayR r := fun x hx => str_ok (h.nm x hx)
section
variable {K : PySem.W.Frag} {H H' : Hp}
theorem dtAll_take : ∀ {xs : List V} {ds : List PyData} (i : Nat), DtAll K H xs ds → DtAll K H (xs.take i) (ds.take i)
  | _, _, 0, _ => .nil
  | _, _, _ + 1, .nil => .nil
  | _, _, i + 1, .cons a b => .cons a (dtAll_take i b)
theorem dtAll_drop : ∀ {xs : List V} {ds : List PyData} (i : Nat), DtAll K H xs ds → DtAll K H (xs.drop i) (ds.drop i)
  | _, _, 0, h => h
  | _, _, _ + 1, .nil => .nil
  | _, _, i + 1, .cons _ b => dtAll_drop i b
end
section
variable {P : Program} {w : World} {K : PySem.W.Frag} {mg : Str → Option Value} {base : Heap}
theorem ok_ring {f fT fN : Addr} {fd dT dN : FuncData} (F : Fun K "ring_form" "ring_form" sRingF f fd) (mm : mg "min" = none) (GN : FnOk P w K mg base CX0 1 fN dN ["row"] (spNames K)) (gN : mg "names_of" = some (.ref fN)) (kN : PySem.W.keepIn K (.ref fN) = true) (bN : Binds K dN ["row"] [])
    (GT : FnOk P w K mg base CX0 5 fT dT ["row"] (spTurn K)) (gT : mg "turned" = some (.ref fT)) (kT : PySem.W.keepIn K (.ref fT) = true) (bT : Binds K dT ["row"] []) :
    FnOk P w K mg base CX0 6 f fd ["row"] (spNe K ringR fun a H => BareT H a) := by
  refine F.ok scRingF (fun vs H Q E h => ?_) (fun cdv A outer s H vs Q E hr h => ?_)
  · obtain ⟨a, r, rfl, _⟩ := h
    rfl
  · obtain ⟨a, r, rfl, hd, ok, hne, hbt, q⟩ := h
    have few := ok.few
    have hr1 := hr.mono (show 1 ≤ 5 by decide)
    have hu : (A.deeper (envOfC "ring_form" (defScope sRingF) s.heap.objs.size f cdv)).units + 65 < cLine := by
      have := hr.un
      omega
    refine ⟨_, pss_cons (ps_set (i := 1) scRingF.nd rfl (.inl rfl) (pe_callB (call_minS rfl hu) (by rfl) mm boot_min (pa_cons (pe_call GN hr1 (by rfl) gN kN bN .nil pass0 (pa_cons (pv 0) pa_nil)) pa_nil)))
      (Evl.pss_cut (ps_if (pt_cmpR (op_notInRow hu) (pe_tup (pa_cons (pv 1) (pa_cons pe_int pa_nil))) (pv 0) (by rfl)) (pss_one (ps_set (i := 0) scRingF.nd rfl (.inl rfl) (pe_call GT hr (by rfl) gT kT bT .nil pass0 (pa_cons (pv 0) pa_nil)))) pss_nil)
      (pss_cons (ps_set (i := 2) scRingF.nd rfl (.inl rfl) (pe_tm PySem.F.slot_tuple_index PySem.F.type_tuple_index (mt_ixRow hu) (pv 0) (pa_cons (pe_tup (pa_cons (pv 1) (pa_cons pe_int pa_nil))) pa_nil)))
      (pss_one (ps_ret (pe_op op_catA (pe_slice sl_tupA (pv 0) (po_some (pv 2)) po_none) (pe_slice sl_tupA (pv 0) po_none (po_some (pv 2)))))))), ?_⟩
    refine ⟨_, rfl, a, r, rfl, hd, by omega, fun l H1 hl el s1 => ?_⟩
    obtain ⟨y, t, ert⟩ : ∃ y t, r.map (·.1) = y :: t := by
      cases r with
      | nil => exact absurd rfl hne
      | cons x t => exact ⟨x.1, t.map (·.1), rfl⟩
    refine ⟨l, y, t, rfl, by rw [← ert]; exact .inl (.inl el), ?_⟩
    have em : minS y t = leastN r := by
      unfold leastN
      rw [ert]
    rw [em]
    have nml : NameOk (leastN r) := by
      obtain ⟨x, hx, e⟩ := List.mem_map.mp (leastN_mem hne)
      rw [← e]
      exact ok.nm x hx
    refine ⟨fun σ' H' => ∃ a', σ' = [some (.ref a'), some (.str (leastN r)), none] ∧ Same H H' ∧ Dt K H' (.ref a') (rowD (upR r)) ∧ BareT H' a', ?_, ?_⟩
    · refine ⟨_, rfl, by show 2 ≤ sizeLine; decide, fun b hb => ?_⟩
      have s2 := same_new (o := HO.tup [.str (leastN r), .int 1]) hb
      have hd2 := dt_keep (s1.trans s2).keepsT hd
      refine ⟨_, rfl, (leastN r, 1), a, r, rfl, .tup (.inl (.inl upd_same)) (.two (.str _) (.int _)), hd2, str_ok nml, ok.lay, _, rfl, ?_⟩
      by_cases hm : (leastN r, (1 : Int)) ∈ r
      · rw [decide_eq_true hm]
        refine iteF ⟨a, rfl, s1.trans s2, ?_, hbt.keep (s1.trans s2)⟩
        unfold upR
        rw [if_pos hm]
        exact hd2
      · rw [decide_eq_false hm]
        refine iteT ⟨_, rfl, a, r, rfl, hd2, ok, fun c H' s' d' b' => ⟨c, rfl, (s1.trans s2).trans s', ?_, b'⟩⟩
        unfold upR
        rw [if_neg hm]
        exact d'
    · rintro _ H2 ⟨a', rfl, s2, d2, b2⟩
      refine ⟨_, rfl, ⟨a', rfl, b2⟩, _, rfl, by show 2 ≤ sizeLine; decide, fun b hb => ?_⟩
      have s3 := same_new (o := HO.tup [.str (leastN r), .int 1]) hb
      have d3 := dt_keep s3.keepsT d2
      refine ⟨(leastN r, 1), _, a', upR r, rfl, rfl, .tup (.inl (.inl upd_same)) (.two (.str _) (.int _)), d3, str_ok nml, (up_ok ok).lay, up_has ok hne, ?_⟩
      obtain ⟨xs, hs, hlx, da⟩ := row_at d3
      generalize upd H2 b (.tup [.str (leastN r), .int 1]) = H3 at s3 d3 hs da
      refine ⟨_, rfl, _, rfl, _, rfl, ?_⟩
      unfold tNoPart
      dsimp only []
      refine sl_to hs fun c1 H4 s4 t4 => ?_
      rw [cutV_from] at t4
      refine ⟨_, rfl, _, rfl, _, rfl, ?_⟩
      refine sl_to (s4.keepsT _ _ hs) fun c2 H5 s5 t5 => ?_
      rw [cutV_to] at t5
      have fx : xs.length ≤ 1000 := by
        have := (up_ok ok).few
        omega
      refine cat_to (s5.keepsT _ _ t4) t5 (by rw [List.length_drop, List.length_take, sizeLine_eq]; omega) fun c3 H6 s6 t6 => ?_
      have da6 := dt_keepAll ((s4.trans s5).trans s6).keepsT da
      refine q c3 H6 ((((s2.trans s3).trans s4).trans s5).trans s6) ?_
      have e : rowD (ringR r) = .tuple (((upR r).map dwD).drop (atR r) ++ ((upR r).map dwD).take (atR r)) := by
        unfold rowD ringR
        rw [List.map_append, List.map_drop, List.map_take]
      rw [e]
      exact .tup t6 ((dtAll_drop _ da6).append (dtAll_take _ da6))
end
end My
set_option Elab.async false
set_option linter.all false
set_option maxRecDepth 100000
set_option maxHeartbeats 4000000
namespace My
open PySem PySem.Spec PyProof.Rows L2
open PySem.W (Datum DatumOrd)
/-! ### orders in which no two are alike -/
def Anti (α : Type) [DecidableEq α] [DatumOrd α] : Prop := ∀ a b : α, DatumOrd.lt a b = false → DatumOrd.lt b a = false → a = b
theorem anti_int : Anti Int := fun a b h1 h2 => by
  have h1 := of_decide_eq_false (p := a < b) h1
  have h2 := of_decide_eq_false (p := b < a) h2
  omega
theorem anti_str : Anti Str := fun a b h1 h2 => by
  have h1 := of_decide_eq_false (p := a.cps.toList < b.cps.toList) h1
  have h2 := of_decide_eq_false (p := b.cps.toList < a.cps.toList) h2
  have e : a.cps.toList = b.cps.toList := List.le_antisymm (List.not_lt.mp h2) (List.not_lt.mp h1)
  cases a
  cases b
  rw [Str.mk.injEq]
  exact Array.toList_inj.mp e
theorem anti_pair {α β : Type} [DecidableEq α] [DatumOrd α] [DecidableEq β] [DatumOrd β] (ha : Anti α) (hb : Anti β) : Anti (α × β) := fun p q h1 h2 => by
  have h1 : (if p.1 = q.1 then DatumOrd.lt p.2 q.2 else DatumOrd.lt p.1 q.1) = false := h1
  have h2 : (if q.1 = p.1 then DatumOrd.lt q.2 p.2 else DatumOrd.lt q.1 p.1) = false := h2
  by_cases e : p.1 = q.1
  · rw [if_pos e] at h1
    rw [if_pos e.symm] at h2
    exact Prod.ext e (hb _ _ h1 h2)
  · rw [if_neg e] at h1
    rw [if_neg fun z => e z.symm] at h2
    exact absurd (ha _ _ h1 h2) e
theorem sortO_perm {α : Type} [DecidableEq α] [DatumOrd α] (A : Anti α) {xs ys : List α} (p : xs.Perm ys) : sortO xs = sortO ys := by
  refine List.Perm.eq_of_pairwise (le := fun a b => leO a b = true) (fun a b _ _ h1 h2 => ?_) (PySem.W.sort_pairwise leO_total xs) (PySem.W.sort_pairwise leO_total ys) (((List.mergeSort_perm xs leO).trans p).trans (List.mergeSort_perm ys leO).symm)
  exact A a b (by simpa using h2) (by simpa using h1)
theorem lt_asym {α : Type} [DecidableEq α] [DatumOrd α] {a b : α} (h : DatumOrd.lt a b = true) : DatumOrd.lt b a = false := by
  rcases leO_total.total a b with q | q
  · simpa using q
  · have q : (!DatumOrd.lt a b) = true := q
    rw [h] at q
    cases q
end My
set_option Elab.async false
set_option linter.all false
set_option maxRecDepth 100000
set_option maxHeartbeats 4000000
/-! The couplings of a line and of a ring do not depend on the reading. -/
namespace My
open PySem PySem.Spec PyProof.Rows L2
open PySem.W (Datum DatumOrd)
theorem anti_end : Anti EndT := anti_pair anti_str anti_int
theorem anti_coup : Anti CoupT := anti_pair anti_end anti_end
theorem coupE_comm (p q : EndT) : coupE p q = coupE q p := by
  unfold coupE
  cases h1 : (DatumOrd.lt p q : Bool) with
  | true =>
    rw [lt_asym h1]
    rfl
  | false =>
    cases h2 : (DatumOrd.lt q p : Bool) with
    | true => rfl
    | false => rw [anti_end p q h1 h2]
theorem sort_two (p q : EndT) : sortO [p, q] = [(coupE p q).1, (coupE p q).2] := by
  have e : sortO [p, q] = sortO [(coupE p q).1, (coupE p q).2] := by
    refine sortO_perm anti_end ?_
    unfold coupE
    split
    · exact .refl _
    · exact .swap _ _ _
  rw [e]
  refine List.mergeSort_of_pairwise (List.pairwise_pair.mpr ?_)
  unfold coupE
  show (!DatumOrd.lt _ _) = true
  cases h : (DatumOrd.lt p q : Bool) with
  | true =>
    rw [if_pos rfl, lt_asym h]
    rfl
  | false =>
    rw [if_neg Bool.false_ne_true, h]
    rfl
/-! ### the couplings along a row -/
theorem links_cons2 (x y : Str × Int) (t : List (Str × Int)) : linksU (x :: y :: t) = pairOf x y :: linksU (y :: t) := rfl
theorem links_nil : linksU [] = [] := rfl
theorem links_one (x : Str × Int) : linksU [x] = [] := rfl
theorem links_over : ∀ (a : List (Str × Int)) (z : Str × Int) (b : List (Str × Int)), linksU (a ++ z :: b) = linksU (a ++ [z]) ++ linksU (z :: b)
  | [], z, b => rfl
  | [x], z, b => rfl
  | x :: y :: a, z, b => by
    have ih := links_over (y :: a) z b
    show pairOf x y :: linksU (y :: a ++ z :: b) = pairOf x y :: linksU (y :: a ++ [z]) ++ linksU (z :: b)
    rw [ih]
    rfl
def turn1 (x : Str × Int) : Str × Int := (x.1, -x.2)
theorem turnR_map (r : List (Str × Int)) : turnR r = r.reverse.map turn1 := rfl
theorem opp_turn {x : Str × Int} (d : x.2 = 1 ∨ x.2 = -1) : oppE (entR (turn1 x)) = entR x := by
  obtain ⟨n, d0⟩ := x
  rcases d with d | d
  · have : d0 = 1 := d
    subst this
    rfl
  · have : d0 = -1 := d
    subst this
    rfl
theorem ent_turn {x : Str × Int} (d : x.2 = 1 ∨ x.2 = -1) : entR (turn1 x) = oppE (entR x) := by
  obtain ⟨n, d0⟩ := x
  rcases d with d | d
  · have : d0 = 1 := d
    subst this
    rfl
  · have : d0 = -1 := d
    subst this
    rfl
theorem pair_turn {x y : Str × Int} (dx : x.2 = 1 ∨ x.2 = -1) (dy : y.2 = 1 ∨ y.2 = -1) : pairOf (turn1 y) (turn1 x) = pairOf x y := by
  unfold pairOf
  rw [opp_turn dy, ent_turn dx, coupE_comm]
theorem links_turn : ∀ r : List (Str × Int), Dirs r → linksU (turnR r) = (linksU r).reverse
  | [], _ => rfl
  | [x], _ => rfl
  | x :: y :: t, d => by
    have ih := links_turn (y :: t) fun z hz => d z (List.mem_cons_of_mem _ hz)
    have e : turnR (x :: y :: t) = turnR t ++ turn1 y :: [turn1 x] := by
      rw [turnR_map, turnR_map, List.reverse_cons, List.reverse_cons, List.map_append, List.map_append, List.append_assoc]
      rfl
    have e2 : turnR (y :: t) = turnR t ++ [turn1 y] := by
      rw [turnR_map, turnR_map, List.reverse_cons, List.map_append]
      rfl
    rw [e, links_over, ← e2, ih, links_cons2 x y t, List.reverse_cons, links_cons2, links_one, pair_turn (d x List.mem_cons_self) (d y (List.mem_cons_of_mem _ List.mem_cons_self))]
theorem dirs_turn {r : List (Str × Int)} (d : Dirs r) : Dirs (turnR r) := fun x hx => by
  obtain ⟨y, hy, rfl⟩ := List.mem_map.mp hx
  have := d y (List.mem_reverse.mp hy)
  show -y.2 = 1 ∨ -y.2 = -1
  omega
/-! ### around -/
def cycU (r : List (Str × Int)) : List CoupT := linksU (r ++ r.take 1)
theorem cyc_swap : ∀ a b : List (Str × Int), (cycU (a ++ b)).Perm (cycU (b ++ a))
  | [], b => by rw [List.nil_append, List.append_nil]
  | x :: a, [] => by rw [List.nil_append, List.append_nil]
  | x :: a, y :: b => by
    have e1 : cycU (x :: a ++ y :: b) = linksU (x :: a ++ [y]) ++ linksU (y :: b ++ [x]) := by
      show linksU (x :: a ++ y :: b ++ [x]) = _
      rw [List.append_assoc, show (y :: b) ++ [x] = y :: (b ++ [x]) from rfl, links_over]
    have e2 : cycU (y :: b ++ x :: a) = linksU (y :: b ++ [x]) ++ linksU (x :: a ++ [y]) := by
      show linksU (y :: b ++ x :: a ++ [y]) = _
      rw [List.append_assoc, show (x :: a) ++ [y] = x :: (a ++ [y]) from rfl, links_over]
    rw [e1, e2]
    exact List.perm_append_comm
theorem cyc_turn : ∀ r : List (Str × Int), Dirs r → (cycU (turnR r)).Perm (cycU r)
  | [], _ => .refl _
  | x :: t, d => by
    have e : turnR (x :: t) = turnR t ++ [turn1 x] := by
      rw [turnR_map, turnR_map, List.reverse_cons, List.map_append]
      rfl
    have e2 : cycU ([turn1 x] ++ turnR t) = linksU (turnR (x :: t ++ [x])) := by
      show linksU ([turn1 x] ++ turnR t ++ [turn1 x]) = _
      rw [turnR_map, turnR_map, show (x :: t ++ [x]).reverse = x :: (t.reverse ++ [x]) by simp, List.map_cons, List.map_append]
      rfl
    have d2 : Dirs (x :: t ++ [x]) := fun z hz => by
      rcases List.mem_append.mp hz with hz | hz
      · exact d z hz
      · rw [List.mem_singleton.mp hz]
        exact d x List.mem_cons_self
    have e3 : cycU (x :: t) = linksU (x :: t ++ [x]) := rfl
    rw [e, e3]
    refine (cyc_swap _ _).trans ?_
    rw [e2, links_turn _ d2]
    exact List.reverse_perm _
/-! ### the normal forms -/
theorem line_links {r : List (Str × Int)} (ok : RowOk r) : (linksU (lineR r)).Perm (linksU r) := by
  unfold lineR
  split
  · rename_i h
    match r, h with
    | [x], _ => exact .refl _
  · split
    · exact .refl _
    · rw [links_turn r ok.dir]
      exact List.reverse_perm _
theorem up_cyc {r : List (Str × Int)} (ok : RowOk r) : (cycU (upR r)).Perm (cycU r) := by
  unfold upR
  split
  · exact .refl _
  · exact cyc_turn r ok.dir
theorem ring_links {r : List (Str × Int)} (ok : RowOk r) : (cycU (ringR r)).Perm (cycU r) := by
  unfold ringR
  refine (cyc_swap _ _).trans ?_
  rw [List.take_append_drop]
  exact up_cyc ok
theorem line_turn {r : List (Str × Int)} (ok : RowOk r) : (linksU (lineR (turnR r))).Perm (linksU r) := by
  refine (line_links (turn_ok ok)).trans ?_
  rw [links_turn r ok.dir]
  exact List.reverse_perm _
theorem ring_turn {r : List (Str × Int)} (ok : RowOk r) : (cycU (ringR (turnR r))).Perm (cycU r) := (ring_links (turn_ok ok)).trans (cyc_turn r ok.dir)
end My
set_option Elab.async false
set_option linter.all false
set_option maxRecDepth 100000
set_option maxHeartbeats 4000000
namespace My
open PySem PySem.Spec PyProof.Rows L2
section
variable {P : Program} {w : World} {K : PySem.W.Frag} {mg : Str → Option Value} {base : Heap}
/-- the names in order, each in a drawn direction -/
def spRow (K : PySem.W.Frag) : Sp := fun vs H Q _ => ∃ (p c o : Addr) (n : Nat) (names : List Str), vs = [.ref p, .ref o] ∧ PenAt H p c n ∧ n ≤ 900000000 ∧ SqL K H o (names.map V.str) ∧ names.length ≤ 1000 ∧
  ∀ (a : Addr) (r : List (Str × Int)) (H' : Hp), r.map (·.1) = names → Dirs r → H a = none → Dt K H' (.ref a) (rowD r) → SameP p H H' → PenAt H' p c (n + names.length) → Q (.ref a) H'
theorem ok_row {f fD fP fS : Addr} {fd dD dP dS : FuncData} (F : Fun K "_law_row" "_law_row" sRow f fd) (T : Draws P w K mg base fD fP fS dD dP dS) (mt : mg "tuple" = none) : FnOk P w K mg base CX0 3 f fd ["pen", "wagons"] (spRow K) := by
  refine F.ok scRow (fun vs H Q E h => ?_) (fun cdv A outer s H vs Q E hr h => ?_)
  · obtain ⟨p, c, o, n, names, rfl, _⟩ := h
    rfl
  · obtain ⟨p, c, o, n, names, rfl, G, hn, hS, hl, q⟩ := h
    refine ⟨_, pss_one (ps_ret (pe_callTy call_tuple_of (by rfl) mt (by decide +kernel) (pa_cons (pe_lc (own := [("name", 2)]) (g := gName 2) (tt := tYes) rfl scRow.nd (pi_list (pv 1))
        (blkOk_by (own := [("name", 2)]) (N := ["pen", "wagons", "name"]) (sc := defScope sRow) (by decide +kernel)) (fun _ _ _ _ _ => pg_name (i := 2) scRow.nd rfl (Or.inl rfl)) (fun _ _ _ _ _ => pts_nil)
        (fun _ _ _ _ _ => pe_tup (pa_cons (pv 2) (pa_cons (pe_call T.oP hr (by rfl) T.gP T.kP T.bP .nil pass0 (pa_cons (pv 0) (pa_cons (pe_lst (pa_cons pe_int (pa_cons (pe_un un_neg pe_int) pa_nil))) pa_nil))) pa_nil)))) pa_nil))), ?_⟩
    refine ⟨_, rfl, o, rfl, ⟨_, hS⟩, fun Dl hD => ?_⟩
    refine lcN_list (K := K) (a := o) (xs := names.map V.str) (fun i H' => ∃ (cs : List V) (r : List (Str × Int)), H' Dl = some (.lst cs) ∧ DtAll K H' cs (r.map dwD) ∧ r.map (·.1) = names.take i ∧ Dirs r ∧ SameP p H H' ∧ PenAt H' p c (n + i))
      ⟨[], [], upd_same, .nil, rfl, fun _ z => (nomatch z), SameP.new hD, G.same (same_new hD)⟩ (fun i H2 _ hp => ?_) (fun i x H2 hx hp => ?_) (fun H2 hp => ?_)
    · obtain ⟨_, _, _, _, _, _, s2, _⟩ := hp
      exact s2.sqL G hS
    · obtain ⟨cs, r, eD, da, er, dr, s2, G2⟩ := hp
      refine ⟨rfl, ?_⟩
      rw [List.getElem?_map] at hx
      obtain ⟨nm, hnm, rfl⟩ := Option.map_eq_some_iff.mp hx
      have hi : i < names.length := (List.getElem?_eq_some_iff.mp hnm).1
      have lr : r.length = i := by
        have := congrArg List.length er
        rw [List.length_map, List.length_take] at this
        omega
      refine ⟨_, rfl, _, rfl, _, rfl, by show 2 ≤ sizeLine; decide, fun o1 ho1 => ?_⟩
      have so := same_new (o := HO.lst [.int 1, .int (-1)]) ho1
      refine ⟨p, c, _, .ref o1, [.int 1, .int (-1)], rfl, G2.same so, by omega, .lst (.inl (.inl upd_same)), by decide, by decide, fun j v H4 hv s4 G4 => ?_⟩
      have hdv : ∃ z : Int, v = .int z ∧ (z = 1 ∨ z = -1) := by
        have := List.mem_of_getElem? hv
        simp only [List.mem_cons, List.not_mem_nil, or_false] at this
        rcases this with rfl | rfl
        · exact ⟨1, rfl, .inl rfl⟩
        · exact ⟨-1, rfl, .inr rfl⟩
      obtain ⟨z, rfl, hz⟩ := hdv
      have s24 : SameP p H2 H4 := (SameP.of so).trans s4
      have eD4 := s24.lst G2 eD
      refine ⟨by show 2 ≤ sizeLine; decide, fun t ht => ?_⟩
      have st := same_new (o := HO.tup [.str nm, .int z]) ht
      have eD5 := st _ _ eD4
      have k : KeepsT K H2 (upd (upd H4 t (.tup [.str nm, .int z])) Dl (.lst (cs ++ [.ref t]))) := ((s24.keepsT G2).trans st.keepsT).trans (KeepsT.lst eD5)
      refine ⟨cs, eD5, Evl.sz_lt (by rw [da.length, List.length_map]; omega), cs ++ [.ref t], r ++ [(nm, z)], upd_same, ?_, ?_, ?_, ?_, ?_⟩
      · rw [List.map_append]
        refine (dt_keepAll k da).append (.cons (.tup (KeepsT.lst eD5 _ _ (.inl (.inl upd_same))) (.two (.str _) (.int _))) .nil)
      · rw [List.map_append, er, List.take_add_one, hnm]
        rfl
      · intro y hy
        rcases List.mem_append.mp hy with hy | hy
        · exact dr y hy
        · rw [List.mem_singleton.mp hy]
          exact hz
      · intro b ob nb e
        rw [upd_ne (ne_of_none e hD)]
        exact st _ _ ((s2.trans s24) b ob nb e)
      · exact ((G4.same st).upd (G.apart' hD) (G.apart hD)).mono (by omega)
    · obtain ⟨cs, r, eD, da, er, dr, s2, G2⟩ := hp
      rw [List.length_map] at er G2
      refine ⟨Dl, cs, rfl, .inl ⟨.inl (.inl eD), fun a ha => ?_⟩⟩
      have sa := same_new (o := HO.tup cs) ha
      refine q a r _ (by rw [er, List.take_length]) dr (s2.free G2 ha) (.tup (.inl (.inl upd_same)) (dt_keepAll sa.keepsT da)) (s2.trans (.of sa)) (G2.same sa)
end
end My
set_option Elab.async false
set_option linter.all false
set_option maxRecDepth 100000
set_option maxHeartbeats 4000000
/-! the law's _law_ends, _law_turned, _law_couplings -/
namespace My
open PySem PySem.Spec PyProof.Rows L2
open PySem.W (Datum DatumOrd)
def inE (x : Str × Int) : EndT := (x.1, if x.2 = -1 then 1 else 0)
def outE (x : Str × Int) : EndT := (x.1, if x.2 = 1 then 1 else 0)
theorem inE_eq {x : Str × Int} (d : x.2 = 1 ∨ x.2 = -1) : inE x = entR x := by
  obtain ⟨n, i⟩ := x
  rcases d with d | d
  · have : i = 1 := d
    subst this
    rfl
  · have : i = -1 := d
    subst this
    rfl
theorem outE_eq {x : Str × Int} (d : x.2 = 1 ∨ x.2 = -1) : outE x = oppE (entR x) := by
  obtain ⟨n, i⟩ := x
  rcases d with d | d
  · have : i = 1 := d
    subst this
    rfl
  · have : i = -1 := d
    subst this
    rfl
section
variable {P : Program} {w : World} {K : PySem.W.Frag} {mg : Str → Option Value} {base : Heap}
def spLEnds (K : PySem.W.Frag) : Sp := fun vs H Q _ => ∃ (v : V) (x : Str × Int), vs = [v] ∧ Hd1 K H v x ∧ ∀ (b : Addr) (u1 u2 : V) (H' : Hp), Same H H' → SqT K H' b [u1, u2] → Hd1 K H' u1 (inE x) → Hd1 K H' u2 (outE x) → Q (.ref b) H'
theorem ok_lends {f : Addr} {fd : FuncData} (F : Fun K "_law_ends" "_law_ends" sLEnds f fd) (mi : mg "int" = none) : FnOk P w K mg base CX0 1 f fd ["part"] (spLEnds K) := by
  refine F.ok scLEnds (fun vs H Q E h => ?_) (fun cdv A outer s H vs Q E hr h => ?_)
  · obtain ⟨v, x, rfl, _⟩ := h
    rfl
  · obtain ⟨v, x, rfl, hx, q⟩ := h
    obtain ⟨a, rfl, ha⟩ := dw_at hx
    refine ⟨_, pss_cons (ps_asg (pv 0) (pg_tup rfl (pgs_cons (pg_name (i := 1) scLEnds.nd rfl (.inl rfl)) (pgs_cons (pg_name (i := 2) scLEnds.nd rfl (.inl rfl)) pgs_nil))))
      (pss_one (ps_ret (pe_tup (pa_cons (pe_tup (pa_cons (pv 1) (pa_cons (pe_callTy call_int1 (by rfl) mi (by decide +kernel) (pa_cons (pe_cmpR op_eq (pv 2) (pe_un un_neg pe_int) (nomark _)) pa_nil)) pa_nil)))
        (pa_cons (pe_tup (pa_cons (pv 1) (pa_cons (pe_callTy call_int1 (by rfl) mi (by decide +kernel) (pa_cons (pe_cmpR op_eq (pv 2) pe_int (nomark _)) pa_nil)) pa_nil))) pa_nil))))), ?_⟩
    refine ⟨_, rfl, a, _, rfl, ha, rfl, _, _, rfl, _, _, rfl, rfl, ?_⟩
    refine ⟨_, rfl, _, rfl, _, rfl, rfl, .inr ⟨_, rfl, by show 2 ≤ sizeLine; decide, fun t1 h1 => ?_⟩⟩
    refine ⟨_, rfl, _, rfl, rfl, .inr ⟨_, rfl, by show 2 ≤ sizeLine; decide, fun t2 h2 => ?_⟩⟩
    refine ⟨by show 2 ≤ sizeLine; decide, fun t3 h3 => ?_⟩
    have s1 := dw_new (K := K) h1 x.1 (if decide (V.int x.2 = V.int (-1)) then 1 else 0)
    have s2 := dw_new (K := K) h2 x.1 (if decide (V.int x.2 = V.int 1) then 1 else 0)
    have s3 := same_new (o := HO.tup [.ref t1, .ref t2]) h3
    have e1 : ((x.1, if decide (V.int x.2 = V.int (-1)) then 1 else 0) : Str × Int) = inE x := by
      unfold inE
      by_cases z : x.2 = -1
      · rw [if_pos z, decide_eq_true (by rw [z])]
        rfl
      · rw [if_neg z, decide_eq_false fun y => z (V.int.inj y)]
        rfl
    have e2 : ((x.1, if decide (V.int x.2 = V.int 1) then 1 else 0) : Str × Int) = outE x := by
      unfold outE
      by_cases z : x.2 = 1
      · rw [if_pos z, decide_eq_true (by rw [z])]
        rfl
      · rw [if_neg z, decide_eq_false fun y => z (V.int.inj y)]
        rfl
    rw [e1] at s1
    rw [e2] at s2
    exact q t3 _ _ _ ((s1.1.trans s2.1).trans s3) (.inl (.inl upd_same)) (dt_keep (s2.1.trans s3).keepsT s1.2) (dt_keep s3.keepsT s2.2)
end
end My
set_option Elab.async false
set_option linter.all false
set_option maxRecDepth 100000
set_option maxHeartbeats 4000000
namespace My
open PySem PySem.Spec PyProof.Rows L2
open PySem.W (Datum DatumOrd)
def nthW (r : List (Str × Int)) (i : Nat) : Str × Int := r.getD i (Str.empty, 0)
theorem nthW_of {r : List (Str × Int)} {i : Nat} {x : Str × Int} (h : r[i]? = some x) : nthW r i = x := by
  unfold nthW
  rw [List.getD_eq_getElem?_getD, h]
  rfl
def lawN (r : List (Str × Int)) (ring : Bool) : Nat := r.length - if ring then 0 else 1
def lawU (r : List (Str × Int)) (ring : Bool) : List CoupT := (List.range (lawN r ring)).map fun k => coupE (outE (nthW r k)) (inE (nthW r ((k + 1) % r.length)))
theorem lawU_line {r : List (Str × Int)} (d : Dirs r) : lawU r false = linksU r := by
  refine List.ext_getElem? fun i => ?_
  unfold lawU linksU lawN
  rw [List.getElem?_map, List.getElem?_zipWith, List.getElem?_drop, if_neg Bool.false_ne_true]
  by_cases h : i < r.length - 1
  · have h1 : i < r.length := by omega
    have h2 : i + 1 < r.length := by omega
    have h3 : 1 + i < r.length := by omega
    rw [List.getElem?_range h, List.getElem?_eq_getElem h1, List.getElem?_eq_getElem h3]
    show some (coupE (outE (nthW r i)) (inE (nthW r ((i + 1) % r.length)))) = some (pairOf r[i] r[1 + i])
    rw [Nat.mod_eq_of_lt h2, nthW_of (List.getElem?_eq_getElem h1), nthW_of (List.getElem?_eq_getElem h2)]
    have e : r[1 + i] = r[i + 1] := by congr 1; omega
    rw [e, outE_eq (d _ (List.getElem_mem h1)), inE_eq (d _ (List.getElem_mem h2))]
    rfl
  · rw [List.getElem?_eq_none (l := List.range _) (by rw [List.length_range]; omega), List.getElem?_eq_none (l := r) (i := 1 + i) (by omega)]
    cases r[i]? <;> rfl
theorem lawU_ring {r : List (Str × Int)} (d : Dirs r) (h0 : r ≠ []) : lawU r true = cycU r := by
  obtain ⟨x, t, rfl⟩ : ∃ x t, r = x :: t := by
    cases r with
    | nil => exact absurd rfl h0
    | cons x t => exact ⟨x, t, rfl⟩
  have hlen : (x :: t).length = t.length + 1 := rfl
  refine List.ext_getElem? fun i => ?_
  unfold lawU cycU linksU lawN
  rw [List.getElem?_map, List.getElem?_zipWith, List.getElem?_drop, if_pos rfl]
  have et : (x :: t).take 1 = [x] := rfl
  rw [et]
  by_cases h : i < (x :: t).length
  · have e1 : (x :: t ++ [x])[i]? = some (x :: t)[i] := by rw [List.getElem?_append_left h, List.getElem?_eq_getElem h]
    have e2 : (x :: t ++ [x])[1 + i]? = some (nthW (x :: t) ((i + 1) % (x :: t).length)) := by
      by_cases h2 : i + 1 < (x :: t).length
      · rw [Nat.mod_eq_of_lt h2, Nat.add_comm 1 i, List.getElem?_append_left h2, List.getElem?_eq_getElem h2, nthW_of (List.getElem?_eq_getElem h2)]
      · have h3 : i + 1 = (x :: t).length := by omega
        rw [h3, Nat.mod_self, Nat.add_comm 1 i, h3, List.getElem?_append_right (Nat.le_refl _), Nat.sub_self]
        rfl
    have hm : nthW (x :: t) ((i + 1) % (x :: t).length) ∈ x :: t := by
      have := Nat.mod_lt (i + 1) (show 0 < (x :: t).length by omega)
      rw [nthW_of (List.getElem?_eq_getElem this)]
      exact List.getElem_mem _
    rw [e1, e2, Nat.sub_zero, List.getElem?_range h]
    show some (coupE (outE (nthW (x :: t) i)) (inE (nthW (x :: t) ((i + 1) % (x :: t).length)))) = some (pairOf _ _)
    rw [nthW_of (List.getElem?_eq_getElem h), outE_eq (d _ (List.getElem_mem h)), inE_eq (d _ hm)]
    rfl
  · rw [List.getElem?_eq_none (l := List.range _) (by rw [List.length_range]; omega), List.getElem?_eq_none (l := x :: t ++ [x]) (i := 1 + i) (by rw [List.length_append]; show _ + 1 ≤ _; omega)]
    cases (x :: t ++ [x])[i]? <;> rfl
section
variable {P : Program} {w : World} {K : PySem.W.Frag} {mg : Str → Option Value} {base : Heap}
def spLCoup (K : PySem.W.Frag) : Sp := fun vs H Q _ => ∃ (a : Addr) (r : List (Str × Int)) (ring : Bool), vs = [.ref a, .bl ring] ∧ Dt K H (.ref a) (rowD r) ∧ r ≠ [] ∧ r.length ≤ 100 ∧ ∀ (l : Addr) (ws : List V) (H' : Hp), H l = none → H' l = some (.lst ws) → HdAll K H' ws (sortO (lawU r ring)) → Same H H' → Q (.ref l) H'
theorem ok_lcoup {f fE : Addr} {fd dE : FuncData} (F : Fun K "_law_couplings" "_law_couplings" sLCoup f fd) (B : Glb mg) (ms : mg "sorted" = none) (GE : Has P w K mg base 1 "_law_ends" ["part"] (spLEnds K) fE dE) : FnOk P w K mg base CX0 2 f fd ["row", "is_ring"] (spLCoup K) := by
  refine F.ok scLCoup (fun vs H Q E h => ?_) (fun cdv A outer s H vs Q E hr h => ?_)
  · obtain ⟨a, r, ring, rfl, _⟩ := h
    rfl
  · obtain ⟨a, r, ring, rfl, hd, hne, few, q⟩ := h
    obtain ⟨xs, hs, hl, da⟩ := row_at hd
    have huC : (A.deeper (envOfC "_law_couplings" (defScope sLCoup) s.heap.objs.size f cdv)).units + 2 + Datum.depth CoupT < cLine := by
      have := hr.units
      show _ + 2 + 2 < cLine
      omega
    have huE : (A.deeper (envOfC "_law_couplings" (defScope sLCoup) s.heap.objs.size f cdv)).units + 2 + Datum.depth EndT < cLine := by
      have := hr.units
      show _ + 2 + 1 < cLine
      omega
    refine ⟨_, pss_cons (ps_set (i := 2) scLCoup.nd rfl (.inl rfl) (pe_lst pa_nil))
      (pss_cons (ps_for PassesOwn.never rfl (pi_range1 (by rfl) B.range (pa_cons (pe_op op_sub (pe_callB call_len (by rfl) B.len PySem.boot_len (pa_cons (pv 0) pa_nil)) (pe_callTy call_int1 (by rfl) B.int (by decide +kernel) (pa_cons (pe_not (pv 1)) pa_nil))) pa_nil)) (pg_name (i := 3) scLCoup.nd rfl (.inl rfl))
        (pss_cons (ps_set (i := 4) scLCoup.nd rfl (.inl rfl) (pe_lst (pa_cons (pe_ix ix_tup (pe_has GE hr (by rfl) (pa_cons (pe_ix ix_tup (pv 0) (pv 3) (fun _ _ => rfl)) pa_nil)) pe_int (fun _ _ => rfl))
            (pa_cons (pe_ix ix_tup (pe_has GE hr (by rfl) (pa_cons (pe_ix ix_tup (pv 0) (pe_op op_mod (pe_op op_add (pv 3) pe_int) (pe_callB call_len (by rfl) B.len PySem.boot_len (pa_cons (pv 0) pa_nil))) (fun _ _ => rfl)) pa_nil)) pe_int (fun _ _ => rfl)) pa_nil))))
        (pss_one (ps_expr (pe_bm PySem.F.plainAttrs_list PySem.F.slot_list_append PySem.F.type_list_append mt_append (pv 2) (pa_cons (pe_callTy call_tuple_of (by rfl) B.tuple (by decide +kernel) (pa_cons (pe_callB (call_sortD (α := EndT) (fun b => ⟨_, _, rfl⟩) huE) (by rfl) ms (by decide +kernel) (pa_cons (pv 4) pa_nil)) pa_nil)) pa_nil))))))
      (pss_one (ps_ret (pe_callB (call_sortD (α := CoupT) (fun b => ⟨_, _, rfl⟩) huC) (by rfl) ms (by decide +kernel) (pa_cons (pv 2) pa_nil))))), ?_⟩
    have xl : 0 < xs.length := by
      cases r with
      | nil => exact absurd rfl hne
      | cons x t => rw [hl]; exact Nat.succ_pos _
    refine ⟨by show 0 ≤ sizeLine; decide, fun g hg => ?_⟩
    have sg := same_new (o := HO.lst []) hg
    have hs1 := sg.keepsT _ _ hs
    have da1 := dt_keepAll sg.keepsT da
    have g1 : (upd H g (.lst [])) g = some (.lst []) := upd_same
    generalize upd H g (.lst []) = H1 at sg hs1 da1 g1
    refine ⟨_, rfl, .ref a, xs.length, rfl,   .inr ⟨_, hs1, rfl⟩, _, rfl, ring, rfl, .inr ⟨!ring, rfl, _, _, rfl, rfl, ?_⟩⟩
    have en : ((xs.length : Int) - (if (!ring) = true then 1 else 0)) = ((lawN r ring : Nat) : Int) := by
      unfold lawN
      cases ring with
      | true =>
        show (xs.length : Int) - 0 = ((r.length - 0 : Nat) : Int)
        rw [hl]
        omega
      | false =>
        show (xs.length : Int) - 1 = ((r.length - 1 : Nat) : Int)
        rw [← hl]
        omega
    have nle : lawN r ring ≤ r.length := Nat.sub_le _ _
    refine ⟨_, congrArg (fun z => [V.int z]) en, by omega, by omega, ?_⟩
    refine for_range (lo := 0) (n := ((lawN r ring : Nat) : Int).toNat) (fun i σ Hn => ∃ y3 y4 cs, σ = [some (.ref a), some (.bl ring), some (.ref g), y3, y4] ∧ Hn g = some (.lst cs) ∧ HdAll K Hn cs ((lawU r ring).take i) ∧ Same H Hn) ⟨_, _, [], rfl, g1, .nil, sg⟩ (fun i σ Hn hi hp => ?_) (fun σ Hn hp => ?_)
    · obtain ⟨y3, y4, cs, rfl, eg, dc, sm⟩ := hp
      have hi : i < lawN r ring := by omega
      have hi1 : i < xs.length := by omega
      have hlp : 0 < r.length := by omega
      have hj : (i + 1) % r.length < xs.length := by
        have := Nat.mod_lt (i + 1) hlp
        omega
      obtain ⟨d1, e1, h1⟩ := (dt_keepAll sm.keepsT da).at (List.getElem?_eq_getElem hi1)
      obtain ⟨d2, e2, h2⟩ := (dt_keepAll sm.keepsT da).at (List.getElem?_eq_getElem hj)
      rw [List.getElem?_map] at e1 e2
      obtain ⟨r1, er1, rfl⟩ := Option.map_eq_some_iff.mp e1
      obtain ⟨r2, er2, rfl⟩ := Option.map_eq_some_iff.mp e2
      have hsn := sm.keepsT _ _ hs
      refine ⟨_, rfl, _, rfl, a, xs, 0 + (i : Int), xs[i], rfl, rfl, hsn, by rw [Int.zero_add]; exact atI_nat (List.getElem?_eq_getElem hi1), xs[i], r1, rfl, h1, fun b1 u1 u2 H2 s2 t2 k1 k2 => ?_⟩
      refine ⟨b1, _, 1, u2, rfl, rfl, t2, atI_nat (j := 1) rfl, ?_⟩
      have hs2 := s2.keepsT _ _ hsn
      refine ⟨_, rfl, _, rfl, _, 1, rfl, rfl, _, rfl, .ref a, xs.length, rfl, .inr ⟨_, hs2, rfl⟩, 0 + (i : Int) + 1, _, rfl, rfl, by omega, ?_⟩
      have em : (0 + (i : Int) + 1) % (xs.length : Int) = (((i + 1) % r.length : Nat) : Int) := by
        rw [Int.zero_add, ← hl]
        rfl
      refine ⟨a, xs, _, xs[(i + 1) % r.length], rfl, rfl, hs2, by rw [em]; exact atI_nat (List.getElem?_eq_getElem hj), xs[(i + 1) % r.length], r2, rfl, dt_keep s2.keepsT h2, fun b2 v1 v2 H3 s3 t3 k3 k4 => ?_⟩
      refine ⟨b2, _, 0, v1, rfl, rfl, t3, atI_nat (j := 0) rfl, by show 2 ≤ sizeLine; decide, fun pl hpl => ?_⟩
      have s4 := same_new (o := HO.lst [u2, v1]) hpl
      have da4 : HdAll K (upd H3 pl (.lst [u2, v1])) [u2, v1] [outE r1, inE r2] := .two (dt_keep (s3.trans s4).keepsT k2) (dt_keep s4.keepsT k3)
      have s24 := (s2.trans s3).trans s4
      have eg4 := s24 _ _ eg
      refine ⟨_, rfl, .inl ⟨rfl, _, .inl (.inl eg4)⟩, _, rfl, pl, [u2, v1], [outE r1, inE r2], rfl, .inl (.inl upd_same), da4, (by show 2 ≤ 1000; decide), fun p2 ws hp2 hw => ?_⟩
      have s5 := same_new (o := HO.lst ws) hp2
      refine ⟨p2, ws, rfl, .inl ⟨.inl (.inl upd_same), fun t ht => ?_⟩⟩
      have s6 := same_new (o := HO.tup ws) ht
      have st := (s24.trans s5).trans s6
      have egt := st _ _ eg
      have dw := dt_keepAll (s5.trans s6).keepsT hw
      rw [sort_two] at dw
      refine ⟨g, cs, .ref t, rfl, rfl, egt, ?_, _, _, cs ++ [.ref t], rfl, upd_same, ?_, fun c o hc => ?_⟩
      · have l1 := dc.length
        rw [List.length_map, List.length_take] at l1
        exact Evl.sz_lt (by omega)
      · have ti : (lawU r ring)[i]? = some (coupE (outE r1) (inE r2)) := by
          unfold lawU
          rw [List.getElem?_map, List.getElem?_range hi]
          show some (coupE (outE (nthW r i)) (inE (nthW r ((i + 1) % r.length)))) = _
          rw [nthW_of er1, nthW_of er2]
        show DtAll K _ _ (List.map Datum.toD _)
        rw [List.take_add_one, ti, List.map_append]
        exact (dt_keepAll (st.keepsT.trans (KeepsT.lst egt)) dc).append (.cons (.tup (KeepsT.lst egt _ _ (.inl (.inl upd_same))) (dt_keepAll (KeepsT.lst egt) dw)) .nil)
      · rw [upd_ne (ne_of_none hc hg)]
        exact st _ _ (sm _ _ hc)
    · obtain ⟨y3, y4, cs, rfl, eg, dc, sm⟩ := hp
      have ll : (lawU r ring).length = lawN r ring := by
        unfold lawU
        rw [List.length_map, List.length_range]
      rw [show ((lawN r ring : Nat) : Int).toNat = (lawU r ring).length by omega, List.take_length] at dc
      refine ⟨_, rfl, g, cs, lawU r ring, rfl, .inl (.inl eg), dc, by omega, fun p ws hp hw => ?_⟩
      have sp := same_new (o := HO.lst ws) hp
      exact q p ws _ (sm.free hp) upd_same (dt_keepAll sp.keepsT hw) (sm.trans sp)
end
end My
set_option Elab.async false
set_option linter.all false
set_option maxRecDepth 100000
set_option maxHeartbeats 4000000
/-! how large a value is: its texts, its ints, its weight, its depth -/
namespace My
open PySem PySem.Spec PyProof.Rows L2
mutual
def okB (b : Nat) : PyData → Bool
  | .none => true
  | .bool _ => true
  | .int i => decide (i.natAbs ≤ 10 ^ 20 + b)
  | .str x => decide (x.length ≤ b) && x.cps.toList.all fun c => decide (c < 128)
  | .list ds => okAll b ds
  | .tuple ds => okAll b ds
  | .dict es => okKv b es
def okAll (b : Nat) : List PyData → Bool
  | [] => true
  | d :: r => okB b d && okAll b r
def okKv (b : Nat) : List (PyData × PyData) → Bool
  | [] => true
  | (k, v) :: r => okB b k && okB b v && okKv b r
end
mutual
theorem okB_mono {b c : Nat} (h : b ≤ c) : ∀ d : PyData, okB b d = true → okB c d = true
  | .none, _ => rfl
  | .bool _, _ => rfl
  | .int i, e => by
    have := of_decide_eq_true e
    exact decide_eq_true (by omega)
  | .str x, e => by
    rw [okB, Bool.and_eq_true] at e ⊢
    have := of_decide_eq_true e.1
    exact ⟨decide_eq_true (by omega), e.2⟩
  | .list ds, e => okAll_mono h ds e
  | .tuple ds, e => okAll_mono h ds e
  | .dict es, e => okKv_mono h es e
theorem okAll_mono {b c : Nat} (h : b ≤ c) : ∀ ds : List PyData, okAll b ds = true → okAll c ds = true
  | [], _ => rfl
  | d :: r, e => by
    rw [okAll, Bool.and_eq_true] at e ⊢
    exact ⟨okB_mono h d e.1, okAll_mono h r e.2⟩
theorem okKv_mono {b c : Nat} (h : b ≤ c) : ∀ es : List (PyData × PyData), okKv b es = true → okKv c es = true
  | [], _ => rfl
  | (k, v) :: r, e => by
    rw [okKv, Bool.and_eq_true, Bool.and_eq_true] at e ⊢
    exact ⟨⟨okB_mono h k e.1.1, okB_mono h v e.1.2⟩, okKv_mono h r e.2⟩
end
mutual
theorem okB_short {b : Nat} (h : b ≤ 1000) : ∀ d : PyData, okB b d = true → d.leavesShort 30 = true
  | .none, _ => rfl
  | .bool _, _ => rfl
  | .int i, e => by
    have := of_decide_eq_true e
    have l := int_text_length_le10 (a := i) (k := 22) (by decide) (by omega)
    refine decide_eq_true ?_
    show (Str.ofString (toString i)).length ≤ 30
    rw [PySem.ofString_length]
    omega
  | .str x, e => by
    rw [okB, Bool.and_eq_true, List.all_eq_true] at e
    rw [PyData.leavesShort, List.all_eq_true]
    intro c hc
    have := of_decide_eq_true (e.2 c hc)
    exact decide_eq_true (by omega)
  | .list ds, e => okAll_short h ds e
  | .tuple ds, e => okAll_short h ds e
  | .dict es, e => okKv_short h es e
theorem okAll_short {b : Nat} (h : b ≤ 1000) : ∀ ds : List PyData, okAll b ds = true → PyData.leavesShortAll 30 ds = true
  | [], _ => rfl
  | d :: r, e => by
    rw [okAll, Bool.and_eq_true] at e
    rw [PyData.leavesShortAll, Bool.and_eq_true]
    exact ⟨okB_short h d e.1, okAll_short h r e.2⟩
theorem okKv_short {b : Nat} (h : b ≤ 1000) : ∀ es : List (PyData × PyData), okKv b es = true → PyData.leavesShortKv 30 es = true
  | [], _ => rfl
  | (k, v) :: r, e => by
    rw [okKv, Bool.and_eq_true, Bool.and_eq_true] at e
    rw [PyData.leavesShortKv, Bool.and_eq_true, Bool.and_eq_true]
    exact ⟨⟨okB_short h k e.1.1, okB_short h v e.1.2⟩, okKv_short h r e.2⟩
end
theorem log_small {i : Int} (h : i.natAbs ≤ 10 ^ 20 + 1000) : i.natAbs.log2 < 70 := by
  by_cases z : i.natAbs = 0
  · rw [z]; decide
  · exact (Nat.log2_lt z).mpr (by omega)
mutual
theorem okB_shows {b : Nat} (h : b ≤ 1000) : ∀ d : PyData, okB b d = true → d.showable = true
  | .none, _ => rfl
  | .bool _, _ => rfl
  | .int i, e => by
    have := of_decide_eq_true e
    have := log_small (i := i) (by omega)
    exact decide_eq_true (by omega)
  | .str x, e => rfl
  | .list ds, e => okAll_shows h ds e
  | .tuple ds, e => okAll_shows h ds e
  | .dict es, e => okKv_shows h es e
theorem okAll_shows {b : Nat} (h : b ≤ 1000) : ∀ ds : List PyData, okAll b ds = true → PyData.showableAll ds = true
  | [], _ => rfl
  | d :: r, e => by
    rw [okAll, Bool.and_eq_true] at e
    rw [PyData.showableAll, Bool.and_eq_true]
    exact ⟨okB_shows h d e.1, okAll_shows h r e.2⟩
theorem okKv_shows {b : Nat} (h : b ≤ 1000) : ∀ es : List (PyData × PyData), okKv b es = true → PyData.showableKv es = true
  | [], _ => rfl
  | (k, v) :: r, e => by
    rw [okKv, Bool.and_eq_true, Bool.and_eq_true] at e
    rw [PyData.showableKv, Bool.and_eq_true, Bool.and_eq_true]
    exact ⟨⟨okB_shows h k e.1.1, okB_shows h v e.1.2⟩, okKv_shows h r e.2⟩
end
theorem okAll_iff {b : Nat} : ∀ {ds : List PyData}, okAll b ds = true ↔ ∀ d ∈ ds, okB b d = true
  | [] => ⟨fun _ _ z => (nomatch z), fun _ => rfl⟩
  | d :: r => by
    rw [okAll, Bool.and_eq_true, okAll_iff]
    exact ⟨fun ⟨a, c⟩ x hx => (List.mem_cons.mp hx).elim (fun e => e ▸ a) (c x), fun h => ⟨h d List.mem_cons_self, fun x hx => h x (List.mem_cons_of_mem _ hx)⟩⟩
theorem wAll_append : ∀ xs ys : List PyData, PyData.weightAll (xs ++ ys) = PyData.weightAll xs + PyData.weightAll ys
  | [], ys => by rw [List.nil_append, PyData.weightAll, Nat.zero_add]
  | x :: xs, ys => by rw [List.cons_append, PyData.weightAll, PyData.weightAll, wAll_append xs ys]; omega
theorem wAll_mem : ∀ {xs : List PyData} {d : PyData}, d ∈ xs → d.weight + 1 ≤ PyData.weightAll xs
  | x :: xs, d, h => by
    rw [PyData.weightAll]
    rcases List.mem_cons.mp h with rfl | h
    · omega
    · have := wAll_mem h
      omega
theorem wAll_len : ∀ xs : List PyData, xs.length ≤ PyData.weightAll xs
  | [] => Nat.zero_le _
  | x :: xs => by
    have := wAll_len xs
    rw [PyData.weightAll, List.length_cons]
    omega
theorem wAll_rev : ∀ xs : List PyData, PyData.weightAll xs.reverse = PyData.weightAll xs
  | [] => rfl
  | x :: xs => by
    rw [List.reverse_cons, wAll_append, wAll_rev xs]
    simp only [PyData.weightAll]
    omega
theorem wAll_cut (xs : List PyData) (i : Nat) : PyData.weightAll (xs.take i) + PyData.weightAll (xs.drop i) = PyData.weightAll xs := by rw [← wAll_append, List.take_append_drop]
theorem dAll_le {n : Nat} : ∀ {xs : List PyData}, PyData.depthAll xs ≤ n ↔ ∀ d ∈ xs, d.depth ≤ n
  | [] => ⟨fun _ _ z => (nomatch z), fun _ => Nat.zero_le _⟩
  | x :: xs => by
    rw [PyData.depthAll, Nat.max_le, dAll_le]
    exact ⟨fun ⟨a, c⟩ y hy => (List.mem_cons.mp hy).elim (fun e => e ▸ a) (c y), fun h => ⟨h x List.mem_cons_self, fun y hy => h y (List.mem_cons_of_mem _ hy)⟩⟩
/-- a value of at most these measures -/
structure Lim (b w n : Nat) (d : PyData) : Prop where
  ok : okB b d = true
  wt : d.weight ≤ w
  dp : d.depth ≤ n
theorem Lim.mono {b w n b' w' n' : Nat} {d : PyData} (h : Lim b w n d) (h1 : b ≤ b') (h2 : w ≤ w') (h3 : n ≤ n') : Lim b' w' n' d := ⟨okB_mono h1 d h.ok, Nat.le_trans h.wt h2, Nat.le_trans h.dp h3⟩
theorem Lim.shows {b w n : Nat} {d : PyData} (h : Lim b w n d) (hb : b ≤ 1000) : d.showable = true := okB_shows hb d h.ok
theorem Lim.short {b w n : Nat} {d : PyData} (h : Lim b w n d) (hb : b ≤ 1000) (hw : w ≤ 100000) : d.shown.length ≤ sizeLine := by
  have := PyData.shown_le 30 (by decide) d (okB_short hb d h.ok)
  have := h.wt
  rw [sizeLine_eq]
  omega
theorem Lim.fit {b w n : Nat} {d : PyData} (h : Lim b w n d) (hb : b ≤ 1000) (hw : w ≤ 100000) : Fit d := by
  obtain ⟨h1, h2, _⟩ := h
  cases d with
  | str x =>
    rw [okB, Bool.and_eq_true] at h1
    have := of_decide_eq_true h1.1
    show x.length ≤ 100000
    omega
  | list ds =>
    have := wAll_len ds
    simp only [PyData.weight] at h2
    show ds.length ≤ 100000
    omega
  | tuple ds =>
    have := wAll_len ds
    simp only [PyData.weight] at h2
    show ds.length ≤ 100000
    omega
  | _ => trivial
theorem Lim.item {b w n : Nat} {ds : List PyData} (h : Lim b w n (.tuple ds)) {e : PyData} (he : e ∈ ds) : Lim b w (n - 1) e := by
  obtain ⟨h1, h2, h3⟩ := h
  simp only [PyData.weight] at h2
  simp only [PyData.depth] at h3
  have := wAll_mem he
  exact ⟨okAll_iff.mp h1 e he, by omega, dAll_le.mp (show PyData.depthAll ds ≤ n - 1 by omega) e he⟩
theorem Lim.fit1 {b w n : Nat} {d : PyData} (h : Lim b w n d) (hb : b ≤ 1000) (hw : w ≤ 100000) : Fit1 d := ⟨h.fit hb hw, fun ds e x hx => by
  subst e
  exact (h.item hx).fit hb hw⟩
theorem Lim.fit2 {b w n : Nat} {d : PyData} (h : Lim b w n d) (hb : b ≤ 1000) (hw : w ≤ 100000) : Fit2 d := ⟨h.fit hb hw, fun ds e x hx => by
  subst e
  exact (h.item hx).fit1 hb hw⟩
theorem lim_tup {b w n : Nat} {ds : List PyData} (h1 : ∀ d ∈ ds, okB b d = true) (h2 : PyData.weightAll ds ≤ w) (h3 : ∀ d ∈ ds, d.depth ≤ n) : Lim b w (n + 1) (.tuple ds) :=
  ⟨okAll_iff.mpr h1, by simp only [PyData.weight]; exact h2, by simp only [PyData.depth]; have := dAll_le.mpr h3; omega⟩
theorem lim_lst {b w n : Nat} {ds : List PyData} (h1 : ∀ d ∈ ds, okB b d = true) (h2 : PyData.weightAll ds ≤ w) (h3 : ∀ d ∈ ds, d.depth ≤ n) : Lim b w (n + 1) (.list ds) :=
  ⟨okAll_iff.mpr h1, by simp only [PyData.weight]; exact h2, by simp only [PyData.depth]; have := dAll_le.mpr h3; omega⟩
theorem lim_str {b w n : Nat} {x : Str} (h1 : x.length ≤ b) (h2 : ∀ c ∈ x.cps.toList, c < 128) (h3 : b ≤ w) : Lim b w n (.str x) :=
  ⟨by rw [okB, Bool.and_eq_true, List.all_eq_true]; exact ⟨decide_eq_true h1, fun c hc => decide_eq_true (h2 c hc)⟩, Nat.le_trans (show x.length ≤ b from h1) h3, Nat.zero_le _⟩
theorem lim_int {b w n : Nat} {i : Int} (h1 : i.natAbs ≤ 10 ^ 20 + b) (hb : b ≤ 1000) (h2 : 70 ≤ w) : Lim b w n (.int i) :=
  ⟨decide_eq_true h1, by
    have := log_small (i := i) (by omega)
    simp only [PyData.weight]
    split <;> omega, Nat.zero_le _⟩
end My
set_option Elab.async false
set_option linter.all false
set_option maxRecDepth 100000
set_option maxHeartbeats 4000000
/-! how large lists of couplings are -/
namespace My
open PySem PySem.Spec PyProof.Rows L2
open PySem.W (Datum DatumOrd)
structure EndOk (e : EndT) : Prop where
  nm : NameOk e.1
  sd : e.2 = 0 ∨ e.2 = 1
structure CoupOk (c : CoupT) : Prop where
  a : EndOk c.1
  b : EndOk c.2
theorem all2' {α : Type} {f : α → Prop} {a b : α} (h1 : f a) (h2 : f b) : ∀ x ∈ [a, b], f x := fun x hx => by
  rcases List.mem_cons.mp hx with rfl | hx
  · exact h1
  · rw [List.mem_singleton.mp hx]
    exact h2
theorem end_w {e : EndT} (h : EndOk e) : (dwD e).weight ≤ 11 := by
  have e1 : (PyData.str e.1).weight = e.1.length := rfl
  have e2 : (dwD e).weight = (PyData.str e.1).weight + 1 + ((PyData.int e.2).weight + 1 + 0) := rfl
  have := h.nm.2.1
  have : (PyData.int e.2).weight ≤ 1 := by rcases h.sd with z | z <;> rw [z] <;> decide +kernel
  omega
theorem end_lim {e : EndT} (h : EndOk e) : Lim 25 11 1 (dwD e) := by
  refine lim_tup (n := 0) (all2' (f := fun y => okB 25 y = true) ?_ (decide_eq_true (by rcases h.sd with z | z <;> rw [z] <;> decide))) ?_ (all2' (f := fun y : PyData => y.depth ≤ 0) (Nat.zero_le _) (Nat.zero_le _))
  · exact (lim_str (n := 0) (b := 25) (w := 25) (by have := h.nm.2.1; omega) (fun c hc => by have := h.nm.2.2 c hc; omega) (Nat.le_refl _)).ok
  · have := end_w h
    exact this
theorem coup_ok {c : CoupT} (h : CoupOk c) : okB 25 (Datum.toD c) = true ∧ (Datum.toD c).weight ≤ 24 ∧ (Datum.toD c).depth ≤ 2 := by
  have l : Lim 25 24 2 (.tuple [dwD c.1, dwD c.2]) := by
    refine lim_tup (n := 1) (all2' (f := fun y => okB 25 y = true) (end_lim h.a).ok (end_lim h.b).ok) ?_ (all2' (f := fun y : PyData => y.depth ≤ 1) (end_lim h.a).dp (end_lim h.b).dp)
    have := end_w h.a
    have := end_w h.b
    simp only [PyData.weightAll]
    omega
  exact ⟨l.ok, l.wt, l.dp⟩
theorem coups_w : ∀ cs : List CoupT, (∀ c ∈ cs, CoupOk c) → PyData.weightAll (cs.map Datum.toD) ≤ 25 * cs.length
  | [], _ => Nat.zero_le _
  | c :: cs, h => by
    have ih := coups_w cs fun d hd => h d (List.mem_cons_of_mem _ hd)
    have := (coup_ok (h c List.mem_cons_self)).2.1
    rw [List.map_cons, PyData.weightAll, List.length_cons]
    omega
theorem coups_lim {cs : List CoupT} (h : ∀ c ∈ cs, CoupOk c) (hl : cs.length ≤ 100) : Lim 25 3000 3 (.list (cs.map Datum.toD)) := by
  have := coups_w cs h
  refine lim_lst (n := 2) (fun d hd => ?_) (by omega) (fun d hd => ?_)
  · obtain ⟨c, hc, rfl⟩ := List.mem_map.mp hd
    exact (coup_ok (h c hc)).1
  · obtain ⟨c, hc, rfl⟩ := List.mem_map.mp hd
    exact (coup_ok (h c hc)).2.2
theorem coupE_ok {p q : EndT} (hp : EndOk p) (hq : EndOk q) : CoupOk (coupE p q) := by
  unfold coupE
  split
  · exact ⟨hp, hq⟩
  · exact ⟨hq, hp⟩
theorem lawU_ok {r : List (Str × Int)} (ok : RowOk r) (hne : r ≠ []) (ring : Bool) : ∀ c ∈ lawU r ring, CoupOk c := fun c hc => by
  obtain ⟨k, hk, rfl⟩ := List.mem_map.mp hc
  have hk := List.mem_range.mp hk
  have hlp : 0 < r.length := by
    cases r with
    | nil => exact absurd rfl hne
    | cons x t => exact Nat.succ_pos _
  have hn : lawN r ring ≤ r.length := Nat.sub_le _ _
  have at_ : ∀ i, i < r.length → NameOk (nthW r i).1 := fun i hi => by
    rw [nthW_of (List.getElem?_eq_getElem hi)]
    exact ok.nm _ (List.getElem_mem hi)
  refine coupE_ok ⟨at_ k (by omega), ?_⟩ ⟨at_ _ (Nat.mod_lt _ hlp), ?_⟩
  · show (if _ then (1 : Int) else 0) = 0 ∨ (if _ then (1 : Int) else 0) = 1
    split
    · exact .inr rfl
    · exact .inl rfl
  · show (if _ then (1 : Int) else 0) = 0 ∨ (if _ then (1 : Int) else 0) = 1
    split
    · exact .inr rfl
    · exact .inl rfl
theorem lawU_len (r : List (Str × Int)) (ring : Bool) : (lawU r ring).length = lawN r ring := by
  unfold lawU
  rw [List.length_map, List.length_range]
theorem sortO_len {α : Type} [DecidableEq α] [PySem.W.DatumOrd α] (xs : List α) : (sortO xs).length = xs.length := List.length_mergeSort xs
theorem law_lim {r : List (Str × Int)} (ok : RowOk r) (hne : r ≠ []) (ring : Bool) : Lim 25 3000 3 (.list ((sortO (lawU r ring)).map Datum.toD)) := by
  refine coups_lim (fun c hc => lawU_ok ok hne ring c (List.mem_mergeSort.mp hc)) ?_
  rw [sortO_len, lawU_len]
  have : lawN r ring ≤ r.length := Nat.sub_le _ _
  have := ok.few
  omega
end My
set_option Elab.async false
set_option linter.all false
set_option maxRecDepth 100000
set_option maxHeartbeats 4000000
/-! _law_turned -/
namespace My
open PySem PySem.Spec PyProof.Rows L2
section
variable {P : Program} {w : World} {K : PySem.W.Frag} {mg : Str → Option Value} {base : Heap}
theorem ok_lturn {f : Addr} {fd : FuncData} (F : Fun K "_law_turned" "_law_turned" sLTurn f fd) (B : Glb mg) : FnOk P w K mg base CX0 1 f fd ["row"] (spTurn K) := by
  refine F.ok scLTurn (fun vs H Q E h => ?_) (fun cdv A outer s H vs Q E hr h => ?_)
  · obtain ⟨a, r, rfl, _⟩ := h
    rfl
  · obtain ⟨a, r, rfl, hd, ok, q⟩ := h
    obtain ⟨xs, hs, hl, da⟩ := row_at hd
    have few := ok.few
    refine ⟨_, pss_one (ps_ret (pe_callTy call_tupleF (by rfl) B.tuple (by decide +kernel) (pa_cons (pe_lc (own := [("name", 1), ("direction", 2)]) (g := gPair K 1 2) (tt := tYes) rfl scLTurn.nd (pi_tup (pe_revT (pv 0)))
        (blkOk_by (own := [("name", 1), ("direction", 2)]) (N := ["row", "name", "direction"]) (sc := defScope sLTurn) (by decide +kernel))
        (fun _ _ _ _ _ => pg_tup rfl (pgs_cons (pg_name (i := 1) scLTurn.nd rfl (Or.inl rfl) (Or.inr rfl)) (pgs_cons (pg_name (i := 2) scLTurn.nd rfl (Or.inl rfl) (Or.inr rfl)) pgs_nil)))
        (fun _ _ _ _ _ => pts_nil) (fun _ _ _ _ _ => pe_tup (pa_cons (pv 1) (pa_cons (pe_un un_neg (pv 2)) pa_nil)))) pa_nil))), ?_⟩
    refine ⟨_, rfl, a, xs, rfl, hs, fun b hb => ?_⟩
    have s2 := same_new (o := HO.tup xs.reverse) hb
    have t2 : SqT K (upd H b (.tup xs.reverse)) b xs.reverse := .inl (.inl upd_same)
    generalize upd H b (.tup xs.reverse) = H2 at s2 t2
    have dr : DtAll K H2 xs.reverse (r.reverse.map dwD) := by
      rw [List.map_reverse]
      exact dtAll_rev (dt_keepAll s2.keepsT da)
    refine ⟨b, rfl, ⟨_, t2⟩, fun Dl hDl => ?_⟩
    refine lcP_tup (K := K) (a := b) (xs := xs.reverse) (fun i Hn => ∃ cs, Hn Dl = some (.lst cs) ∧ DtAll K Hn cs (((turnR r).take i).map dwD) ∧ Same H2 Hn) ⟨[], upd_same, .nil, same_new hDl⟩ (fun i Hn _ hp => ?_) (fun i v Hn hv hp => ?_) (fun Hn hp => ?_)
    · obtain ⟨_, _, _, sm⟩ := hp
      exact sm.keepsT _ _ t2
    · obtain ⟨b2, nm, z, rfl, hb2, gr⟩ := turn_grows hDl hv dr (by rw [List.length_reverse]; omega) hp
      exact ⟨b2, .str nm, .int z, rfl, hb2, rfl, gr _ fun R hR => ⟨_, rfl, _, rfl, z, rfl, by show 2 ≤ sizeLine; decide, fun t ht => hR t ht⟩⟩
    · obtain ⟨cs, eD, dc, sm⟩ := hp
      rw [List.length_reverse, hl, ← turn_len r, List.take_length] at dc
      refine ⟨Dl, cs, rfl, .inl (.inl eD), fun c ob hc hob => ?_⟩
      have sc := same_new (o := HO.frz ob (.tup cs)) hc
      exact q c _ ((s2.trans sm).trans sc) (.tup (.inl (.inr ⟨ob, upd_same⟩)) (dt_keepAll sc.keepsT dc)) ⟨ob, cs, upd_same, hob⟩
end
end My
set_option Elab.async false
set_option linter.all false
set_option maxRecDepth 100000
set_option maxHeartbeats 4000000
/-! _law_row: a tuple that bears no dict -/
namespace My
open PySem PySem.Spec PyProof.Rows L2
section
variable {P : Program} {w : World} {K : PySem.W.Frag} {mg : Str → Option Value} {base : Heap}
/-- the names in order, each in a drawn direction -/
def spRowB (K : PySem.W.Frag) : Sp := fun vs H Q _ => ∃ (p c o : Addr) (n : Nat) (names : List Str), vs = [.ref p, .ref o] ∧ PenAt H p c n ∧ n ≤ 900000000 ∧ SqL K H o (names.map V.str) ∧ names.length ≤ 1000 ∧
  ∀ (a : Addr) (r : List (Str × Int)) (H' : Hp), r.map (·.1) = names → Dirs r → H a = none → Dt K H' (.ref a) (rowD r) → BareT H' a → SameP p H H' → PenAt H' p c (n + names.length) → Q (.ref a) H'
theorem ok_rowB {f fD fP fS : Addr} {fd dD dP dS : FuncData} (F : Fun K "_law_row" "_law_row" sRow f fd) (T : Draws P w K mg base fD fP fS dD dP dS) (mt : mg "tuple" = none) : FnOk P w K mg base CX0 3 f fd ["pen", "wagons"] (spRowB K) := by
  refine F.ok scRow (fun vs H Q E h => ?_) (fun cdv A outer s H vs Q E hr h => ?_)
  · obtain ⟨p, c, o, n, names, rfl, _⟩ := h
    rfl
  · obtain ⟨p, c, o, n, names, rfl, G, hn, hS, hl, q⟩ := h
    refine ⟨_, pss_one (ps_ret (pe_callTy call_tupleF (by rfl) mt (by decide +kernel) (pa_cons (pe_lc (own := [("name", 2)]) (g := gName 2) (tt := tYes) rfl scRow.nd (pi_list (pv 1))
        (blkOk_by (own := [("name", 2)]) (N := ["pen", "wagons", "name"]) (sc := defScope sRow) (by decide +kernel)) (fun _ _ _ _ _ => pg_name (i := 2) scRow.nd rfl (Or.inl rfl)) (fun _ _ _ _ _ => pts_nil)
        (fun _ _ _ _ _ => pe_tup (pa_cons (pv 2) (pa_cons (pe_call T.oP hr (by rfl) T.gP T.kP T.bP .nil pass0 (pa_cons (pv 0) (pa_cons (pe_lst (pa_cons pe_int (pa_cons (pe_un un_neg pe_int) pa_nil))) pa_nil))) pa_nil)))) pa_nil))), ?_⟩
    refine ⟨_, rfl, o, rfl, ⟨_, hS⟩, fun Dl hD => ?_⟩
    refine lcN_list (K := K) (a := o) (xs := names.map V.str) (fun i H' => ∃ (cs : List V) (r : List (Str × Int)), H' Dl = some (.lst cs) ∧ DtAll K H' cs (r.map dwD) ∧ r.map (·.1) = names.take i ∧ Dirs r ∧ SameP p H H' ∧ PenAt H' p c (n + i))
      ⟨[], [], upd_same, .nil, rfl, fun _ z => (nomatch z), SameP.new hD, G.same (same_new hD)⟩ (fun i H2 _ hp => ?_) (fun i x H2 hx hp => ?_) (fun H2 hp => ?_)
    · obtain ⟨_, _, _, _, _, _, s2, _⟩ := hp
      exact s2.sqL G hS
    · obtain ⟨cs, r, eD, da, er, dr, s2, G2⟩ := hp
      refine ⟨rfl, ?_⟩
      rw [List.getElem?_map] at hx
      obtain ⟨nm, hnm, rfl⟩ := Option.map_eq_some_iff.mp hx
      have hi : i < names.length := (List.getElem?_eq_some_iff.mp hnm).1
      have lr : r.length = i := by
        have := congrArg List.length er
        rw [List.length_map, List.length_take] at this
        omega
      refine ⟨_, rfl, _, rfl, _, rfl, by show 2 ≤ sizeLine; decide, fun o1 ho1 => ?_⟩
      have so := same_new (o := HO.lst [.int 1, .int (-1)]) ho1
      refine ⟨p, c, _, .ref o1, [.int 1, .int (-1)], rfl, G2.same so, by omega, .lst (.inl (.inl upd_same)), by decide, by decide, fun j v H4 hv s4 G4 => ?_⟩
      have hdv : ∃ z : Int, v = .int z ∧ (z = 1 ∨ z = -1) := by
        have := List.mem_of_getElem? hv
        simp only [List.mem_cons, List.not_mem_nil, or_false] at this
        rcases this with rfl | rfl
        · exact ⟨1, rfl, .inl rfl⟩
        · exact ⟨-1, rfl, .inr rfl⟩
      obtain ⟨z, rfl, hz⟩ := hdv
      have s24 : SameP p H2 H4 := (SameP.of so).trans s4
      have eD4 := s24.lst G2 eD
      refine ⟨by show 2 ≤ sizeLine; decide, fun t ht => ?_⟩
      have st := same_new (o := HO.tup [.str nm, .int z]) ht
      have eD5 := st _ _ eD4
      have k : KeepsT K H2 (upd (upd H4 t (.tup [.str nm, .int z])) Dl (.lst (cs ++ [.ref t]))) := ((s24.keepsT G2).trans st.keepsT).trans (KeepsT.lst eD5)
      refine ⟨cs, eD5, Evl.sz_lt (by rw [da.length, List.length_map]; omega), cs ++ [.ref t], r ++ [(nm, z)], upd_same, ?_, ?_, ?_, ?_, ?_⟩
      · rw [List.map_append]
        refine (dt_keepAll k da).append (.cons (.tup (KeepsT.lst eD5 _ _ (.inl (.inl upd_same))) (.two (.str _) (.int _))) .nil)
      · rw [List.map_append, er, List.take_add_one, hnm]
        rfl
      · intro y hy
        rcases List.mem_append.mp hy with hy | hy
        · exact dr y hy
        · rw [List.mem_singleton.mp hy]
          exact hz
      · intro b ob nb e
        rw [upd_ne (ne_of_none e hD)]
        exact st _ _ ((s2.trans s24) b ob nb e)
      · exact ((G4.same st).upd (G.apart' hD) (G.apart hD)).mono (by omega)
    · obtain ⟨cs, r, eD, da, er, dr, s2, G2⟩ := hp
      rw [List.length_map] at er G2
      refine ⟨Dl, cs, rfl, .inl (.inl eD), fun a ob ha hob => ?_⟩
      have sa := same_new (o := HO.frz ob (.tup cs)) ha
      exact q a r _ (by rw [er, List.take_length]) dr (s2.free G2 ha) (.tup (.inl (.inr ⟨ob, upd_same⟩)) (dt_keepAll sa.keepsT da)) ⟨ob, cs, upd_same, hob⟩ (s2.trans (.of sa)) (G2.same sa)
end
end My
set_option Elab.async false
set_option linter.all false
set_option maxRecDepth 100000
set_option maxHeartbeats 4000000
namespace My
open PySem PySem.Spec PyProof.Rows L2 NdefX
section
variable {P : Program} {w : World} {K : PySem.W.Frag} {mg : Str → Option Value} {base : Heap}
/-! ### the classes -/
def kRow : Str := "_row"
/-- what is asked of the class of self -/
structure RowCls (K : PySem.W.Frag) (C : Addr) : Prop where
  c : Cls K C
  n : NoAttr K C "_row"
def spInit (K : PySem.W.Frag) (m : Nat) (C : Addr) (g : List (Str × Int) → List (Str × Int)) (pre : Addr → Hp → Prop) (post : Addr → Addr → Prop) : Sp := fun vs H Q _ => ∃ (x a dx : Addr) (fs : List (Str × V)) (r : List (Str × Int)), vs = [.ref x, .ref a] ∧ H x = some (.ins C dx fs) ∧ fs.length ≤ 100 ∧ Dt K H (.ref a) (rowD r) ∧ RowOk r ∧ r ≠ [] ∧ pre a H ∧
  ∀ (b : Addr) (fs' : List (Str × V)) (H' : Hp), SameP x H H' → H' x = some (.ins C dx fs') → fs'.lookup kRow = some (V.ref b) → (∀ k, k ≠ kRow → fs'.lookup k = fs.lookup k) → fs'.length ≤ fs.length + m → Dt K H' (.ref b) (rowD (g r)) → post a b → Q .non H'
def spChkF (K : PySem.W.Frag) : Sp := fun vs H Q _ => ∃ (a : Addr) (r : List (Str × Int)), vs = [.ref a] ∧ Dt K H (.ref a) (rowD r) ∧ RowOk r ∧ r ≠ [] ∧ ∀ H', Same H H' → Q .non H'
theorem ok_chkF {f fR : Addr} {fd dR : FuncData} (F : Fun K "check_filled_row" "check_filled_row" sChkF f fd) (GR : FnOk P w K mg base CX0 4 fR dR ["value"] (spIsRow K)) (gR : mg "is_row" = some (.ref fR)) (kR : PySem.W.keepIn K (.ref fR) = true) (bR : Binds K dR ["value"] []) :
    FnOk P w K mg base CX0 5 f fd ["value"] (spChkF K) := by
  refine F.ok scChkF (fun vs H Q E h => ?_) (fun cdv A outer s H vs Q E hr h => ?_)
  · obtain ⟨a, r, rfl, _⟩ := h
    rfl
  · obtain ⟨a, r, rfl, hd, ok, hne, q⟩ := h
    obtain ⟨xs, hs, hl, da⟩ := row_at hd
    refine ⟨_, pss_one (ps_if (PW.pt (pw_or (pt_not (pt_val (pe_call GR hr (by rfl) gR kR bR .nil pass0 (pa_cons (pv 0) pa_nil)))) (pw_or1 (pt_cmpR (op_eqNil hr.units) (pv 0) (pe_tup pa_nil) (nomark _))))) (pss_one ps_no) pss_nil), ?_⟩
    refine ⟨_, rfl, a, .ref a, rowD r, rfl, dt_da hd, fit_row ok, fun H1 s1 => ⟨_, rfl, ?_⟩⟩
    rw [is_row ok]
    refine iteF ⟨_, rfl, by show 0 ≤ sizeLine; decide, fun e he => ?_⟩
    have s2 := same_new (o := HO.tup []) he
    refine ⟨a, e, xs, rfl, rfl, .inr ⟨(s1.trans s2).keepsT _ _ hs, .inl (.inl upd_same)⟩, _, rfl, ?_⟩
    have hxs : xs.isEmpty = false := by
      cases xs with
      | nil => exact absurd (List.length_eq_zero_iff.mp hl.symm) hne
      | cons _ _ => rfl
    show if xs.isEmpty = true then _ else _
    rw [hxs]
    exact iteF (q _ (s1.trans s2))
theorem ok_train {f fR : Addr} {fd dR : FuncData} (C : Addr) (F : Fun K "__init__" "Train.__init__" sTrInit f fd) (GR : FnOk P w K mg base CX0 5 fR dR ["value"] (spChkF K)) (gR : mg "check_filled_row" = some (.ref fR)) (kR : PySem.W.keepIn K (.ref fR) = true) (bR : Binds K dR ["value"] []) (RC : RowCls K C) :
    FnOk P w K mg base CX0 6 f fd ["self", "row"] (spInit K 1 C id (fun _ _ => True) (fun a b => b = a)) := by
  refine F.ok scTrInit (fun vs H Q E h => ?_) (fun cdv A outer s H vs Q E hr h => ?_)
  · obtain ⟨x, a, dx, fs, r, rfl, _⟩ := h
    rfl
  · obtain ⟨x, a, dx, fs, r, rfl, hx, hfs, hd, ok, hne, _, q⟩ := h
    refine ⟨_, pss_cons (ps_expr (pe_call GR hr (by rfl) gR kR bR .nil pass0 (pa_cons (pv 1) pa_nil)))
      (pss_one (ps_fld (pv 0) (pv 1) rfl)), ?_⟩
    refine ⟨_, rfl, a, r, rfl, hd, ok, hne, fun H1 s1 => ?_⟩
    refine ⟨_, rfl, _, rfl, x, C, dx, fs, rfl, s1 _ _ hx, RC.c, RC.n, by omega, ?_⟩
    refine q a _ _ (fun b o ne z => by rw [upd_ne ne]; exact s1 _ _ z) upd_same (by rw [kRow, lookup_putF, if_pos rfl]) (fun k hk => (lookup_putF _ _ _ _).trans (if_neg hk)) (by have := length_putF "_row" (V.ref a) fs; omega) (dt_keep (KeepsT.at (fun _ z => ?_) (fun _ _ z => ?_)) (dt_keep s1.keepsT hd)) rfl
    · rw [s1 _ _ hx] at z
      cases z
    · rw [s1 _ _ hx] at z
      cases z
end
end My
set_option Elab.async false
set_option linter.all false
set_option maxRecDepth 100000
set_option maxHeartbeats 4000000
/-! Line.links, Ring.links -/
namespace My
open PySem PySem.Spec PyProof.Rows L2
open PySem.W (Datum DatumOrd)
def aroundR (r : List (Str × Int)) : List (Str × Int) := r ++ r.take 1
section
variable {P : Program} {w : World} {K : PySem.W.Frag} {mg : Str → Option Value} {base : Heap}
def spLinksM (K : PySem.W.Frag) (C : Addr) (g : List (Str × Int) → List (Str × Int)) : Sp := fun vs H Q _ => ∃ (x a dx : Addr) (fs : List (Str × V)) (r : List (Str × Int)), vs = [.ref x] ∧ H x = some (.ins C dx fs) ∧ fs.lookup kRow = some (V.ref a) ∧ Dt K H (.ref a) (rowD r) ∧ r.length ≤ 50 ∧
  ∀ (l : Addr) (ws : List V) (H' : Hp), H l = none → H' l = some (.lst ws) → HdAll K H' ws (linksR (g r)) → Same H H' → Q (.ref l) H'
theorem ok_lineLinks {f fT C : Addr} {fd dT : FuncData} (F : Fun K "links" "Line.links" sLnLinks f fd) (RC : RowCls K C) (G : Has P w K mg base 2 "row_links" ["row"] (spLinks K) fT dT) : FnOk P w K mg base CX0 3 f fd ["self"] (spLinksM K C id) := by
  refine F.ok scLnLinks (fun vs H Q E h => ?_) (fun cdv A outer s H vs Q E hr h => ?_)
  · obtain ⟨x, a, dx, fs, r, rfl, _⟩ := h
    rfl
  · obtain ⟨x, a, dx, fs, r, rfl, hx, hl, hd, few, q⟩ := h
    refine ⟨_, pss_one (ps_ret (pe_has G hr (by rfl) (pa_cons (pe_fld (pv 0) rfl) pa_nil))), ?_⟩
    exact ⟨_, rfl, x, C, dx, fs, _, rfl, hx, RC.c, RC.n, hl, a, r, rfl, hd, by omega, q⟩
theorem ok_ringLinks {f fT C : Addr} {fd dT : FuncData} (F : Fun K "links" "Ring.links" sRgLinks f fd) (RC : RowCls K C) (G : Has P w K mg base 2 "row_links" ["row"] (spLinks K) fT dT) : FnOk P w K mg base CX0 3 f fd ["self"] (spLinksM K C aroundR) := by
  refine F.ok scRgLinks (fun vs H Q E h => ?_) (fun cdv A outer s H vs Q E hr h => ?_)
  · obtain ⟨x, a, dx, fs, r, rfl, _⟩ := h
    rfl
  · obtain ⟨x, a, dx, fs, r, rfl, hx, hl, hd, few, q⟩ := h
    obtain ⟨xs, hs, hlx, da⟩ := row_at hd
    refine ⟨_, pss_one (ps_ret (pe_has G hr (by rfl) (pa_cons (pe_op op_catA (pe_fld (pv 0) rfl) (pe_slice sl_tupA (pe_fld (pv 0) rfl) po_none (po_some pe_int))) pa_nil))), ?_⟩
    refine ⟨_, rfl, x, C, dx, fs, _, rfl, hx, RC.c, RC.n, hl, _, rfl, x, C, dx, fs, _, rfl, hx, RC.c, RC.n, hl, ?_⟩
    unfold tNoPart
    dsimp only []
    refine ⟨_, rfl, ?_⟩
    refine sl_to (lo := none) (hi := some 1) hs fun b H1 s1 t1 => ?_
    rw [show (some (1 : Int)) = some ((1 : Nat) : Int) from rfl, cutV_to] at t1
    refine cat_to (s1.keepsT _ _ hs) t1 (by rw [List.length_take, sizeLine_eq]; omega) fun c H2 s2 t2 => ?_
    have da2 := dt_keepAll (s1.trans s2).keepsT da
    refine ⟨c, aroundR r, rfl, ?_, by unfold aroundR; rw [List.length_append, List.length_take]; omega, fun l ws H3 h1 h2 h3 h4 => q l ws H3 ((s1.trans s2).free h1) h2 h3 ((s1.trans s2).trans h4)⟩
    have e : rowD (aroundR r) = .tuple (r.map dwD ++ (r.map dwD).take 1) := by
      unfold rowD aroundR
      rw [List.map_append, List.map_take]
    rw [e]
    exact .tup t2 (da2.append (dtAll_take _ da2))
end
end My
set_option Elab.async false
set_option linter.all false
set_option maxRecDepth 100000
set_option maxHeartbeats 4000000
namespace My
open PySem PySem.Spec PyProof.Rows L2 NdefX
def nfLn (cc c : Addr) : NF := ⟨"__init__", "Line.__init__", defArgs sLnInit, defBody sLnInit, defScope sLnInit, [(("__class__" : Str), cc)], c⟩
def nfRg (cc c : Addr) : NF := ⟨"__init__", "Ring.__init__", defArgs sRgInit, defBody sRgInit, defScope sRgInit, [(("__class__" : Str), cc)], c⟩
theorem nsLn (cc c : Addr) : NScope ["self", "row", "__class__"] ["self", "row"] [("__class__" : Str)] (nfLn cc c).scope := nscope_by (by show nscB _ _ _ (defScope sLnInit) = true; decide +kernel)
theorem nsRg (cc c : Addr) : NScope ["self", "row", "__class__"] ["self", "row"] [("__class__" : Str)] (nfRg cc c).scope := nscope_by (by show nscB _ _ _ (defScope sRgInit) = true; decide +kernel)
section
variable {P : Program} {w : World} {K : PySem.W.Frag} {mg : Str → Option Value} {base : Heap}
theorem ok_lineInit {f C g cc c fL : Addr} {fd gd dL : FuncData} (T : SupFn P K mg (nfLn cc c) ["self", "row"] f C g cc fd) (RC : RowCls K C) (GI : FnOk P w K mg base CX0 6 g gd ["self", "row"] (spInit K 1 C id (fun _ _ => True) (fun a b => b = a))) (bI : Binds K gd ["self", "row"] [])
    (GL : FnOk P w K mg base CX0 6 fL dL ["row"] (spNe K lineR fun _ _ => True)) (gL : mg "line_form" = some (.ref fL)) (kL : PySem.W.keepIn K (.ref fL) = true) (bL : Binds K dL ["row"] []) :
    FnOk P w K mg base CX0 7 f fd ["self", "row"] (spInit K 2 C lineR (fun _ _ => True) (fun _ _ => True)) := by
  refine fn_super (N := ["self", "row", "__class__"]) (k := 6) T (nsLn cc c) rfl (GI.mono (by decide)) bI (fun vs H Q E h => ?_) (fun A stk s H vs Q E hr h => ?_) (fun _ => rfl) (fun _ => ⟨_, rfl⟩)
  · obtain ⟨x, a, dx, fs, r, rfl, _⟩ := h
    rfl
  · obtain ⟨x, a, dx, fs, r, rfl, hx, hfs, hd, ok, hne, _, q⟩ := h
    refine ⟨_, _, pa_cons (pv 1) pa_nil, pss_one (ps_fld (pv 0) (pe_call GL hr (by rfl) gL kL bL .nil pass0 (pa_cons (pv 1) pa_nil)) rfl), x, dx, fs, rfl, hx, ?_⟩
    refine ⟨_, rfl, x, a, dx, fs, r, rfl, hx, hfs, hd, ok, hne, trivial, fun b fs1 H1 s1 x1 l1 o1 n1 d1 eb => ?_⟩
    subst eb
    refine ⟨_, rfl, b, r, rfl, d1, ok, hne, trivial, fun b2 H2 s2 d2 => ⟨_, rfl, x, C, dx, fs1, rfl, s2 _ _ x1, RC.c, RC.n, by omega, ?_⟩⟩
    refine q b2 _ _ (fun c o ne z => by rw [upd_ne ne]; exact s2 _ _ (s1 _ _ ne z)) upd_same (by rw [kRow, lookup_putF, if_pos rfl]) (fun k hk => ((lookup_putF _ _ _ _).trans (if_neg hk)).trans (o1 k hk)) ?_ (dt_keep (KeepsT.at (fun _ z => ?_) (fun _ _ z => ?_)) d2) trivial
    · have := length_putF "_row" (V.ref b2) fs1
      omega
    · rw [s2 _ _ x1] at z
      cases z
    · rw [s2 _ _ x1] at z
      cases z
theorem ok_ringInit {f C g cc c fL : Addr} {fd gd dL : FuncData} (T : SupFn P K mg (nfRg cc c) ["self", "row"] f C g cc fd) (RC : RowCls K C) (GI : FnOk P w K mg base CX0 6 g gd ["self", "row"] (spInit K 1 C id (fun _ _ => True) (fun a b => b = a))) (bI : Binds K gd ["self", "row"] [])
    (GL : FnOk P w K mg base CX0 6 fL dL ["row"] (spNe K ringR fun a H => BareT H a)) (gL : mg "ring_form" = some (.ref fL)) (kL : PySem.W.keepIn K (.ref fL) = true) (bL : Binds K dL ["row"] []) :
    FnOk P w K mg base CX0 7 f fd ["self", "row"] (spInit K 2 C ringR (fun a H => BareT H a) (fun _ _ => True)) := by
  refine fn_super (N := ["self", "row", "__class__"]) (k := 6) T (nsRg cc c) rfl (GI.mono (by decide)) bI (fun vs H Q E h => ?_) (fun A stk s H vs Q E hr h => ?_) (fun _ => rfl) (fun _ => ⟨_, rfl⟩)
  · obtain ⟨x, a, dx, fs, r, rfl, _⟩ := h
    rfl
  · obtain ⟨x, a, dx, fs, r, rfl, hx, hfs, hd, ok, hne, hbt, q⟩ := h
    refine ⟨_, _, pa_cons (pv 1) pa_nil, pss_one (ps_fld (pv 0) (pe_call GL hr (by rfl) gL kL bL .nil pass0 (pa_cons (pv 1) pa_nil)) rfl), x, dx, fs, rfl, hx, ?_⟩
    refine ⟨_, rfl, x, a, dx, fs, r, rfl, hx, hfs, hd, ok, hne, trivial, fun b fs1 H1 s1 x1 l1 o1 n1 d1 eb => ?_⟩
    subst eb
    have hb1 : BareT H1 b := by
      obtain ⟨ob, ys, e1, e2⟩ := hbt
      exact ⟨ob, ys, s1 _ _ (ne_of e1 hx fun z => nomatch z) e1, e2⟩
    refine ⟨_, rfl, b, r, rfl, d1, ok, hne, hb1, fun b2 H2 s2 d2 => ⟨_, rfl, x, C, dx, fs1, rfl, s2 _ _ x1, RC.c, RC.n, by omega, ?_⟩⟩
    refine q b2 _ _ (fun c o ne z => by rw [upd_ne ne]; exact s2 _ _ (s1 _ _ ne z)) upd_same (by rw [kRow, lookup_putF, if_pos rfl]) (fun k hk => ((lookup_putF _ _ _ _).trans (if_neg hk)).trans (o1 k hk)) ?_ (dt_keep (KeepsT.at (fun _ z => ?_) (fun _ _ z => ?_)) d2) trivial
    · have := length_putF "_row" (V.ref b2) fs1
      omega
    · rw [s2 _ _ x1] at z
      cases z
    · rw [s2 _ _ x1] at z
      cases z
end
end My
set_option Elab.async false
set_option linter.all false
set_option maxRecDepth 100000
set_option maxHeartbeats 4000000
namespace My
open PySem PySem.Spec PyProof.Rows L2
theorem penL_made (c : Addr) : mergeK [] [(kCells, V.ref c), (kTurn, V.int 0), (kRest, V.int 0)] = penL c 0 0 := by
  unfold mergeK penL
  simp only [List.foldl_cons, List.foldl_nil]
  rw [putK_new (kvs := []) _ rfl, List.nil_append, putK_new _ (show valV [(kCells, V.ref c)] kTurn = none from valV_neg k12), List.singleton_append,
    putK_new _ (show valV [(kCells, V.ref c), (kTurn, V.int 0)] kRest = none from (valV_neg k13).trans (valV_neg k23))]
  rfl
theorem cut_ints (ns : List Int) (lo hi : Option Int) : ∃ ms : List Int, cutV (ns.map V.int) lo hi = ms.map V.int ∧ ms.length ≤ ns.length := by
  refine ⟨(ns.drop (HT.sIx (ns.map V.int).length 0 lo)).take (HT.sIx (ns.map V.int).length (ns.map V.int).length hi - HT.sIx (ns.map V.int).length 0 lo), ?_, ?_⟩
  · unfold cutV
    rw [List.map_take, List.map_drop]
  · rw [List.length_take, List.length_drop]
    omega
section
variable {P : Program} {w : World} {K : PySem.W.Frag} {mg : Str → Option Value} {base : Heap}
/-- a pen over a script -/
def spPen (K : PySem.W.Frag) : Sp := fun vs H Q _ => ∃ (a : Addr) (ns : List Int), vs = [.ref a] ∧ SqL K H a (ns.map V.int) ∧ ns.length ≤ 63 ∧ ∀ (p c : Addr) (H' : Hp), H p = none → Same H H' → PenAt H' p c 0 → Q (.ref p) H'
theorem ok_pen {f : Addr} {fd : FuncData} (F : Fun K "_law_pen" "_law_pen" sPen f fd) (ml : mg "list" = none) : FnOk P w K mg base CX0 1 f fd ["script"] (spPen K) := by
  refine F.ok scPen (fun vs H Q E h => ?_) (fun cdv A outer s H vs Q E hr h => ?_)
  · obtain ⟨a, ns, rfl, _⟩ := h
    rfl
  · obtain ⟨a, ns, rfl, hS, hl, q⟩ := h
    refine ⟨_, pss_one (ps_ret (pe_disp (pps_cons pe_str (pe_callTy call_list_of (by rfl) ml (by decide +kernel) (pa_cons (pe_slice sl_list (pv 0) po_none (po_some pe_int)) pa_nil))
      (pps_cons pe_str pe_int (pps_cons pe_str pe_int pps_nil))) (by rfl) (by rfl) (fun z => by cases z) (by decide))), ?_⟩
    intro p hp
    have sp := same_new (o := HO.dK []) hp
    refine ⟨_, rfl, _, rfl, a, _, rfl, sp.seq hS, fun b hb => ?_⟩
    have sb := same_new (o := HO.lst (cutV (ns.map V.int) none (some 63))) hb
    refine ⟨b, _, rfl, .inl (.inl (.inl upd_same)), fun c hc => ?_⟩
    have sc := same_new (o := HO.lst (cutV (ns.map V.int) none (some 63))) hc
    have p1 : (upd (upd (upd H p (.dK [])) b (.lst (cutV (ns.map V.int) none (some 63)))) c (.lst (cutV (ns.map V.int) none (some 63)))) p = some (.dK []) := sc _ _ (sb _ _ upd_same)
    refine ⟨p1, [(kCells, .ref c), (kTurn, .int 0), (kRest, .int 0)], rfl, ?_⟩
    obtain ⟨ms, em, lm⟩ := cut_ints ns none (some 63)
    have npc : p ≠ c := ne_of_none (sb _ _ upd_same) hc
    refine ⟨by show 3 ≤ 15; decide, q p c _ hp (fun b' o e => ?_) ⟨⟨ms, 0, 0, ?_, ?_, by omega, Int.le_refl 0, Int.le_refl 0⟩⟩⟩
    · rw [upd_ne (ne_of_none e hp)]
      exact sc _ _ (sb _ _ (sp _ _ e))
    · rw [upd_same, penL_made]
    · rw [upd_ne npc.symm, upd_same, em]
end
end My
set_option Elab.async false
set_option linter.all false
set_option maxRecDepth 100000
set_option maxHeartbeats 4000000
namespace My
open PySem PySem.Spec PyProof.Rows L2 NdefX
open PySem.W (Datum DatumOrd)
theorem many_item3 {i : Nat} {v : V} (h : ([.int 1, .int 1, .int 2, .int 3, .int 4, .int 5, .int 6, .int 9, .int 30] : List V)[i]? = some v) : ∃ many : Nat, v = .int (many : Int) ∧ 1 ≤ many ∧ many ≤ 30 := by
  have := List.mem_of_getElem? h
  simp only [List.mem_cons, List.not_mem_nil, or_false] at this
  rcases this with rfl | rfl | rfl | rfl | rfl | rfl | rfl | rfl | rfl
  · exact ⟨1, rfl, by decide, by decide⟩
  · exact ⟨1, rfl, by decide, by decide⟩
  · exact ⟨2, rfl, by decide, by decide⟩
  · exact ⟨3, rfl, by decide, by decide⟩
  · exact ⟨4, rfl, by decide, by decide⟩
  · exact ⟨5, rfl, by decide, by decide⟩
  · exact ⟨6, rfl, by decide, by decide⟩
  · exact ⟨9, rfl, by decide, by decide⟩
  · exact ⟨30, rfl, by decide, by decide⟩
section
variable {P : Program} {w : World} {K : PySem.W.Frag} {mg : Str → Option Value} {base : Heap}
/-- an own class as it is called -/
structure HasC (P : Program) (w : World) (K : PySem.W.Frag) (mg : Str → Option Value) (base : Heap) (k : Nat) (x : Str) (ps : List Str) (sp : Sp) (C f : Addr) (fd : FuncData) : Prop where
  m : Mk K C f
  o : FnOk P w K mg base CX0 k f fd ps sp
  g : mg x = some (.ref C)
  b : Binds K fd ps []
/-- a method of an own class -/
structure HasM (P : Program) (w : World) (K : PySem.W.Frag) (mg : Str → Option Value) (base : Heap) (k : Nat) (m : Str) (ps : List Str) (sp : Sp) (C f : Addr) (fd : FuncData) : Prop where
  m : Meth K C m f
  o : FnOk P w K mg base CX0 k f fd ps sp
  b : Binds K fd ps []
theorem same_made {H H1 : Hp} {x dx : Addr} {o o' : HO} (nx : H x = none) (nd : H dx = none) (s : SameP x (upd (upd H dx o) x o') H1) : Same H H1 :=
  fun b u e => s b u (ne_of_none e nx) ((upd_ne (ne_of_none e nx)).trans ((upd_ne (ne_of_none e nd)).trans e))
theorem lineR_len {r : List (Str × Int)} (ok : RowOk r) : (lineR r).length ≤ 50 := by
  have := ok.few
  unfold lineR
  split
  · show 1 ≤ 50
    decide
  · split
    · omega
    · rw [turn_len]
      omega
theorem ringR_len {r : List (Str × Int)} (ok : RowOk r) : (ringR r).length ≤ 50 := by
  have := (up_ok ok).few
  unfold ringR
  rw [List.length_append, List.length_drop, List.length_take]
  omega
def spLaw (K : PySem.W.Frag) : Sp := fun vs H Q _ => ∃ (a : Addr) (ns : List Int), vs = [.ref a] ∧ SqL K H a (ns.map V.int) ∧ ns.length ≤ 63 ∧ ∀ H', Q (.bl true) H'
theorem ok_law {f fD fP fS f1 f2 f3 f4 f5 CL CR g1 g2 m1 m2 : Addr} {fd dD dP dS d1 d2 d3 d4 d5 e1 e2 n1 n2 : FuncData} (F : Fun K "law" "law" sLaw f fd) (B : Glb mg) (T : Draws P w K mg base fD fP fS dD dP dS)
    (CN : Has P w K mg base 1 "_law_pen" ["script"] (spPen K) f1 d1) (CW : Has P w K mg base 3 "_law_wagons" ["pen", "many"] (spWag K) f2 d2) (CRw : Has P w K mg base 3 "_law_row" ["pen", "wagons"] (spRowB K) f3 d3) (CT : Has P w K mg base 1 "_law_turned" ["row"] (spTurn K) f4 d4)
    (CC : Has P w K mg base 2 "_law_couplings" ["row", "is_ring"] (spLCoup K) f5 d5) (RL : RowCls K CL) (RR : RowCls K CR) (ML : HasC P w K mg base 7 "Line" ["self", "row"] (spInit K 2 CL lineR (fun _ _ => True) (fun _ _ => True)) CL g1 e1) (MR : HasC P w K mg base 7 "Ring" ["self", "row"] (spInit K 2 CR ringR (fun a H => BareT H a) (fun _ _ => True)) CR g2 e2)
    (LL : HasM P w K mg base 3 "links" ["self"] (spLinksM K CL id) CL m1 n1) (LR : HasM P w K mg base 3 "links" ["self"] (spLinksM K CR aroundR) CR m2 n2) : FnG P w K mg base CX0 9 f fd ["script"] (spLaw K) := by
  refine okG F scLaw (fun vs H Q E h => ?_) (fun cdv A outer s H vs Q E st hr h => ?_)
  · obtain ⟨a, ns, rfl, _⟩ := h
    rfl
  · obtain ⟨a, ns, rfl, hS, hl, q⟩ := h
    have hr1 := hr.mono (show 1 ≤ 8 by decide)
    have hr2 := hr.mono (show 2 ≤ 8 by decide)
    have hr3 := hr.mono (show 3 ≤ 8 by decide)
    have sg : Still (A.deeper (envOfC "law" (defScope sLaw) s.heap.objs.size f cdv)) := st
    refine ⟨_, pss_cons (ps_set (i := 1) scLaw.nd rfl (.inl rfl) (pe_has CN hr1 (by rfl) (pa_cons (pv 0) pa_nil)))
      (pss_cons (ps_for PassesOwn.never rfl (pi_range1 (by rfl) B.range (pa_cons pe_int pa_nil)) (pg_name (i := 2) scLaw.nd rfl (.inl rfl))
        (pss_cons (ps_set (i := 3) scLaw.nd rfl (.inl rfl) (pe_has CRw hr3 (by rfl) (pa_cons (pv 1) (pa_cons (pe_has CW hr3 (by rfl) (pa_cons (pv 1) (pa_cons (pe_call T.oP hr2 (by rfl) T.gP T.kP T.bP .nil pass0 (pa_cons (pv 1)
          (pa_cons (pe_lst (pa_cons pe_int (pa_cons pe_int (pa_cons pe_int (pa_cons pe_int (pa_cons pe_int (pa_cons pe_int (pa_cons pe_int (pa_cons pe_int (pa_cons pe_int pa_nil)))))))))) pa_nil))) pa_nil))) pa_nil))))
        (pss_one (ps_for PassesOwn.never rfl (pi_tup (pe_tup (pa_cons (pv 3) (pa_cons (pe_has CT hr1 (by rfl) (pa_cons (pv 3) pa_nil)) pa_nil)))) (pg_name (i := 4) scLaw.nd rfl (.inl rfl))
          (pss_cons (ps_par (i := 5) (j := 6) (by rfl) scLaw.nd rfl rfl (by decide) rfl rfl (pa_cons (pe_make ML.m ML.o hr (by rfl) ML.g ML.b .nil pass0 (pa_cons (pv 4) pa_nil)) (pa_cons (pe_make MR.m MR.o hr (by rfl) MR.g MR.b .nil pass0 (pa_cons (pv 4) pa_nil)) pa_nil)) (by rfl))
          (pss_cons (ps_for PassesOwn.never rfl (pi_range1 (by rfl) B.range (pa_cons pe_int pa_nil)) (pg_name (i := 7) scLaw.nd rfl (.inl rfl))
            (pss_cons (ps_par (i := 8) (j := 9) (by rfl) scLaw.nd rfl rfl (by decide) rfl rfl (pa_cons (pe_meth0 (pv 5) RL.c LL.m LL.o hr3 LL.b .nil pass0) (pa_cons (pe_meth0 (pv 6) RR.c LR.m LR.o hr3 LR.b .nil pass0) pa_nil)) (by rfl))
            (pss_cons (ps_if (PW.pt (pw_or (pt_cmpR op_ne (pe_callB (call_repr sg hr.units) (by rfl) B.repr boot_repr (pa_cons (pv 8) pa_nil)) (pe_callB (call_repr sg hr.units) (by rfl) B.repr boot_repr (pa_cons (pe_has CC hr2 (by rfl) (pa_cons (pv 3) (pa_cons pe_bl pa_nil))) pa_nil)) (nomark _))
                (pw_or1 (pt_cmpR op_ne (pe_callB (call_repr sg hr.units) (by rfl) B.repr boot_repr (pa_cons (pv 9) pa_nil)) (pe_callB (call_repr sg hr.units) (by rfl) B.repr boot_repr (pa_cons (pe_has CC hr2 (by rfl) (pa_cons (pv 3) (pa_cons pe_bl pa_nil))) pa_nil)) (nomark _))))) (pss_one (ps_ret pe_bl)) pss_nil)
            (pss_cons (ps_expr (pe_bm PySem.F.plainAttrs_list PySem.F.slot_list_append PySem.F.type_list_append mt_append (pv 8) (pa_cons pe_non pa_nil)))
            (pss_one (ps_expr (pe_bm0 PySem.F.plainAttrs_list PySem.F.slot_list_clear PySem.F.type_list_clear mt_clear (pv 9))))))))
          (pss_one (ps_if (PW.pt (pw_or (pt_cmpR op_ne (pe_callB call_len (by rfl) B.len PySem.boot_len (pa_cons (pe_meth0 (pv 5) RL.c LL.m LL.o hr3 LL.b .nil pass0) pa_nil)) (pe_op op_sub (pe_callB call_len (by rfl) B.len PySem.boot_len (pa_cons (pv 3) pa_nil)) pe_int) (nomark _))
              (pw_or1 (pt_cmpR op_ne (pe_callB call_len (by rfl) B.len PySem.boot_len (pa_cons (pe_meth0 (pv 6) RR.c LR.m LR.o hr3 LR.b .nil pass0) pa_nil)) (pe_callB call_len (by rfl) B.len PySem.boot_len (pa_cons (pv 3) pa_nil)) (nomark _))))) (pss_one (ps_ret pe_bl)) pss_nil))))))))
      (pss_one (ps_ret pe_bl))), ?_⟩
    refine ⟨_, rfl, a, ns, rfl, hS, hl, fun p c H0 hp0 s0 G0 => ?_⟩
    refine ⟨10, rfl, by omega, by omega, ?_⟩
    refine for_range (lo := 0) (n := (10 : Int).toNat) (fun i σ H' => ∃ y2 y3 y4 y5 y6 y7 y8 y9, σ = [some (.ref a), some (.ref p), y2, y3, y4, y5, y6, y7, y8, y9] ∧ PenAt H' p c (300 * i)) ⟨_, _, _, _, _, _, _, _, rfl, G0⟩ (fun i σ H hi hp => ?_) (fun σ H hp => ?_)
    · obtain ⟨y2, y3, y4, y5, y6, y7, y8, y9, rfl, G⟩ := hp
      have hi10 : i < 10 := by omega
      refine ⟨_, rfl, _, rfl, _, rfl, by show 9 ≤ sizeLine; decide, fun o1 ho1 => ?_⟩
      have so := same_new (o := HO.lst [.int 1, .int 1, .int 2, .int 3, .int 4, .int 5, .int 6, .int 9, .int 30]) ho1
      refine ⟨p, c, _, .ref o1, [.int 1, .int 1, .int 2, .int 3, .int 4, .int 5, .int 6, .int 9, .int 30], rfl, G.same so, by omega, .lst (.inl (.inl upd_same)), by decide, by decide, fun j v H1 hv s1 G1 => ?_⟩
      obtain ⟨many, rfl, m1', m30⟩ := many_item3 hv
      refine ⟨p, c, _, many, rfl, G1, by omega, by omega, fun l names H2 nm ln hl0 el s2 G2 => ?_⟩
      refine ⟨p, c, l, _, names, rfl, G2, by omega, .inl (.inl el), by omega, fun b r H3 er dr hb0 R3 B3 s3 G3 => ?_⟩
      have lr : r.length = many := by
        have := congrArg List.length er
        rw [List.length_map, ln] at this
        exact this
      have ok : RowOk r := ⟨fun x hx => nm.ok _ (er ▸ List.mem_map_of_mem hx), dr, by rw [er]; exact nm.nd, by omega⟩
      have hne : r ≠ [] := fun z => by rw [z, List.length_nil] at lr; omega
      -- for some in (row, _law_turned(row))
      refine ⟨_, rfl, _, rfl, b, r, rfl, R3, ok, fun bt H4 s4 Rt Bt => ?_⟩
      refine ⟨by show 2 ≤ sizeLine; decide, fun t ht => ?_⟩
      have s5 := same_new (o := HO.tup [.ref b, .ref bt]) ht
      have t5 : SqT K (upd H4 t (.tup [.ref b, .ref bt])) t [.ref b, .ref bt] := .inl (.inl upd_same)
      have G5 := (G3.same s4).same s5
      have R5 := dt_keep (s4.trans s5).keepsT R3
      have B5 := B3.keep (s4.trans s5)
      have Rt5 := dt_keep s5.keepsT Rt
      have Bt5 := Bt.keep s5
      generalize upd H4 t (.tup [.ref b, .ref bt]) = H5 at s5 t5 G5 R5 B5 Rt5 Bt5
      refine ⟨t, rfl, ⟨_, t5⟩, ?_⟩
      refine for_tup (K := K) (a := t) (xs := [.ref b, .ref bt]) (fun k σ Hn => ∃ y4 y5 y6 y7 y8 y9, σ = [some (.ref a), some (.ref p), some (.int (0 + (i : Int))), some (.ref b), y4, y5, y6, y7, y8, y9] ∧ Same H5 Hn) ⟨_, _, _, _, _, _, rfl, .refl _⟩ (fun k σ Hn _ hp => ?_) (fun k x σ Hn hx hp => ?_) (fun σ Hn hp => ?_)
      · obtain ⟨_, _, _, _, _, _, _, sm⟩ := hp
        exact sm.keepsT _ _ t5
      · obtain ⟨y4, y5, y6, y7, y8, y9, rfl, sm⟩ := hp
        obtain ⟨bx, rx, rfl, Rx, Bx, hrx⟩ : ∃ bx rx, x = .ref bx ∧ Dt K Hn (.ref bx) (rowD rx) ∧ BareT Hn bx ∧ (rx = r ∨ rx = turnR r) := by
          match k, hx with
          | 0, hx => cases hx; exact ⟨b, r, rfl, dt_keep sm.keepsT R5, B5.keep sm, .inl rfl⟩
          | 1, hx => cases hx; exact ⟨bt, turnR r, rfl, dt_keep sm.keepsT Rt5, Bt5.keep sm, .inr rfl⟩
        have okx : RowOk rx := by
          rcases hrx with rfl | rfl
          · exact ok
          · exact turn_ok ok
        have nex : rx ≠ [] := fun z => by
          rcases hrx with e | e
          · exact hne (e.symm.trans z)
          · have := congrArg List.length (e.symm.trans z)
            rw [turn_len, List.length_nil] at this
            omega
        have eLine : linksR (lineR rx) = sortO (lawU r false) := by
          rw [lawU_line ok.dir]
          refine sortO_perm anti_coup ?_
          rcases hrx with rfl | rfl
          · exact line_links ok
          · exact line_turn ok
        have eRing : linksR (aroundR (ringR rx)) = sortO (lawU r true) := by
          rw [lawU_ring ok.dir hne]
          refine sortO_perm anti_coup ?_
          rcases hrx with rfl | rfl
          · exact ring_links ok
          · exact ring_turn ok
        have lLine : (lineR rx).length ≤ 50 := lineR_len okx
        have lRing : (ringR rx).length ≤ 50 := ringR_len okx
        -- line, ring = Line(some), Ring(some)
        refine ⟨_, rfl, fun x1 dx1 hx1 hdx1 ne1 => ⟨x1, bx, dx1, [], rx, rfl, upd_same, by decide, dt_keep (same_made hx1 hdx1 (.refl _ _)).keepsT Rx, okx, nex, trivial, fun b1 fs1 H6 s6 e6 l6 o6 n6 d6 _ => ⟨rfl, ?_⟩⟩⟩
        have S6 := same_made hx1 hdx1 s6
        refine ⟨_, rfl, fun x2 dx2 hx2 hdx2 ne2 => ⟨x2, bx, dx2, [], rx, rfl, upd_same, by decide, dt_keep (same_made hx2 hdx2 (.refl _ _)).keepsT (dt_keep S6.keepsT Rx), okx, nex, (Bx.keep S6).keep (same_made hx2 hdx2 (.refl _ _)), fun b2 fs2 H7 s7 e7 l7 o7 n7 d7 _ => ⟨rfl, ?_⟩⟩⟩
        have S7 := same_made hx2 hdx2 s7
        refine ⟨_, _, rfl, ?_⟩
        have e6 := S7 _ _ e6
        have d6 := dt_keep S7.keepsT d6
        have SA := (sm.trans S6).trans S7
        have k1 : fs1.lookup ("links" : Str) = none := (o6 _ (by decide)).trans rfl
        have k2 : fs2.lookup ("links" : Str) = none := (o7 _ (by decide)).trans rfl
        have R7 := dt_keep SA.keepsT R5
        have lr100 : r.length ≤ 100 := by omega
        refine ⟨2, rfl, by omega, by omega, ?_⟩
        refine for_range (lo := 0) (n := (2 : Int).toNat) (fun j σ H' => ∃ y7 y8 y9, σ = [some (.ref a), some (.ref p), some (.int (0 + (i : Int))), some (.ref b), some (.ref bx), some (.ref x1), some (.ref x2), y7, y8, y9] ∧ Same H7 H') ⟨_, _, _, rfl, .refl _⟩ (fun j σ H8 hj hp => ?_) (fun σ H8 hp => ?_)
        · obtain ⟨y7, y8, y9, rfl, S8⟩ := hp
          refine ⟨_, rfl, x1, dx1, fs1, rfl, S8 _ _ e6, k1, x1, b1, dx1, fs1, lineR rx, rfl, S8 _ _ e6, l6, dt_keep S8.keepsT d6, lLine, fun l1 w1 H9 hl1 el1 da1 S9 => ?_⟩
          have S89 := S8.trans S9
          refine ⟨_, rfl, x2, dx2, fs2, rfl, S89 _ _ e7, k2, x2, b2, dx2, fs2, ringR rx, rfl, S89 _ _ e7, l7, dt_keep S89.keepsT d7, lRing, fun l2 w2 H10 hl2 el2 da2 S10 => ?_⟩
          refine ⟨_, _, rfl, ?_⟩
          rw [id_eq, eLine] at da1
          rw [eRing] at da2
          have S810 := S89.trans S10
          have ne12 : l2 ≠ l1 := fun z => by
            rw [z] at hl2
            rw [hl2] at el1
            cases el1
          have el1 := S10 _ _ el1
          have da1 := dt_keepAll S10.keepsT da1
          have LL1 := law_lim ok hne false
          have LL2 := law_lim ok hne true
          have D1 : Dp K H10 (.ref l1) (.list ((sortO (lawU r false)).map Datum.toD)) := .lst (.inl (.inl el1)) (dt_dpAll da1)
          refine ⟨_, rfl, _, _, rfl, D1, LL1.shows (by decide), Nat.le_trans LL1.dp (by decide), LL1.short (by decide) (by decide), ?_⟩
          refine ⟨_, rfl, b, r, false, rfl, dt_keep S810.keepsT R7, hne, lr100, fun l3 w3 H11 hl3 el3 da3 S11 => ?_⟩
          have D3 : Dp K H11 (.ref l3) (.list ((sortO (lawU r false)).map Datum.toD)) := .lst (.inl (.inl el3)) (dt_dpAll da3)
          refine ⟨_, _, rfl, D3, LL1.shows (by decide), Nat.le_trans LL1.dp (by decide), LL1.short (by decide) (by decide), rfl, _, rfl, ?_⟩
          rw [decide_eq_true rfl]
          have el2 := S11 _ _ el2
          have da2 := dt_keepAll S11.keepsT da2
          have D2 : Dp K H11 (.ref l2) (.list ((sortO (lawU r true)).map Datum.toD)) := .lst (.inl (.inl el2)) (dt_dpAll da2)
          refine iteF ⟨_, rfl, _, _, rfl, D2, LL2.shows (by decide), Nat.le_trans LL2.dp (by decide), LL2.short (by decide) (by decide), ?_⟩
          refine ⟨_, rfl, b, r, true, rfl, dt_keep (S810.trans S11).keepsT R7, hne, lr100, fun l4 w4 H12 hl4 el4 da4 S12 => ?_⟩
          have D4 : Dp K H12 (.ref l4) (.list ((sortO (lawU r true)).map Datum.toD)) := .lst (.inl (.inl el4)) (dt_dpAll da4)
          refine ⟨_, _, rfl, D4, LL2.shows (by decide), Nat.le_trans LL2.dp (by decide), LL2.short (by decide) (by decide), rfl, _, rfl, ?_⟩
          rw [decide_eq_true rfl]
          refine iteF ?_
          have f1 := (S11.trans S12) _ _ el1
          have f2 := S12 _ _ el2
          refine ⟨_, rfl, .inl ⟨rfl, _, .inl (.inl f1)⟩, l1, w1, V.non, rfl, rfl, f1, ?_, ?_⟩
          · have q1 := da1.length
            rw [List.length_map, sortO_len, lawU_len] at q1
            have : lawN r false ≤ r.length := Nat.sub_le _ _
            exact Evl.sz_lt (by omega)
          · refine ⟨_, rfl, .inl ⟨rfl, _, .inl (.inl ((upd_ne ne12).trans f2))⟩, l2, w2, rfl, rfl, (upd_ne ne12).trans f2, ?_⟩
            have n1 : H7 l1 = none := S8.free hl1
            have n2 : H7 l2 = none := S89.free hl2
            refine ⟨_, _, _, rfl, fun u o hu => ?_⟩
            rw [upd_ne (ne_of_none hu n2), upd_ne (ne_of_none hu n1)]
            exact S12 _ _ (S11 _ _ (S810 _ _ hu))
        · obtain ⟨y7, y8, y9, rfl, S8⟩ := hp
          refine ⟨_, rfl, x1, dx1, fs1, rfl, S8 _ _ e6, k1, x1, b1, dx1, fs1, lineR rx, rfl, S8 _ _ e6, l6, dt_keep S8.keepsT d6, lLine, fun l1 w1 H9 hl1 el1 da1 S9 => ?_⟩
          have S89 := S8.trans S9
          obtain ⟨xs, hs, hlx, _⟩ := row_at (dt_keep S89.keepsT R7)
          rw [id_eq, eLine] at da1
          have q1 := da1.length
          rw [List.length_map, sortO_len, lawU_len] at q1
          refine ⟨_, w1.length, rfl, .inl ⟨_, .inl (.inl el1), rfl⟩, _, rfl, _, xs.length, rfl, .inr ⟨_, hs, rfl⟩, _, _, rfl, rfl, rfl, _, rfl, ?_⟩
          have n1 : (w1.length : Int) = (xs.length : Int) - 1 := by
            have : lawN r false = r.length - 1 := rfl
            omega
          rw [decide_eq_true (congrArg V.int n1)]
          refine iteF ⟨_, rfl, x2, dx2, fs2, rfl, S89 _ _ e7, k2, x2, b2, dx2, fs2, ringR rx, rfl, S89 _ _ e7, l7, dt_keep S89.keepsT d7, lRing, fun l2 w2 H10 hl2 el2 da2 S10 => ?_⟩
          rw [eRing] at da2
          have q2 := da2.length
          rw [List.length_map, sortO_len, lawU_len] at q2
          have hs2 := S10.keepsT _ _ hs
          refine ⟨_, w2.length, rfl, .inl ⟨_, .inl (.inl el2), rfl⟩, _, rfl, _, xs.length, rfl, .inr ⟨_, hs2, rfl⟩, rfl, _, rfl, ?_⟩
          have n2 : (w2.length : Int) = (xs.length : Int) := by
            have : lawN r true = r.length - 0 := rfl
            omega
          rw [decide_eq_true (congrArg V.int n2)]
          refine iteF ⟨_, _, _, _, _, _, rfl, ?_⟩
          exact (SA.trans S89).trans S10
      · obtain ⟨_, _, _, _, _, _, rfl, sm⟩ := hp
        exact ⟨_, _, _, _, _, _, _, _, rfl, (G5.same sm).mono (by omega)⟩
    · obtain ⟨y2, y3, y4, y5, y6, y7, y8, y9, rfl, G⟩ := hp
      exact q H
end
end My
set_option Elab.async false
set_option linter.all false
set_option maxRecDepth 100000
set_option maxHeartbeats 4000000
namespace My
open PySem PySem.Spec PyProof.Rows L2 NdefX
/-! ### what the top has written -/
theorem all_mk {l : PySem.W.OpenLaw} {w : World} {K : PySem.W.Frag} {h : Heap} {mg : Str → Option Value} {fa f1 f2 f3 f4 f5 f6 f7 f8 f9 f10 f11 f12 f13 f14 f15 f16 f17 f18 f19 f20 f21 f22 f23 f24 CL fiL coL ccL fmLlinks CR fiR coR ccR fmRlinks fiT : Addr} {tfL tfR t1 t2 t3 : Tok} (X : K.In h) (G : h.Ns mainGlobals mg) (hfa : mg "law" = some (.ref fa))
    {od1 an1 od2 an2 od3 an3 od4 an4 od5 an5 od6 an6 od7 an7 od8 an8 od9 an9 od10 an10 od11 an11 od12 an12 od13 an13 od14 an14 od15 an15 od16 an16 od17 an17 od18 an18 od19 an19 od20 an20 od21 an21 od22 an22 od23 an23 od24 an24 odiL aniL rdL celL odmLlinks anmLlinks odiR aniR rdR celR odmRlinks anmRlinks odiT aniT : Option Addr} {sl1 sl2 sl3 sl4 sl5 sl6 sl7 sl8 sl9 sl10 sl11 sl12 sl13 sl14 sl15 sl16 sl17 sl18 sl19 sl20 sl21 sl22 sl23 sl24 sliL rsL cesL slmLlinks sliR rsR cesR slmRlinks sliT : Array (Option Value)} {oc1 kV1 dc1 pm1 cd1 ct1 oc2 kV2 dc2 pm2 cd2 ct2 oc3 kV3 dc3 pm3 cd3 ct3 oc4 kV4 dc4 pm4 cd4 ct4 oc5 kV5 dc5 pm5 cd5 ct5 oc6 kV6 dc6 pm6 cd6 ct6 oc7 kV7 dc7 pm7 cd7 ct7 oc8 kV8 dc8 pm8 cd8 ct8 oc9 kV9 dc9 pm9 cd9 ct9 oc10 kV10 dc10 pm10 cd10 ct10 oc11 kV11 dc11 pm11 cd11 ct11 oc12 kV12 dc12 pm12 cd12 ct12 oc13 kV13 dc13 pm13 cd13 ct13 oc14 kV14 dc14 pm14 cd14 ct14 oc15 kV15 dc15 pm15 cd15 ct15 oc16 kV16 dc16 pm16 cd16 ct16 oc17 kV17 dc17 pm17 cd17 ct17 oc18 kV18 dc18 pm18 cd18 ct18 oc19 kV19 dc19 pm19 cd19 ct19 oc20 kV20 dc20 pm20 cd20 ct20 oc21 kV21 dc21 pm21 cd21 ct21 oc22 kV22 dc22 pm22 cd22 ct22 oc23 kV23 dc23 pm23 cd23 ct23 oc24 kV24 dc24 pm24 cd24 ct24 ociL kViL dciL pmiL ctiL rcL ceL ocmLlinks kVmLlinks dcmLlinks pmmLlinks cdmLlinks ctmLlinks ociR kViR dciR pmiR ctiR rcR ceR ocmRlinks kVmRlinks dcmRlinks pmmRlinks cdmRlinks ctmRlinks ociT kViT dciT pmiT cdiT ctiT : Value} {rvL rvR : Array Value} {fileL fileR : Str} {kdL kdR : ClassData}
    (a1 : PySem.W.nsIn K mainGlobals "is_integer" = some (some (.ref f1)))
    (l1 : K.lookup f1 = some ⟨oc1, od1, .func (PySem.W.fnOf "is_integer" "is_integer" (defArgs sIsInt) (defBody sIsInt) (defScope sIsInt) .none kV1 dc1 pm1 an1 cd1 ct1), sl1⟩)
    (c1 : PySem.W.codeIn K cd1 "is_integer" = true)
    (k1 : PySem.W.keepIn K (.ref f1) = true)
    (a2 : PySem.W.nsIn K mainGlobals "is_name" = some (some (.ref f2)))
    (l2 : K.lookup f2 = some ⟨oc2, od2, .func (PySem.W.fnOf "is_name" "is_name" (defArgs sIsName) (defBody sIsName) (defScope sIsName) .none kV2 dc2 pm2 an2 cd2 ct2), sl2⟩)
    (c2 : PySem.W.codeIn K cd2 "is_name" = true)
    (k2 : PySem.W.keepIn K (.ref f2) = true)
    (a3 : PySem.W.nsIn K mainGlobals "is_name_with" = some (some (.ref f3)))
    (l3 : K.lookup f3 = some ⟨oc3, od3, .func (PySem.W.fnOf "is_name_with" "is_name_with" (defArgs sIsWith) (defBody sIsWith) (defScope sIsWith) .none kV3 dc3 pm3 an3 cd3 ct3), sl3⟩)
    (c3 : PySem.W.codeIn K cd3 "is_name_with" = true)
    (k3 : PySem.W.keepIn K (.ref f3) = true)
    (a4 : PySem.W.nsIn K mainGlobals "is_directed" = some (some (.ref f4)))
    (l4 : K.lookup f4 = some ⟨oc4, od4, .func (PySem.W.fnOf "is_directed" "is_directed" (defArgs sIsDir) (defBody sIsDir) (defScope sIsDir) .none kV4 dc4 pm4 an4 cd4 ct4), sl4⟩)
    (c4 : PySem.W.codeIn K cd4 "is_directed" = true)
    (k4 : PySem.W.keepIn K (.ref f4) = true)
    (a5 : PySem.W.nsIn K mainGlobals "is_row" = some (some (.ref f5)))
    (l5 : K.lookup f5 = some ⟨oc5, od5, .func (PySem.W.fnOf "is_row" "is_row" (defArgs sIsRow) (defBody sIsRow) (defScope sIsRow) .none kV5 dc5 pm5 an5 cd5 ct5), sl5⟩)
    (c5 : PySem.W.codeIn K cd5 "is_row" = true)
    (k5 : PySem.W.keepIn K (.ref f5) = true)
    (a6 : PySem.W.nsIn K mainGlobals "check_filled_row" = some (some (.ref f6)))
    (l6 : K.lookup f6 = some ⟨oc6, od6, .func (PySem.W.fnOf "check_filled_row" "check_filled_row" (defArgs sChkF) (defBody sChkF) (defScope sChkF) .none kV6 dc6 pm6 an6 cd6 ct6), sl6⟩)
    (c6 : PySem.W.codeIn K cd6 "check_filled_row" = true)
    (k6 : PySem.W.keepIn K (.ref f6) = true)
    (a7 : PySem.W.nsIn K mainGlobals "turned" = some (some (.ref f7)))
    (l7 : K.lookup f7 = some ⟨oc7, od7, .func (PySem.W.fnOf "turned" "turned" (defArgs sTurn) (defBody sTurn) (defScope sTurn) .none kV7 dc7 pm7 an7 cd7 ct7), sl7⟩)
    (c7 : PySem.W.codeIn K cd7 "turned" = true)
    (k7 : PySem.W.keepIn K (.ref f7) = true)
    (a8 : PySem.W.nsIn K mainGlobals "names_of" = some (some (.ref f8)))
    (l8 : K.lookup f8 = some ⟨oc8, od8, .func (PySem.W.fnOf "names_of" "names_of" (defArgs sNames) (defBody sNames) (defScope sNames) .none kV8 dc8 pm8 an8 cd8 ct8), sl8⟩)
    (c8 : PySem.W.codeIn K cd8 "names_of" = true)
    (k8 : PySem.W.keepIn K (.ref f8) = true)
    (a9 : PySem.W.nsIn K mainGlobals "entry_of" = some (some (.ref f9)))
    (l9 : K.lookup f9 = some ⟨oc9, od9, .func (PySem.W.fnOf "entry_of" "entry_of" (defArgs sEntry) (defBody sEntry) (defScope sEntry) .none kV9 dc9 pm9 an9 cd9 ct9), sl9⟩)
    (c9 : PySem.W.codeIn K cd9 "entry_of" = true)
    (k9 : PySem.W.keepIn K (.ref f9) = true)
    (a10 : PySem.W.nsIn K mainGlobals "opposite" = some (some (.ref f10)))
    (l10 : K.lookup f10 = some ⟨oc10, od10, .func (PySem.W.fnOf "opposite" "opposite" (defArgs sOpp) (defBody sOpp) (defScope sOpp) .none kV10 dc10 pm10 an10 cd10 ct10), sl10⟩)
    (c10 : PySem.W.codeIn K cd10 "opposite" = true)
    (k10 : PySem.W.keepIn K (.ref f10) = true)
    (a11 : PySem.W.nsIn K mainGlobals "coupling_of" = some (some (.ref f11)))
    (l11 : K.lookup f11 = some ⟨oc11, od11, .func (PySem.W.fnOf "coupling_of" "coupling_of" (defArgs sCoup) (defBody sCoup) (defScope sCoup) .none kV11 dc11 pm11 an11 cd11 ct11), sl11⟩)
    (c11 : PySem.W.codeIn K cd11 "coupling_of" = true)
    (k11 : PySem.W.keepIn K (.ref f11) = true)
    (a12 : PySem.W.nsIn K mainGlobals "row_links" = some (some (.ref f12)))
    (l12 : K.lookup f12 = some ⟨oc12, od12, .func (PySem.W.fnOf "row_links" "row_links" (defArgs sLinks) (defBody sLinks) (defScope sLinks) .none kV12 dc12 pm12 an12 cd12 ct12), sl12⟩)
    (c12 : PySem.W.codeIn K cd12 "row_links" = true)
    (k12 : PySem.W.keepIn K (.ref f12) = true)
    (a13 : PySem.W.nsIn K mainGlobals "line_form" = some (some (.ref f13)))
    (l13 : K.lookup f13 = some ⟨oc13, od13, .func (PySem.W.fnOf "line_form" "line_form" (defArgs sLineF) (defBody sLineF) (defScope sLineF) .none kV13 dc13 pm13 an13 cd13 ct13), sl13⟩)
    (c13 : PySem.W.codeIn K cd13 "line_form" = true)
    (k13 : PySem.W.keepIn K (.ref f13) = true)
    (a14 : PySem.W.nsIn K mainGlobals "ring_form" = some (some (.ref f14)))
    (l14 : K.lookup f14 = some ⟨oc14, od14, .func (PySem.W.fnOf "ring_form" "ring_form" (defArgs sRingF) (defBody sRingF) (defScope sRingF) .none kV14 dc14 pm14 an14 cd14 ct14), sl14⟩)
    (c14 : PySem.W.codeIn K cd14 "ring_form" = true)
    (k14 : PySem.W.keepIn K (.ref f14) = true)
    (a15 : PySem.W.nsIn K mainGlobals "_law_pen" = some (some (.ref f15)))
    (l15 : K.lookup f15 = some ⟨oc15, od15, .func (PySem.W.fnOf "_law_pen" "_law_pen" (defArgs sPen) (defBody sPen) (defScope sPen) .none kV15 dc15 pm15 an15 cd15 ct15), sl15⟩)
    (c15 : PySem.W.codeIn K cd15 "_law_pen" = true)
    (k15 : PySem.W.keepIn K (.ref f15) = true)
    (a16 : PySem.W.nsIn K mainGlobals "_law_draw" = some (some (.ref f16)))
    (l16 : K.lookup f16 = some ⟨oc16, od16, .func (PySem.W.fnOf "_law_draw" "_law_draw" (defArgs sDraw) (defBody sDraw) (defScope sDraw) .none kV16 dc16 pm16 an16 cd16 ct16), sl16⟩)
    (c16 : PySem.W.codeIn K cd16 "_law_draw" = true)
    (k16 : PySem.W.keepIn K (.ref f16) = true)
    (a17 : PySem.W.nsIn K mainGlobals "_law_pick" = some (some (.ref f17)))
    (l17 : K.lookup f17 = some ⟨oc17, od17, .func (PySem.W.fnOf "_law_pick" "_law_pick" (defArgs sPick) (defBody sPick) (defScope sPick) .none kV17 dc17 pm17 an17 cd17 ct17), sl17⟩)
    (c17 : PySem.W.codeIn K cd17 "_law_pick" = true)
    (k17 : PySem.W.keepIn K (.ref f17) = true)
    (a18 : PySem.W.nsIn K mainGlobals "_law_shuffled" = some (some (.ref f18)))
    (l18 : K.lookup f18 = some ⟨oc18, od18, .func (PySem.W.fnOf "_law_shuffled" "_law_shuffled" (defArgs sShuf) (defBody sShuf) (defScope sShuf) .none kV18 dc18 pm18 an18 cd18 ct18), sl18⟩)
    (c18 : PySem.W.codeIn K cd18 "_law_shuffled" = true)
    (k18 : PySem.W.keepIn K (.ref f18) = true)
    (a19 : PySem.W.nsIn K mainGlobals "_law_wagons" = some (some (.ref f19)))
    (l19 : K.lookup f19 = some ⟨oc19, od19, .func (PySem.W.fnOf "_law_wagons" "_law_wagons" (defArgs sWag) (defBody sWag) (defScope sWag) .none kV19 dc19 pm19 an19 cd19 ct19), sl19⟩)
    (c19 : PySem.W.codeIn K cd19 "_law_wagons" = true)
    (k19 : PySem.W.keepIn K (.ref f19) = true)
    (a20 : PySem.W.nsIn K mainGlobals "_law_row" = some (some (.ref f20)))
    (l20 : K.lookup f20 = some ⟨oc20, od20, .func (PySem.W.fnOf "_law_row" "_law_row" (defArgs sRow) (defBody sRow) (defScope sRow) .none kV20 dc20 pm20 an20 cd20 ct20), sl20⟩)
    (c20 : PySem.W.codeIn K cd20 "_law_row" = true)
    (k20 : PySem.W.keepIn K (.ref f20) = true)
    (a21 : PySem.W.nsIn K mainGlobals "_law_ends" = some (some (.ref f21)))
    (l21 : K.lookup f21 = some ⟨oc21, od21, .func (PySem.W.fnOf "_law_ends" "_law_ends" (defArgs sLEnds) (defBody sLEnds) (defScope sLEnds) .none kV21 dc21 pm21 an21 cd21 ct21), sl21⟩)
    (c21 : PySem.W.codeIn K cd21 "_law_ends" = true)
    (k21 : PySem.W.keepIn K (.ref f21) = true)
    (a22 : PySem.W.nsIn K mainGlobals "_law_turned" = some (some (.ref f22)))
    (l22 : K.lookup f22 = some ⟨oc22, od22, .func (PySem.W.fnOf "_law_turned" "_law_turned" (defArgs sLTurn) (defBody sLTurn) (defScope sLTurn) .none kV22 dc22 pm22 an22 cd22 ct22), sl22⟩)
    (c22 : PySem.W.codeIn K cd22 "_law_turned" = true)
    (k22 : PySem.W.keepIn K (.ref f22) = true)
    (a23 : PySem.W.nsIn K mainGlobals "_law_couplings" = some (some (.ref f23)))
    (l23 : K.lookup f23 = some ⟨oc23, od23, .func (PySem.W.fnOf "_law_couplings" "_law_couplings" (defArgs sLCoup) (defBody sLCoup) (defScope sLCoup) .none kV23 dc23 pm23 an23 cd23 ct23), sl23⟩)
    (c23 : PySem.W.codeIn K cd23 "_law_couplings" = true)
    (k23 : PySem.W.keepIn K (.ref f23) = true)
    (a24 : PySem.W.nsIn K mainGlobals "law" = some (some (.ref f24)))
    (l24 : K.lookup f24 = some ⟨oc24, od24, .func (PySem.W.fnOf "law" "law" (defArgs sLaw) (defBody sLaw) (defScope sLaw) .none kV24 dc24 pm24 an24 cd24 ct24), sl24⟩)
    (c24 : PySem.W.codeIn K cd24 "law" = true)
    (k24 : PySem.W.keepIn K (.ref f24) = true)
    (caL : PySem.W.nsIn K mainGlobals "Line" = some (some (.ref CL)))
    (pgL : PySem.W.plainGet K CL Str.empty = true)
    (hdL : PySem.W.hasDictIn K CL = true)
    (poL : PySem.W.plainOver K CL = true)
    (saL : PySem.W.findIn K (.ref CL) "__setattr__" = some (some (.builtin "object.__setattr__")))
    (noL0 : PySem.W.findIn K (.ref CL) "_row" = some none)
    (mkL : PySem.W.makesIn K CL = true)
    (inL : PySem.W.findIn K (.ref CL) "__init__" = some (some (.ref fiL)))
    (fnL : PySem.W.isFn K (.ref fiL) = true)
    (kpL : PySem.W.keepIn K (.ref CL) = true)
    (liL : K.lookup fiL = some ⟨ociL, odiL, .func (PySem.W.fnX "__init__" "Line.__init__" (defArgs sLnInit) (defBody sLnInit) (defScope sLnInit) [(("__class__" : Str), ccL)] .none kViL dciL pmiL aniL (.ref coL) ctiL), sliL⟩)
    (ciL : PySem.W.codeIn K (.ref coL) "Line.__init__" = true)
    (r1L : K.lookup coL = some ⟨rcL, rdL, .fields rvL, rsL⟩)
    (r2L : rvL[2]? = some (.str fileL tfL))
    (r3L : ((l.prog.main.file : Str) == fileL) = true)
    (e1L : K.lookup ccL = some ⟨ceL, celL, .cell (some (.ref CL)), cesL⟩)
    (kcL : PySem.W.clsIn K CL = some kdL)
    (mrL : PySem.W.mroIn K CL (.ref CL) = some true)
    (nxL : PySem.W.ks_superIn K CL CL "__init__" = some (some (.ref fiT)))
    (tf_L : PySem.W.fnIn K fiT = true)
    (tyL : PySem.W.typeIn K (.ref fiT) = some (.type "function"))
    (maLlinks : PySem.W.findIn K (.ref CL) "links" = some (some (.ref fmLlinks)))
    (mfLlinks : PySem.W.isFn K (.ref fmLlinks) = true)
    (lmLlinks : K.lookup fmLlinks = some ⟨ocmLlinks, odmLlinks, .func (PySem.W.fnOf "links" "Line.links" (defArgs sLnLinks) (defBody sLnLinks) (defScope sLnLinks) .none kVmLlinks dcmLlinks pmmLlinks anmLlinks cdmLlinks ctmLlinks), slmLlinks⟩)
    (cmLlinks : PySem.W.codeIn K cdmLlinks "Line.links" = true)
    (kmLlinks : PySem.W.keepIn K (.ref fmLlinks) = true)
    (caR : PySem.W.nsIn K mainGlobals "Ring" = some (some (.ref CR)))
    (pgR : PySem.W.plainGet K CR Str.empty = true)
    (hdR : PySem.W.hasDictIn K CR = true)
    (poR : PySem.W.plainOver K CR = true)
    (saR : PySem.W.findIn K (.ref CR) "__setattr__" = some (some (.builtin "object.__setattr__")))
    (noR0 : PySem.W.findIn K (.ref CR) "_row" = some none)
    (mkR : PySem.W.makesIn K CR = true)
    (inR : PySem.W.findIn K (.ref CR) "__init__" = some (some (.ref fiR)))
    (fnR : PySem.W.isFn K (.ref fiR) = true)
    (kpR : PySem.W.keepIn K (.ref CR) = true)
    (liR : K.lookup fiR = some ⟨ociR, odiR, .func (PySem.W.fnX "__init__" "Ring.__init__" (defArgs sRgInit) (defBody sRgInit) (defScope sRgInit) [(("__class__" : Str), ccR)] .none kViR dciR pmiR aniR (.ref coR) ctiR), sliR⟩)
    (ciR : PySem.W.codeIn K (.ref coR) "Ring.__init__" = true)
    (r1R : K.lookup coR = some ⟨rcR, rdR, .fields rvR, rsR⟩)
    (r2R : rvR[2]? = some (.str fileR tfR))
    (r3R : ((l.prog.main.file : Str) == fileR) = true)
    (e1R : K.lookup ccR = some ⟨ceR, celR, .cell (some (.ref CR)), cesR⟩)
    (kcR : PySem.W.clsIn K CR = some kdR)
    (mrR : PySem.W.mroIn K CR (.ref CR) = some true)
    (nxR : PySem.W.ks_superIn K CR CR "__init__" = some (some (.ref fiT)))
    (tf_R : PySem.W.fnIn K fiT = true)
    (tyR : PySem.W.typeIn K (.ref fiT) = some (.type "function"))
    (maRlinks : PySem.W.findIn K (.ref CR) "links" = some (some (.ref fmRlinks)))
    (mfRlinks : PySem.W.isFn K (.ref fmRlinks) = true)
    (lmRlinks : K.lookup fmRlinks = some ⟨ocmRlinks, odmRlinks, .func (PySem.W.fnOf "links" "Ring.links" (defArgs sRgLinks) (defBody sRgLinks) (defScope sRgLinks) .none kVmRlinks dcmRlinks pmmRlinks anmRlinks cdmRlinks ctmRlinks), slmRlinks⟩)
    (cmRlinks : PySem.W.codeIn K cdmRlinks "Ring.links" = true)
    (kmRlinks : PySem.W.keepIn K (.ref fmRlinks) = true)
    (liT : K.lookup fiT = some ⟨ociT, odiT, .func (PySem.W.fnOf "__init__" "Train.__init__" (defArgs sTrInit) (defBody sTrInit) (defScope sTrInit) .none kViT dciT pmiT aniT cdiT ctiT), sliT⟩)
    (ciT : PySem.W.codeIn K cdiT "Train.__init__" = true)
    (kiT : PySem.W.keepIn K (.ref fiT) = true)
    (zisinstance : PySem.W.nsIn K mainGlobals "isinstance" = some none)
    (zint : PySem.W.nsIn K mainGlobals "int" = some none)
    (zbool : PySem.W.nsIn K mainGlobals "bool" = some none)
    (zstr : PySem.W.nsIn K mainGlobals "str" = some none)
    (ztuple : PySem.W.nsIn K mainGlobals "tuple" = some none)
    (zlist : PySem.W.nsIn K mainGlobals "list" = some none)
    (zlen : PySem.W.nsIn K mainGlobals "len" = some none)
    (zall : PySem.W.nsIn K mainGlobals "all" = some none)
    (zset : PySem.W.nsIn K mainGlobals "set" = some none)
    (zrange : PySem.W.nsIn K mainGlobals "range" = some none)
    (zabs : PySem.W.nsIn K mainGlobals "abs" = some none)
    (zrepr : PySem.W.nsIn K mainGlobals "repr" = some none)
    (zsorted : PySem.W.nsIn K mainGlobals "sorted" = some none)
    (zzip : PySem.W.nsIn K mainGlobals "zip" = some none)
    (zmin : PySem.W.nsIn K mainGlobals "min" = some none)
    (zsuper : PySem.W.nsIn K mainGlobals "super" = some none)
    (zany : PySem.W.nsIn K cStatics "thirdparty.any" = some none)
    (ztop : (l.prog.main.scope.names.lookup ("super" : Str)).isSome = false)
    (gk0 : PySem.W.nsIn K mainGlobals "NAME_LENGTH" = some (some (.int 8 t1)))
    (gk1 : PySem.W.nsIn K mainGlobals "LETTERS" = some (some (.str "abcdefghijklmnopqrstuvwxyz" t2)))
    (gk2 : PySem.W.nsIn K mainGlobals "MOST_WAGONS" = some (some (.int 30 t3)))
    : ∃ fd : FuncData, (∀ (s : Shared) (v : Value), BindsTo s fd ⟨[v], []⟩ [("script", v)]) ∧ ∀ base : Heap, K.In base → base.Ns mainGlobals mg → FnG l.prog w K mg base CX0 9 fa fd ["script"] (spLaw K) := by
  have e := hfa.symm.trans (PySem.W.mg_of X G a24)
  cases e
  have F1 := fun_mk (st := sIsInt) l1 c1 k1
  have F2 := fun_mk (st := sIsName) l2 c2 k2
  have F3 := fun_mk (st := sIsWith) l3 c3 k3
  have F4 := fun_mk (st := sIsDir) l4 c4 k4
  have F5 := fun_mk (st := sIsRow) l5 c5 k5
  have F6 := fun_mk (st := sChkF) l6 c6 k6
  have F7 := fun_mk (st := sTurn) l7 c7 k7
  have F8 := fun_mk (st := sNames) l8 c8 k8
  have F9 := fun_mk (st := sEntry) l9 c9 k9
  have F10 := fun_mk (st := sOpp) l10 c10 k10
  have F11 := fun_mk (st := sCoup) l11 c11 k11
  have F12 := fun_mk (st := sLinks) l12 c12 k12
  have F13 := fun_mk (st := sLineF) l13 c13 k13
  have F14 := fun_mk (st := sRingF) l14 c14 k14
  have F15 := fun_mk (st := sPen) l15 c15 k15
  have F16 := fun_mk (st := sDraw) l16 c16 k16
  have F17 := fun_mk (st := sPick) l17 c17 k17
  have F18 := fun_mk (st := sShuf) l18 c18 k18
  have F19 := fun_mk (st := sWag) l19 c19 k19
  have F20 := fun_mk (st := sRow) l20 c20 k20
  have F21 := fun_mk (st := sLEnds) l21 c21 k21
  have F22 := fun_mk (st := sLTurn) l22 c22 k22
  have F23 := fun_mk (st := sLCoup) l23 c23 k23
  have F24 := fun_mk (st := sLaw) l24 c24 k24
  have b1 := F1.binds (ps := ["value"]) fun _ _ _ _ _ _ us hl => match us, hl with | [_], _ => rfl
  have m1 := PySem.W.mg_of X G a1
  have b2 := F2.binds (ps := ["value"]) fun _ _ _ _ _ _ us hl => match us, hl with | [_], _ => rfl
  have m2 := PySem.W.mg_of X G a2
  have b3 := F3.binds (ps := ["value", "numbers"]) fun _ _ _ _ _ _ us hl => match us, hl with | [_, _], _ => rfl
  have m3 := PySem.W.mg_of X G a3
  have b4 := F4.binds (ps := ["value"]) fun _ _ _ _ _ _ us hl => match us, hl with | [_], _ => rfl
  have m4 := PySem.W.mg_of X G a4
  have b5 := F5.binds (ps := ["value"]) fun _ _ _ _ _ _ us hl => match us, hl with | [_], _ => rfl
  have m5 := PySem.W.mg_of X G a5
  have b6 := F6.binds (ps := ["value"]) fun _ _ _ _ _ _ us hl => match us, hl with | [_], _ => rfl
  have m6 := PySem.W.mg_of X G a6
  have b7 := F7.binds (ps := ["row"]) fun _ _ _ _ _ _ us hl => match us, hl with | [_], _ => rfl
  have m7 := PySem.W.mg_of X G a7
  have b8 := F8.binds (ps := ["row"]) fun _ _ _ _ _ _ us hl => match us, hl with | [_], _ => rfl
  have m8 := PySem.W.mg_of X G a8
  have b9 := F9.binds (ps := ["wagon"]) fun _ _ _ _ _ _ us hl => match us, hl with | [_], _ => rfl
  have m9 := PySem.W.mg_of X G a9
  have b10 := F10.binds (ps := ["end"]) fun _ _ _ _ _ _ us hl => match us, hl with | [_], _ => rfl
  have m10 := PySem.W.mg_of X G a10
  have b11 := F11.binds (ps := ["one", "other"]) fun _ _ _ _ _ _ us hl => match us, hl with | [_, _], _ => rfl
  have m11 := PySem.W.mg_of X G a11
  have b12 := F12.binds (ps := ["row"]) fun _ _ _ _ _ _ us hl => match us, hl with | [_], _ => rfl
  have m12 := PySem.W.mg_of X G a12
  have b13 := F13.binds (ps := ["row"]) fun _ _ _ _ _ _ us hl => match us, hl with | [_], _ => rfl
  have m13 := PySem.W.mg_of X G a13
  have b14 := F14.binds (ps := ["row"]) fun _ _ _ _ _ _ us hl => match us, hl with | [_], _ => rfl
  have m14 := PySem.W.mg_of X G a14
  have b15 := F15.binds (ps := ["script"]) fun _ _ _ _ _ _ us hl => match us, hl with | [_], _ => rfl
  have m15 := PySem.W.mg_of X G a15
  have b16 := F16.binds (ps := ["pen", "size"]) fun _ _ _ _ _ _ us hl => match us, hl with | [_, _], _ => rfl
  have m16 := PySem.W.mg_of X G a16
  have b17 := F17.binds (ps := ["pen", "options"]) fun _ _ _ _ _ _ us hl => match us, hl with | [_, _], _ => rfl
  have m17 := PySem.W.mg_of X G a17
  have b18 := F18.binds (ps := ["pen", "some"]) fun _ _ _ _ _ _ us hl => match us, hl with | [_, _], _ => rfl
  have m18 := PySem.W.mg_of X G a18
  have b19 := F19.binds (ps := ["pen", "many"]) fun _ _ _ _ _ _ us hl => match us, hl with | [_, _], _ => rfl
  have m19 := PySem.W.mg_of X G a19
  have b20 := F20.binds (ps := ["pen", "wagons"]) fun _ _ _ _ _ _ us hl => match us, hl with | [_, _], _ => rfl
  have m20 := PySem.W.mg_of X G a20
  have b21 := F21.binds (ps := ["part"]) fun _ _ _ _ _ _ us hl => match us, hl with | [_], _ => rfl
  have m21 := PySem.W.mg_of X G a21
  have b22 := F22.binds (ps := ["row"]) fun _ _ _ _ _ _ us hl => match us, hl with | [_], _ => rfl
  have m22 := PySem.W.mg_of X G a22
  have b23 := F23.binds (ps := ["row", "is_ring"]) fun _ _ _ _ _ _ us hl => match us, hl with | [_, _], _ => rfl
  have m23 := PySem.W.mg_of X G a23
  have FiT := fun_mk (st := sTrInit) liT ciT kiT
  have biT := FiT.binds (ps := ["self", "row"]) fun _ _ _ _ _ _ us hl => match us, hl with | [_, _], _ => rfl
  have mCL := PySem.W.mg_of X G caL
  have FmLlinks := fun_mk (st := sLnLinks) lmLlinks cmLlinks kmLlinks
  have bmLlinks := FmLlinks.binds (ps := ["self"]) fun _ _ _ _ _ _ us hl => match us, hl with | [_], _ => rfl
  have MmLlinks : Meth K CL "links" fmLlinks := ⟨maLlinks, mfLlinks, kmLlinks⟩
  have TL : SupFn l.prog K mg (nfLn ccL coL) ["self", "row"] fiL CL fiT ccL _ := ⟨⟨ociL, kViL, dciL, pmiL, ctiL, odiL, aniL, sliL, rfl, liL⟩, rfl, ciL, ⟨rcL, rdL, rvL, rsL, fileL, tfL, r1L, r2L, r3L⟩, ⟨_, rfl, rfl⟩, rfl, ⟨ceL, celL, cesL, e1L⟩, ⟨kdL, kcL⟩, mrL, nxL, tf_L, tyL, zany, PySem.W.mg_none_of X G zsuper, ztop⟩
  have biL : Binds K (PySem.W.fnX "__init__" "Line.__init__" (defArgs sLnInit) (defBody sLnInit) (defScope sLnInit) [(("__class__" : Str), ccL)] .none kViL dciL pmiL aniL (.ref coL) ctiL) ["self", "row"] [] := .all fun us hl => match us, hl with | [_, _], _ => rfl
  have MkL : Mk K CL fiL := ⟨mkL, inL, fnL, kpL⟩
  have ClL : Cls K CL := ⟨pgL, hdL, poL, saL⟩
  have mCR := PySem.W.mg_of X G caR
  have FmRlinks := fun_mk (st := sRgLinks) lmRlinks cmRlinks kmRlinks
  have bmRlinks := FmRlinks.binds (ps := ["self"]) fun _ _ _ _ _ _ us hl => match us, hl with | [_], _ => rfl
  have MmRlinks : Meth K CR "links" fmRlinks := ⟨maRlinks, mfRlinks, kmRlinks⟩
  have TR : SupFn l.prog K mg (nfRg ccR coR) ["self", "row"] fiR CR fiT ccR _ := ⟨⟨ociR, kViR, dciR, pmiR, ctiR, odiR, aniR, sliR, rfl, liR⟩, rfl, ciR, ⟨rcR, rdR, rvR, rsR, fileR, tfR, r1R, r2R, r3R⟩, ⟨_, rfl, rfl⟩, rfl, ⟨ceR, celR, cesR, e1R⟩, ⟨kdR, kcR⟩, mrR, nxR, tf_R, tyR, zany, PySem.W.mg_none_of X G zsuper, ztop⟩
  have biR : Binds K (PySem.W.fnX "__init__" "Ring.__init__" (defArgs sRgInit) (defBody sRgInit) (defScope sRgInit) [(("__class__" : Str), ccR)] .none kViR dciR pmiR aniR (.ref coR) ctiR) ["self", "row"] [] := .all fun us hl => match us, hl with | [_, _], _ => rfl
  have MkR : Mk K CR fiR := ⟨mkR, inR, fnR, kpR⟩
  have ClR : Cls K CR := ⟨pgR, hdR, poR, saR⟩
  have n_isinstance := PySem.W.mg_none_of X G zisinstance
  have n_int := PySem.W.mg_none_of X G zint
  have n_bool := PySem.W.mg_none_of X G zbool
  have n_str := PySem.W.mg_none_of X G zstr
  have n_tuple := PySem.W.mg_none_of X G ztuple
  have n_list := PySem.W.mg_none_of X G zlist
  have n_len := PySem.W.mg_none_of X G zlen
  have n_all := PySem.W.mg_none_of X G zall
  have n_set := PySem.W.mg_none_of X G zset
  have n_range := PySem.W.mg_none_of X G zrange
  have n_abs := PySem.W.mg_none_of X G zabs
  have n_repr := PySem.W.mg_none_of X G zrepr
  have n_sorted := PySem.W.mg_none_of X G zsorted
  have n_zip := PySem.W.mg_none_of X G zzip
  have n_min := PySem.W.mg_none_of X G zmin
  refine ⟨PySem.W.fnOf "law" "law" (defArgs sLaw) (defBody sLaw) (defScope sLaw) .none kV24 dc24 pm24 an24 cd24 ct24, fun s v => .of_eq rfl, fun base _ _ => ?_⟩
  have B : Glb mg := ⟨n_isinstance, n_int, n_bool, n_str, n_tuple, n_list, n_len, n_all, n_set, n_range, n_abs, n_repr⟩
  have oInt := ok_isint (P := l.prog) (w := w) (base := base) F1 B
  have oName := ok_isname (P := l.prog) (w := w) (base := base) F2 B (PySem.W.mg_of X G gk0) (PySem.W.mg_of X G gk1)
  have oWith := ok_iswith F3 B oInt m1 k1 b1 oName m2 k2 b2
  have oDir := ok_isdir F4 oWith m3 k3 b3
  have oRow := ok_isrow F5 B (PySem.W.mg_of X G gk2) oDir m4 k4 b4
  have oChk := ok_chkF F6 oRow m5 k5 b5
  have oTurn := ok_turned F7 B oRow m5 k5 b5
  have oNames := ok_names (P := l.prog) (w := w) (mg := mg) (base := base) F8
  have oLineF := ok_line F13 B oTurn m7 k7 b7
  have oRingF := ok_ring F14 n_min oNames m8 k8 b8 oTurn m7 k7 b7
  have oEnt := ok_entry (P := l.prog) (w := w) (mg := mg) (base := base) F9
  have oOpp := ok_opp (P := l.prog) (w := w) (mg := mg) (base := base) F10
  have oCoup := ok_coup (P := l.prog) (w := w) (mg := mg) (base := base) F11
  have oLinks := ok_links F12 n_sorted n_zip ⟨oEnt, m9, k9, b9⟩ ⟨oOpp, m10, k10, b10⟩ ⟨oCoup, m11, k11, b11⟩
  have RL : RowCls K CL := ⟨ClL, noL0⟩
  have RR : RowCls K CR := ⟨ClR, noR0⟩
  have oLI := ok_lineInit TL RL (ok_train CL FiT oChk m6 k6 b6 RL) biT oLineF m13 k13 b13
  have oRI := ok_ringInit TR RR (ok_train CR FiT oChk m6 k6 b6 RR) biT oRingF m14 k14 b14
  have oLL := ok_lineLinks FmLlinks RL ⟨oLinks, m12, k12, b12⟩
  have oRL := ok_ringLinks FmRlinks RR ⟨oLinks, m12, k12, b12⟩
  have oPen := ok_pen (P := l.prog) (w := w) (base := base) F15 B.list
  have oDraw := ok_draw (P := l.prog) (w := w) (base := base) (k := 0) F16 B.len B.abs
  have oPick := ok_pick F17 B.len oDraw m16 k16 b16
  have oShuf := ok_shuf F18 B.len B.list oDraw m16 k16 b16
  have T : Draws l.prog w K mg base _ _ _ _ _ _ := ⟨oDraw, m16, k16, b16, oPick, m17, k17, b17, oShuf, m18, k18, b18⟩
  have oWag := ok_wag F19 T B.range B.int
  have oLRow := ok_rowB F20 T B.tuple
  have oLEnds := ok_lends (P := l.prog) (w := w) (base := base) F21 B.int
  have oLTurn := ok_lturn (P := l.prog) (w := w) (base := base) F22 B
  have oLCoup := ok_lcoup F23 B n_sorted ⟨oLEnds, m21, k21, b21⟩
  exact ok_law F24 B T ⟨oPen, m15, k15, b15⟩ ⟨oWag, m19, k19, b19⟩ ⟨oLRow, m20, k20, b20⟩ ⟨oLTurn, m22, k22, b22⟩ ⟨oLCoup, m23, k23, b23⟩ RL RR ⟨MkL, oLI, mCL, biL⟩ ⟨MkR, oRI, mCR, biR⟩ ⟨MmLlinks, oLL, bmLlinks⟩ ⟨MmRlinks, oRL, bmRlinks⟩
theorem walk {l : PySem.W.OpenLaw} {q : Program} {loose : List Str} {XP : (Str → Option Value) → Heap → Prop} {YP : World → Heap → Prop} {d : DefRec} {K : Params → PySem.W.Frag} (hn : l.most = some 63) (hdf : d.params.defaults = [])
    (hY : ∀ (w : World) (h : Heap), YP w h → (K w.params).In h)
    (F : ∀ (w : World) (mg : Str → Option Value) (fa : Addr) (h : Heap), (K w.params).In h → h.Ns mainGlobals mg → mg d.name = some (.ref fa) →
      ∃ fd : FuncData, (∀ (s : Shared) (u : Value), BindsTo s fd ⟨[u], []⟩ [("script", u)]) ∧ ∀ base : Heap, (K w.params).In base → base.Ns mainGlobals mg → FnG l.prog w (K w.params) mg base CX0 9 fa fd ["script"] (spLaw (K w.params))) :
    PySem.W.WalkO q loose XP YP l.row.toRowW d [] (fun f vs => PySem.call f vs) :=
  walk_G (n := 63) (k := 9) (x := "script") (sp := fun K => spLaw K) hn (by decide) hdf ⟨rfl, by decide, by decide⟩ hY F fun _ _ a ns hl _ hS => ⟨a, ns, rfl, hS, hl, fun _ => rfl⟩
end My
open PySem PySem.W PyProof.Rows
set_option Elab.async false
set_option maxRecDepth 100000 in
set_option maxHeartbeats 0 in
theorem PySem.Challenge.cw_shuntplan_k03_couplings_of_trains_holds : PySem.Challenge.rw_shuntplan_k03_couplings_of_trains.Holds := by
  w_on; o_law; k_head; (case hw => w_witness2)
  k_fill
  refine My.walk (l := PySem.Challenge.rw_shuntplan_k03_couplings_of_trains) rfl rfl (fun w h Y => PySem.W.kIn_of Y) ?F
  case F =>
    intro w mg fa h KX G hmg
    refine' My.all_mk KX G hmg ?a1 ?l1 ?c1 ?k1 ?a2 ?l2 ?c2 ?k2 ?a3 ?l3 ?c3 ?k3 ?a4 ?l4 ?c4 ?k4 ?a5 ?l5 ?c5 ?k5 ?a6 ?l6 ?c6 ?k6 ?a7 ?l7 ?c7 ?k7 ?a8 ?l8 ?c8 ?k8 ?a9 ?l9 ?c9 ?k9 ?a10 ?l10 ?c10 ?k10 ?a11 ?l11 ?c11 ?k11 ?a12 ?l12 ?c12 ?k12 ?a13 ?l13 ?c13 ?k13 ?a14 ?l14 ?c14 ?k14 ?a15 ?l15 ?c15 ?k15 ?a16 ?l16 ?c16 ?k16 ?a17 ?l17 ?c17 ?k17 ?a18 ?l18 ?c18 ?k18 ?a19 ?l19 ?c19 ?k19 ?a20 ?l20 ?c20 ?k20 ?a21 ?l21 ?c21 ?k21 ?a22 ?l22 ?c22 ?k22 ?a23 ?l23 ?c23 ?k23 ?a24 ?l24 ?c24 ?k24 ?caL ?pgL ?hdL ?poL ?saL ?noL0 ?mkL ?inL ?fnL ?kpL ?liL ?ciL ?r1L ?r2L ?r3L ?e1L ?kcL ?mrL ?nxL ?tf_L ?tyL ?maLlinks ?mfLlinks ?lmLlinks ?cmLlinks ?kmLlinks ?caR ?pgR ?hdR ?poR ?saR ?noR0 ?mkR ?inR ?fnR ?kpR ?liR ?ciR ?r1R ?r2R ?r3R ?e1R ?kcR ?mrR ?nxR ?tf_R ?tyR ?maRlinks ?mfRlinks ?lmRlinks ?cmRlinks ?kmRlinks ?liT ?ciT ?kiT ?zisinstance ?zint ?zbool ?zstr ?ztuple ?zlist ?zlen ?zall ?zset ?zrange ?zabs ?zrepr ?zsorted ?zzip ?zmin ?zsuper ?zany ?ztop ?gk0 ?gk1 ?gk2
    (case a1 => k_is)
    (case l1 => k_is)
    (case c1 => k_is)
    (case k1 => k_is)
    (case a2 => k_is)
    (case l2 => k_is)
    (case c2 => k_is)
    (case k2 => k_is)
    (case a3 => k_is)
    (case l3 => k_is)
    (case c3 => k_is)
    (case k3 => k_is)
    (case a4 => k_is)
    (case l4 => k_is)
    (case c4 => k_is)
    (case k4 => k_is)
    (case a5 => k_is)
    (case l5 => k_is)
    (case c5 => k_is)
    (case k5 => k_is)
    (case a6 => k_is)
    (case l6 => k_is)
    (case c6 => k_is)
    (case k6 => k_is)
    (case a7 => k_is)
    (case l7 => k_is)
    (case c7 => k_is)
    (case k7 => k_is)
    (case a8 => k_is)
    (case l8 => k_is)
    (case c8 => k_is)
    (case k8 => k_is)
    (case a9 => k_is)
    (case l9 => k_is)
    (case c9 => k_is)
    (case k9 => k_is)
    (case a10 => k_is)
    (case l10 => k_is)
    (case c10 => k_is)
    (case k10 => k_is)
    (case a11 => k_is)
    (case l11 => k_is)
    (case c11 => k_is)
    (case k11 => k_is)
    (case a12 => k_is)
    (case l12 => k_is)
    (case c12 => k_is)
    (case k12 => k_is)
    (case a13 => k_is)
    (case l13 => k_is)
    (case c13 => k_is)
    (case k13 => k_is)
    (case a14 => k_is)
    (case l14 => k_is)
    (case c14 => k_is)
    (case k14 => k_is)
    (case a15 => k_is)
    (case l15 => k_is)
    (case c15 => k_is)
    (case k15 => k_is)
    (case a16 => k_is)
    (case l16 => k_is)
    (case c16 => k_is)
    (case k16 => k_is)
    (case a17 => k_is)
    (case l17 => k_is)
    (case c17 => k_is)
    (case k17 => k_is)
    (case a18 => k_is)
    (case l18 => k_is)
    (case c18 => k_is)
    (case k18 => k_is)
    (case a19 => k_is)
    (case l19 => k_is)
    (case c19 => k_is)
    (case k19 => k_is)
    (case a20 => k_is)
    (case l20 => k_is)
    (case c20 => k_is)
    (case k20 => k_is)
    (case a21 => k_is)
    (case l21 => k_is)
    (case c21 => k_is)
    (case k21 => k_is)
    (case a22 => k_is)
    (case l22 => k_is)
    (case c22 => k_is)
    (case k22 => k_is)
    (case a23 => k_is)
    (case l23 => k_is)
    (case c23 => k_is)
    (case k23 => k_is)
    (case a24 => k_is)
    (case l24 => k_is)
    (case c24 => k_is)
    (case k24 => k_is)
    (case caL => k_is)
    (case pgL => k_is)
    (case hdL => k_is)
    (case poL => k_is)
    (case saL => k_is)
    (case noL0 => k_is)
    (case mkL => k_is)
    (case inL => k_is)
    (case fnL => k_is)
    (case kpL => k_is)
    (case liL => k_is)
    (case ciL => k_is)
    (case r1L => k_is)
    (case r2L => rfl)
    (case r3L => decide +kernel)
    (case e1L => k_is)
    (case kcL => k_is)
    (case mrL => k_is)
    (case nxL => ks_is)
    (case tf_L => k_is)
    (case tyL => k_is)
    (case maLlinks => k_is)
    (case mfLlinks => k_is)
    (case lmLlinks => k_is)
    (case cmLlinks => k_is)
    (case kmLlinks => k_is)
    (case caR => k_is)
    (case pgR => k_is)
    (case hdR => k_is)
    (case poR => k_is)
    (case saR => k_is)
    (case noR0 => k_is)
    (case mkR => k_is)
    (case inR => k_is)
    (case fnR => k_is)
    (case kpR => k_is)
    (case liR => k_is)
    (case ciR => k_is)
    (case r1R => k_is)
    (case r2R => rfl)
    (case r3R => decide +kernel)
    (case e1R => k_is)
    (case kcR => k_is)
    (case mrR => k_is)
    (case nxR => ks_is)
    (case tf_R => k_is)
    (case tyR => k_is)
    (case maRlinks => k_is)
    (case mfRlinks => k_is)
    (case lmRlinks => k_is)
    (case cmRlinks => k_is)
    (case kmRlinks => k_is)
    (case liT => k_is)
    (case ciT => k_is)
    (case kiT => k_is)
    (case zisinstance => k_is)
    (case zint => k_is)
    (case zbool => k_is)
    (case zstr => k_is)
    (case ztuple => k_is)
    (case zlist => k_is)
    (case zlen => k_is)
    (case zall => k_is)
    (case zset => k_is)
    (case zrange => k_is)
    (case zabs => k_is)
    (case zrepr => k_is)
    (case zsorted => k_is)
    (case zzip => k_is)
    (case zmin => k_is)
    (case zsuper => k_is)
    (case zany => k_is)
    (case ztop => rfl)
    (case gk0 => k_is)
    (case gk1 => k_is)
    (case gk2 => k_is)
