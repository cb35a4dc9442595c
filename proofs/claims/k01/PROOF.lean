import PyProof.Rows.All
import Wide.All
import OpenK.AllK
import Wide.FinOn
import HandS.ForMost
import HandS.Wide
import HandS.EndBits
import HandS.TupAny
import HandS.IsInst
import PySem.Challenge.RW_shuntplan_k01_names_ends_rows
import HandS.Evl
import HandS.SetBool
import HandS.SetKeys
import HandS.Strs
import HandS.Style
import PyProof.Rows.ReprOcc
import PyProof.Rows.StrJoinRep
import PyProof.Rows.StrCase
set_option Elab.async false
set_option linter.all false
set_option maxRecDepth 100000
set_option maxHeartbeats 4000000
/-! Defs that show values: a promise that may lean on «nothing is being shown around the call», its callers, its end, and repr of data. -/
namespace My
open PySem PySem.Spec PyProof.Rows L2

/-- no value is being shown around here -/
def Still (A : Around) : Prop := A.guards = some []
theorem Still.deeper {A : Around} (h : Still A) (e : Env) : Still (A.deeper e) := h

section
variable (P : Program) (w : World) (K : PySem.W.Frag) (mg : Str → Option Value) (base : Heap) (CX : CXT)
/-- a def's promise, kept wherever nothing is being shown -/
structure FnG (k : Nat) (f : Addr) (fd : FuncData) (ps : List Str) (sp : Sp) : Prop where
  len : ∀ vs H Q E, sp vs H Q E → vs.length = ps.length
  run : ∀ (A : Around) (stk : List Env) (s : Shared) (H : Hp) (g : Args) (us : List Value) (vs : List V) (Q : VK) (E : XK), Still A → Room k A → Env0 P w K mg base A stk s H →
    BindsTo s fd g (ps.zip us) → Vals vs us → sp vs H Q E → codeAny (model P w) A (.call (.ref f) g) (CR CX stk P w H s Q E) s
end

section
variable {P : Program} {w : World} {K : PySem.W.Frag} {mg : Str → Option Value} {base : Heap} {CX : CXT}
theorem FnG.of {k : Nat} {f : Addr} {fd : FuncData} {ps : List Str} {sp : Sp} (F : FnOk P w K mg base CX k f fd ps sp) : FnG P w K mg base CX k f fd ps sp :=
  ⟨F.len, fun A stk s H g us vs Q E _ r e b v h => F.run A stk s H g us vs Q E r e b v h⟩
theorem FnG.mono {i k : Nat} {f : Addr} {fd : FuncData} {ps : List Str} {sp : Sp} (F : FnG P w K mg base CX i f fd ps sp) (h : i ≤ k) : FnG P w K mg base CX k f fd ps sp :=
  ⟨F.len, fun A stk s H g us vs Q E st r e b v q => F.run A stk s H g us vs Q E st (r.mono h) e b v q⟩
theorem FnG.imp {k : Nat} {f : Addr} {fd : FuncData} {ps : List Str} {sp sp' : Sp} (F : FnG P w K mg base CX k f fd ps sp) (h : ∀ vs H Q E, sp' vs H Q E → sp vs H Q E) : FnG P w K mg base CX k f fd ps sp' :=
  ⟨fun vs H Q E q => F.len vs H Q E (h _ _ _ _ q), fun A stk s H g us vs Q E st r e b v q => F.run A stk s H g us vs Q E st r e b v (h _ _ _ _ q)⟩
end

section
variable {X : Cx} {CX : CXT} {k : Nat} {f C : Addr} {fd : FuncData} {ps : List Str} {sp : Sp} {dvs : List V} {ds : List Value} {E : XK} {x : Str} {p pos : Pos} {e : Expr} {es : List Expr} {t : TA}
theorem runG {pins : List (Addr × Obj)} {σ : L2.St} {H : Hp} {s : Shared} {Q : VK} {us : List Value} {vs : List V} (F : FnG X.prog X.w X.K X.mg X.base CX k f fd ps sp) (st : Still X.A) (hr : Room k X.A)
    (hb : Binds X.K fd ps ds) (hd : Vals dvs ds) (hx : Passes CX X E) (I : Inv X pins σ H s) (rv : Vals vs us) (hp : sp (vs ++ dvs) H Q E) :
    wpAny (model X.prog X.w) X.A (call (.ref f) us) (EP X pins σ Q) X.xe s := by
  have all : Vals (vs ++ dvs) (us ++ ds) := rv.append hd
  have many : (us ++ ds).length = ps.length := all.length.symm.trans (F.len _ _ _ _ hp)
  refine wpAny_call (codeAny_mono (F.run X.A X.stack s H ⟨us, []⟩ (us ++ ds) (vs ++ dvs) Q E st hr I.env0 (hb s us I.kIn many) all hp) ?_)
  intro res s' end_
  match res, end_ with
  | .error er, z => exact hx pins σ H s er s' I z
  | .ok (.ret u), z => exact I.after z
  | .ok .next, z => exact z.elim
  | .ok .brk, z => exact z.elim
  | .ok .cont, z => exact z.elim

theorem pe_callG (F : FnG X.prog X.w X.K X.mg X.base CX k f fd ps sp) (st : Still X.A) (hr : Room k X.A) (hg : Gl X x) (hm : X.mg x = some (.ref f)) (kp : PySem.W.keepIn X.K (.ref f) = true)
    (hb : Binds X.K fd ps ds) (hd : Vals dvs ds) (hx : Passes CX X E) (ha : PA X (e :: es) t) (nd : (x == ("__debug__" : Str)) = false := by decide)
    (he : starEach (e :: es) X.env = (false, eval e X.env) :: starEach es X.env := by rfl) (hp : (backTo pos (starEach es X.env)).any (·.1) = false := by rfl) :
    PE X (.Call (.Name x p) (e :: es) [] pos) (tCall sp dvs E t) :=
  ⟨fun pins s σ H Q I q => wpAny_Call_Name_kw (ld_glob I hg hm
    (PySem.W.callWith_K (h₀ := X.base) I.ok.mod.kin kp (thn (ha.run pos pins s σ H _ I q) fun _ _ ⟨_, _, J, rv, z⟩ => ⟨J.kIn, runG F st hr hb hd hx J rv z⟩) he hp) nd)⟩
theorem pe_callG0 (F : FnG X.prog X.w X.K X.mg X.base CX k f fd ps sp) (st : Still X.A) (hr : Room k X.A) (hg : Gl X x) (hm : X.mg x = some (.ref f)) (kp : PySem.W.keepIn X.K (.ref f) = true)
    (hb : Binds X.K fd ps ds) (hd : Vals dvs ds) (hx : Passes CX X E) (nd : (x == ("__debug__" : Str)) = false := by decide) : PE X (.Call (.Name x p) [] [] pos) (tCall sp dvs E tNil) :=
  ⟨fun pins s σ H Q I q => wpAny_Call_Name_kw (ld_glob I hg hm (PySem.W.callWith_K0 I.kIn kp (runG (us := []) F st hr hb hd hx I .nil q)) nd)⟩
end

/-! ### a def by its body -/
theorem fn_ofG {CX : CXT} {P : Program} {w : World} {K : PySem.W.Frag} {mg : Str → Option Value} {base : Heap} {k : Nat} {f : Addr} {name qual : Str} {params : Arguments} {body : List Stmt} {sc : Scope} {dV kV doc pm cdv ct oc : Value} {an od : Option Addr}
    {osl : Array (Option Value)} {N ps : List Str} {sp : Sp} (lk : K.lookup f = some ⟨oc, od, .func (PySem.W.fnOf name qual params body sc dV kV doc pm an cdv ct), osl⟩) (hc : PySem.W.codeIn K cdv qual = true) (S : FnScope N ps sc)
    (len : ∀ vs H Q E, sp vs H Q E → vs.length = ps.length)
    (hbody : ∀ (A : Around) (stk : List Env) (s : Shared) (H : Hp) (vs : List V) (Q : VK) (E : XK), Still A → Room k (A.deeper (envOfC qual sc s.heap.objs.size f cdv)) → sp vs H Q E →
      ∃ t, PSs (cxOf CX P w K mg base N qual sc f cdv A stk s H E) body t ∧ t { nx := fun _ H' => Q .non H', rt := Q } (start N vs) H) :
    FnG P w K mg base CX (k + 1) f (PySem.W.fnOf name qual params body sc dV kV doc pm an cdv ct) ps sp := by
  refine ⟨len, fun A stk s H g us vs Q E st hr e0 hb rv hp => ?_⟩
  have many := len _ _ _ _ hp
  have keep : ∀ b o, base.get? b = some o → s.heap.get? b = some o := fun b o e => (e0.bs b o e).1
  have KX : K.In s.heap := e0.mod.kin.keeps keep
  have lim : s.heap.NoLimit := e0.mod.nolimit.keeps keep
  refine codeAny_call_function hr.depth (KX _ _ lk) rfl S.co S.gen rfl (PySem.W.codeRec_of KX hc) (hb _ _ _ _ (wpAny_newFunctionEnv_cells S.kind ?_ ?_))
  · rintro ⟨n, v⟩ hy
    rcases S.par n (List.of_mem_zip hy).1 with q | q
    · exact .inl q
    · exact .inr ⟨q, PySem.W.cellsFrom_some _ _ _ (.inl q)⟩
  · rintro env rfl s1 x
    obtain ⟨t, ht, hq⟩ := hbody A stk s H vs Q E st (hr.deeper _) hp
    refine ⟨lim.keeps x.toInCall.keep, codeAny_func (wpAny_mono (ht.run [] s1 (start N vs) H _ (inv_start S hr.hd e0 many rv x) hq) ?_ fun _ _ z => z)⟩
    intro fl s' z
    match fl, z with
    | .ret u, ⟨v, _, H', J, r, q⟩ => exact ⟨v, H', J.os, J.bare, J.base, J.hok, r, q⟩
    | .next, ⟨_, H', J, q⟩ => exact ⟨V.non, H', J.os, J.bare, J.base, J.hok, (rfl : Value.none = Value.none), q⟩
    | .brk, ⟨_, _, _, q⟩ => exact q.elim
    | .cont, ⟨_, _, _, q⟩ => exact q.elim

section
variable {P : Program} {w : World} {K : PySem.W.Frag} {mg : Str → Option Value} {base : Heap}
theorem okG {x qual : Str} {st : Stmt} {f : Addr} {fd : FuncData} {N ps : List Str} {k : Nat} {sp : Sp} (F : Fun K x qual st f fd) (S : FnScope N ps (defScope st)) (len : ∀ vs H Q E, sp vs H Q E → vs.length = ps.length)
    (hbody : ∀ (cdv : Value) (A : Around) (stk : List Env) (s : Shared) (H : Hp) (vs : List V) (Q : VK) (E : XK), Still A → Room k (A.deeper (envOfC qual (defScope st) s.heap.objs.size f cdv)) → sp vs H Q E →
      ∃ t, PSs (cxOf CX0 P w K mg base N qual (defScope st) f cdv A stk s H E).nox (defBody st) t ∧ t { nx := fun _ H' => Q .non H', rt := Q } (start N vs) H) : FnG P w K mg base CX0 (k + 1) f fd ps sp := by
  obtain ⟨oc, od, kV, doc, pm, an, cdv, ct, osl, rfl, lk, hc⟩ := F.ex
  exact fn_ofG lk hc S len fun A stk s H vs Q E sl hr hp => let ⟨t, h, q⟩ := hbody cdv A stk s H vs Q E sl hr hp; ⟨t, h.nox, q⟩
end

/-! ### repr of data -/
section
variable {X : Cx}
def rRepr (K : PySem.W.Frag) : List V → Hp → VK → Prop := fun xs H Q => ∃ v d, xs = [v] ∧ Dp K H v d ∧ d.showable = true ∧ d.depth ≤ 60 ∧ d.shown.length ≤ sizeLine ∧ Q (.str d.shown) H
mutual
theorem noDict {K : PySem.W.Frag} {H : Hp} : ∀ (d : PyData) (v : V), Dp K H v d → d.hasDict = false
  | .none, _, _ => by simp only [PyData.hasDict]
  | .bool _, _, _ => by simp only [PyData.hasDict]
  | .int _, _, _ => by simp only [PyData.hasDict]
  | .str _, _, _ => by simp only [PyData.hasDict]
  | .list ds, _, h => by
    cases h with
    | lst _ a =>
      simp only [PyData.hasDict]
      exact noDictAll ds _ a
  | .tuple ds, _, h => by
    cases h with
    | tup _ a =>
      simp only [PyData.hasDict]
      exact noDictAll ds _ a
  | .dict _, _, h => by cases h
theorem noDictAll {K : PySem.W.Frag} {H : Hp} : ∀ (ds : List PyData) (vs : List V), DpAll K H vs ds → PyData.hasDictAll ds = false
  | [], _, _ => by simp only [PyData.hasDictAll]
  | d :: ds, _, h => by
    cases h with
    | cons a b =>
      simp only [PyData.hasDictAll, noDict d _ a, noDictAll ds _ b]
      rfl
end
theorem inv_more {pins : List (Addr × Obj)} {σ : L2.St} {H : Hp} {s : Shared} {h' : Heap} {tk : Nat} (I : Inv X pins σ H s) (k : ∀ b o, s.heap.get? b = some o → h'.get? b = some o) : Inv X pins σ H { s with heap := h', toks := tk } :=
  I.un (Un.kept k) (I.hok.kept k)
theorem call_repr (hg : Still X.A) (hu : X.A.units + 64 < cLine) : CallR X (.builtin "repr") (rRepr X.K) := by
  intro pins s σ H xs us Q I r h
  obtain ⟨v, d, rfl, hd, hs, hdp, hz, q⟩ := h
  obtain ⟨u, rfl, rv⟩ := vals1 r
  have nd := noDict d v hd
  obtain ⟨as, rd⟩ := Dp.reads I d v u hd rv
  have fin : ∀ (h' : Heap) (t tk : Tok), (∀ b o, s.heap.get? b = some o → h'.get? b = some o) → EP X pins σ Q (.str d.shown t) { s with heap := h', toks := tk } :=
    fun h' t tk k => ⟨.str d.shown, H, inv_more I k, ⟨t, rfl⟩, q⟩
  cases hd with
  | non =>
    cases rv
    exact PySem.P.repr_of_none (by simpa only [PyData.shown] using fin s.heap _ _ fun _ _ e => e)
  | bl b =>
    cases rv
    exact PySem.P.repr_of_bool (by simpa only [PyData.shown] using fin s.heap _ _ fun _ _ e => e)
  | int i =>
    obtain ⟨t, rfl⟩ := rv
    exact PySem.P.repr_of_int (by simpa [PyData.showable] using hs) (by simpa only [PyData.shown] using fin s.heap _ _ fun _ _ e => e)
  | str x =>
    obtain ⟨t, rfl⟩ := rv
    exact PySem.P.repr_of_str (by simpa only [PyData.shown] using fin s.heap _ _ fun _ _ e => e) (by simpa only [PyData.shown] using hz)
  | lst _ _ =>
    cases rv
    exact PySem.repr_of_reads' rd hs (PyData.noDict_hsm nd) hg (by omega) (fun _ _ e => e) (fun h' u tk k => fin h' u tk k) hz
  | tup _ _ =>
    cases rv
    exact PySem.repr_of_reads' rd hs (PyData.noDict_hsm nd) hg (by omega) (fun _ _ e => e) (fun h' u tk k => fin h' u tk k) hz
end
end My
set_option Elab.async false
set_option linter.all false
set_option maxRecDepth 100000
set_option maxHeartbeats 4000000
/-! The end of a law whose def shows values. -/
namespace My
open PySem PySem.Spec PyProof.Rows L2

section
variable {P : Program} {w : World} {K : PySem.W.Frag} {mg mb : Str → Option Value} {CX : CXT} {k : Nat} {fa a : Addr} {fd : FuncData} {x : Str} {sp : Sp} {s : Shared} {vs : List Value} {ns : List Int}
/-- what the law's call asks of the state behind the top -/
structure Behind (K : PySem.W.Frag) (mg mb : Str → Option Value) (a : Addr) (vs : List Value) (s : Shared) : Prop where
  kin : K.In s.heap
  glob : s.heap.Ns mainGlobals mg
  blt : s.heap.Ns builtinsNs mb
  boot : ∀ y : Str, y ≠ "__name__" → mb y = bootBuiltins y
  lim : s.heap.NoLimit
  gens : s.gens = #[]
  ob : s.heap.get? a = some { cls := .type "list", data := .seq vs.toArray }
/-- the abstract heap in which at most the script is tracked -/
structure Bare (K : PySem.W.Frag) (a : Addr) (H : Hp) : Prop where
  only : Only H
  at_ : ∀ b, H b ≠ none → b = a
  free : H a ≠ none → K.lookup a = none
theorem law_at (B : Behind K mg mb a vs s) (hr : Room k callerA) (F : ∀ base : Heap, K.In base → base.Ns mainGlobals mg → FnG P w K mg base CX k fa fd [x] sp)
    (bind : ∀ (s : Shared) (u : Value), BindsTo s fd ⟨[u], []⟩ [(x, u)]) (hCX : ∀ H e s', CX [] H s (fun _ _ _ => False) e s' → False)
    (H : Hp) (W : Bare K a H) (hok : HOk P w H s.heap) (hp : sp [.ref a] H (fun v _ => v = .bl true) fun _ _ _ => False) :
    codeAny (model P w) callerA (.call (.ref fa) ⟨[.ref a], []⟩) (fun r s' => r = .ok (.ret (.bool true)) ∧ OldK s.heap s'.heap ∧ s'.os = s.os ∧ AllBare s'.gens) s := by
  have apart : ∀ {b : Addr} {o : Obj}, s.heap.get? b = some o → (b = a → H a = none) → (hidT s.heap H).get? b = some o := fun {b o} e z => hidT_get e (by
    by_cases q : H b = none
    · exact q
    · have ba := W.at_ b q
      rw [ba]
      exact z ba)
  have ns : ∀ {b : Addr} {m : Str → Option Value}, s.heap.Ns b m → (hidT s.heap H).Ns b m := fun {b m} ⟨o, es, ep, e, d, r⟩ => ⟨o, es, ep, apart e (fun z => by
    subst z
    rw [B.ob] at e
    cases e
    exact absurd d (fun q => nomatch q)), d, r⟩
  have kb : K.In (hidT s.heap H) := fun b o e => apart (B.kin b o e) (fun z => by
    subst z
    by_cases q : H b = none
    · exact q
    · have := W.free q
      rw [e] at this
      cases this)
  have md : Mod K mg (hidT s.heap H) := ⟨kb, ns B.glob, ⟨mb, ns B.blt, B.boot⟩, match B.lim with | ⟨m, p, q⟩ => ⟨m, ns p, q⟩⟩
  have e0 : Env0 P w K mg (hidT s.heap H) callerA [] s H :=
    { frames := rfl, mod := md, bs := fun _ _ e => of_hidT e, bsz := Nat.le_of_eq (hidT_size _ _), funs := trivial, frf := fun _ z => (List.not_mem_nil z).elim, hok := hok, bare := .of_eq B.gens }
  refine codeAny_mono ((F _ kb (ns B.glob)).run callerA [] s H ⟨[.ref a], []⟩ [.ref a] [.ref a] _ _ rfl hr e0 (bind s (.ref a)) (.cons rfl .nil) hp) ?_
  intro res s' z
  match res, z with
  | .error e, z => exact (hCX H e s' z).elim
  | .ok .next, z => exact z.elim
  | .ok .brk, z => exact z.elim
  | .ok .cont, z => exact z.elim
  | .ok (.ret u), ⟨v, H', os, bare, un, hok', rv, q⟩ =>
    subst q
    cases (show u = Value.bool true from rv)
    refine ⟨rfl, OldK.of_keep fun b o e => ?_, os, bare⟩
    rcases W.only b with z | ⟨ob, xs, z⟩
    · exact un.keep b o e z List.not_mem_nil List.not_mem_nil
    · have h1 := (hok b _ z).1
      have h2 := (hok' b _ (un.frzs b ob _ z)).1
      rw [e] at h1
      cases h1
      exact h2
theorem law_endG (B : Behind K mg mb a vs s) (hi : IntsAre vs ns) (hl : ns.length ≤ sizeLine) (hr : Room k callerA)
    (F : ∀ base : Heap, K.In base → base.Ns mainGlobals mg → FnG P w K mg base CX k fa fd [x] sp) (bind : ∀ (s : Shared) (u : Value), BindsTo s fd ⟨[u], []⟩ [(x, u)])
    (hsp : ∀ H : Hp, Only H → SqL K H a (ns.map V.int) → sp [.ref a] H (fun v _ => v = .bl true) fun _ _ _ => False) (hCX : ∀ H e s', CX [] H s (fun _ _ _ => False) e s' → False) :
    codeAny (model P w) callerA (.call (.ref fa) ⟨[.ref a], []⟩) (fun r s' => r = .ok (.ret (.bool true)) ∧ OldK s.heap s'.heap ∧ s'.os = s.os ∧ AllBare s'.gens) s := by
  have rv := vals_ints hi
  have le := hi.length
  have lm : (ns.map V.int).length ≤ sizeLine := by
    rw [List.length_map]
    exact hl
  cases q : K.lookup a with
  | some o =>
    have e := B.kin a o q
    rw [B.ob] at e
    cases e
    have hS : SqL K (fun _ => none) a (ns.map V.int) := .inr ⟨_, vs.toArray, _, q, rfl, rfl, rfl, by simpa using (le ▸ hl), by simpa using rv⟩
    exact law_at B hr F bind hCX (fun _ => none) ⟨fun _ => .inl rfl, fun _ z => absurd rfl z, fun z => absurd rfl z⟩ (fun _ _ z => nomatch z) (hsp _ (fun _ => .inl rfl) hS)
  | none =>
    let fz : HO := .frz { cls := .type "list", data := .seq vs.toArray } (.lst (ns.map V.int))
    have oth : ∀ b, b ≠ a → (fun c => if c = a then some fz else none : Hp) b = none := fun b z => if_neg z
    have own : (fun c => if c = a then some fz else none : Hp) a = some fz := if_pos rfl
    have on : Only (fun c => if c = a then some fz else none) := fun b => (Decidable.em (b = a)).elim (fun z => .inr ⟨{ cls := .type "list", data := .seq vs.toArray }, ns.map V.int, if_pos z⟩) fun z => .inl (oth b z)
    refine law_at B hr F bind hCX _ ⟨on, fun b z => Decidable.byContradiction fun y => z (oth b y), fun _ => q⟩ (fun b u z => ?_) (hsp _ on (.inl (.inr ⟨_, own⟩)))
    by_cases y : b = a
    · subst y
      rw [if_pos rfl] at z
      cases z
      exact ⟨B.ob, lm, vs, _, rv, B.ob⟩
    · rw [if_neg y] at z
      cases z
end
/-- the goal that the head leaves, from a promise that may lean on «nothing is being shown»; the script's bits are told -/
theorem walk_G {l : PySem.W.OpenLaw} {n k : Nat} {q : Program} {loose : List Str} {XP : (Str → Option Value) → Heap → Prop} {YP : World → Heap → Prop} {d : DefRec} {K : Params → PySem.W.Frag} {sp : PySem.W.Frag → Sp} {x : Str}
    (hn : l.most = some n) (h2 : n ≤ sizeLine) (hd : d.params.defaults = []) (hr : Room k callerA) (hY : ∀ (w : World) (h : Heap), YP w h → (K w.params).In h)
    (F : ∀ (w : World) (mg : Str → Option Value) (fa : Addr) (h : Heap), (K w.params).In h → h.Ns mainGlobals mg → mg d.name = some (.ref fa) →
      ∃ fd : FuncData, (∀ (s : Shared) (u : Value), BindsTo s fd ⟨[u], []⟩ [(x, u)]) ∧ ∀ base : Heap, (K w.params).In base → base.Ns mainGlobals mg → FnG l.prog w (K w.params) mg base CX0 k fa fd [x] (sp (K w.params)))
    (hsp : ∀ (K : PySem.W.Frag) (H : Hp) (a : Addr) (ns : List Int), ns.length ≤ n → (∀ z ∈ ns, Builtin.Int.intBits z ≤ 1048576) → SqL K H a (ns.map V.int) → sp K [.ref a] H (fun v _ => v = .bl true) fun _ _ _ => False) :
    PySem.W.WalkO q loose XP YP l.row.toRowW d [] (fun f vs => PySem.call f vs) :=
  Att.attach_callB hn hd fun w s₀ s mg mb fa o pm cd doc a vs ns G Y _ _ _ hmg hob hi hl hb hg =>
    let ⟨_, bd, hF⟩ := F w mg fa _ (hY w _ Y) G.T.g hmg
    law_endG ⟨hY w _ Y, G.T.g, G.T.b, G.T.builtins, G.T.nolimit, hg, hob⟩ hi (Nat.le_trans hl h2) hr hF bd (fun H _ hS => hsp _ H a ns hl hb hS) fun _ _ _ z => z
end My
set_option Elab.async false
set_option linter.all false
set_option maxRecDepth 100000
set_option maxHeartbeats 4000000
/-! Comprehensions without a test, over a name. -/
namespace My
open PySem PySem.Spec PyProof.Rows L2
section
variable {K : PySem.W.Frag} {te : TE} {vs : List Nat} {σ : L2.St} {H1 : Hp} {D : Addr} {Qd : Hp → Prop} {j : Nat}
def Grows (te : TE) (D : Addr) (Pv : Hp → Prop) (σ : L2.St) (H : Hp) : Prop := te σ H fun y H4 => ∃ acc, H4 D = some (.lst acc) ∧ acc.length < sizeLine ∧ Pv (upd H4 D (.lst (acc ++ [y])))
theorem yes_turn {te : TE} {σ0 σ2 : L2.St} {H : Hp} {vs : List Nat} {R : V → Hp → Prop} {N : Hp → Prop} (a : wipe σ2 vs = wipe σ0 vs) (b : te σ2 H R) : wipe σ2 vs = wipe σ0 vs ∧ tYes σ2 H fun b H3 => if b = true then te σ2 H3 R else N H3 :=
  ⟨a, (if_pos rfl : (if true = true then te σ2 H R else N H) = te σ2 H R).mpr b⟩
def lcN_range {lo : Int} {n : Nat} (Pv : Nat → Hp → Prop) (h0 : Pv 0 (upd H1 D (.lst [])))
    (hs : ∀ i H, i < n → Pv i H → wipe ((wipe σ vs).set j (some (.int (lo + i)))) vs = wipe σ vs ∧ Grows te D (Pv (i + 1)) ((wipe σ vs).set j (some (.int (lo + i)))) H) (hd : ∀ H, Pv n H → Qd H) :=
  lc_range (lo := lo) (n := n) (g := gName j) (tt := tYes) (te := te) (vs := vs) (σ := σ) (H1 := H1) (D := D) (Qd := Qd) Pv h0 (fun i H hi p => yes_turn (hs i H hi p).1 (hs i H hi p).2) hd
def lcN_list {a : Addr} {xs : List V} (Pv : Nat → Hp → Prop) (h0 : Pv 0 (upd H1 D (.lst []))) (hl : ∀ i H, i ≤ xs.length → Pv i H → SqL K H a xs)
    (hs : ∀ i x H, xs[i]? = some x → Pv i H → wipe ((wipe σ vs).set j (some x)) vs = wipe σ vs ∧ Grows te D (Pv (i + 1)) ((wipe σ vs).set j (some x)) H) (hd : ∀ H, Pv xs.length H → Qd H) :=
  lc_list (K := K) (a := a) (xs := xs) (g := gName j) (tt := tYes) (te := te) (vs := vs) (σ := σ) (H1 := H1) (D := D) (Qd := Qd) Pv h0 hl (fun i x H hi p => yes_turn (hs i x H hi p).1 (hs i x H hi p).2) hd
def lcN_tup {a : Addr} {xs : List V} (Pv : Nat → Hp → Prop) (h0 : Pv 0 (upd H1 D (.lst []))) (hl : ∀ i H, i ≤ xs.length → Pv i H → SqT K H a xs)
    (hs : ∀ i x H, xs[i]? = some x → Pv i H → wipe ((wipe σ vs).set j (some x)) vs = wipe σ vs ∧ Grows te D (Pv (i + 1)) ((wipe σ vs).set j (some x)) H) (hd : ∀ H, Pv xs.length H → Qd H) :=
  lc_tup (K := K) (a := a) (xs := xs) (g := gName j) (tt := tYes) (te := te) (vs := vs) (σ := σ) (H1 := H1) (D := D) (Qd := Qd) Pv h0 hl (fun i x H hi p => yes_turn (hs i x H hi p).1 (hs i x H hi p).2) hd
end
end My
set_option Elab.async false
set_option linter.all false
set_option maxRecDepth 100000
set_option maxHeartbeats 4000000
/-! xs != [], t != (), == likewise, whatever the items are. -/
namespace My
open PySem PySem.Spec PyProof.Rows L2 SeqAt
section
variable {X : Cx}
/-- a list beside an empty list, a tuple beside an empty tuple -/
def rNil (K : PySem.W.Frag) (f : Bool → Bool) : R2 := fun x y H Q => ∃ a b xs, x = .ref a ∧ y = .ref b ∧ ((SqL K H a xs ∧ SqL K H b []) ∨ (SqT K H a xs ∧ SqT K H b [])) ∧ Q (.bl (f xs.isEmpty)) H
theorem vals_nil {its : List Value} (r : Vals [] its) : its = [] := by cases r; rfl
theorem vals_emp {xs : List V} {its : List Value} (r : Vals xs its) : (its.toArray.size == 0) = xs.isEmpty := by
  cases r <;> rfl
theorem op_neNil (hu : X.A.units + 64 < cLine) : OpR X (compareOp .NotEq) (rNil X.K not) := by
  intro pins s σ H x y v u Q I rx ry h
  obtain ⟨a, b, xs, rfl, rfl, h, q⟩ := h
  cases rx
  cases ry
  rcases h with ⟨ha, hb⟩ | ⟨ha, hb⟩
  · obtain ⟨its, rv, ⟨o, n, ho, hc, _, hd⟩, _⟩ := I.list ha
    obtain ⟨its2, rv2, ⟨o2, n2, ho2, hc2, _, hd2⟩, _⟩ := I.list hb
    cases vals_nil rv2
    have l1 : s.heap.IsList a its.toArray := ⟨o, ho, hc, n, hd⟩
    have l2 : s.heap.IsList b #[] := ⟨o2, ho2, hc2, n2, hd2⟩
    cases rv with
    | nil => exact RcNeAt.lists (e := fun _ => true) l1 l2 rfl (by omega) (fun j h1 => absurd h1 (Nat.not_lt_zero j)) _ _ _ _ ⟨.bl _, H, I, rfl, q⟩
    | cons r t => exact RcNeAt.lists_lengths l1 l2 (by simp) (by omega) _ _ _ _ ⟨.bl _, H, I, rfl, q⟩
  · obtain ⟨its, rv, ⟨o, ho, hc, n, hd⟩, _⟩ := I.tuple ha
    obtain ⟨its2, rv2, ⟨o2, ho2, hc2, n2, hd2⟩, _⟩ := I.tuple hb
    cases vals_nil rv2
    have l1 : s.heap.IsTuple a its.toArray := ⟨o, ho, hc, n, hd⟩
    have l2 : s.heap.IsTuple b #[] := ⟨o2, ho2, hc2, n2, hd2⟩
    refine RcNeAt.tuples (e := fun _ => true) l1 l2 (by omega) (fun j _ h2 => absurd h2 (Nat.not_lt_zero j)) _ _ _ _ ?_
    rw [show min its.toArray.size (#[] : Array Value).size = 0 from Nat.min_zero _]
    refine ⟨.bl (!xs.isEmpty), H, I, ?_, q⟩
    show Value.bool _ = Value.bool _
    rw [← vals_emp rv]
    simp
end
end My
set_option Elab.async false
set_option linter.all false
set_option maxRecDepth 100000
set_option maxHeartbeats 4000000
namespace My
open PySem PySem.Spec PyProof.Rows L2
def topS (i : Nat) : Stmt := PySem.Challenge.pw_shuntplan_k01_names_ends_rows.main.body.getD i (.Pass ⟨0, 0, 0, 0⟩)
abbrev sPen : Stmt := topS 11
abbrev sDraw : Stmt := topS 12
abbrev sPick : Stmt := topS 13
abbrev sShuf : Stmt := topS 14
abbrev sWag : Stmt := topS 15
abbrev sRow : Stmt := topS 16
abbrev sIsInt : Stmt := topS 4
abbrev sIsName : Stmt := topS 5
abbrev sIsWith : Stmt := topS 6
abbrev sIsEnd : Stmt := topS 7
abbrev sIsDir : Stmt := topS 8
abbrev sIsRow : Stmt := topS 9
abbrev sLName : Stmt := topS 17
abbrev sLPair : Stmt := topS 18
abbrev sLRow : Stmt := topS 19
abbrev sOdd : Stmt := topS 20
abbrev sChg : Stmt := topS 21
abbrev sLaw : Stmt := topS 22
theorem scPen : FnScope ["script"] ["script"] (defScope sPen) := ⟨rfl, rfl, rfl, by decide +kernel, rfl, by decide +kernel, by decide +kernel⟩
theorem scDraw : FnScope ["pen", "size", "digit", "turn", "cell", "primes", "prime", "mixed"] ["pen", "size"] (defScope sDraw) := ⟨rfl, rfl, rfl, by decide +kernel, rfl, by decide +kernel, by decide +kernel⟩
theorem scPick : FnScope ["pen", "options"] ["pen", "options"] (defScope sPick) := ⟨rfl, rfl, rfl, by decide +kernel, rfl, by decide +kernel, by decide +kernel⟩
theorem scShuf : FnScope ["pen", "some", "left", "found"] ["pen", "some"] (defScope sShuf) := ⟨rfl, rfl, rfl, by decide +kernel, rfl, by decide +kernel, by decide +kernel⟩
theorem scWag : FnScope ["pen", "many", "letters", "k", "front", "first", "step", "found", "place"] ["pen", "many"] (defScope sWag) := ⟨rfl, rfl, rfl, by decide +kernel, rfl, by decide +kernel, by decide +kernel⟩
theorem scRow : FnScope ["pen", "wagons", "name"] ["pen", "wagons"] (defScope sRow) := ⟨rfl, rfl, rfl, by decide +kernel, rfl, by decide +kernel, by decide +kernel⟩
theorem scIsInt : FnScope ["value"] ["value"] (defScope sIsInt) := ⟨rfl, rfl, rfl, by decide +kernel, rfl, by decide +kernel, by decide +kernel⟩
theorem scIsName : FnScope ["value", "letter"] ["value"] (defScope sIsName) := ⟨rfl, rfl, rfl, by decide +kernel, rfl, by decide +kernel, by decide +kernel⟩
theorem scIsWith : FnScope ["value", "numbers"] ["value", "numbers"] (defScope sIsWith) := ⟨rfl, rfl, rfl, by decide +kernel, rfl, by decide +kernel, by decide +kernel⟩
theorem scIsEnd : FnScope ["value"] ["value"] (defScope sIsEnd) := ⟨rfl, rfl, rfl, by decide +kernel, rfl, by decide +kernel, by decide +kernel⟩
theorem scIsDir : FnScope ["value"] ["value"] (defScope sIsDir) := ⟨rfl, rfl, rfl, by decide +kernel, rfl, by decide +kernel, by decide +kernel⟩
theorem scIsRow : FnScope ["value", "wagon", "name", "_"] ["value"] (defScope sIsRow) := ⟨rfl, rfl, rfl, by decide +kernel, rfl, by decide +kernel, by decide +kernel⟩
theorem scLName : FnScope ["value", "sign"] ["value"] (defScope sLName) := ⟨rfl, rfl, rfl, by decide +kernel, rfl, by decide +kernel, by decide +kernel⟩
theorem scLPair : FnScope ["value", "numbers"] ["value", "numbers"] (defScope sLPair) := ⟨rfl, rfl, rfl, by decide +kernel, rfl, by decide +kernel, by decide +kernel⟩
theorem scLRow : FnScope ["value", "one"] ["value"] (defScope sLRow) := ⟨rfl, rfl, rfl, by decide +kernel, rfl, by decide +kernel, by decide +kernel⟩
theorem scOdd : FnScope ["pen", "some"] ["pen"] (defScope sOdd) := ⟨rfl, rfl, rfl, by decide +kernel, rfl, by decide +kernel, by decide +kernel⟩
theorem scChg : FnScope ["pen", "value", "way", "at"] ["pen", "value"] (defScope sChg) := ⟨rfl, rfl, rfl, by decide +kernel, rfl, by decide +kernel, by decide +kernel⟩
theorem scLaw : FnScope ["script", "pen", "turn", "wagons", "values", "k", "value", "kept", "due"] ["script"] (defScope sLaw) := ⟨rfl, rfl, rfl, by decide +kernel, rfl, by decide +kernel, by decide +kernel⟩
end My
set_option Elab.async false
set_option linter.all false
set_option maxRecDepth 100000
set_option maxHeartbeats 4000000
namespace My
open PySem PySem.Spec PyProof.Rows L2

/-! ### the pen: where the drawing stands -/
def kCells : Key := .inr "cells"
def kTurn : Key := .inr "turn"
def kRest : Key := .inr "rest"
theorem k12 : ¬ kCells = kTurn := by decide +kernel
theorem k13 : ¬ kCells = kRest := by decide +kernel
theorem k23 : ¬ kTurn = kRest := by decide +kernel
def penL (c : Addr) (t r : Int) : List (Key × V) := [(kCells, .ref c), (kTurn, .int t), (kRest, .int r)]
theorem penL_cells (c : Addr) (t r : Int) : valV (penL c t r) kCells = some (.ref c) := valV_pos (p := (kCells, V.ref c)) rfl
theorem penL_turn (c : Addr) (t r : Int) : valV (penL c t r) kTurn = some (.int t) := (valV_neg (p := (kCells, V.ref c)) k12).trans (valV_pos (p := (kTurn, V.int t)) rfl)
theorem penL_rest (c : Addr) (t r : Int) : valV (penL c t r) kRest = some (.int r) :=
  ((valV_neg (p := (kCells, V.ref c)) k13).trans (valV_neg (p := (kTurn, V.int t)) k23)).trans (valV_pos (p := (kRest, V.int r)) rfl)
theorem put_turn (c : Addr) (t r y : Int) : putK (penL c t r) kTurn (.int y) = penL c y r := by
  unfold putK penL
  rw [if_pos (by simp)]
  simp only [List.map_cons, List.map_nil]
  rw [if_neg k12, if_pos trivial, if_neg fun z => k23 z.symm]
theorem put_rest (c : Addr) (t r y : Int) : putK (penL c t r) kRest (.int y) = penL c t y := by
  unfold putK penL
  rw [if_pos (by simp)]
  simp only [List.map_cons, List.map_nil]
  rw [if_neg k13, if_neg k23, if_pos trivial]
/-- at most n draws were made; the cells stand at c -/
structure PenAt (H : Hp) (p c : Addr) (n : Nat) : Prop where
  ex : ∃ (ns : List Int) (t r : Int), H p = some (.dK (penL c t r)) ∧ H c = some (.lst (ns.map V.int)) ∧ ns.length ≤ 63 ∧ 0 ≤ t ∧ t ≤ n
theorem PenAt.mono {H : Hp} {p c : Addr} {n m : Nat} (h : PenAt H p c n) (k : n ≤ m) : PenAt H p c m := let ⟨⟨ns, t, r, a, b, d, e, f⟩⟩ := h; ⟨⟨ns, t, r, a, b, d, e, by omega⟩⟩
theorem PenAt.ne {H : Hp} {p c : Addr} {n : Nat} (h : PenAt H p c n) : c ≠ p := let ⟨⟨_, _, _, a, b, _⟩⟩ := h; ne_of b a (fun z => nomatch z)
theorem penAt_of {H : Hp} {p c : Addr} {n : Nat} {kvs : List (Key × V)} {ns : List Int} {t r : Int} (e : kvs = penL c t r) (h : H p = some (.dK kvs)) (hc : H c = some (.lst (ns.map V.int))) (hl : ns.length ≤ 63) (h0 : 0 ≤ t) (h1 : t ≤ n) : PenAt H p c n :=
  ⟨⟨ns, t, r, e ▸ h, hc, hl, h0, h1⟩⟩
/-- all that was tracked is as it was, but the pen -/
def SameP (p : Addr) (H H' : Hp) : Prop := ∀ b o, b ≠ p → H b = some o → H' b = some o
theorem SameP.refl (p : Addr) (H : Hp) : SameP p H H := fun _ _ _ h => h
theorem SameP.trans {p : Addr} {H H1 H2 : Hp} (a : SameP p H H1) (b : SameP p H1 H2) : SameP p H H2 := fun c o n h => b c o n (a c o n h)
theorem SameP.of {p : Addr} {H H' : Hp} (a : Same H H') : SameP p H H' := fun c o _ h => a c o h
theorem same_new {H : Hp} {q : Addr} {o : HO} (h : H q = none) : Same H (upd H q o) := fun b x e => by rw [upd_ne (ne_of_none e h)]; exact e
theorem SameP.new {p : Addr} {H : Hp} {q : Addr} {o : HO} (h : H q = none) : SameP p H (upd H q o) := .of (same_new h)
theorem SameP.pen {p : Addr} {H : Hp} {o : HO} : SameP p H (upd H p o) := fun b x n e => by rw [upd_ne n]; exact e
theorem PenAt.same {H H' : Hp} {p c : Addr} {n : Nat} (h : PenAt H p c n) (s : Same H H') : PenAt H' p c n := let ⟨⟨ns, t, r, a, b, d, e, f⟩⟩ := h; ⟨⟨ns, t, r, s _ _ a, s _ _ b, d, e, f⟩⟩

/-! ### the draw's numbers -/
theorem mod_lo (a : Int) {b : Int} (h : 0 < b) : 0 ≤ a % b := Int.emod_nonneg a (by omega)
theorem mod_hi (a : Int) {b : Int} (h : 0 < b) : a % b < b := Int.emod_lt_of_pos a h
def primesL : List Int := [2147483629, 2147483647, 2147483563, 2147483587, 2147483579]
theorem prime_at (t : Int) : ∃ q : Int, atI (primesL.map V.int) (t % 5) = some (.int q) ∧ 0 < q ∧ q < 2147483648 := by
  have h1 := mod_lo t (b := 5) (by decide)
  have h2 := mod_hi t (b := 5) (by decide)
  have h3 : t % 5 = 0 ∨ t % 5 = 1 ∨ t % 5 = 2 ∨ t % 5 = 3 ∨ t % 5 = 4 := by omega
  rcases h3 with e | e | e | e | e <;> rw [e]
  · exact ⟨2147483629, rfl, by decide, by decide⟩
  · exact ⟨2147483647, rfl, by decide, by decide⟩
  · exact ⟨2147483563, rfl, by decide, by decide⟩
  · exact ⟨2147483587, rfl, by decide, by decide⟩
  · exact ⟨2147483579, rfl, by decide, by decide⟩
theorem cmul_l {i j : Int} (h0 : 0 ≤ i) (h1 : i ≤ 10 ^ 19) : CMul i j := .inl ⟨by omega, by
  have h : (10 : Int) ^ 19 < 2 ^ 64 := by decide
  exact Int.lt_of_le_of_lt h1 h⟩

/-! ### lists of ints as data -/
theorem dp_ints (K : PySem.W.Frag) (H : Hp) : ∀ ns : List Int, DpAll K H (ns.map V.int) (ns.map PyData.int)
  | [] => .nil
  | n :: r => .cons (.int n) (dp_ints K H r)
theorem lay_ints : ∀ ns : List Int, PyData.canLayAll0 (ns.map PyData.int) = true
  | [] => by simp only [List.map_nil, PyData.canLayAll0]
  | n :: r => by simp only [List.map_cons, PyData.canLayAll0, PyData.canLay0, lay_ints r, Bool.and_self]
theorem depth_ints : ∀ ns : List Int, PyData.depthAll (ns.map PyData.int) = 0
  | [] => by simp only [List.map_nil, PyData.depthAll]
  | n :: r => by simp only [List.map_cons, PyData.depthAll, PyData.depth, depth_ints r, Nat.max_self]
theorem shaped_ints (ns : List Int) : SeqAt.shaped (.list (ns.map PyData.int)) = true := by
  unfold SeqAt.shaped
  simp only [PyData.canLay0, lay_ints, PyData.depth, depth_ints]
  decide
theorem eqv_nil (ds : List PyData) : PyData.eqv (.list ds) (.list []) = ds.isEmpty := by
  cases ds <;> simp only [PyData.eqv, PyData.eqvAll, List.isEmpty]

section
variable {P : Program} {w : World} {K : PySem.W.Frag} {mg : Str → Option Value} {base : Heap}
/-- a number below size is drawn; nothing but the pen is touched -/
def spDraw : Sp := fun vs H Q _ => ∃ (p c : Addr) (n : Nat) (size : Int), vs = [.ref p, .int size] ∧ PenAt H p c n ∧ n ≤ 1000000000 ∧ 0 < size ∧ size < 1073741824 ∧
  ∀ (d : Int) (H' : Hp), 0 ≤ d → d < size → SameP p H H' → PenAt H' p c (n + 1) → Q (.int d) H'
theorem ok_draw {f : Addr} {fd : FuncData} {k : Nat} (F : Fun K "_law_draw" "_law_draw" sDraw f fd) (ml : mg "len" = none) (ma : mg "abs" = none) : FnOk P w K mg base CX0 (k + 1) f fd ["pen", "size"] spDraw := by
  refine F.ok scDraw (fun vs H Q E h => ?_) (fun cdv A outer s H vs Q E hr h => ?_)
  · obtain ⟨p, c, n, size, rfl, _⟩ := h
    rfl
  · obtain ⟨p, c, n, size, rfl, ⟨⟨ns, t, r, hp, hc, hlen, t0, tn⟩⟩, hn, s0, s1, q⟩ := h
    have hu := hu_of hr
    have hcp : c ≠ p := ne_of hc hp (fun z => nomatch z)
    refine ⟨_, pss_cons (ps_if (pt_cmpR op_gt (pe_dget hu (pv 0) pe_str (fun _ _ => rfl)) pe_int (nomark _))
        (pss_cons (ps_set (i := 2) scDraw.nd rfl (.inl rfl) (pe_op op_mod (pe_dget hu (pv 0) pe_str (fun _ _ => rfl)) (pv 1)))
        (pss_cons (ps_dput hu (pv 0) pe_str (pe_op op_fdiv (pe_dget hu (pv 0) pe_str (fun _ _ => rfl)) (pv 1)) rfl)
        (pss_one (ps_ret (pv 2))))) pss_nil)
      (pss_cons (ps_set (i := 3) scDraw.nd rfl (.inl rfl) (pe_dget hu (pv 0) pe_str (fun _ _ => rfl)))
      (pss_cons (ps_dput hu (pv 0) pe_str (pe_op op_add (pv 3) pe_int) rfl)
      (pss_cons (ps_set (i := 4) scDraw.nd rfl (.inl rfl) (pe_op op_add (pe_op op_mul pe_int (pv 3)) pe_int))
      (Evl.pss_cut (ps_if (pt_cmpR (op_neD hr.units) (pe_dget hu (pv 0) pe_str (fun _ _ => rfl)) (pe_lst pa_nil) (nomark _))
        (pss_one (ps_set (i := 4) scDraw.nd rfl (.inl rfl) (pe_ix ix_list (pe_dget hu (pv 0) pe_str (fun _ _ => rfl)) (pe_op op_mod (pv 3) (pe_callB call_len_seq (by rfl) ml PySem.boot_len (pa_cons (pe_dget hu (pv 0) pe_str (fun _ _ => rfl)) pa_nil))) (fun _ _ => rfl)))) pss_nil)
      (Evl.pss_cut (ps_if (PW.pt (pw_and (pt_cmpR op_lt (pv 3) (pe_callB call_len_seq (by rfl) ml PySem.boot_len (pa_cons (pe_dget hu (pv 0) pe_str (fun _ _ => rfl)) pa_nil)) (nomark _))
            (pw_and1 (pt_cmpR op_ge (pe_callB call_abs (by rfl) ma (by decide +kernel) (pa_cons (pv 4) pa_nil)) (pe_op op_pow pe_int pe_int) (nomark _)))))
          (pss_cons (ps_dput hu (pv 0) pe_str (pe_op op_fdiv (pe_op op_sub (pe_callB call_abs (by rfl) ma (by decide +kernel) (pa_cons (pv 4) pa_nil)) (pe_op op_pow pe_int pe_int)) (pv 1)) rfl)
          (pss_one (ps_ret (pe_op op_mod (pe_op op_sub (pe_callB call_abs (by rfl) ma (by decide +kernel) (pa_cons (pv 4) pa_nil)) (pe_op op_pow pe_int pe_int)) (pv 1))))) pss_nil)
      (pss_cons (ps_set (i := 5) scDraw.nd rfl (.inl rfl) (pe_lst (pa_cons pe_int (pa_cons pe_int (pa_cons pe_int (pa_cons pe_int (pa_cons pe_int pa_nil)))))))
      (pss_cons (ps_set (i := 6) scDraw.nd rfl (.inl rfl) (pe_ix ix_list (pv 5) (pe_op op_mod (pv 3) pe_int) (fun _ _ => rfl)))
      (pss_cons (ps_set (i := 7) scDraw.nd rfl (.inl rfl) (pe_op op_mod (pe_op op_add (pe_op op_add (pe_op op_add (pe_op op_mul (pe_op op_mod (pv 4) pe_int) pe_int) (pe_op op_mul (pe_op op_mul pe_int (pv 3)) (pv 3))) (pe_op op_mul pe_int (pv 3))) pe_int) (pv 6)))
      (pss_cons (ps_set (i := 7) scDraw.nd rfl (.inl rfl) (pe_op op_mod (pe_op op_add (pe_op op_add (pe_op op_add (pe_op op_mul (pv 7) (pv 7)) (pe_op op_mul pe_int (pv 7))) (pe_op op_mul pe_int (pv 3))) pe_int) pe_int))
      (pss_one (ps_ret (pe_op op_mod (pe_op op_fdiv (pe_op op_mod (pe_op op_mul (pv 7) (pe_op op_add (pv 7) pe_int)) pe_int) pe_int) (pv 1))))))))))))), ?_⟩
    -- if pen['rest'] > 0
    refine ⟨_, rfl, p, _, rfl, penL_rest c t r ▸ DGet.k (k := kRest) hp, r, 0, rfl, rfl, _, rfl, ite2 (fun _ => ?_) (fun _ => ?_)⟩
    · refine ⟨_, rfl, p, _, rfl, penL_rest c t r ▸ DGet.k (k := kRest) hp, _, rfl, r, size, rfl, rfl, s0, ?_⟩
      refine ⟨_, rfl, p, _, rfl, penL_rest c t r ▸ DGet.k (k := kRest) hp, _, rfl, r, size, rfl, rfl, ⟨s0, s1⟩, _, rfl, p, _, rfl, DPut.k (k := kRest) hp (by show 3 < sizeLine; decide), ?_⟩
      exact ⟨_, rfl, q _ _ (mod_lo r s0) (mod_hi r s0) SameP.pen (penAt_of (put_rest c t r _) upd_same ((upd_ne hcp).trans hc) hlen t0 (by omega))⟩
    -- turn = pen['turn']; pen['turn'] = turn + 1; cell = 61 * turn + 17
    · refine ⟨_, rfl, p, _, rfl, penL_turn c t r ▸ DGet.k (k := kTurn) hp, ?_⟩
      refine ⟨_, rfl, _, _, rfl, rfl, _, rfl, p, _, rfl, DPut.k (k := kTurn) hp (by show 3 < sizeLine; decide), ?_⟩
      rw [put_turn]
      generalize hH1 : upd H p (.dK (penL c (t + 1) r)) = H1
      have p1 : H1 p = some (.dK (penL c (t + 1) r)) := by rw [← hH1, upd_same]
      have c1 : H1 c = some (.lst (ns.map V.int)) := by rw [← hH1, upd_ne hcp]; exact hc
      have sm : SameP p H H1 := by rw [← hH1]; exact SameP.pen
      refine ⟨_, rfl, _, _, rfl, rfl, .inl ⟨by decide, by decide⟩, _, _, rfl, rfl, ?_⟩
      -- if pen['cells'] != []
      refine ⟨fun σ H2 => ∃ cell : Int, σ = [some (.ref p), some (.int size), none, some (.int t), some (.int cell), none, none, none] ∧ Same H1 H2, ?_, ?_⟩
      · refine ⟨_, rfl, p, _, rfl, penL_cells c (t + 1) r ▸ DGet.k (k := kCells) p1, by show 0 ≤ sizeLine; decide, fun l hl => ?_⟩
        have sl : Same H1 (upd H1 l (.lst [])) := same_new hl
        have c2 := sl _ _ c1
        have p2 := sl _ _ p1
        refine ⟨.list (ns.map PyData.int), .list [], .lst (.inl (.inl c2)) (dp_ints K _ ns), .lst (.inl (.inl upd_same)) .nil, shaped_ints ns, shaped_ints [], _, rfl, ?_⟩
        rw [eqv_nil]
        cases ns with
        | nil => exact iteF ⟨_, rfl, sl⟩
        | cons n0 nr =>
          refine iteT ?_
          have lp : (0 : Int) < (((n0 :: nr).map V.int).length : Int) := by simp
          obtain ⟨j, hj⟩ : ∃ j : Nat, t % (((n0 :: nr).map V.int).length : Int) = (j : Int) := ⟨(t % (((n0 :: nr).map V.int).length : Int)).toNat, by have := mod_lo t lp; omega⟩
          have hjl : j < (n0 :: nr).length := by
            have h2 := mod_hi t lp
            rw [hj, List.length_map] at h2
            omega
          refine ⟨_, rfl, p, _, rfl, penL_cells c (t + 1) r ▸ DGet.k (k := kCells) p2, _, rfl, _, rfl, p, _, rfl, penL_cells c (t + 1) r ▸ DGet.k (k := kCells) p2, c, _, rfl, .inl (.inl (.inl c2)), t, _, rfl, rfl, lp, ?_⟩
          refine ⟨c, _, _, .int (n0 :: nr)[j], rfl, rfl, .inl (.inl c2), ?_, ⟨_, rfl, sl⟩⟩
          rw [hj]
          refine atI_nat ?_
          rw [List.getElem?_map, List.getElem?_eq_getElem hjl]
          rfl
      · -- if turn < len(cells) and abs(cell) >= 10 ** 18
        rintro σ H2 ⟨cell, rfl, s2⟩
        have c2 := s2 _ _ c1
        have p2 := s2 _ _ p1
        have sm2 : SameP p H H2 := sm.trans (.of s2)
        refine ⟨fun σ H3 => σ = [some (.ref p), some (.int size), none, some (.int t), some (.int cell), none, none, none] ∧ H3 = H2, ?_, ?_⟩
        · refine ⟨_, rfl, _, rfl, p, _, rfl, penL_cells c (t + 1) r ▸ DGet.k (k := kCells) p2, c, _, rfl, .inl (.inl (.inl c2)), _, _, rfl, rfl, _, rfl, ite2 (fun _ => ?_) (fun _ => iteF ⟨rfl, rfl⟩)⟩
          refine ⟨_, rfl, _, rfl, _, _, rfl, rfl, ⟨by decide, by decide, by decide⟩, _, _, rfl, rfl, _, rfl, ite2 (fun _ => ?_) (fun _ => ⟨rfl, rfl⟩)⟩
          refine ⟨_, rfl, _, rfl, _, _, rfl, rfl, ⟨by decide, by decide, by decide⟩, _, _, rfl, rfl, _, rfl, _, _, rfl, rfl, ⟨s0, s1⟩, _, rfl, p, _, rfl, DPut.k (k := kRest) p2 (by show 3 < sizeLine; decide), ?_⟩
          refine ⟨_, rfl, _, rfl, _, _, rfl, rfl, ⟨by decide, by decide, by decide⟩, _, _, rfl, rfl, _, rfl, _, _, rfl, rfl, s0, ?_⟩
          exact q _ _ (mod_lo _ s0) (mod_hi _ s0) (sm2.trans SameP.pen) (penAt_of (put_rest c (t + 1) r _) upd_same ((upd_ne hcp).trans c2) hlen (by omega) (by omega))
        · rintro σ H3 ⟨rfl, rfl⟩
          -- primes, prime
          refine ⟨by show 5 ≤ sizeLine; decide, fun l hl => ?_⟩
          have sl : Same H3 (upd H3 l (.lst (primesL.map V.int))) := same_new hl
          obtain ⟨pr, hpr, pr0, pr1⟩ := prime_at t
          refine ⟨_, rfl, _, rfl, t, 5, rfl, rfl, (by show (0 : Int) < 5; decide), l, primesL.map V.int, _, _, rfl, rfl, .inl (.inl upd_same), hpr, ?_⟩
          -- mixed
          have tb : t ≤ 1000000000 := by omega
          have m1 := mod_lo cell (b := 4294967291) (by decide)
          have m2 := mod_hi cell (b := 4294967291) (by decide)
          refine ⟨_, rfl, _, _, rfl, rfl, (by show (0 : Int) < 4294967291; decide), _, _, rfl, rfl, cmul_l m1 (by omega), _, rfl, _, _, rfl, rfl, cmul_l (by decide) (by decide), _, rfl, _, _, rfl, rfl, cmul_l (by omega) (by omega), _, _, rfl, rfl,
            _, rfl, _, _, rfl, rfl, cmul_l (by decide) (by decide), _, _, rfl, rfl, _, _, rfl, rfl, _, rfl, _, _, rfl, rfl, pr0, ?_⟩
          have lt1 : ∀ a : Int, a % pr ≤ 10 ^ 19 := fun a => Int.le_trans (Int.le_of_lt (mod_hi a pr0)) (by omega)
          have lt2 : ∀ a : Int, a % 4294967279 ≤ 10 ^ 19 := fun a => Int.le_trans (Int.le_of_lt (mod_hi a (by decide))) (by decide)
          refine ⟨_, rfl, _, rfl, _, _, rfl, rfl, cmul_l (mod_lo _ pr0) (lt1 _), _, rfl, _, _, rfl, rfl, cmul_l (by decide) (by decide), _, _, rfl, rfl, _, rfl, _, _, rfl, rfl, cmul_l (by decide) (by decide), _, _, rfl, rfl, _, _, rfl, rfl,
            _, _, rfl, rfl, (by show (0 : Int) < 4294967279; decide), ?_⟩
          refine ⟨_, rfl, _, rfl, _, _, rfl, rfl, _, _, rfl, rfl, cmul_l (mod_lo _ (by decide)) (lt2 _), _, _, rfl, rfl, (by show (0 : Int) < 4294967231; decide), _, _, rfl, rfl, ⟨by decide, by decide⟩, _, rfl, _, _, rfl, rfl, s0, ?_⟩
          exact q _ _ (mod_lo _ s0) (mod_hi _ s0) (sm2.trans (.of sl)) (penAt_of (t := t + 1) (r := r) rfl (sl _ _ p2) (sl _ _ c2) hlen (by omega) (by omega))
end
/-! ### what stays when a pen draws -/
theorem sameP_ne {p c : Addr} {H : Hp} {n : Nat} (g : PenAt H p c n) {a : Addr} {o : HO} (e : H a = some o) (h : ∀ kvs, o ≠ .dK kvs) : a ≠ p := by
  obtain ⟨⟨_, _, _, hp, _⟩⟩ := g
  rintro rfl
  rw [e] at hp
  exact h _ (Option.some.inj hp)
section
variable {K : PySem.W.Frag} {H H' : Hp} {p c : Addr} {n : Nat}
theorem SameP.lst (s : SameP p H H') (g : PenAt H p c n) {a : Addr} {xs : List V} (e : H a = some (.lst xs)) : H' a = some (.lst xs) := s _ _ (sameP_ne g e fun _ z => nomatch z) e
theorem SameP.tup (s : SameP p H H') (g : PenAt H p c n) {a : Addr} {xs : List V} (e : H a = some (.tup xs)) : H' a = some (.tup xs) := s _ _ (sameP_ne g e fun _ z => nomatch z) e
theorem SameP.sqL (s : SameP p H H') (g : PenAt H p c n) {a : Addr} {xs : List V} (e : SqL K H a xs) : SqL K H' a xs := by
  rcases e with (e | ⟨o, e⟩) | e
  · exact .inl (.inl (s.lst g e))
  · exact .inl (.inr ⟨o, s _ _ (sameP_ne g e fun _ z => nomatch z) e⟩)
  · exact .inr e
theorem SameP.sqT (s : SameP p H H') (g : PenAt H p c n) {a : Addr} {xs : List V} (e : SqT K H a xs) : SqT K H' a xs := by
  rcases e with (e | ⟨o, e⟩) | e
  · exact .inl (.inl (s.tup g e))
  · exact .inl (.inr ⟨o, s _ _ (sameP_ne g e fun _ z => nomatch z) e⟩)
  · exact .inr e
/-- lists and tuples that were read are read so again -/
structure Keeps (K : PySem.W.Frag) (H H' : Hp) : Prop where
  l : ∀ a xs, SqL K H a xs → SqL K H' a xs
  t : ∀ a xs, SqT K H a xs → SqT K H' a xs
theorem SameP.keeps (s : SameP p H H') (g : PenAt H p c n) : Keeps K H H' := ⟨fun _ _ e => s.sqL g e, fun _ _ e => s.sqT g e⟩
theorem _root_.L2.Same.keeps (s : Same H H') : Keeps K H H' := ⟨fun _ _ e => s.seq e, fun a xs e => by
  rcases e with (e | ⟨o, e⟩) | e
  · exact .inl (.inl (s _ _ e))
  · exact .inl (.inr ⟨o, s _ _ e⟩)
  · exact .inr e⟩
mutual
theorem dp_keep (s : Keeps K H H') : ∀ (d : PyData) (v : V), Dp K H v d → Dp K H' v d
  | .none, _, h => by cases h; exact .non
  | .bool _, _, h => by cases h; exact .bl _
  | .int _, _, h => by cases h; exact .int _
  | .str _, _, h => by cases h; exact .str _
  | .list ds, _, h => by
    cases h with
    | lst a b => exact .lst (s.l _ _ a) (dp_keepAll s ds _ b)
  | .tuple ds, _, h => by
    cases h with
    | tup a b => exact .tup (s.t _ _ a) (dp_keepAll s ds _ b)
  | .dict _, _, h => by cases h
theorem dp_keepAll (s : Keeps K H H') : ∀ (ds : List PyData) (vs : List V), DpAll K H vs ds → DpAll K H' vs ds
  | [], _, h => by cases h; exact .nil
  | d :: ds, _, h => by
    cases h with
    | cons a b => exact .cons (dp_keep s d _ a) (dp_keepAll s ds _ b)
end
/-- a list, a tuple, a text, by its items -/
inductive SeqOf (K : PySem.W.Frag) (H : Hp) : V → List V → Prop
  | lst {a : Addr} {xs : List V} : SqL K H a xs → SeqOf K H (.ref a) xs
  | tup {a : Addr} {xs : List V} : SqT K H a xs → SeqOf K H (.ref a) xs
  | str {z : Str} : z.length ≤ sizeLine → SeqOf K H (.str z) (z.cps.toList.map fun c => .str ⟨#[c]⟩)
theorem SeqOf.keep (s : Keeps K H H') {x : V} {xs : List V} (h : SeqOf K H x xs) : SeqOf K H' x xs := by
  cases h with
  | lst e => exact .lst (s.l _ _ e)
  | tup e => exact .tup (s.t _ _ e)
  | str e => exact .str e
theorem SeqOf.len {x : V} {xs : List V} (h : SeqOf K H x xs) : LenV K x H xs.length := by
  cases h with
  | lst e => exact .inl ⟨_, e, rfl⟩
  | tup e => exact .inr ⟨_, e, rfl⟩
  | @str z e =>
    refine ⟨e, ?_⟩
    rw [List.length_map, Array.length_toList]
    rfl
theorem SeqOf.ix {x : V} {xs : List V} (h : SeqOf K H x xs) {i : Nat} {v : V} (hi : xs[i]? = some v) {Q : VK} (q : Q v H) : rIx K x (.int i) H Q := by
  cases h with
  | lst e => exact .inl ⟨_, _, _, _, rfl, rfl, e, atI_nat hi, q⟩
  | tup e => exact .inr (.inl ⟨_, _, _, _, rfl, rfl, e, atI_nat hi, q⟩)
  | @str z e =>
    rw [List.getElem?_map] at hi
    obtain ⟨cd, h1, rfl⟩ := Option.map_eq_some_iff.mp hi
    exact .inr (.inr ⟨_, _, _, rfl, rfl, e, atI_nat h1, q⟩)
end

section
variable {P : Program} {w : World} {K : PySem.W.Frag} {mg : Str → Option Value} {base : Heap}
/-- one of the options -/
def spPick (K : PySem.W.Frag) : Sp := fun vs H Q _ => ∃ (p c : Addr) (n : Nat) (o : V) (xs : List V), vs = [.ref p, o] ∧ PenAt H p c n ∧ n ≤ 1000000000 ∧ SeqOf K H o xs ∧ 0 < xs.length ∧ xs.length < 1073741824 ∧
  ∀ (i : Nat) (v : V) (H' : Hp), xs[i]? = some v → SameP p H H' → PenAt H' p c (n + 1) → Q v H'
theorem ok_pick {f fD : Addr} {fd fdD : FuncData} {k : Nat} (F : Fun K "_law_pick" "_law_pick" sPick f fd) (ml : mg "len" = none) (GD : FnOk P w K mg base CX0 k fD fdD ["pen", "size"] spDraw) (gD : mg "_law_draw" = some (.ref fD)) (kD : PySem.W.keepIn K (.ref fD) = true)
    (bD : Binds K fdD ["pen", "size"] []) : FnOk P w K mg base CX0 (k + 1) f fd ["pen", "options"] (spPick K) := by
  refine F.ok scPick (fun vs H Q E h => ?_) (fun cdv A outer s H vs Q E hr h => ?_)
  · obtain ⟨p, c, n, o, xs, rfl, _⟩ := h
    rfl
  · obtain ⟨p, c, n, o, xs, rfl, G, hn, hx, h0, h1, q⟩ := h
    refine ⟨_, pss_one (ps_ret (pe_ix ix_seq (pv 1) (pe_call GD hr (by rfl) gD kD bD .nil pass0 (pa_cons (pv 0) (pa_cons (pe_callB call_len (by rfl) ml PySem.boot_len (pa_cons (pv 1) pa_nil)) pa_nil))) (fun _ _ => rfl))), ?_⟩
    refine ⟨_, rfl, _, rfl, _, rfl, o, xs.length, rfl, hx.len, p, c, n, _, rfl, G, hn, by omega, by omega, fun d H' d0 d1 s G' => ?_⟩
    obtain ⟨i, rfl⟩ : ∃ i : Nat, d = (i : Int) := ⟨d.toNat, by omega⟩
    have hi : i < xs.length := by omega
    exact SeqOf.ix (hx.keep (s.keeps G)) (List.getElem?_eq_getElem hi) (q i _ H' (List.getElem?_eq_getElem hi) s G')
end
end My
set_option Elab.async false
set_option linter.all false
set_option maxRecDepth 100000
set_option maxHeartbeats 4000000
namespace My
open PySem PySem.Spec PyProof.Rows L2
theorem penL_made (c : Addr) : mergeK [] [(kCells, V.ref c), (kTurn, V.int 0), (kRest, V.int 0)] = penL c 0 0 := by
  unfold mergeK penL
  simp only [List.foldl_cons, List.foldl_nil]
  rw [putK_new (kvs := []) _ rfl, List.nil_append, putK_new _ (show valV [(kCells, V.ref c)] kTurn = none from valV_neg k12), List.singleton_append,
    putK_new _ (show valV [(kCells, V.ref c), (kTurn, V.int 0)] kRest = none from (valV_neg k13).trans (valV_neg k23))]
  rfl
theorem cut_ints (ns : List Int) (lo hi : Option Int) : ∃ ms : List Int, cutV (ns.map V.int) lo hi = ms.map V.int ∧ ms.length ≤ ns.length := by
  refine ⟨(ns.drop (HT.sIx (ns.map V.int).length 0 lo)).take (HT.sIx (ns.map V.int).length (ns.map V.int).length hi - HT.sIx (ns.map V.int).length 0 lo), ?_, ?_⟩
  · unfold cutV
    rw [List.map_take, List.map_drop]
  · rw [List.length_take, List.length_drop]
    omega
section
variable {P : Program} {w : World} {K : PySem.W.Frag} {mg : Str → Option Value} {base : Heap}
/-- a pen over a script -/
def spPen (K : PySem.W.Frag) : Sp := fun vs H Q _ => ∃ (a : Addr) (ns : List Int), vs = [.ref a] ∧ SqL K H a (ns.map V.int) ∧ ns.length ≤ 63 ∧ ∀ (p c : Addr) (H' : Hp), H p = none → Same H H' → PenAt H' p c 0 → Q (.ref p) H'
theorem ok_pen {f : Addr} {fd : FuncData} (F : Fun K "_law_pen" "_law_pen" sPen f fd) (ml : mg "list" = none) : FnOk P w K mg base CX0 1 f fd ["script"] (spPen K) := by
  refine F.ok scPen (fun vs H Q E h => ?_) (fun cdv A outer s H vs Q E hr h => ?_)
  · obtain ⟨a, ns, rfl, _⟩ := h
    rfl
  · obtain ⟨a, ns, rfl, hS, hl, q⟩ := h
    refine ⟨_, pss_one (ps_ret (pe_disp (pps_cons pe_str (pe_callTy call_list_of (by rfl) ml (by decide +kernel) (pa_cons (pe_slice sl_list (pv 0) po_none (po_some pe_int)) pa_nil))
      (pps_cons pe_str pe_int (pps_cons pe_str pe_int pps_nil))) (by rfl) (by rfl) (fun z => by cases z) (by decide))), ?_⟩
    intro p hp
    have sp := same_new (o := HO.dK []) hp
    refine ⟨_, rfl, _, rfl, a, _, rfl, sp.seq hS, fun b hb => ?_⟩
    have sb := same_new (o := HO.lst (cutV (ns.map V.int) none (some 63))) hb
    refine ⟨b, _, rfl, .inl (.inl (.inl upd_same)), fun c hc => ?_⟩
    have sc := same_new (o := HO.lst (cutV (ns.map V.int) none (some 63))) hc
    have p1 : (upd (upd (upd H p (.dK [])) b (.lst (cutV (ns.map V.int) none (some 63)))) c (.lst (cutV (ns.map V.int) none (some 63)))) p = some (.dK []) := sc _ _ (sb _ _ upd_same)
    refine ⟨p1, [(kCells, .ref c), (kTurn, .int 0), (kRest, .int 0)], rfl, ?_⟩
    obtain ⟨ms, em, lm⟩ := cut_ints ns none (some 63)
    have npc : p ≠ c := ne_of_none (sb _ _ upd_same) hc
    refine ⟨by show 3 ≤ 15; decide, q p c _ hp (fun b' o e => ?_) ⟨⟨ms, 0, 0, ?_, ?_, by omega, Int.le_refl 0, Int.le_refl 0⟩⟩⟩
    · rw [upd_ne (ne_of_none e hp)]
      exact sc _ _ (sb _ _ (sp _ _ e))
    · rw [upd_same, penL_made]
    · rw [upd_ne npc.symm, upd_same, em]
end
end My
set_option Elab.async false
set_option linter.all false
set_option maxRecDepth 100000
set_option maxHeartbeats 4000000
namespace My
open PySem PySem.Spec PyProof.Rows L2

theorem PenAt.apart {H : Hp} {p c a : Addr} {n : Nat} (G : PenAt H p c n) (h : H a = none) : c ≠ a := let ⟨⟨_, _, _, _, hc, _⟩⟩ := G; ne_of_none hc h
theorem PenAt.apart' {H : Hp} {p c a : Addr} {n : Nat} (G : PenAt H p c n) (h : H a = none) : p ≠ a := let ⟨⟨_, _, _, hp, _⟩⟩ := G; ne_of_none hp h
theorem PenAt.upd {H : Hp} {p c a : Addr} {n : Nat} {o : HO} (G : PenAt H p c n) (h : p ≠ a) (k : c ≠ a) : PenAt (upd H a o) p c n :=
  let ⟨⟨ns, t, r, hp, hc, e⟩⟩ := G; ⟨⟨ns, t, r, (upd_ne h).trans hp, (upd_ne k).trans hc, e⟩⟩
theorem SameP.free {H H' : Hp} {p c a : Addr} {n : Nat} (s : SameP p H H') (G : PenAt H' p c n) (h : H' a = none) : H a = none := by
  cases e : H a with
  | none => rfl
  | some o => rw [s a o (Ne.symm (G.apart' h)) e] at h; cases h
theorem perm_erase {α : Type} : ∀ (xs : List α) (i : Nat) (h : i < xs.length), (xs[i] :: xs.eraseIdx i).Perm xs
  | x :: r, 0, _ => .refl _
  | x :: r, i + 1, h => ((List.Perm.swap x (r[i]'(Nat.lt_of_succ_lt_succ h)) (r.eraseIdx i)).trans ((perm_erase r i (Nat.lt_of_succ_lt_succ h)).cons x))

section
variable {P : Program} {w : World} {K : PySem.W.Frag} {mg : Str → Option Value} {base : Heap}
/-- a new list of the same things in some order -/
def spShuf (K : PySem.W.Frag) : Sp := fun vs H Q _ => ∃ (p c a : Addr) (n : Nat) (xs : List V), vs = [.ref p, .ref a] ∧ PenAt H p c n ∧ n ≤ 900000000 ∧ SeqOf K H (.ref a) xs ∧ xs.length ≤ 100000 ∧
  ∀ (l : Addr) (ys : List V) (H' : Hp), ys.Perm xs → H l = none → H' l = some (.lst ys) → SameP p H H' → PenAt H' p c (n + xs.length) → Q (.ref l) H'
theorem ok_shuf {f fD : Addr} {fd fdD : FuncData} {k : Nat} (F : Fun K "_law_shuffled" "_law_shuffled" sShuf f fd) (ml : mg "len" = none) (mli : mg "list" = none) (GD : FnOk P w K mg base CX0 k fD fdD ["pen", "size"] spDraw) (gD : mg "_law_draw" = some (.ref fD)) (kD : PySem.W.keepIn K (.ref fD) = true)
    (bD : Binds K fdD ["pen", "size"] []) : FnOk P w K mg base CX0 (k + 1) f fd ["pen", "some"] (spShuf K) := by
  refine F.ok scShuf (fun vs H Q E h => ?_) (fun cdv A outer s H vs Q E hr h => ?_)
  · obtain ⟨p, c, a, n, xs, rfl, _⟩ := h
    rfl
  · obtain ⟨p, c, a, n, xs, rfl, G, hn, hx, h1, q⟩ := h
    refine ⟨_, pss_cons (ps_par (i := 2) (j := 3) (by rfl) scShuf.nd rfl rfl (by decide) rfl rfl (pa_cons (pe_callTy call_list_of (by rfl) mli (by decide +kernel) (pa_cons (pv 1) pa_nil)) (pa_cons (pe_lst pa_nil) pa_nil)) (by rfl))
      (pss_cons (ps_while PassesOwn.never (pt_cmpR (op_neNil hr.units) (pv 2) (pe_lst pa_nil) (nomark _))
        (pss_one (ps_expr (pe_bm PySem.F.plainAttrs_list PySem.F.slot_list_append PySem.F.type_list_append mt_append (pv 3) (pa_cons
          (pe_bm PySem.F.plainAttrs_list PySem.F.slot_list_pop PySem.F.type_list_pop mt_popAt (pv 2) (pa_cons (pe_call GD hr (by rfl) gD kD bD .nil pass0 (pa_cons (pv 0) (pa_cons (pe_callB call_len_seq (by rfl) ml PySem.boot_len (pa_cons (pv 2) pa_nil)) pa_nil))) pa_nil)) pa_nil)))))
      (pss_one (ps_ret (pv 3)))), ?_⟩
    -- left, found = list(some), []
    have hs : SqL K H a xs ∨ SqT K H a xs := by
      cases hx with
      | lst e => exact .inl e
      | tup e => exact .inr e
    refine ⟨_, rfl, a, xs, rfl, hs, fun l hl => ?_⟩
    refine ⟨by show 0 ≤ sizeLine; decide, fun g hg => ?_⟩
    have nlg : l ≠ g := fun z => by rw [z, upd_same] at hg; cases hg
    have g0 : H g = none := by
      rw [upd_ne (Ne.symm nlg)] at hg
      exact hg
    have s1 : Same H (upd (upd H l (.lst xs)) g (.lst [])) := (same_new hl).trans (same_new hg)
    refine ⟨_, _, rfl, ?_⟩
    -- while left != []
    refine ⟨fun m σ H2 => ∃ (left found : List V), σ = [some (.ref p), some (.ref a), some (.ref l), some (.ref g)] ∧ m = left.length ∧ SameP p H H2 ∧ H2 l = some (.lst left) ∧ H2 g = some (.lst found) ∧ (found ++ left).Perm xs ∧ PenAt H2 p c (n + found.length),
      ⟨_, xs, [], rfl, rfl, .of s1, by rw [upd_ne nlg, upd_same], upd_same, .refl _, G.same s1⟩, fun m σ H2 hW => ?_⟩
    obtain ⟨left, found, rfl, rfl, s2, el, eg, pm, G2⟩ := hW
    have hlen : found.length + left.length = xs.length := by
      have := pm.length_eq
      rwa [List.length_append] at this
    refine ⟨_, rfl, by show 0 ≤ sizeLine; decide, fun e he => ?_⟩
    have se : Same H2 (upd H2 e (.lst [])) := same_new he
    refine ⟨l, e, left, rfl, rfl, .inl ⟨.inl (.inl (se _ _ el)), .inl (.inl upd_same)⟩, _, rfl, ?_⟩
    generalize hH3 : upd H2 e (.lst []) = H3 at se
    have el3 := se _ _ el
    have eg3 := se _ _ eg
    have G3 := G2.same se
    cases left with
    | nil =>
      refine iteF ⟨_, rfl, ?_⟩
      rw [List.append_nil] at pm
      refine q g found H3 pm g0 eg3 (s2.trans (.of se)) (G3.mono ?_)
      rw [pm.length_eq]
      exact Nat.le_refl _
    | cons y0 yr =>
      refine iteT ⟨_, fun _ _ z => z, ?_⟩
      -- found.append(left.pop(draw))
      refine ⟨_, rfl, .inl ⟨rfl, _, .inl (.inl eg3)⟩, _, rfl, .inl ⟨rfl, _, .inl (.inl el3)⟩, _, rfl, _, rfl, l, _, rfl, .inl (.inl (.inl el3)), p, c, _, _, rfl, G3, by omega, by simp, by rw [List.length_cons] at *; omega, fun d H4 d0 d1 s4 G4 => ?_⟩
      obtain ⟨i, rfl⟩ : ∃ i : Nat, d = (i : Int) := ⟨d.toNat, by omega⟩
      have hi : i < (y0 :: yr).length := by omega
      have el4 := s4.lst G3 el3
      have eg4 := s4.lst G3 eg3
      refine ⟨l, _, _, i, (y0 :: yr)[i], rfl, rfl, el4, by omega, by omega, by rw [seqIndex_of (by omega) (by omega)]; rfl, List.getElem?_eq_getElem hi, ?_⟩
      refine ⟨g, found, _, rfl, rfl, by rw [upd_ne (Ne.symm nlg)]; exact eg4, Evl.sz_lt (by omega), ?_⟩
      have lp := sameP_ne G3 el3 fun _ z => nomatch z
      have gp := sameP_ne G3 eg3 fun _ z => nomatch z
      have cl : c ≠ l := G.apart hl
      have cg : c ≠ g := G.apart g0
      refine ⟨_, ?_, (y0 :: yr).eraseIdx i, found ++ [(y0 :: yr)[i]], rfl, rfl, ?_, ?_, upd_same, ?_, ?_⟩
      · rw [List.length_eraseIdx, if_pos hi]
        simp
      · intro b o nb e0
        rw [upd_ne (ne_of_none e0 g0), upd_ne (ne_of_none e0 hl)]
        exact (s2.trans (SameP.of se)).trans s4 b o nb e0
      · rw [upd_ne nlg, upd_same]
      · rw [List.append_assoc]
        exact (List.Perm.append_left found (perm_erase (y0 :: yr) i hi)).trans pm
      · exact ((G4.upd (Ne.symm lp) cl).upd (Ne.symm gp) cg).mono (by rw [List.length_append, List.length_singleton]; omega)
end
end My
set_option Elab.async false
set_option linter.all false
set_option maxRecDepth 100000
set_option maxHeartbeats 4000000
namespace My
open PySem PySem.Spec PyProof.Rows L2

/-! ### a short text some few times -/
def rMulS : R2 := fun x y H Q => ∃ (z : Str) (i : Int), x = .str z ∧ y = .int i ∧ z.length ≤ 1000 ∧ i ≤ 1000 ∧ -1000 ≤ i ∧ Q (.str (Txt.mul z i)) H
theorem mulOk_small {x : Str} {n : Int} (h : x.length ≤ 1000) (h1 : n ≤ 1000) (h2 : -1000 ≤ n) : MulOk x n := by
  refine ⟨?_, fun a _ => ?_, fun a _ => ?_⟩
  · have e1 : decide (n < -(2 ^ 63 : Int)) = false := decide_eq_false (by omega)
    have e2 : decide (n ≥ (2 : Int) ^ 63) = false := decide_eq_false (by omega)
    rw [e1, e2]
    rfl
  · have h3 : (1000 : Int) ≤ (2 ^ 63 - 1) / n := Int.le_ediv_of_mul_le (by omega) (by omega)
    omega
  · have h3 : x.length * n.toNat ≤ 1000 * 1000 := Nat.mul_le_mul h (by omega)
    exact decide_eq_false (Nat.not_lt.mpr (Nat.le_trans h3 (by decide)))
theorem op_mulS {X : Cx} : OpR X (binaryOp .Mult) rMulS := by
  intro pins s σ H x y v u Q I rx ry h
  obtain ⟨z, i, rfl, rfl, h1, h2, h3, q⟩ := h
  obtain ⟨t, rfl⟩ := rx
  obtain ⟨t', rfl⟩ := ry
  exact SB.mul (mulOk_small h1 h2 h3) fun t2 k => ⟨.str _, H, I.tok _, ⟨_, rfl⟩, q⟩

/-! ### names -/
def NameOk (x : Str) : Prop := 1 ≤ x.length ∧ x.length ≤ 8 ∧ ∀ c ∈ x.cps.toList, 97 ≤ c ∧ c ≤ 122
def abc : Str := "abcdefghijklmnopqrstuvwxyz"
theorem abc_codes : abc.cps.toList = (List.range 26).map (97 + ·) := by decide +kernel
theorem abc_len : abc.length = 26 := by decide +kernel
theorem abc_at {j : Nat} (h : j < 26) : abc.cps.toList[j]? = some (97 + j) := by
  rw [abc_codes, List.getElem?_map, List.getElem?_range h]
  rfl
/-- the name at the k-th place -/
def wName (front : Str) (first step k : Nat) : Str := front ++ ⟨#[97 + (first + step * k) % 26]⟩ ++ (if 25 < k then ⟨#[97 + k % 26]⟩ else Str.empty)
theorem wName_codes (front : Str) (first step k : Nat) : (wName front first step k).cps.toList = front.cps.toList ++ [97 + (first + step * k) % 26] ++ (if 25 < k then [97 + k % 26] else []) := by
  unfold wName
  rw [Str.cps_append, Array.toList_append, Str.cps_append, Array.toList_append]
  by_cases h : 25 < k
  · rw [if_pos h, if_pos h]
  · rw [if_neg h, if_neg h]
    rfl
theorem str_len (x : Str) : x.length = x.cps.toList.length := by
  rw [Array.length_toList]
  rfl
theorem wName_ok {front : Str} (hf : front.length ≤ 6) (hc : ∀ c ∈ front.cps.toList, 97 ≤ c ∧ c ≤ 122) (first step k : Nat) : NameOk (wName front first step k) := by
  rw [str_len] at hf
  unfold NameOk
  rw [str_len, wName_codes, List.length_append, List.length_append, List.length_singleton]
  refine ⟨by omega, ?_, fun c h => ?_⟩
  · by_cases h : 25 < k
    · rw [if_pos h, List.length_singleton]
      omega
    · rw [if_neg h, List.length_nil]
      omega
  · rcases List.mem_append.mp h with h | h
    · rcases List.mem_append.mp h with h | h
      · exact hc c h
      · rw [List.mem_singleton.mp h]
        omega
    · by_cases g : 25 < k
      · rw [if_pos g] at h
        rw [List.mem_singleton.mp h]
        omega
      · rw [if_neg g] at h
        cases h
theorem step_inj {first step i j : Nat} (hs : step = 1 ∨ step = 3 ∨ step = 5 ∨ step = 7 ∨ step = 9 ∨ step = 11) (hi : i < 26) (hj : j < 26) (h : (first + step * i) % 26 = (first + step * j) % 26) : i = j := by
  rcases hs with rfl | rfl | rfl | rfl | rfl | rfl <;> omega
theorem wName_inj {front : Str} {first step i j : Nat} (hs : step = 1 ∨ step = 3 ∨ step = 5 ∨ step = 7 ∨ step = 9 ∨ step = 11) (hi : i < 52) (hj : j < 52) (h : wName front first step i = wName front first step j) : i = j := by
  have e : (wName front first step i).cps.toList = (wName front first step j).cps.toList := by rw [h]
  rw [wName_codes, wName_codes, List.append_assoc, List.append_assoc] at e
  have e := List.append_cancel_left e
  by_cases a : 25 < i
  · by_cases b : 25 < j
    · rw [if_pos a, if_pos b] at e
      simp only [List.singleton_append, List.cons.injEq, and_true] at e
      omega
    · rw [if_pos a, if_neg b] at e
      simp at e
  · by_cases b : 25 < j
    · rw [if_neg a, if_pos b] at e
      simp at e
    · rw [if_neg a, if_neg b] at e
      simp only [List.append_nil, List.cons.injEq, and_true] at e
      exact step_inj (first := first) hs (by omega) (by omega) (by omega)
def wNames (front : Str) (first step many : Nat) : List Str := (List.range many).map (wName front first step)
theorem nodup_map_on {α β : Type} {f : α → β} : ∀ {xs : List α}, xs.Nodup → (∀ a ∈ xs, ∀ b ∈ xs, f a = f b → a = b) → (xs.map f).Nodup
  | [], _, _ => List.nodup_nil
  | x :: r, h, g => by
    rw [List.nodup_cons] at h
    rw [List.map_cons, List.nodup_cons]
    refine ⟨fun z => ?_, nodup_map_on h.2 fun a ha b hb => g a (List.mem_cons_of_mem _ ha) b (List.mem_cons_of_mem _ hb)⟩
    obtain ⟨y, hy, e⟩ := List.mem_map.mp z
    have := g y (List.mem_cons_of_mem _ hy) x List.mem_cons_self e
    exact h.1 (this ▸ hy)
theorem wNames_nodup {front : Str} {first step many : Nat} (hs : step = 1 ∨ step = 3 ∨ step = 5 ∨ step = 7 ∨ step = 9 ∨ step = 11) (hm : many ≤ 52) : (wNames front first step many).Nodup :=
  nodup_map_on List.nodup_range fun a ha b hb e => wName_inj hs (Nat.lt_of_lt_of_le (List.mem_range.mp ha) hm) (Nat.lt_of_lt_of_le (List.mem_range.mp hb) hm) e
/-- many names, all different -/
structure Names (xs : List Str) : Prop where
  ok : ∀ x ∈ xs, NameOk x
  nd : xs.Nodup
theorem Names.perm {xs ys : List Str} (h : Names xs) (p : ys.Perm xs) : Names ys := ⟨fun x hx => h.ok x (p.subset hx), p.nodup_iff.mpr h.nd⟩
def unS : V → Str
  | .str z => z
  | _ => Str.empty
theorem perm_strs {ys : List V} {xs : List Str} (p : ys.Perm (xs.map V.str)) : ∃ zs : List Str, ys = zs.map V.str ∧ zs.Perm xs := by
  refine ⟨ys.map unS, ?_, ?_⟩
  · rw [List.map_map]
    have : ∀ v ∈ ys, (V.str ∘ unS) v = v := fun v hv => by
      obtain ⟨x, _, rfl⟩ := List.mem_map.mp (p.subset hv)
      rfl
    rw [List.map_congr_left this, List.map_id']
  · have := p.map unS
    rwa [List.map_map, show (unS ∘ V.str) = id from rfl, List.map_id] at this
def sign (cd : Nat) : Str := ⟨#[cd]⟩
theorem join_signs : ∀ cs : List Nat, (Str.join Str.empty (cs.map sign)).cps.toList = cs
  | [] => rfl
  | [_] => rfl
  | x :: y :: r => by
    have ih := join_signs (y :: r)
    show (sign x ++ Str.empty ++ Str.join Str.empty ((y :: r).map sign)).cps.toList = x :: y :: r
    rw [Str.cps_append, Array.toList_append, ih, Str.cps_append, Array.toList_append]
    rfl
theorem sum_signs : ∀ cs : List Nat, ((cs.map sign).map (·.length)).sum = cs.length
  | [] => rfl
  | x :: r => by
    rw [List.map_cons, List.map_cons, List.sum_cons, sum_signs r, List.length_cons]
    show 1 + r.length = r.length + 1
    omega
theorem signs_V (cs : List Nat) : (cs.map sign).map V.str = cs.map fun cd => V.str (sign cd) := by rw [List.map_map]; rfl
theorem abc_item {i : Nat} {v : V} (h : (abc.cps.toList.map fun cd => V.str ⟨#[cd]⟩)[i]? = some v) : ∃ cd, v = .str (sign cd) ∧ 97 ≤ cd ∧ cd ≤ 122 := by
  rw [abc_codes, List.map_map, List.getElem?_map] at h
  obtain ⟨j, h1, rfl⟩ := Option.map_eq_some_iff.mp h
  have h2 := List.mem_range.mp (List.mem_of_getElem? h1)
  exact ⟨97 + j, rfl, by omega, by omega⟩
theorem steps_item {i : Nat} {v : V} (h : ([.int 1, .int 3, .int 5, .int 7, .int 9, .int 11] : List V)[i]? = some v) : ∃ st : Nat, v = .int (st : Int) ∧ (st = 1 ∨ st = 3 ∨ st = 5 ∨ st = 7 ∨ st = 9 ∨ st = 11) := by
  have := List.mem_of_getElem? h
  simp only [List.mem_cons, List.not_mem_nil, or_false] at this
  rcases this with rfl | rfl | rfl | rfl | rfl | rfl
  · exact ⟨1, rfl, by omega⟩
  · exact ⟨3, rfl, by omega⟩
  · exact ⟨5, rfl, by omega⟩
  · exact ⟨7, rfl, by omega⟩
  · exact ⟨9, rfl, by omega⟩
  · exact ⟨11, rfl, by omega⟩
theorem place_nat (f st k : Nat) : ((f : Int) + (st : Int) * ((0 : Int) + (k : Int))) % 26 = (((f + st * k) % 26 : Nat) : Int) := by
  rw [Int.zero_add, ← Int.natCast_mul]
  omega
theorem mul_sign (cd : Nat) (b : Bool) : Txt.mul (sign cd) (if b then 1 else 0) = if b = true then sign cd else Str.empty := by
  cases b <;> rfl

section
variable {P : Program} {w : World} {K : PySem.W.Frag} {mg : Str → Option Value} {base : Heap}
/-- what the draw, the pick and the shuffling have promised -/
structure Draws (P : Program) (w : World) (K : PySem.W.Frag) (mg : Str → Option Value) (base : Heap) (fD fP fS : Addr) (dD dP dS : FuncData) : Prop where
  oD : FnOk P w K mg base CX0 1 fD dD ["pen", "size"] spDraw
  gD : mg "_law_draw" = some (.ref fD)
  kD : PySem.W.keepIn K (.ref fD) = true
  bD : Binds K dD ["pen", "size"] []
  oP : FnOk P w K mg base CX0 2 fP dP ["pen", "options"] (spPick K)
  gP : mg "_law_pick" = some (.ref fP)
  kP : PySem.W.keepIn K (.ref fP) = true
  bP : Binds K dP ["pen", "options"] []
  oS : FnOk P w K mg base CX0 2 fS dS ["pen", "some"] (spShuf K)
  gS : mg "_law_shuffled" = some (.ref fS)
  kS : PySem.W.keepIn K (.ref fS) = true
  bS : Binds K dS ["pen", "some"] []
/-- a new list of so many different names -/
def spWag (K : PySem.W.Frag) : Sp := fun vs H Q _ => ∃ (p c : Addr) (n many : Nat), vs = [.ref p, .int (many : Int)] ∧ PenAt H p c n ∧ n ≤ 800000000 ∧ many ≤ 52 ∧
  ∀ (l : Addr) (xs : List Str) (H' : Hp), Names xs → xs.length = many → H l = none → H' l = some (.lst (xs.map V.str)) → SameP p H H' → PenAt H' p c (n + 61) → Q (.ref l) H'
theorem ok_wag {f fD fP fS : Addr} {fd dD dP dS : FuncData} (F : Fun K "_law_wagons" "_law_wagons" sWag f fd) (T : Draws P w K mg base fD fP fS dD dP dS) (mr : mg "range" = none) (mi : mg "int" = none) :
    FnOk P w K mg base CX0 3 f fd ["pen", "many"] (spWag K) := by
  refine F.ok scWag (fun vs H Q E h => ?_) (fun cdv A outer s H vs Q E hr h => ?_)
  · obtain ⟨p, c, n, many, rfl, _⟩ := h
    rfl
  · obtain ⟨p, c, n, many, rfl, G, hn, hm, q⟩ := h
    have hr1 := hr.mono (show 1 ≤ 2 by decide)
    refine ⟨_, pss_cons (ps_set (i := 2) scWag.nd rfl (.inr rfl) pe_str)
      (pss_cons (ps_set (i := 4) scWag.nd rfl (.inl rfl) (pe_join pe_str (pe_lc (own := [("k", 3)]) (g := gName 3) (tt := tYes) rfl scWag.nd
          (pi_range1 (by rfl) mr (pa_cons (pe_call T.oD hr1 (by rfl) T.gD T.kD T.bD .nil pass0 (pa_cons (pv 0) (pa_cons pe_int pa_nil))) pa_nil))
          (blkOk_by (own := [("k", 3)]) (N := ["pen", "many", "letters", "k", "front", "first", "step", "found", "place"]) (sc := defScope sWag) (by decide +kernel))
          (fun _ _ _ _ _ => pg_name (i := 3) scWag.nd rfl (Or.inl rfl)) (fun _ _ _ _ _ => pts_nil) (fun _ _ _ _ _ => pe_call T.oP hr (by rfl) T.gP T.kP T.bP .nil pass0 (pa_cons (pv 0) (pa_cons (pv 2) pa_nil))))))
      (pss_cons (ps_par (i := 5) (j := 6) (by rfl) scWag.nd rfl rfl (by decide) rfl rfl (pa_cons (pe_call T.oD hr1 (by rfl) T.gD T.kD T.bD .nil pass0 (pa_cons (pv 0) (pa_cons pe_int pa_nil)))
        (pa_cons (pe_call T.oP hr (by rfl) T.gP T.kP T.bP .nil pass0 (pa_cons (pv 0) (pa_cons (pe_lst (pa_cons pe_int (pa_cons pe_int (pa_cons pe_int (pa_cons pe_int (pa_cons pe_int (pa_cons pe_int pa_nil))))))) pa_nil))) pa_nil)) (by rfl))
      (pss_cons (ps_set (i := 7) scWag.nd rfl (.inl rfl) (pe_lst pa_nil))
      (pss_cons (ps_for PassesOwn.never rfl (pi_range1 (by rfl) mr (pa_cons (pv 1) pa_nil)) (pg_name (i := 3) scWag.nd rfl (.inl rfl))
        (pss_cons (ps_set (i := 8) scWag.nd rfl (.inl rfl) (pe_op op_mod (pe_op op_add (pv 5) (pe_op op_mul (pv 6) (pv 3))) pe_int))
        (pss_one (ps_expr (pe_bm PySem.F.plainAttrs_list PySem.F.slot_list_append PySem.F.type_list_append mt_append (pv 7) (pa_cons
          (pe_op op_add_str (pe_op op_add_str (pv 4) (pe_ix ix_str (pv 2) (pv 8) (fun _ _ => rfl))) (pe_op op_mulS (pe_ix ix_str (pv 2) (pe_op op_mod (pv 3) pe_int) (fun _ _ => rfl))
            (pe_callTy call_int1 (by rfl) mi (by decide +kernel) (pa_cons (pe_cmpR op_gt (pv 3) pe_int (nomark _)) pa_nil)))) pa_nil))))))
      (pss_one (ps_ret (pe_call T.oS hr (by rfl) T.gS T.kS T.bS .nil pass0 (pa_cons (pv 0) (pa_cons (pv 7) pa_nil))))))))), ?_⟩
    -- front
    refine ⟨⟨_, rfl⟩, _, rfl, p, c, n, 7, rfl, G, by omega, by decide, by decide, fun d H1 d0 d1 s1 G1 => ⟨d, rfl, by omega, by omega, fun Dl hD => ?_⟩⟩
    have hD0 : H Dl = none := s1.free G1 hD
    refine lcN_range (lo := 0) (n := d.toNat) (fun i H' => ∃ cs : List Nat, H' Dl = some (.lst (cs.map fun cd => V.str (sign cd))) ∧ cs.length = i ∧ (∀ cd ∈ cs, 97 ≤ cd ∧ cd ≤ 122) ∧ SameP p H H' ∧ PenAt H' p c (n + 1 + i))
      ⟨[], upd_same, rfl, fun _ z => (nomatch z), s1.trans (SameP.new hD), G1.same (same_new hD)⟩ (fun i H2 hi hp => ?_) (fun H2 hp => ?_)
    · obtain ⟨cs, eD, hl, hc, s2, G2⟩ := hp
      refine ⟨rfl, ?_⟩
      refine ⟨_, rfl, _, rfl, p, c, _, .str abc, _, rfl, G2, by omega, .str (by rw [abc_len]; decide), ?_, ?_, fun j v H3 hv s3 G3 => ?_⟩
      · rw [List.length_map, abc_codes, List.length_map, List.length_range]
        decide
      · rw [List.length_map, abc_codes, List.length_map, List.length_range]
        decide
      · obtain ⟨cd, rfl, c0, c1⟩ := abc_item hv
        have eD3 := s3.lst G2 eD
        refine ⟨_, eD3, Evl.sz_lt (by rw [List.length_map]; omega), cs ++ [cd], ?_, by rw [List.length_append, hl]; rfl, fun z hz => ?_, fun b o nb e => ?_, ?_⟩
        · rw [upd_same, List.map_append]
          rfl
        · rcases List.mem_append.mp hz with hz | hz
          · exact hc z hz
          · rw [List.mem_singleton.mp hz]
            exact ⟨c0, c1⟩
        · rw [upd_ne (ne_of_none e hD0)]
          exact (s2.trans s3) b o nb e
        · exact (G3.upd (G1.apart' hD) (G1.apart hD)).mono (by omega)
    · obtain ⟨cs, eD, hl, hc, s2, G2⟩ := hp
      have hlen : cs.length ≤ 6 := by omega
      refine ⟨Str.empty, Dl, cs.map sign, rfl, rfl, .inl (by rw [signs_V]; exact .inl (.inl eD)), ?_, ?_⟩
      · rw [sum_signs, List.length_map]
        show cs.length + cs.length * 0 ≤ 16777216
        omega
      generalize hfr : Txt.join Str.empty (cs.map sign) = front
      have fc : front.cps.toList = cs := by rw [← hfr, TL.join_eq, join_signs]
      have f6 : front.length ≤ 6 := by rw [str_len, fc]; exact hlen
      have fok : ∀ cd ∈ front.cps.toList, 97 ≤ cd ∧ cd ≤ 122 := by rw [fc]; exact hc
      -- first, step
      refine ⟨_, rfl, p, c, _, 26, rfl, G2, by omega, by decide, by decide, fun f1 H3 f0 f26 s3 G3 => ?_⟩
      refine ⟨_, rfl, by show 6 ≤ sizeLine; decide, fun o1 ho1 => ?_⟩
      have so := same_new (o := HO.lst [.int 1, .int 3, .int 5, .int 7, .int 9, .int 11]) ho1
      refine ⟨p, c, _, .ref o1, [.int 1, .int 3, .int 5, .int 7, .int 9, .int 11], rfl, G3.same so, by omega, .lst (.inl (.inl upd_same)), by decide, by decide, fun j v H4 hv s4 G4 => ?_⟩
      obtain ⟨st, rfl, hst⟩ := steps_item hv
      obtain ⟨f2, rfl⟩ : ∃ f2 : Nat, f1 = (f2 : Int) := ⟨f1.toNat, by omega⟩
      refine ⟨_, _, rfl, ?_⟩
      -- found
      refine ⟨by show 0 ≤ sizeLine; decide, fun g hg => ?_⟩
      have s5 : SameP p H H4 := ((s2.trans s3).trans (SameP.of so)).trans s4
      have hg0 : H g = none := s5.free G4 hg
      refine ⟨_, rfl, (many : Int), rfl, by omega, by omega, ?_⟩
      refine for_range (lo := 0) (n := (many : Int).toNat) (fun i σ H' => ∃ y3 y8, σ = [some (.ref p), some (.int (many : Int)), some (.str abc), y3, some (.str front), some (.int (f2 : Int)), some (.int (st : Int)), some (.ref g), y8] ∧
        H' g = some (.lst ((wNames front f2 st i).map V.str)) ∧ SameP p H H' ∧ PenAt H' p c (n + 9)) ⟨_, _, rfl, upd_same, s5.trans (SameP.new hg), (G4.same (same_new hg)).mono (by omega)⟩ (fun i σ H5 hi hp => ?_) (fun σ H5 hp => ?_)
      · obtain ⟨y3, y8, rfl, eg, s6, G6⟩ := hp
        have hib : i < 52 := by omega
        refine ⟨_, rfl, _, rfl, _, rfl, _, _, rfl, rfl, cmul_l (by omega) (by omega), _, _, rfl, rfl, _, _, rfl, rfl, (by show (0 : Int) < 26; decide), ?_⟩
        refine ⟨_, rfl, .inl ⟨rfl, _, .inl (.inl eg)⟩, _, rfl, _, rfl, _, rfl, abc, _, 97 + (f2 + st * i) % 26, rfl, rfl, (by rw [abc_len]; decide), ?_, _, _, rfl, rfl, ?_, ?_⟩
        · rw [place_nat]
          exact atI_nat (abc_at (Nat.mod_lt _ (by decide)))
        · show front.length + 1 ≤ sizeLine
          exact Evl.sz_of (by omega)
        refine ⟨_, rfl, _, rfl, _, _, rfl, rfl, (by show (0 : Int) < 26; decide), abc, _, 97 + i % 26, rfl, rfl, (by rw [abc_len]; decide), ?_, _, rfl, _, _, rfl, rfl, .inr ⟨_, rfl, ?_⟩⟩
        · rw [show ((0 : Int) + (i : Int)) % 26 = ((i % 26 : Nat) : Int) by omega]
          exact atI_nat (abc_at (Nat.mod_lt _ (by decide)))
        refine ⟨sign (97 + i % 26), _, rfl, rfl, (by show 1 ≤ 1000; decide), (by split <;> decide), (by split <;> decide), _, _, rfl, rfl, ?_, ?_⟩
        · rw [mul_sign, Str.length_append]
          have h1 : (if decide ((25 : Int) < 0 + (i : Int)) = true then sign (97 + i % 26) else Str.empty).length ≤ 1 := by
            split
            · exact Nat.le_refl 1
            · exact Nat.zero_le 1
          show front.length + 1 + _ ≤ sizeLine
          exact Evl.sz_of (by omega)
        · refine ⟨g, _, _, rfl, rfl, eg, Evl.sz_lt (by rw [List.length_map, wNames, List.length_map, List.length_range]; omega), some (.int ((0 : Int) + (i : Int))), _, rfl, ?_, ?_, G6.upd ?_ ?_⟩
          · rw [upd_same, mul_sign]
            congr 2
            rw [wNames, wNames, List.range_succ, List.map_append, List.map_append]
            congr 1
            show [V.str _] = [V.str _]
            congr 2
            unfold wName sign
            congr 1
            by_cases z : 25 < i
            · rw [if_pos (decide_eq_true (by omega)), if_pos z]
            · rw [if_neg (by rw [decide_eq_false (by omega)]; decide), if_neg z]
          · intro b o nb e
            rw [upd_ne (ne_of_none e hg0)]
            exact s6 b o nb e
          · exact G.apart' hg0
          · exact G.apart hg0
      · obtain ⟨y3, y8, rfl, eg, s6, G6⟩ := hp
        rw [show (many : Int).toNat = many from rfl] at eg
        have nm : Names (wNames front f2 st many) := ⟨fun x hx => by
          obtain ⟨k, _, rfl⟩ := List.mem_map.mp hx
          exact wName_ok f6 fok f2 st k, wNames_nodup hst hm⟩
        have ln : (wNames front f2 st many).length = many := by rw [wNames, List.length_map, List.length_range]
        refine ⟨_, rfl, _, rfl, p, c, g, _, _, rfl, G6, by omega, .lst (.inl (.inl eg)), by rw [List.length_map, ln]; omega, fun l ys H6 pm hl0 el s7 G7 => ?_⟩
        · obtain ⟨zs, rfl, pz⟩ := perm_strs pm
          rw [List.length_map, ln] at G7
          refine q l zs H6 (nm.perm pz) (by rw [pz.length_eq, ln]) (s6.free G6 hl0) el (s6.trans s7) (G7.mono (by omega))
end
end My
set_option Elab.async false
set_option linter.all false
set_option maxRecDepth 100000
set_option maxHeartbeats 4000000
namespace My
open PySem PySem.Spec PyProof.Rows L2

/-! ### data that never changes: None, bools, ints, texts, tuples of such -/
mutual
inductive Dt (K : PySem.W.Frag) (H : Hp) : V → PyData → Prop
  | non : Dt K H .non .none
  | bl (b : Bool) : Dt K H (.bl b) (.bool b)
  | int (i : Int) : Dt K H (.int i) (.int i)
  | str (x : Str) : Dt K H (.str x) (.str x)
  | tup {a : Addr} {xs : List V} {ds : List PyData} : SqT K H a xs → DtAll K H xs ds → Dt K H (.ref a) (.tuple ds)
inductive DtAll (K : PySem.W.Frag) (H : Hp) : List V → List PyData → Prop
  | nil : DtAll K H [] []
  | cons {v : V} {vs : List V} {d : PyData} {ds : List PyData} : Dt K H v d → DtAll K H vs ds → DtAll K H (v :: vs) (d :: ds)
end
/-- tuples that were read are read so again -/
def KeepsT (K : PySem.W.Frag) (H H' : Hp) : Prop := ∀ a xs, SqT K H a xs → SqT K H' a xs
section
variable {K : PySem.W.Frag} {H H' H2 : Hp}
mutual
theorem dt_keep (s : KeepsT K H H') : ∀ {d : PyData} {v : V}, Dt K H v d → Dt K H' v d
  | .none, _, h => by cases h; exact .non
  | .bool _, _, h => by cases h; exact .bl _
  | .int _, _, h => by cases h; exact .int _
  | .str _, _, h => by cases h; exact .str _
  | .tuple ds, _, h => by
    cases h with
    | tup a b => exact .tup (s _ _ a) (dt_keepAll s b)
  | .list _, _, h => by cases h
  | .dict _, _, h => by cases h
theorem dt_keepAll (s : KeepsT K H H') : ∀ {ds : List PyData} {vs : List V}, DtAll K H vs ds → DtAll K H' vs ds
  | [], _, h => by cases h; exact .nil
  | d :: ds, _, h => by
    cases h with
    | cons a b => exact .cons (dt_keep s a) (dt_keepAll s b)
end
mutual
theorem dt_dp : ∀ {d : PyData} {v : V}, Dt K H v d → Dp K H v d
  | .none, _, h => by cases h; exact .non
  | .bool _, _, h => by cases h; exact .bl _
  | .int _, _, h => by cases h; exact .int _
  | .str _, _, h => by cases h; exact .str _
  | .tuple ds, _, h => by
    cases h with
    | tup a b => exact .tup a (dt_dpAll b)
  | .list _, _, h => by cases h
  | .dict _, _, h => by cases h
theorem dt_dpAll : ∀ {ds : List PyData} {vs : List V}, DtAll K H vs ds → DpAll K H vs ds
  | [], _, h => by cases h; exact .nil
  | d :: ds, _, h => by
    cases h with
    | cons a b => exact .cons (dt_dp a) (dt_dpAll b)
end
theorem KeepsT.refl : KeepsT K H H := fun _ _ h => h
theorem KeepsT.trans (a : KeepsT K H H') (b : KeepsT K H' H2) : KeepsT K H H2 := fun _ _ h => b _ _ (a _ _ h)
theorem _root_.L2.Same.keepsT (s : Same H H') : KeepsT K H H' := s.keeps.t
theorem SameP.keepsT {p c : Addr} {n : Nat} (s : SameP p H H') (G : PenAt H p c n) : KeepsT K H H' := (s.keeps G).t
/-- a change at a place where no tuple stands -/
theorem KeepsT.at {a : Addr} {o : HO} (h : ∀ xs, H a ≠ some (.tup xs)) (h' : ∀ ob u, H a ≠ some (.frz ob u)) : KeepsT K H (upd H a o) := fun b xs e => by
  rcases e with (e | ⟨ob, e⟩) | e
  · exact .inl (.inl ((upd_ne (fun z : b = a => h xs (z ▸ e))).trans e))
  · exact .inl (.inr ⟨ob, (upd_ne (fun z : b = a => h' _ _ (z ▸ e))).trans e⟩)
  · exact .inr e
theorem KeepsT.lst {a : Addr} {xs : List V} {o : HO} (h : H a = some (.lst xs)) : KeepsT K H (upd H a o) := .at (fun _ z => by rw [h] at z; cases z) (fun _ _ z => by rw [h] at z; cases z)
theorem KeepsT.new {a : Addr} {o : HO} (h : H a = none) : KeepsT K H (upd H a o) := (same_new h).keepsT
theorem DtAll.append : ∀ {xs ys : List V} {ds es : List PyData}, DtAll K H xs ds → DtAll K H ys es → DtAll K H (xs ++ ys) (ds ++ es)
  | _, _, _, _, .nil, h => h
  | _, _, _, _, .cons a b, h => .cons a (b.append h)
theorem DtAll.length : ∀ {xs : List V} {ds : List PyData}, DtAll K H xs ds → xs.length = ds.length
  | _, _, .nil => rfl
  | _, _, .cons _ b => congrArg (· + 1) b.length
theorem DtAll.at : ∀ {xs : List V} {ds : List PyData} {i : Nat} {v : V}, DtAll K H xs ds → xs[i]? = some v → ∃ d, ds[i]? = some d ∧ Dt K H v d
  | _, _, 0, _, .cons a _, h => by
    cases h
    exact ⟨_, rfl, a⟩
  | _, _, i + 1, _, .cons _ b, h => b.at (i := i) h
theorem DtAll.two {x y : V} {d e : PyData} (a : Dt K H x d) (b : Dt K H y e) : DtAll K H [x, y] [d, e] := .cons a (.cons b .nil)
end

/-! ### rows -/
def dwD (r : Str × Int) : PyData := .tuple [.str r.1, .int r.2]
def rowD (r : List (Str × Int)) : PyData := .tuple (r.map dwD)
def Dirs (r : List (Str × Int)) : Prop := ∀ x ∈ r, x.2 = 1 ∨ x.2 = -1

section
variable {P : Program} {w : World} {K : PySem.W.Frag} {mg : Str → Option Value} {base : Heap}
/-- the names in order, each in a drawn direction -/
def spRow (K : PySem.W.Frag) : Sp := fun vs H Q _ => ∃ (p c o : Addr) (n : Nat) (names : List Str), vs = [.ref p, .ref o] ∧ PenAt H p c n ∧ n ≤ 900000000 ∧ SqL K H o (names.map V.str) ∧ names.length ≤ 1000 ∧
  ∀ (a : Addr) (r : List (Str × Int)) (H' : Hp), r.map (·.1) = names → Dirs r → H a = none → Dt K H' (.ref a) (rowD r) → SameP p H H' → PenAt H' p c (n + names.length) → Q (.ref a) H'
theorem ok_row {f fD fP fS : Addr} {fd dD dP dS : FuncData} (F : Fun K "_law_row" "_law_row" sRow f fd) (T : Draws P w K mg base fD fP fS dD dP dS) (mt : mg "tuple" = none) : FnOk P w K mg base CX0 3 f fd ["pen", "wagons"] (spRow K) := by
  refine F.ok scRow (fun vs H Q E h => ?_) (fun cdv A outer s H vs Q E hr h => ?_)
  · obtain ⟨p, c, o, n, names, rfl, _⟩ := h
    rfl
  · obtain ⟨p, c, o, n, names, rfl, G, hn, hS, hl, q⟩ := h
    refine ⟨_, pss_one (ps_ret (pe_callTy call_tuple_of (by rfl) mt (by decide +kernel) (pa_cons (pe_lc (own := [("name", 2)]) (g := gName 2) (tt := tYes) rfl scRow.nd (pi_list (pv 1))
        (blkOk_by (own := [("name", 2)]) (N := ["pen", "wagons", "name"]) (sc := defScope sRow) (by decide +kernel)) (fun _ _ _ _ _ => pg_name (i := 2) scRow.nd rfl (Or.inl rfl)) (fun _ _ _ _ _ => pts_nil)
        (fun _ _ _ _ _ => pe_tup (pa_cons (pv 2) (pa_cons (pe_call T.oP hr (by rfl) T.gP T.kP T.bP .nil pass0 (pa_cons (pv 0) (pa_cons (pe_lst (pa_cons pe_int (pa_cons (pe_un un_neg pe_int) pa_nil))) pa_nil))) pa_nil)))) pa_nil))), ?_⟩
    refine ⟨_, rfl, o, rfl, ⟨_, hS⟩, fun Dl hD => ?_⟩
    refine lcN_list (K := K) (a := o) (xs := names.map V.str) (fun i H' => ∃ (cs : List V) (r : List (Str × Int)), H' Dl = some (.lst cs) ∧ DtAll K H' cs (r.map dwD) ∧ r.map (·.1) = names.take i ∧ Dirs r ∧ SameP p H H' ∧ PenAt H' p c (n + i))
      ⟨[], [], upd_same, .nil, rfl, fun _ z => (nomatch z), SameP.new hD, G.same (same_new hD)⟩ (fun i H2 _ hp => ?_) (fun i x H2 hx hp => ?_) (fun H2 hp => ?_)
    · obtain ⟨_, _, _, _, _, _, s2, _⟩ := hp
      exact s2.sqL G hS
    · obtain ⟨cs, r, eD, da, er, dr, s2, G2⟩ := hp
      refine ⟨rfl, ?_⟩
      rw [List.getElem?_map] at hx
      obtain ⟨nm, hnm, rfl⟩ := Option.map_eq_some_iff.mp hx
      have hi : i < names.length := (List.getElem?_eq_some_iff.mp hnm).1
      have lr : r.length = i := by
        have := congrArg List.length er
        rw [List.length_map, List.length_take] at this
        omega
      refine ⟨_, rfl, _, rfl, _, rfl, by show 2 ≤ sizeLine; decide, fun o1 ho1 => ?_⟩
      have so := same_new (o := HO.lst [.int 1, .int (-1)]) ho1
      refine ⟨p, c, _, .ref o1, [.int 1, .int (-1)], rfl, G2.same so, by omega, .lst (.inl (.inl upd_same)), by decide, by decide, fun j v H4 hv s4 G4 => ?_⟩
      have hdv : ∃ z : Int, v = .int z ∧ (z = 1 ∨ z = -1) := by
        have := List.mem_of_getElem? hv
        simp only [List.mem_cons, List.not_mem_nil, or_false] at this
        rcases this with rfl | rfl
        · exact ⟨1, rfl, .inl rfl⟩
        · exact ⟨-1, rfl, .inr rfl⟩
      obtain ⟨z, rfl, hz⟩ := hdv
      have s24 : SameP p H2 H4 := (SameP.of so).trans s4
      have eD4 := s24.lst G2 eD
      refine ⟨by show 2 ≤ sizeLine; decide, fun t ht => ?_⟩
      have st := same_new (o := HO.tup [.str nm, .int z]) ht
      have eD5 := st _ _ eD4
      have k : KeepsT K H2 (upd (upd H4 t (.tup [.str nm, .int z])) Dl (.lst (cs ++ [.ref t]))) := ((s24.keepsT G2).trans st.keepsT).trans (KeepsT.lst eD5)
      refine ⟨cs, eD5, Evl.sz_lt (by rw [da.length, List.length_map]; omega), cs ++ [.ref t], r ++ [(nm, z)], upd_same, ?_, ?_, ?_, ?_, ?_⟩
      · rw [List.map_append]
        refine (dt_keepAll k da).append (.cons (.tup (KeepsT.lst eD5 _ _ (.inl (.inl upd_same))) (.two (.str _) (.int _))) .nil)
      · rw [List.map_append, er, List.take_add_one, hnm]
        rfl
      · intro y hy
        rcases List.mem_append.mp hy with hy | hy
        · exact dr y hy
        · rw [List.mem_singleton.mp hy]
          exact hz
      · intro b ob nb e
        rw [upd_ne (ne_of_none e hD)]
        exact st _ _ ((s2.trans s24) b ob nb e)
      · exact ((G4.same st).upd (G.apart' hD) (G.apart hD)).mono (by omega)
    · obtain ⟨cs, r, eD, da, er, dr, s2, G2⟩ := hp
      rw [List.length_map] at er G2
      refine ⟨Dl, cs, rfl, .inl ⟨.inl (.inl eD), fun a ha => ?_⟩⟩
      have sa := same_new (o := HO.tup cs) ha
      refine q a r _ (by rw [er, List.take_length]) dr (s2.free G2 ha) (.tup (.inl (.inl upd_same)) (dt_keepAll sa.keepsT da)) (s2.trans (.of sa)) (G2.same sa)
end
end My
set_option Elab.async false
set_option linter.all false
set_option maxRecDepth 100000
set_option maxHeartbeats 4000000
/-! Values of any kind: None, bools, ints, texts, tuples, lists, dicts (keys ints and texts), nested; none of them is the pen at p. -/
namespace My
open PySem PySem.Spec PyProof.Rows L2

def keyD : Key → PyData
  | .inl i => .int i
  | .inr x => .str x
mutual
inductive Da (K : PySem.W.Frag) (p : Addr) (H : Hp) : V → PyData → Prop
  | non : Da K p H .non .none
  | bl (b : Bool) : Da K p H (.bl b) (.bool b)
  | int (i : Int) : Da K p H (.int i) (.int i)
  | str (x : Str) : Da K p H (.str x) (.str x)
  | lst {a : Addr} {xs : List V} {ds : List PyData} : a ≠ sysModules → SqL K H a xs → DaAll K p H xs ds → Da K p H (.ref a) (.list ds)
  | tup {a : Addr} {xs : List V} {ds : List PyData} : SqT K H a xs → DaAll K p H xs ds → Da K p H (.ref a) (.tuple ds)
  | dct {a : Addr} {kvs : List (Key × V)} {es : List (PyData × PyData)} : a ≠ p → H a = some (.dK kvs) → DaKv K p H kvs es → Da K p H (.ref a) (.dict es)
inductive DaAll (K : PySem.W.Frag) (p : Addr) (H : Hp) : List V → List PyData → Prop
  | nil : DaAll K p H [] []
  | cons {v : V} {vs : List V} {d : PyData} {ds : List PyData} : Da K p H v d → DaAll K p H vs ds → DaAll K p H (v :: vs) (d :: ds)
inductive DaKv (K : PySem.W.Frag) (p : Addr) (H : Hp) : List (Key × V) → List (PyData × PyData) → Prop
  | nil : DaKv K p H [] []
  | cons {k : Key} {v : V} {r : List (Key × V)} {d : PyData} {es : List (PyData × PyData)} : Da K p H v d → DaKv K p H r es → DaKv K p H ((k, v) :: r) ((keyD k, d) :: es)
end
section
variable {K : PySem.W.Frag} {p c : Addr} {n : Nat} {H H' H2 : Hp}
/-- what is read of lists, tuples, dicts (but p) stays -/
structure KeepA (K : PySem.W.Frag) (p : Addr) (H H' : Hp) : Prop where
  l : ∀ a xs, SqL K H a xs → SqL K H' a xs
  t : ∀ a xs, SqT K H a xs → SqT K H' a xs
  d : ∀ a kvs, a ≠ p → H a = some (.dK kvs) → H' a = some (.dK kvs)
theorem KeepA.refl : KeepA K p H H := ⟨fun _ _ h => h, fun _ _ h => h, fun _ _ _ h => h⟩
theorem KeepA.trans (a : KeepA K p H H') (b : KeepA K p H' H2) : KeepA K p H H2 := ⟨fun _ _ h => b.l _ _ (a.l _ _ h), fun _ _ h => b.t _ _ (a.t _ _ h), fun _ _ n h => b.d _ _ n (a.d _ _ n h)⟩
theorem _root_.L2.Same.keepA (s : Same H H') : KeepA K p H H' := ⟨s.keeps.l, s.keeps.t, fun _ _ _ e => s _ _ e⟩
theorem SameP.keepA (s : SameP p H H') (G : PenAt H p c n) : KeepA K p H H' := ⟨(s.keeps G).l, (s.keeps G).t, fun _ _ ne e => s _ _ ne e⟩
mutual
theorem da_keep (s : KeepA K p H H') : ∀ {d : PyData} {v : V}, Da K p H v d → Da K p H' v d
  | .none, _, h => by cases h; exact .non
  | .bool _, _, h => by cases h; exact .bl _
  | .int _, _, h => by cases h; exact .int _
  | .str _, _, h => by cases h; exact .str _
  | .tuple ds, _, h => by
    cases h with
    | tup a b => exact .tup (s.t _ _ a) (da_keepAll s b)
  | .list _, _, h => by
    cases h with
    | lst a b c => exact .lst a (s.l _ _ b) (da_keepAll s c)
  | .dict es, _, h => by
    cases h with
    | dct a b c => exact .dct a (s.d _ _ a b) (da_keepKv s c)
theorem da_keepAll (s : KeepA K p H H') : ∀ {ds : List PyData} {vs : List V}, DaAll K p H vs ds → DaAll K p H' vs ds
  | [], _, h => by cases h; exact .nil
  | d :: ds, _, h => by
    cases h with
    | cons a b => exact .cons (da_keep s a) (da_keepAll s b)
theorem da_keepKv (s : KeepA K p H H') : ∀ {es : List (PyData × PyData)} {kvs : List (Key × V)}, DaKv K p H kvs es → DaKv K p H' kvs es
  | [], _, h => by cases h; exact .nil
  | (k, d) :: es, _, h => by
    cases h with
    | cons a b => exact .cons (da_keep s a) (da_keepKv s b)
end
mutual
theorem dt_da : ∀ {d : PyData} {v : V}, Dt K H v d → Da K p H v d
  | .none, _, h => by cases h; exact .non
  | .bool _, _, h => by cases h; exact .bl _
  | .int _, _, h => by cases h; exact .int _
  | .str _, _, h => by cases h; exact .str _
  | .tuple ds, _, h => by
    cases h with
    | tup a b => exact .tup a (dt_daAll b)
  | .list _, _, h => by cases h
  | .dict _, _, h => by cases h
theorem dt_daAll : ∀ {ds : List PyData} {vs : List V}, DtAll K H vs ds → DaAll K p H vs ds
  | [], _, h => by cases h; exact .nil
  | d :: ds, _, h => by
    cases h with
    | cons a b => exact .cons (dt_da a) (dt_daAll b)
end
theorem DaAll.append : ∀ {xs ys : List V} {ds es : List PyData}, DaAll K p H xs ds → DaAll K p H ys es → DaAll K p H (xs ++ ys) (ds ++ es)
  | _, _, _, _, .nil, h => h
  | _, _, _, _, .cons a b, h => .cons a (b.append h)
theorem DaAll.length : ∀ {xs : List V} {ds : List PyData}, DaAll K p H xs ds → xs.length = ds.length
  | _, _, .nil => rfl
  | _, _, .cons _ b => congrArg (· + 1) b.length
theorem DaAll.at : ∀ {xs : List V} {ds : List PyData} {i : Nat} {v : V}, DaAll K p H xs ds → xs[i]? = some v → ∃ d, ds[i]? = some d ∧ Da K p H v d
  | _, _, 0, _, .cons a _, h => by
    cases h
    exact ⟨_, rfl, a⟩
  | _, _, i + 1, _, .cons _ b, h => b.at (i := i) h
theorem DaAll.take : ∀ {xs : List V} {ds : List PyData} (i : Nat), DaAll K p H xs ds → DaAll K p H (xs.take i) (ds.take i)
  | _, _, 0, _ => .nil
  | _, _, _ + 1, .nil => .nil
  | _, _, i + 1, .cons a b => .cons a (b.take i)
theorem DaAll.drop : ∀ {xs : List V} {ds : List PyData} (i : Nat), DaAll K p H xs ds → DaAll K p H (xs.drop i) (ds.drop i)
  | _, _, 0, h => h
  | _, _, _ + 1, .nil => .nil
  | _, _, i + 1, .cons _ b => b.drop i
theorem DaAll.reverse : ∀ {xs : List V} {ds : List PyData}, DaAll K p H xs ds → DaAll K p H xs.reverse ds.reverse
  | _, _, .nil => .nil
  | _, _, .cons a b => by
    rw [List.reverse_cons, List.reverse_cons]
    exact b.reverse.append (.cons a .nil)
end

/-! ### its repr -/
section
variable {X : Cx} {pins : List (Addr × Obj)} {σ : L2.St} {H : Hp} {s : Shared} {p : Addr}
theorem keys_read {P : Program} {w : World} {h : Heap} : ∀ {vs : List (Key × Value)} {es : List DictEntry}, Pairs (mixKind P w) es vs → ReadsAll h (es.map (·.key)) (vs.map fun kv => keyD kv.1) []
  | _, _, .nil => .nil
  | _, _, .cons (e := e) (kv := kv) h1 h2 r => by
    have ih := keys_read (h := h) r
    rcases keyIs_shape (k := kv.1) (v := e.key) h1 with ⟨i, t, e1, e2⟩ | ⟨x, t, e1, e2⟩
    · rw [List.map_cons, List.map_cons, e1, e2]
      exact ReadsAll.cons (.int i t) ih
    · rw [List.map_cons, List.map_cons, e1, e2]
      exact ReadsAll.cons (.str x t) ih
theorem vals_read {P : Program} {w : World} : ∀ {vs : List (Key × Value)} {es : List DictEntry}, Pairs (mixKind P w) es vs → es.map (·.val) = vs.map (·.2)
  | _, _, .nil => rfl
  | _, _, .cons h1 h2 r => by rw [List.map_cons, List.map_cons, h2, vals_read r]
mutual
theorem da_reads (I : Inv X pins σ H s) : ∀ (d : PyData) (v : V) (u : Value), Da X.K p H v d → RelV v u → ∃ as, Reads s.heap u d as ∧ sysModules ∉ as
  | .none, _, _, h, r => by
    cases h
    cases r
    exact ⟨_, .none, List.not_mem_nil⟩
  | .bool b, _, _, h, r => by
    cases h
    cases r
    exact ⟨_, .bool b, List.not_mem_nil⟩
  | .int i, _, _, h, r => by
    cases h
    obtain ⟨t, rfl⟩ := r
    exact ⟨_, .int i t, List.not_mem_nil⟩
  | .str x, _, _, h, r => by
    cases h
    obtain ⟨t, rfl⟩ := r
    exact ⟨_, .str x t, List.not_mem_nil⟩
  | .list ds, _, _, h, r => by
    cases h with
    | lst hne hs ha =>
      cases r
      obtain ⟨its, rv, ⟨o, n, ho, hc, _, hd⟩, _⟩ := I.list hs
      obtain ⟨as, hr, ns⟩ := da_readsAll I ds _ its ha rv
      exact ⟨_, .list ho hc hd hr, fun z => (List.mem_cons.mp z).elim (fun e => hne e.symm) ns⟩
  | .tuple ds, _, _, h, r => by
    cases h with
    | tup hs ha =>
      cases r
      obtain ⟨its, rv, ⟨o, ho, hc, n, hd⟩, _⟩ := I.tuple hs
      obtain ⟨as, hr, ns⟩ := da_readsAll I ds _ its ha rv
      exact ⟨_, .tuple ho hc hd hr, ns⟩
  | .dict es, _, _, h, r => by
    cases h with
    | @dct a kvs _ hn ho hv =>
      cases r
      obtain ⟨_, ns, vs, kv, o, ents, ep, h1, h2, h3, _, h5, _⟩ := dk_of I.hok ho
      obtain ⟨as, hr, nsr, ek⟩ := da_readsKv I es _ vs hv kv
      have r1 := keys_read (h := s.heap) h5
      rw [ek] at r1
      refine ⟨_, .dict h1 h2.1 h3 r1 (by rw [vals_read h5]; exact hr), fun z => ?_⟩
      rcases List.mem_cons.mp (by simpa using z) with e | e
      · rw [← e] at ns
        simp at ns
      · exact nsr e
theorem da_readsAll (I : Inv X pins σ H s) : ∀ (ds : List PyData) (vs : List V) (us : List Value), DaAll X.K p H vs ds → Vals vs us → ∃ as, ReadsAll s.heap us ds as ∧ sysModules ∉ as
  | [], _, _, h, r => by
    cases h
    cases r
    exact ⟨_, .nil, List.not_mem_nil⟩
  | d :: ds, _, _, h, r => by
    cases h with
    | cons h1 h2 =>
      cases r with
      | cons r1 r2 =>
        obtain ⟨as, q1, n1⟩ := da_reads I d _ _ h1 r1
        obtain ⟨bs, q2, n2⟩ := da_readsAll I ds _ _ h2 r2
        exact ⟨_, .cons q1 q2, fun z => (List.mem_append.mp z).elim n1 n2⟩
theorem da_readsKv (I : Inv X pins σ H s) : ∀ (es : List (PyData × PyData)) (kvs : List (Key × V)) (vs : List (Key × Value)), DaKv X.K p H kvs es → KV kvs vs →
    ∃ as, ReadsAll s.heap (vs.map (·.2)) (es.map (·.2)) as ∧ sysModules ∉ as ∧ (vs.map fun kv => keyD kv.1) = es.map (·.1)
  | [], _, _, h, r => by
    cases h
    cases r
    exact ⟨_, .nil, List.not_mem_nil, rfl⟩
  | (k, d) :: es, _, _, h, r => by
    cases h with
    | cons h1 h2 =>
      cases r with
      | cons r1 r2 =>
        obtain ⟨as, q1, n1⟩ := da_reads I d _ _ h1 r1.2
        obtain ⟨bs, q2, n2, e⟩ := da_readsKv I es _ _ h2 r2
        refine ⟨_, .cons q1 q2, fun z => (List.mem_append.mp z).elim n1 n2, ?_⟩
        rw [List.map_cons, List.map_cons, e, ← r1.1]
end
end
section
variable {X : Cx}
def rReprA (K : PySem.W.Frag) : List V → Hp → VK → Prop := fun xs H Q => ∃ p v d, xs = [v] ∧ Da K p H v d ∧ d.showable = true ∧ d.depth ≤ 60 ∧ d.shown.length ≤ sizeLine ∧ Q (.str d.shown) H
theorem call_reprA (hg : Still X.A) (hu : X.A.units + 64 < cLine) : CallR X (.builtin "repr") (rReprA X.K) := by
  intro pins s σ H xs us Q I r h
  obtain ⟨p, v, d, rfl, hd, hs, hdp, hz, q⟩ := h
  obtain ⟨u, rfl, rv⟩ := vals1 r
  obtain ⟨as, rd, nsys⟩ := da_reads I d v u hd rv
  have fin : ∀ (h' : Heap) (t tk : Tok), (∀ b o, s.heap.get? b = some o → h'.get? b = some o) → EP X pins σ Q (.str d.shown t) { s with heap := h', toks := tk } :=
    fun h' t tk k => ⟨.str d.shown, H, inv_more I k, ⟨t, rfl⟩, q⟩
  cases hd with
  | non =>
    cases rv
    exact PySem.P.repr_of_none (by simpa only [PyData.shown] using fin s.heap _ _ fun _ _ e => e)
  | bl b =>
    cases rv
    exact PySem.P.repr_of_bool (by simpa only [PyData.shown] using fin s.heap _ _ fun _ _ e => e)
  | int i =>
    obtain ⟨t, rfl⟩ := rv
    exact PySem.P.repr_of_int (by simpa [PyData.showable] using hs) (by simpa only [PyData.shown] using fin s.heap _ _ fun _ _ e => e)
  | str x =>
    obtain ⟨t, rfl⟩ := rv
    exact PySem.P.repr_of_str (by simpa only [PyData.shown] using fin s.heap _ _ fun _ _ e => e) (by simpa only [PyData.shown] using hz)
  | lst _ _ _ =>
    cases rv
    exact PySem.repr_of_reads' rd hs (fun _ => nsys) hg (by omega) (fun _ _ e => e) (fun h' u tk k => fin h' u tk k) hz
  | tup _ _ =>
    cases rv
    exact PySem.repr_of_reads' rd hs (fun _ => nsys) hg (by omega) (fun _ _ e => e) (fun h' u tk k => fin h' u tk k) hz
  | dct _ _ _ =>
    cases rv
    exact PySem.repr_of_reads' rd hs (fun _ => nsys) hg (by omega) (fun _ _ e => e) (fun h' u tk k => fin h' u tk k) hz
end
/-! ### new lists: not at sys.modules -/
section
variable {X : Cx}
def tLstN (t : TA) : TE := fun σ H Q => t σ H fun xs H1 => xs.length ≤ sizeLine ∧ ∀ p, H1 p = none → p ≠ sysModules → Q (.ref p) (upd H1 p (.lst xs))
theorem pe_lstN {es : List Expr} {pos : Pos} {t : TA} (ha : PA X es t) : PE X (.List es pos) (tLstN t) := by
  constructor
  intro pins s0 σ H Q I q0
  refine wpAny_List_spliced (thn (ha.run pos pins s0 σ H _ I q0) fun us s1 ⟨ys, H2, I2, rv, zz, q1⟩ => ⟨by have := rv.length; omega, ?_⟩)
  have fresh := I2.hok.fresh (Nat.le_refl s1.heap.objs.size)
  have nsys : s1.heap.objs.size ≠ sysModules := Nat.ne_of_gt I2.big
  exact ⟨.ref s1.heap.objs.size, upd H2 s1.heap.objs.size (.lst ys), I2.laid (t' := s1.toks) (fun _ _ e => Heap.get?_push_of_some _ e) (Nat.le_refl _) ⟨zz, us, 0, rv, Heap.get?_push_size _ rfl⟩, rfl, q1 _ fresh nsys⟩
/-- list(t) of a tuple -/
theorem call_listN : CallR X (.type "list") (fun xs H Q => ∃ p ys, xs = [.ref p] ∧ SqT X.K H p ys ∧ ∀ l, H l = none → l ≠ sysModules → Q (.ref l) (upd H l (.lst ys))) := by
  intro pins s σ H xs us Q I rv ⟨p, ys, ex, ht, q⟩
  subst ex
  obtain ⟨u, rfl, r1⟩ := vals1 rv
  cases r1
  obtain ⟨its, rr, ⟨o, ho, hc, n, hd⟩, hz⟩ := I.tuple ht
  have ll := rr.length
  refine call_list_seq p (.inr rfl) ho hc hd (fun h' c' kp e => ?_) (by simp only [List.size_toArray]; omega)
  exact ⟨.ref s.heap.objs.size, _, I.laid (t' := s.toks) kp (Nat.le_refl _) (show ObjOk X.prog X.w _ h' _ (.lst ys) from ⟨hz, its, c', rr, e⟩), rfl, q _ (I.hok.fresh (Nat.le_refl _)) (Nat.ne_of_gt I.big)⟩
end
end My
set_option Elab.async false
set_option linter.all false
set_option maxRecDepth 100000
set_option maxHeartbeats 4000000
/-! {e for target in it}, e an int or a text; len of such a set. -/
namespace My
open PySem PySem.Spec PyProof.Rows L2
section
variable {X : Cx} {pins : List (Addr × Obj)} {σ : L2.St} {H : Hp} {s : Shared}
def noKeys : Key → Bool := fun _ => false
def withKey (S : Key → Bool) (k : Key) : Key → Bool := fun j => S j || decide (j = k)
def more (S : Key → Bool) (k : Key) (n : Nat) : Nat := if S k = true then n else n + 1
theorem keys_fresh {P : Program} {w : World} {h : Heap} : (h.push { cls := .type "set", dict := none, data := .set #[] 0 (.fresh 0 0 (!w.params.followText "set-order")) }).SetOf (mixKind P w) h.objs.size noKeys 0 := by
  refine ⟨_, #[], 0, _, Heap.get?_push_size _ rfl, ⟨rfl, rfl, rfl⟩, rfl, fun e z => ?_, fun k => ?_, by decide, by rfl, rfl⟩
  · exact absurd z (by simp)
  · unfold noKeys
    simp
/-- a key is added -/
theorem key_added {E : Value → Shared → Prop} {D : Addr} {S : Key → Bool} {n : Nat} {k : Key} {u : Value} {Q : Value → Shared → Prop} (I : Inv X pins σ H s) (e : H D = some (SetK X.prog X.w D S n)) (r : RelV (kV k) u) (room : n + 1 < scanBound)
    (q : ∀ s', Inv X pins σ (upd H D (SetK X.prog X.w D (withKey S k) (more S k n))) s' → Q .none s') : wpAny (model X.prog X.w) X.A (call (.builtin "set.add") [.ref D, u]) Q E s := by
  refine call_set_add (kV_is r) (key_scan r) (setK_get I e) room fun h' same now => ?_
  obtain ⟨ob, _, _, _, there, _⟩ := id now
  refine q _ (I.write (e := D) (t' := s.toks + 1) ?_ (.inl rfl) (fun b u ne hu => (same.2 b ne).trans hu) ⟨ob, there⟩ (setK_new now))
  rw [e]
  trivial
/-- what one turn wants of the element's key -/
def keyEnd (P : Program) (w : World) (D : Addr) (Nx : Hp → Prop) : VK := fun y H => ∃ (k : Key) (S : Key → Bool) (n : Nat), y = kV k ∧ H D = some (SetK P w D S n) ∧ n + 1 < scanBound ∧ Nx (upd H D (SetK P w D (withKey S k) (more S k n)))
/-- the comprehension's reading; D is the new set -/
def tSetC (P : Program) (w : World) (wi : TI) (g : TG) (te : TE) (vs : List Nat) : TE := fun σ H Q => wi σ H fun J H1 => ∀ D, H1 D = none →
  ∃ W : Nat → Nat → Hp → Prop, (∃ m, W 0 m (upd H1 D (SetK P w D noKeys 0))) ∧ ∀ i m H, W i m H → (J.stop i H ∧ Q (.ref D) H) ∨
    (J.go i H ∧ ∃ Nx : Hp → Prop, (∀ H', Nx H' → ∃ m', m' < m ∧ W (i + 1) m' H') ∧ ∀ x H', J.yld i H x H' → g x (wipe σ vs) H' fun σ2 H2 => wipe σ2 vs = wipe σ vs ∧ te σ2 H2 (keyEnd P w D Nx))
theorem pe_setc {elt tg iter : Expr} {scope : Scope} {own : List (PySem.Str × Nat)} {pos : Pos} {wi : TI} {g : TG} {te : TE} (calm : X.calm = true) (nd : X.N.Nodup) (hi : PI X tg iter wi) (ok : BlkOk X.N X.env.scope scope own)
    (hg : ∀ (s : Shared) (H : Hp) (C : Addr) (cl : List (PySem.Str × Addr)) (fp : List Addr), PG (X.blk s H scope (compEnvC scope cl C X.env) fp) tg g)
    (he : ∀ (s : Shared) (H : Hp) (C : Addr) (cl : List (PySem.Str × Addr)) (fp : List Addr), PE (X.blk s H scope (compEnvC scope cl C X.env) fp) elt te)
    (plain : ∀ x, foldedSetIterable iter X.env x = pure x := by intro _; rfl) : PE X (.SetComp elt [⟨tg, iter, [], 0⟩] scope pos) (tSetC X.prog X.w wi g te (own.map (·.2))) := by
  refine ⟨fun pins s σ H Q I h => ?_⟩
  rw [PpSet.eval_SetComp]
  have cells : ∀ y ∈ scope.names, y.2 = .free → ∃ c, X.env.cells.lookup y.1 = some c := fun y hy e =>
    (ok.free y hy e).elim (fun k => I.ok.has _ (.inl k)) fun k => I.ok.has _ (.inr k)
  refine wpAny_comprehension_free (use := none) rfl plain (closure_ok cells) ok.kind (fun y hy e => (ok.uniq y hy).trans (congrArg some e)) ?_
  refine thn (hi.run pins s σ H _ I h) fun xv sa walks => thn walks fun itv sb z => ?_
  obtain ⟨it, fp, tn, J, Hb, rfl, Ib, T, st, foot, q⟩ := z
  refine PpSet.newSet_ok (newEnv_comp ?_)
  generalize hD : sb.heap.objs.size = D
  have freeD : Hb D = none := Ib.hok.fresh (Nat.le_of_eq hD)
  obtain ⟨W, ⟨m0, w0⟩, turn⟩ := q D freeD
  generalize hc : ({ sb with heap := sb.heap.push { cls := .type "set", dict := none, data := .set #[] 0 (.fresh 0 0 (!X.w.params.followText "set-order")) } } : Shared) = sc
  have heapC : sc.heap = sb.heap.push { cls := .type "set", dict := none, data := .set #[] 0 (.fresh 0 0 (!X.w.params.followText "set-order")) } := by rw [← hc]
  have Ic : Inv X pins σ (upd Hb D (SetK X.prog X.w D noKeys 0)) sc := by
    rw [← hc]
    refine Ib.laid (t' := sb.toks) (fun b o e => Heap.get?_push_of_some _ e) (Nat.le_of_eq hD) ?_
    rw [← hD]
    exact setK_new keys_fresh
  have small : ∀ b ∈ fp, b < sb.heap.objs.size := fun b hb => let ⟨_, e, _⟩ := T.obj _ _ st b hb; Heap.lt_size e
  have footC : ∀ b ∈ fp, FpOk X pins (upd Hb D (SetK X.prog X.w D noKeys 0)) b ∧ b < sc.heap.objs.size := fun b hb => by
    have lt := small b hb
    refine ⟨⟨(upd_ne (hD ▸ Nat.ne_of_lt lt)).trans (foot b hb).1, (foot b hb).2⟩, ?_⟩
    rw [heapC, Heap.size_push]
    exact Nat.lt_succ_of_lt lt
  have stc : tn 0 sc.heap := T.keep _ _ _ st fun b _ o e => heapC ▸ Heap.get?_push_of_some _ e
  have In := block_start Ic ok nd footC
  let ce := compEnvC scope (cellsFrom (sc.heap.objs.size + 1) scope.names (cloFrom X.env.cells scope.names [])) sc.heap.objs.size X.env
  let Hc := upd Hb D (SetK X.prog X.w D noKeys 0)
  have pg : PG (X.blk sc Hc scope ce fp) tg g := hg _ _ _ _ _
  have pe : PE (X.blk sc Hc scope ce fp) elt te := he _ _ _ _ _
  let B := X.blk sc Hc scope ce fp
  have nfp : ∀ b ∈ fp, Hc b = none := fun b hb => (footC b hb).1.1
  generalize hd : ({ sc with heap := pushCells (sc.heap.push { cls := .type "dict", data := .dict #[] }) scope.names } : Shared) = sd at In
  have Id : Inv B [] (wipe σ (own.map (·.2))) Hc sd := In
  have std : tn 0 sd.heap := T.keep _ _ _ stc fun b _ o e => by rw [← hd]; exact pushCells_keeps _ _ _ _ (Heap.get?_push_of_some _ e)
  have stay : ∀ {σ' : L2.St} {H' : Hp} {s' : Shared}, Inv B [] σ' H' s' → (∀ b ∈ fp, H' b = none) → ∀ b ∈ fp, FpOk B [] H' b := fun {_ _ _} J no b hb =>
    ⟨no b hb, (J.ok.exf b hb).1, J.ok.exfs b hb, .inl hb, fun x c e => (J.ok.exf b hb).2 x c e, fun p hp => (List.not_mem_nil (List.append_nil ([] : List (Addr × Obj)) ▸ hp)).elim⟩
  have loop : codeAny (model X.prog X.w) X.A (.compLoop (.SetComp elt [⟨tg, iter, [], 0⟩] scope pos) 0 (.ref it) (.ref D) ce) (compPost (model X.prog X.w) X.A X.xe none (EP X pins σ Q) (.ref D) sc.heap.objs.size) sd := by
    refine PpSet.compLoopS_any (fun n s' => ∃ i H', Inv B [] (wipe σ (own.map (·.2))) H' s' ∧ tn i s'.heap ∧ (∀ b ∈ fp, H' b = none) ∧ W i n H') ?_ m0 ⟨0, Hc, Id, std, nfp, w0⟩
    rintro n se ⟨i, He, Ie, ste, ne, we⟩
    rcases turn i n He we with ⟨stop, fin⟩ | ⟨go, Nx, fall, step⟩
    · refine thnF (T.done B rfl rfl rfl calm i [] se _ He (fun _ _ => False) Ie (stay Ie ne) ste stop) fun r sf ⟨er, If⟩ => ?_
      subst er
      have Ig : Inv X pins σ He sf := Ic.call' (ch := fp) If.os If.base If.hok If.bare fun b hb => let f := (footC b hb).1; ⟨f.2.2.2.1, f.2.1, f.2.2.2.2.1, f.2.2.2.2.2⟩
      have noC : He sc.heap.objs.size = none := If.free
      obtain ⟨m, hn, _⟩ := If.loc
      obtain ⟨f0, f1, f2, f3, f4, f5⟩ := Ic.fpOk (Nat.le_refl _) noC
      exact ⟨m, hn, fun h'' sm => ⟨.ref D, He, Ig.turned (t' := sf.toks) (fun b o hb e => (sm.2 b hb).trans e) f0 f1 f3 f4 f5, rfl, fin⟩⟩
    · refine thnF (T.item B rfl rfl rfl calm i [] se _ He (fun _ _ => False) Ie (stay Ie ne) ste go) fun r sf ⟨u, er, hf⟩ => ?_
      subst er
      refine thnF hf fun _ sg ⟨x, Hg, Ig, rg, yg, stg, ng⟩ => ?_
      have Ip := Ig.pinned (stay Ig ng) (T.obj _ _ stg)
      refine thnF (pg.run _ sg _ Hg x u _ Ip rg (step x Hg yg)) fun _ sh ⟨σh, Hh, Ih, same, qh⟩ => ?_
      refine wpAny_tests_nil ?_
      rw [if_pos rfl]
      refine thnF (pe.run _ sh σh Hh _ Ih qh) fun v si ⟨yv, Hi, Ii, rv, k, S, c, ey, hDi, room, nx⟩ => ?_
      subst ey
      refine key_added (X := B) Ii hDi rv room fun sj Ij => ?_
      obtain ⟨m', lt, w'⟩ := fall _ nx
      have held : ∀ b ∈ fp, ∀ o, sg.heap.get? b = some o → sj.heap.get? b = some o ∧ (upd Hi D (SetK X.prog X.w D (withKey S k) (more S k c))) b = none := fun b hb o e =>
        let z := Ij.pin (b, o) (List.mem_append_right _ (List.mem_append_right _ (mem_pinsAt hb e)))
        ⟨z.1, z.2.1⟩
      have len : (wipe σ (own.map (·.2))).length = σh.length := by rw [← same, wipe_length]
      refine ⟨m', lt, i + 1, _, (Ij.unpinned (pins := [])).weak len (fun j v e => ?_), T.keep _ _ _ stg fun b hb o e => (held b hb o e).1, fun b hb => ?_, w'⟩
      · rw [← same] at e
        exact (wipe_some e).1
      · obtain ⟨o, e, _⟩ := T.obj _ _ stg b hb
        exact (held b hb o e).2
  exact PpSet.codeAny_compStart_set loop (T.self X.A 0 _ _ _ std loop)
end
end My
set_option Elab.async false
set_option linter.all false
set_option maxRecDepth 100000
set_option maxHeartbeats 8000000
/-! set(xs), xs a list (or a tuple) of ints and texts, any number of them; len of a set of such. -/
namespace My
open PySem PySem.Spec PyProof.Rows L2

theorem one_nodup {α : Type} (x : α) : [x].Nodup := List.nodup_cons.mpr ⟨List.not_mem_nil, List.nodup_nil⟩
open Classical in
/-- the keys met so far, each once -/
noncomputable def metK : List Key → List Key → List Key
  | seen, [] => seen
  | seen, k :: r => metK (if k ∈ seen then seen else seen ++ [k]) r
open Classical in
theorem metK_snoc : ∀ (xs seen : List Key) (k : Key), metK seen (xs ++ [k]) = if k ∈ metK seen xs then metK seen xs else metK seen xs ++ [k]
  | [], seen, k => rfl
  | x :: r, seen, k => metK_snoc r _ k
open Classical in
theorem mem_metK : ∀ (xs seen : List Key) (k : Key), k ∈ metK seen xs ↔ k ∈ seen ∨ k ∈ xs
  | [], seen, k => by simp [metK]
  | x :: r, seen, k => by
    rw [metK, mem_metK r]
    split
    · rename_i h
      constructor
      · rintro (z | z)
        · exact .inl z
        · exact .inr (List.mem_cons_of_mem _ z)
      · rintro (z | z)
        · exact .inl z
        · rcases List.mem_cons.mp z with e | z
          · subst e
            exact .inl h
          · exact .inr z
    · rw [List.mem_append, List.mem_singleton, List.mem_cons, or_assoc]
open Classical in
theorem nodup_metK : ∀ (xs seen : List Key), seen.Nodup → (metK seen xs).Nodup
  | [], _, h => h
  | x :: r, seen, h => by
    rw [metK]
    refine nodup_metK r _ ?_
    split
    · exact h
    · rename_i z
      exact List.nodup_append.mpr ⟨h, one_nodup x, fun a ha b hb e => z (by rw [List.mem_singleton.mp hb] at e; exact e ▸ ha)⟩
open Classical in
theorem len_metK_le : ∀ (xs seen : List Key), (metK seen xs).length ≤ seen.length + xs.length
  | [], _ => Nat.le_refl _
  | x :: r, seen => by
    rw [metK]
    have h := len_metK_le r (if x ∈ seen then seen else seen ++ [x])
    have : (if x ∈ seen then seen else seen ++ [x]).length ≤ seen.length + 1 := by
      split
      · omega
      · rw [List.length_append]; exact Nat.le_refl _
    rw [List.length_cons]
    omega
open Classical in
/-- as many as items just where all differ -/
theorem len_metK_eq : ∀ (xs seen : List Key), seen.Nodup → ((metK seen xs).length = seen.length + xs.length ↔ (seen ++ xs).Nodup)
  | [], seen, h => by simp [metK, h]
  | x :: r, seen, h => by
    rw [metK]
    by_cases z : x ∈ seen
    · rw [if_pos z]
      constructor
      · intro e
        have := len_metK_le r seen
        rw [List.length_cons] at e
        omega
      · intro nd
        have := (List.nodup_append.mp nd).2.2 x z x List.mem_cons_self
        exact absurd rfl this
    · rw [if_neg z]
      have nd : (seen ++ [x]).Nodup := List.nodup_append.mpr ⟨h, one_nodup x, fun a ha b hb e => z (by rw [List.mem_singleton.mp hb] at e; exact e ▸ ha)⟩
      have ih := len_metK_eq r (seen ++ [x]) nd
      rw [List.length_append, List.length_singleton, List.append_assoc] at ih
      rw [List.length_cons, show seen.length + (r.length + 1) = seen.length + 1 + r.length by omega]
      exact ih
open Classical in
noncomputable def inK (xs : List Key) : Key → Bool := fun k => decide (k ∈ xs)

section
variable {prog : Program} {w : World}
theorem setOf_eq {h : Heap} {a : Addr} {S T : Key → Bool} {n m : Nat} (R : h.SetOf (mixKind prog w) a S n) (e : ∀ k, S k = T k) (en : n = m) : h.SetOf (mixKind prog w) a T m := by
  cases (funext e : S = T)
  cases en
  exact R
open Classical in
theorem met_add {h : Heap} {a : Addr} {xs : List Key} {k : Key} (R : h.SetOf (mixKind prog w) a (fun j => inK (metK [] xs) j || decide (j = k)) (if inK (metK [] xs) k = true then (metK [] xs).length else (metK [] xs).length + 1)) :
    h.SetOf (mixKind prog w) a (inK (metK [] (xs ++ [k]))) (metK [] (xs ++ [k])).length := by
  refine setOf_eq R (fun j => ?_) ?_
  · unfold inK
    rw [metK_snoc]
    by_cases z : k ∈ metK [] xs
    · rw [if_pos z]
      by_cases e : j = k
      · subst e
        simp [z]
      · simp [e]
    · rw [if_neg z]
      by_cases e : j = k
      · simp [e]
      · simp [e]
  · unfold inK
    rw [metK_snoc]
    by_cases z : k ∈ metK [] xs
    · rw [if_pos z, if_pos (decide_eq_true z)]
    · rw [if_neg z, if_neg (by simpa using z), List.length_append]
      rfl
variable {A : Around} {R : Result → Shared → Prop} {it : Addr} {fp wr : List Addr} {G : Array GenState → Array GenState → Prop} {n : Nat} {Y : Nat → Value → Prop} {St : Nat → Shared → Prop}
/-- the filling loop -/
theorem fill_loop (W : WalksS prog w A.in1 it fp wr G n Y St) {D : Addr} (apart : D ∉ fp) {ks : List Key} (len : ks.length = n) (keys : ∀ i v, Y i v → ∃ k, ks[i]? = some k ∧ keyIs k v = true) (room : n + 1 < scanBound) :
    ∀ (left i : Nat) (s : Shared), i + left = n → St i s → s.heap.SetOf (mixKind prog w) D (inK (metK [] (ks.take i))) (metK [] (ks.take i)).length →
      (∀ s', Moved (D :: wr) G s s' → s'.heap.SetOf (mixKind prog w) D (inK (metK [] ks)) (metK [] ks).length → R (.ok (.ret .none)) s') → codeAny (model prog w) A (.builtin "set.update.loop" ⟨[.ref D, .ref it], []⟩) R s := by
  have notW : D ∉ wr := fun h => apart (W.sub _ h)
  have wide : ∀ b ∈ wr, b ∈ D :: wr := fun _ h => List.mem_cons_of_mem _ h
  have kept : ∀ {s s' : Shared} {S : Key → Bool} {m : Nat}, Moved wr G s s' → s.heap.SetOf (mixKind prog w) D S m → s'.heap.SetOf (mixKind prog w) D S m := fun mv q => setOf_at q fun o e => mv.heap D o notW e
  intro left
  induction left with
  | zero =>
    intro i s e st have_ go
    have all : i = n := e
    subst all
    refine codeAny_builtin PyProof.Rows.F.entry_set_update_loop ?_
    rw [Around.under_plainId PyProof.Rows.F.plain_set_update_loop _]
    refine (show wpAny _ A.in1 (pyNext (.ref it) >>= _) _ _ s from wpAny_bind (W.done s _ _ st fun s' mv => ?_))
    refine (show wpAny _ A.in1 (ret Value.none) _ _ s' from wpAny_pure (go s' (mv.mono wide) ?_))
    have q := kept mv have_
    rwa [List.take_of_length_le (Nat.le_of_eq len)] at q
  | succ left ih =>
    intro i s e st have_ go
    refine codeAny_builtin PyProof.Rows.F.entry_set_update_loop ?_
    rw [Around.under_plainId PyProof.Rows.F.plain_set_update_loop _]
    refine (show wpAny _ A.in1 (pyNext (.ref it) >>= _) _ _ s from wpAny_bind (W.item i s _ _ (by omega) st fun v s' yv st' mv => ?_))
    obtain ⟨k, hk, isk⟩ := keys i v yv
    have q := kept mv have_
    have few : (metK [] (ks.take i)).length ≤ i := by
      have h := len_metK_le (ks.take i) []
      rw [List.length_take, List.length_nil] at h
      omega
    have scan : v.scannable = true := by
      rcases keyIs_shape isk with ⟨_, _, _, rfl⟩ | ⟨_, _, _, rfl⟩ <;> rfl
    refine (show wpAny _ A.in1 (holding [v] (setAdd D v) >>= _) _ _ s' from wpAny_bind (wpAny_holding ?_))
    unfold setAdd
    refine wpAny_holding (wpAny_bind ((mixKind prog w).pyHash (k := k) isk ?_))
    refine wpAny_setAddHashed_of (knd := mixKind prog w) (s := { s' with toks := s'.toks + 1 }) isk scan q (by omega) fun h' same now => ?_
    have nowK := met_add now
    rw [show ks.take i ++ [k] = ks.take (i + 1) by rw [List.take_add_one, hk]; rfl] at nowK
    refine wpAny_pure ⟨plainId_quiet PyProof.Rows.F.plain_set_update_loop _, ih (i + 1) _ (by omega) (W.frame _ s' _ _ st' (Nat.le_succ _) fun b hb o e => ?_) nowK fun s'' mv' end_ => ?_⟩
    · exact (same.2 b fun z => apart (z ▸ hb)).trans e
    · exact go s'' (Moved.trans W.gtrans ((mv.mono wide).then_heap (Nat.le_succ _) fun b o hb e => (same.2 b fun z => hb (z ▸ List.mem_cons_self)).trans e) mv') end_
end

section
variable {prog : Program} {w : World} {A : Around} {E : Value → Shared → Prop} {s : Shared}
abbrev setOb (led : Bool) : Obj := { cls := .type "set", dict := none, data := .set #[] 0 (.fresh 0 0 led) }
theorem setFrom_list {l : Addr} {items : Array Value} {ks : List Key} {Q : Value → Shared → Prop} (calm : A.handled = none) (src : s.heap.IsList l items) (len : ks.length = items.size) (keys : ∀ (i : Nat) (v : Value), items[i]? = some v → ∃ k, ks[i]? = some k ∧ keyIs k v = true)
    (room : items.size + 1 < scanBound) (q : ∀ (h' : Heap) (tk : Nat), h'.SetOf (mixKind prog w) s.heap.objs.size (inK (metK [] ks)) (metK [] ks).length → (∀ b o, b < s.heap.objs.size → s.heap.get? b = some o → h'.get? b = some o) →
      Q (.ref s.heap.objs.size) { s with heap := h', toks := tk }) : wpAny (model prog w) A (call (.type "set") [.ref l]) Q E s := by
  obtain ⟨c0, t0, mro0⟩ := PySem.F.called_set.mro
  have made0 := PySem.F.called_set.made
  have sub0 := PySem.F.called_set.sub
  refine wpAny_call (codeAny_of_tree (show wpAny _ _ (callAny (.type "set") _) _ _ _ from ?_))
  refine wpAny_pure ⟨Code.quiet_builtin _ (by decide +kernel), codeAny_builtin PySem.F.entry_type_call ?_⟩
  rw [Around.under_plain (weight_type_call_type "set" [.ref l] []) rfl]
  have nt0 := PySem.F.called_set.notType
  have cc0 := PySem.F.called_set.canCreate
  have tc0 := PySem.F.typeCall_set_1 (.ref l)
  repeat (any_goals (first | assumption | wp_step))
  refine codeAny_mono (code_set_new_1 (.ref l) (E := E) (Q₁ := fun ob s1 => ∃ led : Bool, ob = .ref s.heap.objs.size ∧ s1 = { s with heap := s.heap.push (setOb led) }) fun led => ⟨led, rfl, rfl⟩) fun res s1 z => ?_
  match res, z with
  | .error e, z => exact z
  | .ok .next, z => exact z.elim
  | .ok .brk, z => exact z.elim
  | .ok .cont, z => exact z.elim
  | .ok (.ret ob), ⟨led, e1, e2⟩ =>
    subst e1
    subst e2
    have at0 : (s.heap.push (setOb led)).get? s.heap.objs.size = some (setOb led) := Heap.get?_push_size _ rfl
    have ty0 : Shared.TypeIs { s with heap := s.heap.push (setOb led) } (.ref s.heap.objs.size) "set" := ⟨_, at0, rfl⟩
    have li0 := PySem.F.called_set.init.lookup
    have bi0 := PySem.F.called_set.init.bind (.ref s.heap.objs.size)
    repeat (any_goals (first | assumption | wp_step))
    refine codeAny_mono (codeAny_call_builtin (R := wants (fun r s2 => r = .none ∧ ∃ h' tk, s2 = { s with heap := h', toks := tk } ∧ h'.SetOf (mixKind prog w) s.heap.objs.size (inK (metK [] ks)) (metK [] ks).length ∧
        (∀ b o, b < s.heap.objs.size → s.heap.get? b = some o → h'.get? b = some o)) E) PySem.F.called_set.init.plain PySem.F.entry_set_init (check_set_init_1 ty0 ?_)) fun res2 s2 z2 => ?_
    · obtain ⟨⟨cl, dc, dt, sl⟩, hol, hcl, nl, hdl⟩ := src
      simp only at hcl hdl
      subst hcl
      subst hdl
      have here : (s.heap.push (setOb led)).get? l = some { cls := .type "list", dict := dc, data := .seq items nl, slots := sl } := Heap.get?_push_of_some _ hol
      have su1 := PySem.F.sub_list_set
      have su2 := PySem.F.sub_list_frozenset
      have nd0 : (Value.type "list" == Value.type "dict") = false := by decide
      have src' : (s.heap.push (setOb led)).IsList l items := ⟨_, here, rfl, nl, rfl⟩
      unfold Builtin.«set.__init__» noKeywords Builtin.Frozenset.updateFrom
      generalize pz : pyIter = pzI
      wp_walk
      subst pz
      refine wpAny_pyIter_list src' (wpAny_bind (wpAny_runValue ?_))
      have below : l < s.heap.objs.size := Heap.lt_size hol
      have calm3 : A.in1.in1.in1.handled = none := by simp [calm]
      have sz1 : (s.heap.push (setOb led)).objs.size = s.heap.objs.size + 1 := Heap.size_push _ _
      have ne1 : l ≠ (s.heap.push (setOb led)).objs.size := by
        rw [sz1]
        exact Nat.ne_of_lt (Nat.lt_succ_of_lt below)
      have out : s.heap.objs.size ∉ [(s.heap.push (setOb led)).objs.size, l] := by
        rw [sz1]
        simp only [List.mem_cons, List.not_mem_nil, or_false, not_or]
        exact ⟨Nat.ne_of_lt (Nat.lt_succ_self _), Nat.ne_of_gt below⟩
      refine fill_loop ((Walks.list calm3 _ l ne1 items).toS) out len keys room items.size 0 _ (Nat.zero_add _) ⟨⟨_, Heap.get?_push_size _ rfl, rfl, rfl⟩, (src'.push _)⟩ ?_ fun s' mv end_ => ?_
      · have get0 : ((s.heap.push (setOb led)).push { cls := .type "list_iterator", data := .fields #[.ref l, .int 0 0] }).get? s.heap.objs.size = some (setOb led) := Heap.get?_push_of_some _ at0
        refine ⟨_, #[], 0, _, get0, ⟨rfl, rfl, rfl⟩, rfl, fun e z => absurd z (by simp), fun k => ?_, by decide, by rfl, rfl⟩
        simp [inK, metK]
      · obtain ⟨h', g', d', tk', os'⟩ := s'
        cases (show g' = s.gens from mv.gens)
        cases (show d' = s.drawn from mv.drawn)
        cases (show os' = s.os from mv.os)
        refine (show wpAny _ _ _ _ _ _ from wpAny_pure (show wpAny _ _ (ret Value.none) _ _ _ from wpAny_pure ⟨rfl, h', tk', rfl, end_, fun b o hb e => ?_⟩))
        refine mv.heap b o ?_ (Heap.get?_push_of_some _ (Heap.get?_push_of_some _ e))
        simp only [List.mem_cons, List.not_mem_nil, or_false, not_or]
        refine ⟨Nat.ne_of_lt hb, ?_⟩
        rw [sz1]
        exact Nat.ne_of_lt (Nat.lt_succ_of_lt hb)
    · match res2, z2 with
      | .error e, z2 => exact z2
      | .ok .next, z2 => exact z2.elim
      | .ok .brk, z2 => exact z2.elim
      | .ok .cont, z2 => exact z2.elim
      | .ok (.ret r), ⟨e1, h', tk, e2, end_, keep⟩ =>
        subst e1
        subst e2
        repeat (any_goals (first | assumption | wp_step))
        exact q _ _ end_ keep
end

section
variable {prog : Program} {w : World} {A : Around} {E : Value → Shared → Prop} {s : Shared}
theorem setFrom_tuple {l : Addr} {items : Array Value} {ks : List Key} {Q : Value → Shared → Prop} (calm : A.handled = none) (src : s.heap.IsTuple l items) (len : ks.length = items.size) (keys : ∀ (i : Nat) (v : Value), items[i]? = some v → ∃ k, ks[i]? = some k ∧ keyIs k v = true)
    (room : items.size + 1 < scanBound) (q : ∀ (h' : Heap) (tk : Nat), h'.SetOf (mixKind prog w) s.heap.objs.size (inK (metK [] ks)) (metK [] ks).length → (∀ b o, b < s.heap.objs.size → s.heap.get? b = some o → h'.get? b = some o) →
      Q (.ref s.heap.objs.size) { s with heap := h', toks := tk }) : wpAny (model prog w) A (call (.type "set") [.ref l]) Q E s := by
  obtain ⟨c0, t0, mro0⟩ := PySem.F.called_set.mro
  have made0 := PySem.F.called_set.made
  have sub0 := PySem.F.called_set.sub
  refine wpAny_call (codeAny_of_tree (show wpAny _ _ (callAny (.type "set") _) _ _ _ from ?_))
  refine wpAny_pure ⟨Code.quiet_builtin _ (by decide +kernel), codeAny_builtin PySem.F.entry_type_call ?_⟩
  rw [Around.under_plain (weight_type_call_type "set" [.ref l] []) rfl]
  have nt0 := PySem.F.called_set.notType
  have cc0 := PySem.F.called_set.canCreate
  have tc0 := PySem.F.typeCall_set_1 (.ref l)
  repeat (any_goals (first | assumption | wp_step))
  refine codeAny_mono (code_set_new_1 (.ref l) (E := E) (Q₁ := fun ob s1 => ∃ led : Bool, ob = .ref s.heap.objs.size ∧ s1 = { s with heap := s.heap.push (setOb led) }) fun led => ⟨led, rfl, rfl⟩) fun res s1 z => ?_
  match res, z with
  | .error e, z => exact z
  | .ok .next, z => exact z.elim
  | .ok .brk, z => exact z.elim
  | .ok .cont, z => exact z.elim
  | .ok (.ret ob), ⟨led, e1, e2⟩ =>
    subst e1
    subst e2
    have at0 : (s.heap.push (setOb led)).get? s.heap.objs.size = some (setOb led) := Heap.get?_push_size _ rfl
    have ty0 : Shared.TypeIs { s with heap := s.heap.push (setOb led) } (.ref s.heap.objs.size) "set" := ⟨_, at0, rfl⟩
    have li0 := PySem.F.called_set.init.lookup
    have bi0 := PySem.F.called_set.init.bind (.ref s.heap.objs.size)
    repeat (any_goals (first | assumption | wp_step))
    refine codeAny_mono (codeAny_call_builtin (R := wants (fun r s2 => r = .none ∧ ∃ h' tk, s2 = { s with heap := h', toks := tk } ∧ h'.SetOf (mixKind prog w) s.heap.objs.size (inK (metK [] ks)) (metK [] ks).length ∧
        (∀ b o, b < s.heap.objs.size → s.heap.get? b = some o → h'.get? b = some o)) E) PySem.F.called_set.init.plain PySem.F.entry_set_init (check_set_init_1 ty0 ?_)) fun res2 s2 z2 => ?_
    · obtain ⟨⟨cl, dc, dt, sl⟩, hol, hcl, nl, hdl⟩ := src
      simp only at hcl hdl
      subst hcl
      subst hdl
      have here : (s.heap.push (setOb led)).get? l = some { cls := .type "tuple", dict := dc, data := .seq items nl, slots := sl } := Heap.get?_push_of_some _ hol
      have su1 := PySem.F.sub_tuple_set
      have su2 := PySem.F.sub_tuple_frozenset
      have nd0 : (Value.type "tuple" == Value.type "dict") = false := by decide
      have src' : (s.heap.push (setOb led)).IsTuple l items := ⟨_, here, rfl, nl, rfl⟩
      unfold Builtin.«set.__init__» noKeywords Builtin.Frozenset.updateFrom
      generalize pz : pyIter = pzI
      wp_walk
      subst pz
      refine wpAny_pyIter_tuple src' (wpAny_bind (wpAny_runValue ?_))
      have below : l < s.heap.objs.size := Heap.lt_size hol
      have calm3 : A.in1.in1.in1.handled = none := by simp [calm]
      have sz1 : (s.heap.push (setOb led)).objs.size = s.heap.objs.size + 1 := Heap.size_push _ _
      have ne1 : l ≠ (s.heap.push (setOb led)).objs.size := by
        rw [sz1]
        exact Nat.ne_of_lt (Nat.lt_succ_of_lt below)
      have out : s.heap.objs.size ∉ [(s.heap.push (setOb led)).objs.size, l] := by
        rw [sz1]
        simp only [List.mem_cons, List.not_mem_nil, or_false, not_or]
        exact ⟨Nat.ne_of_lt (Nat.lt_succ_self _), Nat.ne_of_gt below⟩
      refine fill_loop ((Walks.tuple calm3 _ l ne1 items).toS) out len keys room items.size 0 _ (Nat.zero_add _) ⟨⟨_, Heap.get?_push_size _ rfl, rfl, rfl⟩, (src'.push _)⟩ ?_ fun s' mv end_ => ?_
      · have get0 : ((s.heap.push (setOb led)).push { cls := .type "tuple_iterator", data := .fields #[.ref l, .int 0 0] }).get? s.heap.objs.size = some (setOb led) := Heap.get?_push_of_some _ at0
        refine ⟨_, #[], 0, _, get0, ⟨rfl, rfl, rfl⟩, rfl, fun e z => absurd z (by simp), fun k => ?_, by decide, by rfl, rfl⟩
        simp [inK, metK]
      · obtain ⟨h', g', d', tk', os'⟩ := s'
        cases (show g' = s.gens from mv.gens)
        cases (show d' = s.drawn from mv.drawn)
        cases (show os' = s.os from mv.os)
        refine (show wpAny _ _ _ _ _ _ from wpAny_pure (show wpAny _ _ (ret Value.none) _ _ _ from wpAny_pure ⟨rfl, h', tk', rfl, end_, fun b o hb e => ?_⟩))
        refine mv.heap b o ?_ (Heap.get?_push_of_some _ (Heap.get?_push_of_some _ e))
        simp only [List.mem_cons, List.not_mem_nil, or_false, not_or]
        refine ⟨Nat.ne_of_lt hb, ?_⟩
        rw [sz1]
        exact Nat.ne_of_lt (Nat.lt_succ_of_lt hb)
    · match res2, z2 with
      | .error e, z2 => exact z2
      | .ok .next, z2 => exact z2.elim
      | .ok .brk, z2 => exact z2.elim
      | .ok .cont, z2 => exact z2.elim
      | .ok (.ret r), ⟨e1, h', tk, e2, end_, keep⟩ =>
        subst e1
        subst e2
        repeat (any_goals (first | assumption | wp_step))
        exact q _ _ end_ keep
end
end My
set_option Elab.async false
set_option linter.all false
set_option maxRecDepth 100000
set_option maxHeartbeats 4000000
/-! set(xs), len of a set, {.. for .. in t}: the rules and their turns. -/
namespace My
open PySem PySem.Spec PyProof.Rows L2
section
variable {X : Cx}
theorem vals_keys : ∀ {ks : List Key} {us : List Value}, Vals (ks.map kV) us → ∀ (i : Nat) (v : Value), us[i]? = some v → ∃ k, ks[i]? = some k ∧ keyIs k v = true
  | [], _, .nil, i, v, h => by simp at h
  | k :: r, _, .cons a b, 0, v, h => ⟨k, rfl, by
    cases h
    cases k with
    | inl i =>
      obtain ⟨t, rfl⟩ := a
      exact keyIs_int i t
    | inr x =>
      obtain ⟨t, rfl⟩ := a
      exact keyIs_str x t⟩
  | k :: r, _, .cons a b, i + 1, v, h => vals_keys b i v h
/-- set(xs) -/
def rSetOf (K : PySem.W.Frag) (P : Program) (w : World) : List V → Hp → VK → Prop := fun xs H Q => ∃ (a : Addr) (ks : List Key), xs = [.ref a] ∧ (SqL K H a (ks.map kV) ∨ SqT K H a (ks.map kV)) ∧ ks.length ≤ 1000 ∧
  ∀ p, H p = none → Q (.ref p) (upd H p (SetK P w p (inK (metK [] ks)) (metK [] ks).length))
theorem call_setOf (calm : X.calm = true) : CallR X (.type "set") (rSetOf X.K X.prog X.w) := by
  intro pins s σ H xs us Q I r h
  obtain ⟨a, ks, rfl, hs, hl, q⟩ := h
  obtain ⟨u, rfl, rx⟩ := vals1 r
  cases rx
  have fin : ∀ (h' : Heap) (tk : Nat), h'.SetOf (mixKind X.prog X.w) s.heap.objs.size (inK (metK [] ks)) (metK [] ks).length → (∀ b o, b < s.heap.objs.size → s.heap.get? b = some o → h'.get? b = some o) →
      EP X pins σ Q (.ref s.heap.objs.size) { s with heap := h', toks := tk } := fun h' tk R k =>
    ⟨.ref _, upd H s.heap.objs.size (SetK X.prog X.w s.heap.objs.size (inK (metK [] ks)) (metK [] ks).length), I.laid (t' := tk) (fun b o e => k b o (Heap.lt_size e) e) (Nat.le_refl _) (setK_new R), rfl, q _ (I.hok.fresh (Nat.le_refl _))⟩
  have sb : ks.length + 1 < scanBound := by unfold scanBound; omega
  rcases hs with hs | hs
  · obtain ⟨its, rv, pl, _⟩ := I.list hs
    have el : ks.length = its.toArray.size := by rw [List.size_toArray, ← rv.length, List.length_map]
    exact setFrom_list (I.ok.hd calm) pl.isList el (fun i v e => vals_keys rv i v (by simpa using e)) (by rw [← el]; exact sb) fin
  · obtain ⟨its, rv, pl, _⟩ := I.tuple hs
    have el : ks.length = its.toArray.size := by rw [List.size_toArray, ← rv.length, List.length_map]
    exact setFrom_tuple (I.ok.hd calm) pl el (fun i v e => vals_keys rv i v (by simpa using e)) (by rw [← el]; exact sb) fin
/-- len of a set -/
def rLenK (P : Program) (w : World) : List V → Hp → VK → Prop := fun xs H Q => ∃ (a : Addr) (S : Key → Bool) (n : Nat), xs = [.ref a] ∧ H a = some (SetK P w a S n) ∧ n ≤ 100000 ∧ Q (.int (n : Int)) H
theorem call_lenK : CallR X (.builtin "len") (rLenK X.prog X.w) := by
  intro pins s σ H xs us Q I r h
  obtain ⟨a, S, n, rfl, hs, hn, q⟩ := h
  obtain ⟨u, rfl, rx⟩ := vals1 r
  cases rx
  obtain ⟨o, es, ep, t, ho, hex, hd, _, _, _, hf, en⟩ := setK_get I hs
  exact call_len_set ho hex hd hf (by rw [en] <;> omega) ⟨.int (n : Int), H, I.tok _, ⟨_, by rw [en]⟩, q⟩
end
/-- a set comprehension over a tuple that the block leaves as it is -/
theorem setc_tup {P : Program} {w : World} {K : PySem.W.Frag} {a : Addr} {xs : List V} {g : TG} {te : TE} {vs : List Nat} {σ : L2.St} {H1 : Hp} {D : Addr} {Qd : Hp → Prop} (Pv : Nat → Hp → Prop) (h0 : Pv 0 (upd H1 D (SetK P w D noKeys 0)))
    (hl : ∀ i H, i ≤ xs.length → Pv i H → SqT K H a xs) (hs : ∀ i x H, xs[i]? = some x → Pv i H → g x (wipe σ vs) H fun σ2 H2 => wipe σ2 vs = wipe σ vs ∧ te σ2 H2 (keyEnd P w D (Pv (i + 1)))) (hd : ∀ H, Pv xs.length H → Qd H) :
    ∃ W : Nat → Nat → Hp → Prop, (∃ m, W 0 m (upd H1 D (SetK P w D noKeys 0))) ∧ ∀ i m H, W i m H → ((Itt K a).stop i H ∧ Qd H) ∨
      ((Itt K a).go i H ∧ ∃ Nx : Hp → Prop, (∀ H', Nx H' → ∃ m', m' < m ∧ W (i + 1) m' H') ∧ ∀ x H', (Itt K a).yld i H x H' → g x (wipe σ vs) H' fun σ2 H2 => wipe σ2 vs = wipe σ vs ∧ te σ2 H2 (keyEnd P w D Nx)) := by
  refine ⟨fun i m H => i + m = xs.length ∧ Pv i H, ⟨xs.length, Nat.zero_add _, h0⟩, fun i m H ⟨e, p⟩ => ?_⟩
  have there := hl i H (by omega) p
  cases m with
  | zero =>
    cases e
    exact .inl ⟨⟨xs, there, Nat.le_refl _⟩, hd H p⟩
  | succ m =>
    have lt : i < xs.length := by omega
    refine .inr ⟨⟨xs, xs[i], there, List.getElem?_eq_getElem lt⟩, Pv (i + 1), fun H' p' => ⟨m, Nat.lt_succ_self m, by omega, p'⟩, fun x H' y => ?_⟩
    obtain ⟨rfl, y⟩ := y
    exact hs i x _ (y xs there) p
end My
set_option Elab.async false
set_option linter.all false
set_option maxRecDepth 100000
set_option maxHeartbeats 4000000
namespace My
open PySem PySem.Spec PyProof.Rows L2 SeqAt
section
variable {X : Cx}
theorem op_eqNil (hu : X.A.units + 64 < cLine) : OpR X (compareOp .Eq) (rNil X.K id) := by
  intro pins s σ H x y v u Q I rx ry h
  obtain ⟨a, b, xs, rfl, rfl, h, q⟩ := h
  cases rx
  cases ry
  rcases h with ⟨ha, hb⟩ | ⟨ha, hb⟩
  · obtain ⟨its, rv, ⟨o, n, ho, hc, _, hd⟩, _⟩ := I.list ha
    obtain ⟨its2, rv2, ⟨o2, n2, ho2, hc2, _, hd2⟩, _⟩ := I.list hb
    cases vals_nil rv2
    have l1 : s.heap.IsList a its.toArray := ⟨o, ho, hc, n, hd⟩
    have l2 : s.heap.IsList b #[] := ⟨o2, ho2, hc2, n2, hd2⟩
    cases rv with
    | nil => exact RcAt.lists (e := fun _ => true) l1 l2 rfl (by omega) (fun j h1 => absurd h1 (Nat.not_lt_zero j)) _ _ _ _ ⟨.bl _, H, I, rfl, q⟩
    | cons r t => exact RcAt.lists_lengths l1 l2 (by simp) (by omega) _ _ _ _ ⟨.bl _, H, I, rfl, q⟩
  · obtain ⟨its, rv, ⟨o, ho, hc, n, hd⟩, _⟩ := I.tuple ha
    obtain ⟨its2, rv2, ⟨o2, ho2, hc2, n2, hd2⟩, _⟩ := I.tuple hb
    cases vals_nil rv2
    have l1 : s.heap.IsTuple a its.toArray := ⟨o, ho, hc, n, hd⟩
    have l2 : s.heap.IsTuple b #[] := ⟨o2, ho2, hc2, n2, hd2⟩
    refine RcAt.tuples (e := fun _ => true) l1 l2 (by omega) (fun j _ h2 => absurd h2 (Nat.not_lt_zero j)) _ _ _ _ ?_
    rw [show min its.toArray.size (#[] : Array Value).size = 0 from Nat.min_zero _]
    refine ⟨.bl xs.isEmpty, H, I, ?_, q⟩
    show Value.bool _ = Value.bool _
    rw [← vals_emp rv]
    simp
end
/-! ### a comprehension over anything of a known length -/
theorem lcJ {J : It} {n : Nat} {g : TG} {tt : TT} {te : TE} {vs : List Nat} {σ : L2.St} {H1 : Hp} {D : Addr} {Qd : Hp → Prop} (Pv : Nat → Hp → Prop) (h0 : Pv 0 (upd H1 D (.lst []))) (go : ∀ i H, i < n → Pv i H → J.go i H) (stop : ∀ H, Pv n H → J.stop n H)
    (hs : ∀ i H x H', i < n → Pv i H → J.yld i H x H' → g x (wipe σ vs) H' fun σ2 H2 => wipe σ2 vs = wipe σ vs ∧ tt σ2 H2 fun b H3 =>
      if b = true then te σ2 H3 fun y H4 => ∃ acc, H4 D = some (.lst acc) ∧ acc.length < sizeLine ∧ Pv (i + 1) (upd H4 D (.lst (acc ++ [y]))) else Pv (i + 1) H3) (hd : ∀ H, Pv n H → Qd H) :
    ∃ W : Nat → Nat → Hp → Prop, (∃ m, W 0 m (upd H1 D (.lst []))) ∧ ∀ i m H, W i m H → (J.stop i H ∧ Qd H) ∨
      (J.go i H ∧ ∃ Nx : Hp → Prop, (∀ H', Nx H' → ∃ m', m' < m ∧ W (i + 1) m' H') ∧ ∀ x H', J.yld i H x H' → g x (wipe σ vs) H' fun σ2 H2 => wipe σ2 vs = wipe σ vs ∧ tt σ2 H2 fun b H3 =>
        if b = true then te σ2 H3 fun y H4 => ∃ acc, H4 D = some (.lst acc) ∧ acc.length < sizeLine ∧ Nx (upd H4 D (.lst (acc ++ [y]))) else Nx H3) := by
  refine ⟨fun i m H => i + m = n ∧ Pv i H, ⟨n, Nat.zero_add _, h0⟩, fun i m H ⟨e, p⟩ => ?_⟩
  cases m with
  | zero =>
    cases e
    exact .inl ⟨stop H p, hd H p⟩
  | succ m => exact .inr ⟨go i H (by omega) p, Pv (i + 1), fun H' p' => ⟨m, Nat.lt_succ_self m, by omega, p'⟩, fun x H' y => hs i H x H' (by omega) p y⟩
/-- .. over a text's signs, no test -/
def lcN_str {x : Str} {te : TE} {vs : List Nat} {σ : L2.St} {H1 : Hp} {D : Addr} {Qd : Hp → Prop} {j : Nat} (Pv : Nat → Hp → Prop) (h0 : Pv 0 (upd H1 D (.lst [])))
    (hs : ∀ i c H, x.cps.toList[i]? = some c → Pv i H → wipe ((wipe σ vs).set j (some (.str (sign c)))) vs = wipe σ vs ∧ Grows te D (Pv (i + 1)) ((wipe σ vs).set j (some (.str (sign c)))) H) (hd : ∀ H, Pv x.length H → Qd H) :=
  lcJ (J := Its x) (n := x.length) (g := gName j) (tt := tYes) (te := te) (vs := vs) (σ := σ) (H1 := H1) (D := D) (Qd := Qd) Pv h0 (fun i H lt _ => lt) (fun H _ => Nat.le_refl _)
    (fun i H v H' lt p y => by
      obtain ⟨rfl, c, e, rfl⟩ := y
      have e' : x.cps.toList[i]? = some c := by rw [Array.getElem?_toList]; exact e
      exact yes_turn (hs i c _ e' p).1 (hs i c _ e' p).2) hd
/-- .. with a test whose answer is known and which leaves the heap -/
def lcT_str {x : Str} {tt : TT} {te : TE} {vs : List Nat} {σ : L2.St} {H1 : Hp} {D : Addr} {Qd : Hp → Prop} {j : Nat} (b : Nat → Bool) (Pv : Nat → Hp → Prop) (h0 : Pv 0 (upd H1 D (.lst [])))
    (hs : ∀ i c H, x.cps.toList[i]? = some c → Pv i H → wipe ((wipe σ vs).set j (some (.str (sign c)))) vs = wipe σ vs ∧ (∀ Q : Bool → Hp → Prop, Q (b c) H → tt ((wipe σ vs).set j (some (.str (sign c)))) H Q) ∧
      (b c = true → Grows te D (Pv (i + 1)) ((wipe σ vs).set j (some (.str (sign c)))) H) ∧ (b c = false → Pv (i + 1) H)) (hd : ∀ H, Pv x.length H → Qd H) :=
  lcJ (J := Its x) (n := x.length) (g := gName j) (tt := tt) (te := te) (vs := vs) (σ := σ) (H1 := H1) (D := D) (Qd := Qd) Pv h0 (fun i H lt _ => lt) (fun H _ => Nat.le_refl _)
    (fun i H v H' lt p y => by
      obtain ⟨rfl, c, e, rfl⟩ := y
      have e' : x.cps.toList[i]? = some c := by rw [Array.getElem?_toList]; exact e
      obtain ⟨w1, w2, w3, w4⟩ := hs i c _ e' p
      refine ⟨w1, w2 _ ?_⟩
      cases hb : b c with
      | true => exact iteT (w3 hb)
      | false => exact iteF (w4 hb)) hd

/-! ### kinds -/
def kindD : PyData → String
  | .none => "NoneType"
  | .bool _ => "bool"
  | .int _ => "int"
  | .str _ => "str"
  | .list _ => "list"
  | .tuple _ => "tuple"
  | .dict _ => "dict"
theorem da_ty {K : PySem.W.Frag} {p : Addr} {H : Hp} : ∀ {d : PyData} {v : V}, Da K p H v d → TyX K H v (.type (kindD d))
  | _, _, .non => .base .non
  | _, _, .bl b => .base (.bl b)
  | _, _, .int i => .base (.int i)
  | _, _, .str x => .base (.str x)
  | _, _, .lst _ h _ => by
    rcases h with (h | ⟨o, h⟩) | ⟨o, its, n, h, c, _⟩
    · exact .base (.lst h)
    · exact .base (.frz h)
    · exact .kList h c
  | _, _, .tup h _ => by
    rcases h with (h | ⟨o, h⟩) | ⟨o, its, n, h, c, _⟩
    · exact .base (.tup h)
    · exact .fTuple h
    · exact .kTuple h c
  | _, _, .dct _ h _ => .base (.dK h)
def isStr : PyData → Bool
  | .str _ => true
  | _ => false
def isTup : PyData → Bool
  | .tuple _ => true
  | _ => false
def isInt : PyData → Bool
  | .int _ => true
  | .bool _ => true
  | _ => false
def isBool : PyData → Bool
  | .bool _ => true
  | _ => false
theorem kit_str : ∀ d : PyData, kitB (kindD d) "str" = some (isStr d)
  | .none => (show kitB "NoneType" "str" = some false by decide +kernel)
  | .bool _ => (show kitB "bool" "str" = some false by decide +kernel)
  | .int _ => (show kitB "int" "str" = some false by decide +kernel)
  | .str _ => (show kitB "str" "str" = some true by decide +kernel)
  | .list _ => (show kitB "list" "str" = some false by decide +kernel)
  | .tuple _ => (show kitB "tuple" "str" = some false by decide +kernel)
  | .dict _ => (show kitB "dict" "str" = some false by decide +kernel)
theorem kit_tuple : ∀ d : PyData, kitB (kindD d) "tuple" = some (isTup d)
  | .none => (show kitB "NoneType" "tuple" = some false by decide +kernel)
  | .bool _ => (show kitB "bool" "tuple" = some false by decide +kernel)
  | .int _ => (show kitB "int" "tuple" = some false by decide +kernel)
  | .str _ => (show kitB "str" "tuple" = some false by decide +kernel)
  | .list _ => (show kitB "list" "tuple" = some false by decide +kernel)
  | .tuple _ => (show kitB "tuple" "tuple" = some true by decide +kernel)
  | .dict _ => (show kitB "dict" "tuple" = some false by decide +kernel)
theorem kit_int : ∀ d : PyData, kitB (kindD d) "int" = some (isInt d)
  | .none => (show kitB "NoneType" "int" = some false by decide +kernel)
  | .bool _ => (show kitB "bool" "int" = some true by decide +kernel)
  | .int _ => (show kitB "int" "int" = some true by decide +kernel)
  | .str _ => (show kitB "str" "int" = some false by decide +kernel)
  | .list _ => (show kitB "list" "int" = some false by decide +kernel)
  | .tuple _ => (show kitB "tuple" "int" = some false by decide +kernel)
  | .dict _ => (show kitB "dict" "int" = some false by decide +kernel)
theorem kit_bool : ∀ d : PyData, kitB (kindD d) "bool" = some (isBool d)
  | .none => (show kitB "NoneType" "bool" = some false by decide +kernel)
  | .bool _ => (show kitB "bool" "bool" = some true by decide +kernel)
  | .int _ => (show kitB "int" "bool" = some false by decide +kernel)
  | .str _ => (show kitB "str" "bool" = some false by decide +kernel)
  | .list _ => (show kitB "list" "bool" = some false by decide +kernel)
  | .tuple _ => (show kitB "tuple" "bool" = some false by decide +kernel)
  | .dict _ => (show kitB "dict" "bool" = some false by decide +kernel)
section
variable {K : PySem.W.Frag} {p : Addr} {H : Hp} {v : V} {d : PyData} {Q : VK}
theorem isi_str (h : Da K p H v d) (q : Q (.bl (isStr d)) H) : rIsi K [v, .ty "str"] H Q := ⟨v, _, _, _, _, rfl, .ty _, da_ty h, kit_ty (kit_str d), q⟩
theorem isi_tup (h : Da K p H v d) (q : Q (.bl (isTup d)) H) : rIsi K [v, .ty "tuple"] H Q := ⟨v, _, _, _, _, rfl, .ty _, da_ty h, kit_ty (kit_tuple d), q⟩
theorem isi_int (h : Da K p H v d) (q : Q (.bl (isInt d)) H) : rIsi K [v, .ty "int"] H Q := ⟨v, _, _, _, _, rfl, .ty _, da_ty h, kit_ty (kit_int d), q⟩
theorem isi_bool (h : Da K p H v d) (q : Q (.bl (isBool d)) H) : rIsi K [v, .ty "bool"] H Q := ⟨v, _, _, _, _, rfl, .ty _, da_ty h, kit_ty (kit_bool d), q⟩
end
end My
set_option Elab.async false
set_option linter.all false
set_option maxRecDepth 100000
set_option maxHeartbeats 4000000
namespace My
open PySem PySem.Spec PyProof.Rows L2

/-! ### what is a name, an integer, an end, a row -/
def lowC (c : Nat) : Bool := decide (97 ≤ c ∧ c ≤ 122)
def nmS (x : Str) : Bool := decide (1 ≤ x.length ∧ x.length ≤ 8) && x.cps.toList.all lowC
def nmD : PyData → Bool
  | .str x => nmS x
  | _ => false
def intD : PyData → Bool
  | .int _ => true
  | _ => false
theorem mem_abc (c : Nat) : decide (c ∈ abc.cps.toList) = lowC c := by
  rw [abc_codes]
  unfold lowC
  by_cases h : 97 ≤ c ∧ c ≤ 122
  · rw [decide_eq_true h, decide_eq_true (List.mem_map.mpr ⟨c - 97, List.mem_range.mpr (by omega), by omega⟩)]
  · rw [decide_eq_false h, decide_eq_false fun z => ?_]
    obtain ⟨j, hj, rfl⟩ := List.mem_map.mp z
    have := List.mem_range.mp hj
    exact h (by omega)
/-- texts and lists of a length that the model carries -/
def fitS (x : Str) : Prop := x.length ≤ 100000

section
variable {P : Program} {w : World} {K : PySem.W.Frag} {mg : Str → Option Value} {base : Heap} {t1 t2 : Tok}
def spIsInt (K : PySem.W.Frag) : Sp := fun vs H Q _ => ∃ (p : Addr) (v : V) (d : PyData), vs = [v] ∧ Da K p H v d ∧ Q (.bl (intD d)) H
/-- the names of the module that these defs read -/
structure Glb (mg : Str → Option Value) : Prop where
  isi : mg "isinstance" = none
  int : mg "int" = none
  bool : mg "bool" = none
  str : mg "str" = none
  tuple : mg "tuple" = none
  list : mg "list" = none
  len : mg "len" = none
  all : mg "all" = none
  set : mg "set" = none
  range : mg "range" = none
  abs : mg "abs" = none
  repr : mg "repr" = none
theorem ok_isint {f : Addr} {fd : FuncData} (F : Fun K "is_integer" "is_integer" sIsInt f fd) (B : Glb mg) : FnOk P w K mg base CX0 1 f fd ["value"] (spIsInt K) := by
  refine F.ok scIsInt (fun vs H Q E h => ?_) (fun cdv A outer s H vs Q E hr h => ?_)
  · obtain ⟨p, v, d, rfl, _⟩ := h
    rfl
  · obtain ⟨p, v, d, rfl, D, q⟩ := h
    refine ⟨_, pss_one (ps_ret (pe_and (pe_callB call_isi (by rfl) B.isi boot_isinstance (pa_cons (pv 0) (pa_cons (pe_bltn (v := .ty "int") (by rfl) B.int boot_int rfl) pa_nil)))
      (pe_one (pe_not (pe_callB call_isi (by rfl) B.isi boot_isinstance (pa_cons (pv 0) (pa_cons (pe_bltn (v := .ty "bool") (by rfl) B.bool boot_bool rfl) pa_nil))))))), ?_⟩
    refine ⟨_, rfl, v, _, _, _, _, rfl, .ty _, da_ty D, kit_ty (kit_int d), _, rfl, ?_⟩
    cases hi : isInt d with
    | true =>
      refine iteT ⟨_, rfl, v, _, _, _, _, rfl, .ty _, da_ty D, kit_ty (kit_bool d), _, rfl, ?_⟩
      have e : (!isBool d) = intD d := by cases d <;> first | rfl | cases hi
      rw [e]
      exact q
    | false =>
      refine iteF ?_
      have e : false = intD d := by cases d <;> first | rfl | cases hi
      rw [e]
      exact q
/-- is_name: of any value, for texts of a length that is carried; nothing that is tracked changes -/
def spIsName (K : PySem.W.Frag) : Sp := fun vs H Q _ => ∃ (p : Addr) (v : V) (d : PyData), vs = [v] ∧ Da K p H v d ∧ (∀ x, d = .str x → x.length ≤ 100000) ∧ ∀ H', Same H H' → Q (.bl (nmD d)) H'
theorem str_case {d : PyData} (h : isStr d = true) : ∃ x, d = .str x := by cases d <;> first | exact ⟨_, rfl⟩ | cases h
theorem nm_not {d : PyData} (h : isStr d = false) : nmD d = false := by cases d <;> first | rfl | cases h
theorem all_map (f : Nat → Bool) : ∀ l : List Nat, ((l.map f).all id) = l.all f
  | [] => rfl
  | c :: r => by rw [List.map_cons, List.all_cons, List.all_cons, all_map f r]; rfl
theorem ok_isname {f : Addr} {fd : FuncData} (F : Fun K "is_name" "is_name" sIsName f fd) (B : Glb mg) (g1 : mg "NAME_LENGTH" = some (.int 8 t1)) (g2 : mg "LETTERS" = some (.str abc t2)) : FnOk P w K mg base CX0 1 f fd ["value"] (spIsName K) := by
  refine F.ok scIsName (fun vs H Q E h => ?_) (fun cdv A outer s H vs Q E hr h => ?_)
  · obtain ⟨p, v, d, rfl, _⟩ := h
    rfl
  · obtain ⟨p, v, d, rfl, D, hx, q⟩ := h
    refine ⟨_, pss_cons (ps_if (PW.pt (pw_or (pt_not (pt_val (pe_callB call_isi (by rfl) B.isi boot_isinstance (pa_cons (pv 0) (pa_cons (pe_bltn (v := .ty "str") (by rfl) B.str boot_str rfl) pa_nil)))))
        (pw_or1 (pt_not (pt_chain op_le op_le pe_int (pe_callB call_len (by rfl) B.len PySem.boot_len (pa_cons (pv 0) pa_nil)) (pe_glob (v := .int 8) (by rfl) g1 ⟨_, rfl⟩)))))) (pss_one (ps_ret pe_bl)) pss_nil)
      (pss_one (ps_ret (pe_callB (cr_all rfl) (by rfl) B.all (by decide +kernel) (pa_cons (pe_lc (own := [("letter", 1)]) (g := gName 1) (tt := tYes) rfl scIsName.nd (pi_str (pv 0))
        (blkOk_by (own := [("letter", 1)]) (N := ["value", "letter"]) (sc := defScope sIsName) (by decide +kernel)) (fun _ _ _ _ _ => pg_name (i := 1) scIsName.nd rfl (Or.inl rfl)) (fun _ _ _ _ _ => pts_nil)
        (fun _ _ _ _ _ => pe_cmpR op_in_sign (pv 1) (pe_glob (v := .str abc) (by rfl) g2 ⟨_, rfl⟩) (by rfl))) pa_nil)))), ?_⟩
    refine ⟨_, rfl, v, _, _, _, _, rfl, .ty _, da_ty D, kit_ty (kit_str d), _, rfl, ?_⟩
    cases hi : isStr d with
    | false =>
      refine iteT ?_
      rw [← nm_not hi]
      exact q H (.refl H)
    | true =>
      obtain ⟨x, rfl⟩ := str_case hi
      cases D
      have hxl := hx x rfl
      have e0 : nmD (.str x) = nmS x := rfl
      refine iteF ⟨_, rfl, .str x, x.length, rfl, ⟨Evl.sz_of hxl, rfl⟩, _, _, rfl, rfl, _, rfl, ?_⟩
      have e1 : decide ((1 : Int) ≤ (x.length : Int)) = decide (1 ≤ x.length) := decide_eq_decide.mpr (by omega)
      have e2 : decide ((x.length : Int) ≤ (8 : Int)) = decide (x.length ≤ 8) := decide_eq_decide.mpr (by omega)
      rw [e1]
      by_cases h1 : 1 ≤ x.length
      · rw [decide_eq_true h1]
        refine iteT ⟨_, _, rfl, rfl, _, rfl, ?_⟩
        rw [e2]
        by_cases h8 : x.length ≤ 8
        · rw [decide_eq_true h8]
          refine iteF ⟨_, rfl, x, rfl, fun Dl hD => ?_⟩
          refine lcN_str (x := x) (fun i H' => H' Dl = some (.lst (((x.cps.toList.take i).map lowC).map V.bl)) ∧ Same H H') ⟨upd_same, same_new hD⟩ (fun i c H' hc hp => ⟨rfl, ?_⟩) (fun H' hp => ?_)
          · refine ⟨_, rfl, c, abc, rfl, rfl, _, hp.1, Evl.sz_lt ?_, ?_, ?_⟩
            · rw [List.length_map, List.length_map, List.length_take]
              have := str_len x
              omega
            · rw [upd_same, mem_abc, List.take_add_one, hc, List.map_append, List.map_append]
              rfl
            · intro b o e
              rw [upd_ne (ne_of_none e hD)]
              exact hp.2 b o e
          · obtain ⟨eD, sm⟩ := hp
            rw [str_len, List.take_length] at eD
            refine ⟨Dl, x.cps.toList.map lowC, rfl, .inl (.inl eD), ?_⟩
            rw [all_map]
            have e : x.cps.toList.all lowC = nmD (.str x) := by
              rw [e0, nmS, decide_eq_true ⟨h1, h8⟩]
              rfl
            rw [e]
            exact q H' sm
        · rw [decide_eq_false h8]
          refine iteT ?_
          have e : false = nmD (.str x) := by rw [e0, nmS, decide_eq_false fun z => h8 z.2]; rfl
          rw [e]
          exact q H (.refl H)
      · rw [decide_eq_false h1]
        refine iteF ⟨_, rfl, iteT ?_⟩
        have e : false = nmD (.str x) := by rw [e0, nmS, decide_eq_false fun z => h1 z.1]; rfl
        rw [e]
        exact q H (.refl H)

/-! ### a tuple of a name and a number -/
def inD (ns : List Int) : PyData → Bool
  | .int i => decide (i ∈ ns)
  | _ => false
def withD (ns : List Int) : PyData → Bool
  | .tuple [a, b] => nmD a && (intD b && inD ns b)
  | _ => false
/-- the texts of a value, its lists and dicts are of a length that is carried -/
def Fit : PyData → Prop
  | .str x => x.length ≤ 100000
  | .tuple ds => ds.length ≤ 100000
  | .list ds => ds.length ≤ 100000
  | _ => True
def Fit1 (d : PyData) : Prop := Fit d ∧ ∀ ds, d = .tuple ds → ∀ e ∈ ds, Fit e
def spIsWith (K : PySem.W.Frag) : Sp := fun vs H Q _ => ∃ (p b : Addr) (v : V) (d : PyData) (ns : List Int), vs = [v, .ref b] ∧ Da K p H v d ∧ Fit1 d ∧ SqT K H b (ns.map V.int) ∧ ∀ H', Same H H' → Q (.bl (withD ns d)) H'
theorem in_ints (i : Int) : ∀ ns : List Int, inV (.int i) (ns.map V.int) = decide (i ∈ ns)
  | [] => rfl
  | n :: r => by
    have ih := in_ints i r
    unfold inV at ih ⊢
    rw [List.map_cons, List.any_cons, ih]
    by_cases e : n = i
    · subst e
      have : eqV (V.int n) (V.int n) = true := by unfold eqV; simp
      simp [this]
    · have : eqV (V.int n) (V.int i) = false := by unfold eqV; simpa using e
      have e' : ¬ i = n := fun z => e z.symm
      simp [this, e']
theorem flat_ints : ∀ ns : List Int, (ns.map V.int).all flatV = true
  | [] => rfl
  | n :: r => by rw [List.map_cons, List.all_cons, flat_ints r]; rfl
theorem ok_iswith {f fI fN : Addr} {fd dI dN : FuncData} (F : Fun K "is_name_with" "is_name_with" sIsWith f fd) (B : Glb mg) (GI : FnOk P w K mg base CX0 1 fI dI ["value"] (spIsInt K)) (gI : mg "is_integer" = some (.ref fI)) (kI : PySem.W.keepIn K (.ref fI) = true) (bI : Binds K dI ["value"] [])
    (GN : FnOk P w K mg base CX0 1 fN dN ["value"] (spIsName K)) (gN : mg "is_name" = some (.ref fN)) (kN : PySem.W.keepIn K (.ref fN) = true) (bN : Binds K dN ["value"] []) : FnOk P w K mg base CX0 2 f fd ["value", "numbers"] (spIsWith K) := by
  refine F.ok scIsWith (fun vs H Q E h => ?_) (fun cdv A outer s H vs Q E hr h => ?_)
  · obtain ⟨p, b, v, d, ns, rfl, _⟩ := h
    rfl
  · obtain ⟨p, b, v, d, ns, rfl, D, hf, hb, q⟩ := h
    refine ⟨_, pss_cons (ps_if (PW.pt (pw_or (pt_not (pt_val (pe_callB call_isi (by rfl) B.isi boot_isinstance (pa_cons (pv 0) (pa_cons (pe_bltn (v := .ty "tuple") (by rfl) B.tuple boot_tuple rfl) pa_nil)))))
        (pw_or1 (pt_cmpR op_ne (pe_callB call_len (by rfl) B.len PySem.boot_len (pa_cons (pv 0) pa_nil)) pe_int (nomark _))))) (pss_one (ps_ret pe_bl)) pss_nil)
      (pss_one (ps_ret (pe_and (pe_call GN hr (by rfl) gN kN bN .nil pass0 (pa_cons (pe_ix ix_tup (pv 0) pe_int (fun _ _ => rfl)) pa_nil))
        (pe_and (pe_call GI hr (by rfl) gI kI bI .nil pass0 (pa_cons (pe_ix ix_tup (pv 0) pe_int (fun _ _ => rfl)) pa_nil))
        (pe_one (pe_cmpR op_in_seq (pe_ix ix_tup (pv 0) pe_int (fun _ _ => rfl)) (pv 1) (by rfl))))))), ?_⟩
    refine ⟨_, rfl, v, _, _, _, _, rfl, .ty _, da_ty D, kit_ty (kit_tuple d), _, rfl, ?_⟩
    cases hi : isTup d with
    | false =>
      refine iteT ?_
      have e : false = withD ns d := by cases d <;> first | rfl | cases hi
      rw [e]
      exact q H (.refl H)
    | true =>
      obtain ⟨ds, rfl⟩ : ∃ ds, d = .tuple ds := by cases d <;> first | exact ⟨_, rfl⟩ | cases hi
      obtain ⟨hf0, hf1⟩ := hf
      cases D with
      | @tup a xs _ hs hd =>
        have hl := hd.length
        refine iteF ⟨_, rfl, .ref a, xs.length, rfl, .inr ⟨_, hs, rfl⟩, rfl, _, rfl, ?_⟩
        by_cases h2 : xs.length = 2
        · rw [h2]
          refine iteF ?_
          obtain ⟨d1, d2, rfl⟩ : ∃ d1 d2, ds = [d1, d2] := by
            rw [h2] at hl
            match ds, hl with
            | [x, y], _ => exact ⟨x, y, rfl⟩
          cases hd with
          | @cons x1 xr _ _ D1 hd =>
            cases hd with
            | @cons x2 xr _ _ D2 hd =>
              cases hd
              have i0 : atI [x1, x2] 0 = some x1 := atI_nat (j := 0) rfl
              have i1 : atI [x1, x2] 1 = some x2 := atI_nat (j := 1) rfl
              refine ⟨_, rfl, a, _, _, _, rfl, rfl, hs, i0, p, x1, d1, rfl, D1, fun x e => (by have := hf1 _ rfl d1 List.mem_cons_self; rw [e] at this; exact this), fun H1 s1 => ⟨_, rfl, ?_⟩⟩
              have ew : withD ns (.tuple [d1, d2]) = (nmD d1 && (intD d2 && inD ns d2)) := rfl
              cases hn : nmD d1 with
              | false =>
                refine iteF ?_
                rw [show false = withD ns (.tuple [d1, d2]) by rw [ew, hn]; rfl]
                exact q H1 s1
              | true =>
                refine iteT ?_
                refine ⟨_, rfl, a, _, _, _, rfl, rfl, s1.keepsT _ _ hs, i1, p, x2, d2, rfl, da_keep s1.keepA D2, _, rfl, ?_⟩
                cases hj : intD d2 with
                | false =>
                  refine iteF ?_
                  rw [show false = withD ns (.tuple [d1, d2]) by rw [ew, hn, hj]; rfl]
                  exact q H1 s1
                | true =>
                  obtain ⟨i, rfl⟩ : ∃ i, d2 = .int i := by cases d2 <;> first | exact ⟨_, rfl⟩ | cases hj
                  cases D2
                  refine iteT ⟨_, rfl, a, _, _, _, rfl, rfl, s1.keepsT _ _ hs, i1, _, rfl, b, _, rfl, .inr (s1.keepsT _ _ hb), rfl, flat_ints ns, ?_⟩
                  show Q (.bl (if false = true then !inV (.int i) (ns.map V.int) else inV (.int i) (ns.map V.int))) H1
                  rw [if_neg Bool.false_ne_true, in_ints, show decide (i ∈ ns) = withD ns (.tuple [d1, .int i]) by rw [ew, hn]; rfl]
                  exact q H1 s1
        · have e1 : decide (V.int (xs.length : Int) = V.int 2) = false := decide_eq_false fun z => h2 (by have := V.int.inj z; omega)
          rw [e1]
          refine iteT ?_
          have e : false = withD ns (.tuple ds) := by
            match ds, hl with
            | [], _ => rfl
            | [_], _ => rfl
            | [_, _], z => exact absurd z h2
            | _ :: _ :: _ :: _, _ => rfl
          rw [e]
          exact q H (.refl H)
end
end My
set_option Elab.async false
set_option linter.all false
set_option maxRecDepth 100000
set_option maxHeartbeats 4000000
namespace My
open PySem PySem.Spec PyProof.Rows L2
open Classical in
theorem withKey_met (xs : List Key) (k : Key) : withKey (inK (metK [] xs)) k = inK (metK [] (xs ++ [k])) := by
  funext j
  unfold withKey inK
  rw [metK_snoc]
  by_cases z : k ∈ metK [] xs
  · rw [if_pos z]
    by_cases e : j = k
    · subst e
      simp [z]
    · simp [e]
  · rw [if_neg z]
    by_cases e : j = k
    · simp [e]
    · simp [e]
open Classical in
theorem more_met (xs : List Key) (k : Key) : more (inK (metK [] xs)) k (metK [] xs).length = (metK [] (xs ++ [k])).length := by
  unfold more inK
  rw [metK_snoc]
  by_cases z : k ∈ metK [] xs
  · rw [if_pos z, if_pos (decide_eq_true z)]
  · rw [if_neg z, if_neg (by simpa using z), List.length_append]
    rfl
def fstK : PyData → Key
  | .tuple (.str x :: _) => .inr x
  | _ => .inl 0
noncomputable def cntK (ds : List PyData) : Nat := (metK [] (ds.map fstK)).length
open Classical in
noncomputable def isRowD : PyData → Bool
  | .tuple ds => decide (ds.length ≤ 30) && (ds.all (withD [1, -1]) && decide (cntK ds = ds.length))
  | _ => false
theorem isRowD_not {d : PyData} (h : isTup d = false) : isRowD d = false := by cases d <;> first | (simp only [isRowD]; done) | cases h
def Fit2 (d : PyData) : Prop := Fit d ∧ ∀ ds, d = .tuple ds → ∀ e ∈ ds, Fit1 e
theorem with_shape {ns : List Int} {d : PyData} (h : withD ns d = true) : ∃ x i, d = .tuple [.str x, .int i] ∧ nmS x = true ∧ i ∈ ns := by
  match d, h with
  | .tuple [a, b], h =>
    have h1 : nmD a = true ∧ intD b = true ∧ inD ns b = true := by simpa [withD] using h
    obtain ⟨h1, h2, h3⟩ := h1
    match a, b, h1, h2, h3 with
    | .str x, .int i, h1, _, h3 => exact ⟨x, i, rfl, h1, of_decide_eq_true h3⟩
section
variable {P : Program} {w : World} {K : PySem.W.Frag} {mg : Str → Option Value} {base : Heap} {t1 t2 t3 : Tok}
def spKind (K : PySem.W.Frag) (g : PyData → Bool) : Sp := fun vs H Q _ => ∃ (p : Addr) (v : V) (d : PyData), vs = [v] ∧ Da K p H v d ∧ Fit1 d ∧ ∀ H', Same H H' → Q (.bl (g d)) H'
theorem ok_isend {f fW : Addr} {fd dW : FuncData} (F : Fun K "is_end" "is_end" sIsEnd f fd) (GW : FnOk P w K mg base CX0 2 fW dW ["value", "numbers"] (spIsWith K)) (gW : mg "is_name_with" = some (.ref fW)) (kW : PySem.W.keepIn K (.ref fW) = true) (bW : Binds K dW ["value", "numbers"] []) :
    FnOk P w K mg base CX0 3 f fd ["value"] (spKind K (withD [0, 1])) := by
  refine F.ok scIsEnd (fun vs H Q E h => ?_) (fun cdv A outer s H vs Q E hr h => ?_)
  · obtain ⟨p, v, d, rfl, _⟩ := h
    rfl
  · obtain ⟨p, v, d, rfl, D, hf, q⟩ := h
    refine ⟨_, pss_one (ps_ret (pe_call GW hr (by rfl) gW kW bW .nil pass0 (pa_cons (pv 0) (pa_cons (pe_tup (pa_cons pe_int (pa_cons pe_int pa_nil))) pa_nil)))), ?_⟩
    refine ⟨_, rfl, by show 2 ≤ sizeLine; decide, fun b hb => ?_⟩
    have sb := same_new (o := HO.tup [.int 0, .int 1]) hb
    exact ⟨p, b, v, d, [0, 1], rfl, da_keep sb.keepA D, hf, .inl (.inl upd_same), fun H' s => q H' (sb.trans s)⟩
theorem ok_isdir {f fW : Addr} {fd dW : FuncData} (F : Fun K "is_directed" "is_directed" sIsDir f fd) (GW : FnOk P w K mg base CX0 2 fW dW ["value", "numbers"] (spIsWith K)) (gW : mg "is_name_with" = some (.ref fW)) (kW : PySem.W.keepIn K (.ref fW) = true) (bW : Binds K dW ["value", "numbers"] []) :
    FnOk P w K mg base CX0 3 f fd ["value"] (spKind K (withD [1, -1])) := by
  refine F.ok scIsDir (fun vs H Q E h => ?_) (fun cdv A outer s H vs Q E hr h => ?_)
  · obtain ⟨p, v, d, rfl, _⟩ := h
    rfl
  · obtain ⟨p, v, d, rfl, D, hf, q⟩ := h
    refine ⟨_, pss_one (ps_ret (pe_call GW hr (by rfl) gW kW bW .nil pass0 (pa_cons (pv 0) (pa_cons (pe_tup (pa_cons pe_int (pa_cons (pe_un un_neg pe_int) pa_nil))) pa_nil)))), ?_⟩
    refine ⟨_, rfl, _, rfl, by show 2 ≤ sizeLine; decide, fun b hb => ?_⟩
    have sb := same_new (o := HO.tup [.int 1, .int (-1)]) hb
    exact ⟨p, b, v, d, [1, -1], rfl, da_keep sb.keepA D, hf, .inl (.inl upd_same), fun H' s => q H' (sb.trans s)⟩
def spIsRow (K : PySem.W.Frag) : Sp := fun vs H Q _ => ∃ (p : Addr) (v : V) (d : PyData), vs = [v] ∧ Da K p H v d ∧ Fit2 d ∧ ∀ H', Same H H' → Q (.bl (isRowD d)) H'
theorem all_with (g : PyData → Bool) : ∀ l : List PyData, ((l.map g).all id) = l.all g
  | [] => rfl
  | c :: r => by rw [List.map_cons, List.all_cons, List.all_cons, all_with g r]; rfl
open Classical in
theorem ok_isrow {f fD : Addr} {fd dD : FuncData} (F : Fun K "is_row" "is_row" sIsRow f fd) (B : Glb mg) (g3 : mg "MOST_WAGONS" = some (.int 30 t3)) (GD : FnOk P w K mg base CX0 3 fD dD ["value"] (spKind K (withD [1, -1]))) (gD : mg "is_directed" = some (.ref fD)) (kD : PySem.W.keepIn K (.ref fD) = true)
    (bD : Binds K dD ["value"] []) : FnOk P w K mg base CX0 4 f fd ["value"] (spIsRow K) := by
  refine F.ok scIsRow (fun vs H Q E h => ?_) (fun cdv A outer s H vs Q E hr h => ?_)
  · obtain ⟨p, v, d, rfl, _⟩ := h
    rfl
  · obtain ⟨p, v, d, rfl, D, hf, q⟩ := h
    refine ⟨_, pss_cons (ps_if (PW.pt (pw_or (pt_not (pt_val (pe_callB call_isi (by rfl) B.isi boot_isinstance (pa_cons (pv 0) (pa_cons (pe_bltn (v := .ty "tuple") (by rfl) B.tuple boot_tuple rfl) pa_nil)))))
        (pw_or1 (pt_cmpR op_gt (pe_callB call_len (by rfl) B.len PySem.boot_len (pa_cons (pv 0) pa_nil)) (pe_glob (v := .int 30) (by rfl) g3 ⟨_, rfl⟩) (nomark _))))) (pss_one (ps_ret pe_bl)) pss_nil)
      (pss_cons (ps_if (pt_not (pt_val (pe_callB (cr_all rfl) (by rfl) B.all (by decide +kernel) (pa_cons (pe_lc (own := [("wagon", 1)]) (g := gName 1) (tt := tYes) rfl scIsRow.nd (pi_tup (pv 0))
          (blkOk_by (own := [("wagon", 1)]) (N := ["value", "wagon", "name", "_"]) (sc := defScope sIsRow) (by decide +kernel)) (fun _ _ _ _ _ => pg_name (i := 1) scIsRow.nd rfl (Or.inl rfl)) (fun _ _ _ _ _ => pts_nil)
          (fun _ _ _ _ _ => pe_call GD hr (by rfl) gD kD bD .nil pass0 (pa_cons (pv 1) pa_nil))) pa_nil)))) (pss_one (ps_ret pe_bl)) pss_nil)
      (pss_one (ps_ret (pe_cmpR op_eq (pe_callB call_lenK (by rfl) B.len PySem.boot_len (pa_cons (pe_setc (own := [("name", 2), ("_", 3)]) (g := gTup K 2 (gCons (gName 2) (gCons (gName 3) gNil))) rfl scIsRow.nd (pi_tup (pv 0))
          (blkOk_by (own := [("name", 2), ("_", 3)]) (N := ["value", "wagon", "name", "_"]) (sc := defScope sIsRow) (by decide +kernel))
          (fun _ _ _ _ _ => pg_tup rfl (pgs_cons (pg_name (i := 2) scIsRow.nd rfl (Or.inl rfl) (Or.inr rfl)) (pgs_cons (pg_name (i := 3) scIsRow.nd rfl (Or.inl rfl) (Or.inr rfl)) pgs_nil)))
          (fun _ _ _ _ _ => pv 2)) pa_nil)) (pe_callB call_len (by rfl) B.len PySem.boot_len (pa_cons (pv 0) pa_nil)) (nomark _))))), ?_⟩
    refine ⟨_, rfl, v, _, _, _, _, rfl, .ty _, da_ty D, kit_ty (kit_tuple d), _, rfl, ?_⟩
    cases hi : isTup d with
    | false =>
      refine iteT ?_
      rw [← isRowD_not hi]
      exact q H (.refl H)
    | true =>
      obtain ⟨ds, rfl⟩ : ∃ ds, d = .tuple ds := by cases d <;> first | exact ⟨_, rfl⟩ | cases hi
      obtain ⟨hf0, hf1⟩ := hf
      cases D with
      | @tup a xs _ hs hd =>
        have hl := hd.length
        have er : isRowD (.tuple ds) = (decide (ds.length ≤ 30) && (ds.all (withD [1, -1]) && decide (cntK ds = ds.length))) := rfl
        refine iteF ⟨_, rfl, .ref a, xs.length, rfl, .inr ⟨_, hs, rfl⟩, _, _, rfl, rfl, _, rfl, ?_⟩
        by_cases h30 : ds.length ≤ 30
        · rw [decide_eq_false (by omega)]
          refine iteF ⟨_, rfl, a, rfl, ⟨_, hs⟩, fun Dl hD => ?_⟩
          refine lcN_tup (K := K) (a := a) (xs := xs) (fun i H' => H' Dl = some (.lst (((ds.take i).map (withD [1, -1])).map V.bl)) ∧ Same H H') ⟨upd_same, same_new hD⟩ (fun i H' _ hp => hp.2.keepsT _ _ hs) (fun i x H' hx hp => ⟨rfl, ?_⟩) (fun H' hp => ?_)
          · obtain ⟨e, he, De⟩ := hd.at hx
            refine ⟨_, rfl, p, x, e, rfl, da_keep hp.2.keepA De, hf1 ds rfl e (List.mem_of_getElem? he), fun H2 s2 => ?_⟩
            refine ⟨_, s2 _ _ hp.1, Evl.sz_lt ?_, ?_, ?_⟩
            · rw [List.length_map, List.length_map, List.length_take]
              omega
            · rw [upd_same, List.take_add_one, he, List.map_append, List.map_append]
              rfl
            · intro b o z
              rw [upd_ne (ne_of_none z hD)]
              exact s2 b o (hp.2 b o z)
          · obtain ⟨eD, sm⟩ := hp
            rw [hl, List.take_length] at eD
            refine ⟨Dl, ds.map (withD [1, -1]), rfl, .inl (.inl eD), _, rfl, ?_⟩
            rw [all_with]
            cases ha : ds.all (withD [1, -1]) with
            | false =>
              refine iteT ?_
              rw [show false = isRowD (.tuple ds) by rw [er, ha, decide_eq_true h30]; rfl]
              exact q H' sm
            | true =>
              have hs' : SqT K H' a xs := sm.keepsT _ _ hs
              refine iteF ⟨_, rfl, a, rfl, ⟨_, hs'⟩, fun Ds hDs => ?_⟩
              refine setc_tup (K := K) (a := a) (xs := xs) (fun i H2 => H2 Ds = some (SetK P w Ds (inK (metK [] ((ds.map fstK).take i))) (metK [] ((ds.map fstK).take i)).length) ∧ Same H' H2)
                ⟨?_, same_new hDs⟩ (fun i H2 _ hp => hp.2.keepsT _ _ hs') (fun i x H2 hx hp => ?_) (fun H2 hp => ?_)
              · rw [upd_same]
                congr 2
                funext k
                simp [noKeys, inK, metK]
              · obtain ⟨e, he, De⟩ := hd.at hx
                obtain ⟨nm, dir, rfl, _, _⟩ := with_shape (List.all_eq_true.mp ha e (List.mem_of_getElem? he))
                have sm2 : Same H H2 := sm.trans hp.2
                have De' := da_keep (p := p) sm2.keepA De
                cases De' with
                | @tup b ys _ hb hy =>
                  cases hy with
                  | cons y1 hy =>
                    cases hy with
                    | cons y2 hy =>
                      cases hy
                      cases y1
                      cases y2
                      refine ⟨b, _, rfl, hb, rfl, _, _, rfl, _, _, rfl, rfl, rfl, ?_⟩
                      have few := len_metK_le ((ds.map fstK).take i) []
                      rw [List.length_take, List.length_nil] at few
                      refine ⟨_, rfl, .inr nm, _, _, rfl, hp.1, by unfold scanBound; rw [List.length_map] at few; omega, ?_, ?_⟩
                      · rw [upd_same, withKey_met, more_met]
                        have e2 : (ds.map fstK).take i ++ [Sum.inr nm] = (ds.map fstK).take (i + 1) := by
                          rw [List.take_add_one, List.getElem?_map, he]
                          rfl
                        rw [e2]
                        rfl
                      · intro b o z
                        rw [upd_ne (ne_of_none z hDs)]
                        exact hp.2 b o z
              · obtain ⟨eS, s2⟩ := hp
                have lk : (ds.map fstK).length = xs.length := by rw [List.length_map, hl]
                rw [← lk, List.take_length] at eS
                have few := len_metK_le (ds.map fstK) []
                refine ⟨Ds, _, _, rfl, eS, by rw [List.length_nil] at few; omega, _, rfl, .ref a, xs.length, rfl, .inr ⟨_, (sm.trans s2).keepsT _ _ hs, rfl⟩, rfl, ?_⟩
                have ee : decide (V.int ((metK [] (ds.map fstK)).length : Int) = V.int (xs.length : Int)) = isRowD (.tuple ds) := by
                  rw [er, ha, decide_eq_true h30]
                  show _ = (true && (true && decide (cntK ds = ds.length)))
                  rw [Bool.true_and, Bool.true_and]
                  refine decide_eq_decide.mpr ⟨fun z => ?_, fun z => ?_⟩
                  · have := V.int.inj z
                    unfold cntK
                    omega
                  · unfold cntK at z
                    rw [z, hl]
                rw [ee]
                exact q H2 (sm.trans s2)
        · rw [decide_eq_true (by omega)]
          refine iteT ?_
          rw [show false = isRowD (.tuple ds) by rw [er, decide_eq_false h30]; rfl]
          exact q H (.refl H)
end
end My
set_option Elab.async false
set_option linter.all false
set_option maxRecDepth 100000
set_option maxHeartbeats 4000000
namespace My
open PySem PySem.Spec PyProof.Rows L2
theorem lt_one (a b : Nat) : decide (([a] : List Nat) < [b]) = decide (a < b) := decide_eq_decide.mpr (by rw [List.cons_lt_cons_iff]; simp)
def odds (cs : List Nat) : List V := (cs.filter fun c => !lowC c).map fun c => V.str (sign c)
theorem odds_snoc_yes (cs : List Nat) {c : Nat} (h : lowC c = true) : odds (cs ++ [c]) = odds cs := by
  unfold odds
  rw [List.filter_append, List.map_append, List.filter_cons, h]
  simp
theorem odds_snoc_no (cs : List Nat) {c : Nat} (h : lowC c = false) : odds (cs ++ [c]) = odds cs ++ [.str (sign c)] := by
  unfold odds
  rw [List.filter_append, List.map_append, List.filter_cons, h]
  simp
theorem odds_nil : ∀ cs : List Nat, (odds cs).isEmpty = cs.all lowC
  | [] => rfl
  | c :: r => by
    unfold odds
    rw [List.filter_cons, List.all_cons, ← odds_nil r]
    cases h : lowC c <;> simp [odds]
theorem low_tests (c : Nat) : lowC c = ((!decide (([c] : List Nat) < [97])) && (!decide (([122] : List Nat) < [c]))) := by
  rw [lt_one, lt_one]
  unfold lowC
  by_cases h1 : c < 97
  · rw [decide_eq_true h1, decide_eq_false (by omega)]
    rfl
  · by_cases h2 : 122 < c
    · rw [decide_eq_true h2, decide_eq_false (show ¬ (97 ≤ c ∧ c ≤ 122) by omega), decide_eq_false h1]
      rfl
    · rw [decide_eq_false h1, decide_eq_false h2, decide_eq_true (by omega)]
      rfl
theorem len_odds (cs : List Nat) : (odds cs).length ≤ cs.length := by
  unfold odds
  rw [List.length_map]
  exact List.length_filter_le _ _
section
variable {P : Program} {w : World} {K : PySem.W.Frag} {mg : Str → Option Value} {base : Heap} {t1 t2 : Tok}
theorem ok_lname {f : Addr} {fd : FuncData} (F : Fun K "_law_is_name" "_law_is_name" sLName f fd) (B : Glb mg) : FnOk P w K mg base CX0 1 f fd ["value"] (spIsName K) := by
  refine F.ok scLName (fun vs H Q E h => ?_) (fun cdv A outer s H vs Q E hr h => ?_)
  · obtain ⟨p, v, d, rfl, _⟩ := h
    rfl
  · obtain ⟨p, v, d, rfl, D, hx, q⟩ := h
    refine ⟨_, pss_cons (ps_if (PW.pt (pw_or (pt_not (pt_val (pe_callB call_isi (by rfl) B.isi boot_isinstance (pa_cons (pv 0) (pa_cons (pe_bltn (v := .ty "str") (by rfl) B.str boot_str rfl) pa_nil)))))
        (pw_or1 (pt_not (pt_chain op_le op_le pe_int (pe_callB call_len (by rfl) B.len PySem.boot_len (pa_cons (pv 0) pa_nil)) pe_int))))) (pss_one (ps_ret pe_bl)) pss_nil)
      (pss_one (ps_ret (pe_cmpR (op_eqNil hr.units) (pe_lc (own := [("sign", 1)]) (g := gName 1) rfl scLName.nd (pi_str (pv 0))
        (blkOk_by (own := [("sign", 1)]) (N := ["value", "sign"]) (sc := defScope sLName) (by decide +kernel)) (fun _ _ _ _ _ => pg_name (i := 1) scLName.nd rfl (Or.inl rfl))
        (fun _ _ _ _ _ => pts_one (pt_not (pt_chain op_le_str op_le_str pe_str (pv 1) pe_str))) (fun _ _ _ _ _ => pv 1)) (pe_lst pa_nil) (nomark _)))), ?_⟩
    refine ⟨_, rfl, v, _, _, _, _, rfl, .ty _, da_ty D, kit_ty (kit_str d), _, rfl, ?_⟩
    cases hi : isStr d with
    | false =>
      refine iteT ?_
      rw [← nm_not hi]
      exact q H (.refl H)
    | true =>
      obtain ⟨x, rfl⟩ := str_case hi
      cases D
      have hxl := hx x rfl
      have e0 : nmD (.str x) = nmS x := rfl
      refine iteF ⟨_, rfl, .str x, x.length, rfl, ⟨Evl.sz_of hxl, rfl⟩, _, _, rfl, rfl, _, rfl, ?_⟩
      have e1 : decide ((1 : Int) ≤ (x.length : Int)) = decide (1 ≤ x.length) := decide_eq_decide.mpr (by omega)
      have e2 : decide ((x.length : Int) ≤ (8 : Int)) = decide (x.length ≤ 8) := decide_eq_decide.mpr (by omega)
      rw [e1]
      by_cases h1 : 1 ≤ x.length
      · rw [decide_eq_true h1]
        refine iteT ⟨_, _, rfl, rfl, _, rfl, ?_⟩
        rw [e2]
        by_cases h8 : x.length ≤ 8
        · rw [decide_eq_true h8]
          refine iteF ⟨_, rfl, x, rfl, fun Dl hD => ?_⟩
          refine lcT_str (x := x) (fun c => !lowC c) (fun i H' => H' Dl = some (.lst (odds (x.cps.toList.take i))) ∧ Same H H') ⟨upd_same, same_new hD⟩ (fun i c H' hc hp => ⟨rfl, fun R hR => ?_, fun hb => ?_, fun hb => ?_⟩) (fun H' hp => ?_)
          · refine ⟨_, rfl, _, _, rfl, rfl, _, rfl, ?_⟩
            rw [low_tests] at hR
            show (if (!decide (([c] : List Nat) < [97])) = true then _ else _)
            cases z1 : decide (([c] : List Nat) < [97]) with
            | true =>
              refine iteF ⟨_, rfl, ?_⟩
              rw [z1] at hR
              exact hR
            | false =>
              refine iteT ⟨_, _, rfl, rfl, _, rfl, ?_⟩
              rw [z1] at hR
              exact hR
          · have hb' : lowC c = false := by simpa using hb
            refine ⟨_, rfl, _, hp.1, Evl.sz_lt ?_, ?_, fun b o e => ?_⟩
            · have := len_odds (x.cps.toList.take i)
              rw [List.length_take] at this
              have := str_len x
              omega
            · rw [upd_same, List.take_add_one, hc]
              show _ = some (HO.lst (odds (List.take i x.cps.toList ++ [c])))
              rw [odds_snoc_no _ hb']
            · rw [upd_ne (ne_of_none e hD)]
              exact hp.2 b o e
          · have hb' : lowC c = true := by simpa using hb
            refine ⟨?_, hp.2⟩
            rw [List.take_add_one, hc]
            show _ = some (HO.lst (odds (List.take i x.cps.toList ++ [c])))
            rw [odds_snoc_yes _ hb']
            exact hp.1
          · obtain ⟨eD, sm⟩ := hp
            rw [str_len, List.take_length] at eD
            refine ⟨by show 0 ≤ sizeLine; decide, fun e he => ?_⟩
            have se := same_new (o := HO.lst []) he
            refine ⟨Dl, e, odds x.cps.toList, rfl, rfl, .inl ⟨.inl (.inl (se _ _ eD)), .inl (.inl upd_same)⟩, ?_⟩
            show Q (.bl (odds x.cps.toList).isEmpty) _
            rw [odds_nil, show x.cps.toList.all lowC = nmD (.str x) by rw [e0, nmS, decide_eq_true ⟨h1, h8⟩]; rfl]
            exact q _ (sm.trans se)
        · rw [decide_eq_false h8]
          refine iteT ?_
          rw [show false = nmD (.str x) by rw [e0, nmS, decide_eq_false fun z => h8 z.2]; rfl]
          exact q H (.refl H)
      · rw [decide_eq_false h1]
        refine iteF ⟨_, rfl, iteT ?_⟩
        rw [show false = nmD (.str x) by rw [e0, nmS, decide_eq_false fun z => h1 z.1]; rfl]
        exact q H (.refl H)
end
end My
set_option Elab.async false
set_option linter.all false
set_option maxRecDepth 100000
set_option maxHeartbeats 4000000
namespace My
open PySem PySem.Spec PyProof.Rows L2
/-- a comprehension over a tuple, with a test whose answer is known and behind which all that was tracked stands -/
def lcT_tup {K : PySem.W.Frag} {a : Addr} {xs : List V} {tt : TT} {te : TE} {vs : List Nat} {σ : L2.St} {H1 : Hp} {D : Addr} {Qd : Hp → Prop} {j : Nat} (b : Nat → Bool) (Pv : Nat → Hp → Prop) (h0 : Pv 0 (upd H1 D (.lst [])))
    (hl : ∀ i H, i ≤ xs.length → Pv i H → SqT K H a xs)
    (hs : ∀ i x H, xs[i]? = some x → Pv i H → wipe ((wipe σ vs).set j (some x)) vs = wipe σ vs ∧ (∀ Q : Bool → Hp → Prop, (∀ H3, Same H H3 → Q (b i) H3) → tt ((wipe σ vs).set j (some x)) H Q) ∧
      (∀ H3, Same H H3 → b i = true → Grows te D (Pv (i + 1)) ((wipe σ vs).set j (some x)) H3) ∧ (∀ H3, Same H H3 → b i = false → Pv (i + 1) H3)) (hd : ∀ H, Pv xs.length H → Qd H) :=
  lc_tup (K := K) (a := a) (xs := xs) (g := gName j) (tt := tt) (te := te) (vs := vs) (σ := σ) (H1 := H1) (D := D) (Qd := Qd) Pv h0 hl (fun i x H hi p => by
    obtain ⟨w1, w2, w3, w4⟩ := hs i x H hi p
    refine ⟨w1, w2 _ fun H3 s3 => ?_⟩
    cases hb : b i with
    | true => exact iteT (w3 H3 s3 hb)
    | false => exact iteF (w4 H3 s3 hb)) hd
section
variable {P : Program} {w : World} {K : PySem.W.Frag} {mg : Str → Option Value} {base : Heap} {t1 t2 : Tok}
def spLPair (K : PySem.W.Frag) : Sp := fun vs H Q _ => ∃ (p b : Addr) (v : V) (d : PyData) (ns : List Int), vs = [v, .ref b] ∧ Da K p H v d ∧ Fit1 d ∧ SqL K H b (ns.map V.int) ∧ ∀ H', Same H H' → Q (.bl (withD ns d)) H'
theorem ok_lpair {f fN : Addr} {fd dN : FuncData} (F : Fun K "_law_is_pair" "_law_is_pair" sLPair f fd) (B : Glb mg) (GN : FnOk P w K mg base CX0 1 fN dN ["value"] (spIsName K)) (gN : mg "_law_is_name" = some (.ref fN)) (kN : PySem.W.keepIn K (.ref fN) = true)
    (bN : Binds K dN ["value"] []) : FnOk P w K mg base CX0 2 f fd ["value", "numbers"] (spLPair K) := by
  refine F.ok scLPair (fun vs H Q E h => ?_) (fun cdv A outer s H vs Q E hr h => ?_)
  · obtain ⟨p, b, v, d, ns, rfl, _⟩ := h
    rfl
  · obtain ⟨p, b, v, d, ns, rfl, D, hf, hb, q⟩ := h
    refine ⟨_, pss_cons (ps_if (PW.pt (pw_or (pt_not (pt_val (pe_callB call_isi (by rfl) B.isi boot_isinstance (pa_cons (pv 0) (pa_cons (pe_bltn (v := .ty "tuple") (by rfl) B.tuple boot_tuple rfl) pa_nil)))))
        (pw_or (pt_cmpR op_ne (pe_callB call_len (by rfl) B.len PySem.boot_len (pa_cons (pv 0) pa_nil)) pe_int (nomark _))
        (pw_or1 (pt_not (pt_val (pe_call GN hr (by rfl) gN kN bN .nil pass0 (pa_cons (pe_ix ix_tup (pv 0) pe_int (fun _ _ => rfl)) pa_nil)))))))) (pss_one (ps_ret pe_bl)) pss_nil)
      (pss_one (ps_ret (pe_and (pe_callB call_isi (by rfl) B.isi boot_isinstance (pa_cons (pe_ix ix_tup (pv 0) pe_int (fun _ _ => rfl)) (pa_cons (pe_bltn (v := .ty "int") (by rfl) B.int boot_int rfl) pa_nil)))
        (pe_and (pe_not (pe_callB call_isi (by rfl) B.isi boot_isinstance (pa_cons (pe_ix ix_tup (pv 0) pe_int (fun _ _ => rfl)) (pa_cons (pe_bltn (v := .ty "bool") (by rfl) B.bool boot_bool rfl) pa_nil))))
        (pe_one (pe_cmpR op_in_seq (pe_ix ix_tup (pv 0) pe_int (fun _ _ => rfl)) (pv 1) (by rfl))))))), ?_⟩
    refine ⟨_, rfl, v, _, _, _, _, rfl, .ty _, da_ty D, kit_ty (kit_tuple d), _, rfl, ?_⟩
    cases hi : isTup d with
    | false =>
      refine iteT ?_
      have e : false = withD ns d := by cases d <;> first | rfl | cases hi
      rw [e]
      exact q H (.refl H)
    | true =>
      obtain ⟨ds, rfl⟩ : ∃ ds, d = .tuple ds := by cases d <;> first | exact ⟨_, rfl⟩ | cases hi
      obtain ⟨hf0, hf1⟩ := hf
      cases D with
      | @tup a xs _ hs hd =>
        have hl := hd.length
        refine iteF ⟨_, rfl, .ref a, xs.length, rfl, .inr ⟨_, hs, rfl⟩, rfl, _, rfl, ?_⟩
        by_cases h2 : xs.length = 2
        · rw [h2]
          refine iteF ?_
          obtain ⟨d1, d2, rfl⟩ : ∃ d1 d2, ds = [d1, d2] := by
            rw [h2] at hl
            match ds, hl with
            | [x, y], _ => exact ⟨x, y, rfl⟩
          cases hd with
          | @cons x1 xr _ _ D1 hd =>
            cases hd with
            | @cons x2 xr _ _ D2 hd =>
              cases hd
              have i0 : atI [x1, x2] 0 = some x1 := atI_nat (j := 0) rfl
              have i1 : atI [x1, x2] 1 = some x2 := atI_nat (j := 1) rfl
              have ew : withD ns (.tuple [d1, d2]) = (nmD d1 && (intD d2 && inD ns d2)) := rfl
              refine ⟨_, rfl, a, _, _, _, rfl, rfl, hs, i0, p, x1, d1, rfl, D1, fun x e => (by have := hf1 _ rfl d1 List.mem_cons_self; rw [e] at this; exact this), fun H1 s1 => ⟨_, rfl, ?_⟩⟩
              cases hn : nmD d1 with
              | false =>
                refine iteT ?_
                rw [show false = withD ns (.tuple [d1, d2]) by rw [ew, hn]; rfl]
                exact q H1 s1
              | true =>
                have D2' := da_keep (p := p) s1.keepA D2
                have hs' := s1.keepsT _ _ hs
                refine iteF ⟨_, rfl, a, _, _, _, rfl, rfl, hs', i1, x2, _, _, _, _, rfl, .ty _, da_ty D2', kit_ty (kit_int d2), _, rfl, ?_⟩
                cases hj : isInt d2 with
                | false =>
                  have hj' : intD d2 = false := by cases d2 <;> first | rfl | cases hj
                  refine iteF ?_
                  rw [show false = withD ns (.tuple [d1, d2]) by rw [ew, hn, hj']; rfl]
                  exact q H1 s1
                | true =>
                  refine iteT ⟨_, rfl, a, _, _, _, rfl, rfl, hs', i1, x2, _, _, _, _, rfl, .ty _, da_ty D2', kit_ty (kit_bool d2), _, rfl, _, rfl, ?_⟩
                  cases hk : isBool d2 with
                  | true =>
                    have hj' : intD d2 = false := by cases d2 <;> first | rfl | cases hk
                    refine iteF ?_
                    rw [show false = withD ns (.tuple [d1, d2]) by rw [ew, hn, hj']; rfl]
                    exact q H1 s1
                  | false =>
                    obtain ⟨i, rfl⟩ : ∃ i, d2 = .int i := by cases d2 <;> first | exact ⟨_, rfl⟩ | (cases hk; done) | (cases hj; done)
                    cases D2
                    refine iteT ⟨_, rfl, a, _, _, _, rfl, rfl, hs', i1, _, rfl, b, _, rfl, .inl (s1.seq hb), rfl, flat_ints ns, ?_⟩
                    show Q (.bl (if false = true then !inV (.int i) (ns.map V.int) else inV (.int i) (ns.map V.int))) H1
                    rw [if_neg Bool.false_ne_true, in_ints, show decide (i ∈ ns) = withD ns (.tuple [d1, .int i]) by rw [ew, hn]; rfl]
                    exact q H1 s1
        · have e1 : decide (V.int (xs.length : Int) = V.int 2) = false := decide_eq_false fun z => h2 (by have := V.int.inj z; omega)
          rw [e1]
          refine iteT ?_
          have e : false = withD ns (.tuple ds) := by
            match ds, hl with
            | [], _ => rfl
            | [_], _ => rfl
            | [_, _], z => exact absurd z h2
            | _ :: _ :: _ :: _, _ => rfl
          rw [e]
          exact q H (.refl H)
theorem filt_nil {α : Type} (f : α → Bool) : ∀ l : List α, (l.filter fun x => !f x).isEmpty = l.all f
  | [] => rfl
  | c :: r => by
    rw [List.filter_cons, List.all_cons, ← filt_nil f r]
    cases f c <;> simp
/-- the items of which the i-th data passes -/
def keptV (f : PyData → Bool) : List V → List PyData → List V
  | x :: xs, d :: ds => if f d = true then x :: keptV f xs ds else keptV f xs ds
  | _, _ => []
open Classical in
theorem ok_lrow {f fD : Addr} {fd dD : FuncData} (F : Fun K "_law_is_row" "_law_is_row" sLRow f fd) (B : Glb mg) (GD : FnOk P w K mg base CX0 2 fD dD ["value", "numbers"] (spLPair K)) (gD : mg "_law_is_pair" = some (.ref fD)) (kD : PySem.W.keepIn K (.ref fD) = true)
    (bD : Binds K dD ["value", "numbers"] []) : FnOk P w K mg base CX0 3 f fd ["value"] (spIsRow K) := by
  refine F.ok scLRow (fun vs H Q E h => ?_) (fun cdv A outer s H vs Q E hr h => ?_)
  · obtain ⟨p, v, d, rfl, _⟩ := h
    rfl
  · obtain ⟨p, v, d, rfl, D, hf, q⟩ := h
    refine ⟨_, pss_cons (ps_if (PW.pt (pw_or (pt_not (pt_val (pe_callB call_isi (by rfl) B.isi boot_isinstance (pa_cons (pv 0) (pa_cons (pe_bltn (v := .ty "tuple") (by rfl) B.tuple boot_tuple rfl) pa_nil)))))
        (pw_or1 (pt_cmpR op_gt (pe_callB call_len (by rfl) B.len PySem.boot_len (pa_cons (pv 0) pa_nil)) pe_int (nomark _))))) (pss_one (ps_ret pe_bl)) pss_nil)
      (pss_cons (ps_if (pt_cmpR (op_neNil hr.units) (pe_lc (own := [("one", 1)]) (g := gName 1) rfl scLRow.nd (pi_tup (pv 0))
          (blkOk_by (own := [("one", 1)]) (N := ["value", "one"]) (sc := defScope sLRow) (by decide +kernel)) (fun _ _ _ _ _ => pg_name (i := 1) scLRow.nd rfl (Or.inl rfl))
          (fun _ _ _ _ _ => pts_one (pt_not (pt_val (pe_call GD hr (by rfl) gD kD bD .nil pass0 (pa_cons (pv 1) (pa_cons (pe_lst (pa_cons pe_int (pa_cons (pe_un un_neg pe_int) pa_nil))) pa_nil)))))) (fun _ _ _ _ _ => pv 1)) (pe_lst pa_nil) (nomark _)) (pss_one (ps_ret pe_bl)) pss_nil)
      (pss_one (ps_ret (pe_cmpR op_eq (pe_callB call_lenK (by rfl) B.len PySem.boot_len (pa_cons (pe_callTy (call_setOf rfl) (by rfl) B.set (by decide +kernel) (pa_cons (pe_lc (own := [("one", 1)]) (g := gName 1) (tt := tYes) (te := tOp (rIxT K) (tVar 1) (tC (.int 0))) rfl scLRow.nd (pi_tup (pv 0))
          (blkOk_by (own := [("one", 1)]) (N := ["value", "one"]) (sc := defScope sLRow) (by decide +kernel)) (fun _ _ _ _ _ => pg_name (i := 1) scLRow.nd rfl (Or.inl rfl)) (fun _ _ _ _ _ => pts_nil)
          (fun _ _ _ _ _ => pe_ix ix_tup (pv 1) pe_int (fun _ _ => rfl))) pa_nil)) pa_nil)) (pe_callB call_len (by rfl) B.len PySem.boot_len (pa_cons (pv 0) pa_nil)) (nomark _))))), ?_⟩
    refine ⟨_, rfl, v, _, _, _, _, rfl, .ty _, da_ty D, kit_ty (kit_tuple d), _, rfl, ?_⟩
    cases hi : isTup d with
    | false =>
      refine iteT ?_
      rw [← isRowD_not hi]
      exact q H (.refl H)
    | true =>
      obtain ⟨ds, rfl⟩ : ∃ ds, d = .tuple ds := by cases d <;> first | exact ⟨_, rfl⟩ | cases hi
      obtain ⟨hf0, hf1⟩ := hf
      cases D with
      | @tup a xs _ hs hd =>
        have hl := hd.length
        have er : isRowD (.tuple ds) = (decide (ds.length ≤ 30) && (ds.all (withD [1, -1]) && decide (cntK ds = ds.length))) := rfl
        refine iteF ⟨_, rfl, .ref a, xs.length, rfl, .inr ⟨_, hs, rfl⟩, _, _, rfl, rfl, _, rfl, ?_⟩
        by_cases h30 : ds.length ≤ 30
        · rw [decide_eq_false (by omega)]
          refine iteF ⟨_, rfl, a, rfl, ⟨_, hs⟩, fun Dl hD => ?_⟩
          refine lcT_tup (K := K) (a := a) (xs := xs) (fun i => !withD [1, -1] (ds.getD i .none)) (fun i H' => ∃ ys : List V, H' Dl = some (.lst ys) ∧ ys.length ≤ i ∧ ys.isEmpty = (ds.take i).all (withD [1, -1]) ∧ Same H H')
            ⟨[], upd_same, Nat.le_refl _, rfl, same_new hD⟩ (fun i H' _ hp => let ⟨_, _, _, _, s⟩ := hp; s.keepsT _ _ hs) (fun i x H' hx hp => ⟨rfl, fun R hR => ?_, fun H3 s3 hb => ?_, fun H3 s3 hb => ?_⟩) (fun H' hp => ?_)
          · obtain ⟨ys, eD, ln, em, sm⟩ := hp
            obtain ⟨e, he, De⟩ := hd.at hx
            have ge : ds.getD i .none = e := by rw [List.getD_eq_getElem?_getD, he]; rfl
            rw [ge] at hR
            refine ⟨_, rfl, _, rfl, by show 2 ≤ sizeLine; decide, fun b hb => ?_⟩
            have sb := same_new (o := HO.lst [.int 1, .int (-1)]) hb
            exact ⟨p, b, x, e, [1, -1], rfl, da_keep (sm.trans sb).keepA De, hf1 ds rfl e (List.mem_of_getElem? he), .inl (.inl upd_same), fun H3 s3 => ⟨_, rfl, hR H3 (sb.trans s3)⟩⟩
          · obtain ⟨ys, eD, ln, em, sm⟩ := hp
            obtain ⟨e, he, De⟩ := hd.at hx
            have ge : ds.getD i .none = e := by rw [List.getD_eq_getElem?_getD, he]; rfl
            have hb' : withD [1, -1] e = false := by rw [ge] at hb; simpa using hb
            have ii : i < ds.length := (List.getElem?_eq_some_iff.mp he).1
            refine ⟨x, rfl, ys, s3 _ _ eD, Evl.sz_lt (by omega), ys ++ [x], upd_same, by rw [List.length_append]; simp; omega, ?_, fun b o z => ?_⟩
            · rw [List.take_add_one, he, List.all_append]
              show (ys ++ [x]).isEmpty = ((ds.take i).all (withD [1, -1]) && (withD [1, -1] e && true))
              rw [hb']
              cases ys <;> simp
            · rw [upd_ne (ne_of_none z hD)]
              exact s3 b o (sm b o z)
          · obtain ⟨ys, eD, ln, em, sm⟩ := hp
            obtain ⟨e, he, De⟩ := hd.at hx
            have ge : ds.getD i .none = e := by rw [List.getD_eq_getElem?_getD, he]; rfl
            have hb' : withD [1, -1] e = true := by rw [ge] at hb; simpa using hb
            refine ⟨ys, s3 _ _ eD, by omega, ?_, sm.trans s3⟩
            rw [List.take_add_one, he, List.all_append, em]
            show _ = ((ds.take i).all (withD [1, -1]) && (withD [1, -1] e && true))
            rw [hb']
            simp
          · obtain ⟨ys, eD, ln, em, sm⟩ := hp
            rw [hl, List.take_length] at em
            refine ⟨by show 0 ≤ sizeLine; decide, fun e he => ?_⟩
            have se := same_new (o := HO.lst []) he
            refine ⟨Dl, e, ys, rfl, rfl, .inl ⟨.inl (.inl (se _ _ eD)), .inl (.inl upd_same)⟩, _, rfl, ?_⟩
            rw [em]
            have s2 := sm.trans se
            generalize hH2 : upd H' e (.lst []) = H2 at s2
            cases ha : ds.all (withD [1, -1]) with
            | false =>
              refine iteT ?_
              rw [show false = isRowD (.tuple ds) by rw [er, ha, decide_eq_true h30]; rfl]
              exact q H2 s2
            | true =>
              have hs' : SqT K H2 a xs := s2.keepsT _ _ hs
              refine iteF ⟨_, rfl, a, rfl, ⟨_, hs'⟩, fun Ds hDs => ?_⟩
              refine lcN_tup (K := K) (a := a) (xs := xs) (fun i H3 => H3 Ds = some (.lst (((ds.map fstK).take i).map kV)) ∧ Same H2 H3) ⟨upd_same, same_new hDs⟩ (fun i H3 _ hp => hp.2.keepsT _ _ hs') (fun i x H3 hx hp => ⟨rfl, ?_⟩) (fun H3 hp => ?_)
              · obtain ⟨e, he, De⟩ := hd.at hx
                obtain ⟨nm, dir, rfl, _, _⟩ := with_shape (List.all_eq_true.mp ha e (List.mem_of_getElem? he))
                have De' := da_keep (p := p) (s2.trans hp.2).keepA De
                cases De' with
                | @tup b ys _ hb hy =>
                  cases hy with
                  | cons y1 hy =>
                    cases y1
                    refine ⟨_, rfl, b, _, _, _, rfl, rfl, hb, atI_nat (j := 0) rfl, _, hp.1, Evl.sz_lt (by rw [List.length_map, List.length_take, List.length_map]; omega), ?_, fun b o z => ?_⟩
                    · rw [upd_same, List.take_add_one, List.getElem?_map, he, List.map_append]
                      rfl
                    · rw [upd_ne (ne_of_none z hDs)]
                      exact hp.2 b o z
              · obtain ⟨eS, s3⟩ := hp
                have lk : (ds.map fstK).length = xs.length := by rw [List.length_map, hl]
                rw [← lk, List.take_length] at eS
                refine ⟨Ds, ds.map fstK, rfl, .inl (.inl (.inl eS)), by rw [lk]; omega, fun ps hps => ?_⟩
                have few := len_metK_le (ds.map fstK) []
                have s4 := same_new (o := SetK P w ps (inK (metK [] (ds.map fstK))) (metK [] (ds.map fstK)).length) hps
                have s5 := (s2.trans s3).trans s4
                refine ⟨ps, _, _, rfl, upd_same, by rw [List.length_nil] at few; omega, _, rfl, .ref a, xs.length, rfl, .inr ⟨_, s5.keepsT _ _ hs, rfl⟩, rfl, ?_⟩
                have ee : decide (V.int ((metK [] (ds.map fstK)).length : Int) = V.int (xs.length : Int)) = isRowD (.tuple ds) := by
                  rw [er, ha, decide_eq_true h30]
                  show _ = (true && (true && decide (cntK ds = ds.length)))
                  rw [Bool.true_and, Bool.true_and]
                  refine decide_eq_decide.mpr ⟨fun z => ?_, fun z => ?_⟩
                  · have := V.int.inj z
                    unfold cntK
                    omega
                  · unfold cntK at z
                    rw [z, hl]
                rw [ee]
                exact q _ s5
        · rw [decide_eq_true (by omega)]
          refine iteT ?_
          rw [show false = isRowD (.tuple ds) by rw [er, decide_eq_false h30]; rfl]
          exact q H (.refl H)
end
end My
set_option Elab.async false
set_option linter.all false
set_option maxRecDepth 100000
set_option maxHeartbeats 4000000
/-! t[::-1] of a tuple -/
namespace My
open PySem PySem.Spec PyProof.Rows L2 HT
section
variable {prog : Program} {w : World} {A : Around} {E : Value → Shared → Prop} {s : Shared}
theorem adj_rev (n : Nat) : Builtin.Slice.sliceAdjust none none (-1) (n : Int) = ((n : Int) - 1, -1) := rfl
theorem places_rev (n : Nat) : Builtin.Slice.slicePlaces ((n : Int) - 1) (-1) (-1) = n := by
  unfold Builtin.Slice.slicePlaces
  rw [if_neg (by decide)]
  split
  · rw [show (-(-1) : Int) = 1 by decide, Int.ediv_one]
    omega
  · omega
theorem fm_map {α β : Type} (f : α → Option β) (g : α → β) : ∀ l : List α, (∀ a ∈ l, f a = some (g a)) → l.filterMap f = l.map g
  | [], _ => rfl
  | a :: r, h => by rw [List.filterMap_cons_some (h a List.mem_cons_self), List.map_cons, fm_map f g r fun b hb => h b (List.mem_cons_of_mem _ hb)]
theorem pick_rev (xs : Array Value) : ((List.range xs.size).filterMap fun (m : Nat) => xs[((xs.size : Int) - 1 + (m : Int) * (-1)).toNat]?).toArray = xs.toList.reverse.toArray := by
  congr 1
  apply List.ext_getElem?
  intro j
  have hl : ((List.range xs.size).filterMap fun (m : Nat) => xs[((xs.size : Int) - 1 + (m : Int) * (-1)).toNat]?) = (List.range xs.size).map fun m => xs.toList.getD (xs.size - 1 - m) .none := by
    refine fm_map _ _ _ fun m hm => ?_
    have hm := List.mem_range.mp hm
    have e : ((xs.size : Int) - 1 + (m : Int) * (-1)).toNat = xs.size - 1 - m := by omega
    rw [e, Array.getElem?_eq_getElem (by omega)]
    simp [List.getD_eq_getElem?_getD, Array.getElem?_toList, Array.getElem?_eq_getElem (show xs.size - 1 - m < xs.size by omega)]
  rw [hl]
  by_cases hj : j < xs.size
  · rw [List.getElem?_map, List.getElem?_range hj, List.getElem?_reverse (by simpa using hj), Option.map_some, List.getD_eq_getElem?_getD, List.getElem?_eq_getElem (by simp; omega)]
    simp only [Option.getD_some]
    rw [List.getElem?_eq_getElem (by simp; omega)]
    congr 1
  · rw [List.getElem?_eq_none (by simp; omega), List.getElem?_eq_none (by simp; omega)]
theorem applied_rev {sl : Addr} {vl vu vs : Value} {n : Nat} {Q : Int × Int × Nat → Shared → Prop} (hs : s.heap.IsSliceOf sl vl vu vs) (pl : IsPart vl none) (pu : IsPart vu none) (ps : IsPart vs (some (-1))) (h : Q ((n : Int) - 1, -1, n) s) :
    wpAny (model prog w) A (Builtin.Slice.sliceApplied (.ref sl) (pure (n : Int))) Q E s := by
  obtain ⟨os, hos, hcs, hds⟩ := id hs
  unfold Builtin.Slice.sliceApplied Builtin.Slice.sliceFields
  refine wpAny_bind (wpAny_bind (wpAny_field hos hds (x := vl) rfl (wpAny_bind (wpAny_field hos hds (x := vu) rfl (wpAny_bind (wpAny_field hos hds (x := vs) rfl (wpAny_pure ?_)))))))
  refine wpAny_bind (slicePart_ ps ?_)
  show wpAny _ _ (if ((-1 : Int) == 0) = true then _ else _) _ _ s
  rw [if_neg (by decide)]
  refine wpAny_bind (slicePart_ pl (wpAny_bind (slicePart_ pu (wpAny_bind (wpAny_pure ?_)))))
  show wpAny _ _ (pure ((n : Int) - 1, (-1 : Int), Builtin.Slice.slicePlaces ((n : Int) - 1) (-1) (-1))) _ _ s
  rw [places_rev]
  exact wpAny_pure h
theorem get_rev {t sl : Addr} {items : Array Value} {vl vu vs : Value} {Q : Value → Shared → Prop} (ht : IsTup s.heap t items) (hs : s.heap.IsSliceOf sl vl vu vs) (pl : IsPart vl none) (pu : IsPart vu none) (ps : IsPart vs (some (-1)))
    (h : Q (.ref s.heap.objs.size) { s with heap := s.heap.push { cls := .type "tuple", data := .seq items.toList.reverse.toArray } }) (hsz : items.size ≤ sizeLine) : wpAny (model prog w) A (getItem (.ref t) (.ref sl)) Q E s := by
  have ok : sizeOk (.seq items.toList.reverse.toArray) := by
    show items.toList.reverse.toArray.size ≤ sizeLine
    rw [List.size_toArray, List.length_reverse, Array.length_toList]
    exact hsz
  obtain ⟨os, hos, hcs, hds⟩ := id hs
  have hTs : s.TypeIs (.ref sl) "slice" := ⟨os, hos, hcs⟩
  unfold getItem
  try with_reducible refine wpAny_holding ?_
  first | refine wpAny_bind (wpAny_pure ?_) | skip
  refine wpAny_bind (wpAny_sequenceKey ht.typeIs (by decide) ?_)
  refine wpAny_bind (wpAny_callSpecial?_slot (name := Str.ofString "__getitem__") ht.typeIs PyProof.Rows.slot_tuple_getitem
    (wpAny_call_entry PyProof.Rows.slot_tuple_getitem ht.typeIs entry_tuple_getitem ?_ (args_tuple_getitem _ _)))
  show wpAny _ _ (Builtin.Tuple.tupleItemsOf (.ref t) >>= _) _ _ s
  refine wpAny_bind (tupleItemsOf_ ht ?_)
  refine wpAny_bind (wpAny_typeOf hTs ?_)
  rw [if_pos (by decide)]
  refine wpAny_bind (applied_rev hs pl pu ps ?_)
  have no : ¬ (((items.size : Int) - 1 == 0 && (-1 : Int) == 1 && items.size == items.size) = true) := by simp
  show wpAny _ _ (if ((items.size : Int) - 1 == 0 && (-1 : Int) == 1 && items.size == items.size) = true then _ else _) _ _ s
  rw [if_neg no, pick_rev]
  first
    | exact wpAny_bind (m := Builtin.Tuple.tupleExact _) (wpAny_newObj_type (wpAny_pure ⟨_, rfl, wpAny_pure h⟩) ok)
    | exact wpAny_bind (m := Builtin.Tuple.tupleExact _) (wpAny_newObj_type (wpAny_bind (wpAny_pure (wpAny_pure ⟨_, rfl, wpAny_pure h⟩))) ok)
end
def tRevT (K : PySem.W.Frag) (te : TE) : TE := fun σ H Q => te σ H fun x H1 => ∃ a xs, x = .ref a ∧ SqT K H1 a xs ∧ ∀ p, H1 p = none → Q (.ref p) (upd H1 p (.tup xs.reverse))
section
variable {X : Cx}
theorem pe_revT {e : Expr} {te : TE} {k : Nat} {p1 p2 p3 pos : Pos} (he : PE X e te) : PE X (.Subscript e (.Slice none none (some (.UnaryOp .USub (.Constant (.int 1) k p1) p2)) p3) pos) (tRevT X.K te) := by
  refine ⟨fun pins s σ H Q I h => ?_⟩
  refine Subscript_ (thn (he.run pins s σ H _ I h) fun v s1 ⟨x, H1, I1, r1, q1⟩ => ?_)
  obtain ⟨a, xs, ex, hx, q⟩ := q1
  subst ex
  cases r1
  have hst : PO X (some (.UnaryOp .USub (.Constant (.int 1) k p1) p2)) (tPart (tUn (rU fun i => .int (-i)) (tC (.int 1)))) := po_some (pe_un un_neg pe_int)
  refine wpAny_Slice (thn (po_none.run pins s1 σ H1 (fun o H2 => o = none ∧ H2 = H1) I1 ⟨rfl, rfl⟩) fun vl s2 ⟨l, H2, I2, pl, el, e2⟩ => ?_)
  subst el e2
  refine thn (po_none.run pins s2 σ H2 (fun o H3 => o = none ∧ H3 = H2) I2 ⟨rfl, rfl⟩) fun vu s3 ⟨u, H3, I3, pu, eu, e3⟩ => ?_
  subst eu e3
  refine thn (hst.run pins s3 σ H3 (fun o H4 => o = some (-1) ∧ H4 = H3) I3 ⟨1, rfl, -1, rfl, rfl, rfl⟩) fun vs s4 ⟨o, H4, I4, ps, eo, e4⟩ => ?_
  subst eo e4
  have I5 : Inv X pins σ H4 { s4 with heap := s4.heap.push { cls := .type "slice", data := .fields #[vl, vu, vs] } } := I4.kept (t' := s4.toks) fun b ob q => Heap.get?_push_of_some _ q
  obtain ⟨its, r, ht, hz⟩ := I5.tuple hx
  have hlen := r.length
  show wpAny (model X.prog X.w) X.A (subscriptTail e (.Slice none none (some (.UnaryOp .USub (.Constant (.int 1) k p1) p2)) p3) (.ref a) (.ref s4.heap.objs.size)) (EP X pins σ Q) X.xe { s4 with heap := s4.heap.push { cls := .type "slice", data := .fields #[vl, vu, vs] } }
  refine tail_any (ops := [.ref a, .ref s4.heap.objs.size]) ht.typeIs (PyProof.Rows.slot_tuple_getitem.lookup) ?_ (by with_unfolding_all rfl)
  refine get_rev ht (Heap.IsSliceOf.new _ vl vu vs) pl pu ps ?_ (by rw [List.size_toArray]; omega)
  refine ⟨.ref _, _, I5.laid (t' := s4.toks) (o := .tup xs.reverse) (fun b ob q => Heap.get?_push_of_some _ q) (Nat.le_refl _) ?_, rfl, q _ (I5.hok.fresh (Nat.le_refl _))⟩
  exact ⟨by rw [List.length_reverse]; exact hz, _, r.reverse, IsTup.new _ _⟩
end
end My
set_option Elab.async false
set_option linter.all false
set_option maxRecDepth 100000
set_option maxHeartbeats 4000000
/-! how large a value is: its texts, its ints, its weight, its depth -/
namespace My
open PySem PySem.Spec PyProof.Rows L2
mutual
def okB (b : Nat) : PyData → Bool
  | .none => true
  | .bool _ => true
  | .int i => decide (i.natAbs ≤ 10 ^ 20 + b)
  | .str x => decide (x.length ≤ b) && x.cps.toList.all fun c => decide (c < 128)
  | .list ds => okAll b ds
  | .tuple ds => okAll b ds
  | .dict es => okKv b es
def okAll (b : Nat) : List PyData → Bool
  | [] => true
  | d :: r => okB b d && okAll b r
def okKv (b : Nat) : List (PyData × PyData) → Bool
  | [] => true
  | (k, v) :: r => okB b k && okB b v && okKv b r
end
mutual
theorem okB_mono {b c : Nat} (h : b ≤ c) : ∀ d : PyData, okB b d = true → okB c d = true
  | .none, _ => rfl
  | .bool _, _ => rfl
  | .int i, e => by
    have := of_decide_eq_true e
    exact decide_eq_true (by omega)
  | .str x, e => by
    rw [okB, Bool.and_eq_true] at e ⊢
    have := of_decide_eq_true e.1
    exact ⟨decide_eq_true (by omega), e.2⟩
  | .list ds, e => okAll_mono h ds e
  | .tuple ds, e => okAll_mono h ds e
  | .dict es, e => okKv_mono h es e
theorem okAll_mono {b c : Nat} (h : b ≤ c) : ∀ ds : List PyData, okAll b ds = true → okAll c ds = true
  | [], _ => rfl
  | d :: r, e => by
    rw [okAll, Bool.and_eq_true] at e ⊢
    exact ⟨okB_mono h d e.1, okAll_mono h r e.2⟩
theorem okKv_mono {b c : Nat} (h : b ≤ c) : ∀ es : List (PyData × PyData), okKv b es = true → okKv c es = true
  | [], _ => rfl
  | (k, v) :: r, e => by
    rw [okKv, Bool.and_eq_true, Bool.and_eq_true] at e ⊢
    exact ⟨⟨okB_mono h k e.1.1, okB_mono h v e.1.2⟩, okKv_mono h r e.2⟩
end
mutual
theorem okB_short {b : Nat} (h : b ≤ 1000) : ∀ d : PyData, okB b d = true → d.leavesShort 30 = true
  | .none, _ => rfl
  | .bool _, _ => rfl
  | .int i, e => by
    have := of_decide_eq_true e
    have l := int_text_length_le10 (a := i) (k := 22) (by decide) (by omega)
    refine decide_eq_true ?_
    show (Str.ofString (toString i)).length ≤ 30
    rw [PySem.ofString_length]
    omega
  | .str x, e => by
    rw [okB, Bool.and_eq_true, List.all_eq_true] at e
    rw [PyData.leavesShort, List.all_eq_true]
    intro c hc
    have := of_decide_eq_true (e.2 c hc)
    exact decide_eq_true (by omega)
  | .list ds, e => okAll_short h ds e
  | .tuple ds, e => okAll_short h ds e
  | .dict es, e => okKv_short h es e
theorem okAll_short {b : Nat} (h : b ≤ 1000) : ∀ ds : List PyData, okAll b ds = true → PyData.leavesShortAll 30 ds = true
  | [], _ => rfl
  | d :: r, e => by
    rw [okAll, Bool.and_eq_true] at e
    rw [PyData.leavesShortAll, Bool.and_eq_true]
    exact ⟨okB_short h d e.1, okAll_short h r e.2⟩
theorem okKv_short {b : Nat} (h : b ≤ 1000) : ∀ es : List (PyData × PyData), okKv b es = true → PyData.leavesShortKv 30 es = true
  | [], _ => rfl
  | (k, v) :: r, e => by
    rw [okKv, Bool.and_eq_true, Bool.and_eq_true] at e
    rw [PyData.leavesShortKv, Bool.and_eq_true, Bool.and_eq_true]
    exact ⟨⟨okB_short h k e.1.1, okB_short h v e.1.2⟩, okKv_short h r e.2⟩
end
theorem log_small {i : Int} (h : i.natAbs ≤ 10 ^ 20 + 1000) : i.natAbs.log2 < 70 := by
  by_cases z : i.natAbs = 0
  · rw [z]; decide
  · exact (Nat.log2_lt z).mpr (by omega)
mutual
theorem okB_shows {b : Nat} (h : b ≤ 1000) : ∀ d : PyData, okB b d = true → d.showable = true
  | .none, _ => rfl
  | .bool _, _ => rfl
  | .int i, e => by
    have := of_decide_eq_true e
    have := log_small (i := i) (by omega)
    exact decide_eq_true (by omega)
  | .str x, e => rfl
  | .list ds, e => okAll_shows h ds e
  | .tuple ds, e => okAll_shows h ds e
  | .dict es, e => okKv_shows h es e
theorem okAll_shows {b : Nat} (h : b ≤ 1000) : ∀ ds : List PyData, okAll b ds = true → PyData.showableAll ds = true
  | [], _ => rfl
  | d :: r, e => by
    rw [okAll, Bool.and_eq_true] at e
    rw [PyData.showableAll, Bool.and_eq_true]
    exact ⟨okB_shows h d e.1, okAll_shows h r e.2⟩
theorem okKv_shows {b : Nat} (h : b ≤ 1000) : ∀ es : List (PyData × PyData), okKv b es = true → PyData.showableKv es = true
  | [], _ => rfl
  | (k, v) :: r, e => by
    rw [okKv, Bool.and_eq_true, Bool.and_eq_true] at e
    rw [PyData.showableKv, Bool.and_eq_true, Bool.and_eq_true]
    exact ⟨⟨okB_shows h k e.1.1, okB_shows h v e.1.2⟩, okKv_shows h r e.2⟩
end
theorem okAll_iff {b : Nat} : ∀ {ds : List PyData}, okAll b ds = true ↔ ∀ d ∈ ds, okB b d = true
  | [] => ⟨fun _ _ z => (nomatch z), fun _ => rfl⟩
  | d :: r => by
    rw [okAll, Bool.and_eq_true, okAll_iff]
    exact ⟨fun ⟨a, c⟩ x hx => (List.mem_cons.mp hx).elim (fun e => e ▸ a) (c x), fun h => ⟨h d List.mem_cons_self, fun x hx => h x (List.mem_cons_of_mem _ hx)⟩⟩
theorem wAll_append : ∀ xs ys : List PyData, PyData.weightAll (xs ++ ys) = PyData.weightAll xs + PyData.weightAll ys
  | [], ys => by rw [List.nil_append, PyData.weightAll, Nat.zero_add]
  | x :: xs, ys => by rw [List.cons_append, PyData.weightAll, PyData.weightAll, wAll_append xs ys]; omega
theorem wAll_mem : ∀ {xs : List PyData} {d : PyData}, d ∈ xs → d.weight + 1 ≤ PyData.weightAll xs
  | x :: xs, d, h => by
    rw [PyData.weightAll]
    rcases List.mem_cons.mp h with rfl | h
    · omega
    · have := wAll_mem h
      omega
theorem wAll_len : ∀ xs : List PyData, xs.length ≤ PyData.weightAll xs
  | [] => Nat.zero_le _
  | x :: xs => by
    have := wAll_len xs
    rw [PyData.weightAll, List.length_cons]
    omega
theorem wAll_rev : ∀ xs : List PyData, PyData.weightAll xs.reverse = PyData.weightAll xs
  | [] => rfl
  | x :: xs => by
    rw [List.reverse_cons, wAll_append, wAll_rev xs]
    simp only [PyData.weightAll]
    omega
theorem wAll_cut (xs : List PyData) (i : Nat) : PyData.weightAll (xs.take i) + PyData.weightAll (xs.drop i) = PyData.weightAll xs := by rw [← wAll_append, List.take_append_drop]
theorem dAll_le {n : Nat} : ∀ {xs : List PyData}, PyData.depthAll xs ≤ n ↔ ∀ d ∈ xs, d.depth ≤ n
  | [] => ⟨fun _ _ z => (nomatch z), fun _ => Nat.zero_le _⟩
  | x :: xs => by
    rw [PyData.depthAll, Nat.max_le, dAll_le]
    exact ⟨fun ⟨a, c⟩ y hy => (List.mem_cons.mp hy).elim (fun e => e ▸ a) (c y), fun h => ⟨h x List.mem_cons_self, fun y hy => h y (List.mem_cons_of_mem _ hy)⟩⟩
/-- a value of at most these measures -/
structure Lim (b w n : Nat) (d : PyData) : Prop where
  ok : okB b d = true
  wt : d.weight ≤ w
  dp : d.depth ≤ n
theorem Lim.mono {b w n b' w' n' : Nat} {d : PyData} (h : Lim b w n d) (h1 : b ≤ b') (h2 : w ≤ w') (h3 : n ≤ n') : Lim b' w' n' d := ⟨okB_mono h1 d h.ok, Nat.le_trans h.wt h2, Nat.le_trans h.dp h3⟩
theorem Lim.shows {b w n : Nat} {d : PyData} (h : Lim b w n d) (hb : b ≤ 1000) : d.showable = true := okB_shows hb d h.ok
theorem Lim.short {b w n : Nat} {d : PyData} (h : Lim b w n d) (hb : b ≤ 1000) (hw : w ≤ 100000) : d.shown.length ≤ sizeLine := by
  have := PyData.shown_le 30 (by decide) d (okB_short hb d h.ok)
  have := h.wt
  rw [sizeLine_eq]
  omega
theorem Lim.fit {b w n : Nat} {d : PyData} (h : Lim b w n d) (hb : b ≤ 1000) (hw : w ≤ 100000) : Fit d := by
  obtain ⟨h1, h2, _⟩ := h
  cases d with
  | str x =>
    rw [okB, Bool.and_eq_true] at h1
    have := of_decide_eq_true h1.1
    show x.length ≤ 100000
    omega
  | list ds =>
    have := wAll_len ds
    simp only [PyData.weight] at h2
    show ds.length ≤ 100000
    omega
  | tuple ds =>
    have := wAll_len ds
    simp only [PyData.weight] at h2
    show ds.length ≤ 100000
    omega
  | _ => trivial
theorem Lim.item {b w n : Nat} {ds : List PyData} (h : Lim b w n (.tuple ds)) {e : PyData} (he : e ∈ ds) : Lim b w (n - 1) e := by
  obtain ⟨h1, h2, h3⟩ := h
  simp only [PyData.weight] at h2
  simp only [PyData.depth] at h3
  have := wAll_mem he
  exact ⟨okAll_iff.mp h1 e he, by omega, dAll_le.mp (show PyData.depthAll ds ≤ n - 1 by omega) e he⟩
theorem Lim.fit1 {b w n : Nat} {d : PyData} (h : Lim b w n d) (hb : b ≤ 1000) (hw : w ≤ 100000) : Fit1 d := ⟨h.fit hb hw, fun ds e x hx => by
  subst e
  exact (h.item hx).fit hb hw⟩
theorem Lim.fit2 {b w n : Nat} {d : PyData} (h : Lim b w n d) (hb : b ≤ 1000) (hw : w ≤ 100000) : Fit2 d := ⟨h.fit hb hw, fun ds e x hx => by
  subst e
  exact (h.item hx).fit1 hb hw⟩
theorem lim_tup {b w n : Nat} {ds : List PyData} (h1 : ∀ d ∈ ds, okB b d = true) (h2 : PyData.weightAll ds ≤ w) (h3 : ∀ d ∈ ds, d.depth ≤ n) : Lim b w (n + 1) (.tuple ds) :=
  ⟨okAll_iff.mpr h1, by simp only [PyData.weight]; exact h2, by simp only [PyData.depth]; have := dAll_le.mpr h3; omega⟩
theorem lim_lst {b w n : Nat} {ds : List PyData} (h1 : ∀ d ∈ ds, okB b d = true) (h2 : PyData.weightAll ds ≤ w) (h3 : ∀ d ∈ ds, d.depth ≤ n) : Lim b w (n + 1) (.list ds) :=
  ⟨okAll_iff.mpr h1, by simp only [PyData.weight]; exact h2, by simp only [PyData.depth]; have := dAll_le.mpr h3; omega⟩
theorem lim_str {b w n : Nat} {x : Str} (h1 : x.length ≤ b) (h2 : ∀ c ∈ x.cps.toList, c < 128) (h3 : b ≤ w) : Lim b w n (.str x) :=
  ⟨by rw [okB, Bool.and_eq_true, List.all_eq_true]; exact ⟨decide_eq_true h1, fun c hc => decide_eq_true (h2 c hc)⟩, Nat.le_trans (show x.length ≤ b from h1) h3, Nat.zero_le _⟩
theorem lim_int {b w n : Nat} {i : Int} (h1 : i.natAbs ≤ 10 ^ 20 + b) (hb : b ≤ 1000) (h2 : 70 ≤ w) : Lim b w n (.int i) :=
  ⟨decide_eq_true h1, by
    have := log_small (i := i) (by omega)
    simp only [PyData.weight]
    split <;> omega, Nat.zero_le _⟩
end My
set_option Elab.async false
set_option linter.all false
set_option maxRecDepth 100000
set_option maxHeartbeats 4000000
namespace My
open PySem PySem.Spec PyProof.Rows L2
/-! ### a heap of which one place is not seen -/
def hide (L : Addr) (H : Hp) : Hp := fun a => if a = L then none else H a
section
variable {K : PySem.W.Frag} {p c L : Addr} {n : Nat} {H H' : Hp}
theorem hide_other {a : Addr} (h : a ≠ L) : hide L H a = H a := if_neg h
theorem hide_some {a : Addr} {o : HO} (h : hide L H a = some o) : H a = some o := by
  unfold hide at h
  split at h
  · cases h
  · exact h
theorem hide_new {a : Addr} {o x : HO} (hL : H L = some o) (h : H a = none) : hide L (upd H a x) a = some x := (hide_other (ne_of_none hL h).symm).trans upd_same
theorem hide_same (s : Same H H') : Same (hide L H) (hide L H') := fun b o e => by
  unfold hide at e ⊢
  split at e
  · cases e
  · rw [if_neg (by assumption)]
    exact s _ _ e
theorem hide_sameP (s : SameP p H H') : SameP p (hide L H) (hide L H') := fun b o ne e => by
  unfold hide at e ⊢
  split at e
  · cases e
  · rw [if_neg (by assumption)]
    exact s _ _ ne e
theorem hide_upd {o : HO} : hide L (upd H L o) = hide L H := by
  funext a
  unfold hide
  split
  · rfl
  · exact upd_ne (by assumption)
theorem unhide : Same (hide L H) H := fun _ _ e => hide_some e
theorem PenAt.hide (G : PenAt H p c n) {xs : List V} (hp : p ≠ L) (hc : c ≠ L) : PenAt (My.hide L H) p c n :=
  let ⟨⟨ns, t, r, a, b, d, e, f⟩⟩ := G
  ⟨⟨ns, t, r, (hide_other hp).trans a, (hide_other hc).trans b, d, e, f⟩⟩
/-- what is read with a place hidden stays, when all but the pen and that place stays -/
theorem keep_hid (s : SameP p H H') (G : PenAt H p c n) (hp : p ≠ L) (hc : c ≠ L) : KeepA K p (hide L H) (hide L H') := (hide_sameP s).keepA (G.hide (xs := []) hp hc)
end
theorem merge_one (k : Key) (v : V) : mergeK [] [(k, v)] = [(k, v)] := by
  unfold mergeK
  simp only [List.foldl_cons, List.foldl_nil]
  rw [putK_new (kvs := []) _ rfl]
  rfl
def oddDs : List PyData := [.none, .bool true, .int 0, .int 1, .int (-1), .str "", .str "A", .str "a1", .str "abcdefghi", .str "a b", .str "-a", .tuple [], .list [], .dict [], .tuple [.str "a"], .tuple [.str "a", .int 2], .tuple [.str "a", .bool true],
  .str "a\n", .tuple [.str "a\n", .int 0], .tuple [.tuple [.str "a\n", .int 1]],
  .list [.str "a", .int 0], .tuple [.str "", .int 0], .tuple [.str "a", .str "0"], .tuple [.tuple [.str "a", .int 1], .tuple [.str "a", .int (-1)]], .list [.tuple [.str "a", .int 1]], .dict [(.str "a", .int 0)], .int (10 ^ 20)]
def limB (b w n : Nat) (d : PyData) : Bool := okB b d && (decide (d.weight ≤ w) && decide (d.depth ≤ n))
theorem limB_lim {b w n : Nat} {d : PyData} (h : limB b w n d = true) : Lim b w n d := by
  rw [limB, Bool.and_eq_true, Bool.and_eq_true] at h
  exact ⟨h.1, of_decide_eq_true h.2.1, of_decide_eq_true h.2.2⟩
theorem odd_lims : oddDs.all (limB 25 100 2) = true := by decide +kernel
section
variable {P : Program} {w : World} {K : PySem.W.Frag} {mg : Str → Option Value} {base : Heap}
/-- one of the odd values; L is a list that none of them is -/
def spOdd (K : PySem.W.Frag) : Sp := fun vs H Q _ => ∃ (p c L : Addr) (n : Nat) (ls : List V), vs = [.ref p] ∧ PenAt H p c n ∧ n ≤ 900000000 ∧ H L = some (.lst ls) ∧ c ≠ L ∧
  ∀ (v : V) (d : PyData) (H' : Hp), Da K p (hide L H') v d → Lim 25 100 2 d → SameP p H H' → PenAt H' p c (n + 1) → Q v H'
theorem ok_odd {f fD fP fS : Addr} {fd dD dP dS : FuncData} (F : Fun K "_law_odd" "_law_odd" sOdd f fd) (T : Draws P w K mg base fD fP fS dD dP dS) : FnOk P w K mg base CX0 3 f fd ["pen"] (spOdd K) := by
  refine F.ok scOdd (fun vs H Q E h => ?_) (fun cdv A outer s H vs Q E hr h => ?_)
  · obtain ⟨p, c, L, n, ls, rfl, _⟩ := h
    rfl
  · obtain ⟨p, c, L, n, ls, rfl, G, hn, hL, hcL, q⟩ := h
    obtain ⟨⟨ns, t, r, P0, _⟩⟩ := id G
    have hpL : p ≠ L := ne_of P0 hL (fun z => nomatch z)
    refine ⟨_, pss_cons (ps_set (i := 1) scOdd.nd rfl (.inl rfl) (pe_lst (pa_cons pe_non (pa_cons pe_bl (pa_cons pe_int (pa_cons pe_int (pa_cons (pe_un un_neg pe_int) (pa_cons pe_str (pa_cons pe_str (pa_cons pe_str (pa_cons pe_str (pa_cons pe_str (pa_cons pe_str (pa_cons (pe_tup pa_nil) (pa_cons (pe_lstN pa_nil) (pa_cons pe_dnewK (pa_cons (pe_tup (pa_cons pe_str pa_nil)) (pa_cons (pe_tup (pa_cons pe_str (pa_cons pe_int pa_nil))) (pa_cons (pe_tup (pa_cons pe_str (pa_cons pe_bl pa_nil))) pa_nil)))))))))))))))))))
      (pss_cons (ps_set (i := 1) scOdd.nd rfl (.inl rfl) (pe_op op_cat (pv 1) (pe_lst (pa_cons pe_str (pa_cons (pe_tup (pa_cons pe_str (pa_cons pe_int pa_nil))) (pa_cons (pe_tup (pa_cons (pe_tup (pa_cons pe_str (pa_cons pe_int pa_nil))) pa_nil)) pa_nil))))))
      (pss_one (ps_ret (pe_call T.oP hr (by rfl) T.gP T.kP T.bP .nil pass0 (pa_cons (pv 0) (pa_cons (pe_op op_cat (pv 1) (pe_lst (pa_cons (pe_lstN (pa_cons pe_str (pa_cons pe_int pa_nil))) (pa_cons (pe_tup (pa_cons pe_str (pa_cons pe_int pa_nil))) (pa_cons (pe_tup (pa_cons pe_str (pa_cons pe_str pa_nil))) (pa_cons (pe_tup (pa_cons (pe_tup (pa_cons pe_str (pa_cons pe_int pa_nil))) (pa_cons (pe_tup (pa_cons pe_str (pa_cons (pe_un un_neg pe_int) pa_nil))) pa_nil))) (pa_cons (pe_lstN (pa_cons (pe_tup (pa_cons pe_str (pa_cons pe_int pa_nil))) pa_nil)) (pa_cons (pe_disp (pps_cons pe_str pe_int pps_nil) (by rfl) (by rfl) (fun z => by cases z) (by decide)) (pa_cons (pe_op op_pow pe_int pe_int) pa_nil))))))))) pa_nil)))))), ?_⟩
    have l0 := hL
    refine ⟨_, rfl, by show 0 ≤ sizeLine; decide, fun a0 h0 => ?_⟩
    have s0 := same_new (o := HO.tup []) h0
    have k0 := (hide_same (L := L) s0).keepA (K := K) (p := p)
    replace P0 := s0 _ _ P0
    have hn0 := hide_new (x := HO.tup []) l0 h0
    have l1 := s0 _ _ l0
    have D0 : Da K p (hide L _) (.ref a0) _ := .tup (.inl (.inl hn0)) .nil
    refine ⟨by show 0 ≤ sizeLine; decide, fun a1 h1 ns1 => ?_⟩
    have s1 := same_new (o := HO.lst []) h1
    have k1 := (hide_same (L := L) s1).keepA (K := K) (p := p)
    replace D0 := da_keep k1 D0
    replace P0 := s1 _ _ P0
    have hn1 := hide_new (x := HO.lst []) l1 h1
    have l2 := s1 _ _ l1
    have D1 : Da K p (hide L _) (.ref a1) _ := .lst ns1 (.inl (.inl hn1)) .nil
    refine fun a2 h2 => ?_
    have PP := P0
    have s2 := same_new (o := HO.dK []) h2
    have k2 := (hide_same (L := L) s2).keepA (K := K) (p := p)
    replace D0 := da_keep k2 D0
    replace D1 := da_keep k2 D1
    replace P0 := s2 _ _ P0
    have hn2 := hide_new (x := HO.dK []) l2 h2
    have l3 := s2 _ _ l2
    have D2 : Da K p (hide L _) (.ref a2) _ := .dct (ne_of_none PP h2).symm hn2 .nil
    refine ⟨by show 1 ≤ sizeLine; decide, fun a3 h3 => ?_⟩
    have s3 := same_new (o := HO.tup [.str "a"]) h3
    have k3 := (hide_same (L := L) s3).keepA (K := K) (p := p)
    replace D0 := da_keep k3 D0
    replace D1 := da_keep k3 D1
    replace D2 := da_keep k3 D2
    replace P0 := s3 _ _ P0
    have hn3 := hide_new (x := HO.tup [.str "a"]) l3 h3
    have l4 := s3 _ _ l3
    have D3 : Da K p (hide L _) (.ref a3) _ := .tup (.inl (.inl hn3)) (.cons (.str _) .nil)
    refine ⟨by show 2 ≤ sizeLine; decide, fun a4 h4 => ?_⟩
    have s4 := same_new (o := HO.tup [.str "a", .int 2]) h4
    have k4 := (hide_same (L := L) s4).keepA (K := K) (p := p)
    replace D0 := da_keep k4 D0
    replace D1 := da_keep k4 D1
    replace D2 := da_keep k4 D2
    replace D3 := da_keep k4 D3
    replace P0 := s4 _ _ P0
    have hn4 := hide_new (x := HO.tup [.str "a", .int 2]) l4 h4
    have l5 := s4 _ _ l4
    have D4 : Da K p (hide L _) (.ref a4) _ := .tup (.inl (.inl hn4)) (.cons (.str _) (.cons (.int _) .nil))
    refine ⟨by show 2 ≤ sizeLine; decide, fun a5 h5 => ?_⟩
    have s5 := same_new (o := HO.tup [.str "a", .bl true]) h5
    have k5 := (hide_same (L := L) s5).keepA (K := K) (p := p)
    replace D0 := da_keep k5 D0
    replace D1 := da_keep k5 D1
    replace D2 := da_keep k5 D2
    replace D3 := da_keep k5 D3
    replace D4 := da_keep k5 D4
    replace P0 := s5 _ _ P0
    have hn5 := hide_new (x := HO.tup [.str "a", .bl true]) l5 h5
    have l6 := s5 _ _ l5
    have D5 : Da K p (hide L _) (.ref a5) _ := .tup (.inl (.inl hn5)) (.cons (.str _) (.cons (.bl _) .nil))
    refine ⟨by show 17 ≤ sizeLine; decide, fun a6 h6 => ?_⟩
    have s6 := same_new (o := HO.lst [.non, .bl true, .int 0, .int 1, .int (-1), .str "", .str "A", .str "a1", .str "abcdefghi", .str "a b", .str "-a", .ref a0, .ref a1, .ref a2, .ref a3, .ref a4, .ref a5]) h6
    have k6 := (hide_same (L := L) s6).keepA (K := K) (p := p)
    replace D0 := da_keep k6 D0
    replace D1 := da_keep k6 D1
    replace D2 := da_keep k6 D2
    replace D3 := da_keep k6 D3
    replace D4 := da_keep k6 D4
    replace D5 := da_keep k6 D5
    replace P0 := s6 _ _ P0
    have hn6 := hide_new (x := HO.lst [.non, .bl true, .int 0, .int 1, .int (-1), .str "", .str "A", .str "a1", .str "abcdefghi", .str "a b", .str "-a", .ref a0, .ref a1, .ref a2, .ref a3, .ref a4, .ref a5]) l6 h6
    have l7 := s6 _ _ l6
    have E6 := hide_some hn6
    refine ⟨_, rfl, by show 2 ≤ sizeLine; decide, fun a7 h7 => ?_⟩
    have s7 := same_new (o := HO.tup [.str "a\n", .int 0]) h7
    have k7 := (hide_same (L := L) s7).keepA (K := K) (p := p)
    replace D0 := da_keep k7 D0
    replace D1 := da_keep k7 D1
    replace D2 := da_keep k7 D2
    replace D3 := da_keep k7 D3
    replace D4 := da_keep k7 D4
    replace D5 := da_keep k7 D5
    replace P0 := s7 _ _ P0
    replace E6 := s7 _ _ E6
    have hn7 := hide_new (x := HO.tup [.str "a\n", .int 0]) l7 h7
    have l8 := s7 _ _ l7
    have D7 : Da K p (hide L _) (.ref a7) _ := .tup (.inl (.inl hn7)) (.cons (.str _) (.cons (.int _) .nil))
    refine ⟨by show 2 ≤ sizeLine; decide, fun a8 h8 => ?_⟩
    have s8 := same_new (o := HO.tup [.str "a\n", .int 1]) h8
    have k8 := (hide_same (L := L) s8).keepA (K := K) (p := p)
    replace D0 := da_keep k8 D0
    replace D1 := da_keep k8 D1
    replace D2 := da_keep k8 D2
    replace D3 := da_keep k8 D3
    replace D4 := da_keep k8 D4
    replace D5 := da_keep k8 D5
    replace D7 := da_keep k8 D7
    replace P0 := s8 _ _ P0
    replace E6 := s8 _ _ E6
    have hn8 := hide_new (x := HO.tup [.str "a\n", .int 1]) l8 h8
    have l9 := s8 _ _ l8
    have D8 : Da K p (hide L _) (.ref a8) _ := .tup (.inl (.inl hn8)) (.cons (.str _) (.cons (.int _) .nil))
    refine ⟨by show 1 ≤ sizeLine; decide, fun a9 h9 => ?_⟩
    have s9 := same_new (o := HO.tup [.ref a8]) h9
    have k9 := (hide_same (L := L) s9).keepA (K := K) (p := p)
    replace D0 := da_keep k9 D0
    replace D1 := da_keep k9 D1
    replace D2 := da_keep k9 D2
    replace D3 := da_keep k9 D3
    replace D4 := da_keep k9 D4
    replace D5 := da_keep k9 D5
    replace D7 := da_keep k9 D7
    replace D8 := da_keep k9 D8
    replace P0 := s9 _ _ P0
    replace E6 := s9 _ _ E6
    have hn9 := hide_new (x := HO.tup [.ref a8]) l9 h9
    have l10 := s9 _ _ l9
    have D9 : Da K p (hide L _) (.ref a9) _ := .tup (.inl (.inl hn9)) (.cons D8 .nil)
    refine ⟨by show 3 ≤ sizeLine; decide, fun a10 h10 => ?_⟩
    have s10 := same_new (o := HO.lst [.str "a\n", .ref a7, .ref a9]) h10
    have k10 := (hide_same (L := L) s10).keepA (K := K) (p := p)
    replace D0 := da_keep k10 D0
    replace D1 := da_keep k10 D1
    replace D2 := da_keep k10 D2
    replace D3 := da_keep k10 D3
    replace D4 := da_keep k10 D4
    replace D5 := da_keep k10 D5
    replace D7 := da_keep k10 D7
    replace D8 := da_keep k10 D8
    replace D9 := da_keep k10 D9
    replace P0 := s10 _ _ P0
    replace E6 := s10 _ _ E6
    have hn10 := hide_new (x := HO.lst [.str "a\n", .ref a7, .ref a9]) l10 h10
    have l11 := s10 _ _ l10
    have E10 := hide_some hn10
    refine ⟨a6, a10, _, _, rfl, rfl, E6, E10, by show 20 ≤ sizeLine; decide, fun a11 h11 => ?_⟩
    have s11 := same_new (o := HO.lst [.non, .bl true, .int 0, .int 1, .int (-1), .str "", .str "A", .str "a1", .str "abcdefghi", .str "a b", .str "-a", .ref a0, .ref a1, .ref a2, .ref a3, .ref a4, .ref a5, .str "a\n", .ref a7, .ref a9]) h11
    have k11 := (hide_same (L := L) s11).keepA (K := K) (p := p)
    replace D0 := da_keep k11 D0
    replace D1 := da_keep k11 D1
    replace D2 := da_keep k11 D2
    replace D3 := da_keep k11 D3
    replace D4 := da_keep k11 D4
    replace D5 := da_keep k11 D5
    replace D7 := da_keep k11 D7
    replace D8 := da_keep k11 D8
    replace D9 := da_keep k11 D9
    replace P0 := s11 _ _ P0
    replace E6 := s11 _ _ E6
    replace E10 := s11 _ _ E10
    have hn11 := hide_new (x := HO.lst [.non, .bl true, .int 0, .int 1, .int (-1), .str "", .str "A", .str "a1", .str "abcdefghi", .str "a b", .str "-a", .ref a0, .ref a1, .ref a2, .ref a3, .ref a4, .ref a5, .str "a\n", .ref a7, .ref a9]) l11 h11
    have l12 := s11 _ _ l11
    have E11 := hide_some hn11
    refine ⟨_, rfl, _, rfl, by show 2 ≤ sizeLine; decide, fun a12 h12 ns12 => ?_⟩
    have s12 := same_new (o := HO.lst [.str "a", .int 0]) h12
    have k12 := (hide_same (L := L) s12).keepA (K := K) (p := p)
    replace D0 := da_keep k12 D0
    replace D1 := da_keep k12 D1
    replace D2 := da_keep k12 D2
    replace D3 := da_keep k12 D3
    replace D4 := da_keep k12 D4
    replace D5 := da_keep k12 D5
    replace D7 := da_keep k12 D7
    replace D8 := da_keep k12 D8
    replace D9 := da_keep k12 D9
    replace P0 := s12 _ _ P0
    replace E6 := s12 _ _ E6
    replace E10 := s12 _ _ E10
    replace E11 := s12 _ _ E11
    have hn12 := hide_new (x := HO.lst [.str "a", .int 0]) l12 h12
    have l13 := s12 _ _ l12
    have D12 : Da K p (hide L _) (.ref a12) _ := .lst ns12 (.inl (.inl hn12)) (.cons (.str _) (.cons (.int _) .nil))
    refine ⟨by show 2 ≤ sizeLine; decide, fun a13 h13 => ?_⟩
    have s13 := same_new (o := HO.tup [.str "", .int 0]) h13
    have k13 := (hide_same (L := L) s13).keepA (K := K) (p := p)
    replace D0 := da_keep k13 D0
    replace D1 := da_keep k13 D1
    replace D2 := da_keep k13 D2
    replace D3 := da_keep k13 D3
    replace D4 := da_keep k13 D4
    replace D5 := da_keep k13 D5
    replace D7 := da_keep k13 D7
    replace D8 := da_keep k13 D8
    replace D9 := da_keep k13 D9
    replace D12 := da_keep k13 D12
    replace P0 := s13 _ _ P0
    replace E6 := s13 _ _ E6
    replace E10 := s13 _ _ E10
    replace E11 := s13 _ _ E11
    have hn13 := hide_new (x := HO.tup [.str "", .int 0]) l13 h13
    have l14 := s13 _ _ l13
    have D13 : Da K p (hide L _) (.ref a13) _ := .tup (.inl (.inl hn13)) (.cons (.str _) (.cons (.int _) .nil))
    refine ⟨by show 2 ≤ sizeLine; decide, fun a14 h14 => ?_⟩
    have s14 := same_new (o := HO.tup [.str "a", .str "0"]) h14
    have k14 := (hide_same (L := L) s14).keepA (K := K) (p := p)
    replace D0 := da_keep k14 D0
    replace D1 := da_keep k14 D1
    replace D2 := da_keep k14 D2
    replace D3 := da_keep k14 D3
    replace D4 := da_keep k14 D4
    replace D5 := da_keep k14 D5
    replace D7 := da_keep k14 D7
    replace D8 := da_keep k14 D8
    replace D9 := da_keep k14 D9
    replace D12 := da_keep k14 D12
    replace D13 := da_keep k14 D13
    replace P0 := s14 _ _ P0
    replace E6 := s14 _ _ E6
    replace E10 := s14 _ _ E10
    replace E11 := s14 _ _ E11
    have hn14 := hide_new (x := HO.tup [.str "a", .str "0"]) l14 h14
    have l15 := s14 _ _ l14
    have D14 : Da K p (hide L _) (.ref a14) _ := .tup (.inl (.inl hn14)) (.cons (.str _) (.cons (.str _) .nil))
    refine ⟨by show 2 ≤ sizeLine; decide, fun a15 h15 => ?_⟩
    have s15 := same_new (o := HO.tup [.str "a", .int 1]) h15
    have k15 := (hide_same (L := L) s15).keepA (K := K) (p := p)
    replace D0 := da_keep k15 D0
    replace D1 := da_keep k15 D1
    replace D2 := da_keep k15 D2
    replace D3 := da_keep k15 D3
    replace D4 := da_keep k15 D4
    replace D5 := da_keep k15 D5
    replace D7 := da_keep k15 D7
    replace D8 := da_keep k15 D8
    replace D9 := da_keep k15 D9
    replace D12 := da_keep k15 D12
    replace D13 := da_keep k15 D13
    replace D14 := da_keep k15 D14
    replace P0 := s15 _ _ P0
    replace E6 := s15 _ _ E6
    replace E10 := s15 _ _ E10
    replace E11 := s15 _ _ E11
    have hn15 := hide_new (x := HO.tup [.str "a", .int 1]) l15 h15
    have l16 := s15 _ _ l15
    have D15 : Da K p (hide L _) (.ref a15) _ := .tup (.inl (.inl hn15)) (.cons (.str _) (.cons (.int _) .nil))
    refine ⟨_, rfl, by show 2 ≤ sizeLine; decide, fun a16 h16 => ?_⟩
    have s16 := same_new (o := HO.tup [.str "a", .int (-1)]) h16
    have k16 := (hide_same (L := L) s16).keepA (K := K) (p := p)
    replace D0 := da_keep k16 D0
    replace D1 := da_keep k16 D1
    replace D2 := da_keep k16 D2
    replace D3 := da_keep k16 D3
    replace D4 := da_keep k16 D4
    replace D5 := da_keep k16 D5
    replace D7 := da_keep k16 D7
    replace D8 := da_keep k16 D8
    replace D9 := da_keep k16 D9
    replace D12 := da_keep k16 D12
    replace D13 := da_keep k16 D13
    replace D14 := da_keep k16 D14
    replace D15 := da_keep k16 D15
    replace P0 := s16 _ _ P0
    replace E6 := s16 _ _ E6
    replace E10 := s16 _ _ E10
    replace E11 := s16 _ _ E11
    have hn16 := hide_new (x := HO.tup [.str "a", .int (-1)]) l16 h16
    have l17 := s16 _ _ l16
    have D16 : Da K p (hide L _) (.ref a16) _ := .tup (.inl (.inl hn16)) (.cons (.str _) (.cons (.int _) .nil))
    refine ⟨by show 2 ≤ sizeLine; decide, fun a17 h17 => ?_⟩
    have s17 := same_new (o := HO.tup [.ref a15, .ref a16]) h17
    have k17 := (hide_same (L := L) s17).keepA (K := K) (p := p)
    replace D0 := da_keep k17 D0
    replace D1 := da_keep k17 D1
    replace D2 := da_keep k17 D2
    replace D3 := da_keep k17 D3
    replace D4 := da_keep k17 D4
    replace D5 := da_keep k17 D5
    replace D7 := da_keep k17 D7
    replace D8 := da_keep k17 D8
    replace D9 := da_keep k17 D9
    replace D12 := da_keep k17 D12
    replace D13 := da_keep k17 D13
    replace D14 := da_keep k17 D14
    replace D15 := da_keep k17 D15
    replace D16 := da_keep k17 D16
    replace P0 := s17 _ _ P0
    replace E6 := s17 _ _ E6
    replace E10 := s17 _ _ E10
    replace E11 := s17 _ _ E11
    have hn17 := hide_new (x := HO.tup [.ref a15, .ref a16]) l17 h17
    have l18 := s17 _ _ l17
    have D17 : Da K p (hide L _) (.ref a17) _ := .tup (.inl (.inl hn17)) (.cons D15 (.cons D16 .nil))
    refine ⟨by show 2 ≤ sizeLine; decide, fun a18 h18 => ?_⟩
    have s18 := same_new (o := HO.tup [.str "a", .int 1]) h18
    have k18 := (hide_same (L := L) s18).keepA (K := K) (p := p)
    replace D0 := da_keep k18 D0
    replace D1 := da_keep k18 D1
    replace D2 := da_keep k18 D2
    replace D3 := da_keep k18 D3
    replace D4 := da_keep k18 D4
    replace D5 := da_keep k18 D5
    replace D7 := da_keep k18 D7
    replace D8 := da_keep k18 D8
    replace D9 := da_keep k18 D9
    replace D12 := da_keep k18 D12
    replace D13 := da_keep k18 D13
    replace D14 := da_keep k18 D14
    replace D15 := da_keep k18 D15
    replace D16 := da_keep k18 D16
    replace D17 := da_keep k18 D17
    replace P0 := s18 _ _ P0
    replace E6 := s18 _ _ E6
    replace E10 := s18 _ _ E10
    replace E11 := s18 _ _ E11
    have hn18 := hide_new (x := HO.tup [.str "a", .int 1]) l18 h18
    have l19 := s18 _ _ l18
    have D18 : Da K p (hide L _) (.ref a18) _ := .tup (.inl (.inl hn18)) (.cons (.str _) (.cons (.int _) .nil))
    refine ⟨by show 1 ≤ sizeLine; decide, fun a19 h19 ns19 => ?_⟩
    have s19 := same_new (o := HO.lst [.ref a18]) h19
    have k19 := (hide_same (L := L) s19).keepA (K := K) (p := p)
    replace D0 := da_keep k19 D0
    replace D1 := da_keep k19 D1
    replace D2 := da_keep k19 D2
    replace D3 := da_keep k19 D3
    replace D4 := da_keep k19 D4
    replace D5 := da_keep k19 D5
    replace D7 := da_keep k19 D7
    replace D8 := da_keep k19 D8
    replace D9 := da_keep k19 D9
    replace D12 := da_keep k19 D12
    replace D13 := da_keep k19 D13
    replace D14 := da_keep k19 D14
    replace D15 := da_keep k19 D15
    replace D16 := da_keep k19 D16
    replace D17 := da_keep k19 D17
    replace D18 := da_keep k19 D18
    replace P0 := s19 _ _ P0
    replace E6 := s19 _ _ E6
    replace E10 := s19 _ _ E10
    replace E11 := s19 _ _ E11
    have hn19 := hide_new (x := HO.lst [.ref a18]) l19 h19
    have l20 := s19 _ _ l19
    have D19 : Da K p (hide L _) (.ref a19) _ := .lst ns19 (.inl (.inl hn19)) (.cons D18 .nil)
    refine fun a20 h20 => ?_
    have PP := P0
    refine ⟨upd_same, [(.inr "a", .int 0)], rfl, by decide, ?_⟩
    have eu : ∀ H0 : Hp, upd (upd H0 a20 (.dK [])) a20 (.dK [(Sum.inr "a", V.int 0)]) = upd H0 a20 (.dK [(Sum.inr "a", V.int 0)]) := fun H0 => funext fun b => by unfold upd; split <;> rfl
    rw [merge_one, eu]
    have s20 := same_new (o := HO.dK [(Sum.inr "a", V.int 0)]) h20
    have k20 := (hide_same (L := L) s20).keepA (K := K) (p := p)
    replace D0 := da_keep k20 D0
    replace D1 := da_keep k20 D1
    replace D2 := da_keep k20 D2
    replace D3 := da_keep k20 D3
    replace D4 := da_keep k20 D4
    replace D5 := da_keep k20 D5
    replace D7 := da_keep k20 D7
    replace D8 := da_keep k20 D8
    replace D9 := da_keep k20 D9
    replace D12 := da_keep k20 D12
    replace D13 := da_keep k20 D13
    replace D14 := da_keep k20 D14
    replace D15 := da_keep k20 D15
    replace D16 := da_keep k20 D16
    replace D17 := da_keep k20 D17
    replace D18 := da_keep k20 D18
    replace D19 := da_keep k20 D19
    replace P0 := s20 _ _ P0
    replace E6 := s20 _ _ E6
    replace E10 := s20 _ _ E10
    replace E11 := s20 _ _ E11
    have hn20 := hide_new (x := HO.dK [(Sum.inr "a", V.int 0)]) l20 h20
    have l21 := s20 _ _ l20
    have D20 : Da K p (hide L _) (.ref a20) _ := .dct (ne_of_none PP h20).symm hn20 (.cons (.int _) .nil)
    refine ⟨10, 20, rfl, rfl, ⟨by decide, by decide, by decide⟩, by show 7 ≤ sizeLine; decide, fun a21 h21 => ?_⟩
    have s21 := same_new (o := HO.lst [.ref a12, .ref a13, .ref a14, .ref a17, .ref a19, .ref a20, .int (10 ^ 20)]) h21
    have k21 := (hide_same (L := L) s21).keepA (K := K) (p := p)
    replace D0 := da_keep k21 D0
    replace D1 := da_keep k21 D1
    replace D2 := da_keep k21 D2
    replace D3 := da_keep k21 D3
    replace D4 := da_keep k21 D4
    replace D5 := da_keep k21 D5
    replace D7 := da_keep k21 D7
    replace D8 := da_keep k21 D8
    replace D9 := da_keep k21 D9
    replace D12 := da_keep k21 D12
    replace D13 := da_keep k21 D13
    replace D14 := da_keep k21 D14
    replace D15 := da_keep k21 D15
    replace D16 := da_keep k21 D16
    replace D17 := da_keep k21 D17
    replace D18 := da_keep k21 D18
    replace D19 := da_keep k21 D19
    replace D20 := da_keep k21 D20
    replace P0 := s21 _ _ P0
    replace E6 := s21 _ _ E6
    replace E10 := s21 _ _ E10
    replace E11 := s21 _ _ E11
    have hn21 := hide_new (x := HO.lst [.ref a12, .ref a13, .ref a14, .ref a17, .ref a19, .ref a20, .int (10 ^ 20)]) l21 h21
    have l22 := s21 _ _ l21
    have E21 := hide_some hn21
    refine ⟨a11, a21, _, _, rfl, rfl, E11, E21, by show 27 ≤ sizeLine; decide, fun a22 h22 => ?_⟩
    have s22 := same_new (o := HO.lst [.non, .bl true, .int 0, .int 1, .int (-1), .str "", .str "A", .str "a1", .str "abcdefghi", .str "a b", .str "-a", .ref a0, .ref a1, .ref a2, .ref a3, .ref a4, .ref a5, .str "a\n", .ref a7, .ref a9, .ref a12, .ref a13, .ref a14, .ref a17, .ref a19, .ref a20, .int (10 ^ 20)]) h22
    have k22 := (hide_same (L := L) s22).keepA (K := K) (p := p)
    replace D0 := da_keep k22 D0
    replace D1 := da_keep k22 D1
    replace D2 := da_keep k22 D2
    replace D3 := da_keep k22 D3
    replace D4 := da_keep k22 D4
    replace D5 := da_keep k22 D5
    replace D7 := da_keep k22 D7
    replace D8 := da_keep k22 D8
    replace D9 := da_keep k22 D9
    replace D12 := da_keep k22 D12
    replace D13 := da_keep k22 D13
    replace D14 := da_keep k22 D14
    replace D15 := da_keep k22 D15
    replace D16 := da_keep k22 D16
    replace D17 := da_keep k22 D17
    replace D18 := da_keep k22 D18
    replace D19 := da_keep k22 D19
    replace D20 := da_keep k22 D20
    replace P0 := s22 _ _ P0
    replace E6 := s22 _ _ E6
    replace E10 := s22 _ _ E10
    replace E11 := s22 _ _ E11
    replace E21 := s22 _ _ E21
    have hn22 := hide_new (x := HO.lst [.non, .bl true, .int 0, .int 1, .int (-1), .str "", .str "A", .str "a1", .str "abcdefghi", .str "a b", .str "-a", .ref a0, .ref a1, .ref a2, .ref a3, .ref a4, .ref a5, .str "a\n", .ref a7, .ref a9, .ref a12, .ref a13, .ref a14, .ref a17, .ref a19, .ref a20, .int (10 ^ 20)]) l22 h22
    have l23 := s22 _ _ l22
    have E22 := hide_some hn22
    have DA : DaAll K p (hide L _) [.non, .bl true, .int 0, .int 1, .int (-1), .str "", .str "A", .str "a1", .str "abcdefghi", .str "a b", .str "-a", .ref a0, .ref a1, .ref a2, .ref a3, .ref a4, .ref a5, .str "a\n", .ref a7, .ref a9, .ref a12, .ref a13, .ref a14, .ref a17, .ref a19, .ref a20, .int (10 ^ 20)] oddDs := (.cons .non (.cons (.bl _) (.cons (.int _) (.cons (.int _) (.cons (.int _) (.cons (.str _) (.cons (.str _) (.cons (.str _) (.cons (.str _) (.cons (.str _) (.cons (.str _) (.cons D0 (.cons D1 (.cons D2 (.cons D3 (.cons D4 (.cons D5 (.cons (.str _) (.cons D7 (.cons D9 (.cons D12 (.cons D13 (.cons D14 (.cons D17 (.cons D19 (.cons D20 (.cons (.int _) .nil)))))))))))))))))))))))))))
    have sAll := ((((((((((((((((((((((s0.trans s1).trans s2).trans s3).trans s4).trans s5).trans s6).trans s7).trans s8).trans s9).trans s10).trans s11).trans s12).trans s13).trans s14).trans s15).trans s16).trans s17).trans s18).trans s19).trans s20).trans s21).trans s22)
    refine ⟨p, c, n, .ref a22, _, rfl, G.same sAll, by omega, .lst (.inl (.inl E22)), by show 0 < 27; decide, by show 27 < 1073741824; decide, fun i v H4 hv s4 G4 => ?_⟩
    obtain ⟨d, hd, Dv⟩ := DA.at hv
    refine q v d H4 (da_keep (keep_hid s4 (G.same sAll) hpL hcL) Dv) (limB_lim (List.all_eq_true.mp odd_lims d (List.mem_of_getElem? hd))) ((SameP.of sAll).trans s4) G4
end
end My
set_option Elab.async false
set_option linter.all false
set_option maxRecDepth 100000
set_option maxHeartbeats 4000000
namespace My
open PySem PySem.Spec PyProof.Rows L2
/-! ### texts of signs below 128 -/
def Asc (x : Str) : Prop := ∀ c ∈ x.cps.toList, c < 128
theorem asc_of {b w n : Nat} {x : Str} (h : Lim b w n (.str x)) : x.length ≤ b ∧ Asc x := by
  have h1 := h.ok
  rw [okB, Bool.and_eq_true, List.all_eq_true] at h1
  exact ⟨of_decide_eq_true h1.1, fun c hc => of_decide_eq_true (h1.2 c hc)⟩
theorem asc_cat {x y : Str} (hx : Asc x) (hy : Asc y) : Asc (x ++ y) := fun c hc => by
  rw [cps_toList_append] at hc
  exact (List.mem_append.mp hc).elim (hx c) (hy c)
theorem asc_cut {x : Str} (hx : Asc x) (lo hi : Option Int) : Asc (cutS x lo hi) := fun c hc => by
  unfold cutS at hc
  exact hx c (List.mem_of_mem_drop (List.mem_of_mem_take (by simpa using hc)))
theorem asc_upper {x : Str} (hx : Asc x) : Asc (Txt.upper x) ∧ (Txt.upper x).length = x.length := by
  rw [upper_ascii hx]
  refine ⟨fun c hc => ?_, by simp [Str.length]⟩
  rw [Array.toList_map] at hc
  obtain ⟨a, ha, rfl⟩ := List.mem_map.mp hc
  have := hx a ha
  unfold up1
  split <;> omega
theorem reps_mem (xs : Array Nat) (c : Nat) : ∀ (k : Nat) (acc : Array Nat), c ∈ ((List.replicate k xs).foldl (· ++ ·) acc).toList → c ∈ acc.toList ∨ c ∈ xs.toList
  | 0, acc, h => .inl h
  | k + 1, acc, h => by
    rw [List.replicate_succ, List.foldl_cons] at h
    rcases reps_mem xs c k _ h with h | h
    · rw [Array.toList_append] at h
      exact List.mem_append.mp h
    · exact .inr h
theorem asc_mul {x : Str} (hx : Asc x) (n : Int) : Asc (Txt.mul x n) := fun c hc => by
  unfold Txt.mul at hc
  split at hc
  · exact absurd hc (by simp [Str.empty])
  · split at hc
    · exact hx c hc
    · exact hx c ((reps_mem _ c _ _ hc).elim (fun z => absurd z (by simp)) id)
theorem asc_int (i : Int) : Asc (Str.ofString (toString i)) := fun c hc => by
  rw [signs_ofString] at hc
  obtain ⟨ch, hch, rfl⟩ := List.mem_map.mp hc
  rcases int_sign i ch hch with h | rfl
  · exact Nat.lt_of_le_of_lt (Char.isDigit_iff_toNat.mp h).2 (by decide)
  · decide
theorem cutS_le (x : Str) (lo hi : Option Int) : (cutS x lo hi).length ≤ x.length := by
  unfold cutS
  show (List.toArray _).size ≤ _
  rw [List.size_toArray, List.length_take, List.length_drop]
  show _ ≤ x.cps.size
  rw [Array.length_toList]
  omega
section
variable {K : PySem.W.Frag} {p c L o : Addr} {n m : Nat} {H H' : Hp} {x : V} {lo hi : Option Int} {Q : VK} {a b : Addr} {xs ys ls : List V}
/-! ### cuts of tuples -/
theorem cutV_to (k : Nat) : cutV xs none (some (k : Int)) = xs.take k := by
  unfold cutV
  rw [HT.sIx_none, HT.sIx_nat, List.drop_zero, Nat.sub_zero]
  rcases Nat.le_total k xs.length with h | h
  · rw [Nat.min_eq_left h]
  · rw [Nat.min_eq_right h, List.take_of_length_le h, List.take_length]
theorem cutV_from (k : Nat) : cutV xs (some (k : Int)) none = xs.drop k := by
  unfold cutV
  rw [HT.sIx_none, HT.sIx_nat]
  rcases Nat.le_total k xs.length with h | h
  · rw [Nat.min_eq_left h, List.take_of_length_le (by rw [List.length_drop]; exact Nat.le_refl _)]
  · rw [Nat.min_eq_right h, Nat.sub_self, List.take_zero, List.drop_eq_nil_of_le h]
theorem sl_to (ht : SqT K H a xs) (q : ∀ (b : Addr) (H' : Hp), Same H H' → SqT K H' b (cutV xs lo hi) → Q (.ref b) H') : rSlA K (.ref a) lo hi H Q := by
  refine ⟨a, xs, rfl, ht, fun hw => q a H (.refl H) ?_, fun _ b hb => q b _ (same_new hb) (.inl (.inl upd_same))⟩
  have e : cutV xs lo hi = xs := by
    unfold cutV
    rw [hw.1, hw.2, List.drop_zero, Nat.sub_zero, List.take_length]
  rw [e]
  exact ht
theorem cat_to (hx : SqT K H a xs) (hy : SqT K H b ys) (hz : xs.length + ys.length ≤ sizeLine) (q : ∀ (b : Addr) (H' : Hp), Same H H' → SqT K H' b (xs ++ ys) → Q (.ref b) H') : rCatA K (.ref a) (.ref b) H Q := by
  refine ⟨a, b, xs, ys, rfl, rfl, hx, hy, hz, fun e => q b H (.refl H) ?_, fun _ e => q a H (.refl H) ?_, fun _ _ d hd => q d _ (same_new hd) (.inl (.inl upd_same))⟩
  · rw [e]
    exact hy
  · rw [e, List.append_nil]
    exact hx
theorem sqT_hide (hL : H L = some (.lst ls)) (h : SqT K H a xs) : SqT K (hide L H) a xs := by
  rcases h with (e | ⟨ob, e⟩) | e
  · exact .inl (.inl ((hide_other fun z => by rw [z, hL] at e; cases e).trans e))
  · exact .inl (.inr ⟨ob, (hide_other fun z => by rw [z, hL] at e; cases e).trans e⟩)
  · exact .inr e
/-! ### one of some data -/
theorem pick_da {E : XK} {ds : List PyData} {bb ww nn : Nat} (G : PenAt H p c m) (hm : m ≤ 1000000000) (hp : p ≠ L) (hc : c ≠ L) (ho : H o = some (.lst xs)) (D : DaAll K p (hide L H) xs ds) (h0 : 0 < xs.length) (h1 : xs.length < 1000) (lim : ∀ d ∈ ds, Lim bb ww nn d)
    (q : ∀ (v : V) (d : PyData) (H' : Hp), Da K p (hide L H') v d → Lim bb ww nn d → SameP p H H' → PenAt H' p c (m + 1) → Q v H') : spPick K [.ref p, .ref o] H Q E := by
  refine ⟨p, c, m, .ref o, xs, rfl, G, hm, .lst (.inl (.inl ho)), h0, by omega, fun i v H4 hv s4 G4 => ?_⟩
  obtain ⟨d, hd, Dv⟩ := D.at hv
  exact q v d H4 (da_keep (keep_hid s4 G hp hc) Dv) (lim d (List.mem_of_getElem? hd)) s4 G4
/-- a value changed at most once at each depth -/
def spChg (K : PySem.W.Frag) (n : Nat) : Sp := fun vs H Q _ => ∃ (p c L : Addr) (m b w : Nat) (ls : List V) (v : V) (d : PyData), vs = [.ref p, v] ∧ PenAt H p c m ∧ m + 3 * (n + 1) ≤ 900000000 ∧ H L = some (.lst ls) ∧ c ≠ L ∧ Da K p (hide L H) v d ∧ Lim b w n d ∧ 25 ≤ b ∧ b ≤ 200 ∧ w ≤ 40000 ∧
  ∀ (v' : V) (d' : PyData) (H' : Hp), Da K p (hide L H') v' d' → Lim (2 * b) (3 * w + 1000) (n + 2) d' → SameP p H H' → PenAt H' p c (m + 3 * (n + 1)) → Q v' H'
end
end My
set_option Elab.async false
set_option linter.all false
set_option maxRecDepth 100000
set_option maxHeartbeats 4000000
namespace My
open PySem PySem.Spec PyProof.Rows L2
section
variable {P : Program} {w : World} {K : PySem.W.Frag} {mg : Str → Option Value} {base : Heap}
theorem lim_cut {b w n k : Nat} {ds : List PyData} {e d' : PyData} {i : Nat} (h : Lim b w n (.tuple ds)) (hi : ds[i]? = some e) (h' : Lim (2 * b) (3 * e.weight + 1000) (n - 1 + 2) d') (hn : 0 < n) : Lim (2 * b) (3 * w + 1000) (n + 2) (.tuple (ds.take i ++ [d'] ++ ds.drop (i + 1))) := by
  obtain ⟨h1, h2, h3⟩ := h
  have lt := (List.getElem?_eq_some_iff.mp hi).1
  have cut1 := wAll_cut ds i
  have e1 : ds.drop i = e :: ds.drop (i + 1) := by
    rw [List.drop_eq_getElem_cons lt, (List.getElem?_eq_some_iff.mp hi).2]
  rw [e1, PyData.weightAll] at cut1
  simp only [PyData.weight] at h2
  simp only [PyData.depth] at h3
  have ok1 := okAll_iff.mp (show okAll b ds = true from h1)
  have d1 := dAll_le.mp (show PyData.depthAll ds ≤ n - 1 by omega)
  have memT : ∀ x ∈ ds.take i ++ [d'] ++ ds.drop (i + 1), x = d' ∨ x ∈ ds := fun x hx => by
    rcases List.mem_append.mp hx with hx | hx
    · rcases List.mem_append.mp hx with hx | hx
      · exact .inr (List.mem_of_mem_take hx)
      · exact .inl (List.mem_singleton.mp hx)
    · exact .inr (List.mem_of_mem_drop hx)
  refine lim_tup (n := n + 1) (fun x hx => ?_) ?_ (fun x hx => ?_)
  · rcases memT x hx with rfl | hx
    · exact h'.ok
    · exact okB_mono (by omega) x (ok1 x hx)
  · rw [wAll_append, wAll_append]
    have := h'.wt
    simp only [PyData.weightAll]
    omega
  · rcases memT x hx with rfl | hx
    · have := h'.dp
      omega
    · have := d1 x hx
      omega
theorem all2 {α : Type} {f : α → Prop} {a b : α} (h1 : f a) (h2 : f b) : ∀ x ∈ [a, b], f x := fun x hx => by
  rcases List.mem_cons.mp hx with rfl | hx
  · exact h1
  · rw [List.mem_singleton.mp hx]
    exact h2
theorem lim_tups {b w n : Nat} {ds : List PyData} (h : Lim b w n (.tuple ds)) (hb : 25 ≤ b) : ∀ d ∈ [.list ds, .tuple (ds.drop 1), .tuple (ds ++ ds.take 1), .tuple ds.reverse, .tuple [.tuple ds], .tuple (ds ++ [.tuple [.str "zz", .int 1]])], Lim (2 * b) (3 * w + 1000) (n + 2) d := by
  obtain ⟨h1, h2, h3⟩ := h
  have h2' := h2
  have h3' := h3
  simp only [PyData.weight] at h2
  simp only [PyData.depth] at h3
  have ok1 : ∀ x ∈ ds, okB (2 * b) x = true := fun x hx => okB_mono (by omega) x (okAll_iff.mp (show okAll b ds = true from h1) x hx)
  have d1 : ∀ x ∈ ds, x.depth ≤ n + 1 := fun x hx => Nat.le_trans (dAll_le.mp (show PyData.depthAll ds ≤ n - 1 by omega) x hx) (by omega)
  have zz : okB (2 * b) (.tuple [.str "zz", .int 1]) = true := okB_mono (b := 25) (by omega) _ (by decide +kernel)
  have c1 := wAll_cut ds 1
  intro d hd
  simp only [List.mem_cons, List.not_mem_nil, or_false] at hd
  rcases hd with rfl | rfl | rfl | rfl | rfl | rfl
  · exact lim_lst (n := n + 1) ok1 (by omega) d1
  · exact lim_tup (n := n + 1) (fun x hx => ok1 x (List.mem_of_mem_drop hx)) (by omega) (fun x hx => d1 x (List.mem_of_mem_drop hx))
  · refine lim_tup (n := n + 1) (fun x hx => ?_) (by rw [wAll_append]; omega) (fun x hx => ?_)
    · exact (List.mem_append.mp hx).elim (ok1 x) fun z => ok1 x (List.mem_of_mem_take z)
    · exact (List.mem_append.mp hx).elim (d1 x) fun z => d1 x (List.mem_of_mem_take z)
  · exact lim_tup (n := n + 1) (fun x hx => ok1 x (List.mem_reverse.mp hx)) (by rw [wAll_rev]; omega) (fun x hx => d1 x (List.mem_reverse.mp hx))
  · refine lim_tup (n := n + 1) (fun x hx => ?_) (by simp only [PyData.weightAll, PyData.weight]; omega) (fun x hx => ?_)
    · rw [List.mem_singleton.mp hx]
      exact okB_mono (by omega) _ h1
    · rw [List.mem_singleton.mp hx]
      omega
  · refine lim_tup (n := n + 1) (fun x hx => ?_) (by rw [wAll_append, show PyData.weightAll [.tuple [.str "zz", .int 1]] = 6 by decide +kernel]; omega) (fun x hx => ?_)
    · rcases List.mem_append.mp hx with hx | hx
      · exact ok1 x hx
      · rw [List.mem_singleton.mp hx]
        exact zz
    · rcases List.mem_append.mp hx with hx | hx
      · exact d1 x hx
      · rw [List.mem_singleton.mp hx]
        exact Nat.le_trans (show PyData.depth (.tuple [.str "zz", .int 1]) ≤ 1 by decide +kernel) (by omega)
theorem lim_strs {b w n : Nat} {x : Str} (h : Lim b w n (.str x)) (hb : 25 ≤ b) (hb1 : b ≤ 200) : ∀ d ∈ [.str (x ++ "a"), .str (cutS x (some 1) none), .str (Txt.upper x), .str (x ++ "-"), .str (Txt.mul x 2), .tuple [.str x, .int 0], .tuple [.str x, .int 1]], Lim (2 * b) (3 * w + 1000) (n + 2) d := by
  obtain ⟨xl, xa⟩ := asc_of h
  have aa : Asc "a" := by unfold Asc; decide +kernel
  have ad : Asc "-" := by unfold Asc; decide +kernel
  have tw : ∀ i : Int, i.natAbs ≤ 1 → Lim (2 * b) (3 * w + 1000) (n + 2) (.tuple [.str x, .int i]) := fun i hi => by
    refine lim_tup (n := n + 1) (all2 (f := fun y => okB (2 * b) y = true) (okB_mono (by omega) _ h.ok) (decide_eq_true (by omega))) ?_ (all2 (f := fun y : PyData => y.depth ≤ n + 1) (Nat.zero_le _) (Nat.zero_le _))
    have e := (lim_int (b := b) (w := 70) (n := 0) (i := i) (by omega) (by omega) (Nat.le_refl _)).wt
    have e2 := h.wt
    simp only [PyData.weightAll]
    omega
  intro d hd
  simp only [List.mem_cons, List.not_mem_nil, or_false] at hd
  rcases hd with rfl | rfl | rfl | rfl | rfl | rfl | rfl
  · exact lim_str (by rw [strLen_append]; show _ + 1 ≤ _; omega) (asc_cat xa aa) (by omega)
  · exact lim_str (Nat.le_trans (cutS_le x _ _) (by omega)) (asc_cut xa _ _) (by omega)
  · exact lim_str (by rw [(asc_upper xa).2]; omega) (asc_upper xa).1 (by omega)
  · exact lim_str (by rw [strLen_append]; show _ + 1 ≤ _; omega) (asc_cat xa ad) (by omega)
  · exact lim_str (Nat.le_trans (len_mul_leN (N := 2) xl (by decide)) (by omega)) (asc_mul xa _) (by omega)
  · exact tw 0 (by decide)
  · exact tw 1 (by decide)
theorem lim_ints {b w n : Nat} {i : Int} (h : Lim b w n (.int i)) (hb : 25 ≤ b) (hb1 : b ≤ 200) : ∀ d ∈ [.int (-i), .int (1 - i), .int (i + 1), .bool (decide (V.int i = V.int 1)), .str (Str.ofString (toString i)), .int 0], Lim (2 * b) (3 * w + 1000) (n + 2) d := by
  have hin : i.natAbs ≤ 10 ^ 20 + b := of_decide_eq_true h.ok
  intro d hd
  simp only [List.mem_cons, List.not_mem_nil, or_false] at hd
  rcases hd with rfl | rfl | rfl | rfl | rfl | rfl
  · exact lim_int (by omega) (by omega) (by omega)
  · exact lim_int (by omega) (by omega) (by omega)
  · exact lim_int (by omega) (by omega) (by omega)
  · exact ⟨rfl, Nat.zero_le _, Nat.zero_le _⟩
  · refine lim_str ?_ (asc_int i) (by omega)
    rw [PySem.ofString_length]
    have := int_text_length_le10 (a := i) (k := 22) (by decide) (by omega)
    omega
  · exact lim_int (show 0 ≤ _ from Nat.zero_le _) (by omega) (by omega)
theorem ok_chg_step {f fD fP fS fO : Addr} {fd dD dP dS dO : FuncData} (n : Nat) (F : Fun K "_law_changed" "_law_changed" sChg f fd) (B : Glb mg) (T : Draws P w K mg base fD fP fS dD dP dS)
    (OO : FnOk P w K mg base CX0 3 fO dO ["pen"] (spOdd K)) (gO : mg "_law_odd" = some (.ref fO)) (kO : PySem.W.keepIn K (.ref fO) = true) (bO : Binds K dO ["pen"] []) (spC : Sp) (hC : 0 < n → ∀ vs H Q E, spChg K (n - 1) vs H Q E → spC vs H Q E)
    (GC : FnOk P w K mg base CX0 (3 + n) f fd ["pen", "value"] spC) (gC : mg "_law_changed" = some (.ref f)) (kC : PySem.W.keepIn K (.ref f) = true) (bC : Binds K fd ["pen", "value"] []) : FnOk P w K mg base CX0 (3 + n + 1) f fd ["pen", "value"] (spChg K n) := by
  refine F.ok scChg (fun vs H Q E h => ?_) (fun cdv A outer s H vs Q E hr h => ?_)
  · obtain ⟨p, c, L, m, b, w, ls, v, d, rfl, _⟩ := h
    rfl
  · obtain ⟨p, c, L, m, b, wt, ls, v, d, rfl, G, hm, hL, hcL, D, lim, hB0, hB1, hw, q⟩ := h
    obtain ⟨⟨ns, t, r, P0, _⟩⟩ := id G
    have hpL : p ≠ L := ne_of P0 hL (fun z => nomatch z)
    have hr1 := hr.mono (show 1 ≤ 3 + n by omega)
    have hr2 := hr.mono (show 2 ≤ 3 + n by omega)
    have hr3 := hr.mono (show 3 ≤ 3 + n by omega)
    refine ⟨_, pss_cons (ps_set (i := 2) scChg.nd rfl (.inl rfl) (pe_call T.oD hr1 (by rfl) T.gD T.kD T.bD .nil pass0 (pa_cons (pv 0) (pa_cons pe_int pa_nil))))
      (Evl.pss_cut (ps_if (PW.pt (pw_and (pt_val (pe_callB call_isi (by rfl) B.isi boot_isinstance (pa_cons (pv 1) (pa_cons (pe_bltn (v := .ty "tuple") (by rfl) B.tuple boot_tuple rfl) pa_nil))))
          (pw_and (pt_cmpR (op_neNil hr.units) (pv 1) (pe_tup pa_nil) (nomark _)) (pw_and1 (pt_cmpR op_lt (pv 2) pe_int (nomark _))))))
        (pss_cons (ps_set (i := 3) scChg.nd rfl (.inl rfl) (pe_call T.oD hr1 (by rfl) T.gD T.kD T.bD .nil pass0 (pa_cons (pv 0) (pa_cons (pe_callB call_len (by rfl) B.len PySem.boot_len (pa_cons (pv 1) pa_nil)) pa_nil))))
        (pss_one (ps_ret (pe_op op_catA (pe_op op_catA (pe_slice sl_tupA (pv 1) po_none (po_some (pv 3)))
          (pe_tup (pa_cons (pe_call GC hr (by rfl) gC kC bC .nil pass0 (pa_cons (pv 0) (pa_cons (pe_ix ix_tup (pv 1) (pv 3) (fun _ _ => rfl)) pa_nil))) pa_nil)))
          (pe_slice sl_tupA (pv 1) (po_some (pe_op op_add (pv 3) pe_int)) po_none))))) pss_nil)
      (Evl.pss_cut (ps_if (PW.pt (pw_and (pt_val (pe_callB call_isi (by rfl) B.isi boot_isinstance (pa_cons (pv 1) (pa_cons (pe_bltn (v := .ty "tuple") (by rfl) B.tuple boot_tuple rfl) pa_nil))))
          (pw_and1 (pt_cmpR op_lt (pv 2) pe_int (nomark _)))))
        (pss_one (ps_ret (pe_call T.oP hr2 (by rfl) T.gP T.kP T.bP .nil pass0 (pa_cons (pv 0) (pa_cons (pe_lst (pa_cons (pe_callTy call_listN (by rfl) B.list (by decide +kernel) (pa_cons (pv 1) pa_nil))
          (pa_cons (pe_slice sl_tupA (pv 1) (po_some pe_int) po_none) (pa_cons (pe_op op_catA (pv 1) (pe_slice sl_tupA (pv 1) po_none (po_some pe_int))) (pa_cons (pe_revT (pv 1)) (pa_cons (pe_tup (pa_cons (pv 1) pa_nil))
          (pa_cons (pe_op op_catA (pv 1) (pe_tup (pa_cons (pe_tup (pa_cons pe_str (pa_cons pe_int pa_nil))) pa_nil))) pa_nil))))))) pa_nil))))) pss_nil)
      (Evl.pss_cut (ps_if (PW.pt (pw_and (pt_val (pe_callB call_isi (by rfl) B.isi boot_isinstance (pa_cons (pv 1) (pa_cons (pe_bltn (v := .ty "str") (by rfl) B.str boot_str rfl) pa_nil))))
          (pw_and1 (pt_cmpR op_lt (pv 2) pe_int (nomark _)))))
        (pss_one (ps_ret (pe_call T.oP hr2 (by rfl) T.gP T.kP T.bP .nil pass0 (pa_cons (pv 0) (pa_cons (pe_lst (pa_cons (pe_op op_add_str (pv 1) pe_str) (pa_cons (pe_slice sl_str (pv 1) (po_some pe_int) po_none) (pa_cons (pe_upper (pv 1))
          (pa_cons (pe_op op_add_str (pv 1) pe_str) (pa_cons (pe_op op_mulS (pv 1) pe_int) (pa_cons (pe_tup (pa_cons (pv 1) (pa_cons pe_int pa_nil))) (pa_cons (pe_tup (pa_cons (pv 1) (pa_cons pe_int pa_nil))) pa_nil)))))))) pa_nil))))) pss_nil)
      (Evl.pss_cut (ps_if (PW.pt (pw_and (pt_val (pe_callB call_isi (by rfl) B.isi boot_isinstance (pa_cons (pv 1) (pa_cons (pe_bltn (v := .ty "int") (by rfl) B.int boot_int rfl) pa_nil))))
          (pw_and (pt_not (pt_val (pe_callB call_isi (by rfl) B.isi boot_isinstance (pa_cons (pv 1) (pa_cons (pe_bltn (v := .ty "bool") (by rfl) B.bool boot_bool rfl) pa_nil))))) (pw_and1 (pt_cmpR op_lt (pv 2) pe_int (nomark _))))))
        (pss_one (ps_ret (pe_call T.oP hr2 (by rfl) T.gP T.kP T.bP .nil pass0 (pa_cons (pv 0) (pa_cons (pe_lst (pa_cons (pe_un un_neg (pv 1)) (pa_cons (pe_op op_sub pe_int (pv 1)) (pa_cons (pe_op op_add (pv 1) pe_int)
          (pa_cons (pe_cmpR op_eq (pv 1) pe_int (nomark _)) (pa_cons (pe_callTy call_str_int (by rfl) B.str (by decide +kernel) (pa_cons (pv 1) pa_nil)) (pa_cons pe_int pa_nil))))))) pa_nil))))) pss_nil)
      (pss_one (ps_ret (pe_call OO hr3 (by rfl) gO kO bO .nil pass0 (pa_cons (pv 0) pa_nil)))))))), ?_⟩
    refine ⟨_, rfl, p, c, m, 8, rfl, G, by omega, by decide, by decide, fun wy H1 w0 w1 s1 G1 => ?_⟩
    have L1 := s1.lst G hL
    have D1 : Da K p (hide L H1) v d := da_keep (keep_hid s1 G hpL hcL) D
    refine ⟨fun σ' H' => σ' = [some (.ref p), some v, some (.int wy), none] ∧ Same H1 H', ?_, ?_⟩
    · refine ⟨_, rfl, v, _, _, _, _, rfl, .ty _, da_ty (da_keep unhide.keepA D1), kit_ty (kit_tuple d), _, rfl, ?_⟩
      cases hi : isTup d with
      | false => exact iteF (iteF ⟨rfl, .refl _⟩)
      | true =>
        obtain ⟨ds, rfl⟩ : ∃ ds, d = .tuple ds := by cases d <;> first | exact ⟨_, rfl⟩ | cases hi
        cases D1 with
        | @tup a xs _ hs hd =>
          have hl := hd.length
          refine iteT ⟨_, rfl, by show 0 ≤ sizeLine; decide, fun e0 he0 => ?_⟩
          have se := same_new (o := HO.tup []) he0
          have hs1 : SqT K H1 a xs := unhide.keepsT _ _ hs
          refine ⟨a, e0, xs, rfl, rfl, .inr ⟨se.keepsT _ _ hs1, .inl (.inl upd_same)⟩, _, rfl, ?_⟩
          cases hx : xs.isEmpty with
          | true => exact iteF (iteF ⟨rfl, se⟩)
          | false =>
            have hpos : 0 < xs.length := by
              cases xs with
              | nil => cases hx
              | cons x r => exact Nat.succ_pos _
            have hlen : xs.length ≤ 40000 := by
              have := wAll_len ds
              have := lim.wt
              simp only [PyData.weight] at this
              omega
            have hn0 : 0 < n := by
              have := lim.dp
              simp only [PyData.depth] at this
              omega
            generalize hH2 : upd H1 e0 (.tup []) = H2 at se
            refine iteT ⟨_, rfl, wy, 5, rfl, rfl, _, rfl, ite2 (fun _ => ?_) (fun _ => ⟨rfl, se⟩)⟩
            have hs2 := se.keepsT _ _ hs1
            have L2' := se _ _ L1
            refine ⟨_, rfl, _, rfl, .ref a, xs.length, rfl, .inr ⟨_, hs2, rfl⟩, p, c, m + 1, xs.length, rfl, G1.same se, by omega, by omega, by omega, fun t1 H3 t0 tl s3 G3 => ?_⟩
            obtain ⟨i, rfl⟩ : ∃ i : Nat, t1 = (i : Int) := ⟨t1.toNat, by omega⟩
            have hi' : i < xs.length := by omega
            have hs3 : SqT K H3 a xs := s3.sqT (G1.same se) hs2
            have L3 := s3.lst (G1.same se) L2'
            have s13 : SameP p H1 H3 := (SameP.of se).trans s3
            have hd3 := da_keepAll (keep_hid s13 G1 hpL hcL) hd
            refine ⟨_, rfl, _, rfl, _, rfl, ?_⟩
            refine sl_to hs3 fun b1 H4 s4 t4 => ?_
            rw [cutV_to] at t4
            have hd4 := da_keepAll (hide_same s4).keepA hd3
            obtain ⟨e, he, De⟩ := hd4.at (List.getElem?_eq_getElem hi')
            refine ⟨_, rfl, _, rfl, _, rfl, a, _, _, _, rfl, rfl, s4.keepsT _ _ hs3, atI_nat (List.getElem?_eq_getElem hi'), hC hn0 _ _ _ _ ?_⟩
            have le := lim.item (List.mem_of_getElem? he)
            refine ⟨p, c, L, m + 2, b, e.weight, ls, _, e, rfl, G3.same s4, by omega, s4 _ _ L3, hcL, De, ⟨le.ok, Nat.le_refl _, le.dp⟩, hB0, hB1, Nat.le_trans le.wt hw, fun v' d' H5 D5 l5 s5 G5 => ?_⟩
            have L5 := s5.lst (G3.same s4) (s4 _ _ L3)
            refine ⟨by show 1 ≤ sizeLine; decide, fun b2 hb2 => ?_⟩
            have s6 := same_new (o := HO.tup [v']) hb2
            have t6 : SqT K (upd H5 b2 (.tup [v'])) b2 [v'] := .inl (.inl upd_same)
            have t6' := s6.keepsT _ _ (s5.sqT (G3.same s4) t4)
            generalize upd H5 b2 (.tup [v']) = H6 at s6 t6 t6'
            refine cat_to t6' t6 (by rw [List.length_take]; show _ + 1 ≤ sizeLine; rw [sizeLine_eq]; omega) fun b3 H7 s7 t7 => ?_
            have hs7 : SqT K H7 a xs := s7.keepsT _ _ (s6.keepsT _ _ (s5.sqT (G3.same s4) (s4.keepsT _ _ hs3)))
            refine ⟨_, rfl, _, rfl, (i : Int), 1, rfl, rfl, _, rfl, ?_⟩
            unfold tNoPart
            dsimp only []
            refine sl_to hs7 fun b4 H8 s8 t8 => ?_
            have e8 : (some ((i : Int) + 1) : Option Int) = some ((i + 1 : Nat) : Int) := rfl
            rw [e8, cutV_from] at t8
            refine cat_to (s8.keepsT _ _ t7) t8 (by rw [List.length_append, List.length_take, List.length_drop]; show _ + 1 + _ ≤ sizeLine; rw [sizeLine_eq]; omega) fun b5 H9 s9 t9 => ?_
            have s59 : Same H5 H9 := ((s6.trans s7).trans s8).trans s9
            have s49 : SameP p H4 H9 := s5.trans (.of s59)
            have hd9 := da_keepAll (keep_hid s49 (G3.same s4) hpL hcL) hd4
            have hv9 := da_keep (hide_same s59).keepA D5
            refine q (.ref b5) _ H9 (.tup (sqT_hide (s59 _ _ L5) t9) (((hd9.take i).append (.cons hv9 .nil)).append (hd9.drop (i + 1)))) (lim_cut (k := 0) lim he (l5.mono (Nat.le_refl _) (Nat.le_refl _) (by omega)) hn0) (s1.trans (s13.trans ((SameP.of s4).trans s49))) ((G5.same s59).mono (by omega))
    · rintro _ H2 ⟨rfl, s2⟩
      refine ⟨fun σ' H' => σ' = [some (.ref p), some v, some (.int wy), none] ∧ Same H1 H', ?_, ?_⟩
      · have D2 := da_keep (hide_same s2).keepA D1
        have L2' := s2 _ _ L1
        refine ⟨_, rfl, v, _, _, _, _, rfl, .ty _, da_ty (da_keep unhide.keepA D2), kit_ty (kit_tuple d), _, rfl, ?_⟩
        cases hi : isTup d with
        | false => exact iteF (iteF ⟨rfl, s2⟩)
        | true =>
          obtain ⟨ds, rfl⟩ : ∃ ds, d = .tuple ds := by cases d <;> first | exact ⟨_, rfl⟩ | cases hi
          refine iteT ⟨_, rfl, wy, 7, rfl, rfl, _, rfl, ite2 (fun _ => ?_) (fun _ => ⟨rfl, s2⟩)⟩
          have Dv := D2
          cases D2 with
          | @tup a xs _ hs hd =>
            have hl := hd.length
            have hlen : xs.length ≤ 40000 := by
              have := wAll_len ds
              have := lim.wt
              simp only [PyData.weight] at this
              omega
            have hs2 : SqT K H2 a xs := unhide.keepsT _ _ hs
            refine ⟨_, rfl, _, rfl, a, xs, rfl, hs2, fun b1 hb1 nb1 => ?_⟩
            have s3 := same_new (o := HO.lst xs) hb1
            have D31 : Da K p (hide L _) (.ref b1) _ := .lst nb1 (.inl (.inl (hide_new (x := HO.lst xs) L2' hb1))) (da_keepAll (hide_same s3).keepA hd)
            have L3 := s3 _ _ L2'
            replace hs2 := s3.keepsT _ _ hs2
            replace hd := da_keepAll (hide_same s3).keepA hd
            replace Dv := da_keep (hide_same s3).keepA Dv
            generalize upd H2 b1 (.lst xs) = H3 at s3 D31 L3 hs2 hd Dv
            refine ⟨_, rfl, _, rfl, ?_⟩
            unfold tNoPart
            dsimp only []
            refine sl_to hs2 fun b2 H4 s4 t4 => ?_
            rw [show (some (1 : Int)) = some ((1 : Nat) : Int) from rfl, cutV_from] at t4
            have k4 := (hide_same (L := L) s4).keepA (K := K) (p := p)
            replace D31 := da_keep k4 D31
            replace hd := da_keepAll k4 hd
            replace hs2 := s4.keepsT _ _ hs2
            replace Dv := da_keep k4 Dv
            have L4 := s4 _ _ L3
            have D32 : Da K p (hide L H4) (.ref b2) (.tuple (ds.drop 1)) := .tup (sqT_hide L4 t4) (hd.drop 1)
            refine ⟨_, rfl, _, rfl, _, rfl, ?_⟩
            refine sl_to hs2 fun b3 H5 s5 t5 => ?_
            rw [show (some (1 : Int)) = some ((1 : Nat) : Int) from rfl, cutV_to] at t5
            refine cat_to (s5.keepsT _ _ hs2) t5 (by rw [List.length_take]; show _ ≤ sizeLine; rw [sizeLine_eq]; omega) fun b4 H6 s6 t6 => ?_
            have s56 := s5.trans s6
            have k6 := (hide_same (L := L) s56).keepA (K := K) (p := p)
            replace D31 := da_keep k6 D31
            replace D32 := da_keep k6 D32
            replace hd := da_keepAll k6 hd
            replace hs2 := s56.keepsT _ _ hs2
            replace Dv := da_keep k6 Dv
            have L6 := s56 _ _ L4
            have D33 : Da K p (hide L H6) (.ref b4) (.tuple (ds ++ ds.take 1)) := .tup (sqT_hide L6 t6) (hd.append (hd.take 1))
            refine ⟨_, rfl, a, xs, rfl, hs2, fun b5 hb5 => ?_⟩
            have s7 := same_new (o := HO.tup xs.reverse) hb5
            have k7 := (hide_same (L := L) s7).keepA (K := K) (p := p)
            have L7 := s7 _ _ L6
            replace D31 := da_keep k7 D31
            replace D32 := da_keep k7 D32
            replace D33 := da_keep k7 D33
            replace hd := da_keepAll k7 hd
            replace hs2 := s7.keepsT _ _ hs2
            replace Dv := da_keep k7 Dv
            have D34 : Da K p (hide L _) (.ref b5) (.tuple ds.reverse) := .tup (.inl (.inl (hide_new (x := HO.tup xs.reverse) L6 hb5))) hd.reverse
            generalize upd H6 b5 (.tup xs.reverse) = H7 at s7 k7 L7 D31 D32 D33 D34 hd hs2 Dv
            refine ⟨_, rfl, by show 1 ≤ sizeLine; decide, fun b6 hb6 => ?_⟩
            have s8 := same_new (o := HO.tup [.ref a]) hb6
            have k8 := (hide_same (L := L) s8).keepA (K := K) (p := p)
            have L8 := s8 _ _ L7
            replace D31 := da_keep k8 D31
            replace D32 := da_keep k8 D32
            replace D33 := da_keep k8 D33
            replace D34 := da_keep k8 D34
            replace hd := da_keepAll k8 hd
            replace hs2 := s8.keepsT _ _ hs2
            have D35 : Da K p (hide L _) (.ref b6) (.tuple [.tuple ds]) := .tup (.inl (.inl (hide_new (x := HO.tup [.ref a]) L7 hb6))) (.cons (da_keep k8 Dv) .nil)
            generalize upd H7 b6 (.tup [.ref a]) = H8 at s8 k8 L8 D31 D32 D33 D34 D35 hd hs2
            refine ⟨_, rfl, by show 2 ≤ sizeLine; decide, fun b7 hb7 => ?_⟩
            have s9 := same_new (o := HO.tup [.str "zz", .int 1]) hb7
            have L9 := s9 _ _ L8
            have D9 : Da K p (hide L _) (.ref b7) (.tuple [.str "zz", .int 1]) := .tup (.inl (.inl (hide_new (x := HO.tup [.str "zz", .int 1]) L8 hb7))) (.cons (.str _) (.cons (.int _) .nil))
            generalize upd H8 b7 (.tup [.str "zz", .int 1]) = H9 at s9 L9 D9
            refine ⟨by show 1 ≤ sizeLine; decide, fun b8 hb8 => ?_⟩
            have s10 := same_new (o := HO.tup [.ref b7]) hb8
            have L10 := s10 _ _ L9
            have t10 : SqT K (upd H9 b8 (.tup [.ref b7])) b8 [.ref b7] := .inl (.inl upd_same)
            replace D9 := da_keep (hide_same s10).keepA D9
            generalize upd H9 b8 (.tup [.ref b7]) = H10 at s10 L10 t10 D9
            refine cat_to ((s9.trans s10).keepsT _ _ hs2) t10 (by show _ + 1 ≤ sizeLine; rw [sizeLine_eq]; omega) fun b9 H11 s11 t11 => ?_
            have s911 := (s9.trans s10).trans s11
            have k11 := (hide_same (L := L) s911).keepA (K := K) (p := p)
            have L11 := s11 _ _ L10
            replace D31 := da_keep k11 D31
            replace D32 := da_keep k11 D32
            replace D33 := da_keep k11 D33
            replace D34 := da_keep k11 D34
            replace D35 := da_keep k11 D35
            replace hd := da_keepAll k11 hd
            have D36 : Da K p (hide L H11) (.ref b9) (.tuple (ds ++ [.tuple [.str "zz", .int 1]])) := .tup (sqT_hide L11 t11) (hd.append (.cons (da_keep (hide_same s11).keepA D9) .nil))
            refine ⟨by show 6 ≤ sizeLine; decide, fun o ho => ?_⟩
            have s12 := same_new (o := HO.lst [.ref b1, .ref b2, .ref b4, .ref b5, .ref b6, .ref b9]) ho
            have sA := ((((((s2.trans s3).trans s4).trans s56).trans s7).trans s8).trans s911).trans s12
            have k12 := (hide_same (L := L) s12).keepA (K := K) (p := p)
            refine pick_da (E := E) (G1.same sA) (by omega) hpL hcL upd_same (da_keepAll k12 (.cons D31 (.cons D32 (.cons D33 (.cons D34 (.cons D35 (.cons D36 .nil))))))) (by show 0 < 6; decide) (by show 6 < 1000; decide) (lim_tups lim hB0)
              fun v' d' H' D' l' s' G' => q v' d' H' D' l' (s1.trans ((SameP.of sA).trans s')) (G'.mono (by omega))
      · rintro _ H2 ⟨rfl, s2⟩
        refine ⟨fun σ' H' => σ' = [some (.ref p), some v, some (.int wy), none] ∧ Same H1 H', ?_, ?_⟩
        · have D2 := da_keep (hide_same s2).keepA D1
          have L2' := s2 _ _ L1
          refine ⟨_, rfl, v, _, _, _, _, rfl, .ty _, da_ty (da_keep unhide.keepA D2), kit_ty (kit_str d), _, rfl, ?_⟩
          cases hi : isStr d with
          | false => exact iteF (iteF ⟨rfl, s2⟩)
          | true =>
            obtain ⟨x, rfl⟩ := str_case hi
            refine iteT ⟨_, rfl, wy, 6, rfl, rfl, _, rfl, ite2 (fun _ => ?_) (fun _ => ⟨rfl, s2⟩)⟩
            cases D2
            obtain ⟨xl, xa⟩ := asc_of lim
            have hz := sizeLine_eq
            refine ⟨_, rfl, _, rfl, x, "a", rfl, rfl, by show _ + 1 ≤ _; omega, _, rfl, _, rfl, x, rfl, by omega, _, rfl, ⟨x, rfl⟩, x, rfl, rfl, by omega, _, rfl, x, "-", rfl, rfl, by show _ + 1 ≤ _; omega, _, rfl, x, 2, rfl, rfl, by omega, by decide, by decide, ?_⟩
            refine ⟨_, rfl, by show 2 ≤ sizeLine; decide, fun b1 hb1 => ?_⟩
            have s3 := same_new (o := HO.tup [.str x, .int 0]) hb1
            have L3 := s3 _ _ L2'
            have D31 : Da K p (hide L _) (.ref b1) (.tuple [.str x, .int 0]) := .tup (.inl (.inl (hide_new (x := HO.tup [.str x, .int 0]) L2' hb1))) (.cons (.str _) (.cons (.int _) .nil))
            refine ⟨_, rfl, by show 2 ≤ sizeLine; decide, fun b2 hb2 => ?_⟩
            have s4 := same_new (o := HO.tup [.str x, .int 1]) hb2
            have D32 : Da K p (hide L _) (.ref b2) (.tuple [.str x, .int 1]) := .tup (.inl (.inl (hide_new (x := HO.tup [.str x, .int 1]) L3 hb2))) (.cons (.str _) (.cons (.int _) .nil))
            replace D31 := da_keep (hide_same s4).keepA D31
            refine ⟨by show 7 ≤ sizeLine; decide, fun o ho => ?_⟩
            have s5 := same_new (o := HO.lst [.str (x ++ "a"), .str (cutS x (some 1) none), .str (Txt.upper x), .str (x ++ "-"), .str (Txt.mul x 2), .ref b1, .ref b2]) ho
            have sA := ((s2.trans s3).trans s4).trans s5
            refine pick_da (E := E) (G1.same sA) (by omega) hpL hcL upd_same (da_keepAll (hide_same s5).keepA (.cons (.str _) (.cons (.str _) (.cons (.str _) (.cons (.str _) (.cons (.str _) (.cons D31 (.cons D32 .nil)))))))) (by show 0 < 7; decide) (by show 7 < 1000; decide)
              (lim_strs lim hB0 hB1) fun v' d' H' D' l' s' G' => q v' d' H' D' l' (s1.trans ((SameP.of sA).trans s')) (G'.mono (by omega))
        · rintro _ H2 ⟨rfl, s2⟩
          refine ⟨fun σ' H' => σ' = [some (.ref p), some v, some (.int wy), none] ∧ Same H1 H', ?_, ?_⟩
          · have D2 := da_keep (hide_same s2).keepA D1
            refine ⟨_, rfl, v, _, _, _, _, rfl, .ty _, da_ty (da_keep unhide.keepA D2), kit_ty (kit_int d), _, rfl, ?_⟩
            cases hi : isInt d with
            | false => exact iteF (iteF ⟨rfl, s2⟩)
            | true =>
              refine iteT ⟨_, rfl, v, _, _, _, _, rfl, .ty _, da_ty (da_keep unhide.keepA D2), kit_ty (kit_bool d), _, rfl, ?_⟩
              cases hk : isBool d with
              | true => exact iteF (iteF ⟨rfl, s2⟩)
              | false =>
                obtain ⟨i, rfl⟩ : ∃ i, d = .int i := by cases d <;> first | exact ⟨_, rfl⟩ | (cases hk; done) | (cases hi; done)
                refine iteT ⟨_, rfl, wy, 6, rfl, rfl, _, rfl, ite2 (fun _ => ?_) (fun _ => ⟨rfl, s2⟩)⟩
                cases D2
                have hin : i.natAbs ≤ 10 ^ 20 + b := of_decide_eq_true lim.ok
                have hlog := log_small (i := i) (by omega)
                refine ⟨_, rfl, _, rfl, i, rfl, _, rfl, 1, i, rfl, rfl, _, rfl, i, 1, rfl, rfl, _, rfl, rfl, _, rfl, i, rfl, by omega, by show 6 ≤ sizeLine; decide, fun o ho => ?_⟩
                have s5 := same_new (o := HO.lst [.int (-i), .int (1 - i), .int (i + 1), .bl (decide (V.int i = V.int 1)), .str (Str.ofString (toString i)), .int 0]) ho
                have sA := s2.trans s5
                refine pick_da (E := E) (G1.same sA) (by omega) hpL hcL upd_same (.cons (.int _) (.cons (.int _) (.cons (.int _) (.cons (.bl _) (.cons (.str _) (.cons (.int _) .nil)))))) (by show 0 < 6; decide) (by show 6 < 1000; decide)
                  (lim_ints lim hB0 hB1) fun v' d' H' D' l' s' G' => q v' d' H' D' l' (s1.trans ((SameP.of sA).trans s')) (G'.mono (by omega))
          · rintro _ H2 ⟨rfl, s2⟩
            exact ⟨_, rfl, p, c, L, m + 1, ls, rfl, G1.same s2, by omega, s2 _ _ L1, hcL, fun v' d' H' D' l' s' G' => q v' d' H' D' (l'.mono (by omega) (by omega) (by omega)) (s1.trans ((SameP.of s2).trans s')) (G'.mono (by omega))⟩
theorem ok_chg {f fD fP fS fO : Addr} {fd dD dP dS dO : FuncData} (F : Fun K "_law_changed" "_law_changed" sChg f fd) (B : Glb mg) (T : Draws P w K mg base fD fP fS dD dP dS)
    (OO : FnOk P w K mg base CX0 3 fO dO ["pen"] (spOdd K)) (gO : mg "_law_odd" = some (.ref fO)) (kO : PySem.W.keepIn K (.ref fO) = true) (bO : Binds K dO ["pen"] []) (gC : mg "_law_changed" = some (.ref f)) (kC : PySem.W.keepIn K (.ref f) = true) (bC : Binds K fd ["pen", "value"] []) :
    ∀ n : Nat, FnOk P w K mg base CX0 (3 + n + 1) f fd ["pen", "value"] (spChg K n)
  | 0 => ok_chg_step 0 F B T OO gO kO bO (fun _ _ _ _ => False) (fun z => absurd z (Nat.lt_irrefl 0)) ⟨fun _ _ _ _ z => z.elim, fun _ _ _ _ _ _ _ _ _ _ _ _ _ z => z.elim⟩ gC kC bC
  | n + 1 => ok_chg_step (n + 1) F B T OO gO kO bO (spChg K n) (fun _ _ _ _ _ h => h) (ok_chg F B T OO gO kO bO gC kC bC n) gC kC bC
/-- .. of any depth up to 6 -/
def spChgs (K : PySem.W.Frag) : Sp := fun vs H Q E => ∃ n, n ≤ 6 ∧ spChg K n vs H Q E
theorem ok_chgs {f : Addr} {fd : FuncData} (h : ∀ n : Nat, FnOk P w K mg base CX0 (3 + n + 1) f fd ["pen", "value"] (spChg K n)) : FnOk P w K mg base CX0 10 f fd ["pen", "value"] (spChgs K) :=
  ⟨fun vs H Q E ⟨n, _, z⟩ => (h n).len vs H Q E z, fun A stk s H g us vs Q E r e b v ⟨n, hn, z⟩ => (h n).run A stk s H g us vs Q E (r.mono (by omega)) e b v z⟩
end
end My
set_option Elab.async false
set_option linter.all false
set_option maxRecDepth 100000
set_option maxHeartbeats 4000000
namespace My
open PySem PySem.Spec PyProof.Rows L2
theorem hide_born {L : Addr} {H : Hp} {x : HO} (h : H L = none) : Same H (hide L (upd H L x)) := fun b o e => (hide_other (ne_of_none e h)).trans ((upd_ne (ne_of_none e h)).trans e)
theorem name_lim {x : Str} (h : NameOk x) : Lim 25 600 2 (.str x) := lim_str (by have := h.2.1; omega) (fun c hc => by have := h.2.2 c hc; omega) (by decide)
theorem w_small {z : Int} (h : z.natAbs ≤ 1) : (PyData.int z).weight ≤ 1 := by
  have : z = 0 ∨ z = 1 ∨ z = -1 := by omega
  rcases this with rfl | rfl | rfl <;> decide +kernel
theorem pair_lim {x : Str} {z : Int} (h : NameOk x) (hz : z.natAbs ≤ 1) : Lim 25 600 1 (.tuple [.str x, .int z]) := by
  refine lim_tup (n := 0) (all2 (f := fun y => okB 25 y = true) (name_lim h).ok (decide_eq_true (by omega))) ?_ (all2 (f := fun y : PyData => y.depth ≤ 0) (Nat.zero_le _) (Nat.zero_le _))
  have := w_small hz
  have e : (PyData.str x).weight = x.length := rfl
  have := h.2.1
  simp only [PyData.weightAll]
  omega
theorem row_w : ∀ r : List (Str × Int), (∀ x ∈ r, NameOk x.1 ∧ x.2.natAbs ≤ 1) → PyData.weightAll (r.map dwD) ≤ 12 * r.length
  | [], _ => Nat.zero_le _
  | x :: r, h => by
    have ih := row_w r fun y hy => h y (List.mem_cons_of_mem _ hy)
    obtain ⟨h1, h2⟩ := h x List.mem_cons_self
    have := w_small h2
    have e : (PyData.str x.1).weight = x.1.length := rfl
    have := h1.2.1
    have e2 : (dwD x).weight = (PyData.str x.1).weight + 1 + ((PyData.int x.2).weight + 1 + 0) := rfl
    rw [List.map_cons, PyData.weightAll, List.length_cons]
    omega
theorem row_lim {r : List (Str × Int)} (h : ∀ x ∈ r, NameOk x.1 ∧ x.2.natAbs ≤ 1) (hl : r.length ≤ 31) : Lim 25 600 2 (rowD r) := by
  have := row_w r h
  refine lim_tup (n := 1) (fun d hd => ?_) (by omega) (fun d hd => ?_)
  · obtain ⟨x, hx, rfl⟩ := List.mem_map.mp hd
    exact (pair_lim (h x hx).1 (h x hx).2).ok
  · obtain ⟨x, hx, rfl⟩ := List.mem_map.mp hd
    exact (pair_lim (h x hx).1 (h x hx).2).dp
theorem row_okk {r : List (Str × Int)} {names : List Str} (e : r.map (·.1) = names) (h : ∀ x ∈ names, NameOk x) (d : Dirs r) : ∀ x ∈ r, NameOk x.1 ∧ x.2.natAbs ≤ 1 := fun x hx => ⟨h _ (e ▸ List.mem_map_of_mem hx), by
  rcases d x hx with z | z <;> rw [z] <;> decide⟩
theorem bools_short (b1 b2 b3 : Bool) : (PyData.list [.bool b1, .bool b2, .bool b3]).shown.length ≤ sizeLine := by
  refine Nat.le_trans (?_ : _ ≤ 100) (by rw [sizeLine_eq]; decide)
  cases b1 <;> cases b2 <;> cases b3 <;> decide +kernel
def wOf : Nat → Nat
  | 0 => 600
  | j + 1 => 3 * wOf j + 1000
theorem many_item {i : Nat} {v : V} (h : ([.int 1, .int 2, .int 3, .int 5, .int 30, .int 31] : List V)[i]? = some v) : ∃ many : Nat, v = .int (many : Int) ∧ 1 ≤ many ∧ many ≤ 31 := by
  have := List.mem_of_getElem? h
  simp only [List.mem_cons, List.not_mem_nil, or_false] at this
  rcases this with rfl | rfl | rfl | rfl | rfl | rfl
  · exact ⟨1, rfl, by decide, by decide⟩
  · exact ⟨2, rfl, by decide, by decide⟩
  · exact ⟨3, rfl, by decide, by decide⟩
  · exact ⟨5, rfl, by decide, by decide⟩
  · exact ⟨30, rfl, by decide, by decide⟩
  · exact ⟨31, rfl, by decide, by decide⟩
section
variable {P : Program} {w : World} {K : PySem.W.Frag} {mg : Str → Option Value} {base : Heap}
/-- a callee's promise and its name -/
structure Has (P : Program) (w : World) (K : PySem.W.Frag) (mg : Str → Option Value) (base : Heap) (k : Nat) (x : Str) (ps : List Str) (sp : Sp) (f : Addr) (fd : FuncData) : Prop where
  o : FnOk P w K mg base CX0 k f fd ps sp
  g : mg x = some (.ref f)
  k : PySem.W.keepIn K (.ref f) = true
  b : Binds K fd ps []
def spLaw (K : PySem.W.Frag) : Sp := fun vs H Q _ => ∃ (a : Addr) (ns : List Int), vs = [.ref a] ∧ SqL K H a (ns.map V.int) ∧ ns.length ≤ 63 ∧ ∀ H', Q (.bl true) H'
open Classical in
theorem ok_law {f fD fP fS f1 f2 f3 f4 f5 f6 f7 f8 f9 f10 f11 : Addr} {fd dD dP dS d1 d2 d3 d4 d5 d6 d7 d8 d9 d10 d11 : FuncData} (F : Fun K "law" "law" sLaw f fd) (B : Glb mg) (T : Draws P w K mg base fD fP fS dD dP dS)
    (CN : Has P w K mg base 1 "_law_pen" ["script"] (spPen K) f1 d1) (CW : Has P w K mg base 3 "_law_wagons" ["pen", "many"] (spWag K) f2 d2) (CR : Has P w K mg base 3 "_law_row" ["pen", "wagons"] (spRow K) f3 d3) (CO : Has P w K mg base 3 "_law_odd" ["pen"] (spOdd K) f4 d4)
    (CC : Has P w K mg base 10 "_law_changed" ["pen", "value"] (spChgs K) f5 d5) (LN : Has P w K mg base 1 "_law_is_name" ["value"] (spIsName K) f6 d6) (LP : Has P w K mg base 2 "_law_is_pair" ["value", "numbers"] (spLPair K) f7 d7) (LR : Has P w K mg base 3 "_law_is_row" ["value"] (spIsRow K) f8 d8)
    (PN : Has P w K mg base 1 "is_name" ["value"] (spIsName K) f9 d9) (PE : Has P w K mg base 3 "is_end" ["value"] (spKind K (withD [0, 1])) f10 d10) (PR : Has P w K mg base 4 "is_row" ["value"] (spIsRow K) f11 d11) : FnG P w K mg base CX0 11 f fd ["script"] (spLaw K) := by
  refine okG F scLaw (fun vs H Q E h => ?_) (fun cdv A outer s H vs Q E st hr h => ?_)
  · obtain ⟨a, ns, rfl, _⟩ := h
    rfl
  · obtain ⟨a, ns, rfl, hS, hl, q⟩ := h
    have hr1 := hr.mono (show 1 ≤ 10 by decide)
    have hr2 := hr.mono (show 2 ≤ 10 by decide)
    have hr3 := hr.mono (show 3 ≤ 10 by decide)
    have hr4 := hr.mono (show 4 ≤ 10 by decide)
    have sg : Still (A.deeper (envOfC "law" (defScope sLaw) s.heap.objs.size f cdv)) := st
    refine ⟨_, pss_cons (ps_set (i := 1) scLaw.nd rfl (.inl rfl) (pe_call CN.o hr1 (by rfl) CN.g CN.k CN.b .nil pass0 (pa_cons (pv 0) pa_nil)))
      (pss_cons (ps_for PassesOwn.never rfl (pi_range1 (by rfl) B.range (pa_cons pe_int pa_nil)) (pg_name (i := 2) scLaw.nd rfl (.inl rfl))
        (pss_cons (ps_set (i := 3) scLaw.nd rfl (.inl rfl) (pe_call CW.o hr3 (by rfl) CW.g CW.k CW.b .nil pass0 (pa_cons (pv 1) (pa_cons (pe_call T.oP hr2 (by rfl) T.gP T.kP T.bP .nil pass0 (pa_cons (pv 1)
          (pa_cons (pe_lst (pa_cons pe_int (pa_cons pe_int (pa_cons pe_int (pa_cons pe_int (pa_cons pe_int (pa_cons pe_int pa_nil))))))) pa_nil))) pa_nil))))
        (pss_cons (ps_set (i := 4) scLaw.nd rfl (.inl rfl) (pe_lst (pa_cons (pe_ix ix_list (pv 3) pe_int (fun _ _ => rfl)) (pa_cons (pe_tup (pa_cons (pe_ix ix_list (pv 3) pe_int (fun _ _ => rfl))
            (pa_cons (pe_call T.oD hr1 (by rfl) T.gD T.kD T.bD .nil pass0 (pa_cons (pv 1) (pa_cons pe_int pa_nil))) pa_nil)))
          (pa_cons (pe_call CR.o hr3 (by rfl) CR.g CR.k CR.b .nil pass0 (pa_cons (pv 1) (pa_cons (pv 3) pa_nil))) (pa_cons (pe_call CR.o hr3 (by rfl) CR.g CR.k CR.b .nil pass0 (pa_cons (pv 1) (pa_cons (pe_slice sl_list (pv 3) po_none (po_some pe_int)) pa_nil))) pa_nil))))))
        (pss_cons (ps_expr (pe_bm PySem.F.plainAttrs_list PySem.F.slot_list_append PySem.F.type_list_append mt_append (pv 4) (pa_cons (pe_call CO.o hr3 (by rfl) CO.g CO.k CO.b .nil pass0 (pa_cons (pv 1) pa_nil)) pa_nil)))
        (pss_cons (ps_for PassesOwn.never rfl (pi_range1 (by rfl) B.range (pa_cons pe_int pa_nil)) (pg_name (i := 5) scLaw.nd rfl (.inl rfl))
          (pss_one (ps_expr (pe_bm PySem.F.plainAttrs_list PySem.F.slot_list_append PySem.F.type_list_append mt_append (pv 4) (pa_cons
            (pe_call CC.o hr (by rfl) CC.g CC.k CC.b .nil pass0 (pa_cons (pv 1) (pa_cons (pe_call T.oP hr2 (by rfl) T.gP T.kP T.bP .nil pass0 (pa_cons (pv 1) (pa_cons (pv 4) pa_nil))) pa_nil))) pa_nil)))))
        (pss_one (ps_for PassesOwn.never rfl (pi_list (pv 4)) (pg_name (i := 6) scLaw.nd rfl (.inl rfl))
          (pss_cons (ps_set (i := 7) scLaw.nd rfl (.inl rfl) (pe_callB (call_reprA sg hr.units) (by rfl) B.repr boot_repr (pa_cons (pv 6) pa_nil)))
          (pss_cons (ps_set (i := 8) scLaw.nd rfl (.inl rfl) (pe_lstN (pa_cons (pe_call LN.o hr1 (by rfl) LN.g LN.k LN.b .nil pass0 (pa_cons (pv 6) pa_nil))
            (pa_cons (pe_call LP.o hr2 (by rfl) LP.g LP.k LP.b .nil pass0 (pa_cons (pv 6) (pa_cons (pe_lst (pa_cons pe_int (pa_cons pe_int pa_nil))) pa_nil))) (pa_cons (pe_call LR.o hr3 (by rfl) LR.g LR.k LR.b .nil pass0 (pa_cons (pv 6) pa_nil)) pa_nil)))))
          (pss_one (ps_if (PW.pt (pw_or (pt_cmpR op_ne (pe_callB (call_reprA sg hr.units) (by rfl) B.repr boot_repr (pa_cons (pe_lstN (pa_cons (pe_call PN.o hr1 (by rfl) PN.g PN.k PN.b .nil pass0 (pa_cons (pv 6) pa_nil))
              (pa_cons (pe_call PE.o hr3 (by rfl) PE.g PE.k PE.b .nil pass0 (pa_cons (pv 6) pa_nil)) (pa_cons (pe_call PR.o hr4 (by rfl) PR.g PR.k PR.b .nil pass0 (pa_cons (pv 6) pa_nil)) pa_nil)))) pa_nil))
              (pe_callB (call_reprA sg hr.units) (by rfl) B.repr boot_repr (pa_cons (pv 8) pa_nil)) (nomark _))
            (pw_or1 (pt_cmpR op_ne (pe_callB (call_reprA sg hr.units) (by rfl) B.repr boot_repr (pa_cons (pv 6) pa_nil)) (pv 7) (nomark _))))) (pss_one (ps_ret pe_bl)) pss_nil)))))))))))
      (pss_one (ps_ret pe_bl))), ?_⟩
    refine ⟨_, rfl, a, ns, rfl, hS, hl, fun p c H0 hp0 s0 G0 => ?_⟩
    refine ⟨10, rfl, by omega, by omega, ?_⟩
    refine for_range (lo := 0) (n := (10 : Int).toNat) (fun i σ H' => ∃ y2 y3 y4 y5 y6 y7 y8, σ = [some (.ref a), some (.ref p), y2, y3, y4, y5, y6, y7, y8] ∧ PenAt H' p c (300 * i)) ⟨_, _, _, _, _, _, _, rfl, G0⟩ (fun i σ H hi hp => ?_) (fun σ H hp => ?_)
    · obtain ⟨y2, y3, y4, y5, y6, y7, y8, rfl, G⟩ := hp
      have hi10 : i < 10 := by omega
      -- wagons
      refine ⟨_, rfl, _, rfl, by show 6 ≤ sizeLine; decide, fun o1 ho1 => ?_⟩
      have so := same_new (o := HO.lst [.int 1, .int 2, .int 3, .int 5, .int 30, .int 31]) ho1
      refine ⟨p, c, _, .ref o1, [.int 1, .int 2, .int 3, .int 5, .int 30, .int 31], rfl, G.same so, by omega, .lst (.inl (.inl upd_same)), by decide, by decide, fun j v H1 hv s1 G1 => ?_⟩
      obtain ⟨many, rfl, m1, m31⟩ := many_item hv
      refine ⟨p, c, _, many, rfl, G1, by omega, by omega, fun l names H2 nm ln hl0 el s2 G2 => ?_⟩
      obtain ⟨x0, xr, rfl⟩ : ∃ x0 xr, names = x0 :: xr := by
        cases names with
        | nil => rw [List.length_nil] at ln; omega
        | cons x r => exact ⟨x, r, rfl⟩
      have ok0 := nm.ok x0 List.mem_cons_self
      -- values
      have SL2 : SqL K H2 l ((x0 :: xr).map V.str) := .inl (.inl el)
      have a0 : atI ((x0 :: xr).map V.str) 0 = some (.str x0) := atI_nat (j := 0) rfl
      refine ⟨_, rfl, l, _, 0, _, rfl, rfl, SL2, a0, _, rfl, l, _, 0, _, rfl, rfl, SL2, a0, ?_⟩
      refine ⟨_, rfl, p, c, _, 2, rfl, G2, by omega, by decide, by decide, fun d0 H3 d00 d02 s3 G3 => ?_⟩
      refine ⟨by show 2 ≤ sizeLine; decide, fun b1 hb1 => ?_⟩
      have s4 := same_new (o := HO.tup [.str x0, .int d0]) hb1
      have D1 : Da K p (upd H3 b1 (.tup [.str x0, .int d0])) (.ref b1) (.tuple [.str x0, .int d0]) := .tup (.inl (.inl upd_same)) (.cons (.str _) (.cons (.int _) .nil))
      have SL4 := s4.seq (s3.sqL G2 SL2)
      have G4 := G3.same s4
      generalize upd H3 b1 (.tup [.str x0, .int d0]) = H4 at s4 D1 SL4 G4
      refine ⟨_, rfl, _, rfl, p, c, l, _, x0 :: xr, rfl, G4, by omega, SL4, by omega, fun a1 r1 H5 e1 dr1 hn1 R1 s5 G5 => ?_⟩
      have SL5 := s5.sqL G4 SL4
      replace D1 := da_keep (s5.keepA G4) D1
      refine ⟨_, rfl, _, rfl, _, rfl, l, _, rfl, SL5, fun b2 hb2 => ?_⟩
      have e3 : cutV ((x0 :: xr).map V.str) none (some 3) = ((x0 :: xr).take 3).map V.str := by
        rw [show (some (3 : Int)) = some ((3 : Nat) : Int) from rfl, cutV_to, List.map_take]
      rw [e3]
      have s6 := same_new (o := HO.lst (((x0 :: xr).take 3).map V.str)) hb2
      replace D1 := da_keep s6.keepA D1
      have R1' := da_keep (p := p) s6.keepA (dt_da R1)
      have G6 := G5.same s6
      have SL6 : SqL K (upd H5 b2 (.lst (((x0 :: xr).take 3).map V.str))) b2 (((x0 :: xr).take 3).map V.str) := .inl (.inl upd_same)
      generalize upd H5 b2 (.lst (((x0 :: xr).take 3).map V.str)) = H6 at s6 D1 R1' G6 SL6
      refine ⟨p, c, b2, _, (x0 :: xr).take 3, rfl, G6, by omega, SL6, by rw [List.length_take]; omega, fun a2 r2 H7 e2 dr2 hn2 R2 s7 G7 => ?_⟩
      replace D1 := da_keep (s7.keepA G6) D1
      replace R1' := da_keep (s7.keepA G6) R1'
      have R2' : Da K p H7 (.ref a2) (rowD r2) := dt_da R2
      have l1 : r1.length = many := by
        have := congrArg List.length e1
        rw [List.length_map, ln] at this
        exact this
      have l2 : r2.length ≤ 3 := by
        have := congrArg List.length e2
        rw [List.length_map, List.length_take] at this
        omega
      have lims4 : ∀ d ∈ [.str x0, .tuple [.str x0, .int d0], rowD r1, rowD r2], Lim 25 600 2 d := fun d hd => by
        simp only [List.mem_cons, List.not_mem_nil, or_false] at hd
        rcases hd with rfl | rfl | rfl | rfl
        · exact name_lim ok0
        · exact (pair_lim ok0 (by omega)).mono (Nat.le_refl _) (Nat.le_refl _) (by decide)
        · exact row_lim (row_okk e1 nm.ok dr1) (by omega)
        · exact row_lim (row_okk e2 (fun x hx => nm.ok x (List.mem_of_mem_take hx)) dr2) (by omega)
      have G7' : PenAt H7 p c (300 * i + 130) := G7.mono (by rw [List.length_take]; omega)
      refine ⟨by show 4 ≤ sizeLine; decide, fun vl hvl => ?_⟩
      have s8 := same_new (o := HO.lst [.str x0, .ref b1, .ref a1, .ref a2]) hvl
      have born := hide_born (x := HO.lst [.str x0, .ref b1, .ref a1, .ref a2]) hvl
      have DA8 : DaAll K p (hide vl (upd H7 vl (.lst [.str x0, .ref b1, .ref a1, .ref a2]))) [.str x0, .ref b1, .ref a1, .ref a2] [.str x0, .tuple [.str x0, .int d0], rowD r1, rowD r2] :=
        da_keepAll born.keepA (.cons (.str _) (.cons D1 (.cons R1' (.cons R2' .nil))))
      have cvl : c ≠ vl := G7.apart hvl
      have pvl : p ≠ vl := G7.apart' hvl
      have G8 := G7'.same s8
      have v8 : (upd H7 vl (.lst [.str x0, .ref b1, .ref a1, .ref a2])) vl = some (.lst [.str x0, .ref b1, .ref a1, .ref a2]) := upd_same
      generalize upd H7 vl (.lst [.str x0, .ref b1, .ref a1, .ref a2]) = H8 at s8 DA8 G8 v8
      -- odd
      refine ⟨_, rfl, .inl ⟨rfl, _, .inl (.inl v8)⟩, _, rfl, p, c, vl, _, _, rfl, G8, by omega, v8, cvl, fun vo do_ H9 Do lo s9 G9 => ?_⟩
      have DA9 := da_keepAll (keep_hid s9 G8 pvl cvl) DA8
      have v9 := s9.lst G8 v8
      refine ⟨vl, _, _, rfl, rfl, v9, Evl.sz_lt (by show 4 < _; decide), ?_⟩
      -- three changes
      refine ⟨3, rfl, by omega, by omega, ?_⟩
      refine for_range (lo := 0) (n := (3 : Int).toNat) (fun j σ H' => ∃ y5 vs ds, σ = [some (.ref a), some (.ref p), some (.int (0 + (i : Int))), some (.ref l), some (.ref vl), y5, y6, y7, y8] ∧ H' vl = some (.lst vs) ∧ DaAll K p (hide vl H') vs ds ∧ vs.length = 5 + j ∧
        (∀ d ∈ ds, Lim (25 * 2 ^ j) (wOf j) (2 + 2 * j) d) ∧ PenAt H' p c (300 * i + 131 + 30 * j)) ⟨_, _, _, rfl, upd_same, by rw [hide_upd]; exact DA9.append (.cons Do .nil), rfl, ?_, (G9.upd pvl cvl).mono (by omega)⟩ (fun j σ H hj hp => ?_) (fun σ H hp => ?_)
      · intro d hd
        rcases List.mem_append.mp hd with hd | hd
        · exact lims4 d hd
        · rw [List.mem_singleton.mp hd]
          exact lo.mono (by decide) (by decide) (by decide)
      · obtain ⟨y5, vs, ds, rfl, ev, da, lv, lm, GA⟩ := hp
        have hj3 : j < 3 := by omega
        have hb : 25 ≤ 25 * 2 ^ j ∧ 25 * 2 ^ j ≤ 200 ∧ wOf j ≤ 40000 := by
          have : j = 0 ∨ j = 1 ∨ j = 2 := by omega
          rcases this with rfl | rfl | rfl <;> decide
        refine ⟨_, rfl, .inl ⟨rfl, _, .inl (.inl ev)⟩, _, rfl, _, rfl, _, rfl, ?_⟩
        refine pick_da (E := E) (L := vl) GA (by omega) pvl cvl ev da (by omega) (by omega) lm fun v d HA DA1 l1' sA1 GA1 => ?_
        have evA := sA1.lst GA ev
        refine ⟨2 + 2 * j, by omega, p, c, vl, _, _, _, vs, v, d, rfl, GA1, by omega, evA, cvl, DA1, l1', hb.1, hb.2.1, hb.2.2, fun v' d' HB DB lB sB GB => ?_⟩
        refine ⟨vl, vs, _, rfl, rfl, sB.lst GA1 evA, Evl.sz_lt (by omega), _, _, ds ++ [d'], rfl, upd_same, ?_, by rw [List.length_append, lv]; rfl, ?_, (GB.upd pvl cvl).mono (by omega)⟩
        · rw [hide_upd]
          exact (da_keepAll (keep_hid (sA1.trans sB) GA pvl cvl) da).append (.cons DB .nil)
        · intro d2 hd2
          rcases List.mem_append.mp hd2 with hd2 | hd2
          · exact (lm d2 hd2).mono (by rw [Nat.pow_succ]; omega) (by show _ ≤ 3 * wOf j + 1000; omega) (by omega)
          · rw [List.mem_singleton.mp hd2]
            exact lB.mono (by rw [Nat.pow_succ]; omega) (Nat.le_refl _) (by omega)
      · obtain ⟨y5, vs, ds, rfl, ev, da, lv, lm, GA⟩ := hp
        replace da := da_keepAll unhide.keepA da
        replace lm : ∀ d ∈ ds, Lim 200 29200 8 d := fun d hd => (lm d hd).mono (by decide) (by decide) (by decide)
        refine ⟨_, rfl, vl, rfl, ⟨_, .inl (.inl ev)⟩, ?_⟩
        refine for_list (K := K) (a := vl) (xs := vs) (fun k σ H' => ∃ y6 y7 y8, σ = [some (.ref a), some (.ref p), some (.int (0 + (i : Int))), some (.ref l), some (.ref vl), y5, y6, y7, y8] ∧ Same H H') ⟨_, _, _, rfl, .refl _⟩ (fun k σ H' _ hp => ?_) (fun k x σ H' hx hp => ?_) (fun σ H' hp => ?_)
        · obtain ⟨_, _, _, _, sm⟩ := hp
          exact .inl (.inl (sm _ _ ev))
        · obtain ⟨y6, y7, y8, rfl, sm⟩ := hp
          obtain ⟨d, hd, Dx⟩ := da.at hx
          have ld := lm d (List.mem_of_getElem? hd)
          have hd60 : d.depth ≤ 60 := Nat.le_trans ld.dp (by decide)
          have hsh := ld.shows (by decide)
          have hz := ld.short (by decide) (by decide)
          have f1 := ld.fit1 (by decide) (by decide)
          have f2 := ld.fit2 (by decide) (by decide)
          have fs : ∀ x, d = .str x → x.length ≤ 100000 := fun x e => by
            have := ld.fit (by decide) (by decide)
            rw [e] at this
            exact this
          have kp : ∀ {H2 : Hp}, Same H' H2 → Da K p H2 x d := fun s2 => da_keep (sm.trans s2).keepA Dx
          refine ⟨_, rfl, p, x, d, rfl, kp (.refl _), hsh, hd60, hz, ?_⟩
          refine ⟨_, rfl, p, x, d, rfl, kp (.refl _), fs, fun Ha sa => ?_⟩
          refine ⟨_, rfl, by show 2 ≤ sizeLine; decide, fun b1 hb1 => ?_⟩
          have sb := sa.trans (same_new (o := HO.lst [.int 0, .int 1]) hb1)
          refine ⟨p, b1, x, d, [0, 1], rfl, kp sb, f1, .inl (.inl upd_same), fun Hc sc => ?_⟩
          have sac := sb.trans sc
          refine ⟨_, rfl, p, x, d, rfl, kp sac, f2, fun Hd sd => ?_⟩
          have sad := sac.trans sd
          generalize e1' : nmD d = c1
          generalize e2' : withD [0, 1] d = c2
          generalize e3' : isRowD d = c3
          refine ⟨by show 3 ≤ sizeLine; decide, fun du hdu ndu => ?_⟩
          have se := same_new (o := HO.lst [.bl c1, .bl c2, .bl c3]) hdu
          have edu : (upd Hd du (.lst [.bl c1, .bl c2, .bl c3])) du = some (.lst [.bl c1, .bl c2, .bl c3]) := upd_same
          generalize upd Hd du (.lst [.bl c1, .bl c2, .bl c3]) = He at se edu
          have sae := sad.trans se
          have bsh : (PyData.list [.bool c1, .bool c2, .bool c3]).showable = true := rfl
          have bdp : (PyData.list [.bool c1, .bool c2, .bool c3]).depth ≤ 60 := by show 1 ≤ 60; decide
          have bsz := bools_short c1 c2 c3
          generalize hs1 : (PyData.list [.bool c1, .bool c2, .bool c3]).shown = sh1 at bsz
          refine ⟨_, rfl, p, x, d, rfl, kp sae, fs, fun Hf sf => ?_⟩
          have saf := sae.trans sf
          refine ⟨_, rfl, p, x, d, rfl, kp saf, f1, fun Hg sg' => ?_⟩
          have sag := saf.trans sg'
          refine ⟨_, rfl, p, x, d, rfl, kp sag, f2, fun Hh sh => ?_⟩
          have sah := sag.trans sh
          rw [e1', e2', e3']
          refine ⟨by show 3 ≤ sizeLine; decide, fun b2 hb2 nb2 => ?_⟩
          have si := same_new (o := HO.lst [.bl c1, .bl c2, .bl c3]) hb2
          have eb2 : (upd Hh b2 (.lst [.bl c1, .bl c2, .bl c3])) b2 = some (.lst [.bl c1, .bl c2, .bl c3]) := upd_same
          generalize upd Hh b2 (.lst [.bl c1, .bl c2, .bl c3]) = Hi at si eb2
          have sai := sah.trans si
          have edu' := si _ _ (sh _ _ (sg' _ _ (sf _ _ edu)))
          have three : DaAll K p Hi [.bl c1, .bl c2, .bl c3] [.bool c1, .bool c2, .bool c3] := .cons (.bl _) (.cons (.bl _) (.cons (.bl _) .nil))
          refine ⟨p, .ref b2, .list [.bool c1, .bool c2, .bool c3], rfl, .lst nb2 (.inl (.inl eb2)) three, bsh, bdp, by rw [hs1]; exact bsz, ?_⟩
          refine ⟨_, rfl, p, .ref du, .list [.bool c1, .bool c2, .bool c3], rfl, .lst ndu (.inl (.inl edu')) three, bsh, bdp, by rw [hs1]; exact bsz, ?_⟩
          refine ⟨rfl, _, rfl, ?_⟩
          rw [decide_eq_true rfl]
          refine iteF ⟨_, rfl, p, x, d, rfl, kp sai, hsh, hd60, hz, _, rfl, rfl, _, rfl, ?_⟩
          rw [decide_eq_true rfl]
          exact iteF ⟨_, _, _, rfl, sm.trans sai⟩
        · obtain ⟨y6, y7, y8, rfl, sm⟩ := hp
          exact ⟨_, _, _, _, _, _, _, rfl, (GA.same sm).mono (by omega)⟩
    · exact q H
end
end My
set_option Elab.async false
set_option linter.all false
set_option maxRecDepth 100000
set_option maxHeartbeats 4000000
namespace My
open PySem PySem.Spec PyProof.Rows L2
/-! ### what the top has written -/
theorem all_mk {l : PySem.W.OpenLaw} {w : World} {K : PySem.W.Frag} {h : Heap} {mg : Str → Option Value} {fa f1 f2 f3 f4 f5 f6 f7 f8 f9 f10 f11 f12 f13 f14 f15 f16 f17 f18 : Addr} {t1 t2 t3 : Tok} (X : K.In h) (G : h.Ns mainGlobals mg) (hfa : mg "law" = some (.ref fa))
    {od1 an1 od2 an2 od3 an3 od4 an4 od5 an5 od6 an6 od7 an7 od8 an8 od9 an9 od10 an10 od11 an11 od12 an12 od13 an13 od14 an14 od15 an15 od16 an16 od17 an17 od18 an18 : Option Addr} {sl1 sl2 sl3 sl4 sl5 sl6 sl7 sl8 sl9 sl10 sl11 sl12 sl13 sl14 sl15 sl16 sl17 sl18 : Array (Option Value)} {oc1 kV1 dc1 pm1 cd1 ct1 oc2 kV2 dc2 pm2 cd2 ct2 oc3 kV3 dc3 pm3 cd3 ct3 oc4 kV4 dc4 pm4 cd4 ct4 oc5 kV5 dc5 pm5 cd5 ct5 oc6 kV6 dc6 pm6 cd6 ct6 oc7 kV7 dc7 pm7 cd7 ct7 oc8 kV8 dc8 pm8 cd8 ct8 oc9 kV9 dc9 pm9 cd9 ct9 oc10 kV10 dc10 pm10 cd10 ct10 oc11 kV11 dc11 pm11 cd11 ct11 oc12 kV12 dc12 pm12 cd12 ct12 oc13 kV13 dc13 pm13 cd13 ct13 oc14 kV14 dc14 pm14 cd14 ct14 oc15 kV15 dc15 pm15 cd15 ct15 oc16 kV16 dc16 pm16 cd16 ct16 oc17 kV17 dc17 pm17 cd17 ct17 oc18 kV18 dc18 pm18 cd18 ct18 : Value}
    (a1 : PySem.W.nsIn K mainGlobals "is_integer" = some (some (.ref f1))) (l1 : K.lookup f1 = some ⟨oc1, od1, .func (PySem.W.fnOf "is_integer" "is_integer" (defArgs sIsInt) (defBody sIsInt) (defScope sIsInt) .none kV1 dc1 pm1 an1 cd1 ct1), sl1⟩) (c1 : PySem.W.codeIn K cd1 "is_integer" = true) (k1 : PySem.W.keepIn K (.ref f1) = true)
    (a2 : PySem.W.nsIn K mainGlobals "is_name" = some (some (.ref f2))) (l2 : K.lookup f2 = some ⟨oc2, od2, .func (PySem.W.fnOf "is_name" "is_name" (defArgs sIsName) (defBody sIsName) (defScope sIsName) .none kV2 dc2 pm2 an2 cd2 ct2), sl2⟩) (c2 : PySem.W.codeIn K cd2 "is_name" = true) (k2 : PySem.W.keepIn K (.ref f2) = true)
    (a3 : PySem.W.nsIn K mainGlobals "is_name_with" = some (some (.ref f3))) (l3 : K.lookup f3 = some ⟨oc3, od3, .func (PySem.W.fnOf "is_name_with" "is_name_with" (defArgs sIsWith) (defBody sIsWith) (defScope sIsWith) .none kV3 dc3 pm3 an3 cd3 ct3), sl3⟩) (c3 : PySem.W.codeIn K cd3 "is_name_with" = true) (k3 : PySem.W.keepIn K (.ref f3) = true)
    (a4 : PySem.W.nsIn K mainGlobals "is_end" = some (some (.ref f4))) (l4 : K.lookup f4 = some ⟨oc4, od4, .func (PySem.W.fnOf "is_end" "is_end" (defArgs sIsEnd) (defBody sIsEnd) (defScope sIsEnd) .none kV4 dc4 pm4 an4 cd4 ct4), sl4⟩) (c4 : PySem.W.codeIn K cd4 "is_end" = true) (k4 : PySem.W.keepIn K (.ref f4) = true)
    (a5 : PySem.W.nsIn K mainGlobals "is_directed" = some (some (.ref f5))) (l5 : K.lookup f5 = some ⟨oc5, od5, .func (PySem.W.fnOf "is_directed" "is_directed" (defArgs sIsDir) (defBody sIsDir) (defScope sIsDir) .none kV5 dc5 pm5 an5 cd5 ct5), sl5⟩) (c5 : PySem.W.codeIn K cd5 "is_directed" = true) (k5 : PySem.W.keepIn K (.ref f5) = true)
    (a6 : PySem.W.nsIn K mainGlobals "is_row" = some (some (.ref f6))) (l6 : K.lookup f6 = some ⟨oc6, od6, .func (PySem.W.fnOf "is_row" "is_row" (defArgs sIsRow) (defBody sIsRow) (defScope sIsRow) .none kV6 dc6 pm6 an6 cd6 ct6), sl6⟩) (c6 : PySem.W.codeIn K cd6 "is_row" = true) (k6 : PySem.W.keepIn K (.ref f6) = true)
    (a7 : PySem.W.nsIn K mainGlobals "_law_pen" = some (some (.ref f7))) (l7 : K.lookup f7 = some ⟨oc7, od7, .func (PySem.W.fnOf "_law_pen" "_law_pen" (defArgs sPen) (defBody sPen) (defScope sPen) .none kV7 dc7 pm7 an7 cd7 ct7), sl7⟩) (c7 : PySem.W.codeIn K cd7 "_law_pen" = true) (k7 : PySem.W.keepIn K (.ref f7) = true)
    (a8 : PySem.W.nsIn K mainGlobals "_law_draw" = some (some (.ref f8))) (l8 : K.lookup f8 = some ⟨oc8, od8, .func (PySem.W.fnOf "_law_draw" "_law_draw" (defArgs sDraw) (defBody sDraw) (defScope sDraw) .none kV8 dc8 pm8 an8 cd8 ct8), sl8⟩) (c8 : PySem.W.codeIn K cd8 "_law_draw" = true) (k8 : PySem.W.keepIn K (.ref f8) = true)
    (a9 : PySem.W.nsIn K mainGlobals "_law_pick" = some (some (.ref f9))) (l9 : K.lookup f9 = some ⟨oc9, od9, .func (PySem.W.fnOf "_law_pick" "_law_pick" (defArgs sPick) (defBody sPick) (defScope sPick) .none kV9 dc9 pm9 an9 cd9 ct9), sl9⟩) (c9 : PySem.W.codeIn K cd9 "_law_pick" = true) (k9 : PySem.W.keepIn K (.ref f9) = true)
    (a10 : PySem.W.nsIn K mainGlobals "_law_shuffled" = some (some (.ref f10))) (l10 : K.lookup f10 = some ⟨oc10, od10, .func (PySem.W.fnOf "_law_shuffled" "_law_shuffled" (defArgs sShuf) (defBody sShuf) (defScope sShuf) .none kV10 dc10 pm10 an10 cd10 ct10), sl10⟩) (c10 : PySem.W.codeIn K cd10 "_law_shuffled" = true) (k10 : PySem.W.keepIn K (.ref f10) = true)
    (a11 : PySem.W.nsIn K mainGlobals "_law_wagons" = some (some (.ref f11))) (l11 : K.lookup f11 = some ⟨oc11, od11, .func (PySem.W.fnOf "_law_wagons" "_law_wagons" (defArgs sWag) (defBody sWag) (defScope sWag) .none kV11 dc11 pm11 an11 cd11 ct11), sl11⟩) (c11 : PySem.W.codeIn K cd11 "_law_wagons" = true) (k11 : PySem.W.keepIn K (.ref f11) = true)
    (a12 : PySem.W.nsIn K mainGlobals "_law_row" = some (some (.ref f12))) (l12 : K.lookup f12 = some ⟨oc12, od12, .func (PySem.W.fnOf "_law_row" "_law_row" (defArgs sRow) (defBody sRow) (defScope sRow) .none kV12 dc12 pm12 an12 cd12 ct12), sl12⟩) (c12 : PySem.W.codeIn K cd12 "_law_row" = true) (k12 : PySem.W.keepIn K (.ref f12) = true)
    (a13 : PySem.W.nsIn K mainGlobals "_law_is_name" = some (some (.ref f13))) (l13 : K.lookup f13 = some ⟨oc13, od13, .func (PySem.W.fnOf "_law_is_name" "_law_is_name" (defArgs sLName) (defBody sLName) (defScope sLName) .none kV13 dc13 pm13 an13 cd13 ct13), sl13⟩) (c13 : PySem.W.codeIn K cd13 "_law_is_name" = true) (k13 : PySem.W.keepIn K (.ref f13) = true)
    (a14 : PySem.W.nsIn K mainGlobals "_law_is_pair" = some (some (.ref f14))) (l14 : K.lookup f14 = some ⟨oc14, od14, .func (PySem.W.fnOf "_law_is_pair" "_law_is_pair" (defArgs sLPair) (defBody sLPair) (defScope sLPair) .none kV14 dc14 pm14 an14 cd14 ct14), sl14⟩) (c14 : PySem.W.codeIn K cd14 "_law_is_pair" = true) (k14 : PySem.W.keepIn K (.ref f14) = true)
    (a15 : PySem.W.nsIn K mainGlobals "_law_is_row" = some (some (.ref f15))) (l15 : K.lookup f15 = some ⟨oc15, od15, .func (PySem.W.fnOf "_law_is_row" "_law_is_row" (defArgs sLRow) (defBody sLRow) (defScope sLRow) .none kV15 dc15 pm15 an15 cd15 ct15), sl15⟩) (c15 : PySem.W.codeIn K cd15 "_law_is_row" = true) (k15 : PySem.W.keepIn K (.ref f15) = true)
    (a16 : PySem.W.nsIn K mainGlobals "_law_odd" = some (some (.ref f16))) (l16 : K.lookup f16 = some ⟨oc16, od16, .func (PySem.W.fnOf "_law_odd" "_law_odd" (defArgs sOdd) (defBody sOdd) (defScope sOdd) .none kV16 dc16 pm16 an16 cd16 ct16), sl16⟩) (c16 : PySem.W.codeIn K cd16 "_law_odd" = true) (k16 : PySem.W.keepIn K (.ref f16) = true)
    (a17 : PySem.W.nsIn K mainGlobals "_law_changed" = some (some (.ref f17))) (l17 : K.lookup f17 = some ⟨oc17, od17, .func (PySem.W.fnOf "_law_changed" "_law_changed" (defArgs sChg) (defBody sChg) (defScope sChg) .none kV17 dc17 pm17 an17 cd17 ct17), sl17⟩) (c17 : PySem.W.codeIn K cd17 "_law_changed" = true) (k17 : PySem.W.keepIn K (.ref f17) = true)
    (a18 : PySem.W.nsIn K mainGlobals "law" = some (some (.ref f18))) (l18 : K.lookup f18 = some ⟨oc18, od18, .func (PySem.W.fnOf "law" "law" (defArgs sLaw) (defBody sLaw) (defScope sLaw) .none kV18 dc18 pm18 an18 cd18 ct18), sl18⟩) (c18 : PySem.W.codeIn K cd18 "law" = true) (k18 : PySem.W.keepIn K (.ref f18) = true)
    (zisi : PySem.W.nsIn K mainGlobals "isinstance" = some none)
    (zint : PySem.W.nsIn K mainGlobals "int" = some none)
    (zbool : PySem.W.nsIn K mainGlobals "bool" = some none)
    (zstr : PySem.W.nsIn K mainGlobals "str" = some none)
    (ztuple : PySem.W.nsIn K mainGlobals "tuple" = some none)
    (zlist : PySem.W.nsIn K mainGlobals "list" = some none)
    (zlen : PySem.W.nsIn K mainGlobals "len" = some none)
    (zall : PySem.W.nsIn K mainGlobals "all" = some none)
    (zset : PySem.W.nsIn K mainGlobals "set" = some none)
    (zrange : PySem.W.nsIn K mainGlobals "range" = some none)
    (zabs : PySem.W.nsIn K mainGlobals "abs" = some none)
    (zrepr : PySem.W.nsIn K mainGlobals "repr" = some none)
    (g1 : PySem.W.nsIn K mainGlobals "NAME_LENGTH" = some (some (.int 8 t1))) (g2 : PySem.W.nsIn K mainGlobals "LETTERS" = some (some (.str "abcdefghijklmnopqrstuvwxyz" t2))) (g3 : PySem.W.nsIn K mainGlobals "MOST_WAGONS" = some (some (.int 30 t3))) :
    ∃ fd : FuncData, (∀ (s : Shared) (v : Value), BindsTo s fd ⟨[v], []⟩ [("script", v)]) ∧ ∀ base : Heap, K.In base → base.Ns mainGlobals mg → FnG l.prog w K mg base CX0 11 fa fd ["script"] (spLaw K) := by
  have e := hfa.symm.trans (PySem.W.mg_of X G a18)
  cases e
  have F1 := fun_mk (st := sIsInt) l1 c1 k1
  have F2 := fun_mk (st := sIsName) l2 c2 k2
  have F3 := fun_mk (st := sIsWith) l3 c3 k3
  have F4 := fun_mk (st := sIsEnd) l4 c4 k4
  have F5 := fun_mk (st := sIsDir) l5 c5 k5
  have F6 := fun_mk (st := sIsRow) l6 c6 k6
  have F7 := fun_mk (st := sPen) l7 c7 k7
  have F8 := fun_mk (st := sDraw) l8 c8 k8
  have F9 := fun_mk (st := sPick) l9 c9 k9
  have F10 := fun_mk (st := sShuf) l10 c10 k10
  have F11 := fun_mk (st := sWag) l11 c11 k11
  have F12 := fun_mk (st := sRow) l12 c12 k12
  have F13 := fun_mk (st := sLName) l13 c13 k13
  have F14 := fun_mk (st := sLPair) l14 c14 k14
  have F15 := fun_mk (st := sLRow) l15 c15 k15
  have F16 := fun_mk (st := sOdd) l16 c16 k16
  have F17 := fun_mk (st := sChg) l17 c17 k17
  have F18 := fun_mk (st := sLaw) l18 c18 k18
  have b1 := F1.binds (ps := ["value"]) fun _ _ _ _ _ _ us hl => match us, hl with | [_], _ => rfl
  have b2 := F2.binds (ps := ["value"]) fun _ _ _ _ _ _ us hl => match us, hl with | [_], _ => rfl
  have b3 := F3.binds (ps := ["value", "numbers"]) fun _ _ _ _ _ _ us hl => match us, hl with | [_, _], _ => rfl
  have b4 := F4.binds (ps := ["value"]) fun _ _ _ _ _ _ us hl => match us, hl with | [_], _ => rfl
  have b5 := F5.binds (ps := ["value"]) fun _ _ _ _ _ _ us hl => match us, hl with | [_], _ => rfl
  have b6 := F6.binds (ps := ["value"]) fun _ _ _ _ _ _ us hl => match us, hl with | [_], _ => rfl
  have b7 := F7.binds (ps := ["script"]) fun _ _ _ _ _ _ us hl => match us, hl with | [_], _ => rfl
  have b8 := F8.binds (ps := ["pen", "size"]) fun _ _ _ _ _ _ us hl => match us, hl with | [_, _], _ => rfl
  have b9 := F9.binds (ps := ["pen", "options"]) fun _ _ _ _ _ _ us hl => match us, hl with | [_, _], _ => rfl
  have b10 := F10.binds (ps := ["pen", "some"]) fun _ _ _ _ _ _ us hl => match us, hl with | [_, _], _ => rfl
  have b11 := F11.binds (ps := ["pen", "many"]) fun _ _ _ _ _ _ us hl => match us, hl with | [_, _], _ => rfl
  have b12 := F12.binds (ps := ["pen", "wagons"]) fun _ _ _ _ _ _ us hl => match us, hl with | [_, _], _ => rfl
  have b13 := F13.binds (ps := ["value"]) fun _ _ _ _ _ _ us hl => match us, hl with | [_], _ => rfl
  have b14 := F14.binds (ps := ["value", "numbers"]) fun _ _ _ _ _ _ us hl => match us, hl with | [_, _], _ => rfl
  have b15 := F15.binds (ps := ["value"]) fun _ _ _ _ _ _ us hl => match us, hl with | [_], _ => rfl
  have b16 := F16.binds (ps := ["pen"]) fun _ _ _ _ _ _ us hl => match us, hl with | [_], _ => rfl
  have b17 := F17.binds (ps := ["pen", "value"]) fun _ _ _ _ _ _ us hl => match us, hl with | [_, _], _ => rfl
  have B : Glb mg := ⟨PySem.W.mg_none_of X G zisi, PySem.W.mg_none_of X G zint, PySem.W.mg_none_of X G zbool, PySem.W.mg_none_of X G zstr, PySem.W.mg_none_of X G ztuple, PySem.W.mg_none_of X G zlist, PySem.W.mg_none_of X G zlen, PySem.W.mg_none_of X G zall, PySem.W.mg_none_of X G zset, PySem.W.mg_none_of X G zrange, PySem.W.mg_none_of X G zabs, PySem.W.mg_none_of X G zrepr⟩
  have m1 := PySem.W.mg_of X G a1
  have m2 := PySem.W.mg_of X G a2
  have m3 := PySem.W.mg_of X G a3
  have m4 := PySem.W.mg_of X G a4
  have m5 := PySem.W.mg_of X G a5
  have m6 := PySem.W.mg_of X G a6
  have m7 := PySem.W.mg_of X G a7
  have m8 := PySem.W.mg_of X G a8
  have m9 := PySem.W.mg_of X G a9
  have m10 := PySem.W.mg_of X G a10
  have m11 := PySem.W.mg_of X G a11
  have m12 := PySem.W.mg_of X G a12
  have m13 := PySem.W.mg_of X G a13
  have m14 := PySem.W.mg_of X G a14
  have m15 := PySem.W.mg_of X G a15
  have m16 := PySem.W.mg_of X G a16
  have m17 := PySem.W.mg_of X G a17
  refine ⟨PySem.W.fnOf "law" "law" (defArgs sLaw) (defBody sLaw) (defScope sLaw) .none kV18 dc18 pm18 an18 cd18 ct18, fun s v => .of_eq rfl, fun base _ _ => ?_⟩
  have oInt := ok_isint (P := l.prog) (w := w) (base := base) F1 B
  have oName := ok_isname (P := l.prog) (w := w) (base := base) F2 B (PySem.W.mg_of X G g1) (PySem.W.mg_of X G g2)
  have oWith := ok_iswith F3 B oInt m1 k1 b1 oName m2 k2 b2
  have oEnd := ok_isend F4 oWith m3 k3 b3
  have oDir := ok_isdir F5 oWith m3 k3 b3
  have oRow := ok_isrow F6 B (PySem.W.mg_of X G g3) oDir m5 k5 b5
  have oLN := ok_lname (P := l.prog) (w := w) (base := base) F13 B
  have oLP := ok_lpair F14 B oLN m13 k13 b13
  have oLR := ok_lrow F15 B oLP m14 k14 b14
  have oPen := ok_pen (P := l.prog) (w := w) (base := base) F7 B.list
  have oDraw := ok_draw (P := l.prog) (w := w) (base := base) (k := 0) F8 B.len B.abs
  have oPick := ok_pick F9 B.len oDraw m8 k8 b8
  have oShuf := ok_shuf F10 B.len B.list oDraw m8 k8 b8
  have T : Draws l.prog w K mg base _ _ _ _ _ _ := ⟨oDraw, m8, k8, b8, oPick, m9, k9, b9, oShuf, m10, k10, b10⟩
  have oWag := ok_wag F11 T B.range B.int
  have oLRow := ok_row F12 T B.tuple
  have oOdd := ok_odd F16 T
  have oChg := ok_chgs (ok_chg F17 B T oOdd m16 k16 b16 m17 k17 b17)
  exact ok_law F18 B T ⟨oPen, m7, k7, b7⟩ ⟨oWag, m11, k11, b11⟩ ⟨oLRow, m12, k12, b12⟩ ⟨oOdd, m16, k16, b16⟩ ⟨oChg, m17, k17, b17⟩ ⟨oLN, m13, k13, b13⟩ ⟨oLP, m14, k14, b14⟩ ⟨oLR, m15, k15, b15⟩ ⟨oName, m2, k2, b2⟩ ⟨oEnd, m4, k4, b4⟩ ⟨oRow, m6, k6, b6⟩
theorem walk {l : PySem.W.OpenLaw} {q : Program} {loose : List Str} {XP : (Str → Option Value) → Heap → Prop} {YP : World → Heap → Prop} {d : DefRec} {K : Params → PySem.W.Frag} (hn : l.most = some 63) (hdf : d.params.defaults = [])
    (hY : ∀ (w : World) (h : Heap), YP w h → (K w.params).In h)
    (F : ∀ (w : World) (mg : Str → Option Value) (fa : Addr) (h : Heap), (K w.params).In h → h.Ns mainGlobals mg → mg d.name = some (.ref fa) →
      ∃ fd : FuncData, (∀ (s : Shared) (u : Value), BindsTo s fd ⟨[u], []⟩ [("script", u)]) ∧ ∀ base : Heap, (K w.params).In base → base.Ns mainGlobals mg → FnG l.prog w (K w.params) mg base CX0 11 fa fd ["script"] (spLaw (K w.params))) :
    PySem.W.WalkO q loose XP YP l.row.toRowW d [] (fun f vs => PySem.call f vs) :=
  walk_G (n := 63) (k := 11) (x := "script") (sp := fun K => spLaw K) hn (by decide) hdf ⟨rfl, by decide, by decide⟩ hY F fun _ _ a ns hl _ hS => ⟨a, ns, rfl, hS, hl, fun _ => rfl⟩
end My
open PySem PySem.W PyProof.Rows
set_option Elab.async false
set_option maxRecDepth 100000 in
set_option maxHeartbeats 0 in
theorem PySem.Challenge.cw_shuntplan_k01_names_ends_rows_holds : PySem.Challenge.rw_shuntplan_k01_names_ends_rows.Holds := by
  w_on; o_law; k_head; (case hw => w_witness2)
  k_fill
  refine My.walk (l := PySem.Challenge.rw_shuntplan_k01_names_ends_rows) rfl rfl (fun w h Y => PySem.W.kIn_of Y) ?F
  case F =>
    intro w mg fa h KX G hmg
    refine' My.all_mk KX G hmg ?a1 ?l1 ?c1 ?k1 ?a2 ?l2 ?c2 ?k2 ?a3 ?l3 ?c3 ?k3 ?a4 ?l4 ?c4 ?k4 ?a5 ?l5 ?c5 ?k5 ?a6 ?l6 ?c6 ?k6 ?a7 ?l7 ?c7 ?k7 ?a8 ?l8 ?c8 ?k8 ?a9 ?l9 ?c9 ?k9 ?a10 ?l10 ?c10 ?k10 ?a11 ?l11 ?c11 ?k11 ?a12 ?l12 ?c12 ?k12 ?a13 ?l13 ?c13 ?k13 ?a14 ?l14 ?c14 ?k14 ?a15 ?l15 ?c15 ?k15 ?a16 ?l16 ?c16 ?k16 ?a17 ?l17 ?c17 ?k17 ?a18 ?l18 ?c18 ?k18 ?zisi ?zint ?zbool ?zstr ?ztuple ?zlist ?zlen ?zall ?zset ?zrange ?zabs ?zrepr ?g1 ?g2 ?g3
    (case a1 => k_is)
    (case l1 => k_is)
    (case c1 => k_is)
    (case k1 => k_is)
    (case a2 => k_is)
    (case l2 => k_is)
    (case c2 => k_is)
    (case k2 => k_is)
    (case a3 => k_is)
    (case l3 => k_is)
    (case c3 => k_is)
    (case k3 => k_is)
    (case a4 => k_is)
    (case l4 => k_is)
    (case c4 => k_is)
    (case k4 => k_is)
    (case a5 => k_is)
    (case l5 => k_is)
    (case c5 => k_is)
    (case k5 => k_is)
    (case a6 => k_is)
    (case l6 => k_is)
    (case c6 => k_is)
    (case k6 => k_is)
    (case a7 => k_is)
    (case l7 => k_is)
    (case c7 => k_is)
    (case k7 => k_is)
    (case a8 => k_is)
    (case l8 => k_is)
    (case c8 => k_is)
    (case k8 => k_is)
    (case a9 => k_is)
    (case l9 => k_is)
    (case c9 => k_is)
    (case k9 => k_is)
    (case a10 => k_is)
    (case l10 => k_is)
    (case c10 => k_is)
    (case k10 => k_is)
    (case a11 => k_is)
    (case l11 => k_is)
    (case c11 => k_is)
    (case k11 => k_is)
    (case a12 => k_is)
    (case l12 => k_is)
    (case c12 => k_is)
    (case k12 => k_is)
    (case a13 => k_is)
    (case l13 => k_is)
    (case c13 => k_is)
    (case k13 => k_is)
    (case a14 => k_is)
    (case l14 => k_is)
    (case c14 => k_is)
    (case k14 => k_is)
    (case a15 => k_is)
    (case l15 => k_is)
    (case c15 => k_is)
    (case k15 => k_is)
    (case a16 => k_is)
    (case l16 => k_is)
    (case c16 => k_is)
    (case k16 => k_is)
    (case a17 => k_is)
    (case l17 => k_is)
    (case c17 => k_is)
    (case k17 => k_is)
    (case a18 => k_is)
    (case l18 => k_is)
    (case c18 => k_is)
    (case k18 => k_is)
    (case zisi => k_is)
    (case zint => k_is)
    (case zbool => k_is)
    (case zstr => k_is)
    (case ztuple => k_is)
    (case zlist => k_is)
    (case zlen => k_is)
    (case zall => k_is)
    (case zset => k_is)
    (case zrange => k_is)
    (case zabs => k_is)
    (case zrepr => k_is)
    (case g1 => k_is)
    (case g2 => k_is)
    (case g3 => k_is)
