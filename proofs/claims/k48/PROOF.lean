import PyProof.Rows.All
import Wide.All
import OpenK.AllK
import Wide.FinOn
import HandS.ForExc
import HandS.TryMany
import HandS.ExcValue
import KE.KExcIs
import KE.KTryMore
import HandS.ExcField
import HandS.IsInst
import HandS.ForMost
import HandS.Wide
import HandS.EndBits
import HandS.TupAny
import HandS.Evl
import HandS.Lambda
import HandS.SetBool
import HandS.SetKeys
import HandS.Strs
import HandS.DeepEq
import KE.KIndexOf
import HandS.Style
import HandS.ExcInit
import HandS.WordsExc
import HandS.More
import HandS.EndTab
import PySem.Challenge.RW_shuntplan_k48_exchanges_refused
set_option Elab.async false
set_option linter.all false
set_option maxRecDepth 100000
set_option maxHeartbeats 4000000
/-! try .. except (X, Y) as e: kept = e .. except Z as e: ..; the error kept is tracked behind the statement -/
namespace My
open PySem PySem.Spec PyProof.Rows L2
/-- an error of the class cls with the dict d -/
def XO (cls : Value) (d : Option Addr) (a : Addr) : HO := .ext fun h => ∃ (oe : Obj) (vs : Array Value), h.get? a = some oe ∧ Zc cls d oe ∧ oe.data = .fields vs
theorem xo_ok {P : Program} {w : World} {H : Hp} {h : Heap} {a : Addr} {cls : Value} {d : Option Addr} {oe : Obj} {vs : Array Value} (e : h.get? a = some oe) (z : Zc cls d oe) (q : oe.data = .fields vs) : ObjOk P w H h a (XO cls d a) :=
  ⟨⟨oe, vs, e, z, q⟩, ⟨oe, e⟩, fun _ _ ⟨o, v, p, r⟩ k => ⟨o, v, k o p, r⟩⟩
section
variable {X : Cx} {pins : List (Addr × Obj)} {σ : L2.St} {H : Hp} {s : Shared}
theorem track {a : Addr} {oe : Obj} {vs : Array Value} {cls : Value} {d : Option Addr} (I : Inv X pins σ H s) (he : s.heap.get? a = some oe) (hz : Zc cls d oe) (hd : oe.data = .fields vs) (na : H a = none) (n0 : X.s_0.heap.get? a = none) (nL : a ≠ X.env.locals)
    (np : ∀ p ∈ X.pn ++ pins, p.1 ≠ a) : Inv X pins σ (upd H a (XO cls d a)) s := by
  have n1 : ∀ {b o}, X.s_0.heap.get? b = some o → b ≠ a := fun {b o} e z => by rw [z, n0] at e; cases e
  have n2 : ∀ {b u}, H b = some u → b ≠ a := fun {b u} e => ne_of_none e na
  refine ⟨I.ok, I.os, I.bare, ⟨I.base.keep, I.base.slot, fun b o e n q => ?_, I.base.there, fun b xs e => ?_, fun b o u e => ?_, fun b ps e => ?_⟩, I.loc, I.cell, ?_, fun x c e => ?_, fun p hp => ?_, HOk.laidN I.hok (fun _ _ e => e) na (xo_ok he hz hd), I.len⟩
  · rw [upd_ne (n1 e)]
    exact I.base.free b o e n q
  · have q := I.base.tups b xs e
    rw [upd_ne (n2 q)]
    exact q
  · have q := I.base.frzs b o u e
    rw [upd_ne (n2 q)]
    exact q
  · obtain ⟨m, q⟩ := I.base.tbls b ps e
    exact ⟨m, by rw [upd_ne (n2 q)]; exact q⟩
  · rw [upd_ne (Ne.symm nL)]
    exact I.free
  · have ne : c ≠ a := fun z => by
      obtain ⟨v, o, ho, hc⟩ := I.cell x c e
      rw [z, he] at ho
      cases ho
      rw [hd] at hc
      cases hc
    rw [upd_ne ne]
    exact I.freeC x c e
  · obtain ⟨p1, p2, p3⟩ := I.pin p hp
    exact ⟨p1, by rw [upd_ne (np p hp)]; exact p2, p3⟩
theorem fly_keep {B h h' : Heap} {l : List Env} {a : Addr} {Z : Obj → Prop} (f : HandSPX.FlyingZ B l a Z h) (k : ∀ b o, h.get? b = some o → h'.get? b = some o) : HandSPX.FlyingZ B l a Z h' := by
  obtain ⟨f1, f2, f3, oe, vs, T, oT, ts, e1, e2, e3, e4, e5, e6, e7, e8, e9⟩ := f
  exact ⟨fun b o q => k b o (f1 b o q), f2, f3.of_keeps fun b o q _ => ⟨o, k b o q, rfl⟩, oe, vs, T, oT, ts, k _ _ e1, e2, e3, e4, e5, e6, k _ _ e7, e8, e9⟩
/-! what an except clause names -/
/-- the test of a clause is evaluated, and matched -/
structure TstOk (X : Cx) (t : Expr) (cs : List Value) : Prop where
  run : ∀ {a : Addr} {oe : Obj} {cls : Value} {b : Bool} {pn pins : List (Addr × Obj)} {σ : L2.St} {H : Hp} {s : Shared} {Q : Bool → Shared → Prop} {E : Value → Shared → Prop}, Inv (X.suite a pn) pins σ H s → s.heap.get? a = some oe → oe.cls = cls →
  PySem.W.exmAny X.K cls cs = some b → (∀ h', (∀ q o, s.heap.get? q = some o → h'.get? q = some o) → Q b { s with heap := h' }) →
  wpAny (model X.prog X.w) (X.A.mark (some (.ref a))) (eval t X.env) (fun c s1 => wpAny (model X.prog X.w) (X.A.mark (some (.ref a))) (excMatches (.ref a) c) Q E s1) E s
theorem name_at {a : Addr} {pn : List (Addr × Obj)} {x : Str} {c : Value} {np : Pos} {Q : Value → Shared → Prop} {E : Value → Shared → Prop} (I : Inv (X.suite a pn) pins σ H s) (hc : Names X x c) (q : Q c s) : wpAny (model X.prog X.w) (X.A.mark (some (.ref a))) (eval (.Name x np) X.env) Q E s := by
  obtain ⟨h1, h2, h3 | ⟨h3, h4, h5⟩⟩ := hc
  · exact ld_glob (X := X.suite a pn) I h1 h3 q h2
  · exact ld_blt (X := X.suite a pn) I h1 h3 h4 q h5 h2
theorem ty_look {a : Addr} {oe : Obj} {cls : Value} (he : s.heap.get? a = some oe) (hc : oe.cls = cls) : PySem.W.Looks (model X.prog X.w) s.heap (typeOf (.ref a)) cls := fun A Q E s' k q => wpAny_typeOf_ref (k _ _ he) (by rw [hc]; exact q)
theorem any_one {K : PySem.W.Frag} {cls c : Value} {b : Bool} (h : PySem.W.exmAny K cls [c] = some b) : PySem.W.exmOne K cls c = some b := by
  obtain ⟨b1, d1, e1, e2, e3⟩ := PySem.W.exmAny_cons h
  cases (show some false = some d1 from e2)
  rw [Bool.or_false] at e3
  rw [e1, e3]
theorem tst1 {x : Str} {c : Value} {np : Pos} (hc : Names X x c) : TstOk X (.Name x np) [c] := ⟨fun {a oe cls b pn pins σ H s Q E} I he ho hx q => name_at I hc ((PySem.W.exm_one (M := model X.prog X.w) I.kIn (ty_look (X := X) he ho) (any_one hx)).here (q s.heap fun _ _ z => z))⟩
theorem tst2 {x1 x2 : Str} {c1 c2 : Value} {p1 p2 tp : Pos} {kk : Nat} (h1 : Names X x1 c1) (h2 : Names X x2 c2) : TstOk X (.Tuple [.Name x1 p1, .Name x2 p2] kk tp) [c1, c2] := ⟨fun {a oe cls b pn pins σ H s Q E} I he ho hx q => by
  refine wpAny_Tuple (wpAny_items_cons (name_at I h1 (wpAny_items_cons (name_at I h2 (wpAny_items_nil ⟨by size_fits, ?_⟩)))))
  have kp : ∀ q o, s.heap.get? q = some o → (s.heap.push { cls := .type "tuple", data := .seq [c1, c2].toArray }).get? q = some o := fun _ _ z => Heap.get?_push_of_some _ z
  exact (PySem.W.exm_tup2 (M := model X.prog X.w) (PySem.W.Frag.In.keeps I.kIn kp) ((ty_look (X := X) he ho).keeps kp) (Heap.get?_push_size s.heap rfl) hx).here (q _ kp)⟩
theorem tst3 {x1 x2 x3 : Str} {c1 c2 c3 : Value} {p1 p2 p3 tp : Pos} {kk : Nat} (h1 : Names X x1 c1) (h2 : Names X x2 c2) (h3 : Names X x3 c3) : TstOk X (.Tuple [.Name x1 p1, .Name x2 p2, .Name x3 p3] kk tp) [c1, c2, c3] := ⟨fun {a oe cls b pn pins σ H s Q E} I he ho hx q => by
  refine wpAny_Tuple (wpAny_items_cons (name_at I h1 (wpAny_items_cons (name_at I h2 (wpAny_items_cons (name_at I h3 (wpAny_items_nil ⟨by size_fits, ?_⟩)))))))
  have kp : ∀ q o, s.heap.get? q = some o → (s.heap.push { cls := .type "tuple", data := .seq [c1, c2, c3].toArray }).get? q = some o := fun _ _ z => Heap.get?_push_of_some _ z
  exact (PySem.W.exm_tup3 (M := model X.prog X.w) (PySem.W.Frag.In.keeps I.kIn kp) ((ty_look (X := X) he ho).keeps kp) (Heap.get?_push_size s.heap rfl) hx).here (q _ kp)⟩
theorem tst4 {x1 x2 x3 x4 : Str} {c1 c2 c3 c4 : Value} {p1 p2 p3 p4 tp : Pos} {kk : Nat} (h1 : Names X x1 c1) (h2 : Names X x2 c2) (h3 : Names X x3 c3) (h4 : Names X x4 c4) : TstOk X (.Tuple [.Name x1 p1, .Name x2 p2, .Name x3 p3, .Name x4 p4] kk tp) [c1, c2, c3, c4] := ⟨fun {a oe cls b pn pins σ H s Q E} I he ho hx q => by
  refine wpAny_Tuple (wpAny_items_cons (name_at I h1 (wpAny_items_cons (name_at I h2 (wpAny_items_cons (name_at I h3 (wpAny_items_cons (name_at I h4 (wpAny_items_nil ⟨by size_fits, ?_⟩)))))))))
  have kp : ∀ q o, s.heap.get? q = some o → (s.heap.push { cls := .type "tuple", data := .seq [c1, c2, c3, c4].toArray }).get? q = some o := fun _ _ z => Heap.get?_push_of_some _ z
  exact (PySem.W.exm_tup4 (M := model X.prog X.w) (PySem.W.Frag.In.keeps I.kIn kp) ((ty_look (X := X) he ho).keeps kp) (Heap.get?_push_size s.heap rfl) hx).here (q _ kp)⟩
end
/-! the statement -/
/-- a clause: the classes it names, its name's slot, its suite's reading -/
structure Cl where
  cs : List Value
  i : Nat
  ts : Addr → Value → Option Addr → TS
def keptD (a : Addr) (cls : Value) (d : Option Addr) (i : Nat) (D : Ends) : Ends := { nx := fun σ H => D.nx (σ.set i none) (upd H a (XO cls d a)), rt := D.rt, bk := fun σ H => D.bk (σ.set i none) H, ct := fun σ H => D.ct (σ.set i none) H }
def wCl (n : Nat) (K : PySem.W.Frag) (Wout : WX) (D : Ends) : List Cl → WX
  | [] => Wout
  | c :: r => fun cls d σ H => σ.length = n → ∃ b, PySem.W.exmAny K cls c.cs = some b ∧ (b = true → ∀ a, H a = none → c.ts a cls d (keptD a cls d c.i D) (σ.set c.i (some (.ref a))) H) ∧ (b = false → wCl n K Wout D r cls d σ H)
inductive ClsOk (X : Cx) : List ExceptHandler → List Cl → Prop
  | nil : ClsOk X [] []
  | cons {t : Expr} {n : Str} {cs : List Value} {i : Nat} {ts : Addr → Value → Option Addr → TS} {b₀ : Stmt} {su : List Stmt} {hp : Pos} {hds : List ExceptHandler} {l : List Cl} (ht : TstOk X t cs) (hi : X.N[i]? = some n) (hn : X.env.kindOf n = some .local)
      (hsu : ∀ (a : Addr) (oe : Obj) (cls : Value) (d : Option Addr) (pn : List (Addr × Obj)), Zc cls d oe → (∃ vs, oe.data = .fields vs) → PSs (X.suite a ((a, oe) :: pn)) (b₀ :: su) (ts a cls d)) (r : ClsOk X hds l) :
      ClsOk X (.ExceptHandler (some t) (some n) (b₀ :: su) hp :: hds) (⟨cs, i, ts⟩ :: l)
section
variable {X : Cx} {body : List Stmt} {h₀ : ExceptHandler} {hds : List ExceptHandler} {l : List Cl} {pos : Pos} {tb : WX → TS} {Wout : WX}
theorem ps_try_kept (hs : X.stack = X.env :: X.outer) (hf : X.env.frame = some X.env.locals) (hfs : X.fs = frs X.outer) (hex : X.ex = []) (hN : X.N.Nodup) (tk : Takes X Wout)
    (hb : ∀ (W : WX) (pn : List (Addr × Obj)) (xe : Value → Shared → Prop), Takes (X.tr pn xe) W → PassesOwn (model X.prog X.w) X.A X.env xe → PSs (X.tr pn xe) body (tb W))
    (hh : ClsOk X (h₀ :: hds) l) : PS X (.Try body (h₀ :: hds) [] [] pos) (fun D σ H => tb (wCl X.N.length X.K Wout D l) D σ H) := by
  refine ⟨fun pins s σ H D I h => ?_⟩
  have ok := I.ok; have hfr : X.A.frames = some (X.env :: X.outer) := by rw [ok.frames, hs]
  refine wpAny_Try_except (wpAny_mono ((hb (wCl X.N.length X.K Wout D l) (X.pn ++ pins) (fun e s₁ => wpAny (model X.prog X.w) X.A (noteFrame e X.env) (fun _ s₂ => wpAny (model X.prog X.w) X.A (setFlight e none) (fun _ s₃ => wpAny (model X.prog X.w) X.A (handleBy e X.env (h₀ :: hds)) (SP X pins D) X.xe s₃) X.xe s₂) X.xe s₁)
    (fun u s' xx => ?_) PassesOwn.looking).run [] s σ H D (I.toTry _) h) (fun f s1 hsp => ?_) (fun e s1 he => he))
  · obtain ⟨a, B, sI, pins', σ', H', cls, d, eu, J', nb, up, sky, na, os, ag, wish⟩ := xx
    subst eu
    have J : Inv X pins σ' H' sI := J'.ofTry ok
    have sky' : Sky B (X.env :: X.outer) a (Zc cls d) X.env.locals s'.heap := hs ▸ sky
    show wpAny (model X.prog X.w) X.A (noteFrame (.ref a) X.env) _ _ _
    refine Sky.land Zc.steady hfr hf sky' fun g0 fl0 up0 => ?_
    obtain ⟨oe0, vs0, e0, z0, d0⟩ := fl0.there
    have nfr : a ∉ frs (X.env :: X.outer) := fun hm => by
      obtain ⟨_, o', e', hnf⟩ := fl0.2.2.1.mem hm
      rw [e0] at e'
      cases e'
      exact hnf _ d0
    have nL : a ≠ X.env.locals := fun z => nfr (List.mem_filterMap.mpr ⟨X.env, List.mem_cons_self, hf.trans (congrArg some z.symm)⟩)
    have nF : a ∉ X.fs := fun hm => by
      rw [hfs] at hm
      obtain ⟨e, h1, h2⟩ := List.mem_filterMap.mp hm
      exact nfr (List.mem_filterMap.mpr ⟨e, List.mem_cons_of_mem _ h1, h2⟩)
    have notI : ∀ b o, sI.heap.get? b = some o → b ∉ frs X.stack → b ≠ a := fun b o e n z => by
      have q := nb b o e n
      rw [z, fl0.2.1] at q
      cases q
    have n0 : X.s_0.heap.get? a = none := by
      cases e : X.s_0.heap.get? a with
      | none => rfl
      | some o =>
        obtain ⟨o', q⟩ := J.base.there a o e (by rw [hex]; exact fun z => nomatch z)
        exact absurd rfl (notI a o' q (by rw [hs]; exact nfr))
    have np : ∀ p ∈ X.pn ++ pins, p.1 ≠ a := fun p hp => by
      obtain ⟨p1, p2, p3, p4, _⟩ := J.pin p hp
      refine notI p.1 p.2 p1 fun hm => ?_
      rw [hs] at hm
      obtain ⟨e, h1, h2⟩ := List.mem_filterMap.mp hm
      rcases List.mem_cons.mp h1 with h1 | h1
      · rw [h1, hf] at h2
        exact p3 (Option.some.inj h2).symm
      · exact p4 (by rw [hfs]; exact List.mem_filterMap.mpr ⟨e, h1, h2⟩)
    have go : ∀ {hds' : List ExceptHandler} {l' : List Cl}, ClsOk X hds' l' → ∀ g : Heap, HandSPX.FlyingZ B (X.env :: X.outer) a (Zc cls d) g → sI.heap.UpToSlots g → wCl X.N.length X.K Wout D l' cls d σ' H' → wpAny (model X.prog X.w) X.A (handleBy (.ref a) X.env hds') (SP X pins D) X.xe { s' with heap := g } := by
      intro hds' l' hk
      induction hk with
      | nil =>
        intro g fl upg wish
        refine wpAny_handleBy_nil ?_
        obtain ⟨k1, k2, k3, oe, vs, T, oT, ts', he, hz, hd, h1, hr⟩ := id fl
        unfold PySem.passOn; refine wpAny_bind (wpAny_field he hd h1 ?_)
        rw [if_neg (show ¬ ((Value.ref T == Value.none) = true) by simp)]
        have fin : wpAny (model X.prog X.w) X.A (setFlight (.ref a) X.env.frame) (fun _ s4 => wpAny (model X.prog X.w) X.A (throw (.ref a) : Sem Flow) (SP X pins D) X.xe s4) X.xe { s' with heap := g } := by
          rw [hf]
          exact HandSPX.setFlight_upZ fl fun h4 q4 up4 => wpAny_throw (tk _ _ ⟨a, B, sI, pins, σ', H', cls, d, rfl, J, nb, upg.trans up4, .inr (.inr (by rw [hs]; exact q4)), na, os, ag, wish⟩)
        first | exact wpAny_bind (wpAny_pure (wpAny_bind fin)) | exact wpAny_bind fin
      | @cons t n cs i ts b₀ su hp hds2 l2 ht hi hn hsu r ih =>
        intro g fl upg wish
        obtain ⟨b, hb1, yes, no⟩ := wish J.len
        have Jg : Inv X pins σ' H' { s' with heap := g } := J.landed nb fl.1 upg os ag
        obtain ⟨oe, vs, he, hz, hd⟩ := fl.there
        have Sg := Jg.suite he hd na nL nF
        refine wpAny_handleBy_cons (codeAny_handlers_test (ht.run Sg he hz.1 hb1 fun g2 kp => ?_)) (by intro q; cases q)
        have fl2 := fly_keep fl kp
        have up2 : sI.heap.UpToSlots g2 := upg.trans (Heap.UpToSlots.of_keeps kp)
        cases b with
        | true =>
          refine codeAny_handlers_suite_as (HandSPX.lands_againZ fl2 fun g4 fl4 up4 => ?_)
          have J4 : Inv X pins σ' H' { s' with heap := g4 } := J.landed nb fl4.1 (up2.trans up4) os ag
          obtain ⟨oe4, vs4, he4, hz4, hd4⟩ := fl4.there
          refine store_ok (X := X.suite a ((a, oe4) :: (X.pn ++ pins))) (v := .ref a) (J4.suite he4 hd4 na nL nF) hN hi (.inl hn) rfl (fun s5 S5 => ?_) (.inr hn)
          refine wpAny_mono ((hsu a oe4 cls d (X.pn ++ pins) hz4 ⟨_, hd4⟩).run [] s5 _ H' _ S5 (yes rfl a na)) (fun f s6 hsp => ?_) (fun _ _ z => False.elim z)
          have end_ : ∀ {σ6 : L2.St} {H6 : Hp} {Q : Shared → Prop}, Inv (X.suite a ((a, oe4) :: (X.pn ++ pins))) [] σ6 H6 s6 → (∀ s7, Inv X pins (σ6.set i none) H6 s7 → Q s7) → wpAny (model X.prog X.w) X.A (do bindName X.env n .none; unbindBehindTheSuite X.env n hp) (fun _ s7 => Q s7) X.xe s6 := fun S6 hq => gone_ok (S6.unsuite ok) hN hi hn hq
          have endT : ∀ {σ6 : L2.St} {H6 : Hp} {Q : Shared → Prop}, Inv (X.suite a ((a, oe4) :: (X.pn ++ pins))) [] σ6 H6 s6 → (∀ s7, Inv X pins (σ6.set i none) (upd H6 a (XO cls d a)) s7 → Q s7) → wpAny (model X.prog X.w) X.A (do bindName X.env n .none; unbindBehindTheSuite X.env n hp) (fun _ s7 => Q s7) X.xe s6 := fun S6 hq => by
            obtain ⟨q1, q2, _⟩ := S6.pin (a, oe4) (List.mem_append_left _ List.mem_cons_self)
            exact gone_ok (track (S6.unsuite ok) q1 hz4 hd4 q2 n0 nL np) hN hi hn hq
          cases f with
          | next => obtain ⟨_, _, S6, q6⟩ := hsp; exact endT S6 fun s7 J7 => ⟨_, _, J7, q6⟩
          | brk => obtain ⟨_, _, S6, q6⟩ := hsp; exact end_ S6 fun s7 J7 => ⟨_, _, J7, q6⟩
          | cont => obtain ⟨_, _, S6, q6⟩ := hsp; exact end_ S6 fun s7 J7 => ⟨_, _, J7, q6⟩
          | ret u => obtain ⟨_, _, _, S6, r6, q6⟩ := hsp; exact end_ S6 fun s7 J7 => ⟨_, _, _, J7, r6, q6⟩
        | false => exact ih g2 fl2 up2 (no rfl)
    exact go hh g0 fl0 (up.trans up0) wish
  · cases f with
    | next => obtain ⟨_, _, J', q⟩ := hsp; exact wpAny_execs_nil ⟨_, _, J'.ofTry ok, q⟩
    | brk => obtain ⟨_, _, J', q⟩ := hsp; exact ⟨_, _, J'.ofTry ok, q⟩
    | cont => obtain ⟨_, _, J', q⟩ := hsp; exact ⟨_, _, J'.ofTry ok, q⟩
    | ret u => obtain ⟨_, _, _, J', r, q⟩ := hsp; exact ⟨_, _, _, J'.ofTry ok, r, q⟩
end
end My
set_option Elab.async false
set_option linter.all false
set_option maxRecDepth 100000
set_option maxHeartbeats 4000000
/-! a kept error: isinstance of it, its fields -/
namespace My
open PySem PySem.Spec PyProof.Rows L2
/-- what an own class of errors must say, so that isinstance asks its instances rightly -/
structure XC (K : PySem.W.Frag) (C : Addr) : Prop where
  hc : (PySem.W.clsIn K C).isSome = true
  ga : PySem.W.findIn K (.ref C) "__getattribute__" = some (some (.builtin "BaseException.__getattribute__"))
  gt : PySem.W.findIn K (.ref C) "__getattr__" = some none
  sb : PySem.W.subIn K (.ref C) (.type "BaseException") = some true
  ha : PySem.W.findIn K (.ref C) "__class__" = some (some (.builtin "object.__class__"))
  hn : PySem.W.specialIn K (.builtin "object.__class__") "__get__" = some (some (.builtin "getset_descriptor.__get__"))
  ht : PySem.W.takesIn K (.builtin "object.__class__") = some true
  hm : PySem.W.mroIn K C (.type "object") = some true
section
variable {X : Cx} {pins : List (Addr × Obj)} {σ : L2.St} {H : Hp} {s : Shared}
/-- the dict of a kept error is there -/
def DictAt (H : Hp) : Option Addr → Prop
  | none => True
  | some dd => ∃ fs, H dd = some (.xd fs)
theorem inst_of {a C : Addr} {d : Option Addr} (I : Inv X pins σ H s) (h : H a = some (XO (.ref C) d a)) (hd : DictAt H d) : ∃ ox od, PySem.W.InstAt s.heap a ox C od := by
  have hx : ObjOk X.prog X.w H s.heap a (XO (.ref C) d a) := I.hok a _ h
  obtain ⟨⟨oe, vs, h1, ⟨h2, h3⟩, h4⟩, _, _⟩ := hx
  cases d with
  | none => exact ⟨oe, none, h1, h2, by unfold PySem.W.notCls; rw [h4] <;> rfl, by rw [h3]; trivial⟩
  | some dd =>
    obtain ⟨fs, e⟩ := hd
    have hx2 : ObjOk X.prog X.w H s.heap dd (.xd fs) := I.hok dd _ e
    obtain ⟨mA, hns, _⟩ := hx2
    obtain ⟨od, ho, _⟩ := lookIn_ns hns
    exact ⟨oe, some od, h1, h2, by unfold PySem.W.notCls; rw [h4] <;> rfl, by rw [h3]; exact ho⟩
/-- isinstance(kept, c) -/
def rIsX (K : PySem.W.Frag) : List V → Hp → VK → Prop := fun xs H Q => ∃ (a C : Addr) (d : Option Addr) (c : V) (cv : Value) (b : Bool), xs = [.ref a, c] ∧ H a = some (XO (.ref C) d a) ∧ DictAt H d ∧ XC K C ∧ (∀ u, RelV c u → u = cv) ∧ PySem.W.kitOne K (.ref C) cv = some b ∧ Q (.bl b) H
theorem call_isX : CallR X (.builtin "isinstance") (rIsX X.K) := by
  intro pins s σ H xs us Q I r h
  obtain ⟨a, C, d, c, cv, b, rfl, ha, hd, T, hcv, e, q⟩ := h
  obtain ⟨u1, u2, rfl, r1, r2⟩ := vals2 r
  cases (show u1 = Value.ref a from r1)
  cases hcv _ r2
  obtain ⟨ox, od, J⟩ := inst_of I ha hd
  exact PySem.W.kia_one (PySem.W.kitx_exc (od := od) T.hc T.ga T.gt T.sb T.ha T.hn T.ht T.hm) I.kIn J e (fun z => nomatch z) fun tk => ⟨.bl b, H, I.tok tk, rfl, q⟩
/-- isinstance(kept, (c1, c2, ..)) -/
def rIsXT (K : PySem.W.Frag) : List V → Hp → VK → Prop := fun xs H Q => ∃ (a C : Addr) (d : Option Addr) (tp : Addr) (cs : List V) (ws : List Value) (b : Bool), xs = [.ref a, .ref tp] ∧ H a = some (XO (.ref C) d a) ∧ DictAt H d ∧ XC K C ∧ H tp = some (.tup cs) ∧ (∀ us, Vals cs us → us = ws) ∧ PySem.W.kitAny K (.ref C) ws = some b ∧ Q (.bl b) H
theorem call_isXT : CallR X (.builtin "isinstance") (rIsXT X.K) := by
  intro pins s σ H xs us Q I r h
  obtain ⟨a, C, d, tp, cs, ws, b, rfl, ha, hd, T, hT, hcv, e, q⟩ := h
  obtain ⟨u1, u2, rfl, r1, r2⟩ := vals2 r
  cases (show u1 = Value.ref a from r1)
  cases (show u2 = Value.ref tp from r2)
  obtain ⟨ox, od, J⟩ := inst_of I ha hd
  obtain ⟨_, its, rv, o, h1, h2, n, h3⟩ := (show ObjOk X.prog X.w H s.heap tp (.tup cs) from I.hok tp _ hT)
  cases hcv _ rv
  obtain ⟨oc, oo, dt, sl⟩ := o
  simp only at h2 h3
  subst h2 h3
  exact PySem.W.kia_tup (PySem.W.kitx_exc (od := od) T.hc T.ga T.gt T.sb T.ha T.hn T.ht T.hm) I.kIn J h1 e (fun z => nomatch z) fun tk => ⟨.bl b, H, I.tok tk, rfl, q⟩
/-- kept.f -/
def tXk (K : PySem.W.Frag) (f : Str) (te : TE) : TE := fun σ H Q => te σ H fun x H1 => ∃ (a C dd : Addr) (fs : List (Str × V)) (v : V), x = .ref a ∧ H1 a = some (XO (.ref C) (some dd) a) ∧ H1 dd = some (.xd fs) ∧ fs.lookup f = some v ∧ XfC K C ∧ PySem.W.findIn K (.ref C) f = some none ∧ Q v H1
theorem pe_xk {e : Expr} {te : TE} {pos : Pos} {n : Str} (he : PE X e te) (hb : attributeBase e n X.env (eval e X.env) = eval e X.env := by rfl) : PE X (.Attribute e n pos) (tXk X.K n te) := by
  refine ⟨fun pins s σ H Q I h => ?_⟩
  refine attr_of hb (thn (he.run pins s σ H _ I h) fun u s1 hh => ?_)
  obtain ⟨x, H1, I1, rx, a, C, dd, fs, v, ex, ha, ed, l, T, hno, q⟩ := hh
  subst ex
  cases (show u = Value.ref a from rx)
  have hx : ObjOk X.prog X.w H1 s1.heap a (XO (.ref C) (some dd) a) := I1.hok a _ ha
  obtain ⟨⟨oe, vs, h1, ⟨h2, h3⟩, h4⟩, _, _⟩ := hx
  have hx2 : ObjOk X.prog X.w H1 s1.heap dd (.xd fs) := I1.hok dd _ ed
  obtain ⟨mA, hns, hr⟩ := hx2
  obtain ⟨od, ho, hl⟩ := lookIn_ns hns
  obtain ⟨u, hu, ru⟩ := RelO.some_of (v := v) (o := mA n) (by rw [← l]; exact hr n)
  have J : PySem.W.InstAt s1.heap a oe C (some od) := ⟨h1, h2, by unfold PySem.W.notCls; rw [h4] <;> rfl, by rw [h3]; exact ho⟩
  exact HandSPX.exc_get I1.kIn J T.ga T.gg T.exC (PySem.W.findObj_own T.hdC hno rfl (by rw [hl, hu])) (handed_of ru) ⟨v, H1, I1.tok _, ru, q⟩
end
end My
set_option Elab.async false
set_option linter.all false
set_option maxRecDepth 100000
set_option maxHeartbeats 4000000
/-! Defs that show values: a promise that may lean on «nothing is being shown around the call», its callers, its end, and repr of data. -/
namespace My
open PySem PySem.Spec PyProof.Rows L2

/-- no value is being shown around here -/
def Still (A : Around) : Prop := A.guards = some []
theorem Still.deeper {A : Around} (h : Still A) (e : Env) : Still (A.deeper e) := h

section
variable (P : Program) (w : World) (K : PySem.W.Frag) (mg : Str → Option Value) (base : Heap) (CX : CXT)
/-- a def's promise, kept wherever nothing is being shown -/
structure FnG (k : Nat) (f : Addr) (fd : FuncData) (ps : List Str) (sp : Sp) : Prop where
  len : ∀ vs H Q E, sp vs H Q E → vs.length = ps.length
  run : ∀ (A : Around) (stk : List Env) (s : Shared) (H : Hp) (g : Args) (us : List Value) (vs : List V) (Q : VK) (E : XK), Still A → Room k A → Env0 P w K mg base A stk s H →
    BindsTo s fd g (ps.zip us) → Vals vs us → sp vs H Q E → codeAny (model P w) A (.call (.ref f) g) (CR CX stk P w H s Q E) s
end

section
variable {P : Program} {w : World} {K : PySem.W.Frag} {mg : Str → Option Value} {base : Heap} {CX : CXT}
theorem FnG.of {k : Nat} {f : Addr} {fd : FuncData} {ps : List Str} {sp : Sp} (F : FnOk P w K mg base CX k f fd ps sp) : FnG P w K mg base CX k f fd ps sp :=
  ⟨F.len, fun A stk s H g us vs Q E _ r e b v h => F.run A stk s H g us vs Q E r e b v h⟩
theorem FnG.mono {i k : Nat} {f : Addr} {fd : FuncData} {ps : List Str} {sp : Sp} (F : FnG P w K mg base CX i f fd ps sp) (h : i ≤ k) : FnG P w K mg base CX k f fd ps sp :=
  ⟨F.len, fun A stk s H g us vs Q E st r e b v q => F.run A stk s H g us vs Q E st (r.mono h) e b v q⟩
theorem FnG.imp {k : Nat} {f : Addr} {fd : FuncData} {ps : List Str} {sp sp' : Sp} (F : FnG P w K mg base CX k f fd ps sp) (h : ∀ vs H Q E, sp' vs H Q E → sp vs H Q E) : FnG P w K mg base CX k f fd ps sp' :=
  ⟨fun vs H Q E q => F.len vs H Q E (h _ _ _ _ q), fun A stk s H g us vs Q E st r e b v q => F.run A stk s H g us vs Q E st r e b v (h _ _ _ _ q)⟩
end

section
variable {X : Cx} {CX : CXT} {k : Nat} {f C : Addr} {fd : FuncData} {ps : List Str} {sp : Sp} {dvs : List V} {ds : List Value} {E : XK} {x : Str} {p pos : Pos} {e : Expr} {es : List Expr} {t : TA}
theorem runG {pins : List (Addr × Obj)} {σ : L2.St} {H : Hp} {s : Shared} {Q : VK} {us : List Value} {vs : List V} (F : FnG X.prog X.w X.K X.mg X.base CX k f fd ps sp) (st : Still X.A) (hr : Room k X.A)
    (hb : Binds X.K fd ps ds) (hd : Vals dvs ds) (hx : Passes CX X E) (I : Inv X pins σ H s) (rv : Vals vs us) (hp : sp (vs ++ dvs) H Q E) :
    wpAny (model X.prog X.w) X.A (call (.ref f) us) (EP X pins σ Q) X.xe s := by
  have all : Vals (vs ++ dvs) (us ++ ds) := rv.append hd
  have many : (us ++ ds).length = ps.length := all.length.symm.trans (F.len _ _ _ _ hp)
  refine wpAny_call (codeAny_mono (F.run X.A X.stack s H ⟨us, []⟩ (us ++ ds) (vs ++ dvs) Q E st hr I.env0 (hb s us I.kIn many) all hp) ?_)
  intro res s' end_
  match res, end_ with
  | .error er, z => exact hx pins σ H s er s' I z
  | .ok (.ret u), z => exact I.after z
  | .ok .next, z => exact z.elim
  | .ok .brk, z => exact z.elim
  | .ok .cont, z => exact z.elim

theorem pe_callG (F : FnG X.prog X.w X.K X.mg X.base CX k f fd ps sp) (st : Still X.A) (hr : Room k X.A) (hg : Gl X x) (hm : X.mg x = some (.ref f)) (kp : PySem.W.keepIn X.K (.ref f) = true)
    (hb : Binds X.K fd ps ds) (hd : Vals dvs ds) (hx : Passes CX X E) (ha : PA X (e :: es) t) (nd : (x == ("__debug__" : Str)) = false := by decide)
    (he : starEach (e :: es) X.env = (false, eval e X.env) :: starEach es X.env := by rfl) (hp : (backTo pos (starEach es X.env)).any (·.1) = false := by rfl) :
    PE X (.Call (.Name x p) (e :: es) [] pos) (tCall sp dvs E t) :=
  ⟨fun pins s σ H Q I q => wpAny_Call_Name_kw (ld_glob I hg hm
    (PySem.W.callWith_K (h₀ := X.base) I.ok.mod.kin kp (thn (ha.run pos pins s σ H _ I q) fun _ _ ⟨_, _, J, rv, z⟩ => ⟨J.kIn, runG F st hr hb hd hx J rv z⟩) he hp) nd)⟩
theorem pe_callG0 (F : FnG X.prog X.w X.K X.mg X.base CX k f fd ps sp) (st : Still X.A) (hr : Room k X.A) (hg : Gl X x) (hm : X.mg x = some (.ref f)) (kp : PySem.W.keepIn X.K (.ref f) = true)
    (hb : Binds X.K fd ps ds) (hd : Vals dvs ds) (hx : Passes CX X E) (nd : (x == ("__debug__" : Str)) = false := by decide) : PE X (.Call (.Name x p) [] [] pos) (tCall sp dvs E tNil) :=
  ⟨fun pins s σ H Q I q => wpAny_Call_Name_kw (ld_glob I hg hm (PySem.W.callWith_K0 I.kIn kp (runG (us := []) F st hr hb hd hx I .nil q)) nd)⟩
end

/-! ### a def by its body -/
theorem fn_ofG {CX : CXT} {P : Program} {w : World} {K : PySem.W.Frag} {mg : Str → Option Value} {base : Heap} {k : Nat} {f : Addr} {name qual : Str} {params : Arguments} {body : List Stmt} {sc : Scope} {dV kV doc pm cdv ct oc : Value} {an od : Option Addr}
    {osl : Array (Option Value)} {N ps : List Str} {sp : Sp} (lk : K.lookup f = some ⟨oc, od, .func (PySem.W.fnOf name qual params body sc dV kV doc pm an cdv ct), osl⟩) (hc : PySem.W.codeIn K cdv qual = true) (S : FnScope N ps sc)
    (len : ∀ vs H Q E, sp vs H Q E → vs.length = ps.length)
    (hbody : ∀ (A : Around) (stk : List Env) (s : Shared) (H : Hp) (vs : List V) (Q : VK) (E : XK), Still A → Room k (A.deeper (envOfC qual sc s.heap.objs.size f cdv)) → sp vs H Q E →
      ∃ t, PSs (cxOf CX P w K mg base N qual sc f cdv A stk s H E) body t ∧ t { nx := fun _ H' => Q .non H', rt := Q } (start N vs) H) :
    FnG P w K mg base CX (k + 1) f (PySem.W.fnOf name qual params body sc dV kV doc pm an cdv ct) ps sp := by
  refine ⟨len, fun A stk s H g us vs Q E st hr e0 hb rv hp => ?_⟩
  have many := len _ _ _ _ hp
  have keep : ∀ b o, base.get? b = some o → s.heap.get? b = some o := fun b o e => (e0.bs b o e).1
  have KX : K.In s.heap := e0.mod.kin.keeps keep
  have lim : s.heap.NoLimit := e0.mod.nolimit.keeps keep
  refine codeAny_call_function hr.depth (KX _ _ lk) rfl S.co S.gen rfl (PySem.W.codeRec_of KX hc) (hb _ _ _ _ (wpAny_newFunctionEnv_cells S.kind ?_ ?_))
  · rintro ⟨n, v⟩ hy
    rcases S.par n (List.of_mem_zip hy).1 with q | q
    · exact .inl q
    · exact .inr ⟨q, PySem.W.cellsFrom_some _ _ _ (.inl q)⟩
  · rintro env rfl s1 x
    obtain ⟨t, ht, hq⟩ := hbody A stk s H vs Q E st (hr.deeper _) hp
    refine ⟨lim.keeps x.toInCall.keep, codeAny_func (wpAny_mono (ht.run [] s1 (start N vs) H _ (inv_start S hr.hd e0 many rv x) hq) ?_ fun _ _ z => z)⟩
    intro fl s' z
    match fl, z with
    | .ret u, ⟨v, _, H', J, r, q⟩ => exact ⟨v, H', J.os, J.bare, J.base, J.hok, r, q⟩
    | .next, ⟨_, H', J, q⟩ => exact ⟨V.non, H', J.os, J.bare, J.base, J.hok, (rfl : Value.none = Value.none), q⟩
    | .brk, ⟨_, _, _, q⟩ => exact q.elim
    | .cont, ⟨_, _, _, q⟩ => exact q.elim

section
variable {P : Program} {w : World} {K : PySem.W.Frag} {mg : Str → Option Value} {base : Heap}
theorem okG {x qual : Str} {st : Stmt} {f : Addr} {fd : FuncData} {N ps : List Str} {k : Nat} {sp : Sp} (F : Fun K x qual st f fd) (S : FnScope N ps (defScope st)) (len : ∀ vs H Q E, sp vs H Q E → vs.length = ps.length)
    (hbody : ∀ (cdv : Value) (A : Around) (stk : List Env) (s : Shared) (H : Hp) (vs : List V) (Q : VK) (E : XK), Still A → Room k (A.deeper (envOfC qual (defScope st) s.heap.objs.size f cdv)) → sp vs H Q E →
      ∃ t, PSs (cxOf CX0 P w K mg base N qual (defScope st) f cdv A stk s H E).nox (defBody st) t ∧ t { nx := fun _ H' => Q .non H', rt := Q } (start N vs) H) : FnG P w K mg base CX0 (k + 1) f fd ps sp := by
  obtain ⟨oc, od, kV, doc, pm, an, cdv, ct, osl, rfl, lk, hc⟩ := F.ex
  exact fn_ofG lk hc S len fun A stk s H vs Q E sl hr hp => let ⟨t, h, q⟩ := hbody cdv A stk s H vs Q E sl hr hp; ⟨t, h.nox, q⟩
end

/-! ### repr of data -/
section
variable {X : Cx}
def rRepr (K : PySem.W.Frag) : List V → Hp → VK → Prop := fun xs H Q => ∃ v d, xs = [v] ∧ Dp K H v d ∧ d.showable = true ∧ d.depth ≤ 60 ∧ d.shown.length ≤ sizeLine ∧ Q (.str d.shown) H
mutual
theorem noDict {K : PySem.W.Frag} {H : Hp} : ∀ (d : PyData) (v : V), Dp K H v d → d.hasDict = false
  | .none, _, _ => by simp only [PyData.hasDict]
  | .bool _, _, _ => by simp only [PyData.hasDict]
  | .int _, _, _ => by simp only [PyData.hasDict]
  | .str _, _, _ => by simp only [PyData.hasDict]
  | .list ds, _, h => by
    cases h with
    | lst _ a =>
      simp only [PyData.hasDict]
      exact noDictAll ds _ a
  | .tuple ds, _, h => by
    cases h with
    | tup _ a =>
      simp only [PyData.hasDict]
      exact noDictAll ds _ a
  | .dict _, _, h => by cases h
theorem noDictAll {K : PySem.W.Frag} {H : Hp} : ∀ (ds : List PyData) (vs : List V), DpAll K H vs ds → PyData.hasDictAll ds = false
  | [], _, _ => by simp only [PyData.hasDictAll]
  | d :: ds, _, h => by
    cases h with
    | cons a b =>
      simp only [PyData.hasDictAll, noDict d _ a, noDictAll ds _ b]
      rfl
end
theorem inv_more {pins : List (Addr × Obj)} {σ : L2.St} {H : Hp} {s : Shared} {h' : Heap} {tk : Nat} (I : Inv X pins σ H s) (k : ∀ b o, s.heap.get? b = some o → h'.get? b = some o) : Inv X pins σ H { s with heap := h', toks := tk } :=
  I.un (Un.kept k) (I.hok.kept k)
theorem call_repr (hg : Still X.A) (hu : X.A.units + 64 < cLine) : CallR X (.builtin "repr") (rRepr X.K) := by
  intro pins s σ H xs us Q I r h
  obtain ⟨v, d, rfl, hd, hs, hdp, hz, q⟩ := h
  obtain ⟨u, rfl, rv⟩ := vals1 r
  have nd := noDict d v hd
  obtain ⟨as, rd⟩ := Dp.reads I d v u hd rv
  have fin : ∀ (h' : Heap) (t tk : Tok), (∀ b o, s.heap.get? b = some o → h'.get? b = some o) → EP X pins σ Q (.str d.shown t) { s with heap := h', toks := tk } :=
    fun h' t tk k => ⟨.str d.shown, H, inv_more I k, ⟨t, rfl⟩, q⟩
  cases hd with
  | non =>
    cases rv
    exact PySem.P.repr_of_none (by simpa only [PyData.shown] using fin s.heap _ _ fun _ _ e => e)
  | bl b =>
    cases rv
    exact PySem.P.repr_of_bool (by simpa only [PyData.shown] using fin s.heap _ _ fun _ _ e => e)
  | int i =>
    obtain ⟨t, rfl⟩ := rv
    exact PySem.P.repr_of_int (by simpa [PyData.showable] using hs) (by simpa only [PyData.shown] using fin s.heap _ _ fun _ _ e => e)
  | str x =>
    obtain ⟨t, rfl⟩ := rv
    exact PySem.P.repr_of_str (by simpa only [PyData.shown] using fin s.heap _ _ fun _ _ e => e) (by simpa only [PyData.shown] using hz)
  | lst _ _ =>
    cases rv
    exact PySem.repr_of_reads' rd hs (PyData.noDict_hsm nd) hg (by omega) (fun _ _ e => e) (fun h' u tk k => fin h' u tk k) hz
  | tup _ _ =>
    cases rv
    exact PySem.repr_of_reads' rd hs (PyData.noDict_hsm nd) hg (by omega) (fun _ _ e => e) (fun h' u tk k => fin h' u tk k) hz
end
end My
set_option Elab.async false
set_option linter.all false
set_option maxRecDepth 100000
set_option maxHeartbeats 4000000
/-! The end of a law whose def shows values. -/
namespace My
open PySem PySem.Spec PyProof.Rows L2

section
variable {P : Program} {w : World} {K : PySem.W.Frag} {mg mb : Str → Option Value} {CX : CXT} {k : Nat} {fa a : Addr} {fd : FuncData} {x : Str} {sp : Sp} {s : Shared} {vs : List Value} {ns : List Int}
/-- what the law's call asks of the state behind the top -/
structure Behind (K : PySem.W.Frag) (mg mb : Str → Option Value) (a : Addr) (vs : List Value) (s : Shared) : Prop where
  kin : K.In s.heap
  glob : s.heap.Ns mainGlobals mg
  blt : s.heap.Ns builtinsNs mb
  boot : ∀ y : Str, y ≠ "__name__" → mb y = bootBuiltins y
  lim : s.heap.NoLimit
  gens : s.gens = #[]
  ob : s.heap.get? a = some { cls := .type "list", data := .seq vs.toArray }
/-- the abstract heap in which at most the script is tracked -/
structure Bare (K : PySem.W.Frag) (a : Addr) (H : Hp) : Prop where
  only : Only H
  at_ : ∀ b, H b ≠ none → b = a
  free : H a ≠ none → K.lookup a = none
theorem law_at (B : Behind K mg mb a vs s) (hr : Room k callerA) (F : ∀ base : Heap, K.In base → base.Ns mainGlobals mg → FnG P w K mg base CX k fa fd [x] sp)
    (bind : ∀ (s : Shared) (u : Value), BindsTo s fd ⟨[u], []⟩ [(x, u)]) (hCX : ∀ H e s', CX [] H s (fun _ _ _ => False) e s' → False)
    (H : Hp) (W : Bare K a H) (hok : HOk P w H s.heap) (hp : sp [.ref a] H (fun v _ => v = .bl true) fun _ _ _ => False) :
    codeAny (model P w) callerA (.call (.ref fa) ⟨[.ref a], []⟩) (fun r s' => r = .ok (.ret (.bool true)) ∧ OldK s.heap s'.heap ∧ s'.os = s.os ∧ AllBare s'.gens) s := by
  have apart : ∀ {b : Addr} {o : Obj}, s.heap.get? b = some o → (b = a → H a = none) → (hidT s.heap H).get? b = some o := fun {b o} e z => hidT_get e (by
    by_cases q : H b = none
    · exact q
    · have ba := W.at_ b q
      rw [ba]
      exact z ba)
  have ns : ∀ {b : Addr} {m : Str → Option Value}, s.heap.Ns b m → (hidT s.heap H).Ns b m := fun {b m} ⟨o, es, ep, e, d, r⟩ => ⟨o, es, ep, apart e (fun z => by
    subst z
    rw [B.ob] at e
    cases e
    exact absurd d (fun q => nomatch q)), d, r⟩
  have kb : K.In (hidT s.heap H) := fun b o e => apart (B.kin b o e) (fun z => by
    subst z
    by_cases q : H b = none
    · exact q
    · have := W.free q
      rw [e] at this
      cases this)
  have md : Mod K mg (hidT s.heap H) := ⟨kb, ns B.glob, ⟨mb, ns B.blt, B.boot⟩, match B.lim with | ⟨m, p, q⟩ => ⟨m, ns p, q⟩⟩
  have e0 : Env0 P w K mg (hidT s.heap H) callerA [] s H :=
    { frames := rfl, mod := md, bs := fun _ _ e => of_hidT e, bsz := Nat.le_of_eq (hidT_size _ _), funs := trivial, frf := fun _ z => (List.not_mem_nil z).elim, hok := hok, bare := .of_eq B.gens }
  refine codeAny_mono ((F _ kb (ns B.glob)).run callerA [] s H ⟨[.ref a], []⟩ [.ref a] [.ref a] _ _ rfl hr e0 (bind s (.ref a)) (.cons rfl .nil) hp) ?_
  intro res s' z
  match res, z with
  | .error e, z => exact (hCX H e s' z).elim
  | .ok .next, z => exact z.elim
  | .ok .brk, z => exact z.elim
  | .ok .cont, z => exact z.elim
  | .ok (.ret u), ⟨v, H', os, bare, un, hok', rv, q⟩ =>
    subst q
    cases (show u = Value.bool true from rv)
    refine ⟨rfl, OldK.of_keep fun b o e => ?_, os, bare⟩
    rcases W.only b with z | ⟨ob, xs, z⟩
    · exact un.keep b o e z List.not_mem_nil List.not_mem_nil
    · have h1 := (hok b _ z).1
      have h2 := (hok' b _ (un.frzs b ob _ z)).1
      rw [e] at h1
      cases h1
      exact h2
theorem law_endG (B : Behind K mg mb a vs s) (hi : IntsAre vs ns) (hl : ns.length ≤ sizeLine) (hr : Room k callerA)
    (F : ∀ base : Heap, K.In base → base.Ns mainGlobals mg → FnG P w K mg base CX k fa fd [x] sp) (bind : ∀ (s : Shared) (u : Value), BindsTo s fd ⟨[u], []⟩ [(x, u)])
    (hsp : ∀ H : Hp, Only H → SqL K H a (ns.map V.int) → sp [.ref a] H (fun v _ => v = .bl true) fun _ _ _ => False) (hCX : ∀ H e s', CX [] H s (fun _ _ _ => False) e s' → False) :
    codeAny (model P w) callerA (.call (.ref fa) ⟨[.ref a], []⟩) (fun r s' => r = .ok (.ret (.bool true)) ∧ OldK s.heap s'.heap ∧ s'.os = s.os ∧ AllBare s'.gens) s := by
  have rv := vals_ints hi
  have le := hi.length
  have lm : (ns.map V.int).length ≤ sizeLine := by
    rw [List.length_map]
    exact hl
  cases q : K.lookup a with
  | some o =>
    have e := B.kin a o q
    rw [B.ob] at e
    cases e
    have hS : SqL K (fun _ => none) a (ns.map V.int) := .inr ⟨_, vs.toArray, _, q, rfl, rfl, rfl, by simpa using (le ▸ hl), by simpa using rv⟩
    exact law_at B hr F bind hCX (fun _ => none) ⟨fun _ => .inl rfl, fun _ z => absurd rfl z, fun z => absurd rfl z⟩ (fun _ _ z => nomatch z) (hsp _ (fun _ => .inl rfl) hS)
  | none =>
    let fz : HO := .frz { cls := .type "list", data := .seq vs.toArray } (.lst (ns.map V.int))
    have oth : ∀ b, b ≠ a → (fun c => if c = a then some fz else none : Hp) b = none := fun b z => if_neg z
    have own : (fun c => if c = a then some fz else none : Hp) a = some fz := if_pos rfl
    have on : Only (fun c => if c = a then some fz else none) := fun b => (Decidable.em (b = a)).elim (fun z => .inr ⟨{ cls := .type "list", data := .seq vs.toArray }, ns.map V.int, if_pos z⟩) fun z => .inl (oth b z)
    refine law_at B hr F bind hCX _ ⟨on, fun b z => Decidable.byContradiction fun y => z (oth b y), fun _ => q⟩ (fun b u z => ?_) (hsp _ on (.inl (.inr ⟨_, own⟩)))
    by_cases y : b = a
    · subst y
      rw [if_pos rfl] at z
      cases z
      exact ⟨B.ob, lm, vs, _, rv, B.ob⟩
    · rw [if_neg y] at z
      cases z
end
/-- the goal that the head leaves, from a promise that may lean on «nothing is being shown»; the script's bits are told -/
theorem walk_G {l : PySem.W.OpenLaw} {n k : Nat} {q : Program} {loose : List Str} {XP : (Str → Option Value) → Heap → Prop} {YP : World → Heap → Prop} {d : DefRec} {K : Params → PySem.W.Frag} {sp : PySem.W.Frag → Sp} {x : Str}
    (hn : l.most = some n) (h2 : n ≤ sizeLine) (hd : d.params.defaults = []) (hr : Room k callerA) (hY : ∀ (w : World) (h : Heap), YP w h → (K w.params).In h)
    (F : ∀ (w : World) (mg : Str → Option Value) (fa : Addr) (h : Heap), (K w.params).In h → h.Ns mainGlobals mg → mg d.name = some (.ref fa) →
      ∃ fd : FuncData, (∀ (s : Shared) (u : Value), BindsTo s fd ⟨[u], []⟩ [(x, u)]) ∧ ∀ base : Heap, (K w.params).In base → base.Ns mainGlobals mg → FnG l.prog w (K w.params) mg base CX0 k fa fd [x] (sp (K w.params)))
    (hsp : ∀ (K : PySem.W.Frag) (H : Hp) (a : Addr) (ns : List Int), ns.length ≤ n → (∀ z ∈ ns, Builtin.Int.intBits z ≤ 1048576) → SqL K H a (ns.map V.int) → sp K [.ref a] H (fun v _ => v = .bl true) fun _ _ _ => False) :
    PySem.W.WalkO q loose XP YP l.row.toRowW d [] (fun f vs => PySem.call f vs) :=
  Att.attach_callB hn hd fun w s₀ s mg mb fa o pm cd doc a vs ns G Y _ _ _ hmg hob hi hl hb hg =>
    let ⟨_, bd, hF⟩ := F w mg fa _ (hY w _ Y) G.T.g hmg
    law_endG ⟨hY w _ Y, G.T.g, G.T.b, G.T.builtins, G.T.nolimit, hg, hob⟩ hi (Nat.le_trans hl h2) hr hF bd (fun H _ hS => hsp _ H a ns hl hb hS) fun _ _ _ z => z
end My
set_option Elab.async false
set_option linter.all false
set_option maxRecDepth 100000
set_option maxHeartbeats 4000000
namespace My
open PySem PySem.Spec PyProof.Rows L2
def topS (i : Nat) : Stmt := PySem.Challenge.pw_shuntplan_k48_exchanges_refused.main.body.getD i (.Pass ⟨0, 0, 0, 0⟩)
abbrev sInvInit : Stmt := inClass (topS 1) 0
abbrev sInvalidOrderInit : Stmt := inClass (topS 2) 0
abbrev sInvalidExchangeInit : Stmt := inClass (topS 3) 0
abbrev sInvalidNumberInit : Stmt := inClass (topS 4) 0
abbrev sIsInt : Stmt := topS 9
abbrev sIsName : Stmt := topS 10
abbrev sIsNameList : Stmt := topS 12
abbrev sCheckOrder : Stmt := topS 15
abbrev sIsExchange : Stmt := topS 16
abbrev sAfterExchange : Stmt := topS 17
abbrev sExchangedOrder : Stmt := topS 18
abbrev sPen : Stmt := topS 20
abbrev sDraw : Stmt := topS 21
abbrev sPick : Stmt := topS 22
abbrev sShuf : Stmt := topS 23
abbrev sWag : Stmt := topS 24
abbrev sLSwaps : Stmt := topS 25
abbrev sLName : Stmt := topS 26
abbrev sLIsOrder : Stmt := topS 27
abbrev sLIsSwap : Stmt := topS 28
abbrev sLOddOrder : Stmt := topS 29
abbrev sRefd : Stmt := topS 30
abbrev sLOddSwap : Stmt := topS 31
abbrev sLaw : Stmt := topS 32
theorem scInvInit : FnScope ["self", "value"] ["self", "value"] (defScope sInvInit) := ⟨rfl, rfl, rfl, by decide +kernel, rfl, by decide +kernel, by decide +kernel⟩
theorem scInvalidOrderInit : FnScope ["self", "value"] ["self", "value"] (defScope sInvalidOrderInit) := ⟨rfl, rfl, rfl, by decide +kernel, rfl, by decide +kernel, by decide +kernel⟩
theorem scInvalidExchangeInit : FnScope ["self", "value"] ["self", "value"] (defScope sInvalidExchangeInit) := ⟨rfl, rfl, rfl, by decide +kernel, rfl, by decide +kernel, by decide +kernel⟩
theorem scInvalidNumberInit : FnScope ["self", "value"] ["self", "value"] (defScope sInvalidNumberInit) := ⟨rfl, rfl, rfl, by decide +kernel, rfl, by decide +kernel, by decide +kernel⟩
theorem scIsInt : FnScope ["value"] ["value"] (defScope sIsInt) := ⟨rfl, rfl, rfl, by decide +kernel, rfl, by decide +kernel, by decide +kernel⟩
theorem scIsName : FnScope ["value", "letter"] ["value"] (defScope sIsName) := ⟨rfl, rfl, rfl, by decide +kernel, rfl, by decide +kernel, by decide +kernel⟩
theorem scIsNameList : FnScope ["value", "name"] ["value"] (defScope sIsNameList) := ⟨rfl, rfl, rfl, by decide +kernel, rfl, by decide +kernel, by decide +kernel⟩
theorem scCheckOrder : FnScope ["value"] ["value"] (defScope sCheckOrder) := ⟨rfl, rfl, rfl, by decide +kernel, rfl, by decide +kernel, by decide +kernel⟩
theorem scIsExchange : FnScope ["value", "length", "i", "j", "k", "l", "index"] ["value", "length"] (defScope sIsExchange) := ⟨rfl, rfl, rfl, by decide +kernel, rfl, by decide +kernel, by decide +kernel⟩
theorem scAfterExchange : FnScope ["things", "exchange", "i", "j", "k", "l"] ["things", "exchange"] (defScope sAfterExchange) := ⟨rfl, rfl, rfl, by decide +kernel, rfl, by decide +kernel, by decide +kernel⟩
theorem scExchangedOrder : FnScope ["order", "exchange"] ["order", "exchange"] (defScope sExchangedOrder) := ⟨rfl, rfl, rfl, by decide +kernel, rfl, by decide +kernel, by decide +kernel⟩
theorem scPen : FnScope ["script"] ["script"] (defScope sPen) := ⟨rfl, rfl, rfl, by decide +kernel, rfl, by decide +kernel, by decide +kernel⟩
theorem scDraw : FnScope ["pen", "size", "digit", "turn", "cell", "primes", "prime", "mixed"] ["pen", "size"] (defScope sDraw) := ⟨rfl, rfl, rfl, by decide +kernel, rfl, by decide +kernel, by decide +kernel⟩
theorem scPick : FnScope ["pen", "options"] ["pen", "options"] (defScope sPick) := ⟨rfl, rfl, rfl, by decide +kernel, rfl, by decide +kernel, by decide +kernel⟩
theorem scShuf : FnScope ["pen", "some", "left", "found"] ["pen", "some"] (defScope sShuf) := ⟨rfl, rfl, rfl, by decide +kernel, rfl, by decide +kernel, by decide +kernel⟩
theorem scWag : FnScope ["pen", "many", "letters", "k", "front", "first", "step", "found", "place"] ["pen", "many"] (defScope sWag) := ⟨rfl, rfl, rfl, by decide +kernel, rfl, by decide +kernel, by decide +kernel⟩
theorem scLSwaps : FnScope ["many", "found", "first", "behind", "second", "end"] ["many"] (defScope sLSwaps) := ⟨rfl, rfl, rfl, by decide +kernel, rfl, by decide +kernel, by decide +kernel⟩
theorem scLName : FnScope ["value", "sign"] ["value"] (defScope sLName) := ⟨rfl, rfl, rfl, by decide +kernel, rfl, by decide +kernel, by decide +kernel⟩
theorem scLIsOrder : FnScope ["value", "one"] ["value"] (defScope sLIsOrder) := ⟨rfl, rfl, rfl, by decide +kernel, rfl, by decide +kernel, by decide +kernel⟩
theorem scLIsSwap : FnScope ["value", "many", "one"] ["value", "many"] (defScope sLIsSwap) := ⟨rfl, rfl, rfl, by decide +kernel, rfl, by decide +kernel, by decide +kernel⟩
theorem scLOddOrder : FnScope ["pen", "some", "names", "at", "bad", "more", "options", "letter"] ["pen", "some"] (defScope sLOddOrder) := ⟨rfl, rfl, rfl, by decide +kernel, rfl, by decide +kernel, by decide +kernel⟩
theorem scRefd : FnScope ["call", "kept", "e"] ["call"] (defScope sRefd) := ⟨rfl, rfl, rfl, by decide +kernel, rfl, by decide +kernel, by decide +kernel⟩
theorem scLOddSwap : FnScope ["pen", "many", "swaps", "one", "at", "numbers", "bent", "options"] ["pen", "many"] (defScope sLOddSwap) := ⟨rfl, rfl, rfl, by decide +kernel, rfl, by decide +kernel, by decide +kernel⟩
theorem scLaw : FnScope ["script", "pen", "turn", "names", "again", "kept", "due", "some", "swap"] ["script"] (defScope sLaw) := ⟨rfl, rfl, rfl, by decide +kernel, rfl, by decide +kernel, by decide +kernel⟩
end My
set_option Elab.async false
set_option linter.all false
set_option maxRecDepth 100000
set_option maxHeartbeats 4000000
namespace My
open PySem PySem.Spec PyProof.Rows L2

/-! ### the pen: where the drawing stands -/
def kCells : Key := .inr "cells"
def kTurn : Key := .inr "turn"
def kRest : Key := .inr "rest"
theorem k12 : ¬ kCells = kTurn := by decide +kernel
theorem k13 : ¬ kCells = kRest := by decide +kernel
theorem k23 : ¬ kTurn = kRest := by decide +kernel
def penL (c : Addr) (t r : Int) : List (Key × V) := [(kCells, .ref c), (kTurn, .int t), (kRest, .int r)]
theorem penL_cells (c : Addr) (t r : Int) : valV (penL c t r) kCells = some (.ref c) := valV_pos (p := (kCells, V.ref c)) rfl
theorem penL_turn (c : Addr) (t r : Int) : valV (penL c t r) kTurn = some (.int t) := (valV_neg (p := (kCells, V.ref c)) k12).trans (valV_pos (p := (kTurn, V.int t)) rfl)
theorem penL_rest (c : Addr) (t r : Int) : valV (penL c t r) kRest = some (.int r) :=
  ((valV_neg (p := (kCells, V.ref c)) k13).trans (valV_neg (p := (kTurn, V.int t)) k23)).trans (valV_pos (p := (kRest, V.int r)) rfl)
theorem put_turn (c : Addr) (t r y : Int) : putK (penL c t r) kTurn (.int y) = penL c y r := by
  unfold putK penL
  rw [if_pos (by simp)]
  simp only [List.map_cons, List.map_nil]
  rw [if_neg k12, if_pos trivial, if_neg fun z => k23 z.symm]
theorem put_rest (c : Addr) (t r y : Int) : putK (penL c t r) kRest (.int y) = penL c t y := by
  unfold putK penL
  rw [if_pos (by simp)]
  simp only [List.map_cons, List.map_nil]
  rw [if_neg k13, if_neg k23, if_pos trivial]
/-- at most n draws were made; the cells stand at c -/
structure PenAt (H : Hp) (p c : Addr) (n : Nat) : Prop where
  ex : ∃ (ns : List Int) (t r : Int), H p = some (.dK (penL c t r)) ∧ H c = some (.lst (ns.map V.int)) ∧ ns.length ≤ 63 ∧ 0 ≤ t ∧ t ≤ n
theorem PenAt.mono {H : Hp} {p c : Addr} {n m : Nat} (h : PenAt H p c n) (k : n ≤ m) : PenAt H p c m := let ⟨⟨ns, t, r, a, b, d, e, f⟩⟩ := h; ⟨⟨ns, t, r, a, b, d, e, by omega⟩⟩
theorem PenAt.ne {H : Hp} {p c : Addr} {n : Nat} (h : PenAt H p c n) : c ≠ p := let ⟨⟨_, _, _, a, b, _⟩⟩ := h; ne_of b a (fun z => nomatch z)
theorem penAt_of {H : Hp} {p c : Addr} {n : Nat} {kvs : List (Key × V)} {ns : List Int} {t r : Int} (e : kvs = penL c t r) (h : H p = some (.dK kvs)) (hc : H c = some (.lst (ns.map V.int))) (hl : ns.length ≤ 63) (h0 : 0 ≤ t) (h1 : t ≤ n) : PenAt H p c n :=
  ⟨⟨ns, t, r, e ▸ h, hc, hl, h0, h1⟩⟩
/-- all that was tracked is as it was, but the pen -/
def SameP (p : Addr) (H H' : Hp) : Prop := ∀ b o, b ≠ p → H b = some o → H' b = some o
theorem SameP.refl (p : Addr) (H : Hp) : SameP p H H := fun _ _ _ h => h
theorem SameP.trans {p : Addr} {H H1 H2 : Hp} (a : SameP p H H1) (b : SameP p H1 H2) : SameP p H H2 := fun c o n h => b c o n (a c o n h)
theorem SameP.of {p : Addr} {H H' : Hp} (a : Same H H') : SameP p H H' := fun c o _ h => a c o h
theorem same_new {H : Hp} {q : Addr} {o : HO} (h : H q = none) : Same H (upd H q o) := fun b x e => by rw [upd_ne (ne_of_none e h)]; exact e
theorem SameP.new {p : Addr} {H : Hp} {q : Addr} {o : HO} (h : H q = none) : SameP p H (upd H q o) := .of (same_new h)
theorem SameP.pen {p : Addr} {H : Hp} {o : HO} : SameP p H (upd H p o) := fun b x n e => by rw [upd_ne n]; exact e
theorem PenAt.same {H H' : Hp} {p c : Addr} {n : Nat} (h : PenAt H p c n) (s : Same H H') : PenAt H' p c n := let ⟨⟨ns, t, r, a, b, d, e, f⟩⟩ := h; ⟨⟨ns, t, r, s _ _ a, s _ _ b, d, e, f⟩⟩

/-! ### the draw's numbers -/
theorem mod_lo (a : Int) {b : Int} (h : 0 < b) : 0 ≤ a % b := Int.emod_nonneg a (by omega)
theorem mod_hi (a : Int) {b : Int} (h : 0 < b) : a % b < b := Int.emod_lt_of_pos a h
def primesL : List Int := [2147483629, 2147483647, 2147483563, 2147483587, 2147483579]
theorem prime_at (t : Int) : ∃ q : Int, atI (primesL.map V.int) (t % 5) = some (.int q) ∧ 0 < q ∧ q < 2147483648 := by
  have h1 := mod_lo t (b := 5) (by decide)
  have h2 := mod_hi t (b := 5) (by decide)
  have h3 : t % 5 = 0 ∨ t % 5 = 1 ∨ t % 5 = 2 ∨ t % 5 = 3 ∨ t % 5 = 4 := by omega
  rcases h3 with e | e | e | e | e <;> rw [e]
  · exact ⟨2147483629, rfl, by decide, by decide⟩
  · exact ⟨2147483647, rfl, by decide, by decide⟩
  · exact ⟨2147483563, rfl, by decide, by decide⟩
  · exact ⟨2147483587, rfl, by decide, by decide⟩
  · exact ⟨2147483579, rfl, by decide, by decide⟩
theorem cmul_l {i j : Int} (h0 : 0 ≤ i) (h1 : i ≤ 10 ^ 19) : CMul i j := .inl ⟨by omega, by
  have h : (10 : Int) ^ 19 < 2 ^ 64 := by decide
  exact Int.lt_of_le_of_lt h1 h⟩

/-! ### lists of ints as data -/
theorem dp_ints (K : PySem.W.Frag) (H : Hp) : ∀ ns : List Int, DpAll K H (ns.map V.int) (ns.map PyData.int)
  | [] => .nil
  | n :: r => .cons (.int n) (dp_ints K H r)
theorem lay_ints : ∀ ns : List Int, PyData.canLayAll0 (ns.map PyData.int) = true
  | [] => by simp only [List.map_nil, PyData.canLayAll0]
  | n :: r => by simp only [List.map_cons, PyData.canLayAll0, PyData.canLay0, lay_ints r, Bool.and_self]
theorem depth_ints : ∀ ns : List Int, PyData.depthAll (ns.map PyData.int) = 0
  | [] => by simp only [List.map_nil, PyData.depthAll]
  | n :: r => by simp only [List.map_cons, PyData.depthAll, PyData.depth, depth_ints r, Nat.max_self]
theorem shaped_ints (ns : List Int) : SeqAt.shaped (.list (ns.map PyData.int)) = true := by
  unfold SeqAt.shaped
  simp only [PyData.canLay0, lay_ints, PyData.depth, depth_ints]
  decide
theorem eqv_nil (ds : List PyData) : PyData.eqv (.list ds) (.list []) = ds.isEmpty := by
  cases ds <;> simp only [PyData.eqv, PyData.eqvAll, List.isEmpty]

section
variable {P : Program} {w : World} {K : PySem.W.Frag} {mg : Str → Option Value} {base : Heap}
/-- a number below size is drawn; nothing but the pen is touched -/
def spDraw : Sp := fun vs H Q _ => ∃ (p c : Addr) (n : Nat) (size : Int), vs = [.ref p, .int size] ∧ PenAt H p c n ∧ n ≤ 1000000000 ∧ 0 < size ∧ size < 1073741824 ∧
  ∀ (d : Int) (H' : Hp), 0 ≤ d → d < size → SameP p H H' → PenAt H' p c (n + 1) → Q (.int d) H'
theorem ok_draw {f : Addr} {fd : FuncData} {k : Nat} (F : Fun K "_law_draw" "_law_draw" sDraw f fd) (ml : mg "len" = none) (ma : mg "abs" = none) : FnOk P w K mg base CX0 (k + 1) f fd ["pen", "size"] spDraw := by
  refine F.ok scDraw (fun vs H Q E h => ?_) (fun cdv A outer s H vs Q E hr h => ?_)
  · obtain ⟨p, c, n, size, rfl, _⟩ := h
    rfl
  · obtain ⟨p, c, n, size, rfl, ⟨⟨ns, t, r, hp, hc, hlen, t0, tn⟩⟩, hn, s0, s1, q⟩ := h
    have hu := hu_of hr
    have hcp : c ≠ p := ne_of hc hp (fun z => nomatch z)
    refine ⟨_, pss_cons (ps_if (pt_cmpR op_gt (pe_dget hu (pv 0) pe_str (fun _ _ => rfl)) pe_int (nomark _))
        (pss_cons (ps_set (i := 2) scDraw.nd rfl (.inl rfl) (pe_op op_mod (pe_dget hu (pv 0) pe_str (fun _ _ => rfl)) (pv 1)))
        (pss_cons (ps_dput hu (pv 0) pe_str (pe_op op_fdiv (pe_dget hu (pv 0) pe_str (fun _ _ => rfl)) (pv 1)) rfl)
        (pss_one (ps_ret (pv 2))))) pss_nil)
      (pss_cons (ps_set (i := 3) scDraw.nd rfl (.inl rfl) (pe_dget hu (pv 0) pe_str (fun _ _ => rfl)))
      (pss_cons (ps_dput hu (pv 0) pe_str (pe_op op_add (pv 3) pe_int) rfl)
      (pss_cons (ps_set (i := 4) scDraw.nd rfl (.inl rfl) (pe_op op_add (pe_op op_mul pe_int (pv 3)) pe_int))
      (Evl.pss_cut (ps_if (pt_cmpR (op_neD hr.units) (pe_dget hu (pv 0) pe_str (fun _ _ => rfl)) (pe_lst pa_nil) (nomark _))
        (pss_one (ps_set (i := 4) scDraw.nd rfl (.inl rfl) (pe_ix ix_list (pe_dget hu (pv 0) pe_str (fun _ _ => rfl)) (pe_op op_mod (pv 3) (pe_callB call_len_seq (by rfl) ml PySem.boot_len (pa_cons (pe_dget hu (pv 0) pe_str (fun _ _ => rfl)) pa_nil))) (fun _ _ => rfl)))) pss_nil)
      (Evl.pss_cut (ps_if (PW.pt (pw_and (pt_cmpR op_lt (pv 3) (pe_callB call_len_seq (by rfl) ml PySem.boot_len (pa_cons (pe_dget hu (pv 0) pe_str (fun _ _ => rfl)) pa_nil)) (nomark _))
            (pw_and1 (pt_cmpR op_ge (pe_callB call_abs (by rfl) ma (by decide +kernel) (pa_cons (pv 4) pa_nil)) (pe_op op_pow pe_int pe_int) (nomark _)))))
          (pss_cons (ps_dput hu (pv 0) pe_str (pe_op op_fdiv (pe_op op_sub (pe_callB call_abs (by rfl) ma (by decide +kernel) (pa_cons (pv 4) pa_nil)) (pe_op op_pow pe_int pe_int)) (pv 1)) rfl)
          (pss_one (ps_ret (pe_op op_mod (pe_op op_sub (pe_callB call_abs (by rfl) ma (by decide +kernel) (pa_cons (pv 4) pa_nil)) (pe_op op_pow pe_int pe_int)) (pv 1))))) pss_nil)
      (pss_cons (ps_set (i := 5) scDraw.nd rfl (.inl rfl) (pe_lst (pa_cons pe_int (pa_cons pe_int (pa_cons pe_int (pa_cons pe_int (pa_cons pe_int pa_nil)))))))
      (pss_cons (ps_set (i := 6) scDraw.nd rfl (.inl rfl) (pe_ix ix_list (pv 5) (pe_op op_mod (pv 3) pe_int) (fun _ _ => rfl)))
      (pss_cons (ps_set (i := 7) scDraw.nd rfl (.inl rfl) (pe_op op_mod (pe_op op_add (pe_op op_add (pe_op op_add (pe_op op_mul (pe_op op_mod (pv 4) pe_int) pe_int) (pe_op op_mul (pe_op op_mul pe_int (pv 3)) (pv 3))) (pe_op op_mul pe_int (pv 3))) pe_int) (pv 6)))
      (pss_cons (ps_set (i := 7) scDraw.nd rfl (.inl rfl) (pe_op op_mod (pe_op op_add (pe_op op_add (pe_op op_add (pe_op op_mul (pv 7) (pv 7)) (pe_op op_mul pe_int (pv 7))) (pe_op op_mul pe_int (pv 3))) pe_int) pe_int))
      (pss_one (ps_ret (pe_op op_mod (pe_op op_fdiv (pe_op op_mod (pe_op op_mul (pv 7) (pe_op op_add (pv 7) pe_int)) pe_int) pe_int) (pv 1))))))))))))), ?_⟩
    -- if pen['rest'] > 0
    refine ⟨_, rfl, p, _, rfl, penL_rest c t r ▸ DGet.k (k := kRest) hp, r, 0, rfl, rfl, _, rfl, ite2 (fun _ => ?_) (fun _ => ?_)⟩
    · refine ⟨_, rfl, p, _, rfl, penL_rest c t r ▸ DGet.k (k := kRest) hp, _, rfl, r, size, rfl, rfl, s0, ?_⟩
      refine ⟨_, rfl, p, _, rfl, penL_rest c t r ▸ DGet.k (k := kRest) hp, _, rfl, r, size, rfl, rfl, ⟨s0, s1⟩, _, rfl, p, _, rfl, DPut.k (k := kRest) hp (by show 3 < sizeLine; decide), ?_⟩
      exact ⟨_, rfl, q _ _ (mod_lo r s0) (mod_hi r s0) SameP.pen (penAt_of (put_rest c t r _) upd_same ((upd_ne hcp).trans hc) hlen t0 (by omega))⟩
    -- turn = pen['turn']; pen['turn'] = turn + 1; cell = 61 * turn + 17
    · refine ⟨_, rfl, p, _, rfl, penL_turn c t r ▸ DGet.k (k := kTurn) hp, ?_⟩
      refine ⟨_, rfl, _, _, rfl, rfl, _, rfl, p, _, rfl, DPut.k (k := kTurn) hp (by show 3 < sizeLine; decide), ?_⟩
      rw [put_turn]
      generalize hH1 : upd H p (.dK (penL c (t + 1) r)) = H1
      have p1 : H1 p = some (.dK (penL c (t + 1) r)) := by rw [← hH1, upd_same]
      have c1 : H1 c = some (.lst (ns.map V.int)) := by rw [← hH1, upd_ne hcp]; exact hc
      have sm : SameP p H H1 := by rw [← hH1]; exact SameP.pen
      refine ⟨_, rfl, _, _, rfl, rfl, .inl ⟨by decide, by decide⟩, _, _, rfl, rfl, ?_⟩
      -- if pen['cells'] != []
      refine ⟨fun σ H2 => ∃ cell : Int, σ = [some (.ref p), some (.int size), none, some (.int t), some (.int cell), none, none, none] ∧ Same H1 H2, ?_, ?_⟩
      · refine ⟨_, rfl, p, _, rfl, penL_cells c (t + 1) r ▸ DGet.k (k := kCells) p1, by show 0 ≤ sizeLine; decide, fun l hl => ?_⟩
        have sl : Same H1 (upd H1 l (.lst [])) := same_new hl
        have c2 := sl _ _ c1
        have p2 := sl _ _ p1
        refine ⟨.list (ns.map PyData.int), .list [], .lst (.inl (.inl c2)) (dp_ints K _ ns), .lst (.inl (.inl upd_same)) .nil, shaped_ints ns, shaped_ints [], _, rfl, ?_⟩
        rw [eqv_nil]
        cases ns with
        | nil => exact iteF ⟨_, rfl, sl⟩
        | cons n0 nr =>
          refine iteT ?_
          have lp : (0 : Int) < (((n0 :: nr).map V.int).length : Int) := by simp
          obtain ⟨j, hj⟩ : ∃ j : Nat, t % (((n0 :: nr).map V.int).length : Int) = (j : Int) := ⟨(t % (((n0 :: nr).map V.int).length : Int)).toNat, by have := mod_lo t lp; omega⟩
          have hjl : j < (n0 :: nr).length := by
            have h2 := mod_hi t lp
            rw [hj, List.length_map] at h2
            omega
          refine ⟨_, rfl, p, _, rfl, penL_cells c (t + 1) r ▸ DGet.k (k := kCells) p2, _, rfl, _, rfl, p, _, rfl, penL_cells c (t + 1) r ▸ DGet.k (k := kCells) p2, c, _, rfl, .inl (.inl (.inl c2)), t, _, rfl, rfl, lp, ?_⟩
          refine ⟨c, _, _, .int (n0 :: nr)[j], rfl, rfl, .inl (.inl c2), ?_, ⟨_, rfl, sl⟩⟩
          rw [hj]
          refine atI_nat ?_
          rw [List.getElem?_map, List.getElem?_eq_getElem hjl]
          rfl
      · -- if turn < len(cells) and abs(cell) >= 10 ** 18
        rintro σ H2 ⟨cell, rfl, s2⟩
        have c2 := s2 _ _ c1
        have p2 := s2 _ _ p1
        have sm2 : SameP p H H2 := sm.trans (.of s2)
        refine ⟨fun σ H3 => σ = [some (.ref p), some (.int size), none, some (.int t), some (.int cell), none, none, none] ∧ H3 = H2, ?_, ?_⟩
        · refine ⟨_, rfl, _, rfl, p, _, rfl, penL_cells c (t + 1) r ▸ DGet.k (k := kCells) p2, c, _, rfl, .inl (.inl (.inl c2)), _, _, rfl, rfl, _, rfl, ite2 (fun _ => ?_) (fun _ => iteF ⟨rfl, rfl⟩)⟩
          refine ⟨_, rfl, _, rfl, _, _, rfl, rfl, ⟨by decide, by decide, by decide⟩, _, _, rfl, rfl, _, rfl, ite2 (fun _ => ?_) (fun _ => ⟨rfl, rfl⟩)⟩
          refine ⟨_, rfl, _, rfl, _, _, rfl, rfl, ⟨by decide, by decide, by decide⟩, _, _, rfl, rfl, _, rfl, _, _, rfl, rfl, ⟨s0, s1⟩, _, rfl, p, _, rfl, DPut.k (k := kRest) p2 (by show 3 < sizeLine; decide), ?_⟩
          refine ⟨_, rfl, _, rfl, _, _, rfl, rfl, ⟨by decide, by decide, by decide⟩, _, _, rfl, rfl, _, rfl, _, _, rfl, rfl, s0, ?_⟩
          exact q _ _ (mod_lo _ s0) (mod_hi _ s0) (sm2.trans SameP.pen) (penAt_of (put_rest c (t + 1) r _) upd_same ((upd_ne hcp).trans c2) hlen (by omega) (by omega))
        · rintro σ H3 ⟨rfl, rfl⟩
          -- primes, prime
          refine ⟨by show 5 ≤ sizeLine; decide, fun l hl => ?_⟩
          have sl : Same H3 (upd H3 l (.lst (primesL.map V.int))) := same_new hl
          obtain ⟨pr, hpr, pr0, pr1⟩ := prime_at t
          refine ⟨_, rfl, _, rfl, t, 5, rfl, rfl, (by show (0 : Int) < 5; decide), l, primesL.map V.int, _, _, rfl, rfl, .inl (.inl upd_same), hpr, ?_⟩
          -- mixed
          have tb : t ≤ 1000000000 := by omega
          have m1 := mod_lo cell (b := 4294967291) (by decide)
          have m2 := mod_hi cell (b := 4294967291) (by decide)
          refine ⟨_, rfl, _, _, rfl, rfl, (by show (0 : Int) < 4294967291; decide), _, _, rfl, rfl, cmul_l m1 (by omega), _, rfl, _, _, rfl, rfl, cmul_l (by decide) (by decide), _, rfl, _, _, rfl, rfl, cmul_l (by omega) (by omega), _, _, rfl, rfl,
            _, rfl, _, _, rfl, rfl, cmul_l (by decide) (by decide), _, _, rfl, rfl, _, _, rfl, rfl, _, rfl, _, _, rfl, rfl, pr0, ?_⟩
          have lt1 : ∀ a : Int, a % pr ≤ 10 ^ 19 := fun a => Int.le_trans (Int.le_of_lt (mod_hi a pr0)) (by omega)
          have lt2 : ∀ a : Int, a % 4294967279 ≤ 10 ^ 19 := fun a => Int.le_trans (Int.le_of_lt (mod_hi a (by decide))) (by decide)
          refine ⟨_, rfl, _, rfl, _, _, rfl, rfl, cmul_l (mod_lo _ pr0) (lt1 _), _, rfl, _, _, rfl, rfl, cmul_l (by decide) (by decide), _, _, rfl, rfl, _, rfl, _, _, rfl, rfl, cmul_l (by decide) (by decide), _, _, rfl, rfl, _, _, rfl, rfl,
            _, _, rfl, rfl, (by show (0 : Int) < 4294967279; decide), ?_⟩
          refine ⟨_, rfl, _, rfl, _, _, rfl, rfl, _, _, rfl, rfl, cmul_l (mod_lo _ (by decide)) (lt2 _), _, _, rfl, rfl, (by show (0 : Int) < 4294967231; decide), _, _, rfl, rfl, ⟨by decide, by decide⟩, _, rfl, _, _, rfl, rfl, s0, ?_⟩
          exact q _ _ (mod_lo _ s0) (mod_hi _ s0) (sm2.trans (.of sl)) (penAt_of (t := t + 1) (r := r) rfl (sl _ _ p2) (sl _ _ c2) hlen (by omega) (by omega))
end
/-! ### what stays when a pen draws -/
theorem sameP_ne {p c : Addr} {H : Hp} {n : Nat} (g : PenAt H p c n) {a : Addr} {o : HO} (e : H a = some o) (h : ∀ kvs, o ≠ .dK kvs) : a ≠ p := by
  obtain ⟨⟨_, _, _, hp, _⟩⟩ := g
  rintro rfl
  rw [e] at hp
  exact h _ (Option.some.inj hp)
section
variable {K : PySem.W.Frag} {H H' : Hp} {p c : Addr} {n : Nat}
theorem SameP.lst (s : SameP p H H') (g : PenAt H p c n) {a : Addr} {xs : List V} (e : H a = some (.lst xs)) : H' a = some (.lst xs) := s _ _ (sameP_ne g e fun _ z => nomatch z) e
theorem SameP.tup (s : SameP p H H') (g : PenAt H p c n) {a : Addr} {xs : List V} (e : H a = some (.tup xs)) : H' a = some (.tup xs) := s _ _ (sameP_ne g e fun _ z => nomatch z) e
theorem SameP.sqL (s : SameP p H H') (g : PenAt H p c n) {a : Addr} {xs : List V} (e : SqL K H a xs) : SqL K H' a xs := by
  rcases e with (e | ⟨o, e⟩) | e
  · exact .inl (.inl (s.lst g e))
  · exact .inl (.inr ⟨o, s _ _ (sameP_ne g e fun _ z => nomatch z) e⟩)
  · exact .inr e
theorem SameP.sqT (s : SameP p H H') (g : PenAt H p c n) {a : Addr} {xs : List V} (e : SqT K H a xs) : SqT K H' a xs := by
  rcases e with (e | ⟨o, e⟩) | e
  · exact .inl (.inl (s.tup g e))
  · exact .inl (.inr ⟨o, s _ _ (sameP_ne g e fun _ z => nomatch z) e⟩)
  · exact .inr e
/-- lists and tuples that were read are read so again -/
structure Keeps (K : PySem.W.Frag) (H H' : Hp) : Prop where
  l : ∀ a xs, SqL K H a xs → SqL K H' a xs
  t : ∀ a xs, SqT K H a xs → SqT K H' a xs
theorem SameP.keeps (s : SameP p H H') (g : PenAt H p c n) : Keeps K H H' := ⟨fun _ _ e => s.sqL g e, fun _ _ e => s.sqT g e⟩
theorem _root_.L2.Same.keeps (s : Same H H') : Keeps K H H' := ⟨fun _ _ e => s.seq e, fun a xs e => by
  rcases e with (e | ⟨o, e⟩) | e
  · exact .inl (.inl (s _ _ e))
  · exact .inl (.inr ⟨o, s _ _ e⟩)
  · exact .inr e⟩
mutual
theorem dp_keep (s : Keeps K H H') : ∀ (d : PyData) (v : V), Dp K H v d → Dp K H' v d
  | .none, _, h => by cases h; exact .non
  | .bool _, _, h => by cases h; exact .bl _
  | .int _, _, h => by cases h; exact .int _
  | .str _, _, h => by cases h; exact .str _
  | .list ds, _, h => by
    cases h with
    | lst a b => exact .lst (s.l _ _ a) (dp_keepAll s ds _ b)
  | .tuple ds, _, h => by
    cases h with
    | tup a b => exact .tup (s.t _ _ a) (dp_keepAll s ds _ b)
  | .dict _, _, h => by cases h
theorem dp_keepAll (s : Keeps K H H') : ∀ (ds : List PyData) (vs : List V), DpAll K H vs ds → DpAll K H' vs ds
  | [], _, h => by cases h; exact .nil
  | d :: ds, _, h => by
    cases h with
    | cons a b => exact .cons (dp_keep s d _ a) (dp_keepAll s ds _ b)
end
/-- a list, a tuple, a text, by its items -/
inductive SeqOf (K : PySem.W.Frag) (H : Hp) : V → List V → Prop
  | lst {a : Addr} {xs : List V} : SqL K H a xs → SeqOf K H (.ref a) xs
  | tup {a : Addr} {xs : List V} : SqT K H a xs → SeqOf K H (.ref a) xs
  | str {z : Str} : z.length ≤ sizeLine → SeqOf K H (.str z) (z.cps.toList.map fun c => .str ⟨#[c]⟩)
theorem SeqOf.keep (s : Keeps K H H') {x : V} {xs : List V} (h : SeqOf K H x xs) : SeqOf K H' x xs := by
  cases h with
  | lst e => exact .lst (s.l _ _ e)
  | tup e => exact .tup (s.t _ _ e)
  | str e => exact .str e
theorem SeqOf.len {x : V} {xs : List V} (h : SeqOf K H x xs) : LenV K x H xs.length := by
  cases h with
  | lst e => exact .inl ⟨_, e, rfl⟩
  | tup e => exact .inr ⟨_, e, rfl⟩
  | @str z e =>
    refine ⟨e, ?_⟩
    rw [List.length_map, Array.length_toList]
    rfl
theorem SeqOf.ix {x : V} {xs : List V} (h : SeqOf K H x xs) {i : Nat} {v : V} (hi : xs[i]? = some v) {Q : VK} (q : Q v H) : rIx K x (.int i) H Q := by
  cases h with
  | lst e => exact .inl ⟨_, _, _, _, rfl, rfl, e, atI_nat hi, q⟩
  | tup e => exact .inr (.inl ⟨_, _, _, _, rfl, rfl, e, atI_nat hi, q⟩)
  | @str z e =>
    rw [List.getElem?_map] at hi
    obtain ⟨cd, h1, rfl⟩ := Option.map_eq_some_iff.mp hi
    exact .inr (.inr ⟨_, _, _, rfl, rfl, e, atI_nat h1, q⟩)
end

section
variable {P : Program} {w : World} {K : PySem.W.Frag} {mg : Str → Option Value} {base : Heap}
/-- one of the options -/
def spPick (K : PySem.W.Frag) : Sp := fun vs H Q _ => ∃ (p c : Addr) (n : Nat) (o : V) (xs : List V), vs = [.ref p, o] ∧ PenAt H p c n ∧ n ≤ 1000000000 ∧ SeqOf K H o xs ∧ 0 < xs.length ∧ xs.length < 1073741824 ∧
  ∀ (i : Nat) (v : V) (H' : Hp), xs[i]? = some v → SameP p H H' → PenAt H' p c (n + 1) → Q v H'
theorem ok_pick {f fD : Addr} {fd fdD : FuncData} {k : Nat} (F : Fun K "_law_pick" "_law_pick" sPick f fd) (ml : mg "len" = none) (GD : FnOk P w K mg base CX0 k fD fdD ["pen", "size"] spDraw) (gD : mg "_law_draw" = some (.ref fD)) (kD : PySem.W.keepIn K (.ref fD) = true)
    (bD : Binds K fdD ["pen", "size"] []) : FnOk P w K mg base CX0 (k + 1) f fd ["pen", "options"] (spPick K) := by
  refine F.ok scPick (fun vs H Q E h => ?_) (fun cdv A outer s H vs Q E hr h => ?_)
  · obtain ⟨p, c, n, o, xs, rfl, _⟩ := h
    rfl
  · obtain ⟨p, c, n, o, xs, rfl, G, hn, hx, h0, h1, q⟩ := h
    refine ⟨_, pss_one (ps_ret (pe_ix ix_seq (pv 1) (pe_call GD hr (by rfl) gD kD bD .nil pass0 (pa_cons (pv 0) (pa_cons (pe_callB call_len (by rfl) ml PySem.boot_len (pa_cons (pv 1) pa_nil)) pa_nil))) (fun _ _ => rfl))), ?_⟩
    refine ⟨_, rfl, _, rfl, _, rfl, o, xs.length, rfl, hx.len, p, c, n, _, rfl, G, hn, by omega, by omega, fun d H' d0 d1 s G' => ?_⟩
    obtain ⟨i, rfl⟩ : ∃ i : Nat, d = (i : Int) := ⟨d.toNat, by omega⟩
    have hi : i < xs.length := by omega
    exact SeqOf.ix (hx.keep (s.keeps G)) (List.getElem?_eq_getElem hi) (q i _ H' (List.getElem?_eq_getElem hi) s G')
end
end My
set_option Elab.async false
set_option linter.all false
set_option maxRecDepth 100000
set_option maxHeartbeats 4000000
/-! xs != [], t != (), == likewise, whatever the items are. -/
namespace My
open PySem PySem.Spec PyProof.Rows L2 SeqAt
section
variable {X : Cx}
/-- a list beside an empty list, a tuple beside an empty tuple -/
def rNil (K : PySem.W.Frag) (f : Bool → Bool) : R2 := fun x y H Q => ∃ a b xs, x = .ref a ∧ y = .ref b ∧ ((SqL K H a xs ∧ SqL K H b []) ∨ (SqT K H a xs ∧ SqT K H b [])) ∧ Q (.bl (f xs.isEmpty)) H
theorem vals_nil {its : List Value} (r : Vals [] its) : its = [] := by cases r; rfl
theorem vals_emp {xs : List V} {its : List Value} (r : Vals xs its) : (its.toArray.size == 0) = xs.isEmpty := by
  cases r <;> rfl
theorem op_neNil (hu : X.A.units + 64 < cLine) : OpR X (compareOp .NotEq) (rNil X.K not) := by
  intro pins s σ H x y v u Q I rx ry h
  obtain ⟨a, b, xs, rfl, rfl, h, q⟩ := h
  cases rx
  cases ry
  rcases h with ⟨ha, hb⟩ | ⟨ha, hb⟩
  · obtain ⟨its, rv, ⟨o, n, ho, hc, _, hd⟩, _⟩ := I.list ha
    obtain ⟨its2, rv2, ⟨o2, n2, ho2, hc2, _, hd2⟩, _⟩ := I.list hb
    cases vals_nil rv2
    have l1 : s.heap.IsList a its.toArray := ⟨o, ho, hc, n, hd⟩
    have l2 : s.heap.IsList b #[] := ⟨o2, ho2, hc2, n2, hd2⟩
    cases rv with
    | nil => exact RcNeAt.lists (e := fun _ => true) l1 l2 rfl (by omega) (fun j h1 => absurd h1 (Nat.not_lt_zero j)) _ _ _ _ ⟨.bl _, H, I, rfl, q⟩
    | cons r t => exact RcNeAt.lists_lengths l1 l2 (by simp) (by omega) _ _ _ _ ⟨.bl _, H, I, rfl, q⟩
  · obtain ⟨its, rv, ⟨o, ho, hc, n, hd⟩, _⟩ := I.tuple ha
    obtain ⟨its2, rv2, ⟨o2, ho2, hc2, n2, hd2⟩, _⟩ := I.tuple hb
    cases vals_nil rv2
    have l1 : s.heap.IsTuple a its.toArray := ⟨o, ho, hc, n, hd⟩
    have l2 : s.heap.IsTuple b #[] := ⟨o2, ho2, hc2, n2, hd2⟩
    refine RcNeAt.tuples (e := fun _ => true) l1 l2 (by omega) (fun j _ h2 => absurd h2 (Nat.not_lt_zero j)) _ _ _ _ ?_
    rw [show min its.toArray.size (#[] : Array Value).size = 0 from Nat.min_zero _]
    refine ⟨.bl (!xs.isEmpty), H, I, ?_, q⟩
    show Value.bool _ = Value.bool _
    rw [← vals_emp rv]
    simp
end
end My
set_option Elab.async false
set_option linter.all false
set_option maxRecDepth 100000
set_option maxHeartbeats 4000000
namespace My
open PySem PySem.Spec PyProof.Rows L2

theorem PenAt.apart {H : Hp} {p c a : Addr} {n : Nat} (G : PenAt H p c n) (h : H a = none) : c ≠ a := let ⟨⟨_, _, _, _, hc, _⟩⟩ := G; ne_of_none hc h
theorem PenAt.apart' {H : Hp} {p c a : Addr} {n : Nat} (G : PenAt H p c n) (h : H a = none) : p ≠ a := let ⟨⟨_, _, _, hp, _⟩⟩ := G; ne_of_none hp h
theorem PenAt.upd {H : Hp} {p c a : Addr} {n : Nat} {o : HO} (G : PenAt H p c n) (h : p ≠ a) (k : c ≠ a) : PenAt (upd H a o) p c n :=
  let ⟨⟨ns, t, r, hp, hc, e⟩⟩ := G; ⟨⟨ns, t, r, (upd_ne h).trans hp, (upd_ne k).trans hc, e⟩⟩
theorem SameP.free {H H' : Hp} {p c a : Addr} {n : Nat} (s : SameP p H H') (G : PenAt H' p c n) (h : H' a = none) : H a = none := by
  cases e : H a with
  | none => rfl
  | some o => rw [s a o (Ne.symm (G.apart' h)) e] at h; cases h
theorem perm_erase {α : Type} : ∀ (xs : List α) (i : Nat) (h : i < xs.length), (xs[i] :: xs.eraseIdx i).Perm xs
  | x :: r, 0, _ => .refl _
  | x :: r, i + 1, h => ((List.Perm.swap x (r[i]'(Nat.lt_of_succ_lt_succ h)) (r.eraseIdx i)).trans ((perm_erase r i (Nat.lt_of_succ_lt_succ h)).cons x))

section
variable {P : Program} {w : World} {K : PySem.W.Frag} {mg : Str → Option Value} {base : Heap}
/-- a new list of the same things in some order -/
def spShuf (K : PySem.W.Frag) : Sp := fun vs H Q _ => ∃ (p c a : Addr) (n : Nat) (xs : List V), vs = [.ref p, .ref a] ∧ PenAt H p c n ∧ n ≤ 900000000 ∧ SeqOf K H (.ref a) xs ∧ xs.length ≤ 100000 ∧
  ∀ (l : Addr) (ys : List V) (H' : Hp), ys.Perm xs → H l = none → H' l = some (.lst ys) → SameP p H H' → PenAt H' p c (n + xs.length) → Q (.ref l) H'
theorem ok_shuf {f fD : Addr} {fd fdD : FuncData} {k : Nat} (F : Fun K "_law_shuffled" "_law_shuffled" sShuf f fd) (ml : mg "len" = none) (mli : mg "list" = none) (GD : FnOk P w K mg base CX0 k fD fdD ["pen", "size"] spDraw) (gD : mg "_law_draw" = some (.ref fD)) (kD : PySem.W.keepIn K (.ref fD) = true)
    (bD : Binds K fdD ["pen", "size"] []) : FnOk P w K mg base CX0 (k + 1) f fd ["pen", "some"] (spShuf K) := by
  refine F.ok scShuf (fun vs H Q E h => ?_) (fun cdv A outer s H vs Q E hr h => ?_)
  · obtain ⟨p, c, a, n, xs, rfl, _⟩ := h
    rfl
  · obtain ⟨p, c, a, n, xs, rfl, G, hn, hx, h1, q⟩ := h
    refine ⟨_, pss_cons (ps_par (i := 2) (j := 3) (by rfl) scShuf.nd rfl rfl (by decide) rfl rfl (pa_cons (pe_callTy call_list_of (by rfl) mli (by decide +kernel) (pa_cons (pv 1) pa_nil)) (pa_cons (pe_lst pa_nil) pa_nil)) (by rfl))
      (pss_cons (ps_while PassesOwn.never (pt_cmpR (op_neNil hr.units) (pv 2) (pe_lst pa_nil) (nomark _))
        (pss_one (ps_expr (pe_bm PySem.F.plainAttrs_list PySem.F.slot_list_append PySem.F.type_list_append mt_append (pv 3) (pa_cons
          (pe_bm PySem.F.plainAttrs_list PySem.F.slot_list_pop PySem.F.type_list_pop mt_popAt (pv 2) (pa_cons (pe_call GD hr (by rfl) gD kD bD .nil pass0 (pa_cons (pv 0) (pa_cons (pe_callB call_len_seq (by rfl) ml PySem.boot_len (pa_cons (pv 2) pa_nil)) pa_nil))) pa_nil)) pa_nil)))))
      (pss_one (ps_ret (pv 3)))), ?_⟩
    -- left, found = list(some), []
    have hs : SqL K H a xs ∨ SqT K H a xs := by
      cases hx with
      | lst e => exact .inl e
      | tup e => exact .inr e
    refine ⟨_, rfl, a, xs, rfl, hs, fun l hl => ?_⟩
    refine ⟨by show 0 ≤ sizeLine; decide, fun g hg => ?_⟩
    have nlg : l ≠ g := fun z => by rw [z, upd_same] at hg; cases hg
    have g0 : H g = none := by
      rw [upd_ne (Ne.symm nlg)] at hg
      exact hg
    have s1 : Same H (upd (upd H l (.lst xs)) g (.lst [])) := (same_new hl).trans (same_new hg)
    refine ⟨_, _, rfl, ?_⟩
    -- while left != []
    refine ⟨fun m σ H2 => ∃ (left found : List V), σ = [some (.ref p), some (.ref a), some (.ref l), some (.ref g)] ∧ m = left.length ∧ SameP p H H2 ∧ H2 l = some (.lst left) ∧ H2 g = some (.lst found) ∧ (found ++ left).Perm xs ∧ PenAt H2 p c (n + found.length),
      ⟨_, xs, [], rfl, rfl, .of s1, by rw [upd_ne nlg, upd_same], upd_same, .refl _, G.same s1⟩, fun m σ H2 hW => ?_⟩
    obtain ⟨left, found, rfl, rfl, s2, el, eg, pm, G2⟩ := hW
    have hlen : found.length + left.length = xs.length := by
      have := pm.length_eq
      rwa [List.length_append] at this
    refine ⟨_, rfl, by show 0 ≤ sizeLine; decide, fun e he => ?_⟩
    have se : Same H2 (upd H2 e (.lst [])) := same_new he
    refine ⟨l, e, left, rfl, rfl, .inl ⟨.inl (.inl (se _ _ el)), .inl (.inl upd_same)⟩, _, rfl, ?_⟩
    generalize hH3 : upd H2 e (.lst []) = H3 at se
    have el3 := se _ _ el
    have eg3 := se _ _ eg
    have G3 := G2.same se
    cases left with
    | nil =>
      refine iteF ⟨_, rfl, ?_⟩
      rw [List.append_nil] at pm
      refine q g found H3 pm g0 eg3 (s2.trans (.of se)) (G3.mono ?_)
      rw [pm.length_eq]
      exact Nat.le_refl _
    | cons y0 yr =>
      refine iteT ⟨_, fun _ _ z => z, ?_⟩
      -- found.append(left.pop(draw))
      refine ⟨_, rfl, .inl ⟨rfl, _, .inl (.inl eg3)⟩, _, rfl, .inl ⟨rfl, _, .inl (.inl el3)⟩, _, rfl, _, rfl, l, _, rfl, .inl (.inl (.inl el3)), p, c, _, _, rfl, G3, by omega, by simp, by rw [List.length_cons] at *; omega, fun d H4 d0 d1 s4 G4 => ?_⟩
      obtain ⟨i, rfl⟩ : ∃ i : Nat, d = (i : Int) := ⟨d.toNat, by omega⟩
      have hi : i < (y0 :: yr).length := by omega
      have el4 := s4.lst G3 el3
      have eg4 := s4.lst G3 eg3
      refine ⟨l, _, _, i, (y0 :: yr)[i], rfl, rfl, el4, by omega, by omega, by rw [seqIndex_of (by omega) (by omega)]; rfl, List.getElem?_eq_getElem hi, ?_⟩
      refine ⟨g, found, _, rfl, rfl, by rw [upd_ne (Ne.symm nlg)]; exact eg4, Evl.sz_lt (by omega), ?_⟩
      have lp := sameP_ne G3 el3 fun _ z => nomatch z
      have gp := sameP_ne G3 eg3 fun _ z => nomatch z
      have cl : c ≠ l := G.apart hl
      have cg : c ≠ g := G.apart g0
      refine ⟨_, ?_, (y0 :: yr).eraseIdx i, found ++ [(y0 :: yr)[i]], rfl, rfl, ?_, ?_, upd_same, ?_, ?_⟩
      · rw [List.length_eraseIdx, if_pos hi]
        simp
      · intro b o nb e0
        rw [upd_ne (ne_of_none e0 g0), upd_ne (ne_of_none e0 hl)]
        exact (s2.trans (SameP.of se)).trans s4 b o nb e0
      · rw [upd_ne nlg, upd_same]
      · rw [List.append_assoc]
        exact (List.Perm.append_left found (perm_erase (y0 :: yr) i hi)).trans pm
      · exact ((G4.upd (Ne.symm lp) cl).upd (Ne.symm gp) cg).mono (by rw [List.length_append, List.length_singleton]; omega)
end
end My
set_option Elab.async false
set_option linter.all false
set_option maxRecDepth 100000
set_option maxHeartbeats 4000000
/-! Comprehensions without a test, over a name. -/
namespace My
open PySem PySem.Spec PyProof.Rows L2
section
variable {K : PySem.W.Frag} {te : TE} {vs : List Nat} {σ : L2.St} {H1 : Hp} {D : Addr} {Qd : Hp → Prop} {j : Nat}
def Grows (te : TE) (D : Addr) (Pv : Hp → Prop) (σ : L2.St) (H : Hp) : Prop := te σ H fun y H4 => ∃ acc, H4 D = some (.lst acc) ∧ acc.length < sizeLine ∧ Pv (upd H4 D (.lst (acc ++ [y])))
theorem yes_turn {te : TE} {σ0 σ2 : L2.St} {H : Hp} {vs : List Nat} {R : V → Hp → Prop} {N : Hp → Prop} (a : wipe σ2 vs = wipe σ0 vs) (b : te σ2 H R) : wipe σ2 vs = wipe σ0 vs ∧ tYes σ2 H fun b H3 => if b = true then te σ2 H3 R else N H3 :=
  ⟨a, (if_pos rfl : (if true = true then te σ2 H R else N H) = te σ2 H R).mpr b⟩
def lcN_range {lo : Int} {n : Nat} (Pv : Nat → Hp → Prop) (h0 : Pv 0 (upd H1 D (.lst [])))
    (hs : ∀ i H, i < n → Pv i H → wipe ((wipe σ vs).set j (some (.int (lo + i)))) vs = wipe σ vs ∧ Grows te D (Pv (i + 1)) ((wipe σ vs).set j (some (.int (lo + i)))) H) (hd : ∀ H, Pv n H → Qd H) :=
  lc_range (lo := lo) (n := n) (g := gName j) (tt := tYes) (te := te) (vs := vs) (σ := σ) (H1 := H1) (D := D) (Qd := Qd) Pv h0 (fun i H hi p => yes_turn (hs i H hi p).1 (hs i H hi p).2) hd
def lcN_list {a : Addr} {xs : List V} (Pv : Nat → Hp → Prop) (h0 : Pv 0 (upd H1 D (.lst []))) (hl : ∀ i H, i ≤ xs.length → Pv i H → SqL K H a xs)
    (hs : ∀ i x H, xs[i]? = some x → Pv i H → wipe ((wipe σ vs).set j (some x)) vs = wipe σ vs ∧ Grows te D (Pv (i + 1)) ((wipe σ vs).set j (some x)) H) (hd : ∀ H, Pv xs.length H → Qd H) :=
  lc_list (K := K) (a := a) (xs := xs) (g := gName j) (tt := tYes) (te := te) (vs := vs) (σ := σ) (H1 := H1) (D := D) (Qd := Qd) Pv h0 hl (fun i x H hi p => yes_turn (hs i x H hi p).1 (hs i x H hi p).2) hd
def lcN_tup {a : Addr} {xs : List V} (Pv : Nat → Hp → Prop) (h0 : Pv 0 (upd H1 D (.lst []))) (hl : ∀ i H, i ≤ xs.length → Pv i H → SqT K H a xs)
    (hs : ∀ i x H, xs[i]? = some x → Pv i H → wipe ((wipe σ vs).set j (some x)) vs = wipe σ vs ∧ Grows te D (Pv (i + 1)) ((wipe σ vs).set j (some x)) H) (hd : ∀ H, Pv xs.length H → Qd H) :=
  lc_tup (K := K) (a := a) (xs := xs) (g := gName j) (tt := tYes) (te := te) (vs := vs) (σ := σ) (H1 := H1) (D := D) (Qd := Qd) Pv h0 hl (fun i x H hi p => yes_turn (hs i x H hi p).1 (hs i x H hi p).2) hd
end
end My
set_option Elab.async false
set_option linter.all false
set_option maxRecDepth 100000
set_option maxHeartbeats 4000000
namespace My
open PySem PySem.Spec PyProof.Rows L2

/-! ### a short text some few times -/
def rMulS : R2 := fun x y H Q => ∃ (z : Str) (i : Int), x = .str z ∧ y = .int i ∧ z.length ≤ 1000 ∧ i ≤ 1000 ∧ -1000 ≤ i ∧ Q (.str (Txt.mul z i)) H
theorem mulOk_small {x : Str} {n : Int} (h : x.length ≤ 1000) (h1 : n ≤ 1000) (h2 : -1000 ≤ n) : MulOk x n := by
  refine ⟨?_, fun a _ => ?_, fun a _ => ?_⟩
  · have e1 : decide (n < -(2 ^ 63 : Int)) = false := decide_eq_false (by omega)
    have e2 : decide (n ≥ (2 : Int) ^ 63) = false := decide_eq_false (by omega)
    rw [e1, e2]
    rfl
  · have h3 : (1000 : Int) ≤ (2 ^ 63 - 1) / n := Int.le_ediv_of_mul_le (by omega) (by omega)
    omega
  · have h3 : x.length * n.toNat ≤ 1000 * 1000 := Nat.mul_le_mul h (by omega)
    exact decide_eq_false (Nat.not_lt.mpr (Nat.le_trans h3 (by decide)))
theorem op_mulS {X : Cx} : OpR X (binaryOp .Mult) rMulS := by
  intro pins s σ H x y v u Q I rx ry h
  obtain ⟨z, i, rfl, rfl, h1, h2, h3, q⟩ := h
  obtain ⟨t, rfl⟩ := rx
  obtain ⟨t', rfl⟩ := ry
  exact SB.mul (mulOk_small h1 h2 h3) fun t2 k => ⟨.str _, H, I.tok _, ⟨_, rfl⟩, q⟩

/-! ### names -/
def NameOk (x : Str) : Prop := 1 ≤ x.length ∧ x.length ≤ 8 ∧ ∀ c ∈ x.cps.toList, 97 ≤ c ∧ c ≤ 122
def abc : Str := "abcdefghijklmnopqrstuvwxyz"
theorem abc_codes : abc.cps.toList = (List.range 26).map (97 + ·) := by decide +kernel
theorem abc_len : abc.length = 26 := by decide +kernel
theorem abc_at {j : Nat} (h : j < 26) : abc.cps.toList[j]? = some (97 + j) := by
  rw [abc_codes, List.getElem?_map, List.getElem?_range h]
  rfl
/-- the name at the k-th place -/
def wName (front : Str) (first step k : Nat) : Str := front ++ ⟨#[97 + (first + step * k) % 26]⟩ ++ (if 25 < k then ⟨#[97 + k % 26]⟩ else Str.empty)
theorem wName_codes (front : Str) (first step k : Nat) : (wName front first step k).cps.toList = front.cps.toList ++ [97 + (first + step * k) % 26] ++ (if 25 < k then [97 + k % 26] else []) := by
  unfold wName
  rw [Str.cps_append, Array.toList_append, Str.cps_append, Array.toList_append]
  by_cases h : 25 < k
  · rw [if_pos h, if_pos h]
  · rw [if_neg h, if_neg h]
    rfl
theorem str_len (x : Str) : x.length = x.cps.toList.length := by
  rw [Array.length_toList]
  rfl
theorem wName_ok {front : Str} (hf : front.length ≤ 6) (hc : ∀ c ∈ front.cps.toList, 97 ≤ c ∧ c ≤ 122) (first step k : Nat) : NameOk (wName front first step k) := by
  rw [str_len] at hf
  unfold NameOk
  rw [str_len, wName_codes, List.length_append, List.length_append, List.length_singleton]
  refine ⟨by omega, ?_, fun c h => ?_⟩
  · by_cases h : 25 < k
    · rw [if_pos h, List.length_singleton]
      omega
    · rw [if_neg h, List.length_nil]
      omega
  · rcases List.mem_append.mp h with h | h
    · rcases List.mem_append.mp h with h | h
      · exact hc c h
      · rw [List.mem_singleton.mp h]
        omega
    · by_cases g : 25 < k
      · rw [if_pos g] at h
        rw [List.mem_singleton.mp h]
        omega
      · rw [if_neg g] at h
        cases h
theorem step_inj {first step i j : Nat} (hs : step = 1 ∨ step = 3 ∨ step = 5 ∨ step = 7 ∨ step = 9 ∨ step = 11) (hi : i < 26) (hj : j < 26) (h : (first + step * i) % 26 = (first + step * j) % 26) : i = j := by
  rcases hs with rfl | rfl | rfl | rfl | rfl | rfl <;> omega
theorem wName_inj {front : Str} {first step i j : Nat} (hs : step = 1 ∨ step = 3 ∨ step = 5 ∨ step = 7 ∨ step = 9 ∨ step = 11) (hi : i < 52) (hj : j < 52) (h : wName front first step i = wName front first step j) : i = j := by
  have e : (wName front first step i).cps.toList = (wName front first step j).cps.toList := by rw [h]
  rw [wName_codes, wName_codes, List.append_assoc, List.append_assoc] at e
  have e := List.append_cancel_left e
  by_cases a : 25 < i
  · by_cases b : 25 < j
    · rw [if_pos a, if_pos b] at e
      simp only [List.singleton_append, List.cons.injEq, and_true] at e
      omega
    · rw [if_pos a, if_neg b] at e
      simp at e
  · by_cases b : 25 < j
    · rw [if_neg a, if_pos b] at e
      simp at e
    · rw [if_neg a, if_neg b] at e
      simp only [List.append_nil, List.cons.injEq, and_true] at e
      exact step_inj (first := first) hs (by omega) (by omega) (by omega)
def wNames (front : Str) (first step many : Nat) : List Str := (List.range many).map (wName front first step)
theorem nodup_map_on {α β : Type} {f : α → β} : ∀ {xs : List α}, xs.Nodup → (∀ a ∈ xs, ∀ b ∈ xs, f a = f b → a = b) → (xs.map f).Nodup
  | [], _, _ => List.nodup_nil
  | x :: r, h, g => by
    rw [List.nodup_cons] at h
    rw [List.map_cons, List.nodup_cons]
    refine ⟨fun z => ?_, nodup_map_on h.2 fun a ha b hb => g a (List.mem_cons_of_mem _ ha) b (List.mem_cons_of_mem _ hb)⟩
    obtain ⟨y, hy, e⟩ := List.mem_map.mp z
    have := g y (List.mem_cons_of_mem _ hy) x List.mem_cons_self e
    exact h.1 (this ▸ hy)
theorem wNames_nodup {front : Str} {first step many : Nat} (hs : step = 1 ∨ step = 3 ∨ step = 5 ∨ step = 7 ∨ step = 9 ∨ step = 11) (hm : many ≤ 52) : (wNames front first step many).Nodup :=
  nodup_map_on List.nodup_range fun a ha b hb e => wName_inj hs (Nat.lt_of_lt_of_le (List.mem_range.mp ha) hm) (Nat.lt_of_lt_of_le (List.mem_range.mp hb) hm) e
/-- many names, all different -/
structure Names (xs : List Str) : Prop where
  ok : ∀ x ∈ xs, NameOk x
  nd : xs.Nodup
theorem Names.perm {xs ys : List Str} (h : Names xs) (p : ys.Perm xs) : Names ys := ⟨fun x hx => h.ok x (p.subset hx), p.nodup_iff.mpr h.nd⟩
def unS : V → Str
  | .str z => z
  | _ => Str.empty
theorem perm_strs {ys : List V} {xs : List Str} (p : ys.Perm (xs.map V.str)) : ∃ zs : List Str, ys = zs.map V.str ∧ zs.Perm xs := by
  refine ⟨ys.map unS, ?_, ?_⟩
  · rw [List.map_map]
    have : ∀ v ∈ ys, (V.str ∘ unS) v = v := fun v hv => by
      obtain ⟨x, _, rfl⟩ := List.mem_map.mp (p.subset hv)
      rfl
    rw [List.map_congr_left this, List.map_id']
  · have := p.map unS
    rwa [List.map_map, show (unS ∘ V.str) = id from rfl, List.map_id] at this
def sign (cd : Nat) : Str := ⟨#[cd]⟩
theorem join_signs : ∀ cs : List Nat, (Str.join Str.empty (cs.map sign)).cps.toList = cs
  | [] => rfl
  | [_] => rfl
  | x :: y :: r => by
    have ih := join_signs (y :: r)
    show (sign x ++ Str.empty ++ Str.join Str.empty ((y :: r).map sign)).cps.toList = x :: y :: r
    rw [Str.cps_append, Array.toList_append, ih, Str.cps_append, Array.toList_append]
    rfl
theorem sum_signs : ∀ cs : List Nat, ((cs.map sign).map (·.length)).sum = cs.length
  | [] => rfl
  | x :: r => by
    rw [List.map_cons, List.map_cons, List.sum_cons, sum_signs r, List.length_cons]
    show 1 + r.length = r.length + 1
    omega
theorem signs_V (cs : List Nat) : (cs.map sign).map V.str = cs.map fun cd => V.str (sign cd) := by rw [List.map_map]; rfl
theorem abc_item {i : Nat} {v : V} (h : (abc.cps.toList.map fun cd => V.str ⟨#[cd]⟩)[i]? = some v) : ∃ cd, v = .str (sign cd) ∧ 97 ≤ cd ∧ cd ≤ 122 := by
  rw [abc_codes, List.map_map, List.getElem?_map] at h
  obtain ⟨j, h1, rfl⟩ := Option.map_eq_some_iff.mp h
  have h2 := List.mem_range.mp (List.mem_of_getElem? h1)
  exact ⟨97 + j, rfl, by omega, by omega⟩
theorem steps_item {i : Nat} {v : V} (h : ([.int 1, .int 3, .int 5, .int 7, .int 9, .int 11] : List V)[i]? = some v) : ∃ st : Nat, v = .int (st : Int) ∧ (st = 1 ∨ st = 3 ∨ st = 5 ∨ st = 7 ∨ st = 9 ∨ st = 11) := by
  have := List.mem_of_getElem? h
  simp only [List.mem_cons, List.not_mem_nil, or_false] at this
  rcases this with rfl | rfl | rfl | rfl | rfl | rfl
  · exact ⟨1, rfl, by omega⟩
  · exact ⟨3, rfl, by omega⟩
  · exact ⟨5, rfl, by omega⟩
  · exact ⟨7, rfl, by omega⟩
  · exact ⟨9, rfl, by omega⟩
  · exact ⟨11, rfl, by omega⟩
theorem place_nat (f st k : Nat) : ((f : Int) + (st : Int) * ((0 : Int) + (k : Int))) % 26 = (((f + st * k) % 26 : Nat) : Int) := by
  rw [Int.zero_add, ← Int.natCast_mul]
  omega
theorem mul_sign (cd : Nat) (b : Bool) : Txt.mul (sign cd) (if b then 1 else 0) = if b = true then sign cd else Str.empty := by
  cases b <;> rfl

section
variable {P : Program} {w : World} {K : PySem.W.Frag} {mg : Str → Option Value} {base : Heap}
/-- what the draw, the pick and the shuffling have promised -/
structure Draws (P : Program) (w : World) (K : PySem.W.Frag) (mg : Str → Option Value) (base : Heap) (fD fP fS : Addr) (dD dP dS : FuncData) : Prop where
  oD : FnOk P w K mg base CX0 1 fD dD ["pen", "size"] spDraw
  gD : mg "_law_draw" = some (.ref fD)
  kD : PySem.W.keepIn K (.ref fD) = true
  bD : Binds K dD ["pen", "size"] []
  oP : FnOk P w K mg base CX0 2 fP dP ["pen", "options"] (spPick K)
  gP : mg "_law_pick" = some (.ref fP)
  kP : PySem.W.keepIn K (.ref fP) = true
  bP : Binds K dP ["pen", "options"] []
  oS : FnOk P w K mg base CX0 2 fS dS ["pen", "some"] (spShuf K)
  gS : mg "_law_shuffled" = some (.ref fS)
  kS : PySem.W.keepIn K (.ref fS) = true
  bS : Binds K dS ["pen", "some"] []
/-- a new list of so many different names -/
def spWag (K : PySem.W.Frag) : Sp := fun vs H Q _ => ∃ (p c : Addr) (n many : Nat), vs = [.ref p, .int (many : Int)] ∧ PenAt H p c n ∧ n ≤ 800000000 ∧ many ≤ 52 ∧
  ∀ (l : Addr) (xs : List Str) (H' : Hp), Names xs → xs.length = many → H l = none → H' l = some (.lst (xs.map V.str)) → SameP p H H' → PenAt H' p c (n + 61) → Q (.ref l) H'
/-- .. all of one length, where they are few -/
def spWagL (K : PySem.W.Frag) : Sp := fun vs H Q _ => ∃ (p c : Addr) (n many : Nat), vs = [.ref p, .int (many : Int)] ∧ PenAt H p c n ∧ n ≤ 800000000 ∧ many ≤ 52 ∧
  ∀ (l : Addr) (xs : List Str) (H' : Hp), Names xs → xs.length = many → H l = none → H' l = some (.lst (xs.map V.str)) → SameP p H H' → PenAt H' p c (n + 61) → (many ≤ 26 → ∀ x ∈ xs, ∀ y ∈ xs, x.length = y.length) → Q (.ref l) H'
theorem ok_wagL {f fD fP fS : Addr} {fd dD dP dS : FuncData} (F : Fun K "_law_wagons" "_law_wagons" sWag f fd) (T : Draws P w K mg base fD fP fS dD dP dS) (mr : mg "range" = none) (mi : mg "int" = none) :
    FnOk P w K mg base CX0 3 f fd ["pen", "many"] (spWagL K) := by
  refine F.ok scWag (fun vs H Q E h => ?_) (fun cdv A outer s H vs Q E hr h => ?_)
  · obtain ⟨p, c, n, many, rfl, _⟩ := h
    rfl
  · obtain ⟨p, c, n, many, rfl, G, hn, hm, q⟩ := h
    have hr1 := hr.mono (show 1 ≤ 2 by decide)
    refine ⟨_, pss_cons (ps_set (i := 2) scWag.nd rfl (.inr rfl) pe_str)
      (pss_cons (ps_set (i := 4) scWag.nd rfl (.inl rfl) (pe_join pe_str (pe_lc (own := [("k", 3)]) (g := gName 3) (tt := tYes) rfl scWag.nd
          (pi_range1 (by rfl) mr (pa_cons (pe_call T.oD hr1 (by rfl) T.gD T.kD T.bD .nil pass0 (pa_cons (pv 0) (pa_cons pe_int pa_nil))) pa_nil))
          (blkOk_by (own := [("k", 3)]) (N := ["pen", "many", "letters", "k", "front", "first", "step", "found", "place"]) (sc := defScope sWag) (by decide +kernel))
          (fun _ _ _ _ _ => pg_name (i := 3) scWag.nd rfl (Or.inl rfl)) (fun _ _ _ _ _ => pts_nil) (fun _ _ _ _ _ => pe_call T.oP hr (by rfl) T.gP T.kP T.bP .nil pass0 (pa_cons (pv 0) (pa_cons (pv 2) pa_nil))))))
      (pss_cons (ps_par (i := 5) (j := 6) (by rfl) scWag.nd rfl rfl (by decide) rfl rfl (pa_cons (pe_call T.oD hr1 (by rfl) T.gD T.kD T.bD .nil pass0 (pa_cons (pv 0) (pa_cons pe_int pa_nil)))
        (pa_cons (pe_call T.oP hr (by rfl) T.gP T.kP T.bP .nil pass0 (pa_cons (pv 0) (pa_cons (pe_lst (pa_cons pe_int (pa_cons pe_int (pa_cons pe_int (pa_cons pe_int (pa_cons pe_int (pa_cons pe_int pa_nil))))))) pa_nil))) pa_nil)) (by rfl))
      (pss_cons (ps_set (i := 7) scWag.nd rfl (.inl rfl) (pe_lst pa_nil))
      (pss_cons (ps_for PassesOwn.never rfl (pi_range1 (by rfl) mr (pa_cons (pv 1) pa_nil)) (pg_name (i := 3) scWag.nd rfl (.inl rfl))
        (pss_cons (ps_set (i := 8) scWag.nd rfl (.inl rfl) (pe_op op_mod (pe_op op_add (pv 5) (pe_op op_mul (pv 6) (pv 3))) pe_int))
        (pss_one (ps_expr (pe_bm PySem.F.plainAttrs_list PySem.F.slot_list_append PySem.F.type_list_append mt_append (pv 7) (pa_cons
          (pe_op op_add_str (pe_op op_add_str (pv 4) (pe_ix ix_str (pv 2) (pv 8) (fun _ _ => rfl))) (pe_op op_mulS (pe_ix ix_str (pv 2) (pe_op op_mod (pv 3) pe_int) (fun _ _ => rfl))
            (pe_callTy call_int1 (by rfl) mi (by decide +kernel) (pa_cons (pe_cmpR op_gt (pv 3) pe_int (nomark _)) pa_nil)))) pa_nil))))))
      (pss_one (ps_ret (pe_call T.oS hr (by rfl) T.gS T.kS T.bS .nil pass0 (pa_cons (pv 0) (pa_cons (pv 7) pa_nil))))))))), ?_⟩
    -- front
    refine ⟨⟨_, rfl⟩, _, rfl, p, c, n, 7, rfl, G, by omega, by decide, by decide, fun d H1 d0 d1 s1 G1 => ⟨d, rfl, by omega, by omega, fun Dl hD => ?_⟩⟩
    have hD0 : H Dl = none := s1.free G1 hD
    refine lcN_range (lo := 0) (n := d.toNat) (fun i H' => ∃ cs : List Nat, H' Dl = some (.lst (cs.map fun cd => V.str (sign cd))) ∧ cs.length = i ∧ (∀ cd ∈ cs, 97 ≤ cd ∧ cd ≤ 122) ∧ SameP p H H' ∧ PenAt H' p c (n + 1 + i))
      ⟨[], upd_same, rfl, fun _ z => (nomatch z), s1.trans (SameP.new hD), G1.same (same_new hD)⟩ (fun i H2 hi hp => ?_) (fun H2 hp => ?_)
    · obtain ⟨cs, eD, hl, hc, s2, G2⟩ := hp
      refine ⟨rfl, ?_⟩
      refine ⟨_, rfl, _, rfl, p, c, _, .str abc, _, rfl, G2, by omega, .str (by rw [abc_len]; decide), ?_, ?_, fun j v H3 hv s3 G3 => ?_⟩
      · rw [List.length_map, abc_codes, List.length_map, List.length_range]
        decide
      · rw [List.length_map, abc_codes, List.length_map, List.length_range]
        decide
      · obtain ⟨cd, rfl, c0, c1⟩ := abc_item hv
        have eD3 := s3.lst G2 eD
        refine ⟨_, eD3, Evl.sz_lt (by rw [List.length_map]; omega), cs ++ [cd], ?_, by rw [List.length_append, hl]; rfl, fun z hz => ?_, fun b o nb e => ?_, ?_⟩
        · rw [upd_same, List.map_append]
          rfl
        · rcases List.mem_append.mp hz with hz | hz
          · exact hc z hz
          · rw [List.mem_singleton.mp hz]
            exact ⟨c0, c1⟩
        · rw [upd_ne (ne_of_none e hD0)]
          exact (s2.trans s3) b o nb e
        · exact (G3.upd (G1.apart' hD) (G1.apart hD)).mono (by omega)
    · obtain ⟨cs, eD, hl, hc, s2, G2⟩ := hp
      have hlen : cs.length ≤ 6 := by omega
      refine ⟨Str.empty, Dl, cs.map sign, rfl, rfl, .inl (by rw [signs_V]; exact .inl (.inl eD)), ?_, ?_⟩
      · rw [sum_signs, List.length_map]
        show cs.length + cs.length * 0 ≤ 16777216
        omega
      generalize hfr : Txt.join Str.empty (cs.map sign) = front
      have fc : front.cps.toList = cs := by rw [← hfr, TL.join_eq, join_signs]
      have f6 : front.length ≤ 6 := by rw [str_len, fc]; exact hlen
      have fok : ∀ cd ∈ front.cps.toList, 97 ≤ cd ∧ cd ≤ 122 := by rw [fc]; exact hc
      -- first, step
      refine ⟨_, rfl, p, c, _, 26, rfl, G2, by omega, by decide, by decide, fun f1 H3 f0 f26 s3 G3 => ?_⟩
      refine ⟨_, rfl, by show 6 ≤ sizeLine; decide, fun o1 ho1 => ?_⟩
      have so := same_new (o := HO.lst [.int 1, .int 3, .int 5, .int 7, .int 9, .int 11]) ho1
      refine ⟨p, c, _, .ref o1, [.int 1, .int 3, .int 5, .int 7, .int 9, .int 11], rfl, G3.same so, by omega, .lst (.inl (.inl upd_same)), by decide, by decide, fun j v H4 hv s4 G4 => ?_⟩
      obtain ⟨st, rfl, hst⟩ := steps_item hv
      obtain ⟨f2, rfl⟩ : ∃ f2 : Nat, f1 = (f2 : Int) := ⟨f1.toNat, by omega⟩
      refine ⟨_, _, rfl, ?_⟩
      -- found
      refine ⟨by show 0 ≤ sizeLine; decide, fun g hg => ?_⟩
      have s5 : SameP p H H4 := ((s2.trans s3).trans (SameP.of so)).trans s4
      have hg0 : H g = none := s5.free G4 hg
      refine ⟨_, rfl, (many : Int), rfl, by omega, by omega, ?_⟩
      refine for_range (lo := 0) (n := (many : Int).toNat) (fun i σ H' => ∃ y3 y8, σ = [some (.ref p), some (.int (many : Int)), some (.str abc), y3, some (.str front), some (.int (f2 : Int)), some (.int (st : Int)), some (.ref g), y8] ∧
        H' g = some (.lst ((wNames front f2 st i).map V.str)) ∧ SameP p H H' ∧ PenAt H' p c (n + 9)) ⟨_, _, rfl, upd_same, s5.trans (SameP.new hg), (G4.same (same_new hg)).mono (by omega)⟩ (fun i σ H5 hi hp => ?_) (fun σ H5 hp => ?_)
      · obtain ⟨y3, y8, rfl, eg, s6, G6⟩ := hp
        have hib : i < 52 := by omega
        refine ⟨_, rfl, _, rfl, _, rfl, _, _, rfl, rfl, cmul_l (by omega) (by omega), _, _, rfl, rfl, _, _, rfl, rfl, (by show (0 : Int) < 26; decide), ?_⟩
        refine ⟨_, rfl, .inl ⟨rfl, _, .inl (.inl eg)⟩, _, rfl, _, rfl, _, rfl, abc, _, 97 + (f2 + st * i) % 26, rfl, rfl, (by rw [abc_len]; decide), ?_, _, _, rfl, rfl, ?_, ?_⟩
        · rw [place_nat]
          exact atI_nat (abc_at (Nat.mod_lt _ (by decide)))
        · show front.length + 1 ≤ sizeLine
          exact Evl.sz_of (by omega)
        refine ⟨_, rfl, _, rfl, _, _, rfl, rfl, (by show (0 : Int) < 26; decide), abc, _, 97 + i % 26, rfl, rfl, (by rw [abc_len]; decide), ?_, _, rfl, _, _, rfl, rfl, .inr ⟨_, rfl, ?_⟩⟩
        · rw [show ((0 : Int) + (i : Int)) % 26 = ((i % 26 : Nat) : Int) by omega]
          exact atI_nat (abc_at (Nat.mod_lt _ (by decide)))
        refine ⟨sign (97 + i % 26), _, rfl, rfl, (by show 1 ≤ 1000; decide), (by split <;> decide), (by split <;> decide), _, _, rfl, rfl, ?_, ?_⟩
        · rw [mul_sign, Str.length_append]
          have h1 : (if decide ((25 : Int) < 0 + (i : Int)) = true then sign (97 + i % 26) else Str.empty).length ≤ 1 := by
            split
            · exact Nat.le_refl 1
            · exact Nat.zero_le 1
          show front.length + 1 + _ ≤ sizeLine
          exact Evl.sz_of (by omega)
        · refine ⟨g, _, _, rfl, rfl, eg, Evl.sz_lt (by rw [List.length_map, wNames, List.length_map, List.length_range]; omega), some (.int ((0 : Int) + (i : Int))), _, rfl, ?_, ?_, G6.upd ?_ ?_⟩
          · rw [upd_same, mul_sign]
            congr 2
            rw [wNames, wNames, List.range_succ, List.map_append, List.map_append]
            congr 1
            show [V.str _] = [V.str _]
            congr 2
            unfold wName sign
            congr 1
            by_cases z : 25 < i
            · rw [if_pos (decide_eq_true (by omega)), if_pos z]
            · rw [if_neg (by rw [decide_eq_false (by omega)]; decide), if_neg z]
          · intro b o nb e
            rw [upd_ne (ne_of_none e hg0)]
            exact s6 b o nb e
          · exact G.apart' hg0
          · exact G.apart hg0
      · obtain ⟨y3, y8, rfl, eg, s6, G6⟩ := hp
        rw [show (many : Int).toNat = many from rfl] at eg
        have nm : Names (wNames front f2 st many) := ⟨fun x hx => by
          obtain ⟨k, _, rfl⟩ := List.mem_map.mp hx
          exact wName_ok f6 fok f2 st k, wNames_nodup hst hm⟩
        have ln : (wNames front f2 st many).length = many := by rw [wNames, List.length_map, List.length_range]
        refine ⟨_, rfl, _, rfl, p, c, g, _, _, rfl, G6, by omega, .lst (.inl (.inl eg)), by rw [List.length_map, ln]; omega, fun l ys H6 pm hl0 el s7 G7 => ?_⟩
        · obtain ⟨zs, rfl, pz⟩ := perm_strs pm
          rw [List.length_map, ln] at G7
          have one : many ≤ 26 → ∀ x ∈ wNames front f2 st many, x.length = front.length + 1 := fun hm26 x hx => by
            obtain ⟨k, hk, rfl⟩ := List.mem_map.mp hx
            have := List.mem_range.mp hk
            rw [str_len, wName_codes, if_neg (by omega), List.append_nil, List.length_append, ← str_len]
            rfl
          refine q l zs H6 (nm.perm pz) (by rw [pz.length_eq, ln]) (s6.free G6 hl0) el (s6.trans s7) (G7.mono (by omega)) fun hm26 x hx y hy => ?_
          rw [one hm26 x (pz.subset hx), one hm26 y (pz.subset hy)]
theorem ok_wag {f fD fP fS : Addr} {fd dD dP dS : FuncData} (F : Fun K "_law_wagons" "_law_wagons" sWag f fd) (T : Draws P w K mg base fD fP fS dD dP dS) (mr : mg "range" = none) (mi : mg "int" = none) :
    FnOk P w K mg base CX0 3 f fd ["pen", "many"] (spWag K) :=
  (ok_wagL F T mr mi).imp fun vs H Q E ⟨p, c, n, many, e, G, h1, h2, q⟩ => ⟨p, c, n, many, e, G, h1, h2, fun l xs H' a1 a2 a3 a4 a5 a6 _ => q l xs H' a1 a2 a3 a4 a5 a6⟩
end
end My
set_option Elab.async false
set_option linter.all false
set_option maxRecDepth 100000
set_option maxHeartbeats 4000000
namespace My
open PySem PySem.Spec PyProof.Rows L2

/-! ### data that never changes: None, bools, ints, texts, tuples of such -/
mutual
inductive Dt (K : PySem.W.Frag) (H : Hp) : V → PyData → Prop
  | non : Dt K H .non .none
  | bl (b : Bool) : Dt K H (.bl b) (.bool b)
  | int (i : Int) : Dt K H (.int i) (.int i)
  | str (x : Str) : Dt K H (.str x) (.str x)
  | tup {a : Addr} {xs : List V} {ds : List PyData} : SqT K H a xs → DtAll K H xs ds → Dt K H (.ref a) (.tuple ds)
inductive DtAll (K : PySem.W.Frag) (H : Hp) : List V → List PyData → Prop
  | nil : DtAll K H [] []
  | cons {v : V} {vs : List V} {d : PyData} {ds : List PyData} : Dt K H v d → DtAll K H vs ds → DtAll K H (v :: vs) (d :: ds)
end
/-- tuples that were read are read so again -/
def KeepsT (K : PySem.W.Frag) (H H' : Hp) : Prop := ∀ a xs, SqT K H a xs → SqT K H' a xs
section
variable {K : PySem.W.Frag} {H H' H2 : Hp}
mutual
theorem dt_keep (s : KeepsT K H H') : ∀ {d : PyData} {v : V}, Dt K H v d → Dt K H' v d
  | .none, _, h => by cases h; exact .non
  | .bool _, _, h => by cases h; exact .bl _
  | .int _, _, h => by cases h; exact .int _
  | .str _, _, h => by cases h; exact .str _
  | .tuple ds, _, h => by
    cases h with
    | tup a b => exact .tup (s _ _ a) (dt_keepAll s b)
  | .list _, _, h => by cases h
  | .dict _, _, h => by cases h
theorem dt_keepAll (s : KeepsT K H H') : ∀ {ds : List PyData} {vs : List V}, DtAll K H vs ds → DtAll K H' vs ds
  | [], _, h => by cases h; exact .nil
  | d :: ds, _, h => by
    cases h with
    | cons a b => exact .cons (dt_keep s a) (dt_keepAll s b)
end
mutual
theorem dt_dp : ∀ {d : PyData} {v : V}, Dt K H v d → Dp K H v d
  | .none, _, h => by cases h; exact .non
  | .bool _, _, h => by cases h; exact .bl _
  | .int _, _, h => by cases h; exact .int _
  | .str _, _, h => by cases h; exact .str _
  | .tuple ds, _, h => by
    cases h with
    | tup a b => exact .tup a (dt_dpAll b)
  | .list _, _, h => by cases h
  | .dict _, _, h => by cases h
theorem dt_dpAll : ∀ {ds : List PyData} {vs : List V}, DtAll K H vs ds → DpAll K H vs ds
  | [], _, h => by cases h; exact .nil
  | d :: ds, _, h => by
    cases h with
    | cons a b => exact .cons (dt_dp a) (dt_dpAll b)
end
theorem KeepsT.refl : KeepsT K H H := fun _ _ h => h
theorem KeepsT.trans (a : KeepsT K H H') (b : KeepsT K H' H2) : KeepsT K H H2 := fun _ _ h => b _ _ (a _ _ h)
theorem _root_.L2.Same.keepsT (s : Same H H') : KeepsT K H H' := s.keeps.t
theorem SameP.keepsT {p c : Addr} {n : Nat} (s : SameP p H H') (G : PenAt H p c n) : KeepsT K H H' := (s.keeps G).t
/-- a change at a place where no tuple stands -/
theorem KeepsT.at {a : Addr} {o : HO} (h : ∀ xs, H a ≠ some (.tup xs)) (h' : ∀ ob u, H a ≠ some (.frz ob u)) : KeepsT K H (upd H a o) := fun b xs e => by
  rcases e with (e | ⟨ob, e⟩) | e
  · exact .inl (.inl ((upd_ne (fun z : b = a => h xs (z ▸ e))).trans e))
  · exact .inl (.inr ⟨ob, (upd_ne (fun z : b = a => h' _ _ (z ▸ e))).trans e⟩)
  · exact .inr e
theorem KeepsT.lst {a : Addr} {xs : List V} {o : HO} (h : H a = some (.lst xs)) : KeepsT K H (upd H a o) := .at (fun _ z => by rw [h] at z; cases z) (fun _ _ z => by rw [h] at z; cases z)
theorem KeepsT.new {a : Addr} {o : HO} (h : H a = none) : KeepsT K H (upd H a o) := (same_new h).keepsT
theorem DtAll.append : ∀ {xs ys : List V} {ds es : List PyData}, DtAll K H xs ds → DtAll K H ys es → DtAll K H (xs ++ ys) (ds ++ es)
  | _, _, _, _, .nil, h => h
  | _, _, _, _, .cons a b, h => .cons a (b.append h)
theorem DtAll.length : ∀ {xs : List V} {ds : List PyData}, DtAll K H xs ds → xs.length = ds.length
  | _, _, .nil => rfl
  | _, _, .cons _ b => congrArg (· + 1) b.length
theorem DtAll.at : ∀ {xs : List V} {ds : List PyData} {i : Nat} {v : V}, DtAll K H xs ds → xs[i]? = some v → ∃ d, ds[i]? = some d ∧ Dt K H v d
  | _, _, 0, _, .cons a _, h => by
    cases h
    exact ⟨_, rfl, a⟩
  | _, _, i + 1, _, .cons _ b, h => b.at (i := i) h
theorem DtAll.two {x y : V} {d e : PyData} (a : Dt K H x d) (b : Dt K H y e) : DtAll K H [x, y] [d, e] := .cons a (.cons b .nil)
end

/-! ### rows -/
def dwD (r : Str × Int) : PyData := .tuple [.str r.1, .int r.2]
def rowD (r : List (Str × Int)) : PyData := .tuple (r.map dwD)
def Dirs (r : List (Str × Int)) : Prop := ∀ x ∈ r, x.2 = 1 ∨ x.2 = -1

end My
set_option Elab.async false
set_option linter.all false
set_option maxRecDepth 100000
set_option maxHeartbeats 4000000
/-! Values of any kind: None, bools, ints, texts, tuples, lists, dicts (keys ints and texts), nested; none of them is the pen at p. -/
namespace My
open PySem PySem.Spec PyProof.Rows L2

def keyD : Key → PyData
  | .inl i => .int i
  | .inr x => .str x
mutual
inductive Da (K : PySem.W.Frag) (p : Addr) (H : Hp) : V → PyData → Prop
  | non : Da K p H .non .none
  | bl (b : Bool) : Da K p H (.bl b) (.bool b)
  | int (i : Int) : Da K p H (.int i) (.int i)
  | str (x : Str) : Da K p H (.str x) (.str x)
  | lst {a : Addr} {xs : List V} {ds : List PyData} : a ≠ sysModules → SqL K H a xs → DaAll K p H xs ds → Da K p H (.ref a) (.list ds)
  | tup {a : Addr} {xs : List V} {ds : List PyData} : SqT K H a xs → DaAll K p H xs ds → Da K p H (.ref a) (.tuple ds)
  | dct {a : Addr} {kvs : List (Key × V)} {es : List (PyData × PyData)} : a ≠ p → H a = some (.dK kvs) → DaKv K p H kvs es → Da K p H (.ref a) (.dict es)
inductive DaAll (K : PySem.W.Frag) (p : Addr) (H : Hp) : List V → List PyData → Prop
  | nil : DaAll K p H [] []
  | cons {v : V} {vs : List V} {d : PyData} {ds : List PyData} : Da K p H v d → DaAll K p H vs ds → DaAll K p H (v :: vs) (d :: ds)
inductive DaKv (K : PySem.W.Frag) (p : Addr) (H : Hp) : List (Key × V) → List (PyData × PyData) → Prop
  | nil : DaKv K p H [] []
  | cons {k : Key} {v : V} {r : List (Key × V)} {d : PyData} {es : List (PyData × PyData)} : Da K p H v d → DaKv K p H r es → DaKv K p H ((k, v) :: r) ((keyD k, d) :: es)
end
section
variable {K : PySem.W.Frag} {p c : Addr} {n : Nat} {H H' H2 : Hp}
/-- what is read of lists, tuples, dicts (but p) stays -/
structure KeepA (K : PySem.W.Frag) (p : Addr) (H H' : Hp) : Prop where
  l : ∀ a xs, SqL K H a xs → SqL K H' a xs
  t : ∀ a xs, SqT K H a xs → SqT K H' a xs
  d : ∀ a kvs, a ≠ p → H a = some (.dK kvs) → H' a = some (.dK kvs)
theorem KeepA.refl : KeepA K p H H := ⟨fun _ _ h => h, fun _ _ h => h, fun _ _ _ h => h⟩
theorem KeepA.trans (a : KeepA K p H H') (b : KeepA K p H' H2) : KeepA K p H H2 := ⟨fun _ _ h => b.l _ _ (a.l _ _ h), fun _ _ h => b.t _ _ (a.t _ _ h), fun _ _ n h => b.d _ _ n (a.d _ _ n h)⟩
theorem _root_.L2.Same.keepA (s : Same H H') : KeepA K p H H' := ⟨s.keeps.l, s.keeps.t, fun _ _ _ e => s _ _ e⟩
theorem SameP.keepA (s : SameP p H H') (G : PenAt H p c n) : KeepA K p H H' := ⟨(s.keeps G).l, (s.keeps G).t, fun _ _ ne e => s _ _ ne e⟩
mutual
theorem da_keep (s : KeepA K p H H') : ∀ {d : PyData} {v : V}, Da K p H v d → Da K p H' v d
  | .none, _, h => by cases h; exact .non
  | .bool _, _, h => by cases h; exact .bl _
  | .int _, _, h => by cases h; exact .int _
  | .str _, _, h => by cases h; exact .str _
  | .tuple ds, _, h => by
    cases h with
    | tup a b => exact .tup (s.t _ _ a) (da_keepAll s b)
  | .list _, _, h => by
    cases h with
    | lst a b c => exact .lst a (s.l _ _ b) (da_keepAll s c)
  | .dict es, _, h => by
    cases h with
    | dct a b c => exact .dct a (s.d _ _ a b) (da_keepKv s c)
theorem da_keepAll (s : KeepA K p H H') : ∀ {ds : List PyData} {vs : List V}, DaAll K p H vs ds → DaAll K p H' vs ds
  | [], _, h => by cases h; exact .nil
  | d :: ds, _, h => by
    cases h with
    | cons a b => exact .cons (da_keep s a) (da_keepAll s b)
theorem da_keepKv (s : KeepA K p H H') : ∀ {es : List (PyData × PyData)} {kvs : List (Key × V)}, DaKv K p H kvs es → DaKv K p H' kvs es
  | [], _, h => by cases h; exact .nil
  | (k, d) :: es, _, h => by
    cases h with
    | cons a b => exact .cons (da_keep s a) (da_keepKv s b)
end
mutual
theorem dt_da : ∀ {d : PyData} {v : V}, Dt K H v d → Da K p H v d
  | .none, _, h => by cases h; exact .non
  | .bool _, _, h => by cases h; exact .bl _
  | .int _, _, h => by cases h; exact .int _
  | .str _, _, h => by cases h; exact .str _
  | .tuple ds, _, h => by
    cases h with
    | tup a b => exact .tup a (dt_daAll b)
  | .list _, _, h => by cases h
  | .dict _, _, h => by cases h
theorem dt_daAll : ∀ {ds : List PyData} {vs : List V}, DtAll K H vs ds → DaAll K p H vs ds
  | [], _, h => by cases h; exact .nil
  | d :: ds, _, h => by
    cases h with
    | cons a b => exact .cons (dt_da a) (dt_daAll b)
end
theorem DaAll.append : ∀ {xs ys : List V} {ds es : List PyData}, DaAll K p H xs ds → DaAll K p H ys es → DaAll K p H (xs ++ ys) (ds ++ es)
  | _, _, _, _, .nil, h => h
  | _, _, _, _, .cons a b, h => .cons a (b.append h)
theorem DaAll.length : ∀ {xs : List V} {ds : List PyData}, DaAll K p H xs ds → xs.length = ds.length
  | _, _, .nil => rfl
  | _, _, .cons _ b => congrArg (· + 1) b.length
theorem DaAll.at : ∀ {xs : List V} {ds : List PyData} {i : Nat} {v : V}, DaAll K p H xs ds → xs[i]? = some v → ∃ d, ds[i]? = some d ∧ Da K p H v d
  | _, _, 0, _, .cons a _, h => by
    cases h
    exact ⟨_, rfl, a⟩
  | _, _, i + 1, _, .cons _ b, h => b.at (i := i) h
theorem DaAll.take : ∀ {xs : List V} {ds : List PyData} (i : Nat), DaAll K p H xs ds → DaAll K p H (xs.take i) (ds.take i)
  | _, _, 0, _ => .nil
  | _, _, _ + 1, .nil => .nil
  | _, _, i + 1, .cons a b => .cons a (b.take i)
theorem DaAll.drop : ∀ {xs : List V} {ds : List PyData} (i : Nat), DaAll K p H xs ds → DaAll K p H (xs.drop i) (ds.drop i)
  | _, _, 0, h => h
  | _, _, _ + 1, .nil => .nil
  | _, _, i + 1, .cons _ b => b.drop i
theorem DaAll.reverse : ∀ {xs : List V} {ds : List PyData}, DaAll K p H xs ds → DaAll K p H xs.reverse ds.reverse
  | _, _, .nil => .nil
  | _, _, .cons a b => by
    rw [List.reverse_cons, List.reverse_cons]
    exact b.reverse.append (.cons a .nil)
end

/-! ### its repr -/
section
variable {X : Cx} {pins : List (Addr × Obj)} {σ : L2.St} {H : Hp} {s : Shared} {p : Addr}
theorem keys_read {P : Program} {w : World} {h : Heap} : ∀ {vs : List (Key × Value)} {es : List DictEntry}, Pairs (mixKind P w) es vs → ReadsAll h (es.map (·.key)) (vs.map fun kv => keyD kv.1) []
  | _, _, .nil => .nil
  | _, _, .cons (e := e) (kv := kv) h1 h2 r => by
    have ih := keys_read (h := h) r
    rcases keyIs_shape (k := kv.1) (v := e.key) h1 with ⟨i, t, e1, e2⟩ | ⟨x, t, e1, e2⟩
    · rw [List.map_cons, List.map_cons, e1, e2]
      exact ReadsAll.cons (.int i t) ih
    · rw [List.map_cons, List.map_cons, e1, e2]
      exact ReadsAll.cons (.str x t) ih
theorem vals_read {P : Program} {w : World} : ∀ {vs : List (Key × Value)} {es : List DictEntry}, Pairs (mixKind P w) es vs → es.map (·.val) = vs.map (·.2)
  | _, _, .nil => rfl
  | _, _, .cons h1 h2 r => by rw [List.map_cons, List.map_cons, h2, vals_read r]
mutual
theorem da_reads (I : Inv X pins σ H s) : ∀ (d : PyData) (v : V) (u : Value), Da X.K p H v d → RelV v u → ∃ as, Reads s.heap u d as ∧ sysModules ∉ as
  | .none, _, _, h, r => by
    cases h
    cases r
    exact ⟨_, .none, List.not_mem_nil⟩
  | .bool b, _, _, h, r => by
    cases h
    cases r
    exact ⟨_, .bool b, List.not_mem_nil⟩
  | .int i, _, _, h, r => by
    cases h
    obtain ⟨t, rfl⟩ := r
    exact ⟨_, .int i t, List.not_mem_nil⟩
  | .str x, _, _, h, r => by
    cases h
    obtain ⟨t, rfl⟩ := r
    exact ⟨_, .str x t, List.not_mem_nil⟩
  | .list ds, _, _, h, r => by
    cases h with
    | lst hne hs ha =>
      cases r
      obtain ⟨its, rv, ⟨o, n, ho, hc, _, hd⟩, _⟩ := I.list hs
      obtain ⟨as, hr, ns⟩ := da_readsAll I ds _ its ha rv
      exact ⟨_, .list ho hc hd hr, fun z => (List.mem_cons.mp z).elim (fun e => hne e.symm) ns⟩
  | .tuple ds, _, _, h, r => by
    cases h with
    | tup hs ha =>
      cases r
      obtain ⟨its, rv, ⟨o, ho, hc, n, hd⟩, _⟩ := I.tuple hs
      obtain ⟨as, hr, ns⟩ := da_readsAll I ds _ its ha rv
      exact ⟨_, .tuple ho hc hd hr, ns⟩
  | .dict es, _, _, h, r => by
    cases h with
    | @dct a kvs _ hn ho hv =>
      cases r
      obtain ⟨_, ns, vs, kv, o, ents, ep, h1, h2, h3, _, h5, _⟩ := dk_of I.hok ho
      obtain ⟨as, hr, nsr, ek⟩ := da_readsKv I es _ vs hv kv
      have r1 := keys_read (h := s.heap) h5
      rw [ek] at r1
      refine ⟨_, .dict h1 h2.1 h3 r1 (by rw [vals_read h5]; exact hr), fun z => ?_⟩
      rcases List.mem_cons.mp (by simpa using z) with e | e
      · rw [← e] at ns
        simp at ns
      · exact nsr e
theorem da_readsAll (I : Inv X pins σ H s) : ∀ (ds : List PyData) (vs : List V) (us : List Value), DaAll X.K p H vs ds → Vals vs us → ∃ as, ReadsAll s.heap us ds as ∧ sysModules ∉ as
  | [], _, _, h, r => by
    cases h
    cases r
    exact ⟨_, .nil, List.not_mem_nil⟩
  | d :: ds, _, _, h, r => by
    cases h with
    | cons h1 h2 =>
      cases r with
      | cons r1 r2 =>
        obtain ⟨as, q1, n1⟩ := da_reads I d _ _ h1 r1
        obtain ⟨bs, q2, n2⟩ := da_readsAll I ds _ _ h2 r2
        exact ⟨_, .cons q1 q2, fun z => (List.mem_append.mp z).elim n1 n2⟩
theorem da_readsKv (I : Inv X pins σ H s) : ∀ (es : List (PyData × PyData)) (kvs : List (Key × V)) (vs : List (Key × Value)), DaKv X.K p H kvs es → KV kvs vs →
    ∃ as, ReadsAll s.heap (vs.map (·.2)) (es.map (·.2)) as ∧ sysModules ∉ as ∧ (vs.map fun kv => keyD kv.1) = es.map (·.1)
  | [], _, _, h, r => by
    cases h
    cases r
    exact ⟨_, .nil, List.not_mem_nil, rfl⟩
  | (k, d) :: es, _, _, h, r => by
    cases h with
    | cons h1 h2 =>
      cases r with
      | cons r1 r2 =>
        obtain ⟨as, q1, n1⟩ := da_reads I d _ _ h1 r1.2
        obtain ⟨bs, q2, n2, e⟩ := da_readsKv I es _ _ h2 r2
        refine ⟨_, .cons q1 q2, fun z => (List.mem_append.mp z).elim n1 n2, ?_⟩
        rw [List.map_cons, List.map_cons, e, ← r1.1]
end
end
section
variable {X : Cx}
def rReprA (K : PySem.W.Frag) : List V → Hp → VK → Prop := fun xs H Q => ∃ p v d, xs = [v] ∧ Da K p H v d ∧ d.showable = true ∧ d.depth ≤ 60 ∧ d.shown.length ≤ sizeLine ∧ Q (.str d.shown) H
theorem call_reprA (hg : Still X.A) (hu : X.A.units + 64 < cLine) : CallR X (.builtin "repr") (rReprA X.K) := by
  intro pins s σ H xs us Q I r h
  obtain ⟨p, v, d, rfl, hd, hs, hdp, hz, q⟩ := h
  obtain ⟨u, rfl, rv⟩ := vals1 r
  obtain ⟨as, rd, nsys⟩ := da_reads I d v u hd rv
  have fin : ∀ (h' : Heap) (t tk : Tok), (∀ b o, s.heap.get? b = some o → h'.get? b = some o) → EP X pins σ Q (.str d.shown t) { s with heap := h', toks := tk } :=
    fun h' t tk k => ⟨.str d.shown, H, inv_more I k, ⟨t, rfl⟩, q⟩
  cases hd with
  | non =>
    cases rv
    exact PySem.P.repr_of_none (by simpa only [PyData.shown] using fin s.heap _ _ fun _ _ e => e)
  | bl b =>
    cases rv
    exact PySem.P.repr_of_bool (by simpa only [PyData.shown] using fin s.heap _ _ fun _ _ e => e)
  | int i =>
    obtain ⟨t, rfl⟩ := rv
    exact PySem.P.repr_of_int (by simpa [PyData.showable] using hs) (by simpa only [PyData.shown] using fin s.heap _ _ fun _ _ e => e)
  | str x =>
    obtain ⟨t, rfl⟩ := rv
    exact PySem.P.repr_of_str (by simpa only [PyData.shown] using fin s.heap _ _ fun _ _ e => e) (by simpa only [PyData.shown] using hz)
  | lst _ _ _ =>
    cases rv
    exact PySem.repr_of_reads' rd hs (fun _ => nsys) hg (by omega) (fun _ _ e => e) (fun h' u tk k => fin h' u tk k) hz
  | tup _ _ =>
    cases rv
    exact PySem.repr_of_reads' rd hs (fun _ => nsys) hg (by omega) (fun _ _ e => e) (fun h' u tk k => fin h' u tk k) hz
  | dct _ _ _ =>
    cases rv
    exact PySem.repr_of_reads' rd hs (fun _ => nsys) hg (by omega) (fun _ _ e => e) (fun h' u tk k => fin h' u tk k) hz
end
/-! ### new lists: not at sys.modules -/
section
variable {X : Cx}
def tLstN (t : TA) : TE := fun σ H Q => t σ H fun xs H1 => xs.length ≤ sizeLine ∧ ∀ p, H1 p = none → p ≠ sysModules → Q (.ref p) (upd H1 p (.lst xs))
theorem pe_lstN {es : List Expr} {pos : Pos} {t : TA} (ha : PA X es t) : PE X (.List es pos) (tLstN t) := by
  constructor
  intro pins s0 σ H Q I q0
  refine wpAny_List_spliced (thn (ha.run pos pins s0 σ H _ I q0) fun us s1 ⟨ys, H2, I2, rv, zz, q1⟩ => ⟨by have := rv.length; omega, ?_⟩)
  have fresh := I2.hok.fresh (Nat.le_refl s1.heap.objs.size)
  have nsys : s1.heap.objs.size ≠ sysModules := Nat.ne_of_gt I2.big
  exact ⟨.ref s1.heap.objs.size, upd H2 s1.heap.objs.size (.lst ys), I2.laid (t' := s1.toks) (fun _ _ e => Heap.get?_push_of_some _ e) (Nat.le_refl _) ⟨zz, us, 0, rv, Heap.get?_push_size _ rfl⟩, rfl, q1 _ fresh nsys⟩
/-- list(t) of a tuple -/
theorem call_listN : CallR X (.type "list") (fun xs H Q => ∃ p ys, xs = [.ref p] ∧ SqT X.K H p ys ∧ ∀ l, H l = none → l ≠ sysModules → Q (.ref l) (upd H l (.lst ys))) := by
  intro pins s σ H xs us Q I rv ⟨p, ys, ex, ht, q⟩
  subst ex
  obtain ⟨u, rfl, r1⟩ := vals1 rv
  cases r1
  obtain ⟨its, rr, ⟨o, ho, hc, n, hd⟩, hz⟩ := I.tuple ht
  have ll := rr.length
  refine call_list_seq p (.inr rfl) ho hc hd (fun h' c' kp e => ?_) (by simp only [List.size_toArray]; omega)
  exact ⟨.ref s.heap.objs.size, _, I.laid (t' := s.toks) kp (Nat.le_refl _) (show ObjOk X.prog X.w _ h' _ (.lst ys) from ⟨hz, its, c', rr, e⟩), rfl, q _ (I.hok.fresh (Nat.le_refl _)) (Nat.ne_of_gt I.big)⟩
end
end My
set_option Elab.async false
set_option linter.all false
set_option maxRecDepth 100000
set_option maxHeartbeats 4000000
/-! _law_refused: what a call that may raise makes of it -/
namespace My
open PySem PySem.Spec PyProof.Rows L2 LamX
/-- isinstance(e, c) in the suite that holds e -/
def rIsS (K : PySem.W.Frag) (cls : Value) (d : Option Addr) (a : Addr) : List V → Hp → VK → Prop := fun xs H Q => ∃ (D : Addr) (c : V) (cv : Value) (b : Bool), xs = [.ref a, c] ∧ cls = .ref D ∧ d = none ∧ XC K D ∧ (∀ u, RelV c u → u = cv) ∧ PySem.W.kitOne K (.ref D) cv = some b ∧ Q (.bl b) H
theorem call_isS {X : Cx} {a : Addr} {oe : Obj} {cls : Value} {d : Option Addr} {pn : List (Addr × Obj)} (hz : Zc cls d oe) (hf : ∃ vs, oe.data = .fields vs) : CallR (X.suite a ((a, oe) :: pn)) (.builtin "isinstance") (rIsS X.K cls d a) := by
  intro pins s σ H xs us Q I r h
  obtain ⟨D, c, cv, b, rfl, rfl, rfl, T, hcv, e, q⟩ := h
  obtain ⟨u1, u2, rfl, r1, r2⟩ := vals2 r
  cases (show u1 = Value.ref a from r1)
  cases hcv _ r2
  obtain ⟨hget, _⟩ := I.pin (a, oe) (List.mem_append.mpr (.inl List.mem_cons_self))
  obtain ⟨vs, hv⟩ := hf
  have J : PySem.W.InstAt s.heap a oe D none := ⟨hget, hz.1, by unfold PySem.W.notCls; rw [hv] <;> rfl, by rw [hz.2]; trivial⟩
  exact PySem.W.kia_one (PySem.W.kitx_exc (od := none) T.hc T.ga T.gt T.sb T.ha T.hn T.ht T.hm) I.kIn J e (fun z => nomatch z) fun tk => ⟨.bl b, H, I.tok tk, rfl, q⟩
/-- the classes of errors that the law asks about -/
structure RefC (K : PySem.W.Frag) (mg : Str → Option Value) (CO CX CW CR CN : Addr) : Prop where
  gO : mg "InvalidOrder" = some (.ref CO)
  gX : mg "InvalidExchange" = some (.ref CX)
  gW : mg "OtherWagons" = some (.ref CW)
  gR : mg "InvalidRow" = some (.ref CR)
  gN : mg "InvalidNumber" = some (.ref CN)
  gV : mg "ValueError" = none
  xO : XC K CO
  xX : XC K CX
  xW : XC K CW
  fO : XfC K CO
  fX : XfC K CX
  nO : PySem.W.findIn K (.ref CO) "value" = some none
  nX : PySem.W.findIn K (.ref CX) "value" = some none
  eO : PySem.W.exmAny K (.ref CO) [.ref CO, .ref CX] = some true
  eX : PySem.W.exmAny K (.ref CX) [.ref CO, .ref CX] = some true
  eW : PySem.W.exmAny K (.ref CW) [.ref CO, .ref CX] = some false
  wW : PySem.W.exmAny K (.ref CW) [.ref CW] = some true
  vW : PySem.W.kitOne K (.ref CW) (.type "ValueError") = some true
  vO : PySem.W.kitOne K (.ref CO) (.type "ValueError") = some true
  vX : PySem.W.kitOne K (.ref CX) (.type "ValueError") = some true
  rW : PySem.W.kitOne K (.ref CW) (.ref CR) = some false
  tO : PySem.W.kitAny K (.ref CO) [.ref CR, .ref CN, .ref CW] = some false
  tX : PySem.W.kitAny K (.ref CX) [.ref CR, .ref CN, .ref CW] = some false
  oo : PySem.W.kitOne K (.ref CO) (.ref CO) = some true
  ox : PySem.W.kitOne K (.ref CO) (.ref CX) = some false
  xo : PySem.W.kitOne K (.ref CX) (.ref CO) = some false
/-- a value that is shown: its data -/
structure Shw (K : PySem.W.Frag) (H : Hp) (v : V) (dt : PyData) : Prop where
  da : ∃ p, Da K p H v dt
  sh : dt.showable = true
  dp : dt.depth ≤ 60
  sz : dt.shown.length ≤ sizeLine
theorem Shw.keep {K : PySem.W.Frag} {H H' : Hp} {v : V} {dt : PyData} (h : Shw K H v dt) (s : Same H H') : Shw K H' v dt := ⟨let ⟨p, q⟩ := h.da; ⟨p, da_keep s.keepA q⟩, h.sh, h.dp, h.sz⟩
/-- the refusal that is told of an error -/
def RefE (K : PySem.W.Frag) (CO CX CW : Addr) (Q : VK) : XK := fun cls d H => (∃ dd v dt, cls = .ref CO ∧ d = some dd ∧ H dd = some (.xd [("value", v)]) ∧ Shw K H v dt ∧ ∀ t H', Same H H' → H' t = some (.tup [.str "order", .str dt.shown]) → Q (.ref t) H') ∨
  (∃ dd v dt, cls = .ref CX ∧ d = some dd ∧ H dd = some (.xd [("value", v)]) ∧ Shw K H v dt ∧ ∀ t H', Same H H' → H' t = some (.tup [.str "exchange", .str dt.shown]) → Q (.ref t) H') ∨
  (cls = .ref CW ∧ d = none ∧ ∀ t H', Same H H' → H' t = some (.tup [.str "other", .bl true]) → Q (.ref t) H')
def TTRef (K : PySem.W.Frag) (CO CX CW : Addr) : (XK → Hp → VK → Prop) → Hp → VK → Prop := fun tl H Q => ∀ Q' : VK, (∀ v H', Q .non H' → Q' v H') → tl (RefE K CO CX CW Q) H Q'
theorem boot_ve : bootBuiltins "ValueError" = some (.type "ValueError") := by decide +kernel
theorem refd_gives {X : Cx} {g CO CX CW CR CN : Addr} {cdg : Value} {q : Str} (R : RefC X.K X.mg CO CX CW CR CN) (mi : X.mg "isinstance" = none) (mr : X.mg "repr" = none) (st : Still X.A) (hr : Room 1 X.A) :
    GivesTo X ["call", "kept", "e"] "_law_refused" (defScope sRefd) g cdg (defBody sRefd) "call" q (TTRef X.K CO CX CW) := by
  intro f c' s H Q tl act hc h
  refine ⟨_, pss_cons (ps_set (i := 1) scRefd.nd rfl (.inl rfl) pe_non)
    (pss_cons (ps_try_kept (X := (cxOf C8.CX0 X.prog X.w X.K X.mg X.base ["call", "kept", "e"] "_law_refused" (defScope sRefd) g cdg X.A X.stack s H C8.E0).nox)
        (tb := fun W D σ H => ∃ Ech : XK, (∀ cls d σ' H', Ech cls d H' → W cls d σ' H') ∧ σ[0]? = some (some (.ref f)) ∧ H c' = some (CodeO c' q) ∧ tl Ech H (fun _ H' => D.nx σ H'))
        rfl rfl rfl rfl scRefd.nd L2.takes0 (fun W pn xe tk _ => ?_)
        (.cons (i := 2) (tst2 ⟨by rfl, by decide, .inl R.gO⟩ ⟨by rfl, by decide, .inl R.gX⟩) rfl rfl (fun a oe cls d pn hz hf => pss_one (ps_set (i := 1) scRefd.nd rfl (.inl rfl) (pv 2)))
        (.cons (i := 2) (tst1 ⟨by rfl, by decide, .inl R.gW⟩) rfl rfl (fun a oe cls d pn hz hf => pss_one (ps_ret (pe_tup (pa_cons pe_str (pa_cons (pe_and (pe_callB (call_isS hz hf) (by rfl) mi boot_isinstance (pa_cons (pv 2) (pa_cons (pe_bltn (v := .ty "ValueError") (by rfl) R.gV boot_ve rfl) pa_nil)))
            (pe_one (pe_not (pe_callB (call_isS hz hf) (by rfl) mi boot_isinstance (pa_cons (pv 2) (pa_cons (pe_glob (v := .ref CR) (by rfl) R.gR rfl) pa_nil)))))) pa_nil))))) .nil)))
    (pss_cons (ps_if (pt_cmpR op_isN (pv 1) pe_non (nomark _)) (pss_one (ps_ret pe_non)) pss_nil)
    (pss_cons (ps_if (PW.pt (pw_or (pt_not (pt_val (pe_callB call_isX (by rfl) mi boot_isinstance (pa_cons (pv 1) (pa_cons (pe_bltn (v := .ty "ValueError") (by rfl) R.gV boot_ve rfl) pa_nil)))))
        (pw_or1 (pt_val (pe_callB call_isXT (by rfl) mi boot_isinstance (pa_cons (pv 1) (pa_cons (pe_tup (pa_cons (pe_glob (v := .ref CR) (by rfl) R.gR rfl) (pa_cons (pe_glob (v := .ref CN) (by rfl) R.gN rfl) (pa_cons (pe_glob (v := .ref CW) (by rfl) R.gW rfl) pa_nil)))) pa_nil))))))) (pss_one (ps_ret (pe_tup (pa_cons pe_str pa_nil)))) pss_nil)
    (pss_cons (ps_if (pt_val (pe_callB call_isX (by rfl) mi boot_isinstance (pa_cons (pv 1) (pa_cons (pe_glob (v := .ref CO) (by rfl) R.gO rfl) pa_nil))))
        (pss_one (ps_ret (pe_ifExp (pt_val (pe_callB call_isX (by rfl) mi boot_isinstance (pa_cons (pv 1) (pa_cons (pe_glob (v := .ref CX) (by rfl) R.gX rfl) pa_nil)))) (pe_tup (pa_cons pe_str pa_nil))
          (pe_tup (pa_cons pe_str (pa_cons (pe_callB (call_reprA (st.deeper _) (hr.deeper _).units) (by rfl) mr boot_repr (pa_cons (pe_xk (pv 1)) pa_nil)) pa_nil)))))) pss_nil)
    (pss_one (ps_ret (pe_tup (pa_cons pe_str (pa_cons (pe_callB (call_reprA (st.deeper _) (hr.deeper _).units) (by rfl) mr boot_repr (pa_cons (pe_xk (pv 1)) pa_nil)) pa_nil))))))))), ?_⟩
  · refine ⟨fun pins s' σ H' D I h' => ?_⟩
    obtain ⟨Ech, hW, h1, h2, h3⟩ := h'
    exact (pss_one (ps_expr (act W pn xe Ech _ _ tk hW))).run pins s' σ H' D I ⟨h1, h2, h3⟩
  · refine ⟨RefE X.K CO CX CW Q, fun cls d σ' H' hE hl => ?_, rfl, hc, h _ fun v H' q => ⟨_, rfl, rfl, _, rfl, iteT q⟩⟩
    match σ', hl with
    | [x0, x1, x2], _ =>
      rcases hE with ⟨dd, v, dt, rfl, rfl, ed, sv, k⟩ | ⟨dd, v, dt, rfl, rfl, ed, sv, k⟩ | ⟨rfl, rfl, k⟩
      · refine ⟨true, R.eO, fun _ a na => ⟨_, rfl, ?_⟩, fun z => nomatch z⟩
        have s1 := same_new (o := XO (.ref CO) (some dd) a) na
        have e1 : (upd H' a (XO (.ref CO) (some dd) a)) a = _ := upd_same
        show _
        refine ⟨_, rfl, rfl, _, rfl, iteF ?_⟩
        generalize upd H' a (XO (.ref CO) (some dd) a) = H1 at s1 e1
        have d1 := s1 _ _ ed
        refine ⟨_, rfl, a, CO, some dd, .ty "ValueError", .type "ValueError", true, rfl, e1, ⟨_, d1⟩, R.xO, fun u r => r, R.vO, _, rfl, iteF ?_⟩
        refine ⟨_, rfl, by show 3 ≤ sizeLine; decide, fun tp htp => ?_⟩
        have s2 := same_new (o := HO.tup [.ref CR, .ref CN, .ref CW]) htp
        refine ⟨a, CO, some dd, tp, [.ref CR, .ref CN, .ref CW], _, false, rfl, s2 _ _ e1, ⟨_, s2 _ _ d1⟩, R.xO, upd_same, fun us r => ClsV.all (.cons (.own CR) (.cons (.own CN) (.cons (.own CW) .nil))) r, R.tO, _, rfl, iteF ?_⟩
        have S2 := s1.trans s2
        have e2 := s2 _ _ e1
        have d2 := s2 _ _ d1
        refine ⟨_, rfl, a, CO, some dd, .ref CO, .ref CO, true, rfl, e2, ⟨_, d2⟩, R.xO, fun u r => r, R.oo, _, rfl, iteT ?_⟩
        refine ⟨_, rfl, a, CO, some dd, .ref CX, .ref CX, false, rfl, e2, ⟨_, d2⟩, R.xO, fun u r => r, R.ox, _, rfl, iteF ?_⟩
        obtain ⟨⟨p, da⟩, w1, w2, w3⟩ := sv.keep S2
        refine ⟨_, rfl, a, CO, dd, _, v, rfl, e2, d2, rfl, R.fO, R.nO, p, v, dt, rfl, da, w1, w2, w3, by show 2 ≤ sizeLine; decide, fun t ht => ?_⟩
        exact k t _ (S2.trans (same_new ht)) upd_same
      · refine ⟨true, R.eX, fun _ a na => ⟨_, rfl, ?_⟩, fun z => nomatch z⟩
        have s1 := same_new (o := XO (.ref CX) (some dd) a) na
        have e1 : (upd H' a (XO (.ref CX) (some dd) a)) a = _ := upd_same
        show _
        refine ⟨_, rfl, rfl, _, rfl, iteF ?_⟩
        generalize upd H' a (XO (.ref CX) (some dd) a) = H1 at s1 e1
        have d1 := s1 _ _ ed
        refine ⟨_, rfl, a, CX, some dd, .ty "ValueError", .type "ValueError", true, rfl, e1, ⟨_, d1⟩, R.xX, fun u r => r, R.vX, _, rfl, iteF ?_⟩
        refine ⟨_, rfl, by show 3 ≤ sizeLine; decide, fun tp htp => ?_⟩
        have s2 := same_new (o := HO.tup [.ref CR, .ref CN, .ref CW]) htp
        refine ⟨a, CX, some dd, tp, [.ref CR, .ref CN, .ref CW], _, false, rfl, s2 _ _ e1, ⟨_, s2 _ _ d1⟩, R.xX, upd_same, fun us r => ClsV.all (.cons (.own CR) (.cons (.own CN) (.cons (.own CW) .nil))) r, R.tX, _, rfl, iteF ?_⟩
        have S2 := s1.trans s2
        have e2 := s2 _ _ e1
        have d2 := s2 _ _ d1
        refine ⟨_, rfl, a, CX, some dd, .ref CO, .ref CO, false, rfl, e2, ⟨_, d2⟩, R.xX, fun u r => r, R.xo, _, rfl, iteF ?_⟩
        obtain ⟨⟨p, da⟩, w1, w2, w3⟩ := sv.keep S2
        refine ⟨_, rfl, a, CX, dd, _, v, rfl, e2, d2, rfl, R.fX, R.nX, p, v, dt, rfl, da, w1, w2, w3, by show 2 ≤ sizeLine; decide, fun t ht => ?_⟩
        exact k t _ (S2.trans (same_new ht)) upd_same
      · refine ⟨false, R.eW, (fun z => nomatch z), fun _ hl => ⟨true, R.wW, fun _ a na => ?_, fun z => nomatch z⟩⟩
        refine ⟨_, rfl, CW, .ty "ValueError", .type "ValueError", true, rfl, rfl, rfl, R.xW, fun u r => r, R.vW, true, rfl, iteT ?_⟩
        refine ⟨_, rfl, CW, .ref CR, .ref CR, false, rfl, rfl, rfl, R.xW, fun u r => r, R.rW, _, rfl, by show 2 ≤ sizeLine; decide, fun t ht => ?_⟩
        exact k t _ (same_new ht) upd_same
end My
set_option Elab.async false
set_option linter.all false
set_option maxRecDepth 100000
set_option maxHeartbeats 4000000
/-! {e for target in it}, e an int or a text; len of such a set. -/
namespace My
open PySem PySem.Spec PyProof.Rows L2
section
variable {X : Cx} {pins : List (Addr × Obj)} {σ : L2.St} {H : Hp} {s : Shared}
def noKeys : Key → Bool := fun _ => false
def withKey (S : Key → Bool) (k : Key) : Key → Bool := fun j => S j || decide (j = k)
def more (S : Key → Bool) (k : Key) (n : Nat) : Nat := if S k = true then n else n + 1
theorem keys_fresh {P : Program} {w : World} {h : Heap} : (h.push { cls := .type "set", dict := none, data := .set #[] 0 (.fresh 0 0 (!w.params.followText "set-order")) }).SetOf (mixKind P w) h.objs.size noKeys 0 := by
  refine ⟨_, #[], 0, _, Heap.get?_push_size _ rfl, ⟨rfl, rfl, rfl⟩, rfl, fun e z => ?_, fun k => ?_, by decide, by rfl, rfl⟩
  · exact absurd z (by simp)
  · unfold noKeys
    simp
/-- a key is added -/
theorem key_added {E : Value → Shared → Prop} {D : Addr} {S : Key → Bool} {n : Nat} {k : Key} {u : Value} {Q : Value → Shared → Prop} (I : Inv X pins σ H s) (e : H D = some (SetK X.prog X.w D S n)) (r : RelV (kV k) u) (room : n + 1 < scanBound)
    (q : ∀ s', Inv X pins σ (upd H D (SetK X.prog X.w D (withKey S k) (more S k n))) s' → Q .none s') : wpAny (model X.prog X.w) X.A (call (.builtin "set.add") [.ref D, u]) Q E s := by
  refine call_set_add (kV_is r) (key_scan r) (setK_get I e) room fun h' same now => ?_
  obtain ⟨ob, _, _, _, there, _⟩ := id now
  refine q _ (I.write (e := D) (t' := s.toks + 1) ?_ (.inl rfl) (fun b u ne hu => (same.2 b ne).trans hu) ⟨ob, there⟩ (setK_new now))
  rw [e]
  trivial
/-- what one turn wants of the element's key -/
def keyEnd (P : Program) (w : World) (D : Addr) (Nx : Hp → Prop) : VK := fun y H => ∃ (k : Key) (S : Key → Bool) (n : Nat), y = kV k ∧ H D = some (SetK P w D S n) ∧ n + 1 < scanBound ∧ Nx (upd H D (SetK P w D (withKey S k) (more S k n)))
/-- the comprehension's reading; D is the new set -/
def tSetC (P : Program) (w : World) (wi : TI) (g : TG) (te : TE) (vs : List Nat) : TE := fun σ H Q => wi σ H fun J H1 => ∀ D, H1 D = none →
  ∃ W : Nat → Nat → Hp → Prop, (∃ m, W 0 m (upd H1 D (SetK P w D noKeys 0))) ∧ ∀ i m H, W i m H → (J.stop i H ∧ Q (.ref D) H) ∨
    (J.go i H ∧ ∃ Nx : Hp → Prop, (∀ H', Nx H' → ∃ m', m' < m ∧ W (i + 1) m' H') ∧ ∀ x H', J.yld i H x H' → g x (wipe σ vs) H' fun σ2 H2 => wipe σ2 vs = wipe σ vs ∧ te σ2 H2 (keyEnd P w D Nx))
theorem pe_setc {elt tg iter : Expr} {scope : Scope} {own : List (PySem.Str × Nat)} {pos : Pos} {wi : TI} {g : TG} {te : TE} (calm : X.calm = true) (nd : X.N.Nodup) (hi : PI X tg iter wi) (ok : BlkOk X.N X.env.scope scope own)
    (hg : ∀ (s : Shared) (H : Hp) (C : Addr) (cl : List (PySem.Str × Addr)) (fp : List Addr), PG (X.blk s H scope (compEnvC scope cl C X.env) fp) tg g)
    (he : ∀ (s : Shared) (H : Hp) (C : Addr) (cl : List (PySem.Str × Addr)) (fp : List Addr), PE (X.blk s H scope (compEnvC scope cl C X.env) fp) elt te)
    (plain : ∀ x, foldedSetIterable iter X.env x = pure x := by intro _; rfl) : PE X (.SetComp elt [⟨tg, iter, [], 0⟩] scope pos) (tSetC X.prog X.w wi g te (own.map (·.2))) := by
  refine ⟨fun pins s σ H Q I h => ?_⟩
  rw [PpSet.eval_SetComp]
  have cells : ∀ y ∈ scope.names, y.2 = .free → ∃ c, X.env.cells.lookup y.1 = some c := fun y hy e =>
    (ok.free y hy e).elim (fun k => I.ok.has _ (.inl k)) fun k => I.ok.has _ (.inr k)
  refine wpAny_comprehension_free (use := none) rfl plain (closure_ok cells) ok.kind (fun y hy e => (ok.uniq y hy).trans (congrArg some e)) ?_
  refine thn (hi.run pins s σ H _ I h) fun xv sa walks => thn walks fun itv sb z => ?_
  obtain ⟨it, fp, tn, J, Hb, rfl, Ib, T, st, foot, q⟩ := z
  refine PpSet.newSet_ok (newEnv_comp ?_)
  generalize hD : sb.heap.objs.size = D
  have freeD : Hb D = none := Ib.hok.fresh (Nat.le_of_eq hD)
  obtain ⟨W, ⟨m0, w0⟩, turn⟩ := q D freeD
  generalize hc : ({ sb with heap := sb.heap.push { cls := .type "set", dict := none, data := .set #[] 0 (.fresh 0 0 (!X.w.params.followText "set-order")) } } : Shared) = sc
  have heapC : sc.heap = sb.heap.push { cls := .type "set", dict := none, data := .set #[] 0 (.fresh 0 0 (!X.w.params.followText "set-order")) } := by rw [← hc]
  have Ic : Inv X pins σ (upd Hb D (SetK X.prog X.w D noKeys 0)) sc := by
    rw [← hc]
    refine Ib.laid (t' := sb.toks) (fun b o e => Heap.get?_push_of_some _ e) (Nat.le_of_eq hD) ?_
    rw [← hD]
    exact setK_new keys_fresh
  have small : ∀ b ∈ fp, b < sb.heap.objs.size := fun b hb => let ⟨_, e, _⟩ := T.obj _ _ st b hb; Heap.lt_size e
  have footC : ∀ b ∈ fp, FpOk X pins (upd Hb D (SetK X.prog X.w D noKeys 0)) b ∧ b < sc.heap.objs.size := fun b hb => by
    have lt := small b hb
    refine ⟨⟨(upd_ne (hD ▸ Nat.ne_of_lt lt)).trans (foot b hb).1, (foot b hb).2⟩, ?_⟩
    rw [heapC, Heap.size_push]
    exact Nat.lt_succ_of_lt lt
  have stc : tn 0 sc.heap := T.keep _ _ _ st fun b _ o e => heapC ▸ Heap.get?_push_of_some _ e
  have In := block_start Ic ok nd footC
  let ce := compEnvC scope (cellsFrom (sc.heap.objs.size + 1) scope.names (cloFrom X.env.cells scope.names [])) sc.heap.objs.size X.env
  let Hc := upd Hb D (SetK X.prog X.w D noKeys 0)
  have pg : PG (X.blk sc Hc scope ce fp) tg g := hg _ _ _ _ _
  have pe : PE (X.blk sc Hc scope ce fp) elt te := he _ _ _ _ _
  let B := X.blk sc Hc scope ce fp
  have nfp : ∀ b ∈ fp, Hc b = none := fun b hb => (footC b hb).1.1
  generalize hd : ({ sc with heap := pushCells (sc.heap.push { cls := .type "dict", data := .dict #[] }) scope.names } : Shared) = sd at In
  have Id : Inv B [] (wipe σ (own.map (·.2))) Hc sd := In
  have std : tn 0 sd.heap := T.keep _ _ _ stc fun b _ o e => by rw [← hd]; exact pushCells_keeps _ _ _ _ (Heap.get?_push_of_some _ e)
  have stay : ∀ {σ' : L2.St} {H' : Hp} {s' : Shared}, Inv B [] σ' H' s' → (∀ b ∈ fp, H' b = none) → ∀ b ∈ fp, FpOk B [] H' b := fun {_ _ _} J no b hb =>
    ⟨no b hb, (J.ok.exf b hb).1, J.ok.exfs b hb, .inl hb, fun x c e => (J.ok.exf b hb).2 x c e, fun p hp => (List.not_mem_nil (List.append_nil ([] : List (Addr × Obj)) ▸ hp)).elim⟩
  have loop : codeAny (model X.prog X.w) X.A (.compLoop (.SetComp elt [⟨tg, iter, [], 0⟩] scope pos) 0 (.ref it) (.ref D) ce) (compPost (model X.prog X.w) X.A X.xe none (EP X pins σ Q) (.ref D) sc.heap.objs.size) sd := by
    refine PpSet.compLoopS_any (fun n s' => ∃ i H', Inv B [] (wipe σ (own.map (·.2))) H' s' ∧ tn i s'.heap ∧ (∀ b ∈ fp, H' b = none) ∧ W i n H') ?_ m0 ⟨0, Hc, Id, std, nfp, w0⟩
    rintro n se ⟨i, He, Ie, ste, ne, we⟩
    rcases turn i n He we with ⟨stop, fin⟩ | ⟨go, Nx, fall, step⟩
    · refine thnF (T.done B rfl rfl rfl calm i [] se _ He (fun _ _ => False) Ie (stay Ie ne) ste stop) fun r sf ⟨er, If⟩ => ?_
      subst er
      have Ig : Inv X pins σ He sf := Ic.call' (ch := fp) If.os If.base If.hok If.bare fun b hb => let f := (footC b hb).1; ⟨f.2.2.2.1, f.2.1, f.2.2.2.2.1, f.2.2.2.2.2⟩
      have noC : He sc.heap.objs.size = none := If.free
      obtain ⟨m, hn, _⟩ := If.loc
      obtain ⟨f0, f1, f2, f3, f4, f5⟩ := Ic.fpOk (Nat.le_refl _) noC
      exact ⟨m, hn, fun h'' sm => ⟨.ref D, He, Ig.turned (t' := sf.toks) (fun b o hb e => (sm.2 b hb).trans e) f0 f1 f3 f4 f5, rfl, fin⟩⟩
    · refine thnF (T.item B rfl rfl rfl calm i [] se _ He (fun _ _ => False) Ie (stay Ie ne) ste go) fun r sf ⟨u, er, hf⟩ => ?_
      subst er
      refine thnF hf fun _ sg ⟨x, Hg, Ig, rg, yg, stg, ng⟩ => ?_
      have Ip := Ig.pinned (stay Ig ng) (T.obj _ _ stg)
      refine thnF (pg.run _ sg _ Hg x u _ Ip rg (step x Hg yg)) fun _ sh ⟨σh, Hh, Ih, same, qh⟩ => ?_
      refine wpAny_tests_nil ?_
      rw [if_pos rfl]
      refine thnF (pe.run _ sh σh Hh _ Ih qh) fun v si ⟨yv, Hi, Ii, rv, k, S, c, ey, hDi, room, nx⟩ => ?_
      subst ey
      refine key_added (X := B) Ii hDi rv room fun sj Ij => ?_
      obtain ⟨m', lt, w'⟩ := fall _ nx
      have held : ∀ b ∈ fp, ∀ o, sg.heap.get? b = some o → sj.heap.get? b = some o ∧ (upd Hi D (SetK X.prog X.w D (withKey S k) (more S k c))) b = none := fun b hb o e =>
        let z := Ij.pin (b, o) (List.mem_append_right _ (List.mem_append_right _ (mem_pinsAt hb e)))
        ⟨z.1, z.2.1⟩
      have len : (wipe σ (own.map (·.2))).length = σh.length := by rw [← same, wipe_length]
      refine ⟨m', lt, i + 1, _, (Ij.unpinned (pins := [])).weak len (fun j v e => ?_), T.keep _ _ _ stg fun b hb o e => (held b hb o e).1, fun b hb => ?_, w'⟩
      · rw [← same] at e
        exact (wipe_some e).1
      · obtain ⟨o, e, _⟩ := T.obj _ _ stg b hb
        exact (held b hb o e).2
  exact PpSet.codeAny_compStart_set loop (T.self X.A 0 _ _ _ std loop)
end
end My
set_option Elab.async false
set_option linter.all false
set_option maxRecDepth 100000
set_option maxHeartbeats 8000000
/-! set(xs), xs a list (or a tuple) of ints and texts, any number of them; len of a set of such. -/
namespace My
open PySem PySem.Spec PyProof.Rows L2

theorem one_nodup {α : Type} (x : α) : [x].Nodup := List.nodup_cons.mpr ⟨List.not_mem_nil, List.nodup_nil⟩
open Classical in
/-- the keys met so far, each once -/
noncomputable def metK : List Key → List Key → List Key
  | seen, [] => seen
  | seen, k :: r => metK (if k ∈ seen then seen else seen ++ [k]) r
open Classical in
theorem metK_snoc : ∀ (xs seen : List Key) (k : Key), metK seen (xs ++ [k]) = if k ∈ metK seen xs then metK seen xs else metK seen xs ++ [k]
  | [], seen, k => rfl
  | x :: r, seen, k => metK_snoc r _ k
open Classical in
theorem mem_metK : ∀ (xs seen : List Key) (k : Key), k ∈ metK seen xs ↔ k ∈ seen ∨ k ∈ xs
  | [], seen, k => by simp [metK]
  | x :: r, seen, k => by
    rw [metK, mem_metK r]
    split
    · rename_i h
      constructor
      · rintro (z | z)
        · exact .inl z
        · exact .inr (List.mem_cons_of_mem _ z)
      · rintro (z | z)
        · exact .inl z
        · rcases List.mem_cons.mp z with e | z
          · subst e
            exact .inl h
          · exact .inr z
    · rw [List.mem_append, List.mem_singleton, List.mem_cons, or_assoc]
open Classical in
theorem nodup_metK : ∀ (xs seen : List Key), seen.Nodup → (metK seen xs).Nodup
  | [], _, h => h
  | x :: r, seen, h => by
    rw [metK]
    refine nodup_metK r _ ?_
    split
    · exact h
    · rename_i z
      exact List.nodup_append.mpr ⟨h, one_nodup x, fun a ha b hb e => z (by rw [List.mem_singleton.mp hb] at e; exact e ▸ ha)⟩
open Classical in
theorem len_metK_le : ∀ (xs seen : List Key), (metK seen xs).length ≤ seen.length + xs.length
  | [], _ => Nat.le_refl _
  | x :: r, seen => by
    rw [metK]
    have h := len_metK_le r (if x ∈ seen then seen else seen ++ [x])
    have : (if x ∈ seen then seen else seen ++ [x]).length ≤ seen.length + 1 := by
      split
      · omega
      · rw [List.length_append]; exact Nat.le_refl _
    rw [List.length_cons]
    omega
open Classical in
/-- as many as items just where all differ -/
theorem len_metK_eq : ∀ (xs seen : List Key), seen.Nodup → ((metK seen xs).length = seen.length + xs.length ↔ (seen ++ xs).Nodup)
  | [], seen, h => by simp [metK, h]
  | x :: r, seen, h => by
    rw [metK]
    by_cases z : x ∈ seen
    · rw [if_pos z]
      constructor
      · intro e
        have := len_metK_le r seen
        rw [List.length_cons] at e
        omega
      · intro nd
        have := (List.nodup_append.mp nd).2.2 x z x List.mem_cons_self
        exact absurd rfl this
    · rw [if_neg z]
      have nd : (seen ++ [x]).Nodup := List.nodup_append.mpr ⟨h, one_nodup x, fun a ha b hb e => z (by rw [List.mem_singleton.mp hb] at e; exact e ▸ ha)⟩
      have ih := len_metK_eq r (seen ++ [x]) nd
      rw [List.length_append, List.length_singleton, List.append_assoc] at ih
      rw [List.length_cons, show seen.length + (r.length + 1) = seen.length + 1 + r.length by omega]
      exact ih
open Classical in
noncomputable def inK (xs : List Key) : Key → Bool := fun k => decide (k ∈ xs)

section
variable {prog : Program} {w : World}
theorem setOf_eq {h : Heap} {a : Addr} {S T : Key → Bool} {n m : Nat} (R : h.SetOf (mixKind prog w) a S n) (e : ∀ k, S k = T k) (en : n = m) : h.SetOf (mixKind prog w) a T m := by
  cases (funext e : S = T)
  cases en
  exact R
open Classical in
theorem met_add {h : Heap} {a : Addr} {xs : List Key} {k : Key} (R : h.SetOf (mixKind prog w) a (fun j => inK (metK [] xs) j || decide (j = k)) (if inK (metK [] xs) k = true then (metK [] xs).length else (metK [] xs).length + 1)) :
    h.SetOf (mixKind prog w) a (inK (metK [] (xs ++ [k]))) (metK [] (xs ++ [k])).length := by
  refine setOf_eq R (fun j => ?_) ?_
  · unfold inK
    rw [metK_snoc]
    by_cases z : k ∈ metK [] xs
    · rw [if_pos z]
      by_cases e : j = k
      · subst e
        simp [z]
      · simp [e]
    · rw [if_neg z]
      by_cases e : j = k
      · simp [e]
      · simp [e]
  · unfold inK
    rw [metK_snoc]
    by_cases z : k ∈ metK [] xs
    · rw [if_pos z, if_pos (decide_eq_true z)]
    · rw [if_neg z, if_neg (by simpa using z), List.length_append]
      rfl
variable {A : Around} {R : Result → Shared → Prop} {it : Addr} {fp wr : List Addr} {G : Array GenState → Array GenState → Prop} {n : Nat} {Y : Nat → Value → Prop} {St : Nat → Shared → Prop}
/-- the filling loop -/
theorem fill_loop (W : WalksS prog w A.in1 it fp wr G n Y St) {D : Addr} (apart : D ∉ fp) {ks : List Key} (len : ks.length = n) (keys : ∀ i v, Y i v → ∃ k, ks[i]? = some k ∧ keyIs k v = true) (room : n + 1 < scanBound) :
    ∀ (left i : Nat) (s : Shared), i + left = n → St i s → s.heap.SetOf (mixKind prog w) D (inK (metK [] (ks.take i))) (metK [] (ks.take i)).length →
      (∀ s', Moved (D :: wr) G s s' → s'.heap.SetOf (mixKind prog w) D (inK (metK [] ks)) (metK [] ks).length → R (.ok (.ret .none)) s') → codeAny (model prog w) A (.builtin "set.update.loop" ⟨[.ref D, .ref it], []⟩) R s := by
  have notW : D ∉ wr := fun h => apart (W.sub _ h)
  have wide : ∀ b ∈ wr, b ∈ D :: wr := fun _ h => List.mem_cons_of_mem _ h
  have kept : ∀ {s s' : Shared} {S : Key → Bool} {m : Nat}, Moved wr G s s' → s.heap.SetOf (mixKind prog w) D S m → s'.heap.SetOf (mixKind prog w) D S m := fun mv q => setOf_at q fun o e => mv.heap D o notW e
  intro left
  induction left with
  | zero =>
    intro i s e st have_ go
    have all : i = n := e
    subst all
    refine codeAny_builtin PyProof.Rows.F.entry_set_update_loop ?_
    rw [Around.under_plainId PyProof.Rows.F.plain_set_update_loop _]
    refine (show wpAny _ A.in1 (pyNext (.ref it) >>= _) _ _ s from wpAny_bind (W.done s _ _ st fun s' mv => ?_))
    refine (show wpAny _ A.in1 (ret Value.none) _ _ s' from wpAny_pure (go s' (mv.mono wide) ?_))
    have q := kept mv have_
    rwa [List.take_of_length_le (Nat.le_of_eq len)] at q
  | succ left ih =>
    intro i s e st have_ go
    refine codeAny_builtin PyProof.Rows.F.entry_set_update_loop ?_
    rw [Around.under_plainId PyProof.Rows.F.plain_set_update_loop _]
    refine (show wpAny _ A.in1 (pyNext (.ref it) >>= _) _ _ s from wpAny_bind (W.item i s _ _ (by omega) st fun v s' yv st' mv => ?_))
    obtain ⟨k, hk, isk⟩ := keys i v yv
    have q := kept mv have_
    have few : (metK [] (ks.take i)).length ≤ i := by
      have h := len_metK_le (ks.take i) []
      rw [List.length_take, List.length_nil] at h
      omega
    have scan : v.scannable = true := by
      rcases keyIs_shape isk with ⟨_, _, _, rfl⟩ | ⟨_, _, _, rfl⟩ <;> rfl
    refine (show wpAny _ A.in1 (holding [v] (setAdd D v) >>= _) _ _ s' from wpAny_bind (wpAny_holding ?_))
    unfold setAdd
    refine wpAny_holding (wpAny_bind ((mixKind prog w).pyHash (k := k) isk ?_))
    refine wpAny_setAddHashed_of (knd := mixKind prog w) (s := { s' with toks := s'.toks + 1 }) isk scan q (by omega) fun h' same now => ?_
    have nowK := met_add now
    rw [show ks.take i ++ [k] = ks.take (i + 1) by rw [List.take_add_one, hk]; rfl] at nowK
    refine wpAny_pure ⟨plainId_quiet PyProof.Rows.F.plain_set_update_loop _, ih (i + 1) _ (by omega) (W.frame _ s' _ _ st' (Nat.le_succ _) fun b hb o e => ?_) nowK fun s'' mv' end_ => ?_⟩
    · exact (same.2 b fun z => apart (z ▸ hb)).trans e
    · exact go s'' (Moved.trans W.gtrans ((mv.mono wide).then_heap (Nat.le_succ _) fun b o hb e => (same.2 b fun z => hb (z ▸ List.mem_cons_self)).trans e) mv') end_
end

section
variable {prog : Program} {w : World} {A : Around} {E : Value → Shared → Prop} {s : Shared}
abbrev setOb (led : Bool) : Obj := { cls := .type "set", dict := none, data := .set #[] 0 (.fresh 0 0 led) }
theorem setFrom_list {l : Addr} {items : Array Value} {ks : List Key} {Q : Value → Shared → Prop} (calm : A.handled = none) (src : s.heap.IsList l items) (len : ks.length = items.size) (keys : ∀ (i : Nat) (v : Value), items[i]? = some v → ∃ k, ks[i]? = some k ∧ keyIs k v = true)
    (room : items.size + 1 < scanBound) (q : ∀ (h' : Heap) (tk : Nat), h'.SetOf (mixKind prog w) s.heap.objs.size (inK (metK [] ks)) (metK [] ks).length → (∀ b o, b < s.heap.objs.size → s.heap.get? b = some o → h'.get? b = some o) →
      Q (.ref s.heap.objs.size) { s with heap := h', toks := tk }) : wpAny (model prog w) A (call (.type "set") [.ref l]) Q E s := by
  obtain ⟨c0, t0, mro0⟩ := PySem.F.called_set.mro
  have made0 := PySem.F.called_set.made
  have sub0 := PySem.F.called_set.sub
  refine wpAny_call (codeAny_of_tree (show wpAny _ _ (callAny (.type "set") _) _ _ _ from ?_))
  refine wpAny_pure ⟨Code.quiet_builtin _ (by decide +kernel), codeAny_builtin PySem.F.entry_type_call ?_⟩
  rw [Around.under_plain (weight_type_call_type "set" [.ref l] []) rfl]
  have nt0 := PySem.F.called_set.notType
  have cc0 := PySem.F.called_set.canCreate
  have tc0 := PySem.F.typeCall_set_1 (.ref l)
  repeat (any_goals (first | assumption | wp_step))
  refine codeAny_mono (code_set_new_1 (.ref l) (E := E) (Q₁ := fun ob s1 => ∃ led : Bool, ob = .ref s.heap.objs.size ∧ s1 = { s with heap := s.heap.push (setOb led) }) fun led => ⟨led, rfl, rfl⟩) fun res s1 z => ?_
  match res, z with
  | .error e, z => exact z
  | .ok .next, z => exact z.elim
  | .ok .brk, z => exact z.elim
  | .ok .cont, z => exact z.elim
  | .ok (.ret ob), ⟨led, e1, e2⟩ =>
    subst e1
    subst e2
    have at0 : (s.heap.push (setOb led)).get? s.heap.objs.size = some (setOb led) := Heap.get?_push_size _ rfl
    have ty0 : Shared.TypeIs { s with heap := s.heap.push (setOb led) } (.ref s.heap.objs.size) "set" := ⟨_, at0, rfl⟩
    have li0 := PySem.F.called_set.init.lookup
    have bi0 := PySem.F.called_set.init.bind (.ref s.heap.objs.size)
    repeat (any_goals (first | assumption | wp_step))
    refine codeAny_mono (codeAny_call_builtin (R := wants (fun r s2 => r = .none ∧ ∃ h' tk, s2 = { s with heap := h', toks := tk } ∧ h'.SetOf (mixKind prog w) s.heap.objs.size (inK (metK [] ks)) (metK [] ks).length ∧
        (∀ b o, b < s.heap.objs.size → s.heap.get? b = some o → h'.get? b = some o)) E) PySem.F.called_set.init.plain PySem.F.entry_set_init (check_set_init_1 ty0 ?_)) fun res2 s2 z2 => ?_
    · obtain ⟨⟨cl, dc, dt, sl⟩, hol, hcl, nl, hdl⟩ := src
      simp only at hcl hdl
      subst hcl
      subst hdl
      have here : (s.heap.push (setOb led)).get? l = some { cls := .type "list", dict := dc, data := .seq items nl, slots := sl } := Heap.get?_push_of_some _ hol
      have su1 := PySem.F.sub_list_set
      have su2 := PySem.F.sub_list_frozenset
      have nd0 : (Value.type "list" == Value.type "dict") = false := by decide
      have src' : (s.heap.push (setOb led)).IsList l items := ⟨_, here, rfl, nl, rfl⟩
      unfold Builtin.«set.__init__» noKeywords Builtin.Frozenset.updateFrom
      generalize pz : pyIter = pzI
      wp_walk
      subst pz
      refine wpAny_pyIter_list src' (wpAny_bind (wpAny_runValue ?_))
      have below : l < s.heap.objs.size := Heap.lt_size hol
      have calm3 : A.in1.in1.in1.handled = none := by simp [calm]
      have sz1 : (s.heap.push (setOb led)).objs.size = s.heap.objs.size + 1 := Heap.size_push _ _
      have ne1 : l ≠ (s.heap.push (setOb led)).objs.size := by
        rw [sz1]
        exact Nat.ne_of_lt (Nat.lt_succ_of_lt below)
      have out : s.heap.objs.size ∉ [(s.heap.push (setOb led)).objs.size, l] := by
        rw [sz1]
        simp only [List.mem_cons, List.not_mem_nil, or_false, not_or]
        exact ⟨Nat.ne_of_lt (Nat.lt_succ_self _), Nat.ne_of_gt below⟩
      refine fill_loop ((Walks.list calm3 _ l ne1 items).toS) out len keys room items.size 0 _ (Nat.zero_add _) ⟨⟨_, Heap.get?_push_size _ rfl, rfl, rfl⟩, (src'.push _)⟩ ?_ fun s' mv end_ => ?_
      · have get0 : ((s.heap.push (setOb led)).push { cls := .type "list_iterator", data := .fields #[.ref l, .int 0 0] }).get? s.heap.objs.size = some (setOb led) := Heap.get?_push_of_some _ at0
        refine ⟨_, #[], 0, _, get0, ⟨rfl, rfl, rfl⟩, rfl, fun e z => absurd z (by simp), fun k => ?_, by decide, by rfl, rfl⟩
        simp [inK, metK]
      · obtain ⟨h', g', d', tk', os'⟩ := s'
        cases (show g' = s.gens from mv.gens)
        cases (show d' = s.drawn from mv.drawn)
        cases (show os' = s.os from mv.os)
        refine (show wpAny _ _ _ _ _ _ from wpAny_pure (show wpAny _ _ (ret Value.none) _ _ _ from wpAny_pure ⟨rfl, h', tk', rfl, end_, fun b o hb e => ?_⟩))
        refine mv.heap b o ?_ (Heap.get?_push_of_some _ (Heap.get?_push_of_some _ e))
        simp only [List.mem_cons, List.not_mem_nil, or_false, not_or]
        refine ⟨Nat.ne_of_lt hb, ?_⟩
        rw [sz1]
        exact Nat.ne_of_lt (Nat.lt_succ_of_lt hb)
    · match res2, z2 with
      | .error e, z2 => exact z2
      | .ok .next, z2 => exact z2.elim
      | .ok .brk, z2 => exact z2.elim
      | .ok .cont, z2 => exact z2.elim
      | .ok (.ret r), ⟨e1, h', tk, e2, end_, keep⟩ =>
        subst e1
        subst e2
        repeat (any_goals (first | assumption | wp_step))
        exact q _ _ end_ keep
end

section
variable {prog : Program} {w : World} {A : Around} {E : Value → Shared → Prop} {s : Shared}
theorem setFrom_tuple {l : Addr} {items : Array Value} {ks : List Key} {Q : Value → Shared → Prop} (calm : A.handled = none) (src : s.heap.IsTuple l items) (len : ks.length = items.size) (keys : ∀ (i : Nat) (v : Value), items[i]? = some v → ∃ k, ks[i]? = some k ∧ keyIs k v = true)
    (room : items.size + 1 < scanBound) (q : ∀ (h' : Heap) (tk : Nat), h'.SetOf (mixKind prog w) s.heap.objs.size (inK (metK [] ks)) (metK [] ks).length → (∀ b o, b < s.heap.objs.size → s.heap.get? b = some o → h'.get? b = some o) →
      Q (.ref s.heap.objs.size) { s with heap := h', toks := tk }) : wpAny (model prog w) A (call (.type "set") [.ref l]) Q E s := by
  obtain ⟨c0, t0, mro0⟩ := PySem.F.called_set.mro
  have made0 := PySem.F.called_set.made
  have sub0 := PySem.F.called_set.sub
  refine wpAny_call (codeAny_of_tree (show wpAny _ _ (callAny (.type "set") _) _ _ _ from ?_))
  refine wpAny_pure ⟨Code.quiet_builtin _ (by decide +kernel), codeAny_builtin PySem.F.entry_type_call ?_⟩
  rw [Around.under_plain (weight_type_call_type "set" [.ref l] []) rfl]
  have nt0 := PySem.F.called_set.notType
  have cc0 := PySem.F.called_set.canCreate
  have tc0 := PySem.F.typeCall_set_1 (.ref l)
  repeat (any_goals (first | assumption | wp_step))
  refine codeAny_mono (code_set_new_1 (.ref l) (E := E) (Q₁ := fun ob s1 => ∃ led : Bool, ob = .ref s.heap.objs.size ∧ s1 = { s with heap := s.heap.push (setOb led) }) fun led => ⟨led, rfl, rfl⟩) fun res s1 z => ?_
  match res, z with
  | .error e, z => exact z
  | .ok .next, z => exact z.elim
  | .ok .brk, z => exact z.elim
  | .ok .cont, z => exact z.elim
  | .ok (.ret ob), ⟨led, e1, e2⟩ =>
    subst e1
    subst e2
    have at0 : (s.heap.push (setOb led)).get? s.heap.objs.size = some (setOb led) := Heap.get?_push_size _ rfl
    have ty0 : Shared.TypeIs { s with heap := s.heap.push (setOb led) } (.ref s.heap.objs.size) "set" := ⟨_, at0, rfl⟩
    have li0 := PySem.F.called_set.init.lookup
    have bi0 := PySem.F.called_set.init.bind (.ref s.heap.objs.size)
    repeat (any_goals (first | assumption | wp_step))
    refine codeAny_mono (codeAny_call_builtin (R := wants (fun r s2 => r = .none ∧ ∃ h' tk, s2 = { s with heap := h', toks := tk } ∧ h'.SetOf (mixKind prog w) s.heap.objs.size (inK (metK [] ks)) (metK [] ks).length ∧
        (∀ b o, b < s.heap.objs.size → s.heap.get? b = some o → h'.get? b = some o)) E) PySem.F.called_set.init.plain PySem.F.entry_set_init (check_set_init_1 ty0 ?_)) fun res2 s2 z2 => ?_
    · obtain ⟨⟨cl, dc, dt, sl⟩, hol, hcl, nl, hdl⟩ := src
      simp only at hcl hdl
      subst hcl
      subst hdl
      have here : (s.heap.push (setOb led)).get? l = some { cls := .type "tuple", dict := dc, data := .seq items nl, slots := sl } := Heap.get?_push_of_some _ hol
      have su1 := PySem.F.sub_tuple_set
      have su2 := PySem.F.sub_tuple_frozenset
      have nd0 : (Value.type "tuple" == Value.type "dict") = false := by decide
      have src' : (s.heap.push (setOb led)).IsTuple l items := ⟨_, here, rfl, nl, rfl⟩
      unfold Builtin.«set.__init__» noKeywords Builtin.Frozenset.updateFrom
      generalize pz : pyIter = pzI
      wp_walk
      subst pz
      refine wpAny_pyIter_tuple src' (wpAny_bind (wpAny_runValue ?_))
      have below : l < s.heap.objs.size := Heap.lt_size hol
      have calm3 : A.in1.in1.in1.handled = none := by simp [calm]
      have sz1 : (s.heap.push (setOb led)).objs.size = s.heap.objs.size + 1 := Heap.size_push _ _
      have ne1 : l ≠ (s.heap.push (setOb led)).objs.size := by
        rw [sz1]
        exact Nat.ne_of_lt (Nat.lt_succ_of_lt below)
      have out : s.heap.objs.size ∉ [(s.heap.push (setOb led)).objs.size, l] := by
        rw [sz1]
        simp only [List.mem_cons, List.not_mem_nil, or_false, not_or]
        exact ⟨Nat.ne_of_lt (Nat.lt_succ_self _), Nat.ne_of_gt below⟩
      refine fill_loop ((Walks.tuple calm3 _ l ne1 items).toS) out len keys room items.size 0 _ (Nat.zero_add _) ⟨⟨_, Heap.get?_push_size _ rfl, rfl, rfl⟩, (src'.push _)⟩ ?_ fun s' mv end_ => ?_
      · have get0 : ((s.heap.push (setOb led)).push { cls := .type "tuple_iterator", data := .fields #[.ref l, .int 0 0] }).get? s.heap.objs.size = some (setOb led) := Heap.get?_push_of_some _ at0
        refine ⟨_, #[], 0, _, get0, ⟨rfl, rfl, rfl⟩, rfl, fun e z => absurd z (by simp), fun k => ?_, by decide, by rfl, rfl⟩
        simp [inK, metK]
      · obtain ⟨h', g', d', tk', os'⟩ := s'
        cases (show g' = s.gens from mv.gens)
        cases (show d' = s.drawn from mv.drawn)
        cases (show os' = s.os from mv.os)
        refine (show wpAny _ _ _ _ _ _ from wpAny_pure (show wpAny _ _ (ret Value.none) _ _ _ from wpAny_pure ⟨rfl, h', tk', rfl, end_, fun b o hb e => ?_⟩))
        refine mv.heap b o ?_ (Heap.get?_push_of_some _ (Heap.get?_push_of_some _ e))
        simp only [List.mem_cons, List.not_mem_nil, or_false, not_or]
        refine ⟨Nat.ne_of_lt hb, ?_⟩
        rw [sz1]
        exact Nat.ne_of_lt (Nat.lt_succ_of_lt hb)
    · match res2, z2 with
      | .error e, z2 => exact z2
      | .ok .next, z2 => exact z2.elim
      | .ok .brk, z2 => exact z2.elim
      | .ok .cont, z2 => exact z2.elim
      | .ok (.ret r), ⟨e1, h', tk, e2, end_, keep⟩ =>
        subst e1
        subst e2
        repeat (any_goals (first | assumption | wp_step))
        exact q _ _ end_ keep
end
end My
set_option Elab.async false
set_option linter.all false
set_option maxRecDepth 100000
set_option maxHeartbeats 4000000
/-! set(xs), len of a set, {.. for .. in t}: the rules and their turns. -/
namespace My
open PySem PySem.Spec PyProof.Rows L2
section
variable {X : Cx}
theorem vals_keys : ∀ {ks : List Key} {us : List Value}, Vals (ks.map kV) us → ∀ (i : Nat) (v : Value), us[i]? = some v → ∃ k, ks[i]? = some k ∧ keyIs k v = true
  | [], _, .nil, i, v, h => by simp at h
  | k :: r, _, .cons a b, 0, v, h => ⟨k, rfl, by
    cases h
    cases k with
    | inl i =>
      obtain ⟨t, rfl⟩ := a
      exact keyIs_int i t
    | inr x =>
      obtain ⟨t, rfl⟩ := a
      exact keyIs_str x t⟩
  | k :: r, _, .cons a b, i + 1, v, h => vals_keys b i v h
/-- set(xs) -/
def rSetOf (K : PySem.W.Frag) (P : Program) (w : World) : List V → Hp → VK → Prop := fun xs H Q => ∃ (a : Addr) (ks : List Key), xs = [.ref a] ∧ (SqL K H a (ks.map kV) ∨ SqT K H a (ks.map kV)) ∧ ks.length ≤ 1000 ∧
  ∀ p, H p = none → Q (.ref p) (upd H p (SetK P w p (inK (metK [] ks)) (metK [] ks).length))
theorem call_setOf (calm : X.calm = true) : CallR X (.type "set") (rSetOf X.K X.prog X.w) := by
  intro pins s σ H xs us Q I r h
  obtain ⟨a, ks, rfl, hs, hl, q⟩ := h
  obtain ⟨u, rfl, rx⟩ := vals1 r
  cases rx
  have fin : ∀ (h' : Heap) (tk : Nat), h'.SetOf (mixKind X.prog X.w) s.heap.objs.size (inK (metK [] ks)) (metK [] ks).length → (∀ b o, b < s.heap.objs.size → s.heap.get? b = some o → h'.get? b = some o) →
      EP X pins σ Q (.ref s.heap.objs.size) { s with heap := h', toks := tk } := fun h' tk R k =>
    ⟨.ref _, upd H s.heap.objs.size (SetK X.prog X.w s.heap.objs.size (inK (metK [] ks)) (metK [] ks).length), I.laid (t' := tk) (fun b o e => k b o (Heap.lt_size e) e) (Nat.le_refl _) (setK_new R), rfl, q _ (I.hok.fresh (Nat.le_refl _))⟩
  have sb : ks.length + 1 < scanBound := by unfold scanBound; omega
  rcases hs with hs | hs
  · obtain ⟨its, rv, pl, _⟩ := I.list hs
    have el : ks.length = its.toArray.size := by rw [List.size_toArray, ← rv.length, List.length_map]
    exact setFrom_list (I.ok.hd calm) pl.isList el (fun i v e => vals_keys rv i v (by simpa using e)) (by rw [← el]; exact sb) fin
  · obtain ⟨its, rv, pl, _⟩ := I.tuple hs
    have el : ks.length = its.toArray.size := by rw [List.size_toArray, ← rv.length, List.length_map]
    exact setFrom_tuple (I.ok.hd calm) pl el (fun i v e => vals_keys rv i v (by simpa using e)) (by rw [← el]; exact sb) fin
/-- len of a set -/
def rLenK (P : Program) (w : World) : List V → Hp → VK → Prop := fun xs H Q => ∃ (a : Addr) (S : Key → Bool) (n : Nat), xs = [.ref a] ∧ H a = some (SetK P w a S n) ∧ n ≤ 100000 ∧ Q (.int (n : Int)) H
theorem call_lenK : CallR X (.builtin "len") (rLenK X.prog X.w) := by
  intro pins s σ H xs us Q I r h
  obtain ⟨a, S, n, rfl, hs, hn, q⟩ := h
  obtain ⟨u, rfl, rx⟩ := vals1 r
  cases rx
  obtain ⟨o, es, ep, t, ho, hex, hd, _, _, _, hf, en⟩ := setK_get I hs
  exact call_len_set ho hex hd hf (by rw [en] <;> omega) ⟨.int (n : Int), H, I.tok _, ⟨_, by rw [en]⟩, q⟩
end
/-- a set comprehension over a tuple that the block leaves as it is -/
theorem setc_tup {P : Program} {w : World} {K : PySem.W.Frag} {a : Addr} {xs : List V} {g : TG} {te : TE} {vs : List Nat} {σ : L2.St} {H1 : Hp} {D : Addr} {Qd : Hp → Prop} (Pv : Nat → Hp → Prop) (h0 : Pv 0 (upd H1 D (SetK P w D noKeys 0)))
    (hl : ∀ i H, i ≤ xs.length → Pv i H → SqT K H a xs) (hs : ∀ i x H, xs[i]? = some x → Pv i H → g x (wipe σ vs) H fun σ2 H2 => wipe σ2 vs = wipe σ vs ∧ te σ2 H2 (keyEnd P w D (Pv (i + 1)))) (hd : ∀ H, Pv xs.length H → Qd H) :
    ∃ W : Nat → Nat → Hp → Prop, (∃ m, W 0 m (upd H1 D (SetK P w D noKeys 0))) ∧ ∀ i m H, W i m H → ((Itt K a).stop i H ∧ Qd H) ∨
      ((Itt K a).go i H ∧ ∃ Nx : Hp → Prop, (∀ H', Nx H' → ∃ m', m' < m ∧ W (i + 1) m' H') ∧ ∀ x H', (Itt K a).yld i H x H' → g x (wipe σ vs) H' fun σ2 H2 => wipe σ2 vs = wipe σ vs ∧ te σ2 H2 (keyEnd P w D Nx)) := by
  refine ⟨fun i m H => i + m = xs.length ∧ Pv i H, ⟨xs.length, Nat.zero_add _, h0⟩, fun i m H ⟨e, p⟩ => ?_⟩
  have there := hl i H (by omega) p
  cases m with
  | zero =>
    cases e
    exact .inl ⟨⟨xs, there, Nat.le_refl _⟩, hd H p⟩
  | succ m =>
    have lt : i < xs.length := by omega
    refine .inr ⟨⟨xs, xs[i], there, List.getElem?_eq_getElem lt⟩, Pv (i + 1), fun H' p' => ⟨m, Nat.lt_succ_self m, by omega, p'⟩, fun x H' y => ?_⟩
    obtain ⟨rfl, y⟩ := y
    exact hs i x _ (y xs there) p
end My
set_option Elab.async false
set_option linter.all false
set_option maxRecDepth 100000
set_option maxHeartbeats 4000000
namespace My
open PySem PySem.Spec PyProof.Rows L2 SeqAt
section
variable {X : Cx}
theorem op_eqNil (hu : X.A.units + 64 < cLine) : OpR X (compareOp .Eq) (rNil X.K id) := by
  intro pins s σ H x y v u Q I rx ry h
  obtain ⟨a, b, xs, rfl, rfl, h, q⟩ := h
  cases rx
  cases ry
  rcases h with ⟨ha, hb⟩ | ⟨ha, hb⟩
  · obtain ⟨its, rv, ⟨o, n, ho, hc, _, hd⟩, _⟩ := I.list ha
    obtain ⟨its2, rv2, ⟨o2, n2, ho2, hc2, _, hd2⟩, _⟩ := I.list hb
    cases vals_nil rv2
    have l1 : s.heap.IsList a its.toArray := ⟨o, ho, hc, n, hd⟩
    have l2 : s.heap.IsList b #[] := ⟨o2, ho2, hc2, n2, hd2⟩
    cases rv with
    | nil => exact RcAt.lists (e := fun _ => true) l1 l2 rfl (by omega) (fun j h1 => absurd h1 (Nat.not_lt_zero j)) _ _ _ _ ⟨.bl _, H, I, rfl, q⟩
    | cons r t => exact RcAt.lists_lengths l1 l2 (by simp) (by omega) _ _ _ _ ⟨.bl _, H, I, rfl, q⟩
  · obtain ⟨its, rv, ⟨o, ho, hc, n, hd⟩, _⟩ := I.tuple ha
    obtain ⟨its2, rv2, ⟨o2, ho2, hc2, n2, hd2⟩, _⟩ := I.tuple hb
    cases vals_nil rv2
    have l1 : s.heap.IsTuple a its.toArray := ⟨o, ho, hc, n, hd⟩
    have l2 : s.heap.IsTuple b #[] := ⟨o2, ho2, hc2, n2, hd2⟩
    refine RcAt.tuples (e := fun _ => true) l1 l2 (by omega) (fun j _ h2 => absurd h2 (Nat.not_lt_zero j)) _ _ _ _ ?_
    rw [show min its.toArray.size (#[] : Array Value).size = 0 from Nat.min_zero _]
    refine ⟨.bl xs.isEmpty, H, I, ?_, q⟩
    show Value.bool _ = Value.bool _
    rw [← vals_emp rv]
    simp
end
/-! ### a comprehension over anything of a known length -/
theorem lcJ {J : It} {n : Nat} {g : TG} {tt : TT} {te : TE} {vs : List Nat} {σ : L2.St} {H1 : Hp} {D : Addr} {Qd : Hp → Prop} (Pv : Nat → Hp → Prop) (h0 : Pv 0 (upd H1 D (.lst []))) (go : ∀ i H, i < n → Pv i H → J.go i H) (stop : ∀ H, Pv n H → J.stop n H)
    (hs : ∀ i H x H', i < n → Pv i H → J.yld i H x H' → g x (wipe σ vs) H' fun σ2 H2 => wipe σ2 vs = wipe σ vs ∧ tt σ2 H2 fun b H3 =>
      if b = true then te σ2 H3 fun y H4 => ∃ acc, H4 D = some (.lst acc) ∧ acc.length < sizeLine ∧ Pv (i + 1) (upd H4 D (.lst (acc ++ [y]))) else Pv (i + 1) H3) (hd : ∀ H, Pv n H → Qd H) :
    ∃ W : Nat → Nat → Hp → Prop, (∃ m, W 0 m (upd H1 D (.lst []))) ∧ ∀ i m H, W i m H → (J.stop i H ∧ Qd H) ∨
      (J.go i H ∧ ∃ Nx : Hp → Prop, (∀ H', Nx H' → ∃ m', m' < m ∧ W (i + 1) m' H') ∧ ∀ x H', J.yld i H x H' → g x (wipe σ vs) H' fun σ2 H2 => wipe σ2 vs = wipe σ vs ∧ tt σ2 H2 fun b H3 =>
        if b = true then te σ2 H3 fun y H4 => ∃ acc, H4 D = some (.lst acc) ∧ acc.length < sizeLine ∧ Nx (upd H4 D (.lst (acc ++ [y]))) else Nx H3) := by
  refine ⟨fun i m H => i + m = n ∧ Pv i H, ⟨n, Nat.zero_add _, h0⟩, fun i m H ⟨e, p⟩ => ?_⟩
  cases m with
  | zero =>
    cases e
    exact .inl ⟨stop H p, hd H p⟩
  | succ m => exact .inr ⟨go i H (by omega) p, Pv (i + 1), fun H' p' => ⟨m, Nat.lt_succ_self m, by omega, p'⟩, fun x H' y => hs i H x H' (by omega) p y⟩
/-- .. over a text's signs, no test -/
def lcN_str {x : Str} {te : TE} {vs : List Nat} {σ : L2.St} {H1 : Hp} {D : Addr} {Qd : Hp → Prop} {j : Nat} (Pv : Nat → Hp → Prop) (h0 : Pv 0 (upd H1 D (.lst [])))
    (hs : ∀ i c H, x.cps.toList[i]? = some c → Pv i H → wipe ((wipe σ vs).set j (some (.str (sign c)))) vs = wipe σ vs ∧ Grows te D (Pv (i + 1)) ((wipe σ vs).set j (some (.str (sign c)))) H) (hd : ∀ H, Pv x.length H → Qd H) :=
  lcJ (J := Its x) (n := x.length) (g := gName j) (tt := tYes) (te := te) (vs := vs) (σ := σ) (H1 := H1) (D := D) (Qd := Qd) Pv h0 (fun i H lt _ => lt) (fun H _ => Nat.le_refl _)
    (fun i H v H' lt p y => by
      obtain ⟨rfl, c, e, rfl⟩ := y
      have e' : x.cps.toList[i]? = some c := by rw [Array.getElem?_toList]; exact e
      exact yes_turn (hs i c _ e' p).1 (hs i c _ e' p).2) hd
/-- .. with a test whose answer is known and which leaves the heap -/
def lcT_str {x : Str} {tt : TT} {te : TE} {vs : List Nat} {σ : L2.St} {H1 : Hp} {D : Addr} {Qd : Hp → Prop} {j : Nat} (b : Nat → Bool) (Pv : Nat → Hp → Prop) (h0 : Pv 0 (upd H1 D (.lst [])))
    (hs : ∀ i c H, x.cps.toList[i]? = some c → Pv i H → wipe ((wipe σ vs).set j (some (.str (sign c)))) vs = wipe σ vs ∧ (∀ Q : Bool → Hp → Prop, Q (b c) H → tt ((wipe σ vs).set j (some (.str (sign c)))) H Q) ∧
      (b c = true → Grows te D (Pv (i + 1)) ((wipe σ vs).set j (some (.str (sign c)))) H) ∧ (b c = false → Pv (i + 1) H)) (hd : ∀ H, Pv x.length H → Qd H) :=
  lcJ (J := Its x) (n := x.length) (g := gName j) (tt := tt) (te := te) (vs := vs) (σ := σ) (H1 := H1) (D := D) (Qd := Qd) Pv h0 (fun i H lt _ => lt) (fun H _ => Nat.le_refl _)
    (fun i H v H' lt p y => by
      obtain ⟨rfl, c, e, rfl⟩ := y
      have e' : x.cps.toList[i]? = some c := by rw [Array.getElem?_toList]; exact e
      obtain ⟨w1, w2, w3, w4⟩ := hs i c _ e' p
      refine ⟨w1, w2 _ ?_⟩
      cases hb : b c with
      | true => exact iteT (w3 hb)
      | false => exact iteF (w4 hb)) hd

/-! ### kinds -/
def kindD : PyData → String
  | .none => "NoneType"
  | .bool _ => "bool"
  | .int _ => "int"
  | .str _ => "str"
  | .list _ => "list"
  | .tuple _ => "tuple"
  | .dict _ => "dict"
theorem da_ty {K : PySem.W.Frag} {p : Addr} {H : Hp} : ∀ {d : PyData} {v : V}, Da K p H v d → TyX K H v (.type (kindD d))
  | _, _, .non => .base .non
  | _, _, .bl b => .base (.bl b)
  | _, _, .int i => .base (.int i)
  | _, _, .str x => .base (.str x)
  | _, _, .lst _ h _ => by
    rcases h with (h | ⟨o, h⟩) | ⟨o, its, n, h, c, _⟩
    · exact .base (.lst h)
    · exact .base (.frz h)
    · exact .kList h c
  | _, _, .tup h _ => by
    rcases h with (h | ⟨o, h⟩) | ⟨o, its, n, h, c, _⟩
    · exact .base (.tup h)
    · exact .fTuple h
    · exact .kTuple h c
  | _, _, .dct _ h _ => .base (.dK h)
def isStr : PyData → Bool
  | .str _ => true
  | _ => false
def isTup : PyData → Bool
  | .tuple _ => true
  | _ => false
def isInt : PyData → Bool
  | .int _ => true
  | .bool _ => true
  | _ => false
def isBool : PyData → Bool
  | .bool _ => true
  | _ => false
theorem kit_str : ∀ d : PyData, kitB (kindD d) "str" = some (isStr d)
  | .none => (show kitB "NoneType" "str" = some false by decide +kernel)
  | .bool _ => (show kitB "bool" "str" = some false by decide +kernel)
  | .int _ => (show kitB "int" "str" = some false by decide +kernel)
  | .str _ => (show kitB "str" "str" = some true by decide +kernel)
  | .list _ => (show kitB "list" "str" = some false by decide +kernel)
  | .tuple _ => (show kitB "tuple" "str" = some false by decide +kernel)
  | .dict _ => (show kitB "dict" "str" = some false by decide +kernel)
theorem kit_tuple : ∀ d : PyData, kitB (kindD d) "tuple" = some (isTup d)
  | .none => (show kitB "NoneType" "tuple" = some false by decide +kernel)
  | .bool _ => (show kitB "bool" "tuple" = some false by decide +kernel)
  | .int _ => (show kitB "int" "tuple" = some false by decide +kernel)
  | .str _ => (show kitB "str" "tuple" = some false by decide +kernel)
  | .list _ => (show kitB "list" "tuple" = some false by decide +kernel)
  | .tuple _ => (show kitB "tuple" "tuple" = some true by decide +kernel)
  | .dict _ => (show kitB "dict" "tuple" = some false by decide +kernel)
theorem kit_int : ∀ d : PyData, kitB (kindD d) "int" = some (isInt d)
  | .none => (show kitB "NoneType" "int" = some false by decide +kernel)
  | .bool _ => (show kitB "bool" "int" = some true by decide +kernel)
  | .int _ => (show kitB "int" "int" = some true by decide +kernel)
  | .str _ => (show kitB "str" "int" = some false by decide +kernel)
  | .list _ => (show kitB "list" "int" = some false by decide +kernel)
  | .tuple _ => (show kitB "tuple" "int" = some false by decide +kernel)
  | .dict _ => (show kitB "dict" "int" = some false by decide +kernel)
theorem kit_bool : ∀ d : PyData, kitB (kindD d) "bool" = some (isBool d)
  | .none => (show kitB "NoneType" "bool" = some false by decide +kernel)
  | .bool _ => (show kitB "bool" "bool" = some true by decide +kernel)
  | .int _ => (show kitB "int" "bool" = some false by decide +kernel)
  | .str _ => (show kitB "str" "bool" = some false by decide +kernel)
  | .list _ => (show kitB "list" "bool" = some false by decide +kernel)
  | .tuple _ => (show kitB "tuple" "bool" = some false by decide +kernel)
  | .dict _ => (show kitB "dict" "bool" = some false by decide +kernel)
section
variable {K : PySem.W.Frag} {p : Addr} {H : Hp} {v : V} {d : PyData} {Q : VK}
theorem isi_str (h : Da K p H v d) (q : Q (.bl (isStr d)) H) : rIsi K [v, .ty "str"] H Q := ⟨v, _, _, _, _, rfl, .ty _, da_ty h, kit_ty (kit_str d), q⟩
theorem isi_tup (h : Da K p H v d) (q : Q (.bl (isTup d)) H) : rIsi K [v, .ty "tuple"] H Q := ⟨v, _, _, _, _, rfl, .ty _, da_ty h, kit_ty (kit_tuple d), q⟩
theorem isi_int (h : Da K p H v d) (q : Q (.bl (isInt d)) H) : rIsi K [v, .ty "int"] H Q := ⟨v, _, _, _, _, rfl, .ty _, da_ty h, kit_ty (kit_int d), q⟩
theorem isi_bool (h : Da K p H v d) (q : Q (.bl (isBool d)) H) : rIsi K [v, .ty "bool"] H Q := ⟨v, _, _, _, _, rfl, .ty _, da_ty h, kit_ty (kit_bool d), q⟩
end
end My
set_option Elab.async false
set_option linter.all false
set_option maxRecDepth 100000
set_option maxHeartbeats 4000000
namespace My
open PySem PySem.Spec PyProof.Rows L2

/-! ### what is a name, an integer, an end, a row -/
def lowC (c : Nat) : Bool := decide (97 ≤ c ∧ c ≤ 122)
def nmS (x : Str) : Bool := decide (1 ≤ x.length ∧ x.length ≤ 8) && x.cps.toList.all lowC
def nmD : PyData → Bool
  | .str x => nmS x
  | _ => false
def intD : PyData → Bool
  | .int _ => true
  | _ => false
theorem mem_abc (c : Nat) : decide (c ∈ abc.cps.toList) = lowC c := by
  rw [abc_codes]
  unfold lowC
  by_cases h : 97 ≤ c ∧ c ≤ 122
  · rw [decide_eq_true h, decide_eq_true (List.mem_map.mpr ⟨c - 97, List.mem_range.mpr (by omega), by omega⟩)]
  · rw [decide_eq_false h, decide_eq_false fun z => ?_]
    obtain ⟨j, hj, rfl⟩ := List.mem_map.mp z
    have := List.mem_range.mp hj
    exact h (by omega)
/-- texts and lists of a length that the model carries -/
def fitS (x : Str) : Prop := x.length ≤ 100000

section
variable {P : Program} {w : World} {K : PySem.W.Frag} {mg : Str → Option Value} {base : Heap} {t1 t2 : Tok}
/-- the names of the module that these defs read -/
structure Glb (mg : Str → Option Value) : Prop where
  isi : mg "isinstance" = none
  int : mg "int" = none
  bool : mg "bool" = none
  str : mg "str" = none
  tuple : mg "tuple" = none
  list : mg "list" = none
  len : mg "len" = none
  all : mg "all" = none
  set : mg "set" = none
  range : mg "range" = none
  abs : mg "abs" = none
  repr : mg "repr" = none
/-- is_name: of any value, for texts of a length that is carried; nothing that is tracked changes -/
def spIsName (K : PySem.W.Frag) : Sp := fun vs H Q _ => ∃ (p : Addr) (v : V) (d : PyData), vs = [v] ∧ Da K p H v d ∧ (∀ x, d = .str x → x.length ≤ 100000) ∧ ∀ H', Same H H' → Q (.bl (nmD d)) H'
theorem str_case {d : PyData} (h : isStr d = true) : ∃ x, d = .str x := by cases d <;> first | exact ⟨_, rfl⟩ | cases h
theorem nm_not {d : PyData} (h : isStr d = false) : nmD d = false := by cases d <;> first | rfl | cases h
theorem all_map (f : Nat → Bool) : ∀ l : List Nat, ((l.map f).all id) = l.all f
  | [] => rfl
  | c :: r => by rw [List.map_cons, List.all_cons, List.all_cons, all_map f r]; rfl
theorem ok_isname {f : Addr} {fd : FuncData} (F : Fun K "is_name" "is_name" sIsName f fd) (B : Glb mg) (g1 : mg "NAME_LENGTH" = some (.int 8 t1)) (g2 : mg "LETTERS" = some (.str abc t2)) : FnOk P w K mg base CX0 1 f fd ["value"] (spIsName K) := by
  refine F.ok scIsName (fun vs H Q E h => ?_) (fun cdv A outer s H vs Q E hr h => ?_)
  · obtain ⟨p, v, d, rfl, _⟩ := h
    rfl
  · obtain ⟨p, v, d, rfl, D, hx, q⟩ := h
    refine ⟨_, pss_cons (ps_if (PW.pt (pw_or (pt_not (pt_val (pe_callB call_isi (by rfl) B.isi boot_isinstance (pa_cons (pv 0) (pa_cons (pe_bltn (v := .ty "str") (by rfl) B.str boot_str rfl) pa_nil)))))
        (pw_or1 (pt_not (pt_chain op_le op_le pe_int (pe_callB call_len (by rfl) B.len PySem.boot_len (pa_cons (pv 0) pa_nil)) (pe_glob (v := .int 8) (by rfl) g1 ⟨_, rfl⟩)))))) (pss_one (ps_ret pe_bl)) pss_nil)
      (pss_one (ps_ret (pe_callB (cr_all rfl) (by rfl) B.all (by decide +kernel) (pa_cons (pe_lc (own := [("letter", 1)]) (g := gName 1) (tt := tYes) rfl scIsName.nd (pi_str (pv 0))
        (blkOk_by (own := [("letter", 1)]) (N := ["value", "letter"]) (sc := defScope sIsName) (by decide +kernel)) (fun _ _ _ _ _ => pg_name (i := 1) scIsName.nd rfl (Or.inl rfl)) (fun _ _ _ _ _ => pts_nil)
        (fun _ _ _ _ _ => pe_cmpR op_in_sign (pv 1) (pe_glob (v := .str abc) (by rfl) g2 ⟨_, rfl⟩) (by rfl))) pa_nil)))), ?_⟩
    refine ⟨_, rfl, v, _, _, _, _, rfl, .ty _, da_ty D, kit_ty (kit_str d), _, rfl, ?_⟩
    cases hi : isStr d with
    | false =>
      refine iteT ?_
      rw [← nm_not hi]
      exact q H (.refl H)
    | true =>
      obtain ⟨x, rfl⟩ := str_case hi
      cases D
      have hxl := hx x rfl
      have e0 : nmD (.str x) = nmS x := rfl
      refine iteF ⟨_, rfl, .str x, x.length, rfl, ⟨Evl.sz_of hxl, rfl⟩, _, _, rfl, rfl, _, rfl, ?_⟩
      have e1 : decide ((1 : Int) ≤ (x.length : Int)) = decide (1 ≤ x.length) := decide_eq_decide.mpr (by omega)
      have e2 : decide ((x.length : Int) ≤ (8 : Int)) = decide (x.length ≤ 8) := decide_eq_decide.mpr (by omega)
      rw [e1]
      by_cases h1 : 1 ≤ x.length
      · rw [decide_eq_true h1]
        refine iteT ⟨_, _, rfl, rfl, _, rfl, ?_⟩
        rw [e2]
        by_cases h8 : x.length ≤ 8
        · rw [decide_eq_true h8]
          refine iteF ⟨_, rfl, x, rfl, fun Dl hD => ?_⟩
          refine lcN_str (x := x) (fun i H' => H' Dl = some (.lst (((x.cps.toList.take i).map lowC).map V.bl)) ∧ Same H H') ⟨upd_same, same_new hD⟩ (fun i c H' hc hp => ⟨rfl, ?_⟩) (fun H' hp => ?_)
          · refine ⟨_, rfl, c, abc, rfl, rfl, _, hp.1, Evl.sz_lt ?_, ?_, ?_⟩
            · rw [List.length_map, List.length_map, List.length_take]
              have := str_len x
              omega
            · rw [upd_same, mem_abc, List.take_add_one, hc, List.map_append, List.map_append]
              rfl
            · intro b o e
              rw [upd_ne (ne_of_none e hD)]
              exact hp.2 b o e
          · obtain ⟨eD, sm⟩ := hp
            rw [str_len, List.take_length] at eD
            refine ⟨Dl, x.cps.toList.map lowC, rfl, .inl (.inl eD), ?_⟩
            rw [all_map]
            have e : x.cps.toList.all lowC = nmD (.str x) := by
              rw [e0, nmS, decide_eq_true ⟨h1, h8⟩]
              rfl
            rw [e]
            exact q H' sm
        · rw [decide_eq_false h8]
          refine iteT ?_
          have e : false = nmD (.str x) := by rw [e0, nmS, decide_eq_false fun z => h8 z.2]; rfl
          rw [e]
          exact q H (.refl H)
      · rw [decide_eq_false h1]
        refine iteF ⟨_, rfl, iteT ?_⟩
        have e : false = nmD (.str x) := by rw [e0, nmS, decide_eq_false fun z => h1 z.1]; rfl
        rw [e]
        exact q H (.refl H)
end
end My
set_option Elab.async false
set_option linter.all false
set_option maxRecDepth 100000
set_option maxHeartbeats 4000000
/-! for x in v, v a list or a tuple -/
namespace My
open PySem PySem.Spec PyProof.Rows L2
structure SqIt (K : PySem.W.Frag) (J : It) (a : Addr) (xs : List V) (Sq : Hp → Prop) : Prop where
  go : ∀ i H, Sq H → i < xs.length → J.go i H
  stop : ∀ H, Sq H → J.stop xs.length H
  yld : ∀ i H x H', Sq H → J.yld i H x H' → i < xs.length → xs[i]? = some x ∧ H' = H
  keep : ∀ H H', Same H H' → Sq H → Sq H'
  keepP : ∀ p c n H H', PenAt H p c n → SameP p H H' → Sq H → Sq H'
  is : ∀ H, Sq H → SqL K H a xs ∨ SqT K H a xs
section
variable {K : PySem.W.Frag} {a : Addr} {xs : List V}
theorem sq_list : SqIt K (Itl K a) a xs (fun H => SqL K H a xs) where
  go := fun i H q lt => ⟨xs, xs[i], q, by simp [lt]⟩
  stop := fun H q => ⟨xs, q, Nat.le_refl _⟩
  yld := fun i H x H' q y lt => by
    obtain ⟨e, y⟩ := y
    exact ⟨y xs q, e⟩
  keep := fun _ _ s q => s.keeps.l _ _ q
  keepP := fun _ _ _ _ _ G s q => (s.keeps G).l _ _ q
  is := fun _ q => .inl q
theorem sq_tup : SqIt K (Itt K a) a xs (fun H => SqT K H a xs) where
  go := fun i H q lt => ⟨xs, xs[i], q, by simp [lt]⟩
  stop := fun H q => ⟨xs, q, Nat.le_refl _⟩
  yld := fun i H x H' q y lt => by
    obtain ⟨e, y⟩ := y
    exact ⟨y xs q, e⟩
  keep := fun _ _ s q => s.keeps.t _ _ q
  keepP := fun _ _ _ _ _ G s q => (s.keeps G).t _ _ q
  is := fun _ q => .inr q
end
/-- walked one way or the other -/
theorem pi_or {X : Cx} {tg e : Expr} {t1 t2 : TI} (a : PI X tg e t1) (b : PI X tg e t2) : PI X tg e (fun σ H R => t1 σ H R ∨ t2 σ H R) := ⟨fun pins s σ H R I h => h.elim (a.run pins s σ H R I) (b.run pins s σ H R I)⟩
theorem or_sq {K : PySem.W.Frag} {a : Addr} {xs : List V} {σ : L2.St} {H : Hp} {R : It → Hp → Prop} {i : Nat} {v : V} (hv : σ[i]? = some (some v)) (e : v = .ref a) (hs : SqL K H a xs ∨ SqT K H a xs) (q : ∀ J Sq, SqIt K J a xs Sq → Sq H → R J H) :
    iList K (tVar i) σ H R ∨ iTup K (tVar i) σ H R :=
  hs.elim (fun h => .inl ⟨v, hv, a, e, ⟨_, h⟩, q _ _ sq_list h⟩) (fun h => .inr ⟨v, hv, a, e, ⟨_, h⟩, q _ _ sq_tup h⟩)
/-- a comprehension over it, no test -/
def lcN_sq {K : PySem.W.Frag} {J : It} {a : Addr} {xs : List V} {Sq : Hp → Prop} (c : SqIt K J a xs Sq) {te : TE} {vs : List Nat} {σ : L2.St} {H1 : Hp} {D : Addr} {Qd : Hp → Prop} {j : Nat} (Pv : Nat → Hp → Prop) (h0 : Pv 0 (upd H1 D (.lst []))) (hl : ∀ i H, Pv i H → Sq H)
    (hs : ∀ i x H, xs[i]? = some x → Pv i H → wipe ((wipe σ vs).set j (some x)) vs = wipe σ vs ∧ Grows te D (Pv (i + 1)) ((wipe σ vs).set j (some x)) H) (hd : ∀ H, Pv xs.length H → Qd H) :=
  lcJ (J := J) (n := xs.length) (g := gName j) (tt := tYes) (te := te) (vs := vs) (σ := σ) (H1 := H1) (D := D) (Qd := Qd) Pv h0 (fun i H lt p => c.go i H (hl i H p) lt) (fun H p => c.stop H (hl _ H p))
    (fun i H v H' lt p y => by
      obtain ⟨e, rfl⟩ := c.yld i H v H' (hl i H p) y lt
      exact yes_turn (hs i v _ e p).1 (hs i v _ e p).2) hd
end My
set_option Elab.async false
set_option linter.all false
set_option maxRecDepth 100000
set_option maxHeartbeats 4000000
/-! is_name_list, of any value -/
namespace My
open PySem PySem.Spec PyProof.Rows L2
def txtD : PyData → Str
  | .str x => x
  | _ => Str.empty
/-- different names -/
def namesD (ds : List PyData) : Bool := ds.all nmD && decide (ds.map txtD).Nodup
def nlD : PyData → Bool
  | .list ds => namesD ds
  | .tuple ds => namesD ds
  | _ => false
def itemsD : PyData → List PyData
  | .list ds => ds
  | .tuple ds => ds
  | _ => []
def isSeq : PyData → Bool
  | .list _ => true
  | .tuple _ => true
  | _ => false
theorem kit_seq : ∀ d : PyData, kitB (kindD d) "list" = some (match d with | .list _ => true | _ => false) := fun d => by cases d <;> rfl
structure FitN (d : PyData) : Prop where
  few : (itemsD d).length ≤ 1000
  txt : ∀ e ∈ itemsD d, ∀ x, e = .str x → x.length ≤ 100000
theorem any_seq (K : PySem.W.Frag) : ∀ d : PyData, PySem.W.kitAny K (.type (kindD d)) [.type "list", .type "tuple"] = some (isSeq d) := fun d => by cases d <;> rfl
theorem isi_seq {K : PySem.W.Frag} {p tp : Addr} {H : Hp} {v : V} {d : PyData} {Q : VK} (h : Da K p H v d) (ht : H tp = some (.tup [.ty "list", .ty "tuple"])) (q : Q (.bl (isSeq d)) H) : rIsiT K [v, .ref tp] H Q :=
  ⟨v, tp, _, _, _, _, rfl, ht, .cons (.ty _) (.cons (.ty _) .nil), da_ty h, any_seq K d, q⟩
/-- the keys of texts -/
theorem tx_keys {K : PySem.W.Frag} {p : Addr} {H : Hp} : ∀ {xs : List V} {ds : List PyData}, DaAll K p H xs ds → ds.all nmD = true → xs = (ds.map fun d => (Sum.inr (txtD d) : Key)).map kV
  | _, _, .nil, _ => rfl
  | _, _, .cons a b, h => by
    rw [List.all_cons, Bool.and_eq_true_iff] at h
    have ih := tx_keys b h.2
    cases a with
    | str x => rw [List.map_cons, List.map_cons, ← ih]; rfl
    | _ => exact absurd h.1 Bool.false_ne_true
theorem nodup_keys (ds : List PyData) : (ds.map fun d => (Sum.inr (txtD d) : Key)).Nodup ↔ (ds.map txtD).Nodup := by
  have e : (ds.map fun d => (Sum.inr (txtD d) : Key)) = (ds.map txtD).map Sum.inr := by rw [List.map_map]; rfl
  rw [e]
  constructor
  · intro h
    exact List.Pairwise.of_map _ (fun a b n z => n (congrArg Sum.inr z)) h
  · intro h
    exact List.Pairwise.map _ (fun a b n z => n (Sum.inr.inj z)) h
theorem all_nm (l : List PyData) : ((l.map nmD).all id) = l.all nmD := by
  rw [List.all_map]
  rfl
section
variable {P : Program} {w : World} {K : PySem.W.Frag} {mg : Str → Option Value} {base : Heap}
def spNL (K : PySem.W.Frag) : Sp := fun vs H Q _ => ∃ (p : Addr) (v : V) (d : PyData), vs = [v] ∧ Da K p H v d ∧ FitN d ∧ ∀ H', Same H H' → Q (.bl (nlD d)) H'
theorem ok_nl {f fN : Addr} {fd dN : FuncData} (F : Fun K "is_name_list" "is_name_list" sIsNameList f fd) (B : Glb mg) (GN : FnOk P w K mg base CX0 1 fN dN ["value"] (spIsName K)) (gN : mg "is_name" = some (.ref fN)) (kN : PySem.W.keepIn K (.ref fN) = true) (bN : Binds K dN ["value"] []) :
    FnOk P w K mg base CX0 2 f fd ["value"] (spNL K) := by
  refine F.ok scIsNameList (fun vs H Q E h => ?_) (fun cdv A outer s H vs Q E hr h => ?_)
  · obtain ⟨p, v, d, rfl, _⟩ := h
    rfl
  · obtain ⟨p, v, d, rfl, D, hf, q⟩ := h
    refine ⟨_, pss_cons (ps_if (PW.pt (pw_or (pt_not (pt_val (pe_callB call_isiT (by rfl) B.isi boot_isinstance (pa_cons (pv 0) (pa_cons (pe_tup (pa_cons (pe_bltn (v := .ty "list") (by rfl) B.list boot_list rfl) (pa_cons (pe_bltn (v := .ty "tuple") (by rfl) B.tuple boot_tuple rfl) pa_nil))) pa_nil)))))
        (pw_or1 (pt_not (pt_val (pe_callB (cr_all rfl) (by rfl) B.all (by decide +kernel) (pa_cons (pe_lc (own := [("name", 1)]) (g := gName 1) (tt := tYes) rfl scIsNameList.nd (pi_or (pi_list (pv 0)) (pi_tup (pv 0)))
          (blkOk_by (own := [("name", 1)]) (N := ["value", "name"]) (sc := defScope sIsNameList) (by decide +kernel)) (fun _ _ _ _ _ => pg_name (i := 1) scIsNameList.nd rfl (Or.inl rfl)) (fun _ _ _ _ _ => pts_nil)
          (fun _ _ _ _ _ => pe_call GN hr (by rfl) gN kN bN .nil pass0 (pa_cons (pv 1) pa_nil))) pa_nil))))))) (pss_one (ps_ret pe_bl)) pss_nil)
      (pss_one (ps_ret (pe_cmpR op_eq (pe_callB call_lenK (by rfl) B.len PySem.boot_len (pa_cons (pe_callTy (call_setOf rfl) (by rfl) B.set (by decide +kernel) (pa_cons (pv 0) pa_nil)) pa_nil)) (pe_callB call_len (by rfl) B.len PySem.boot_len (pa_cons (pv 0) pa_nil)) (nomark _)))), ?_⟩
    refine ⟨_, rfl, by show 2 ≤ sizeLine; decide, fun t ht => ?_⟩
    have s1 := same_new (o := HO.tup [.ty "list", .ty "tuple"]) ht
    have D1 := da_keep (p := p) s1.keepA D
    refine ⟨v, t, _, _, _, _, rfl, upd_same, .cons (.ty _) (.cons (.ty _) .nil), da_ty D1, any_seq K d, _, rfl, ?_⟩
    generalize upd H t (.tup [.ty "list", .ty "tuple"]) = H1 at s1 D1
    cases hq : isSeq d with
    | false =>
      refine iteT ?_
      have e : false = nlD d := by cases d <;> first | rfl | cases hq
      rw [e]
      exact q H1 s1
    | true =>
      refine iteF ?_
      obtain ⟨a, xs, ds, rfl, hs, hd, hl, eN⟩ : ∃ a xs ds, v = .ref a ∧ (SqL K H1 a xs ∨ SqT K H1 a xs) ∧ DaAll K p H1 xs ds ∧ (ds = itemsD d) ∧ nlD d = namesD ds := by
        cases D1 with
        | lst _ a b => exact ⟨_, _, _, rfl, .inl a, b, rfl, rfl⟩
        | tup a b => exact ⟨_, _, _, rfl, .inr a, b, rfl, rfl⟩
        | _ => cases hq
      have few := hf.few
      have txt := hf.txt
      rw [← hl] at few txt
      rw [eN] at q
      clear eN hl hq hf D
      have dl := hd.length
      refine or_sq (a := a) (xs := xs) rfl rfl hs fun J Sq c hS Dl hD => ?_
      refine lcN_sq c (fun i H' => H' Dl = some (.lst (((ds.take i).map nmD).map V.bl)) ∧ Same H1 H') ⟨upd_same, same_new hD⟩ (fun i H' hp => c.keep _ _ hp.2 hS) (fun i x H' hx hp => ⟨rfl, ?_⟩) (fun H' hp => ?_)
      · obtain ⟨e, he, De⟩ := hd.at hx
        refine ⟨_, rfl, p, x, e, rfl, da_keep hp.2.keepA De, txt e (List.mem_of_getElem? he), fun H2 s2 => ?_⟩
        refine ⟨_, s2 _ _ hp.1, Evl.sz_lt ?_, ?_, ?_⟩
        · rw [List.length_map, List.length_map, List.length_take]
          omega
        · rw [upd_same, List.take_add_one, he, List.map_append, List.map_append]
          rfl
        · intro b o z
          rw [upd_ne (ne_of_none z hD)]
          exact s2 b o (hp.2 b o z)
      · obtain ⟨eD, sm⟩ := hp
        rw [dl, List.take_length] at eD
        refine ⟨Dl, ds.map nmD, rfl, .inl (.inl eD), _, rfl, ?_⟩
        rw [all_nm]
        cases ha : ds.all nmD with
        | false =>
          refine iteT ?_
          have e : false = namesD ds := by rw [namesD, ha]; rfl
          rw [e]
          exact q H' (s1.trans sm)
        | true =>
          have ek := tx_keys hd ha
          have hs' := c.is _ (c.keep _ _ sm hS)
          have hs2 := hs'
          rw [ek] at hs2
          refine iteF ⟨_, rfl, a, _, rfl, hs2, by rw [List.length_map]; exact few, fun t2 ht2 => ?_⟩
          have s3 := same_new (o := SetK P w t2 (inK (metK [] (ds.map fun d => (Sum.inr (txtD d) : Key)))) (metK [] (ds.map fun d => (Sum.inr (txtD d) : Key))).length) ht2
          have few2 := len_metK_le (ds.map fun d => (Sum.inr (txtD d) : Key)) []
          rw [List.length_map, List.length_nil] at few2
          refine ⟨t2, _, _, rfl, upd_same, by omega, _, rfl, .ref a, xs.length, rfl, hs'.elim (fun h => .inl ⟨_, s3.keeps.l _ _ h, rfl⟩) (fun h => .inr ⟨_, s3.keeps.t _ _ h, rfl⟩), rfl, ?_⟩
          have en : decide (V.int (((metK [] (ds.map fun d => (Sum.inr (txtD d) : Key))).length : Nat) : Int) = V.int ((xs.length : Nat) : Int)) = namesD ds := by
            rw [namesD, ha, Bool.true_and]
            refine decide_eq_decide.mpr ?_
            have k := len_metK_eq (ds.map fun d => (Sum.inr (txtD d) : Key)) [] List.nodup_nil
            rw [List.nil_append, List.length_map, List.length_nil, nodup_keys] at k
            rw [← k, dl]
            constructor
            · intro z
              have := V.int.inj z
              omega
            · intro z
              rw [show (metK [] (ds.map fun d => (Sum.inr (txtD d) : Key))).length = ds.length by omega]
          rw [en]
          exact q _ ((s1.trans sm).trans s3)
end
end My
set_option Elab.async false
set_option linter.all false
set_option maxRecDepth 100000
set_option maxHeartbeats 4000000
namespace My
open PySem PySem.Spec PyProof.Rows L2
/-- a callee's promise and its name -/
structure Has (P : Program) (w : World) (K : PySem.W.Frag) (mg : Str → Option Value) (base : Heap) (k : Nat) (x : Str) (ps : List Str) (sp : Sp) (f : Addr) (fd : FuncData) : Prop where
  o : FnOk P w K mg base CX0 k f fd ps sp
  g : mg x = some (.ref f)
  k : PySem.W.keepIn K (.ref f) = true
  b : Binds K fd ps []
/-- what is not reached -/
theorem ps_no {X : Cx} {st : Stmt} : PS X st (fun _ _ _ => False) := ⟨fun _ _ _ _ _ _ h => h.elim⟩
section
variable {X : Cx} {k : Nat} {x : Str} {ps : List Str} {sp : Sp} {f : Addr} {fd : FuncData}
/-- the call of such a def by its name -/
theorem pe_has {e : Expr} {es : List Expr} {t : TA} {p pos : Pos} (G : Has X.prog X.w X.K X.mg X.base k x ps sp f fd) (hr : Room k X.A) (hg : Gl X x) (ha : PA X (e :: es) t) (nd : (x == ("__debug__" : Str)) = false := by decide)
    (he : starEach (e :: es) X.env = (false, eval e X.env) :: starEach es X.env := by rfl) (hp : (backTo pos (starEach es X.env)).any (·.1) = false := by rfl) : PE X (.Call (.Name x p) (e :: es) [] pos) (tCall sp [] E0 t) :=
  pe_call G.o hr hg G.g G.k G.b .nil pass0 ha nd he hp
end
end My
set_option Elab.async false
set_option linter.all false
set_option maxRecDepth 100000
set_option maxHeartbeats 4000000
/-! check_order, of what is an order -/
namespace My
open PySem PySem.Spec PyProof.Rows L2
/-- an order -/
structure OrdOk (ns : List Str) : Prop where
  nm : Names ns
  few : ns.length ≤ 12
theorem nmS_ok {x : Str} (h : NameOk x) : nmS x = true := by
  obtain ⟨h1, h2, h3⟩ := h
  unfold nmS
  rw [decide_eq_true ⟨h1, h2⟩, Bool.true_and, List.all_eq_true]
  intro c hc
  unfold lowC
  exact decide_eq_true (h3 c hc)
theorem txt_strs (ns : List Str) : ((ns.map PyData.str).map txtD) = ns := by
  rw [List.map_map]
  conv => rhs; rw [← List.map_id ns]
  rfl
theorem namesD_ok {ns : List Str} (h : Names ns) : namesD (ns.map .str) = true := by
  unfold namesD
  rw [txt_strs, decide_eq_true h.nd, Bool.and_true, List.all_map, List.all_eq_true]
  intro x hx
  exact nmS_ok (h.ok x hx)
theorem da_strs {K : PySem.W.Frag} {p : Addr} {H : Hp} : ∀ ns : List Str, DaAll K p H (ns.map V.str) (ns.map .str)
  | [] => .nil
  | x :: r => .cons (.str x) (da_strs r)
theorem fitN_ok {ns : List Str} (h : OrdOk ns) : FitN (.tuple (ns.map .str)) := by
  refine ⟨by show (ns.map PyData.str).length ≤ 1000; rw [List.length_map]; have := h.few; omega, fun e he x ex => ?_⟩
  obtain ⟨y, hy, rfl⟩ := List.mem_map.mp he
  cases ex
  have := (h.nm.ok x hy).2.1
  omega
section
variable {P : Program} {w : World} {K : PySem.W.Frag} {mg : Str → Option Value} {base : Heap} {t1 : Tok}
def spChkO (K : PySem.W.Frag) : Sp := fun vs H Q _ => ∃ (a : Addr) (ns : List Str), vs = [.ref a] ∧ SqT K H a (ns.map V.str) ∧ OrdOk ns ∧ ∀ H', Same H H' → Q .non H'
theorem ok_chkO {f fN : Addr} {fd dN : FuncData} (F : Fun K "check_order" "check_order" sCheckOrder f fd) (B : Glb mg) (g1 : mg "MOST_IN_ORDER" = some (.int 12 t1)) (GN : FnOk P w K mg base CX0 2 fN dN ["value"] (spNL K)) (gN : mg "is_name_list" = some (.ref fN)) (kN : PySem.W.keepIn K (.ref fN) = true) (bN : Binds K dN ["value"] []) :
    FnOk P w K mg base CX0 3 f fd ["value"] (spChkO K) := by
  refine F.ok scCheckOrder (fun vs H Q E h => ?_) (fun cdv A outer s H vs Q E hr h => ?_)
  · obtain ⟨a, ns, rfl, _⟩ := h
    rfl
  · obtain ⟨a, ns, rfl, ha, ok, q⟩ := h
    refine ⟨_, pss_one (ps_if (PW.pt (pw_or (pt_not (pt_val (pe_callB call_isi (by rfl) B.isi boot_isinstance (pa_cons (pv 0) (pa_cons (pe_bltn (v := .ty "tuple") (by rfl) B.tuple boot_tuple rfl) pa_nil)))))
        (pw_or (pt_not (pt_val (pe_call GN hr (by rfl) gN kN bN .nil pass0 (pa_cons (pv 0) pa_nil))))
        (pw_or1 (pt_cmpR op_gt (pe_callB call_len (by rfl) B.len PySem.boot_len (pa_cons (pv 0) pa_nil)) (pe_glob (v := .int 12) (by rfl) g1 ⟨_, rfl⟩) (nomark _)))))) (pss_one ps_no) pss_nil), ?_⟩
    have D : Da K 0 H (.ref a) (.tuple (ns.map .str)) := .tup ha (da_strs ns)
    refine ⟨_, rfl, .ref a, _, _, _, _, rfl, .ty _, da_ty D, kit_ty (kit_tuple _), _, rfl, ?_⟩
    refine iteF ⟨_, rfl, 0, .ref a, _, rfl, D, fitN_ok ok, fun H1 s1 => ⟨_, rfl, ?_⟩⟩
    have e : nlD (.tuple (ns.map .str)) = true := namesD_ok ok.nm
    rw [e]
    have h1 := s1.keeps.t _ _ ha
    refine iteF ⟨_, rfl, .ref a, (ns.map V.str).length, rfl, .inr ⟨_, h1, rfl⟩, _, _, rfl, rfl, _, rfl, ?_⟩
    rw [decide_eq_false (by rw [List.length_map]; have := ok.few; omega)]
    exact iteF (q H1 s1)
end
end My
set_option Elab.async false
set_option linter.all false
set_option maxRecDepth 100000
set_option maxHeartbeats 4000000
namespace My
open PySem PySem.Spec PyProof.Rows L2
section
variable {K : PySem.W.Frag} {p c L o : Addr} {n m : Nat} {H H' : Hp} {x : V} {lo hi : Option Int} {Q : VK} {a b : Addr} {xs ys ls : List V}
/-! ### cuts of tuples -/
theorem cutV_to (k : Nat) : cutV xs none (some (k : Int)) = xs.take k := by
  unfold cutV
  rw [HT.sIx_none, HT.sIx_nat, List.drop_zero, Nat.sub_zero]
  rcases Nat.le_total k xs.length with h | h
  · rw [Nat.min_eq_left h]
  · rw [Nat.min_eq_right h, List.take_of_length_le h, List.take_length]
theorem cutV_from (k : Nat) : cutV xs (some (k : Int)) none = xs.drop k := by
  unfold cutV
  rw [HT.sIx_none, HT.sIx_nat]
  rcases Nat.le_total k xs.length with h | h
  · rw [Nat.min_eq_left h, List.take_of_length_le (by rw [List.length_drop]; exact Nat.le_refl _)]
  · rw [Nat.min_eq_right h, Nat.sub_self, List.take_zero, List.drop_eq_nil_of_le h]
theorem sl_to (ht : SqT K H a xs) (q : ∀ (b : Addr) (H' : Hp), Same H H' → SqT K H' b (cutV xs lo hi) → Q (.ref b) H') : rSlA K (.ref a) lo hi H Q := by
  refine ⟨a, xs, rfl, ht, fun hw => q a H (.refl H) ?_, fun _ b hb => q b _ (same_new hb) (.inl (.inl upd_same))⟩
  have e : cutV xs lo hi = xs := by
    unfold cutV
    rw [hw.1, hw.2, List.drop_zero, Nat.sub_zero, List.take_length]
  rw [e]
  exact ht
theorem cat_to (hx : SqT K H a xs) (hy : SqT K H b ys) (hz : xs.length + ys.length ≤ sizeLine) (q : ∀ (b : Addr) (H' : Hp), Same H H' → SqT K H' b (xs ++ ys) → Q (.ref b) H') : rCatA K (.ref a) (.ref b) H Q := by
  refine ⟨a, b, xs, ys, rfl, rfl, hx, hy, hz, fun e => q b H (.refl H) ?_, fun _ e => q a H (.refl H) ?_, fun _ _ d hd => q d _ (same_new hd) (.inl (.inl upd_same))⟩
  · rw [e]
    exact hy
  · rw [e, List.append_nil]
    exact hx
end
end My
set_option Elab.async false
set_option linter.all false
/-! exchanges of two stretches of a list -/
namespace My
def midX {α : Type} (xs : List α) (a b : Nat) : List α := (xs.take b).drop a
/-- the things behind an exchange -/
def aftX {α : Type} (xs : List α) (i j k l : Nat) : List α := (((xs.take i ++ midX xs k l) ++ midX xs j k) ++ midX xs i j) ++ xs.drop l
theorem mid_len {α : Type} (xs : List α) (a b : Nat) : (midX xs a b).length = min b xs.length - a := by
  unfold midX
  rw [List.length_drop, List.length_take]
theorem mid_map {α β : Type} (f : α → β) (xs : List α) (a b : Nat) : midX (xs.map f) a b = (midX xs a b).map f := by
  unfold midX
  rw [List.map_drop, List.map_take]
theorem aft_map {α β : Type} (f : α → β) (xs : List α) (i j k l : Nat) : aftX (xs.map f) i j k l = (aftX xs i j k l).map f := by
  unfold aftX
  simp only [mid_map, List.map_append, List.map_take, List.map_drop]
/-- an exchange of an order of this length -/
structure ExOk (n i j k l : Nat) : Prop where
  ij : i < j
  jk : j ≤ k
  kl : k < l
  ln : l ≤ n
theorem take_two {α : Type} (A B R : List α) : (A ++ (B ++ R)).take (A.length + B.length) = A ++ B := by
  rw [← List.append_assoc, List.take_left' (by rw [List.length_append])]
theorem aft_parts {α : Type} (A B M C D : List α) : aftX (A ++ (B ++ (M ++ (C ++ D)))) A.length (A.length + B.length) (A.length + B.length + M.length) (A.length + B.length + M.length + C.length) = A ++ (C ++ (M ++ (B ++ D))) := by
  have t1 : (A ++ (B ++ (M ++ (C ++ D)))).take A.length = A := List.take_left' rfl
  have t2 : (A ++ (B ++ (M ++ (C ++ D)))).take (A.length + B.length) = A ++ B := take_two A B _
  have t3 : (A ++ (B ++ (M ++ (C ++ D)))).take (A.length + B.length + M.length) = (A ++ B) ++ M := by
    have := take_two (A ++ B) M (C ++ D)
    rw [List.length_append, List.append_assoc A B] at this
    rw [this, List.append_assoc]
  have t4 : (A ++ (B ++ (M ++ (C ++ D)))).take (A.length + B.length + M.length + C.length) = (A ++ (B ++ M)) ++ C := by
    have := take_two (A ++ (B ++ M)) C D
    rw [List.length_append, List.length_append, ← Nat.add_assoc, List.append_assoc, List.append_assoc] at this
    exact this
  have d4 : (A ++ (B ++ (M ++ (C ++ D)))).drop (A.length + B.length + M.length + C.length) = D := by
    rw [show A ++ (B ++ (M ++ (C ++ D))) = (A ++ (B ++ (M ++ C))) ++ D by simp only [List.append_assoc]]
    exact List.drop_left' (by simp only [List.length_append]; omega)
  unfold aftX midX
  rw [t1, t2, t3, t4, d4, List.drop_left' (l₁ := A) rfl, List.drop_left' (l₁ := A ++ B) (List.length_append ..), List.drop_left' (l₁ := A ++ (B ++ M)) (by simp only [List.length_append]; omega)]
  simp only [List.append_assoc]
theorem parts_of {α : Type} {xs : List α} {i j k l : Nat} (h : ExOk xs.length i j k l) : ∃ A B M C D : List α, xs = A ++ (B ++ (M ++ (C ++ D))) ∧ A.length = i ∧ B.length = j - i ∧ M.length = k - j ∧ C.length = l - k := by
  obtain ⟨h1, h2, h3, h4⟩ := h
  refine ⟨xs.take i, (xs.drop i).take (j - i), (xs.drop j).take (k - j), (xs.drop k).take (l - k), xs.drop l, ?_, ?_, ?_, ?_, ?_⟩
  · have e1 := (List.take_append_drop i xs).symm
    have e2 : xs.drop i = (xs.drop i).take (j - i) ++ xs.drop j := by
      have := (List.take_append_drop (j - i) (xs.drop i)).symm
      rw [List.drop_drop, show i + (j - i) = j by omega] at this
      exact this
    have e3 : xs.drop j = (xs.drop j).take (k - j) ++ xs.drop k := by
      have := (List.take_append_drop (k - j) (xs.drop j)).symm
      rw [List.drop_drop, show j + (k - j) = k by omega] at this
      exact this
    have e4 : xs.drop k = (xs.drop k).take (l - k) ++ xs.drop l := by
      have := (List.take_append_drop (l - k) (xs.drop k)).symm
      rw [List.drop_drop, show k + (l - k) = l by omega] at this
      exact this
    rw [← e4, ← e3, ← e2]
    exact e1
  all_goals simp only [List.length_take, List.length_drop]; omega
theorem aft_eq {α : Type} {xs : List α} {i j k l : Nat} (h : ExOk xs.length i j k l) : ∃ A B M C D : List α, xs = A ++ (B ++ (M ++ (C ++ D))) ∧ A.length = i ∧ B.length = j - i ∧ M.length = k - j ∧ C.length = l - k ∧ aftX xs i j k l = A ++ (C ++ (M ++ (B ++ D))) := by
  obtain ⟨A, B, M, C, D, e, a, b, m, c⟩ := parts_of h
  refine ⟨A, B, M, C, D, e, a, b, m, c, ?_⟩
  obtain ⟨h1, h2, h3, h4⟩ := h
  have q := aft_parts A B M C D
  rw [e]
  rw [show i = A.length from a.symm, show j = A.length + B.length by omega, show k = A.length + B.length + M.length by omega, show l = A.length + B.length + M.length + C.length by omega]
  exact q
theorem aft_back {α : Type} {xs : List α} {i j k l : Nat} (h : ExOk xs.length i j k l) : aftX (aftX xs i j k l) i (i + l - k) (i + l - j) l = xs := by
  obtain ⟨A, B, M, C, D, e, a, b, m, c, q⟩ := aft_eq h
  obtain ⟨h1, h2, h3, h4⟩ := h
  rw [q, e]
  have z := aft_parts A C M B D
  rw [show A.length + C.length + M.length + B.length = l by omega, show A.length + C.length + M.length = i + l - j by omega, show A.length + C.length = i + l - k by omega, a] at z
  exact z
theorem perm_swap {α : Type} (A B M C D : List α) : (A ++ (C ++ (M ++ (B ++ D)))).Perm (A ++ (B ++ (M ++ (C ++ D)))) := by
  refine List.Perm.append_left A ?_
  have e1 : (C ++ (M ++ (B ++ D))) = (C ++ (M ++ B)) ++ D := by simp only [List.append_assoc]
  have e2 : (B ++ (M ++ (C ++ D))) = (B ++ (M ++ C)) ++ D := by simp only [List.append_assoc]
  rw [e1, e2]
  refine List.Perm.append_right D ?_
  have p1 : (C ++ (M ++ B)).Perm ((M ++ B) ++ C) := List.perm_append_comm
  have p2 : ((M ++ B) ++ C).Perm ((B ++ M) ++ C) := List.Perm.append_right C List.perm_append_comm
  rw [← List.append_assoc B M C]
  exact p1.trans p2
theorem aft_perm {α : Type} {xs : List α} {i j k l : Nat} (h : ExOk xs.length i j k l) : (aftX xs i j k l).Perm xs := by
  obtain ⟨A, B, M, C, D, e, _, _, _, _, q⟩ := aft_eq h
  rw [q, e]
  exact perm_swap A B M C D
theorem ex_back {n i j k l : Nat} (h : ExOk n i j k l) : ExOk n i (i + l - k) (i + l - j) l := let ⟨h1, h2, h3, h4⟩ := h; ⟨by omega, by omega, by omega, by omega⟩
end My
set_option Elab.async false
set_option linter.all false
set_option maxRecDepth 100000
set_option maxHeartbeats 4000000
/-! two stretches of a tuple change places -/
namespace My
open PySem PySem.Spec PyProof.Rows L2
theorem cutV_mid {xs : List V} (a b : Nat) : cutV xs (some (a : Int)) (some (b : Int)) = midX xs a b := by
  unfold cutV midX
  rw [HT.sIx_nat, HT.sIx_nat, List.drop_take]
  rcases Nat.le_total a xs.length with h | h
  · rw [Nat.min_eq_left h]
    rcases Nat.le_total b xs.length with k | k
    · rw [Nat.min_eq_left k]
    · rw [Nat.min_eq_right k, List.take_of_length_le (by rw [List.length_drop]; exact Nat.le_refl _), List.take_of_length_le (by rw [List.length_drop]; omega)]
  · rw [Nat.min_eq_right h, List.drop_eq_nil_of_le h, List.drop_eq_nil_of_le (Nat.le_refl _), List.take_nil, List.take_nil]
def spAft (K : PySem.W.Frag) : Sp := fun vs H Q _ => ∃ (a b : Addr) (xs : List V) (i j k l : Nat), vs = [.ref a, .ref b] ∧ SqT K H a xs ∧ SqT K H b [.int (i : Int), .int (j : Int), .int (k : Int), .int (l : Int)] ∧ xs.length ≤ 1000 ∧
  ∀ (c : Addr) (H' : Hp), Same H H' → SqT K H' c (aftX xs i j k l) → Q (.ref c) H'
end My
set_option Elab.async false
set_option linter.all false
set_option maxRecDepth 100000
set_option maxHeartbeats 4000000
/-! (name, direction) in a row, row.index((name, direction)), == of such pairs, the least of some texts -/
namespace My
open PySem PySem.Spec PyProof.Rows L2
theorem dw_eqv (p q : Str × Int) : PyData.eqv (dwD p) (dwD q) = decide (p = q) := by
  obtain ⟨a, b⟩ := p
  obtain ⟨c, d⟩ := q
  show ((a == c) && ((b == d) && true)) = _
  rw [Bool.and_true, Bool.eq_iff_iff, Bool.and_eq_true, beq_iff_eq, beq_iff_eq, decide_eq_true_iff, Prod.mk.injEq]
/-- the names can be laid -/
def LayR (r : List (Str × Int)) : Prop := ∀ x ∈ r, PyData.strOk x.1 = true
theorem lay_dw {p : Str × Int} (h : PyData.strOk p.1 = true) : (dwD p).canLay0 = true := by
  show (PyData.strOk p.1 && (true && true)) = true
  rw [h]
  rfl
theorem lay_row : ∀ {r : List (Str × Int)}, LayR r → PyData.canLayAll0 (r.map dwD) = true
  | [], _ => rfl
  | x :: r, h => by
    show ((dwD x).canLay0 && PyData.canLayAll0 (r.map dwD)) = true
    rw [lay_dw (h x List.mem_cons_self), lay_row fun y hy => h y (List.mem_cons_of_mem _ hy)]
    rfl
theorem depth_dw (p : Str × Int) : (dwD p).depth = 1 := rfl
theorem any_dw (q : Str × Int) : ∀ r : List (Str × Int), ((r.map dwD).any fun z => PyData.eqv z (dwD q)) = decide (q ∈ r)
  | [] => rfl
  | x :: r => by
    rw [List.map_cons, List.any_cons, any_dw q r, dw_eqv, Bool.eq_iff_iff, Bool.or_eq_true, decide_eq_true_iff, decide_eq_true_iff, decide_eq_true_iff, List.mem_cons]
    exact or_congr ⟨fun e => e.symm, fun e => e.symm⟩ Iff.rfl
section
variable {X : Cx}
/-- what stands behind such a tuple -/
theorem row_reads {pins : List (Addr × Obj)} {σ : L2.St} {H : Hp} {s : Shared} {a : Addr} {r : List (Str × Int)} (I : Inv X pins σ H s) (h : Dt X.K H (.ref a) (rowD r)) :
    ∃ (its : List Value) (as : List Addr), s.heap.IsTuple a its.toArray ∧ ReadsAll s.heap its (r.map dwD) as ∧ its.length = r.length := by
  cases h with
  | tup hs hd =>
    obtain ⟨its, rv, ⟨o, ho, hc, n, hdd⟩, _⟩ := I.tuple hs
    obtain ⟨as, ra⟩ := Dp.readsAll I (r.map dwD) _ its (dt_dpAll hd) rv
    have e := SeqAt.ReadsAll.length (r.map dwD) its as ra
    rw [List.length_map] at e
    exact ⟨its, as, ⟨o, ho, hc, n, hdd⟩, ra, e⟩
def rInRow (K : PySem.W.Frag) (neg : Bool) : R2 := fun x y H Q => ∃ (q : Str × Int) (a : Addr) (r : List (Str × Int)), y = .ref a ∧ Dt K H x (dwD q) ∧ Dt K H (.ref a) (rowD r) ∧ PyData.strOk q.1 = true ∧ LayR r ∧ Q (.bl (if neg then !decide (q ∈ r) else decide (q ∈ r))) H
theorem items_row {pins : List (Addr × Obj)} {σ : L2.St} {H : Hp} {s : Shared} {x : V} {v : Value} {q : Str × Int} {r : List (Str × Int)} {its : List Value} {as : List Addr} {A : Around} (hu : A.units + 65 < cLine) (I : Inv X pins σ H s) (rx : RelV x v) (hx : Dt X.K H x (dwD q)) (ra : ReadsAll s.heap its (r.map dwD) as)
    (hq : PyData.strOk q.1 = true) (hr : LayR r) : ∀ y, y ∈ its.toArray → SeqAt.EqAt A.in1 s y v (PyData.eqv (SeqAt.readOf s.heap y) (dwD q)) := by
  obtain ⟨bs, rb⟩ := Dp.reads I (dwD q) x v (dt_dp hx) rx
  refine SeqAt.items_eqAt (vs := its.toArray) ra rb (lay_row hr) (lay_dw hq) ?_
  have : min (PyData.depthAll (r.map dwD)) (dwD q).depth ≤ 1 := Nat.min_le_right _ _
  omega
theorem op_inRow (hu : X.A.units + 65 < cLine) : OpR X (compareOp .In) (rInRow X.K false) := by
  intro pins s σ H x y v u Q I rx ry ⟨q, a, r, ey, hx, hy, lq, lr, k⟩
  subst ey
  cases ry
  obtain ⟨its, as, tp, ra, le⟩ := row_reads I hy
  refine SeqAt.in_tupleAt (fun z => PyData.eqv (SeqAt.readOf s.heap z) (dwD q)) tp (items_row hu I rx hx ra lq lr) ⟨.bl _, H, I, rfl, ?_⟩
  rw [show its.toArray.any (fun z => PyData.eqv (SeqAt.readOf s.heap z) (dwD q)) = decide (q ∈ r) by
    rw [← any_dw, ← SeqAt.readsAll_map (r.map dwD) its as (lay_row lr) ra]
    simp
    rfl]
  exact k
theorem op_notInRow (hu : X.A.units + 65 < cLine) : OpR X (compareOp .NotIn) (rInRow X.K true) := by
  intro pins s σ H x y v u Q I rx ry ⟨q, a, r, ey, hx, hy, lq, lr, k⟩
  subst ey
  cases ry
  obtain ⟨its, as, tp, ra, le⟩ := row_reads I hy
  refine SeqAt.notIn_tupleAt (fun z => PyData.eqv (SeqAt.readOf s.heap z) (dwD q)) tp (items_row hu I rx hx ra lq lr) ⟨.bl _, H, I, rfl, ?_⟩
  rw [show its.toArray.any (fun z => PyData.eqv (SeqAt.readOf s.heap z) (dwD q)) = decide (q ∈ r) by
    rw [← any_dw, ← SeqAt.readsAll_map (r.map dwD) its as (lay_row lr) ra]
    simp
    rfl]
  exact k
/-- row.index((name, direction)), there -/
def rIxRow (K : PySem.W.Frag) : V → List V → Hp → VK → Prop := fun x xs H Q => ∃ (q : Str × Int) (y : V) (a : Addr) (r : List (Str × Int)), x = .ref a ∧ xs = [y] ∧ Dt K H y (dwD q) ∧ Dt K H (.ref a) (rowD r) ∧ PyData.strOk q.1 = true ∧ LayR r ∧ q ∈ r ∧ Q (.int (@List.idxOf _ instBEqOfDecidableEq q r : Nat)) H
theorem mt_ixRow (hu : X.A.units + 65 < cLine) : MtR X "tuple.index" (rIxRow X.K) := by
  intro pins s σ H x xs v us Q I rx rxs ⟨q, y, a, r, ex, exs, hy, hr, lq, lr, hm, k⟩
  subst ex exs
  cases rx
  obtain ⟨u, rfl, ry⟩ := vals1 rxs
  obtain ⟨its, as, tp, ra, le⟩ := row_reads I hr
  have eqs := items_row (A := X.A) hu I ry hy ra lq lr
  have mp := SeqAt.readsAll_map (r.map dwD) its as (lay_row lr) ra
  refine PySem.SeqAt.call_tuple_index (ks := r) (k := q) tp ⟨le, fun j h1 h2 => ?_⟩ hm ⟨.int _, H, I.tok _, ⟨_, rfl⟩, k⟩
  have e1 := eqs its[j] (by simp)
  have e2 : SeqAt.readOf s.heap its[j] = dwD r[j] := by
    have : (its.map (SeqAt.readOf s.heap))[j]? = (r.map dwD)[j]? := by rw [mp]
    rw [List.getElem?_map, List.getElem?_map, List.getElem?_eq_getElem h1, List.getElem?_eq_getElem h2] at this
    exact Option.some.inj this
  rw [e2, dw_eqv] at e1
  exact e1
end
end My
set_option Elab.async false
set_option linter.all false
set_option maxRecDepth 100000
set_option maxHeartbeats 4000000
/-! new tuples that are known to bear no dict, and their methods -/
namespace My
open PySem PySem.Spec PyProof.Rows L2
def BareT (H : Hp) (a : Addr) : Prop := ∃ ob xs, H a = some (.frz ob (.tup xs)) ∧ ob.dict = none
theorem BareT.keep {H H' : Hp} {a : Addr} (h : BareT H a) (s : Same H H') : BareT H' a := let ⟨ob, xs, e, d⟩ := h; ⟨ob, xs, s _ _ e, d⟩
theorem BareT.keepP {H H' : Hp} {p c a : Addr} {n : Nat} (h : BareT H a) (s : SameP p H H') (G : PenAt H p c n) : BareT H' a := let ⟨ob, xs, e, d⟩ := h; ⟨ob, xs, s _ _ (sameP_ne G e fun _ z => nomatch z) e, d⟩
section
variable {X : Cx}
/-- tuple(list): a new tuple -/
theorem call_tupleF : CallR X (.type "tuple") (fun xs H Q => ∃ p ys, xs = [.ref p] ∧ SqL X.K H p ys ∧ ∀ l ob, H l = none → ob.dict = none → Q (.ref l) (upd H l (.frz ob (.tup ys)))) := by
  intro pins s σ H xs us Q I rv ⟨p, ys, ex, hl, q⟩
  subst ex
  obtain ⟨u, rfl, r1⟩ := vals1 rv
  cases r1
  obtain ⟨its, rr, pl, hz⟩ := I.list hl
  have ll := rr.length
  refine call_tuple_list pl.isList (fun h1 kp => ?_) (by simp only [List.size_toArray]; omega)
  have I1 : Inv X pins σ H { s with heap := h1 } := I.kept (t' := s.toks) kp
  have nw := IsTup.new h1 its.toArray
  have I2 : Inv X pins σ (upd H h1.objs.size (.frz { cls := .type "tuple", data := .seq its.toArray } (.tup ys))) { s with heap := h1.push { cls := .type "tuple", data := .seq its.toArray } } :=
    I1.laid (t' := s.toks) (fun _ _ e => Heap.get?_push_of_some _ e) (Nat.le_refl _) ⟨Heap.get?_push_size _ rfl, hz, its, rr, nw⟩
  exact ⟨.ref h1.objs.size, _, I2, rfl, q _ _ (I1.hok.fresh (Nat.le_refl _)) rfl⟩
def tTM (r : V → List V → Hp → VK → Prop) (to : TE) (t : TA) : TE := fun σ H Q => to σ H fun x H1 => (∃ a, x = .ref a ∧ BareT H1 a) ∧ t σ H1 fun xs H2 => r x xs H2 Q
/-- t.m(e), t such a tuple -/
theorem pe_tm {o e : Expr} {es : List Expr} {to : TE} {t : TA} {name : Str} {apos cpos : Pos} {id : String} {r : V → List V → Hp → VK → Prop} (slot : Slot "tuple" name id) (hty : typeOf (.builtin id) = pure (.type "method_descriptor")) (hm : MtR X id r) (ho : PE X o to) (ha : PA X (e :: es) t)
    (hbase : attributeBase o name X.env (eval o X.env) = eval o X.env := by rfl)
    (hfew : ((backTo cpos (starEach (e :: es) X.env)).all (fun x => !x.1) && (backToKw cpos (keywordEach [] X.env)).all (fun x => x.1.isSome) &&
      decide ((e :: es).length + ([] : List Keyword).length + (if ([] : List Keyword).isEmpty then 0 else 1) < 30)) = true := by rfl)
    (hline : (apos.endLine == cpos.line) = true := by rfl) (hs : starEach (e :: es) X.env = (false, eval e X.env) :: starEach es X.env := by rfl) (hplain : (backTo cpos (starEach es X.env)).any (·.1) = false := by rfl) :
    PE X (.Call (.Attribute o name apos) (e :: es) [] cpos) (tTM r to t) := by
  constructor
  intro pins s σ H Q I h
  refine wpAny_Call_method_late hbase hfew hline rfl (thn (ho.run pins s σ H _ I h) fun v s1 ⟨x, H1, I1, r1, ty, q1⟩ => ?_)
  obtain ⟨a, rfl, ob, ys, ea, hdn⟩ := ty
  cases r1
  obtain ⟨g1, _, its, _, o2, g2, hc2, _⟩ := I1.hok a _ ea
  rw [g1] at g2
  cases g2
  refine ⟨"tuple", id, PySem.F.plainAttrs_tuple, slot, hty, ⟨ob, g1, hc2⟩, fun b e => ?_, ?_⟩
  · cases e
    exact ⟨ob, g1, hdn⟩
  have hA := ha.run cpos pins s1 σ H1 _ I1 q1
  rw [hs] at hA ⊢
  refine Calls.callWith_builtin (by show (false || (backTo cpos (starEach es X.env)).any (·.1)) = false; rw [hplain] <;> rfl) (Calls.evalArgs_plain ?_)
  exact thn hA fun us s2 ⟨ws, H2, I2, r2, q2⟩ => hm pins s2 σ H2 (.ref a) ws (.ref a) us Q I2 rfl r2 q2
end
end My
set_option Elab.async false
set_option linter.all false
set_option maxRecDepth 100000
set_option maxHeartbeats 4000000
/-! tuples that are written or added: known to bear no dict -/
namespace My
open PySem PySem.Spec PyProof.Rows L2
section
variable {X : Cx}
def tTupF (t : TA) : TE := fun σ H Q => t σ H fun xs H1 => xs.length ≤ sizeLine ∧ ∀ p ob, H1 p = none → ob.dict = none → Q (.ref p) (upd H1 p (.frz ob (.tup xs)))
theorem pe_tupF {es : List Expr} {pos : Pos} {x1 : Nat} {t : TA} (ha : PA X es t) : PE X (.Tuple es x1 pos) (tTupF t) := by
  constructor
  intro pins s0 σ H Q I q0
  refine wpAny_Tuple_spliced (thn (ha.run pos pins s0 σ H _ I q0) fun us s1 ⟨ys, H2, I2, rv, zz, q1⟩ => ⟨by have := rv.length; omega, ?_⟩)
  have fresh := I2.hok.fresh (Nat.le_refl s1.heap.objs.size)
  have nw := IsTup.new s1.heap us.toArray
  exact ⟨.ref s1.heap.objs.size, upd H2 s1.heap.objs.size (.frz { cls := .type "tuple", data := .seq us.toArray } (.tup ys)), I2.laid (t' := s1.toks) (fun _ _ e => Heap.get?_push_of_some _ e) (Nat.le_refl _) ⟨Heap.get?_push_size _ rfl, zz, us, rv, nw⟩, rfl, q1 _ _ fresh rfl⟩
/-- a + b of two tuples with items -/
def rCatF (K : PySem.W.Frag) : R2 := fun x y H Q => ∃ a b xs ys, x = .ref a ∧ y = .ref b ∧ SqT K H a xs ∧ SqT K H b ys ∧ xs.length + ys.length ≤ sizeLine ∧ xs ≠ [] ∧ ys ≠ [] ∧ ∀ p ob, H p = none → ob.dict = none → Q (.ref p) (upd H p (.frz ob (.tup (xs ++ ys))))
theorem op_catF : OpR X (binaryOp .Add) (rCatF X.K) := by
  intro pins s σ H x y v u Q I rx ry ⟨a, b, xs, ys, ex, ey, ta, tb, hz, nx, ny, q⟩
  subst ex ey
  cases rx
  cases ry
  obtain ⟨its, rv, t1, _⟩ := I.tuple ta
  obtain ⟨it2, rv2, t2, _⟩ := I.tuple tb
  have l1 := rv.length
  have l2 := rv2.length
  have i1 : its ≠ [] := fun z => nx (List.eq_nil_of_length_eq_zero (by rw [z, List.length_nil] at l1; omega))
  have i2 : it2 ≠ [] := fun z => ny (List.eq_nil_of_length_eq_zero (by rw [z, List.length_nil] at l2; omega))
  have fresh := I.hok.fresh (Nat.le_refl s.heap.objs.size)
  have nw := IsTup.new s.heap (its ++ it2).toArray
  refine HT.cat_tup t1 t2 i1 (fun z => absurd z i2) (fun _ => ?_) (by omega)
  exact ⟨.ref s.heap.objs.size, upd H s.heap.objs.size (.frz { cls := .type "tuple", data := .seq (its ++ it2).toArray } (.tup (xs ++ ys))), I.laid (t' := s.toks) (fun _ _ e => Heap.get?_push_of_some _ e) (Nat.le_refl _) ⟨Heap.get?_push_size _ rfl, by rw [List.length_append]; exact hz, its ++ it2, rv.append rv2, nw⟩, rfl, q _ _ fresh rfl⟩
theorem op_catG : OpR X (binaryOp .Add) (fun x y H Q => rCatA X.K x y H Q ∨ rCatF X.K x y H Q) := fun pins s σ H x y v u Q I rx ry h => h.elim (op_catA pins s σ H x y v u Q I rx ry) (op_catF pins s σ H x y v u Q I rx ry)
end
section
variable {K : PySem.W.Frag} {H : Hp} {a b : Addr} {xs ys : List V} {Q : VK}
/-- one lemma for all three -/
theorem cat_toG (hx : SqT K H a xs) (hy : SqT K H b ys) (hz : xs.length + ys.length ≤ sizeLine) (bx : ys = [] → xs ≠ [] → BareT H a) (hyb : xs = [] → BareT H b) (q : ∀ (c : Addr) (H' : Hp), Same H H' → SqT K H' c (xs ++ ys) → BareT H' c → Q (.ref c) H') :
    rCatA K (.ref a) (.ref b) H Q ∨ rCatF K (.ref a) (.ref b) H Q := by
  by_cases nx : xs = []
  · subst nx
    exact .inl ⟨a, b, [], ys, rfl, rfl, hx, hy, hz, fun _ => q b H (.refl H) hy (hyb rfl), fun z => absurd rfl z, fun z => absurd rfl z⟩
  · by_cases ny : ys = []
    · subst ny
      exact .inl ⟨a, b, xs, [], rfl, rfl, hx, hy, hz, fun z => absurd z nx, fun _ _ => q a H (.refl H) (by rw [List.append_nil]; exact hx) (bx rfl nx), fun _ z => absurd rfl z⟩
    · exact .inr ⟨a, b, xs, ys, rfl, rfl, hx, hy, hz, nx, ny, fun p ob hp hd => q p _ (same_new hp) (.inl (.inr ⟨ob, upd_same⟩)) ⟨ob, _, upd_same, hd⟩⟩
/-- a cut that is the whole is the same object -/
theorem sl_toG {lo hi : Option Int} (ht : SqT K H a xs) (q : ∀ (b : Addr) (H' : Hp), Same H H' → SqT K H' b (cutV xs lo hi) → (HT.sIx xs.length 0 lo = 0 → HT.sIx xs.length xs.length hi = xs.length → b = a) → Q (.ref b) H') : rSlA K (.ref a) lo hi H Q := by
  refine ⟨a, xs, rfl, ht, fun hw => q a H (.refl H) ?_ fun _ _ => rfl, fun hn b hb => q b _ (same_new hb) (.inl (.inl upd_same)) fun h1 h2 => absurd ⟨h1, h2⟩ hn⟩
  have e : cutV xs lo hi = xs := by
    unfold cutV
    rw [hw.1, hw.2, List.drop_zero, Nat.sub_zero, List.take_length]
  rw [e]
  exact ht
end
end My
set_option Elab.async false
set_option linter.all false
set_option maxRecDepth 100000
set_option maxHeartbeats 4000000
/-! cuts of tuples known to bear no dict -/
namespace My
open PySem PySem.Spec PyProof.Rows L2
section
variable {X : Cx}
def rSlF (K : PySem.W.Frag) : V → Option Int → Option Int → Hp → VK → Prop := fun x lo hi H Q => ∃ a xs, x = .ref a ∧ SqT K H a xs ∧
  ¬ (HT.sIx xs.length 0 lo = 0 ∧ HT.sIx xs.length xs.length hi = xs.length) ∧ ∀ p ob, H p = none → ob.dict = none → Q (.ref p) (upd H p (.frz ob (.tup (cutV xs lo hi))))
theorem sl_tupF : SlR X (rSlF X.K) := by
  intro pins s σ H x v vl vu lo hi sl Q I rx hs pl pu ⟨a, xs, ex, hx, hw, q⟩
  subst ex
  cases rx
  obtain ⟨its, r, ht, hz⟩ := I.tuple hx
  have hlen : its.toArray.size = xs.length := by rw [List.size_toArray]; exact r.length.symm
  have fresh := I.hok.fresh (Nat.le_refl s.heap.objs.size)
  refine ⟨"tuple", _, PyProof.Rows.slot_tuple_getitem.lookup, ht.typeIs, ?_⟩
  refine HT.getItem_tuple_cut ht hs pl pu (by rw [hlen]; exact hw) ?_ (by rw [hlen]; exact hz)
  rw [hlen]
  refine ⟨.ref s.heap.objs.size, _, I.laid (t' := s.toks) (o := .frz _ (.tup (cutV xs lo hi))) (fun _ _ e => Heap.get?_push_of_some _ e) (Nat.le_refl _)
    ⟨Heap.get?_push_size _ rfl, Nat.le_trans (cutV_length xs lo hi) hz, _, (r.drop (HT.sIx xs.length 0 lo)).take (HT.sIx xs.length xs.length hi - HT.sIx xs.length 0 lo), IsTup.new _ _⟩, rfl, q _ _ fresh rfl⟩
theorem sl_tupG : SlR X (fun x lo hi H Q => rSlA X.K x lo hi H Q ∨ rSlF X.K x lo hi H Q) := fun pins s σ H x v vl vu lo hi sl Q I rx hs pl pu h =>
  h.elim (sl_tupA pins s σ H x v vl vu lo hi sl Q I rx hs pl pu) (sl_tupF pins s σ H x v vl vu lo hi sl Q I rx hs pl pu)
end
section
variable {K : PySem.W.Frag} {H : Hp} {a b : Addr} {xs ys : List V} {Q : VK}
theorem sl_toF {lo hi : Option Int} (ht : SqT K H a xs) (hb : BareT H a) (q : ∀ (c : Addr) (H' : Hp), Same H H' → SqT K H' c (cutV xs lo hi) → BareT H' c → Q (.ref c) H') : rSlA K (.ref a) lo hi H Q ∨ rSlF K (.ref a) lo hi H Q := by
  by_cases hw : HT.sIx xs.length 0 lo = 0 ∧ HT.sIx xs.length xs.length hi = xs.length
  · refine .inl ⟨a, xs, rfl, ht, fun hw => q a H (.refl H) ?_ hb, fun hn => absurd hw hn⟩
    have e : cutV xs lo hi = xs := by
      unfold cutV
      rw [hw.1, hw.2, List.drop_zero, Nat.sub_zero, List.take_length]
    rw [e]
    exact ht
  · exact .inr ⟨a, xs, rfl, ht, hw, fun p ob hp hd => q p _ (same_new hp) (.inl (.inr ⟨ob, upd_same⟩)) ⟨ob, _, upd_same, hd⟩⟩
theorem cat_toF (hx : SqT K H a xs) (hy : SqT K H b ys) (hz : xs.length + ys.length ≤ sizeLine) (ba : BareT H a) (bb : BareT H b) (q : ∀ (c : Addr) (H' : Hp), Same H H' → SqT K H' c (xs ++ ys) → BareT H' c → Q (.ref c) H') :
    rCatA K (.ref a) (.ref b) H Q ∨ rCatF K (.ref a) (.ref b) H Q := cat_toG hx hy hz (fun _ _ => ba) (fun _ => bb) q
end
end My
set_option Elab.async false
set_option linter.all false
set_option maxRecDepth 100000
set_option maxHeartbeats 4000000
/-! tuples known to bear no dict -/
namespace My
open PySem PySem.Spec PyProof.Rows L2
/-- if it is a tuple, it is known to bear no dict -/
def BareV (H : Hp) (v : V) (d : PyData) : Prop := isTup d = true → ∃ a, v = .ref a ∧ BareT H a
theorem BareV.keep {H H' : Hp} {v : V} {d : PyData} (h : BareV H v d) (s : Same H H') : BareV H' v d := fun z => let ⟨a, e, b⟩ := h z; ⟨a, e, b.keep s⟩
end My
set_option Elab.async false
set_option linter.all false
set_option maxRecDepth 100000
set_option maxHeartbeats 4000000
namespace My
open PySem PySem.Spec PyProof.Rows L2
theorem penL_made (c : Addr) : mergeK [] [(kCells, V.ref c), (kTurn, V.int 0), (kRest, V.int 0)] = penL c 0 0 := by
  unfold mergeK penL
  simp only [List.foldl_cons, List.foldl_nil]
  rw [putK_new (kvs := []) _ rfl, List.nil_append, putK_new _ (show valV [(kCells, V.ref c)] kTurn = none from valV_neg k12), List.singleton_append,
    putK_new _ (show valV [(kCells, V.ref c), (kTurn, V.int 0)] kRest = none from (valV_neg k13).trans (valV_neg k23))]
  rfl
theorem cut_ints (ns : List Int) (lo hi : Option Int) : ∃ ms : List Int, cutV (ns.map V.int) lo hi = ms.map V.int ∧ ms.length ≤ ns.length := by
  refine ⟨(ns.drop (HT.sIx (ns.map V.int).length 0 lo)).take (HT.sIx (ns.map V.int).length (ns.map V.int).length hi - HT.sIx (ns.map V.int).length 0 lo), ?_, ?_⟩
  · unfold cutV
    rw [List.map_take, List.map_drop]
  · rw [List.length_take, List.length_drop]
    omega
section
variable {P : Program} {w : World} {K : PySem.W.Frag} {mg : Str → Option Value} {base : Heap}
/-- a pen over a script -/
def spPen (K : PySem.W.Frag) : Sp := fun vs H Q _ => ∃ (a : Addr) (ns : List Int), vs = [.ref a] ∧ SqL K H a (ns.map V.int) ∧ ns.length ≤ 63 ∧ ∀ (p c : Addr) (H' : Hp), H p = none → Same H H' → PenAt H' p c 0 → Q (.ref p) H'
theorem ok_pen {f : Addr} {fd : FuncData} (F : Fun K "_law_pen" "_law_pen" sPen f fd) (ml : mg "list" = none) : FnOk P w K mg base CX0 1 f fd ["script"] (spPen K) := by
  refine F.ok scPen (fun vs H Q E h => ?_) (fun cdv A outer s H vs Q E hr h => ?_)
  · obtain ⟨a, ns, rfl, _⟩ := h
    rfl
  · obtain ⟨a, ns, rfl, hS, hl, q⟩ := h
    refine ⟨_, pss_one (ps_ret (pe_disp (pps_cons pe_str (pe_callTy call_list_of (by rfl) ml (by decide +kernel) (pa_cons (pe_slice sl_list (pv 0) po_none (po_some pe_int)) pa_nil))
      (pps_cons pe_str pe_int (pps_cons pe_str pe_int pps_nil))) (by rfl) (by rfl) (fun z => by cases z) (by decide))), ?_⟩
    intro p hp
    have sp := same_new (o := HO.dK []) hp
    refine ⟨_, rfl, _, rfl, a, _, rfl, sp.seq hS, fun b hb => ?_⟩
    have sb := same_new (o := HO.lst (cutV (ns.map V.int) none (some 63))) hb
    refine ⟨b, _, rfl, .inl (.inl (.inl upd_same)), fun c hc => ?_⟩
    have sc := same_new (o := HO.lst (cutV (ns.map V.int) none (some 63))) hc
    have p1 : (upd (upd (upd H p (.dK [])) b (.lst (cutV (ns.map V.int) none (some 63)))) c (.lst (cutV (ns.map V.int) none (some 63)))) p = some (.dK []) := sc _ _ (sb _ _ upd_same)
    refine ⟨p1, [(kCells, .ref c), (kTurn, .int 0), (kRest, .int 0)], rfl, ?_⟩
    obtain ⟨ms, em, lm⟩ := cut_ints ns none (some 63)
    have npc : p ≠ c := ne_of_none (sb _ _ upd_same) hc
    refine ⟨by show 3 ≤ 15; decide, q p c _ hp (fun b' o e => ?_) ⟨⟨ms, 0, 0, ?_, ?_, by omega, Int.le_refl 0, Int.le_refl 0⟩⟩⟩
    · rw [upd_ne (ne_of_none e hp)]
      exact sc _ _ (sb _ _ (sp _ _ e))
    · rw [upd_same, penL_made]
    · rw [upd_ne npc.symm, upd_same, em]
end
end My
set_option Elab.async false
set_option linter.all false
set_option maxRecDepth 100000
set_option maxHeartbeats 4000000
namespace My
open PySem PySem.Spec PyProof.Rows L2
/-- the texts of a value, its lists and dicts are of a length that is carried -/
def Fit : PyData → Prop
  | .str x => x.length ≤ 100000
  | .tuple ds => ds.length ≤ 100000
  | .list ds => ds.length ≤ 100000
  | _ => True
def Fit1 (d : PyData) : Prop := Fit d ∧ ∀ ds, d = .tuple ds → ∀ e ∈ ds, Fit e
def Fit2 (d : PyData) : Prop := Fit d ∧ ∀ ds, d = .tuple ds → ∀ e ∈ ds, Fit1 e
end My
set_option Elab.async false
set_option linter.all false
set_option maxRecDepth 100000
set_option maxHeartbeats 4000000
/-! how large a value is: its texts, its ints, its weight, its depth -/
namespace My
open PySem PySem.Spec PyProof.Rows L2
mutual
def okB (b : Nat) : PyData → Bool
  | .none => true
  | .bool _ => true
  | .int i => decide (i.natAbs ≤ 10 ^ 20 + b)
  | .str x => decide (x.length ≤ b) && x.cps.toList.all fun c => decide (c < 128)
  | .list ds => okAll b ds
  | .tuple ds => okAll b ds
  | .dict es => okKv b es
def okAll (b : Nat) : List PyData → Bool
  | [] => true
  | d :: r => okB b d && okAll b r
def okKv (b : Nat) : List (PyData × PyData) → Bool
  | [] => true
  | (k, v) :: r => okB b k && okB b v && okKv b r
end
mutual
theorem okB_mono {b c : Nat} (h : b ≤ c) : ∀ d : PyData, okB b d = true → okB c d = true
  | .none, _ => rfl
  | .bool _, _ => rfl
  | .int i, e => by
    have := of_decide_eq_true e
    exact decide_eq_true (by omega)
  | .str x, e => by
    rw [okB, Bool.and_eq_true] at e ⊢
    have := of_decide_eq_true e.1
    exact ⟨decide_eq_true (by omega), e.2⟩
  | .list ds, e => okAll_mono h ds e
  | .tuple ds, e => okAll_mono h ds e
  | .dict es, e => okKv_mono h es e
theorem okAll_mono {b c : Nat} (h : b ≤ c) : ∀ ds : List PyData, okAll b ds = true → okAll c ds = true
  | [], _ => rfl
  | d :: r, e => by
    rw [okAll, Bool.and_eq_true] at e ⊢
    exact ⟨okB_mono h d e.1, okAll_mono h r e.2⟩
theorem okKv_mono {b c : Nat} (h : b ≤ c) : ∀ es : List (PyData × PyData), okKv b es = true → okKv c es = true
  | [], _ => rfl
  | (k, v) :: r, e => by
    rw [okKv, Bool.and_eq_true, Bool.and_eq_true] at e ⊢
    exact ⟨⟨okB_mono h k e.1.1, okB_mono h v e.1.2⟩, okKv_mono h r e.2⟩
end
mutual
theorem okB_short {b : Nat} (h : b ≤ 1000) : ∀ d : PyData, okB b d = true → d.leavesShort 30 = true
  | .none, _ => rfl
  | .bool _, _ => rfl
  | .int i, e => by
    have := of_decide_eq_true e
    have l := int_text_length_le10 (a := i) (k := 22) (by decide) (by omega)
    refine decide_eq_true ?_
    show (Str.ofString (toString i)).length ≤ 30
    rw [PySem.ofString_length]
    omega
  | .str x, e => by
    rw [okB, Bool.and_eq_true, List.all_eq_true] at e
    rw [PyData.leavesShort, List.all_eq_true]
    intro c hc
    have := of_decide_eq_true (e.2 c hc)
    exact decide_eq_true (by omega)
  | .list ds, e => okAll_short h ds e
  | .tuple ds, e => okAll_short h ds e
  | .dict es, e => okKv_short h es e
theorem okAll_short {b : Nat} (h : b ≤ 1000) : ∀ ds : List PyData, okAll b ds = true → PyData.leavesShortAll 30 ds = true
  | [], _ => rfl
  | d :: r, e => by
    rw [okAll, Bool.and_eq_true] at e
    rw [PyData.leavesShortAll, Bool.and_eq_true]
    exact ⟨okB_short h d e.1, okAll_short h r e.2⟩
theorem okKv_short {b : Nat} (h : b ≤ 1000) : ∀ es : List (PyData × PyData), okKv b es = true → PyData.leavesShortKv 30 es = true
  | [], _ => rfl
  | (k, v) :: r, e => by
    rw [okKv, Bool.and_eq_true, Bool.and_eq_true] at e
    rw [PyData.leavesShortKv, Bool.and_eq_true, Bool.and_eq_true]
    exact ⟨⟨okB_short h k e.1.1, okB_short h v e.1.2⟩, okKv_short h r e.2⟩
end
theorem log_small {i : Int} (h : i.natAbs ≤ 10 ^ 20 + 1000) : i.natAbs.log2 < 70 := by
  by_cases z : i.natAbs = 0
  · rw [z]; decide
  · exact (Nat.log2_lt z).mpr (by omega)
mutual
theorem okB_shows {b : Nat} (h : b ≤ 1000) : ∀ d : PyData, okB b d = true → d.showable = true
  | .none, _ => rfl
  | .bool _, _ => rfl
  | .int i, e => by
    have := of_decide_eq_true e
    have := log_small (i := i) (by omega)
    exact decide_eq_true (by omega)
  | .str x, e => rfl
  | .list ds, e => okAll_shows h ds e
  | .tuple ds, e => okAll_shows h ds e
  | .dict es, e => okKv_shows h es e
theorem okAll_shows {b : Nat} (h : b ≤ 1000) : ∀ ds : List PyData, okAll b ds = true → PyData.showableAll ds = true
  | [], _ => rfl
  | d :: r, e => by
    rw [okAll, Bool.and_eq_true] at e
    rw [PyData.showableAll, Bool.and_eq_true]
    exact ⟨okB_shows h d e.1, okAll_shows h r e.2⟩
theorem okKv_shows {b : Nat} (h : b ≤ 1000) : ∀ es : List (PyData × PyData), okKv b es = true → PyData.showableKv es = true
  | [], _ => rfl
  | (k, v) :: r, e => by
    rw [okKv, Bool.and_eq_true, Bool.and_eq_true] at e
    rw [PyData.showableKv, Bool.and_eq_true, Bool.and_eq_true]
    exact ⟨⟨okB_shows h k e.1.1, okB_shows h v e.1.2⟩, okKv_shows h r e.2⟩
end
theorem okAll_iff {b : Nat} : ∀ {ds : List PyData}, okAll b ds = true ↔ ∀ d ∈ ds, okB b d = true
  | [] => ⟨fun _ _ z => (nomatch z), fun _ => rfl⟩
  | d :: r => by
    rw [okAll, Bool.and_eq_true, okAll_iff]
    exact ⟨fun ⟨a, c⟩ x hx => (List.mem_cons.mp hx).elim (fun e => e ▸ a) (c x), fun h => ⟨h d List.mem_cons_self, fun x hx => h x (List.mem_cons_of_mem _ hx)⟩⟩
theorem wAll_append : ∀ xs ys : List PyData, PyData.weightAll (xs ++ ys) = PyData.weightAll xs + PyData.weightAll ys
  | [], ys => by rw [List.nil_append, PyData.weightAll, Nat.zero_add]
  | x :: xs, ys => by rw [List.cons_append, PyData.weightAll, PyData.weightAll, wAll_append xs ys]; omega
theorem wAll_mem : ∀ {xs : List PyData} {d : PyData}, d ∈ xs → d.weight + 1 ≤ PyData.weightAll xs
  | x :: xs, d, h => by
    rw [PyData.weightAll]
    rcases List.mem_cons.mp h with rfl | h
    · omega
    · have := wAll_mem h
      omega
theorem wAll_len : ∀ xs : List PyData, xs.length ≤ PyData.weightAll xs
  | [] => Nat.zero_le _
  | x :: xs => by
    have := wAll_len xs
    rw [PyData.weightAll, List.length_cons]
    omega
theorem wAll_rev : ∀ xs : List PyData, PyData.weightAll xs.reverse = PyData.weightAll xs
  | [] => rfl
  | x :: xs => by
    rw [List.reverse_cons, wAll_append, wAll_rev xs]
    simp only [PyData.weightAll]
    omega
theorem wAll_cut (xs : List PyData) (i : Nat) : PyData.weightAll (xs.take i) + PyData.weightAll (xs.drop i) = PyData.weightAll xs := by rw [← wAll_append, List.take_append_drop]
theorem dAll_le {n : Nat} : ∀ {xs : List PyData}, PyData.depthAll xs ≤ n ↔ ∀ d ∈ xs, d.depth ≤ n
  | [] => ⟨fun _ _ z => (nomatch z), fun _ => Nat.zero_le _⟩
  | x :: xs => by
    rw [PyData.depthAll, Nat.max_le, dAll_le]
    exact ⟨fun ⟨a, c⟩ y hy => (List.mem_cons.mp hy).elim (fun e => e ▸ a) (c y), fun h => ⟨h x List.mem_cons_self, fun y hy => h y (List.mem_cons_of_mem _ hy)⟩⟩
/-- a value of at most these measures -/
structure Lim (b w n : Nat) (d : PyData) : Prop where
  ok : okB b d = true
  wt : d.weight ≤ w
  dp : d.depth ≤ n
theorem Lim.mono {b w n b' w' n' : Nat} {d : PyData} (h : Lim b w n d) (h1 : b ≤ b') (h2 : w ≤ w') (h3 : n ≤ n') : Lim b' w' n' d := ⟨okB_mono h1 d h.ok, Nat.le_trans h.wt h2, Nat.le_trans h.dp h3⟩
theorem Lim.shows {b w n : Nat} {d : PyData} (h : Lim b w n d) (hb : b ≤ 1000) : d.showable = true := okB_shows hb d h.ok
theorem Lim.short {b w n : Nat} {d : PyData} (h : Lim b w n d) (hb : b ≤ 1000) (hw : w ≤ 100000) : d.shown.length ≤ sizeLine := by
  have := PyData.shown_le 30 (by decide) d (okB_short hb d h.ok)
  have := h.wt
  rw [sizeLine_eq]
  omega
theorem Lim.fit {b w n : Nat} {d : PyData} (h : Lim b w n d) (hb : b ≤ 1000) (hw : w ≤ 100000) : Fit d := by
  obtain ⟨h1, h2, _⟩ := h
  cases d with
  | str x =>
    rw [okB, Bool.and_eq_true] at h1
    have := of_decide_eq_true h1.1
    show x.length ≤ 100000
    omega
  | list ds =>
    have := wAll_len ds
    simp only [PyData.weight] at h2
    show ds.length ≤ 100000
    omega
  | tuple ds =>
    have := wAll_len ds
    simp only [PyData.weight] at h2
    show ds.length ≤ 100000
    omega
  | _ => trivial
theorem Lim.item {b w n : Nat} {ds : List PyData} (h : Lim b w n (.tuple ds)) {e : PyData} (he : e ∈ ds) : Lim b w (n - 1) e := by
  obtain ⟨h1, h2, h3⟩ := h
  simp only [PyData.weight] at h2
  simp only [PyData.depth] at h3
  have := wAll_mem he
  exact ⟨okAll_iff.mp h1 e he, by omega, dAll_le.mp (show PyData.depthAll ds ≤ n - 1 by omega) e he⟩
theorem Lim.fit1 {b w n : Nat} {d : PyData} (h : Lim b w n d) (hb : b ≤ 1000) (hw : w ≤ 100000) : Fit1 d := ⟨h.fit hb hw, fun ds e x hx => by
  subst e
  exact (h.item hx).fit hb hw⟩
theorem Lim.fit2 {b w n : Nat} {d : PyData} (h : Lim b w n d) (hb : b ≤ 1000) (hw : w ≤ 100000) : Fit2 d := ⟨h.fit hb hw, fun ds e x hx => by
  subst e
  exact (h.item hx).fit1 hb hw⟩
theorem lim_tup {b w n : Nat} {ds : List PyData} (h1 : ∀ d ∈ ds, okB b d = true) (h2 : PyData.weightAll ds ≤ w) (h3 : ∀ d ∈ ds, d.depth ≤ n) : Lim b w (n + 1) (.tuple ds) :=
  ⟨okAll_iff.mpr h1, by simp only [PyData.weight]; exact h2, by simp only [PyData.depth]; have := dAll_le.mpr h3; omega⟩
theorem lim_lst {b w n : Nat} {ds : List PyData} (h1 : ∀ d ∈ ds, okB b d = true) (h2 : PyData.weightAll ds ≤ w) (h3 : ∀ d ∈ ds, d.depth ≤ n) : Lim b w (n + 1) (.list ds) :=
  ⟨okAll_iff.mpr h1, by simp only [PyData.weight]; exact h2, by simp only [PyData.depth]; have := dAll_le.mpr h3; omega⟩
theorem lim_str {b w n : Nat} {x : Str} (h1 : x.length ≤ b) (h2 : ∀ c ∈ x.cps.toList, c < 128) (h3 : b ≤ w) : Lim b w n (.str x) :=
  ⟨by rw [okB, Bool.and_eq_true, List.all_eq_true]; exact ⟨decide_eq_true h1, fun c hc => decide_eq_true (h2 c hc)⟩, Nat.le_trans (show x.length ≤ b from h1) h3, Nat.zero_le _⟩
theorem lim_int {b w n : Nat} {i : Int} (h1 : i.natAbs ≤ 10 ^ 20 + b) (hb : b ≤ 1000) (h2 : 70 ≤ w) : Lim b w n (.int i) :=
  ⟨decide_eq_true h1, by
    have := log_small (i := i) (by omega)
    simp only [PyData.weight]
    split <;> omega, Nat.zero_le _⟩
end My
set_option Elab.async false
set_option linter.all false
set_option maxRecDepth 100000
set_option maxHeartbeats 4000000
/-! values that a law draws: of any kind, not large, shown in few signs -/
namespace My
open PySem PySem.Spec PyProof.Rows L2
/-- not large -/
structure Gm (w n : Nat) (d : PyData) : Prop where
  sh : d.showable = true
  ls : d.leavesShort 70 = true
  wt : d.weight ≤ w
  dp : d.depth ≤ n
def gmB (w n : Nat) (d : PyData) : Bool := d.showable && (d.leavesShort 70 && (decide (d.weight ≤ w) && decide (d.depth ≤ n)))
theorem gmB_ok {w n : Nat} {d : PyData} (h : gmB w n d = true) : Gm w n d := by
  unfold gmB at h
  simp only [Bool.and_eq_true, decide_eq_true_eq] at h
  exact ⟨h.1, h.2.1, h.2.2.1, h.2.2.2⟩
theorem Gm.mono {w n w' n' : Nat} {d : PyData} (h : Gm w n d) (h1 : w ≤ w') (h2 : n ≤ n') : Gm w' n' d := ⟨h.sh, h.ls, Nat.le_trans h.wt h1, Nat.le_trans h.dp h2⟩
theorem Gm.short {w n : Nat} {d : PyData} (h : Gm w n d) (hw : w ≤ 10000) : d.shown.length ≤ sizeLine := by
  have := PyData.shown_le 70 (by decide) d h.ls
  have := h.wt
  rw [sizeLine_eq]
  omega
theorem shAll_iff : ∀ {ds : List PyData}, PyData.showableAll ds = true ↔ ∀ d ∈ ds, d.showable = true
  | [] => ⟨fun _ _ z => (nomatch z), fun _ => rfl⟩
  | d :: r => by
    rw [PyData.showableAll, Bool.and_eq_true, shAll_iff]
    exact ⟨fun ⟨a, c⟩ x hx => (List.mem_cons.mp hx).elim (fun e => e ▸ a) (c x), fun h => ⟨h d List.mem_cons_self, fun x hx => h x (List.mem_cons_of_mem _ hx)⟩⟩
theorem lsAll_iff : ∀ {ds : List PyData}, PyData.leavesShortAll 70 ds = true ↔ ∀ d ∈ ds, d.leavesShort 70 = true
  | [] => ⟨fun _ _ z => (nomatch z), fun _ => rfl⟩
  | d :: r => by
    rw [PyData.leavesShortAll, Bool.and_eq_true, lsAll_iff]
    exact ⟨fun ⟨a, c⟩ x hx => (List.mem_cons.mp hx).elim (fun e => e ▸ a) (c x), fun h => ⟨h d List.mem_cons_self, fun x hx => h x (List.mem_cons_of_mem _ hx)⟩⟩
theorem gm_tup {w n : Nat} {ds : List PyData} (h : ∀ d ∈ ds, ∃ w', Gm w' n d) (hw : PyData.weightAll ds ≤ w) : Gm w (n + 1) (.tuple ds) :=
  ⟨shAll_iff.mpr fun d hd => let ⟨_, g⟩ := h d hd; g.sh, lsAll_iff.mpr fun d hd => let ⟨_, g⟩ := h d hd; g.ls, by simp only [PyData.weight]; exact hw, by simp only [PyData.depth]; have := dAll_le.mpr fun d hd => let ⟨_, g⟩ := h d hd; g.dp; omega⟩
theorem gm_lst {w n : Nat} {ds : List PyData} (h : ∀ d ∈ ds, ∃ w', Gm w' n d) (hw : PyData.weightAll ds ≤ w) : Gm w (n + 1) (.list ds) :=
  ⟨shAll_iff.mpr fun d hd => let ⟨_, g⟩ := h d hd; g.sh, lsAll_iff.mpr fun d hd => let ⟨_, g⟩ := h d hd; g.ls, by simp only [PyData.weight]; exact hw, by simp only [PyData.depth]; have := dAll_le.mpr fun d hd => let ⟨_, g⟩ := h d hd; g.dp; omega⟩
theorem gm_name {x : Str} (h : NameOk x) : Gm 8 0 (.str x) := by
  obtain ⟨h1, h2, h3⟩ := h
  refine ⟨rfl, ?_, h2, Nat.zero_le _⟩
  rw [PyData.leavesShort, List.all_eq_true]
  intro c hc
  have := h3 c hc
  exact decide_eq_true (by omega)
theorem gm_names {ns : List Str} (h : ∀ x ∈ ns, NameOk x) : ∀ d ∈ ns.map PyData.str, ∃ w', Gm w' 0 d := fun d hd => by
  obtain ⟨x, hx, rfl⟩ := List.mem_map.mp hd
  exact ⟨8, gm_name (h x hx)⟩
theorem w_names : ∀ {ns : List Str}, (∀ x ∈ ns, NameOk x) → PyData.weightAll (ns.map .str) ≤ 9 * ns.length
  | [], _ => Nat.le_refl _
  | x :: r, h => by
    have ih := w_names (ns := r) fun y hy => h y (List.mem_cons_of_mem _ hy)
    have := (gm_name (h x List.mem_cons_self)).wt
    rw [List.map_cons, PyData.weightAll, List.length_cons]
    omega
theorem fitN_of {w n : Nat} {d : PyData} (h : Gm w n d) (hw : w ≤ 1000) : FitN d := by
  have hd := h.wt
  cases d with
  | list ds =>
    simp only [PyData.weight] at hd
    refine ⟨Nat.le_trans (wAll_len ds) (by omega), fun e he x ex => ?_⟩
    have := wAll_mem (xs := ds) he
    subst ex
    have e : (PyData.str x).weight = x.length := by simp only [PyData.weight]; rfl
    omega
  | tuple ds =>
    simp only [PyData.weight] at hd
    refine ⟨Nat.le_trans (wAll_len ds) (by omega), fun e he x ex => ?_⟩
    have := wAll_mem (xs := ds) he
    subst ex
    have e : (PyData.str x).weight = x.length := by simp only [PyData.weight]; rfl
    omega
  | _ => exact ⟨Nat.zero_le _, fun e he => nomatch he⟩
/-- a value drawn -/
def GdV (m1 m2 : Nat) (K : PySem.W.Frag) (p : Addr) (H : Hp) (v : V) : Prop := ∃ d, Da K p H v d ∧ Gm m1 m2 d ∧ BareV H v d
section
variable {m1 m2 : Nat} {K : PySem.W.Frag} {p c : Addr} {n : Nat} {H H' : Hp}
theorem GdV.mono {m3 m4 : Nat} {v : V} (h : GdV m1 m2 K p H v) (a : m1 ≤ m3) (b : m2 ≤ m4) : GdV m3 m4 K p H v := let ⟨d, x, y, z⟩ := h; ⟨d, x, y.mono a b, z⟩
theorem GdV.keep {v : V} (h : GdV m1 m2 K p H v) (s : Same H H') : GdV m1 m2 K p H' v := let ⟨d, a, b, e⟩ := h; ⟨d, da_keep s.keepA a, b, e.keep s⟩
theorem BareV.keepP {v : V} {d : PyData} (h : BareV H v d) (s : SameP p H H') (G : PenAt H p c n) : BareV H' v d := fun z => let ⟨a, e, b⟩ := h z; ⟨a, e, b.keepP s G⟩
theorem GdV.keepP {v : V} (h : GdV m1 m2 K p H v) (s : SameP p H H') (G : PenAt H p c n) : GdV m1 m2 K p H' v := let ⟨d, a, b, e⟩ := h; ⟨d, da_keep (s.keepA G) a, b, e.keepP s G⟩
theorem gd_flat {v : V} {d : PyData} (a : Da K p H v d) (g : gmB m1 m2 d = true) (h : isTup d = false) : GdV m1 m2 K p H v := ⟨d, a, gmB_ok g, fun z => by rw [h] at z; cases z⟩
theorem gd_tupF {a : Addr} {xs : List V} {ds : List PyData} (h : SqT K H a xs) (b : BareT H a) (hd : DaAll K p H xs ds) (g : Gm m1 m2 (.tuple ds)) : GdV m1 m2 K p H (.ref a) := ⟨_, .tup h hd, g, fun _ => ⟨a, rfl, b⟩⟩
theorem gd_lst {a : Addr} {xs : List V} {ds : List PyData} (h : H a = some (.lst xs)) (na : a ≠ sysModules) (hd : DaAll K p H xs ds) (g : Gm m1 m2 (.list ds)) : GdV m1 m2 K p H (.ref a) := ⟨_, .lst na (.inl (.inl h)) hd, g, fun z => nomatch z⟩
theorem gd_dct {a : Addr} {kvs : List (Key × V)} {es : List (PyData × PyData)} (na : a ≠ p) (h : H a = some (.dK kvs)) (hd : DaKv K p H kvs es) (g : Gm m1 m2 (.dict es)) : GdV m1 m2 K p H (.ref a) := ⟨_, .dct na h hd, g, fun z => nomatch z⟩
end
/-- a list of such values -/
def GdL (m1 m2 : Nat) (K : PySem.W.Frag) (p : Addr) (H : Hp) (xs : List V) : Prop := ∀ v ∈ xs, GdV m1 m2 K p H v
section
variable {m1 m2 : Nat} {K : PySem.W.Frag} {p c : Addr} {n : Nat} {H H' : Hp} {xs ys : List V}
theorem GdL.keep (h : GdL m1 m2 K p H xs) (s : Same H H') : GdL m1 m2 K p H' xs := fun v hv => (h v hv).keep s
theorem GdL.keepP (h : GdL m1 m2 K p H xs) (s : SameP p H H') (G : PenAt H p c n) : GdL m1 m2 K p H' xs := fun v hv => (h v hv).keepP s G
theorem GdL.nil : GdL m1 m2 K p H [] := fun _ z => nomatch z
theorem GdL.cons {v : V} (a : GdV m1 m2 K p H v) (h : GdL m1 m2 K p H xs) : GdL m1 m2 K p H (v :: xs) := fun x hx => (List.mem_cons.mp hx).elim (fun e => e ▸ a) (h x)
theorem GdL.app (h : GdL m1 m2 K p H xs) (g : GdL m1 m2 K p H ys) : GdL m1 m2 K p H (xs ++ ys) := fun x hx => (List.mem_append.mp hx).elim (h x) (g x)
end
section
variable {X : Cx}
/-- list + list: a new list, not at sys.modules -/
theorem op_catN : OpR X (binaryOp .Add) (fun x y H Q => ∃ l b xs zs, x = .ref l ∧ y = .ref b ∧ H l = some (.lst xs) ∧ H b = some (.lst zs) ∧ xs.length + zs.length ≤ sizeLine ∧ ∀ p, H p = none → p ≠ sysModules → Q (.ref p) (upd H p (.lst (xs ++ zs)))) := by
  intro pins s σ H x y v u Q I rx ry ⟨l, b, xs, zs, e1, e2, h1, h2, hz, q⟩
  subst e1; subst e2; cases rx; cases ry
  obtain ⟨_, its, _, r1, l1, g1⟩ := I.lstM h1; obtain ⟨_, its2, _, r2, l2, g2⟩ := I.lstM h2
  refine PySem.P.add_list g1 g2 ?_ (by rw [List.size_toArray, List.size_toArray]; omega)
  rw [show its.toArray ++ its2.toArray = (its ++ its2).toArray by simp]
  exact ⟨.ref _, _, I.lnew (t' := s.toks) (r1.append r2) (by rw [List.length_append]; omega), rfl, q _ I.fresh (Nat.ne_of_gt I.big)⟩
end
end My
set_option Elab.async false
set_option linter.all false
set_option maxRecDepth 100000
set_option maxHeartbeats 4000000
/-! _law_odd_order -/
namespace My
open PySem PySem.Spec PyProof.Rows L2
def abcm : Str := "abcdefghijklm"
theorem abcm_codes : abcm.cps.toList = (List.range 13).map (97 + ·) := by decide +kernel
def yN (k : Nat) : Str := ("y" : Str) ++ (⟨#[97 + k]⟩ : Str)
def yNs (n : Nat) : List Str := (List.range n).map yN
theorem yNs_snoc (k : Nat) : yNs (k + 1) = yNs k ++ [yN k] := by
  unfold yNs
  rw [List.range_succ, List.map_append]
  rfl
theorem yNs_ok : ∀ x ∈ yNs 13, NameOk x := fun x hx => by
  obtain ⟨k, hk, rfl⟩ := List.mem_map.mp hx
  have lt := List.mem_range.mp hk
  have e : (yN k).cps.toList = [121, 97 + k] := by
    unfold yN
    rw [Str.cps_append, Array.toList_append]
    rfl
  have l : (yN k).length = 2 := by rw [str_len, e]; rfl
  refine ⟨by omega, by omega, fun c hc => ?_⟩
  rw [e] at hc
  simp only [List.mem_cons, List.not_mem_nil, or_false] at hc
  omega
section
variable {P : Program} {w : World} {K : PySem.W.Frag} {mg : Str → Option Value} {base : Heap}
def spOddO (K : PySem.W.Frag) : Sp := fun vs H Q _ => ∃ (p c a : Addr) (n : Nat) (ns : List Str), vs = [.ref p, .ref a] ∧ PenAt H p c n ∧ n ≤ 700000000 ∧ SqT K H a (ns.map V.str) ∧ (∀ x ∈ ns, NameOk x) ∧ ns.length ≤ 12 ∧
  ∀ (v : V) (H' : Hp), GdV 400 2 K p H' v → SameP p H H' → PenAt H' p c (n + 3) → Q v H'
theorem merge_1 (k : Key) (v : V) : mergeK [] [(k, v)] = [(k, v)] := by
  unfold mergeK
  simp only [List.foldl_cons, List.foldl_nil]
  rw [putK_new (kvs := []) _ rfl]
  rfl
abbrev oddN : List Str := ["pen", "some", "names", "at", "bad", "more", "options", "letter"]
theorem ok_oddO {f fD fP fS : Addr} {fd dD dP dS : FuncData} (F : Fun K "_law_odd_order" "_law_odd_order" sLOddOrder f fd) (B : Glb mg) (T : Draws P w K mg base fD fP fS dD dP dS) : FnOk P w K mg base CX0 3 f fd ["pen", "some"] (spOddO K) := by
  refine F.ok scLOddOrder (fun vs H Q E h => ?_) (fun cdv A outer s H vs Q E hr h => ?_)
  · obtain ⟨p, c, a, n, ns, rfl, _⟩ := h
    rfl
  · obtain ⟨p, c, a, n, ns, rfl, G, hn, ha, nm, few, q⟩ := h
    have hr1 := hr.mono (show 1 ≤ 2 by decide)
    refine ⟨_, pss_cons (ps_set (i := 2) scLOddOrder.nd rfl (.inl rfl) (pe_op op_catN (pe_callTy call_listN (by rfl) B.list (by decide +kernel) (pa_cons (pv 1) pa_nil)) (pe_lst (pa_cons pe_str pa_nil))))
      (pss_cons (ps_set (i := 3) scLOddOrder.nd rfl (.inl rfl) (pe_call T.oD hr1 (by rfl) T.gD T.kD T.bD .nil pass0 (pa_cons (pv 0) (pa_cons (pe_callB call_len (by rfl) B.len PySem.boot_len (pa_cons (pv 2) pa_nil)) pa_nil))))
      (pss_cons (ps_set (i := 4) scLOddOrder.nd rfl (.inl rfl) (pe_call T.oP hr (by rfl) T.gP T.kP T.bP .nil pass0 (pa_cons (pv 0) (pa_cons (pe_lst (pa_cons pe_str (pa_cons pe_str (pa_cons pe_str (pa_cons pe_str (pa_cons pe_str (pa_cons pe_non (pa_cons pe_int (pa_cons pe_bl (pa_cons (pe_op op_pow pe_int pe_int)
          (pa_cons (pe_tupF (pa_cons pe_str (pa_cons pe_int pa_nil))) (pa_cons (pe_tupF (pa_cons pe_str pa_nil)) (pa_cons (pe_lstN pa_nil) (pa_cons pe_dnewK pa_nil)))))))))))))) pa_nil))))
      (pss_cons (ps_set (i := 5) scLOddOrder.nd rfl (.inl rfl) (pe_callTy call_tupleF (by rfl) B.tuple (by decide +kernel) (pa_cons (pe_lc (own := [("letter", 7)]) (g := gName 7) (tt := tYes) rfl scLOddOrder.nd (pi_str pe_str)
          (blkOk_by (own := [("letter", 7)]) (N := oddN) (sc := defScope sLOddOrder) (by decide +kernel)) (fun _ _ _ _ _ => pg_name (i := 7) scLOddOrder.nd rfl (Or.inl rfl)) (fun _ _ _ _ _ => pts_nil) (fun _ _ _ _ _ => pe_op op_add_str pe_str (pv 7))) pa_nil)))
      (pss_cons (ps_set (i := 6) scLOddOrder.nd rfl (.inl rfl) (pe_lst (pa_cons (pv 2)
          (pa_cons (pe_callTy call_tupleF (by rfl) B.tuple (by decide +kernel) (pa_cons (pe_op op_cat (pe_op op_cat (pe_slice sl_list (pv 2) po_none (po_some (pv 3))) (pe_lst (pa_cons (pv 4) pa_nil))) (pe_slice sl_list (pv 2) (po_some (pe_op op_add (pv 3) pe_int)) po_none)) pa_nil))
          (pa_cons (pe_callTy call_tupleF (by rfl) B.tuple (by decide +kernel) (pa_cons (pe_op op_cat (pv 2) (pe_slice sl_list (pv 2) (po_some (pv 3)) (po_some (pe_op op_add (pv 3) pe_int)))) pa_nil))
          (pa_cons (pv 5) (pa_cons (pe_slice sl_tupG (pv 5) po_none (po_some pe_int)) pa_nil)))))))
      (pss_cons (ps_set (i := 6) scLOddOrder.nd rfl (.inl rfl) (pe_op op_cat (pv 6) (pe_lst (pa_cons pe_non (pa_cons pe_str (pa_cons pe_str (pa_cons pe_int (pa_cons (pe_tupF pa_nil) (pa_cons (pe_lstN pa_nil) (pa_cons pe_dnewK (pa_cons (pe_tupF (pa_cons (pe_ix ix_list (pv 2) (pv 3) (fun _ _ => rfl)) pa_nil))
          (pa_cons (pe_tupF (pa_cons (pe_tupF (pa_cons (pe_ix ix_list (pv 2) (pv 3) (fun _ _ => rfl)) (pa_cons pe_int pa_nil))) pa_nil)) (pa_cons (pv 4) (pa_cons (pe_callTy call_tupleF (by rfl) B.tuple (by decide +kernel) (pa_cons (pv 2) pa_nil)) pa_nil))))))))))))))
      (pss_one (ps_ret (pe_call T.oP hr (by rfl) T.gP T.kP T.bP .nil pass0 (pa_cons (pv 0) (pa_cons (pe_op op_cat (pv 6) (pe_lst (pa_cons (pe_disp (pps_cons (pe_ix ix_list (pv 2) (pv 3) (fun _ _ => rfl)) pe_int pps_nil) (by rfl) (by rfl) (fun z => by cases z) (by decide)) pa_nil))) pa_nil)))))))))), ?_⟩
    have big : 100000 ≤ sizeLine := by decide
    obtain ⟨⟨_, _, _, P0, _⟩⟩ := id G
    generalize hNS : ns ++ [("zz" : Str)] = NS
    have okz : NameOk ("zz" : Str) := ⟨by decide +kernel, by decide +kernel, by decide +kernel⟩
    have nmS : ∀ x ∈ NS, NameOk x := fun x hx => by
      rw [← hNS] at hx
      exact (List.mem_append.mp hx).elim (nm x) fun z => by rw [List.mem_singleton.mp z]; exact okz
    have lenS : NS.length = ns.length + 1 := by rw [← hNS, List.length_append]; rfl
    -- names
    refine ⟨_, rfl, a, _, rfl, ha, fun l0 hl0 nl0 => ⟨by show 1 ≤ sizeLine; decide, fun l1 hl1 => ?_⟩⟩
    have s0 := same_new (o := HO.lst (ns.map V.str)) hl0
    have s1 := same_new (o := HO.lst [V.str "zz"]) hl1
    have e1 := s1 _ _ (upd_same (H := H) (a := l0) (o := HO.lst (ns.map V.str)))
    refine ⟨l0, l1, _, _, rfl, rfl, e1, upd_same, by rw [List.length_map]; show _ + 1 ≤ _; omega, fun L hL nL => ?_⟩
    have eNS : ns.map V.str ++ [V.str "zz"] = NS.map V.str := by rw [← hNS, List.map_append]; rfl
    rw [eNS]
    have s2 := same_new (o := HO.lst (NS.map V.str)) hL
    have eL : (upd (upd (upd H l0 (HO.lst (ns.map V.str))) l1 (HO.lst [V.str "zz"])) L (HO.lst (NS.map V.str))) L = _ := upd_same
    have S2 := (s0.trans s1).trans s2
    have G2 := G.same S2
    generalize upd (upd (upd H l0 (HO.lst (ns.map V.str))) l1 (HO.lst [V.str "zz"])) L (HO.lst (NS.map V.str)) = H2 at eL S2 G2
    clear s2 e1 s1 s0
    have gL : GdV 400 2 K p H2 (.ref L) := gd_lst eL nL (da_strs NS) ((gm_lst (gm_names nmS) (w := 117) (by have := w_names nmS; omega)).mono (by decide) (by decide))
    -- at
    refine ⟨_, rfl, _, rfl, .ref L, (NS.map V.str).length, rfl, ?_, p, c, n, _, rfl, G2, by omega, by rw [List.length_map]; omega, by rw [List.length_map]; omega, fun d H3 d0 d1 s3 G3 => ?_⟩
    · exact .inl ⟨_, .inl (.inl eL), rfl⟩
    obtain ⟨at', rfl⟩ : ∃ k : Nat, d = (k : Int) := ⟨d.toNat, by omega⟩
    rw [List.length_map] at d1
    have hat : at' < NS.length := by omega
    have eL3 := s3.lst G2 eL
    have gL3 := gL.keepP s3 G2
    obtain ⟨⟨_, _, _, P3, _⟩⟩ := id G3
    -- bad
    refine ⟨_, rfl, _, _, rfl, rfl, ⟨by decide, by decide, by decide⟩, by show 2 ≤ sizeLine; decide, fun t1 o1 h1 b1 => ?_⟩
    have s4 := same_new (o := HO.frz o1 (.tup [.str "a", .int 1])) h1
    have g1 : GdV 200 1 K p (upd H3 t1 (HO.frz o1 (.tup [.str "a", .int 1]))) (.ref t1) := gd_tupF (.inl (.inr ⟨o1, upd_same⟩)) ⟨o1, _, upd_same, b1⟩ (.cons (.str _) (.cons (.int _) .nil)) (gmB_ok (by decide +kernel))
    have P4 := s4 _ _ P3
    generalize upd H3 t1 (HO.frz o1 (.tup [.str "a", .int 1])) = H4 at s4 g1 P4
    refine ⟨by show 1 ≤ sizeLine; decide, fun t2 o2 h2 b2 => ?_⟩
    have s5 := same_new (o := HO.frz o2 (.tup [.str "a"])) h2
    have g2 : GdV 200 1 K p (upd H4 t2 (HO.frz o2 (.tup [.str "a"]))) (.ref t2) := gd_tupF (.inl (.inr ⟨o2, upd_same⟩)) ⟨o2, _, upd_same, b2⟩ (.cons (.str _) .nil) (gmB_ok (by decide +kernel))
    have P5 := s5 _ _ P4
    have g1 := g1.keep s5
    generalize upd H4 t2 (HO.frz o2 (.tup [.str "a"])) = H5 at s5 g1 g2 P5
    refine ⟨by show 0 ≤ sizeLine; decide, fun t3 h3 n3 => ?_⟩
    have s6 := same_new (o := HO.lst []) h3
    have g3 : GdV 200 1 K p (upd H5 t3 (HO.lst [])) (.ref t3) := gd_lst upd_same n3 .nil (gmB_ok (by decide +kernel))
    have P6 := s6 _ _ P5
    have g1 := g1.keep s6
    have g2 := g2.keep s6
    generalize upd H5 t3 (HO.lst []) = H6 at s6 g1 g2 g3 P6
    refine fun t4 h4 => ?_
    have s7 := same_new (o := HO.dK []) h4
    have g4 : GdV 200 1 K p (upd H6 t4 (HO.dK [])) (.ref t4) := gd_dct (ne_of_none P6 h4).symm upd_same .nil (gmB_ok (by decide +kernel))
    have P7 := s7 _ _ P6
    have g1 := g1.keep s7
    have g2 := g2.keep s7
    have g3 := g3.keep s7
    generalize upd H6 t4 (HO.dK []) = H7 at s7 g1 g2 g3 g4 P7
    refine ⟨by show 13 ≤ sizeLine; decide, fun t5 h5 => ?_⟩
    have S7 := ((s4.trans s5).trans s6).trans s7
    have s8 := same_new (o := HO.lst [.str "", .str "A", .str "abcdefghi", .str "a b", .str "-a", .non, .int 0, .bl true, .int (10 ^ (59 : Int).toNat), .ref t1, .ref t2, .ref t3, .ref t4]) h5
    have GB : GdL 200 1 K p H7 [.str "", .str "A", .str "abcdefghi", .str "a b", .str "-a", .non, .int 0, .bl true, .int (10 ^ (59 : Int).toNat), .ref t1, .ref t2, .ref t3, .ref t4] :=
      .cons (gd_flat (.str _) (by decide +kernel) rfl) (.cons (gd_flat (.str _) (by decide +kernel) rfl) (.cons (gd_flat (.str _) (by decide +kernel) rfl) (.cons (gd_flat (.str _) (by decide +kernel) rfl) (.cons (gd_flat (.str _) (by decide +kernel) rfl)
        (.cons (gd_flat .non (by decide +kernel) rfl) (.cons (gd_flat (.int _) (by decide +kernel) rfl) (.cons (gd_flat (.bl _) (by decide +kernel) rfl) (.cons (gd_flat (.int _) (by decide +kernel) rfl) (.cons g1 (.cons g2 (.cons g3 (.cons g4 .nil))))))))))))
    have S8 := S7.trans s8
    refine ⟨p, c, _, .ref t5, _, rfl, G3.same S8, by omega, .lst (.inl (.inl upd_same)), by show 0 < 13; decide, by show 13 < 1073741824; decide, fun i bad H9 hv s9 G9 => ?_⟩
    have gb := (GB.keep s8).keepP s9 (G3.same S8) bad (List.mem_of_getElem? hv)
    have eL9 := s9.lst (G3.same S8) (S8 _ _ eL3)
    have gL9 := (gL3.keep S8).keepP s9 (G3.same S8)
    have SP9 : SameP p H H9 := ((SameP.of S2).trans s3).trans ((SameP.of S8).trans s9)
    clear GB g1 g2 g3 g4 s4 s5 s6 s7 s8 S7 P4 P5 P6 P7
    -- more
    refine ⟨abcm, rfl, fun D hD => ?_⟩
    refine lcN_str (x := abcm) (fun i H' => H' D = some (.lst ((yNs i).map V.str)) ∧ Same H9 H') ⟨upd_same, same_new hD⟩ (fun i c' H' hc hp => ⟨rfl, ?_⟩) (fun H' hp => ?_)
    · have lt : i < 13 := by
        have := (List.getElem?_eq_some_iff.mp hc).1
        rw [abcm_codes, List.length_map, List.length_range] at this
        exact this
      have ec : c' = 97 + i := by
        rw [abcm_codes, List.getElem?_map, List.getElem?_range lt] at hc
        exact (Option.some.inj hc).symm
      refine ⟨_, rfl, _, _, rfl, rfl, by show 2 ≤ sizeLine; decide, _, hp.1, Evl.sz_lt ?_, ?_, fun b u e => by rw [upd_ne (ne_of_none e hD)]; exact hp.2 b u e⟩
      · rw [List.length_map, yNs, List.length_map, List.length_range]
        omega
      · rw [upd_same, yNs_snoc, List.map_append, ec]
        rfl
    · obtain ⟨eD, s10⟩ := hp
      rw [show abcm.length = 13 from by decide +kernel] at eD
      refine ⟨D, _, rfl, .inl (.inl eD), fun M oM hM bM => ?_⟩
      have s11 := same_new (o := HO.frz oM (.tup ((yNs 13).map V.str))) hM
      have tM : SqT K (upd H' M (HO.frz oM (.tup ((yNs 13).map V.str)))) M ((yNs 13).map V.str) := .inl (.inr ⟨oM, upd_same⟩)
      have bM : BareT (upd H' M (HO.frz oM (.tup ((yNs 13).map V.str)))) M := ⟨oM, _, upd_same, bM⟩
      have S11 := s10.trans s11
      generalize upd H' M (HO.frz oM (.tup ((yNs 13).map V.str))) = H11 at s11 tM bM S11
      clear s10 s11 eD
      have ly : (yNs 13).length = 13 := by decide +kernel
      have gM : GdV 400 2 K p H11 (.ref M) := gd_tupF tM bM (da_strs _) ((gm_tup (gm_names yNs_ok) (w := 117) (by have := w_names yNs_ok; omega)).mono (by decide) (by decide))
      have eL11 := S11 _ _ eL9
      have gL11 := gL9.keep S11
      have gb11 := gb.keep S11
      -- with one changed
      refine ⟨_, rfl, _, rfl, _, rfl, _, rfl, L, NS.map V.str, rfl, .inl (.inl eL11), fun c1 hc1 => ?_⟩
      have s12 := same_new (o := HO.lst (cutV (NS.map V.str) none (some (at' : Int)))) hc1
      have e12 : (upd H11 c1 (HO.lst (cutV (NS.map V.str) none (some (at' : Int))))) c1 = _ := upd_same
      generalize upd H11 c1 (HO.lst (cutV (NS.map V.str) none (some (at' : Int)))) = H12 at s12 e12
      rw [cutV_to, ← List.map_take] at e12
      refine ⟨_, rfl, by show 1 ≤ sizeLine; decide, fun c2 hc2 => ?_⟩
      have s13 := same_new (o := HO.lst [bad]) hc2
      refine ⟨c1, c2, _, _, rfl, rfl, s13 _ _ e12, upd_same, by rw [List.length_map, List.length_take]; show _ + 1 ≤ _; omega, fun c3 hc3 => ?_⟩
      have s14 := same_new (o := HO.lst ((NS.take at').map V.str ++ [bad])) hc3
      have e14 : (upd (upd H12 c2 (HO.lst [bad])) c3 (HO.lst ((NS.take at').map V.str ++ [bad]))) c3 = _ := upd_same
      have S14 := (s12.trans s13).trans s14
      generalize upd (upd H12 c2 (HO.lst [bad])) c3 (HO.lst ((NS.take at').map V.str ++ [bad])) = H14 at s14 e14 S14
      clear s12 s13 s14 e12
      refine ⟨_, rfl, _, rfl, _, _, rfl, rfl, _, rfl, L, NS.map V.str, rfl, .inl (.inl (S14 _ _ eL11)), fun c4 hc4 => ?_⟩
      rw [show ((at' : Nat) : Int) + 1 = ((at' + 1 : Nat) : Int) from rfl, cutV_from, ← List.map_drop]
      have s15 := same_new (o := HO.lst ((NS.drop (at' + 1)).map V.str)) hc4
      have l14 : ((NS.take at').map V.str ++ [bad]).length ≤ 14 := by rw [List.length_append, List.length_map, List.length_take]; show _ + 1 ≤ _; omega
      have l15 : ((NS.drop (at' + 1)).map V.str).length ≤ 14 := by rw [List.length_map, List.length_drop]; omega
      refine ⟨c3, c4, _, _, rfl, rfl, s15 _ _ e14, upd_same, by omega, fun c5 hc5 => ?_⟩
      have s16 := same_new (o := HO.lst ((NS.take at').map V.str ++ [bad] ++ (NS.drop (at' + 1)).map V.str)) hc5
      refine ⟨c5, _, rfl, .inl (.inl upd_same), fun t6 o6 h6 b6 => ?_⟩
      have s17 := same_new (o := HO.frz o6 (.tup ((NS.take at').map V.str ++ [bad] ++ (NS.drop (at' + 1)).map V.str))) h6
      have S17 := ((S14.trans s15).trans s16).trans s17
      obtain ⟨db, Db, Gb, _⟩ := gb11
      have g6 : GdV 400 2 K p (upd (upd (upd H14 c4 (HO.lst ((NS.drop (at' + 1)).map V.str))) c5 (HO.lst ((NS.take at').map V.str ++ [bad] ++ (NS.drop (at' + 1)).map V.str))) t6 (HO.frz o6 (.tup ((NS.take at').map V.str ++ [bad] ++ (NS.drop (at' + 1)).map V.str)))) (.ref t6) := by
        refine gd_tupF (ds := (NS.take at').map .str ++ [db] ++ (NS.drop (at' + 1)).map .str) (.inl (.inr ⟨o6, upd_same⟩)) ⟨o6, _, upd_same, b6⟩ (((da_strs _).append (.cons (da_keep S17.keepA Db) .nil)).append (da_strs _)) ((gm_tup (w := 400) (n := 1) (fun d hd => ?_) ?_).mono (Nat.le_refl _) (Nat.le_refl _))
        · rcases List.mem_append.mp hd with hd | hd
          · rcases List.mem_append.mp hd with hd | hd
            · obtain ⟨w', g⟩ := gm_names (fun x hx => nmS x (List.mem_of_mem_take hx)) d hd
              exact ⟨w', g.mono (Nat.le_refl _) (by decide)⟩
            · rw [List.mem_singleton.mp hd]
              exact ⟨200, Gb⟩
          · obtain ⟨w', g⟩ := gm_names (fun x hx => nmS x (List.mem_of_mem_drop hx)) d hd
            exact ⟨w', g.mono (Nat.le_refl _) (by decide)⟩
        · have w1 := w_names (ns := NS.take at') fun x hx => nmS x (List.mem_of_mem_take hx)
          have w2 := w_names (ns := NS.drop (at' + 1)) fun x hx => nmS x (List.mem_of_mem_drop hx)
          have w3 := Gb.wt
          rw [wAll_append, wAll_append]
          rw [List.length_take] at w1
          rw [List.length_drop] at w2
          have w4 : PyData.weightAll [db] = db.weight + 1 := by simp only [PyData.weightAll]
          omega
      generalize upd (upd (upd H14 c4 (HO.lst ((NS.drop (at' + 1)).map V.str))) c5 (HO.lst ((NS.take at').map V.str ++ [bad] ++ (NS.drop (at' + 1)).map V.str))) t6 (HO.frz o6 (.tup ((NS.take at').map V.str ++ [bad] ++ (NS.drop (at' + 1)).map V.str))) = H17 at S17 g6
      have gb11 : GdV 200 1 K p H17 bad := ⟨db, da_keep S17.keepA Db, Gb, ‹BareV H11 bad db›.keep S17⟩
      clear s15 s16 s17 e14 l14 l15 S14
      have eL17 := S17 _ _ eL11
      -- with one twice
      refine ⟨_, rfl, _, rfl, _, rfl, _, rfl, _, rfl, _, _, rfl, rfl, _, rfl, L, NS.map V.str, rfl, .inl (.inl eL17), fun c6 hc6 => ?_⟩
      rw [show ((at' : Nat) : Int) + 1 = ((at' + 1 : Nat) : Int) from rfl, cutV_mid, mid_map]
      have lm : (midX NS at' (at' + 1)).length ≤ 1 := by unfold midX; rw [List.length_drop, List.length_take]; omega
      have mm : ∀ x ∈ midX NS at' (at' + 1), NameOk x := fun x hx => nmS x (by unfold midX at hx; exact List.mem_of_mem_take (List.mem_of_mem_drop hx))
      have s18 := same_new (o := HO.lst ((midX NS at' (at' + 1)).map V.str)) hc6
      refine ⟨L, c6, _, _, rfl, rfl, s18 _ _ eL17, upd_same, by rw [List.length_map, List.length_map]; omega, fun c7 hc7 => ?_⟩
      rw [← List.map_append]
      have s19 := same_new (o := HO.lst ((NS ++ midX NS at' (at' + 1)).map V.str)) hc7
      refine ⟨c7, _, rfl, .inl (.inl upd_same), fun t7 o7 h7 b7 => ?_⟩
      have s20 := same_new (o := HO.frz o7 (.tup ((NS ++ midX NS at' (at' + 1)).map V.str))) h7
      have S20 := (s18.trans s19).trans s20
      have nm7 : ∀ x ∈ NS ++ midX NS at' (at' + 1), NameOk x := fun x hx => (List.mem_append.mp hx).elim (nmS x) (mm x)
      have g7 : GdV 400 2 K p (upd (upd (upd H17 c6 (HO.lst ((midX NS at' (at' + 1)).map V.str))) c7 (HO.lst ((NS ++ midX NS at' (at' + 1)).map V.str))) t7 (HO.frz o7 (.tup ((NS ++ midX NS at' (at' + 1)).map V.str)))) (.ref t7) :=
        gd_tupF (.inl (.inr ⟨o7, upd_same⟩)) ⟨o7, _, upd_same, b7⟩ (da_strs _) ((gm_tup (gm_names nm7) (w := 400) (by have := w_names nm7; rw [List.length_append] at this; omega)).mono (by decide) (by decide))
      generalize upd (upd (upd H17 c6 (HO.lst ((midX NS at' (at' + 1)).map V.str))) c7 (HO.lst ((NS ++ midX NS at' (at' + 1)).map V.str))) t7 (HO.frz o7 (.tup ((NS ++ midX NS at' (at' + 1)).map V.str))) = H20 at S20 g7
      clear s18 s19 s20
      -- many
      refine ⟨_, rfl, _, rfl, _, rfl, sl_toF ((S17.trans S20).keeps.t _ _ tM) (bM.keep (S17.trans S20)) fun t8 H21 s21 tt8 bb8 => ?_⟩
      rw [show (12 : Int) = ((12 : Nat) : Int) from rfl, cutV_to, ← List.map_take] at tt8
      have nm8 : ∀ x ∈ (yNs 13).take 12, NameOk x := fun x hx => yNs_ok x (List.mem_of_mem_take hx)
      have g8 : GdV 400 2 K p H21 (.ref t8) := gd_tupF tt8 bb8 (da_strs _) ((gm_tup (gm_names nm8) (w := 400) (by have := w_names nm8; rw [List.length_take] at this; omega)).mono (by decide) (by decide))
      refine ⟨by show 5 ≤ sizeLine; decide, fun q1 hq1 => ?_⟩
      have s22 := same_new (o := HO.lst [.ref L, .ref t6, .ref t7, .ref M, .ref t8]) hq1
      have S22 := (S20.trans s21).trans s22
      have GA : GdL 400 2 K p (upd H21 q1 (HO.lst [.ref L, .ref t6, .ref t7, .ref M, .ref t8])) [.ref L, .ref t6, .ref t7, .ref M, .ref t8] :=
        .cons ((gL11.keep S17).keep S22) (.cons (g6.keep S22) (.cons ((g7.keep s21).keep s22) (.cons ((gM.keep S17).keep S22) (.cons (g8.keep s22) .nil))))
      have eq1 : (upd H21 q1 (HO.lst [.ref L, .ref t6, .ref t7, .ref M, .ref t8])) q1 = _ := upd_same
      have eL22 := S22 _ _ eL17
      have gL22 := (gL11.keep S17).keep S22
      have gb22 := gb11.keep S22
      have T22 : Same H9 (upd H21 q1 (HO.lst [.ref L, .ref t6, .ref t7, .ref M, .ref t8])) := (S11.trans S17).trans S22
      generalize upd H21 q1 (HO.lst [.ref L, .ref t6, .ref t7, .ref M, .ref t8]) = H22 at s22 S22 GA eq1 eL22 gL22 gb22 T22
      clear s21 s22 g6 g7 g8 gM S11 S17 S20 S22 tt8 bb8
      -- more options
      refine ⟨_, rfl, by show 0 ≤ sizeLine; decide, fun u1 p1 k1 r1 => ?_⟩
      obtain ⟨z, hz⟩ : ∃ z, NS[at']? = some z := ⟨_, List.getElem?_eq_getElem hat⟩
      have hzV : (NS.map V.str)[at']? = some (.str z) := by rw [List.getElem?_map, hz]; rfl
      have okz' : NameOk z := nmS z (List.mem_of_getElem? hz)
      have s23 := same_new (o := HO.frz p1 (.tup [])) k1
      have h1 : GdV 400 2 K p (upd H22 u1 (HO.frz p1 (.tup []))) (.ref u1) := gd_tupF (.inl (.inr ⟨p1, upd_same⟩)) ⟨p1, _, upd_same, r1⟩ .nil (gmB_ok (by decide +kernel))
      generalize upd H22 u1 (HO.frz p1 (.tup [])) = H23 at s23 h1
      refine ⟨by show 0 ≤ sizeLine; decide, fun u2 k2 n2 => ?_⟩
      have s24 := same_new (o := HO.lst []) k2
      have h2 : GdV 400 2 K p (upd H23 u2 (HO.lst [])) (.ref u2) := gd_lst upd_same n2 .nil (gmB_ok (by decide +kernel))
      have h1 := h1.keep s24
      have S24 := s23.trans s24
      obtain ⟨⟨_, _, _, P9, _⟩⟩ := id G9
      have PP := (T22.trans S24) _ _ P9
      generalize upd H23 u2 (HO.lst []) = H24 at s24 h1 h2 S24 PP
      refine fun u3 k3 => ?_
      have s25 := same_new (o := HO.dK []) k3
      have h3 : GdV 400 2 K p (upd H24 u3 (HO.dK [])) (.ref u3) := gd_dct (ne_of_none PP k3).symm upd_same .nil (gmB_ok (by decide +kernel))
      have h1 := h1.keep s25
      have h2 := h2.keep s25
      have S25 := S24.trans s25
      generalize upd H24 u3 (HO.dK []) = H25 at s25 h1 h2 h3 S25
      refine ⟨_, rfl, _, rfl, L, NS.map V.str, _, .str z, rfl, rfl, .inl (.inl (S25 _ _ eL22)), atI_nat hzV, by show 1 ≤ sizeLine; decide, fun u4 p4 k4 r4 => ?_⟩
      have s26 := same_new (o := HO.frz p4 (.tup [.str z])) k4
      have gz1 : Gm 400 2 (.tuple [.str z]) := (gm_tup (n := 0) (w := 400) (fun d hd => ⟨8, by rw [List.mem_singleton.mp hd]; exact gm_name okz'⟩) (by have := (gm_name okz').wt; simp only [PyData.weightAll]; omega)).mono (by decide) (by decide)
      have h4 : GdV 400 2 K p (upd H25 u4 (HO.frz p4 (.tup [.str z]))) (.ref u4) := gd_tupF (.inl (.inr ⟨p4, upd_same⟩)) ⟨p4, _, upd_same, r4⟩ (.cons (.str _) .nil) gz1
      have h1 := h1.keep s26
      have h2 := h2.keep s26
      have h3 := h3.keep s26
      have S26 := S25.trans s26
      generalize upd H25 u4 (HO.frz p4 (.tup [.str z])) = H26 at s26 h1 h2 h3 h4 S26
      refine ⟨_, rfl, _, rfl, L, NS.map V.str, _, .str z, rfl, rfl, .inl (.inl (S26 _ _ eL22)), atI_nat hzV, by show 2 ≤ sizeLine; decide, fun u5 p5 k5 r5 => ?_⟩
      have s27 := same_new (o := HO.frz p5 (.tup [.str z, .int 1])) k5
      have f5 : SqT K (upd H26 u5 (HO.frz p5 (.tup [.str z, .int 1]))) u5 [.str z, .int 1] := .inl (.inr ⟨p5, upd_same⟩)
      have h1 := h1.keep s27
      have h2 := h2.keep s27
      have h3 := h3.keep s27
      have h4 := h4.keep s27
      have S27 := S26.trans s27
      generalize upd H26 u5 (HO.frz p5 (.tup [.str z, .int 1])) = H27 at s27 h1 h2 h3 h4 f5 S27
      refine ⟨by show 1 ≤ sizeLine; decide, fun u6 p6 k6 r6 => ?_⟩
      have s28 := same_new (o := HO.frz p6 (.tup [.ref u5])) k6
      have gz0 : Gm 20 1 (.tuple [.str z, .int 1]) := (gm_tup (n := 0) (w := 20) (fun d hd => by
        simp only [List.mem_cons, List.not_mem_nil, or_false] at hd
        rcases hd with rfl | rfl
        · exact ⟨8, gm_name okz'⟩
        · exact ⟨8, gmB_ok (by decide +kernel)⟩) (by
          have h8 := (gm_name okz').wt
          have e1 : (PyData.int 1).weight = 1 := by decide +kernel
          have e2 : PyData.weightAll [PyData.str z, PyData.int 1] = (PyData.str z).weight + 1 + ((PyData.int 1).weight + 1 + 0) := by simp only [PyData.weightAll]
          omega))
      have gz2 : Gm 400 2 (.tuple [.tuple [.str z, .int 1]]) := gm_tup (n := 1) (w := 400) (fun d hd => ⟨20, by rw [List.mem_singleton.mp hd]; exact gz0⟩) (by have := gz0.wt; simp only [PyData.weightAll] at this ⊢; omega)
      have h6 : GdV 400 2 K p (upd H27 u6 (HO.frz p6 (.tup [.ref u5]))) (.ref u6) := gd_tupF (.inl (.inr ⟨p6, upd_same⟩)) ⟨p6, _, upd_same, r6⟩ (.cons (.tup (s28.keeps.t _ _ f5) (.cons (.str _) (.cons (.int _) .nil))) .nil) gz2
      have h1 := h1.keep s28
      have h2 := h2.keep s28
      have h3 := h3.keep s28
      have h4 := h4.keep s28
      have S28 := S27.trans s28
      generalize upd H27 u6 (HO.frz p6 (.tup [.ref u5])) = H28 at s28 h1 h2 h3 h4 h6 S28
      refine ⟨_, rfl, _, rfl, L, _, rfl, .inl (.inl (S28 _ _ eL22)), fun u7 p7 k7 r7 => ?_⟩
      have s29 := same_new (o := HO.frz p7 (.tup (NS.map V.str))) k7
      have h7 : GdV 400 2 K p (upd H28 u7 (HO.frz p7 (.tup (NS.map V.str)))) (.ref u7) := gd_tupF (.inl (.inr ⟨p7, upd_same⟩)) ⟨p7, _, upd_same, r7⟩ (da_strs _) ((gm_tup (gm_names nmS) (w := 400) (by have := w_names nmS; omega)).mono (by decide) (by decide))
      have h1 := h1.keep s29
      have h2 := h2.keep s29
      have h3 := h3.keep s29
      have h4 := h4.keep s29
      have h6 := h6.keep s29
      have S29 := S28.trans s29
      generalize upd H28 u7 (HO.frz p7 (.tup (NS.map V.str))) = H29 at s29 h1 h2 h3 h4 h6 h7 S29
      refine ⟨by show 11 ≤ sizeLine; decide, fun q2 hq2 => ?_⟩
      have s30 := same_new (o := HO.lst [.non, .str "", .str "a", .int 0, .ref u1, .ref u2, .ref u3, .ref u4, .ref u6, bad, .ref u7]) hq2
      have GC : GdL 400 2 K p H29 [.non, .str "", .str "a", .int 0, .ref u1, .ref u2, .ref u3, .ref u4, .ref u6, bad, .ref u7] :=
        .cons (gd_flat .non (by decide +kernel) rfl) (.cons (gd_flat (.str _) (by decide +kernel) rfl) (.cons (gd_flat (.str _) (by decide +kernel) rfl) (.cons (gd_flat (.int _) (by decide +kernel) rfl) (.cons h1 (.cons h2 (.cons h3 (.cons h4 (.cons h6 (.cons ((gb22.keep S29).mono (by decide) (by decide)) (.cons h7 .nil))))))))))
      have S30 := S29.trans s30
      refine ⟨q1, q2, _, _, rfl, rfl, S30 _ _ eq1, upd_same, by show 5 + 11 ≤ sizeLine; decide, fun q3 hq3 => ?_⟩
      have s31 := same_new (o := HO.lst ([.ref L, .ref t6, .ref t7, .ref M, .ref t8] ++ [.non, .str "", .str "a", .int 0, .ref u1, .ref u2, .ref u3, .ref u4, .ref u6, bad, .ref u7])) hq3
      have GD := ((GA.keep S29).app GC).keep (s30.trans s31)
      have S31 := S30.trans s31
      have eq3 : (upd (upd H29 q2 (HO.lst [.non, .str "", .str "a", .int 0, .ref u1, .ref u2, .ref u3, .ref u4, .ref u6, bad, .ref u7])) q3 (HO.lst ([.ref L, .ref t6, .ref t7, .ref M, .ref t8] ++ [.non, .str "", .str "a", .int 0, .ref u1, .ref u2, .ref u3, .ref u4, .ref u6, bad, .ref u7]))) q3 = _ := upd_same
      generalize upd (upd H29 q2 (HO.lst [.non, .str "", .str "a", .int 0, .ref u1, .ref u2, .ref u3, .ref u4, .ref u6, bad, .ref u7])) q3 (HO.lst ([.ref L, .ref t6, .ref t7, .ref M, .ref t8] ++ [.non, .str "", .str "a", .int 0, .ref u1, .ref u2, .ref u3, .ref u4, .ref u6, bad, .ref u7])) = H31 at s31 GD S31 eq3
      have lq : ([.ref L, .ref t6, .ref t7, .ref M, .ref t8] ++ [.non, .str "", .str "a", .int 0, .ref u1, .ref u2, .ref u3, .ref u4, .ref u6, bad, .ref u7] : List V).length = 16 := rfl
      generalize ([.ref L, .ref t6, .ref t7, .ref M, .ref t8] ++ [.non, .str "", .str "a", .int 0, .ref u1, .ref u2, .ref u3, .ref u4, .ref u6, bad, .ref u7] : List V) = opts at GD eq3 lq
      clear h1 h2 h3 h4 h6 h7 GC s30 s31 S24 S25 S26 S27 S28
      have eL31 := S31 _ _ eL22
      have T31 := T22.trans S31
      have P31 := T31 _ _ P9
      -- the last one
      refine ⟨_, rfl, _, rfl, fun dd hdd => ?_⟩
      have s32 := same_new (o := HO.dK []) hdd
      refine ⟨_, rfl, _, rfl, L, NS.map V.str, _, .str z, rfl, rfl, .inl (.inl (s32 _ _ eL31)), atI_nat hzV, upd_same, [(Sum.inr z, .int 1)], rfl, by show 1 ≤ 15; decide, ?_⟩
      rw [merge_1]
      have dp : dd ≠ p := (ne_of_none P31 hdd).symm
      have s33 : Same H31 (upd (upd H31 dd (HO.dK [])) dd (HO.dK [(Sum.inr z, .int 1)])) := fun b u e => by
        have nb := ne_of_none e hdd
        rw [upd_ne nb, upd_ne nb]
        exact e
      have gz3 : Gm 400 2 (.dict [(.str z, .int 1)]) := by
        have a1 := gm_name okz'
        have a2 : Gm 8 0 (.int 1) := gmB_ok (by decide +kernel)
        have h8 := a1.wt
        have h9 := a2.wt
        have h10 := a1.dp
        have h11 := a2.dp
        refine ⟨?_, ?_, ?_, ?_⟩
        · show (PyData.showable (.str z) && PyData.showable (.int 1) && true) = true
          rw [a1.sh, a2.sh]
          rfl
        · show (PyData.leavesShort 70 (.str z) && PyData.leavesShort 70 (.int 1) && true) = true
          rw [a1.ls, a2.ls]
          rfl
        · have e : (PyData.dict [(.str z, .int 1)]).weight = (PyData.str z).weight + (PyData.int 1).weight + 2 + 0 := by simp only [PyData.weight, PyData.weightKv]
          omega
        · have e : (PyData.dict [(.str z, .int 1)]).depth = max (max (PyData.str z).depth (PyData.int 1).depth) 0 + 1 := by simp only [PyData.depth, PyData.depthKv]
          omega
      have hd : GdV 400 2 K p (upd (upd H31 dd (HO.dK [])) dd (HO.dK [(Sum.inr z, .int 1)])) (.ref dd) := gd_dct dp upd_same (.cons (.int 1) .nil) gz3
      have eq4 := s33 _ _ eq3
      have GE := GD.keep s33
      have T33 := T31.trans s33
      generalize upd (upd H31 dd (HO.dK [])) dd (HO.dK [(Sum.inr z, .int 1)]) = H33 at s33 hd eq4 GE T33
      refine ⟨by show 1 ≤ sizeLine; decide, fun q4 hq4 => ?_⟩
      have s34 := same_new (o := HO.lst [.ref dd]) hq4
      refine ⟨q3, q4, opts, [.ref dd], rfl, rfl, s34 _ _ eq4, upd_same, by rw [lq]; show 16 + 1 ≤ sizeLine; decide, fun q5 hq5 => ?_⟩
      have s35 := same_new (o := HO.lst (opts ++ [.ref dd])) hq5
      have T35 := (T33.trans s34).trans s35
      have GF := (GE.app (.cons hd .nil)).keep (s34.trans s35)
      have lo : (opts ++ [V.ref dd]).length = 17 := by rw [List.length_append, lq]; rfl
      refine ⟨p, c, _, .ref q5, opts ++ [.ref dd], rfl, G9.same T35, by omega, .lst (.inl (.inl upd_same)), by rw [lo]; decide, by rw [lo]; decide, fun i v H36 hv s36 G36 => ?_⟩
      exact q v H36 (GF.keepP s36 (G9.same T35) v (List.mem_of_getElem? hv)) (SP9.trans ((SameP.of T35).trans s36)) (G36.mono (by omega))
end
end My
set_option Elab.async false
set_option linter.all false
set_option maxRecDepth 100000
set_option maxHeartbeats 4000000
/-! _law_swaps -/
namespace My
open PySem PySem.Spec PyProof.Rows L2
/-- an exchange, as a tuple -/
def IsQ (K : PySem.W.Frag) (H : Hp) (n : Nat) (z : V) : Prop := ∃ (t : Addr) (i j k l : Nat), z = .ref t ∧ SqT K H t [.int (i : Int), .int (j : Int), .int (k : Int), .int (l : Int)] ∧ ExOk n i j k l
theorem IsQ.keep {K : PySem.W.Frag} {H H' : Hp} {n : Nat} {z : V} (h : IsQ K H n z) (s : KeepsT K H H') : IsQ K H' n z := let ⟨t, i, j, k, l, e, a, b⟩ := h; ⟨t, i, j, k, l, e, s _ _ a, b⟩
theorem isq_of {K : PySem.W.Frag} {H : Hp} {n a b c d : Nat} {t : Addr} {x1 x2 x3 x4 : Int} (h : SqT K H t [.int x1, .int x2, .int x3, .int x4]) (e1 : x1 = a) (e2 : x2 = b) (e3 : x3 = c) (e4 : x4 = d) (ok : ExOk n a b c d) : IsQ K H n (.ref t) := by
  subst e1 e2 e3 e4
  exact ⟨t, a, b, c, d, rfl, h, ok⟩
/-- the list so far -/
structure SwAt (K : PySem.W.Frag) (H0 : Hp) (p : Addr) (many n : Nat) (H : Hp) : Prop where
  ex : ∃ xs, H p = some (.lst xs) ∧ (∀ z ∈ xs, IsQ K H many z) ∧ xs.length ≤ n
  sm : Same H0 H
theorem SwAt.mono {K : PySem.W.Frag} {H0 H : Hp} {p : Addr} {many n m : Nat} (h : SwAt K H0 p many n H) (k : n ≤ m) : SwAt K H0 p many m H := let ⟨⟨xs, a, b, c⟩, d⟩ := h; ⟨⟨xs, a, b, by omega⟩, d⟩
/-- what was tracked stays, but the list at p -/
theorem same_lst {H0 H : Hp} {p : Addr} {o : HO} (n : H0 p = none) (s : Same H0 H) : Same H0 (upd H p o) := fun b u e => by rw [upd_ne (ne_of_none e n)]; exact s b u e
section
variable {P : Program} {w : World} {K : PySem.W.Frag} {mg : Str → Option Value} {base : Heap}
def spLSw (K : PySem.W.Frag) : Sp := fun vs H Q _ => ∃ (many : Nat), vs = [.int (many : Int)] ∧ many ≤ 12 ∧
  ∀ (p : Addr) (xs : List V) (H' : Hp), H p = none → H' p = some (.lst xs) → (∀ z ∈ xs, IsQ K H' many z) → xs.length ≤ 30000 → Same H H' → Q (.ref p) H'
theorem ok_lsw {f : Addr} {fd : FuncData} (F : Fun K "_law_swaps" "_law_swaps" sLSwaps f fd) (mr : mg "range" = none) : FnOk P w K mg base CX0 1 f fd ["many"] (spLSw K) := by
  refine F.ok scLSwaps (fun vs H Q E h => ?_) (fun cdv A outer s H vs Q E hr h => ?_)
  · obtain ⟨many, rfl, _⟩ := h
    rfl
  · obtain ⟨many, rfl, hm, q⟩ := h
    refine ⟨_, pss_cons (ps_set (i := 1) scLSwaps.nd rfl (.inl rfl) (pe_lst pa_nil))
      (pss_cons (ps_for PassesOwn.never rfl (pi_range1 (by rfl) mr (pa_cons (pv 0) pa_nil)) (pg_name (i := 2) scLSwaps.nd rfl (.inr rfl))
        (pss_one (ps_for PassesOwn.never rfl (pi_range2 (by rfl) mr (pa_cons (pe_op op_add (pv 2) pe_int) (pa_cons (pv 0) pa_nil))) (pg_name (i := 3) scLSwaps.nd rfl (.inr rfl))
          (pss_one (ps_for PassesOwn.never rfl (pi_range2 (by rfl) mr (pa_cons (pv 3) (pa_cons (pv 0) pa_nil))) (pg_name (i := 4) scLSwaps.nd rfl (.inr rfl))
            (pss_one (ps_expr (pe_bm PySem.F.plainAttrs_list PySem.F.slot_list_extend PySem.F.type_list_extend mt_extend (pv 1) (pa_cons
              (pe_lc (own := [("end", 5)]) (g := gName 5) (tt := tYes) rfl scLSwaps.nd (pi_range2 (by rfl) mr (pa_cons (pe_op op_add (pv 4) pe_int) (pa_cons (pe_op op_add (pv 0) pe_int) pa_nil)))
                (blkOk_by (own := [("end", 5)]) (N := ["many", "found", "first", "behind", "second", "end"]) (sc := defScope sLSwaps) (by decide +kernel)) (fun _ _ _ _ _ => pg_name (i := 5) scLSwaps.nd rfl (Or.inl rfl)) (fun _ _ _ _ _ => pts_nil)
                (fun _ _ _ _ _ => pe_tup (pa_cons (pv 2) (pa_cons (pv 3) (pa_cons (pv 4) (pa_cons (pv 5) pa_nil)))))) pa_nil)))))))))
      (pss_one (ps_ret (pv 1)))), ?_⟩
    have mt : ((many : Int)).toNat = many := Int.toNat_natCast many
    refine ⟨by show 0 ≤ sizeLine; decide, fun p np => ?_⟩
    refine ⟨_, rfl, (many : Int), rfl, by omega, by omega, ?_⟩
    refine for_range (lo := 0) (n := ((many : Int)).toNat) (fun i σ H' => ∃ y2 y3 y4 y5, σ = [some (.int (many : Int)), some (.ref p), y2, y3, y4, y5] ∧ SwAt K H p many (i * 2197) H') ⟨_, _, _, _, rfl, ⟨[], upd_same, fun z hz => absurd hz List.not_mem_nil, Nat.le_refl _⟩, same_new np⟩ (fun i σ H1 hi hp => ?_) (fun σ H1 hp => ?_)
    · obtain ⟨y2, y3, y4, y5, rfl, G1⟩ := hp
      refine ⟨_, rfl, _, _, rfl, rfl, _, rfl, (0 + (i : Int) + 1), (many : Int), rfl, ⟨by omega, by omega, by omega, by omega⟩, ?_⟩
      refine for_range (lo := 0 + (i : Int) + 1) (n := ((many : Int) - (0 + (i : Int) + 1)).toNat) (fun j σ H' => ∃ y3 y4 y5, σ = [some (.int (many : Int)), some (.ref p), some (.int (0 + (i : Int))), y3, y4, y5] ∧ SwAt K H p many (i * 2197 + j * 169) H') ⟨_, _, _, rfl, G1.mono (by omega)⟩ (fun j σ H2 hj hp => ?_) (fun σ H2 hp => ?_)
      · obtain ⟨y3, y4, y5, rfl, G2⟩ := hp
        refine ⟨_, rfl, _, rfl, (0 + (i : Int) + 1 + (j : Int)), (many : Int), rfl, ⟨by omega, by omega, by omega, by omega⟩, ?_⟩
        refine for_range (lo := 0 + (i : Int) + 1 + (j : Int)) (n := ((many : Int) - (0 + (i : Int) + 1 + (j : Int))).toNat) (fun k σ H' => ∃ y4 y5, σ = [some (.int (many : Int)), some (.ref p), some (.int (0 + (i : Int))), some (.int (0 + (i : Int) + 1 + (j : Int))), y4, y5] ∧ SwAt K H p many (i * 2197 + j * 169 + k * 13) H') ⟨_, _, rfl, G2.mono (by omega)⟩ (fun k σ H3 hk hp => ?_) (fun σ H3 hp => ?_)
        · obtain ⟨y4, y5, rfl, ⟨xs, hp, isq, len⟩, sm⟩ := hp
          refine ⟨_, rfl, .inl ⟨rfl, _, .inl (.inl hp)⟩, ?_⟩
          refine ⟨_, rfl, _, _, rfl, rfl, _, rfl, _, _, rfl, rfl, (0 + (i : Int) + 1 + (j : Int) + (k : Int) + 1), (many : Int) + 1, rfl, ⟨by omega, by omega, by omega, by omega⟩, fun D hD => ?_⟩
          have nD : p ≠ D := ne_of_none hp hD
          refine lcN_range (lo := 0 + (i : Int) + 1 + (j : Int) + (k : Int) + 1) (n := ((many : Int) + 1 - (0 + (i : Int) + 1 + (j : Int) + (k : Int) + 1)).toNat) (fun l H' => ∃ ys, H' D = some (.lst ys) ∧ (∀ z ∈ ys, IsQ K H' many z) ∧ ys.length = l ∧ Same H3 H') ⟨[], upd_same, fun z hz => absurd hz List.not_mem_nil, rfl, same_new hD⟩ (fun l H4 hl hq => ?_) (fun H4 hq => ?_)
          · obtain ⟨ys, eD, iq, ly, s4⟩ := hq
            refine ⟨rfl, ?_⟩
            refine ⟨_, rfl, _, rfl, _, rfl, _, rfl, by show 4 ≤ sizeLine; decide, fun t ht => ?_⟩
            have st := same_new (o := HO.tup [.int (0 + (i : Int)), .int (0 + (i : Int) + 1 + (j : Int)), .int (0 + (i : Int) + 1 + (j : Int) + (k : Int)), .int (0 + (i : Int) + 1 + (j : Int) + (k : Int) + 1 + (l : Int))]) ht
            have eD' := st _ _ eD
            refine ⟨ys, eD', Evl.sz_lt (by omega), ys ++ [.ref t], upd_same, fun z hz => ?_, by rw [List.length_append, ly]; rfl, same_lst hD (s4.trans st)⟩
            have kp : KeepsT K (upd H4 t (HO.tup [.int (0 + (i : Int)), .int (0 + (i : Int) + 1 + (j : Int)), .int (0 + (i : Int) + 1 + (j : Int) + (k : Int)), .int (0 + (i : Int) + 1 + (j : Int) + (k : Int) + 1 + (l : Int))])) _ := KeepsT.lst eD' (o := .lst (ys ++ [.ref t]))
            rcases List.mem_append.mp hz with hz | hz
            · exact ((iq z hz).keep st.keepsT).keep kp
            · rw [List.mem_singleton.mp hz]
              exact (isq_of (a := i) (b := i + 1 + j) (c := i + 1 + j + k) (d := i + 1 + j + k + 1 + l) (.inl (.inl upd_same)) (by omega) (by omega) (by omega) (by omega) ⟨by omega, by omega, by omega, by omega⟩).keep kp
          · obtain ⟨ys, eD, iq, ly, s4⟩ := hq
            refine ⟨p, D, xs, ys, rfl, rfl, s4 _ _ hp, eD, Evl.sz_of (by omega), _, _, rfl, ⟨xs ++ ys, upd_same, fun z hz => ?_, by rw [List.length_append]; omega⟩, same_lst np (sm.trans s4)⟩
            have kp := KeepsT.lst (K := K) (s4 _ _ hp) (o := .lst (xs ++ ys))
            rcases List.mem_append.mp hz with hz | hz
            · exact ((isq z hz).keep s4.keepsT).keep kp
            · exact (iq z hz).keep kp
        · obtain ⟨y4, y5, rfl, G3⟩ := hp
          exact ⟨_, _, _, rfl, G3.mono (by omega)⟩
      · obtain ⟨y3, y4, y5, rfl, G2⟩ := hp
        exact ⟨_, _, _, _, rfl, G2.mono (by omega)⟩
    · obtain ⟨y2, y3, y4, y5, rfl, ⟨xs, hp, isq, len⟩, sm⟩ := hp
      exact ⟨_, rfl, q p xs H1 np hp isq (by omega) sm⟩
end
end My
set_option Elab.async false
set_option linter.all false
set_option maxRecDepth 100000
set_option maxHeartbeats 4000000
/-! t[::-1] of a tuple -/
namespace My
open PySem PySem.Spec PyProof.Rows L2 HT
section
variable {prog : Program} {w : World} {A : Around} {E : Value → Shared → Prop} {s : Shared}
theorem adj_rev (n : Nat) : Builtin.Slice.sliceAdjust none none (-1) (n : Int) = ((n : Int) - 1, -1) := rfl
theorem places_rev (n : Nat) : Builtin.Slice.slicePlaces ((n : Int) - 1) (-1) (-1) = n := by
  unfold Builtin.Slice.slicePlaces
  rw [if_neg (by decide)]
  split
  · rw [show (-(-1) : Int) = 1 by decide, Int.ediv_one]
    omega
  · omega
theorem fm_map {α β : Type} (f : α → Option β) (g : α → β) : ∀ l : List α, (∀ a ∈ l, f a = some (g a)) → l.filterMap f = l.map g
  | [], _ => rfl
  | a :: r, h => by rw [List.filterMap_cons_some (h a List.mem_cons_self), List.map_cons, fm_map f g r fun b hb => h b (List.mem_cons_of_mem _ hb)]
theorem pick_rev (xs : Array Value) : ((List.range xs.size).filterMap fun (m : Nat) => xs[((xs.size : Int) - 1 + (m : Int) * (-1)).toNat]?).toArray = xs.toList.reverse.toArray := by
  congr 1
  apply List.ext_getElem?
  intro j
  have hl : ((List.range xs.size).filterMap fun (m : Nat) => xs[((xs.size : Int) - 1 + (m : Int) * (-1)).toNat]?) = (List.range xs.size).map fun m => xs.toList.getD (xs.size - 1 - m) .none := by
    refine fm_map _ _ _ fun m hm => ?_
    have hm := List.mem_range.mp hm
    have e : ((xs.size : Int) - 1 + (m : Int) * (-1)).toNat = xs.size - 1 - m := by omega
    rw [e, Array.getElem?_eq_getElem (by omega)]
    simp [List.getD_eq_getElem?_getD, Array.getElem?_toList, Array.getElem?_eq_getElem (show xs.size - 1 - m < xs.size by omega)]
  rw [hl]
  by_cases hj : j < xs.size
  · rw [List.getElem?_map, List.getElem?_range hj, List.getElem?_reverse (by simpa using hj), Option.map_some, List.getD_eq_getElem?_getD, List.getElem?_eq_getElem (by simp; omega)]
    simp only [Option.getD_some]
    rw [List.getElem?_eq_getElem (by simp; omega)]
    congr 1
  · rw [List.getElem?_eq_none (by simp; omega), List.getElem?_eq_none (by simp; omega)]
theorem applied_rev {sl : Addr} {vl vu vs : Value} {n : Nat} {Q : Int × Int × Nat → Shared → Prop} (hs : s.heap.IsSliceOf sl vl vu vs) (pl : IsPart vl none) (pu : IsPart vu none) (ps : IsPart vs (some (-1))) (h : Q ((n : Int) - 1, -1, n) s) :
    wpAny (model prog w) A (Builtin.Slice.sliceApplied (.ref sl) (pure (n : Int))) Q E s := by
  obtain ⟨os, hos, hcs, hds⟩ := id hs
  unfold Builtin.Slice.sliceApplied Builtin.Slice.sliceFields
  refine wpAny_bind (wpAny_bind (wpAny_field hos hds (x := vl) rfl (wpAny_bind (wpAny_field hos hds (x := vu) rfl (wpAny_bind (wpAny_field hos hds (x := vs) rfl (wpAny_pure ?_)))))))
  refine wpAny_bind (slicePart_ ps ?_)
  show wpAny _ _ (if ((-1 : Int) == 0) = true then _ else _) _ _ s
  rw [if_neg (by decide)]
  refine wpAny_bind (slicePart_ pl (wpAny_bind (slicePart_ pu (wpAny_bind (wpAny_pure ?_)))))
  show wpAny _ _ (pure ((n : Int) - 1, (-1 : Int), Builtin.Slice.slicePlaces ((n : Int) - 1) (-1) (-1))) _ _ s
  rw [places_rev]
  exact wpAny_pure h
theorem get_rev {t sl : Addr} {items : Array Value} {vl vu vs : Value} {Q : Value → Shared → Prop} (ht : IsTup s.heap t items) (hs : s.heap.IsSliceOf sl vl vu vs) (pl : IsPart vl none) (pu : IsPart vu none) (ps : IsPart vs (some (-1)))
    (h : Q (.ref s.heap.objs.size) { s with heap := s.heap.push { cls := .type "tuple", data := .seq items.toList.reverse.toArray } }) (hsz : items.size ≤ sizeLine) : wpAny (model prog w) A (getItem (.ref t) (.ref sl)) Q E s := by
  have ok : sizeOk (.seq items.toList.reverse.toArray) := by
    show items.toList.reverse.toArray.size ≤ sizeLine
    rw [List.size_toArray, List.length_reverse, Array.length_toList]
    exact hsz
  obtain ⟨os, hos, hcs, hds⟩ := id hs
  have hTs : s.TypeIs (.ref sl) "slice" := ⟨os, hos, hcs⟩
  unfold getItem
  try with_reducible refine wpAny_holding ?_
  first | refine wpAny_bind (wpAny_pure ?_) | skip
  refine wpAny_bind (wpAny_sequenceKey ht.typeIs (by decide) ?_)
  refine wpAny_bind (wpAny_callSpecial?_slot (name := Str.ofString "__getitem__") ht.typeIs PyProof.Rows.slot_tuple_getitem
    (wpAny_call_entry PyProof.Rows.slot_tuple_getitem ht.typeIs entry_tuple_getitem ?_ (args_tuple_getitem _ _)))
  show wpAny _ _ (Builtin.Tuple.tupleItemsOf (.ref t) >>= _) _ _ s
  refine wpAny_bind (tupleItemsOf_ ht ?_)
  refine wpAny_bind (wpAny_typeOf hTs ?_)
  rw [if_pos (by decide)]
  refine wpAny_bind (applied_rev hs pl pu ps ?_)
  have no : ¬ (((items.size : Int) - 1 == 0 && (-1 : Int) == 1 && items.size == items.size) = true) := by simp
  show wpAny _ _ (if ((items.size : Int) - 1 == 0 && (-1 : Int) == 1 && items.size == items.size) = true then _ else _) _ _ s
  rw [if_neg no, pick_rev]
  first
    | exact wpAny_bind (m := Builtin.Tuple.tupleExact _) (wpAny_newObj_type (wpAny_pure ⟨_, rfl, wpAny_pure h⟩) ok)
    | exact wpAny_bind (m := Builtin.Tuple.tupleExact _) (wpAny_newObj_type (wpAny_bind (wpAny_pure (wpAny_pure ⟨_, rfl, wpAny_pure h⟩))) ok)
end
def tRevT (K : PySem.W.Frag) (te : TE) : TE := fun σ H Q => te σ H fun x H1 => ∃ a xs, x = .ref a ∧ SqT K H1 a xs ∧ ∀ p, H1 p = none → Q (.ref p) (upd H1 p (.tup xs.reverse))
section
variable {X : Cx}
theorem pe_revT {e : Expr} {te : TE} {k : Nat} {p1 p2 p3 pos : Pos} (he : PE X e te) : PE X (.Subscript e (.Slice none none (some (.UnaryOp .USub (.Constant (.int 1) k p1) p2)) p3) pos) (tRevT X.K te) := by
  refine ⟨fun pins s σ H Q I h => ?_⟩
  refine Subscript_ (thn (he.run pins s σ H _ I h) fun v s1 ⟨x, H1, I1, r1, q1⟩ => ?_)
  obtain ⟨a, xs, ex, hx, q⟩ := q1
  subst ex
  cases r1
  have hst : PO X (some (.UnaryOp .USub (.Constant (.int 1) k p1) p2)) (tPart (tUn (rU fun i => .int (-i)) (tC (.int 1)))) := po_some (pe_un un_neg pe_int)
  refine wpAny_Slice (thn (po_none.run pins s1 σ H1 (fun o H2 => o = none ∧ H2 = H1) I1 ⟨rfl, rfl⟩) fun vl s2 ⟨l, H2, I2, pl, el, e2⟩ => ?_)
  subst el e2
  refine thn (po_none.run pins s2 σ H2 (fun o H3 => o = none ∧ H3 = H2) I2 ⟨rfl, rfl⟩) fun vu s3 ⟨u, H3, I3, pu, eu, e3⟩ => ?_
  subst eu e3
  refine thn (hst.run pins s3 σ H3 (fun o H4 => o = some (-1) ∧ H4 = H3) I3 ⟨1, rfl, -1, rfl, rfl, rfl⟩) fun vs s4 ⟨o, H4, I4, ps, eo, e4⟩ => ?_
  subst eo e4
  have I5 : Inv X pins σ H4 { s4 with heap := s4.heap.push { cls := .type "slice", data := .fields #[vl, vu, vs] } } := I4.kept (t' := s4.toks) fun b ob q => Heap.get?_push_of_some _ q
  obtain ⟨its, r, ht, hz⟩ := I5.tuple hx
  have hlen := r.length
  show wpAny (model X.prog X.w) X.A (subscriptTail e (.Slice none none (some (.UnaryOp .USub (.Constant (.int 1) k p1) p2)) p3) (.ref a) (.ref s4.heap.objs.size)) (EP X pins σ Q) X.xe { s4 with heap := s4.heap.push { cls := .type "slice", data := .fields #[vl, vu, vs] } }
  refine tail_any (ops := [.ref a, .ref s4.heap.objs.size]) ht.typeIs (PyProof.Rows.slot_tuple_getitem.lookup) ?_ (by with_unfolding_all rfl)
  refine get_rev ht (Heap.IsSliceOf.new _ vl vu vs) pl pu ps ?_ (by rw [List.size_toArray]; omega)
  refine ⟨.ref _, _, I5.laid (t' := s4.toks) (o := .tup xs.reverse) (fun b ob q => Heap.get?_push_of_some _ q) (Nat.le_refl _) ?_, rfl, q _ (I5.hok.fresh (Nat.le_refl _))⟩
  exact ⟨by rw [List.length_reverse]; exact hz, _, r.reverse, IsTup.new _ _⟩
end
end My
set_option Elab.async false
set_option linter.all false
set_option maxRecDepth 100000
set_option maxHeartbeats 4000000
/-! l[::-1] of a list -/
namespace My
open PySem PySem.Spec PyProof.Rows L2 HT
theorem pickL_rev (its : List Value) : slicePick its.toArray none none (some (-1)) = its.reverse.toArray := by
  have e : sliceRange ((its.toArray.size : Int) - 1) (-1) (-1) = (List.range its.toArray.size).map fun (k : Nat) => ((its.toArray.size : Int) - 1 + (k : Int) * (-1)).toNat := by
    unfold sliceRange
    have c : (if (-1 : Int) > 0 then (if (its.toArray.size : Int) - 1 < -1 then (-1 - ((its.toArray.size : Int) - 1) + -1 - 1) / -1 else 0) else (if (its.toArray.size : Int) - 1 > -1 then ((its.toArray.size : Int) - 1 - -1 - -1 - 1) / (- -1) else 0)).toNat = its.toArray.size := by
      rw [if_neg (by decide)]
      split
      · rw [show (-(-1) : Int) = 1 by decide, Int.ediv_one]
        omega
      · omega
    dsimp only
    rw [c]
    refine List.map_congr_left fun k _ => ?_
    rw [Int.mul_comm]
  have p := pick_rev its.toArray
  unfold slicePick
  show ((sliceRange ((its.toArray.size : Int) - 1) (-1) (-1)).filterMap fun i => its.toArray[i]?).toArray = _
  rw [e, List.filterMap_map]
  exact p
def tRevL (K : PySem.W.Frag) (te : TE) : TE := fun σ H Q => te σ H fun x H1 => ∃ a xs, x = .ref a ∧ SqL K H1 a xs ∧ ∀ p, H1 p = none → Q (.ref p) (upd H1 p (.lst xs.reverse))
section
variable {X : Cx}
theorem pe_revL {e : Expr} {te : TE} {k : Nat} {p1 p2 p3 pos : Pos} (he : PE X e te) : PE X (.Subscript e (.Slice none none (some (.UnaryOp .USub (.Constant (.int 1) k p1) p2)) p3) pos) (tRevL X.K te) := by
  refine ⟨fun pins s σ H Q I h => ?_⟩
  refine Subscript_ (thn (he.run pins s σ H _ I h) fun v s1 ⟨x, H1, I1, r1, q1⟩ => ?_)
  obtain ⟨a, xs, ex, hx, q⟩ := q1
  subst ex
  cases r1
  have hst : PO X (some (.UnaryOp .USub (.Constant (.int 1) k p1) p2)) (tPart (tUn (rU fun i => .int (-i)) (tC (.int 1)))) := po_some (pe_un un_neg pe_int)
  refine wpAny_Slice (thn (po_none.run pins s1 σ H1 (fun o H2 => o = none ∧ H2 = H1) I1 ⟨rfl, rfl⟩) fun vl s2 ⟨l, H2, I2, pl, el, e2⟩ => ?_)
  subst el e2
  refine thn (po_none.run pins s2 σ H2 (fun o H3 => o = none ∧ H3 = H2) I2 ⟨rfl, rfl⟩) fun vu s3 ⟨u, H3, I3, pu, eu, e3⟩ => ?_
  subst eu e3
  refine thn (hst.run pins s3 σ H3 (fun o H4 => o = some (-1) ∧ H4 = H3) I3 ⟨1, rfl, -1, rfl, rfl, rfl⟩) fun vs s4 ⟨o, H4, I4, ps, eo, e4⟩ => ?_
  subst eo e4
  have I5 : Inv X pins σ H4 { s4 with heap := s4.heap.push { cls := .type "slice", data := .fields #[vl, vu, vs] } } := I4.kept (t' := s4.toks) fun b ob q => Heap.get?_push_of_some _ q
  obtain ⟨its, r, ht, hz⟩ := I5.list hx
  have hlen := r.length
  show wpAny (model X.prog X.w) X.A (subscriptTail e (.Slice none none (some (.UnaryOp .USub (.Constant (.int 1) k p1) p2)) p3) (.ref a) (.ref s4.heap.objs.size)) (EP X pins σ Q) X.xe { s4 with heap := s4.heap.push { cls := .type "slice", data := .fields #[vl, vu, vs] } }
  refine tail_any (ops := [.ref a, .ref s4.heap.objs.size]) ht.isList.typeIs (slot_list_getitem.lookup) ?_ (by with_unfolding_all rfl)
  refine wpAny_getItem_list_slice ht.isList (Heap.IsSliceOf.new _ vl vu vs) pl pu ps (by simp) ?_ (by rw [List.size_toArray]; omega)
  rw [pickL_rev]
  refine ⟨.ref _, _, I5.laid (t' := s4.toks) (o := .lst xs.reverse) (fun b ob q => Heap.get?_push_of_some _ q) (Nat.le_refl _) ?_, rfl, q _ (I5.hok.fresh (Nat.le_refl _))⟩
  exact ⟨by rw [List.length_reverse]; exact hz, _, 0, r.reverse, Heap.get?_push_size _ rfl⟩
end
end My
set_option Elab.async false
set_option linter.all false
set_option maxRecDepth 100000
set_option maxHeartbeats 4000000
/-! _law_odd_swap -/
namespace My
open PySem PySem.Spec PyProof.Rows L2
def Sm (z : Int) : Prop := -20 ≤ z ∧ z ≤ 20
theorem gm_int {z : Int} (h : Sm z) : gmB 8 0 (.int z) = true := by
  have q : ∀ k : Fin 41, gmB 8 0 (.int ((k.val : Int) - 20)) = true := by decide +kernel
  obtain ⟨h1, h2⟩ := h
  have := q ⟨(z + 20).toNat, by omega⟩
  rw [show ((((z + 20).toNat : Nat) : Int) - 20) = z by omega] at this
  exact this
theorem gm_ints {zs : List Int} (h : ∀ z ∈ zs, Sm z) : ∀ d ∈ zs.map PyData.int, ∃ w', Gm w' 0 d := fun d hd => by
  obtain ⟨x, hx, rfl⟩ := List.mem_map.mp hd
  exact ⟨8, gmB_ok (gm_int (h x hx))⟩
theorem w_ints : ∀ {zs : List Int}, (∀ x ∈ zs, Sm x) → PyData.weightAll (zs.map .int) ≤ 9 * zs.length
  | [], _ => Nat.le_refl _
  | x :: r, h => by
    have ih := w_ints (zs := r) fun y hy => h y (List.mem_cons_of_mem _ hy)
    have := (gmB_ok (gm_int (h x List.mem_cons_self))).wt
    rw [List.map_cons, PyData.weightAll, List.length_cons]
    omega
theorem da_ints {K : PySem.W.Frag} {p : Addr} {H : Hp} : ∀ (zs : List Int), DaAll K p H (zs.map V.int) (zs.map .int)
  | [] => .nil
  | z :: r => .cons (.int z) (da_ints r)
section
variable {P : Program} {w : World} {K : PySem.W.Frag} {mg : Str → Option Value} {base : Heap}
theorem gd_int {p : Addr} {H : Hp} {z : Int} {m n : Nat} (h : Sm z) (hm : 8 ≤ m) : GdV m n K p H (.int z) := ⟨.int z, .int z, (gmB_ok (gm_int h)).mono hm (Nat.zero_le _), fun z => nomatch z⟩
/-- a tuple of small numbers -/
theorem gd_ints {p a : Addr} {H : Hp} {zs : List Int} (h : SqT K H a (zs.map V.int)) (b : BareT H a) (s : ∀ z ∈ zs, Sm z) (l : zs.length ≤ 8) : GdV 400 2 K p H (.ref a) :=
  gd_tupF h b (da_ints zs) ((gm_tup (gm_ints s) (w := 400) (by have := w_ints s; omega)).mono (by decide) (by decide))
theorem isq_mono {H : Hp} {n m : Nat} {z : V} (h : IsQ K H n z) (k : n ≤ m) : IsQ K H m z := by
  obtain ⟨t, i, j, k', l, e, a, b⟩ := h
  obtain ⟨b1, b2, b3, b4⟩ := b
  exact ⟨t, i, j, k', l, e, a, ⟨b1, b2, b3, Nat.le_trans b4 k⟩⟩
def spOddS (K : PySem.W.Frag) : Sp := fun vs H Q _ => ∃ (p c : Addr) (n many : Nat), vs = [.ref p, .int (many : Int)] ∧ PenAt H p c n ∧ n ≤ 700000000 ∧ many ≤ 12 ∧
  ∀ (v : V) (H' : Hp), GdV 400 2 K p H' v → SameP p H H' → PenAt H' p c (n + 4) → Q v H'
theorem ok_oddS {f fD fP fS f1 : Addr} {fd dD dP dS d1 : FuncData} (F : Fun K "_law_odd_swap" "_law_odd_swap" sLOddSwap f fd) (B : Glb mg) (T : Draws P w K mg base fD fP fS dD dP dS) (CS : Has P w K mg base 1 "_law_swaps" ["many"] (spLSw K) f1 d1) : FnOk P w K mg base CX0 3 f fd ["pen", "many"] (spOddS K) := by
  refine F.ok scLOddSwap (fun vs H Q E h => ?_) (fun cdv A outer s H vs Q E hr h => ?_)
  · obtain ⟨p, c, n, many, rfl, _⟩ := h
    rfl
  · obtain ⟨p, c, n, many, rfl, G, hn, hm, q⟩ := h
    have hr1 := hr.mono (show 1 ≤ 2 by decide)
    refine ⟨_, pss_cons (ps_set (i := 2) scLOddSwap.nd rfl (.inl rfl) (pe_op op_catN (pe_has CS hr1 (by rfl) (pa_cons (pv 1) pa_nil)) (pe_lst (pa_cons (pe_tup (pa_cons pe_int (pa_cons pe_int (pa_cons pe_int (pa_cons pe_int pa_nil))))) pa_nil))))
      (pss_cons (ps_set (i := 3) scLOddSwap.nd rfl (.inl rfl) (pe_callTy call_listN (by rfl) B.list (by decide +kernel) (pa_cons (pe_call T.oP hr (by rfl) T.gP T.kP T.bP .nil pass0 (pa_cons (pv 0) (pa_cons (pv 2) pa_nil))) pa_nil)))
      (pss_cons (ps_set (i := 4) scLOddSwap.nd rfl (.inl rfl) (pe_call T.oD hr1 (by rfl) T.gD T.kD T.bD .nil pass0 (pa_cons (pv 0) (pa_cons pe_int pa_nil))))
      (pss_cons (ps_set (i := 5) scLOddSwap.nd rfl (.inl rfl) (pe_lst (pa_cons (pe_op op_add (pe_ix ix_list (pv 3) (pv 4) (fun _ _ => rfl)) pe_int) (pa_cons (pe_op op_sub (pe_ix ix_list (pv 3) (pv 4) (fun _ _ => rfl)) pe_int) (pa_cons (pe_op op_sub pe_int (pe_ix ix_list (pv 3) (pv 4) (fun _ _ => rfl)))
          (pa_cons (pv 1) (pa_cons (pe_op op_add (pv 1) pe_int) (pa_cons (pe_un un_neg pe_int) (pa_cons (pe_op op_pow pe_int pe_int) (pa_cons pe_bl (pa_cons pe_bl (pa_cons pe_non (pa_cons pe_str (pa_cons (pe_tupF (pa_cons pe_int pa_nil)) pa_nil))))))))))))))
      (pss_cons (ps_set (i := 6) scLOddSwap.nd rfl (.inl rfl) (pe_callTy call_tupleF (by rfl) B.tuple (by decide +kernel) (pa_cons (pe_op op_cat (pe_op op_cat (pe_slice sl_list (pv 3) po_none (po_some (pv 4))) (pe_lst (pa_cons (pe_call T.oP hr (by rfl) T.gP T.kP T.bP .nil pass0 (pa_cons (pv 0) (pa_cons (pv 5) pa_nil))) pa_nil)))
          (pe_slice sl_list (pv 3) (po_some (pe_op op_add (pv 4) pe_int)) po_none)) pa_nil)))
      (pss_cons (ps_set (i := 7) scLOddSwap.nd rfl (.inl rfl) (pe_lst (pa_cons (pe_callTy call_tupleF (by rfl) B.tuple (by decide +kernel) (pa_cons (pv 3) pa_nil)) (pa_cons (pv 6) (pa_cons (pv 6) (pa_cons (pv 6) (pa_cons (pv 3)
          (pa_cons (pe_callTy call_tupleF (by rfl) B.tuple (by decide +kernel) (pa_cons (pe_slice sl_list (pv 3) po_none (po_some pe_int)) pa_nil))
          (pa_cons (pe_op op_catG (pe_callTy call_tupleF (by rfl) B.tuple (by decide +kernel) (pa_cons (pv 3) pa_nil)) (pe_tupF (pa_cons (pv 1) pa_nil)))
          (pa_cons (pe_callTy call_tupleF (by rfl) B.tuple (by decide +kernel) (pa_cons (pe_revL (pv 3)) pa_nil)) (pa_cons (pe_tupF pa_nil) (pa_cons pe_non (pa_cons pe_int pa_nil)))))))))))))
      (pss_cons (ps_set (i := 7) scLOddSwap.nd rfl (.inl rfl) (pe_op op_cat (pv 7) (pe_lst (pa_cons pe_str (pa_cons pe_dnewK
          (pa_cons (pe_tupF (pa_cons (pe_tupF (pa_cons (pe_ix ix_list (pv 3) pe_int (fun _ _ => rfl)) (pa_cons (pe_ix ix_list (pv 3) pe_int (fun _ _ => rfl)) pa_nil))) (pa_cons (pe_tupF (pa_cons (pe_ix ix_list (pv 3) pe_int (fun _ _ => rfl)) (pa_cons (pe_ix ix_list (pv 3) pe_int (fun _ _ => rfl)) pa_nil))) pa_nil)))
          (pa_cons (pe_tupF (pa_cons pe_int (pa_cons pe_int (pa_cons pe_int (pa_cons pe_int pa_nil))))) (pa_cons (pe_tupF (pa_cons pe_int (pa_cons (pv 1) (pa_cons (pv 1) (pa_cons (pv 1) pa_nil))))) pa_nil))))))))
      (pss_one (ps_ret (pe_call T.oP hr (by rfl) T.gP T.kP T.bP .nil pass0 (pa_cons (pv 0) (pa_cons (pv 7) pa_nil))))))))))), ?_⟩
    have big : 100000 ≤ sizeLine := by decide
    -- swaps
    refine ⟨_, rfl, many, rfl, hm, fun s0L xs H1 n0 e0 iq lx s1 => ?_⟩
    refine ⟨by show 4 ≤ sizeLine; decide, fun t0 ht0 => ⟨by show 1 ≤ sizeLine; decide, fun l1 hl1 => ?_⟩⟩
    have s2 := same_new (o := HO.tup [.int 0, .int 1, .int 1, .int 2]) ht0
    have s3 := same_new (o := HO.lst [.ref t0]) hl1
    refine ⟨s0L, l1, xs, [.ref t0], rfl, rfl, s3 _ _ (s2 _ _ e0), upd_same, by show _ + 1 ≤ _; omega, fun L hL nL => ?_⟩
    have s4 := same_new (o := HO.lst (xs ++ [.ref t0])) hL
    have S23 := (s2.trans s3).trans s4
    have eL : (upd (upd (upd H1 t0 (HO.tup [.int 0, .int 1, .int 1, .int 2])) l1 (HO.lst [.ref t0])) L (HO.lst (xs ++ [.ref t0]))) L = _ := upd_same
    have IQ : ∀ z ∈ xs ++ [V.ref t0], IsQ K (upd (upd (upd H1 t0 (HO.tup [.int 0, .int 1, .int 1, .int 2])) l1 (HO.lst [.ref t0])) L (HO.lst (xs ++ [.ref t0]))) 12 z := fun z hz => by
      rcases List.mem_append.mp hz with hz | hz
      · exact isq_mono ((iq z hz).keep S23.keeps.t) hm
      · rw [List.mem_singleton.mp hz]
        exact isq_of (a := 0) (b := 1) (c := 1) (d := 2) ((s3.trans s4).keeps.t _ _ (.inl (.inl upd_same))) rfl rfl rfl rfl ⟨by decide, by decide, by decide, by decide⟩
    have lL : (xs ++ [V.ref t0]).length = xs.length + 1 := by rw [List.length_append]; rfl
    generalize hXS : xs ++ [V.ref t0] = XS at eL IQ S23 lL
    generalize upd (upd (upd H1 t0 (HO.tup [.int 0, .int 1, .int 1, .int 2])) l1 (HO.lst [.ref t0])) L (HO.lst XS) = H2 at eL IQ S23
    have S2 := s1.trans S23
    have G2 := G.same S2
    clear s2 s3 s4 iq e0
    -- one
    refine ⟨_, rfl, _, rfl, p, c, n, .ref L, XS, rfl, G2, by omega, .lst (.inl (.inl eL)), by omega, by omega, fun i0 v H3 hv s5 G3 => ?_⟩
    obtain ⟨t, ni, nj, nk, nl, rfl, ht, ex⟩ := (IQ v (List.mem_of_getElem? hv)).keep (s5.keepsT (K := K) G2)
    obtain ⟨x1, x2, x3, x4⟩ := ex
    obtain ⟨i, hi⟩ : ∃ i : Int, i = (ni : Int) := ⟨_, rfl⟩
    obtain ⟨j, hj⟩ : ∃ i : Int, i = (nj : Int) := ⟨_, rfl⟩
    obtain ⟨k, hk⟩ : ∃ i : Int, i = (nk : Int) := ⟨_, rfl⟩
    obtain ⟨l, hl⟩ : ∃ i : Int, i = (nl : Int) := ⟨_, rfl⟩
    rw [← hi, ← hj, ← hk, ← hl] at ht
    have bi : 0 ≤ i ∧ i ≤ 12 := by omega
    have bj : 0 ≤ j ∧ j ≤ 12 := by omega
    have bk : 0 ≤ k ∧ k ≤ 12 := by omega
    have bl : 0 ≤ l ∧ l ≤ 12 := by omega
    refine ⟨t, _, rfl, ht, fun O hO nO => ?_⟩
    have s6 := same_new (o := HO.lst [.int i, .int j, .int k, .int l]) hO
    have eO : (upd H3 O (HO.lst [.int i, .int j, .int k, .int l])) O = _ := upd_same
    have SP3 : SameP p H H3 := (SameP.of S2).trans s5
    have SP4 := SP3.trans (SameP.of s6)
    have G4 := G3.same s6
    generalize upd H3 O (HO.lst [.int i, .int j, .int k, .int l]) = H4 at s6 eO SP4 G4
    clear hi hj hk hl x1 x2 x3 x4 ht IQ eL S23 s1 S2 s5 s6 SP3 G2 G3
    -- at
    refine ⟨_, rfl, p, c, _, 4, rfl, G4, by omega, by decide, by decide, fun d H5 d0 d1 s7 G5 => ?_⟩
    obtain ⟨at', rfl⟩ : ∃ k : Nat, d = (k : Int) := ⟨d.toNat, by omega⟩
    have eO5 := s7.lst G4 eO
    have SP5 := SP4.trans s7
    clear eO s7
    have hat : at' < 4 := by omega
    obtain ⟨z, hz, z0, z1⟩ : ∃ z : Int, ([.int i, .int j, .int k, .int l] : List V)[at']? = some (.int z) ∧ 0 ≤ z ∧ z ≤ 12 := by
      match at', hat with
      | 0, _ => exact ⟨i, rfl, bi.1, bi.2⟩
      | 1, _ => exact ⟨j, rfl, bj.1, bj.2⟩
      | 2, _ => exact ⟨k, rfl, bk.1, bk.2⟩
      | 3, _ => exact ⟨l, rfl, bl.1, bl.2⟩
    -- numbers
    refine ⟨_, rfl, _, rfl, O, _, _, .int z, rfl, rfl, .inl (.inl eO5), atI_nat hz, _, _, rfl, rfl, ?_⟩
    refine ⟨_, rfl, _, rfl, O, _, _, .int z, rfl, rfl, .inl (.inl eO5), atI_nat hz, _, _, rfl, rfl, ?_⟩
    refine ⟨_, rfl, _, rfl, O, _, _, .int z, rfl, rfl, .inl (.inl eO5), atI_nat hz, _, _, rfl, rfl, ?_⟩
    refine ⟨_, rfl, _, rfl, _, _, rfl, rfl, _, rfl, _, _, rfl, rfl, ⟨by decide, by decide, by decide⟩, ?_⟩
    refine ⟨by show 1 ≤ sizeLine; decide, fun t1 o1 h1 b1 => ?_⟩
    have s8 := same_new (o := HO.frz o1 (.tup [.int 1])) h1
    have g1 : GdV 200 1 K p (upd H5 t1 (HO.frz o1 (.tup [.int 1]))) (.ref t1) := gd_tupF (.inl (.inr ⟨o1, upd_same⟩)) ⟨o1, _, upd_same, b1⟩ (.cons (.int _) .nil) (gmB_ok (by decide +kernel))
    generalize upd H5 t1 (HO.frz o1 (.tup [.int 1])) = H6 at s8 g1
    have GB : GdL 200 1 K p H6 [.int (z + 1), .int (z - 1), .int (0 - z), .int (many : Int), .int ((many : Int) + 1), .int (-1), .int (10 ^ (59 : Int).toNat), .bl true, .bl false, .non, .str "1", .ref t1] :=
      .cons (gd_int ⟨by omega, by omega⟩ (by decide)) (.cons (gd_int ⟨by omega, by omega⟩ (by decide)) (.cons (gd_int ⟨by omega, by omega⟩ (by decide)) (.cons (gd_int ⟨by omega, by omega⟩ (by decide)) (.cons (gd_int ⟨by omega, by omega⟩ (by decide)) (.cons (gd_int ⟨by omega, by omega⟩ (by decide))
        (.cons (gd_flat (.int _) (by decide +kernel) rfl) (.cons (gd_flat (.bl _) (by decide +kernel) rfl) (.cons (gd_flat (.bl _) (by decide +kernel) rfl) (.cons (gd_flat .non (by decide +kernel) rfl) (.cons (gd_flat (.str _) (by decide +kernel) rfl) (.cons g1 .nil)))))))))))
    refine ⟨by show 12 ≤ sizeLine; decide, fun N hN => ?_⟩
    have s9 := same_new (o := HO.lst [.int (z + 1), .int (z - 1), .int (0 - z), .int (many : Int), .int ((many : Int) + 1), .int (-1), .int (10 ^ (59 : Int).toNat), .bl true, .bl false, .non, .str "1", .ref t1]) hN
    have eN : (upd H6 N (HO.lst [.int (z + 1), .int (z - 1), .int (0 - z), .int (many : Int), .int ((many : Int) + 1), .int (-1), .int (10 ^ (59 : Int).toNat), .bl true, .bl false, .non, .str "1", .ref t1])) N = _ := upd_same
    have GB := GB.keep s9
    have lN : ([.int (z + 1), .int (z - 1), .int (0 - z), .int (many : Int), .int ((many : Int) + 1), .int (-1), .int (10 ^ (59 : Int).toNat), .bl true, .bl false, .non, .str "1", .ref t1] : List V).length = 12 := rfl
    generalize ([.int (z + 1), .int (z - 1), .int (0 - z), .int (many : Int), .int ((many : Int) + 1), .int (-1), .int (10 ^ (59 : Int).toNat), .bl true, .bl false, .non, .str "1", .ref t1] : List V) = NS at s9 eN GB lN
    have S9 := s8.trans s9
    generalize upd H6 N (HO.lst NS) = H7 at S9 eN GB
    clear s8 s9 g1
    have eO7 := S9 _ _ eO5
    have G7 := G5.same S9
    have SP7 := SP5.trans (SameP.of S9)
    -- bent
    refine ⟨_, rfl, _, rfl, _, rfl, O, _, rfl, .inl (.inl eO7), fun c1 hc1 => ?_⟩
    have s12 := same_new (o := HO.lst (cutV [.int i, .int j, .int k, .int l] none (some (at' : Int)))) hc1
    have e12 : (upd H7 c1 (HO.lst (cutV [.int i, .int j, .int k, .int l] none (some (at' : Int))))) c1 = _ := upd_same
    generalize upd H7 c1 (HO.lst (cutV [.int i, .int j, .int k, .int l] none (some (at' : Int)))) = H8 at s12 e12
    rw [cutV_to] at e12
    refine ⟨_, rfl, _, rfl, p, c, _, .ref N, NS, rfl, G7.same s12, by omega, .lst (.inl (.inl (s12 _ _ eN))), by omega, by rw [lN]; decide, fun i1 bad H9 hv s13 G9 => ?_⟩
    have gb := (GB.keep s12).keepP s13 (G7.same s12) bad (List.mem_of_getElem? hv)
    have e9 := s13.lst (G7.same s12) e12
    have eO9 := s13.lst (G7.same s12) (s12 _ _ eO7)
    have SP9 := (SP7.trans (SameP.of s12)).trans s13
    clear s12 s13 e12 GB eN eO7 S9
    obtain ⟨os, hos⟩ : ∃ os : List Int, os = [i, j, k, l] := ⟨_, rfl⟩
    have eos : ([.int i, .int j, .int k, .int l] : List V) = os.map V.int := by rw [hos]; rfl
    have sos : ∀ z ∈ os, Sm z := fun z hz => by
      rw [hos] at hz
      simp only [List.mem_cons, List.not_mem_nil, or_false] at hz
      rcases hz with rfl | rfl | rfl | rfl <;> exact ⟨by omega, by omega⟩
    have los : os.length = 4 := by rw [hos]; rfl
    rw [eos, ← List.map_take] at e9
    refine ⟨by show 1 ≤ sizeLine; decide, fun c2 hc2 => ?_⟩
    have s14 := same_new (o := HO.lst [bad]) hc2
    refine ⟨c1, c2, _, _, rfl, rfl, s14 _ _ e9, upd_same, by rw [List.length_map, List.length_take]; show _ + 1 ≤ _; omega, fun c3 hc3 => ?_⟩
    have s15 := same_new (o := HO.lst ((os.take at').map V.int ++ [bad])) hc3
    have e15 : (upd (upd H9 c2 (HO.lst [bad])) c3 (HO.lst ((os.take at').map V.int ++ [bad]))) c3 = _ := upd_same
    have S15 := s14.trans s15
    generalize upd (upd H9 c2 (HO.lst [bad])) c3 (HO.lst ((os.take at').map V.int ++ [bad])) = H10 at s15 e15 S15
    clear s14 s15
    refine ⟨_, rfl, _, rfl, _, _, rfl, rfl, _, rfl, O, _, rfl, .inl (.inl (S15 _ _ eO9)), fun c4 hc4 => ?_⟩
    rw [show ((at' : Nat) : Int) + 1 = ((at' + 1 : Nat) : Int) from rfl, cutV_from, eos, ← List.map_drop]
    have s16 := same_new (o := HO.lst ((os.drop (at' + 1)).map V.int)) hc4
    have l15 : ((os.take at').map V.int ++ [bad]).length ≤ 14 := by rw [List.length_append, List.length_map, List.length_take]; show _ + 1 ≤ _; omega
    have l16 : ((os.drop (at' + 1)).map V.int).length ≤ 14 := by rw [List.length_map, List.length_drop]; omega
    refine ⟨c3, c4, _, _, rfl, rfl, s16 _ _ e15, upd_same, by omega, fun c5 hc5 => ?_⟩
    have s17 := same_new (o := HO.lst ((os.take at').map V.int ++ [bad] ++ (os.drop (at' + 1)).map V.int)) hc5
    refine ⟨c5, _, rfl, .inl (.inl upd_same), fun tb ob hb bb => ?_⟩
    have s18 := same_new (o := HO.frz ob (.tup ((os.take at').map V.int ++ [bad] ++ (os.drop (at' + 1)).map V.int))) hb
    have S18 := ((S15.trans s16).trans s17).trans s18
    obtain ⟨db, Db, Gb, _⟩ := gb
    have g6 : GdV 400 2 K p (upd (upd (upd H10 c4 (HO.lst ((os.drop (at' + 1)).map V.int))) c5 (HO.lst ((os.take at').map V.int ++ [bad] ++ (os.drop (at' + 1)).map V.int))) tb (HO.frz ob (.tup ((os.take at').map V.int ++ [bad] ++ (os.drop (at' + 1)).map V.int)))) (.ref tb) := by
      refine gd_tupF (ds := (os.take at').map .int ++ [db] ++ (os.drop (at' + 1)).map .int) (.inl (.inr ⟨ob, upd_same⟩)) ⟨ob, _, upd_same, bb⟩ (((da_ints _).append (.cons (da_keep S18.keepA Db) .nil)).append (da_ints _)) ((gm_tup (w := 400) (n := 1) (fun d hd => ?_) ?_).mono (Nat.le_refl _) (Nat.le_refl _))
      · rcases List.mem_append.mp hd with hd | hd
        · rcases List.mem_append.mp hd with hd | hd
          · obtain ⟨w', g⟩ := gm_ints (fun x hx => sos x (List.mem_of_mem_take hx)) d hd
            exact ⟨w', g.mono (Nat.le_refl _) (by decide)⟩
          · rw [List.mem_singleton.mp hd]
            exact ⟨200, Gb⟩
        · obtain ⟨w', g⟩ := gm_ints (fun x hx => sos x (List.mem_of_mem_drop hx)) d hd
          exact ⟨w', g.mono (Nat.le_refl _) (by decide)⟩
      · have w1 := w_ints (zs := os.take at') fun x hx => sos x (List.mem_of_mem_take hx)
        have w2 := w_ints (zs := os.drop (at' + 1)) fun x hx => sos x (List.mem_of_mem_drop hx)
        have w3 := Gb.wt
        rw [wAll_append, wAll_append]
        rw [List.length_take] at w1
        rw [List.length_drop] at w2
        have w4 : PyData.weightAll [db] = db.weight + 1 := by simp only [PyData.weightAll]
        omega
    generalize upd (upd (upd H10 c4 (HO.lst ((os.drop (at' + 1)).map V.int))) c5 (HO.lst ((os.take at').map V.int ++ [bad] ++ (os.drop (at' + 1)).map V.int))) tb (HO.frz ob (.tup ((os.take at').map V.int ++ [bad] ++ (os.drop (at' + 1)).map V.int))) = H11 at S18 g6
    clear s16 s17 s18 e15 l15 l16 S15
    have eO11 := S18 _ _ eO9
    rw [eos] at eO11
    -- options
    refine ⟨_, rfl, O, _, rfl, .inl (.inl eO11), fun t2 o2 h2 b2 => ?_⟩
    have s20 := same_new (o := HO.frz o2 (.tup (os.map V.int))) h2
    have g2 : GdV 400 2 K p (upd H11 t2 (HO.frz o2 (.tup (os.map V.int)))) (.ref t2) := gd_ints (.inl (.inr ⟨o2, upd_same⟩)) ⟨o2, _, upd_same, b2⟩ sos (by omega)
    have g6 := g6.keep s20
    generalize upd H11 t2 (HO.frz o2 (.tup (os.map V.int))) = H12 at s20 g2 g6
    have S20 := S18.trans s20
    have eO12 := s20 _ _ eO11
    refine ⟨_, rfl, _, rfl, _, rfl, _, rfl, ?_⟩
    refine ⟨_, rfl, _, rfl, O, _, rfl, .inl (.inl eO12), fun c6 hc6 => ?_⟩
    rw [show (3 : Int) = ((3 : Nat) : Int) from rfl, cutV_to, ← List.map_take]
    have s21 := same_new (o := HO.lst ((os.take 3).map V.int)) hc6
    refine ⟨c6, _, rfl, .inl (.inl upd_same), fun t3 o3 h3 b3 => ?_⟩
    have s22 := same_new (o := HO.frz o3 (.tup ((os.take 3).map V.int))) h3
    have g3 : GdV 400 2 K p (upd (upd H12 c6 (HO.lst ((os.take 3).map V.int))) t3 (HO.frz o3 (.tup ((os.take 3).map V.int)))) (.ref t3) := gd_ints (.inl (.inr ⟨o3, upd_same⟩)) ⟨o3, _, upd_same, b3⟩ (fun x hx => sos x (List.mem_of_mem_take hx)) (by rw [List.length_take]; omega)
    have S22 := s21.trans s22
    generalize upd (upd H12 c6 (HO.lst ((os.take 3).map V.int))) t3 (HO.frz o3 (.tup ((os.take 3).map V.int))) = H13 at S22 g3
    have g2 := g2.keep S22
    have g6 := g6.keep S22
    have eO13 := S22 _ _ eO12
    have S23 := S20.trans S22
    clear s20 s21 s22 S20 S22 eO12
    refine ⟨_, rfl, O, _, rfl, .inl (.inl eO13), fun t4 o4 h4 b4 => ?_⟩
    have s24 := same_new (o := HO.frz o4 (.tup (os.map V.int))) h4
    refine ⟨_, rfl, by show 1 ≤ sizeLine; decide, fun u1 ub1 hu1 hub1 => ?_⟩
    have s25 := same_new (o := HO.frz ub1 (HO.tup [.int (many : Int)])) hu1
    refine cat_toF (s25.keeps.t _ _ (.inl (.inr ⟨o4, upd_same⟩))) (.inl (.inr ⟨ub1, upd_same⟩)) (by rw [List.length_map]; exact Evl.sz_of (show os.length + 1 ≤ 100000 by omega)) (BareT.keep ⟨o4, _, upd_same, b4⟩ s25) ⟨ub1, _, upd_same, hub1⟩ fun t5 H15 s26 q5 r5 => ?_
    have e5 : os.map V.int ++ [V.int (many : Int)] = (os ++ [(many : Int)]).map V.int := by rw [List.map_append]; rfl
    rw [e5] at q5
    have g5 : GdV 400 2 K p H15 (.ref t5) := gd_ints q5 r5 (fun x hx => (List.mem_append.mp hx).elim (sos x) fun e => by rw [List.mem_singleton.mp e]; exact ⟨by omega, by omega⟩) (by rw [List.length_append]; show _ + 1 ≤ _; omega)
    have S26 := (s24.trans s25).trans s26
    have g2 := g2.keep S26
    have g3 := g3.keep S26
    have g6 := g6.keep S26
    have eO15 := S26 _ _ eO13
    have S27 := S23.trans S26
    clear s24 s25 s26 S26 S23 eO13 q5 r5
    refine ⟨_, rfl, O, _, rfl, .inl (.inl eO15), fun c7 hc7 => ?_⟩
    rw [← List.map_reverse]
    have s28 := same_new (o := HO.lst (os.reverse.map V.int)) hc7
    refine ⟨c7, _, rfl, .inl (.inl upd_same), fun t7 o7 h7 b7 => ?_⟩
    have s29 := same_new (o := HO.frz o7 (.tup (os.reverse.map V.int))) h7
    have g7 : GdV 400 2 K p (upd (upd H15 c7 (HO.lst (os.reverse.map V.int))) t7 (HO.frz o7 (.tup (os.reverse.map V.int)))) (.ref t7) := gd_ints (.inl (.inr ⟨o7, upd_same⟩)) ⟨o7, _, upd_same, b7⟩ (fun x hx => sos x (List.mem_reverse.mp hx)) (by rw [List.length_reverse]; omega)
    have S29 := s28.trans s29
    generalize upd (upd H15 c7 (HO.lst (os.reverse.map V.int))) t7 (HO.frz o7 (.tup (os.reverse.map V.int))) = H16 at S29 g7
    refine ⟨by show 0 ≤ sizeLine; decide, fun t8 o8 h8 b8 => ?_⟩
    have s30 := same_new (o := HO.frz o8 (.tup [])) h8
    have g8 : GdV 400 2 K p (upd H16 t8 (HO.frz o8 (.tup []))) (.ref t8) := gd_tupF (.inl (.inr ⟨o8, upd_same⟩)) ⟨o8, _, upd_same, b8⟩ .nil (gmB_ok (by decide +kernel))
    generalize upd H16 t8 (HO.frz o8 (.tup [])) = H17 at s30 g8
    have S30 := S29.trans s30
    have eO17 := S30 _ _ eO15
    have gO : GdV 400 2 K p H17 (.ref O) := gd_lst eO17 nO (da_ints os) ((gm_lst (gm_ints sos) (w := 400) (by have := w_ints sos; omega)).mono (by decide) (by decide))
    have GA : GdL 400 2 K p H17 [.ref t2, .ref tb, .ref tb, .ref tb, .ref O, .ref t3, .ref t5, .ref t7, .ref t8, .non, .int 0] :=
      .cons (g2.keep S30) (.cons (g6.keep S30) (.cons (g6.keep S30) (.cons (g6.keep S30) (.cons gO (.cons (g3.keep S30) (.cons (g5.keep S30) (.cons (g7.keep s30) (.cons g8 (.cons (gd_flat .non (by decide +kernel) rfl) (.cons (gd_flat (.int _) (by decide +kernel) rfl) .nil))))))))))
    refine ⟨by show 11 ≤ sizeLine; decide, fun q1 hq1 => ?_⟩
    have s31 := same_new (o := HO.lst [.ref t2, .ref tb, .ref tb, .ref tb, .ref O, .ref t3, .ref t5, .ref t7, .ref t8, .non, .int 0]) hq1
    have eq1 : (upd H17 q1 (HO.lst [.ref t2, .ref tb, .ref tb, .ref tb, .ref O, .ref t3, .ref t5, .ref t7, .ref t8, .non, .int 0])) q1 = _ := upd_same
    have GA := GA.keep s31
    have lA : ([.ref t2, .ref tb, .ref tb, .ref tb, .ref O, .ref t3, .ref t5, .ref t7, .ref t8, .non, .int 0] : List V).length = 11 := rfl
    generalize ([.ref t2, .ref tb, .ref tb, .ref tb, .ref O, .ref t3, .ref t5, .ref t7, .ref t8, .non, .int 0] : List V) = OA at s31 eq1 GA lA
    have S31 := S27.trans (S30.trans s31)
    have eO18 := s31 _ _ eO17
    generalize upd H17 q1 (HO.lst OA) = H18 at S31 eq1 GA eO18
    clear s30 s31 S30 S29 S27 S18 g2 g3 g5 g6 g7 g8 gO eO15 eO17 eO11
    -- more options
    obtain ⟨⟨_, _, _, P9, _⟩⟩ := id G9
    have P18 := S31 _ _ P9
    refine ⟨_, rfl, fun u3 k3 => ?_⟩
    have s33 := same_new (o := HO.dK []) k3
    have h3 : GdV 400 2 K p (upd H18 u3 (HO.dK [])) (.ref u3) := gd_dct (ne_of_none P18 k3).symm upd_same .nil (gmB_ok (by decide +kernel))
    generalize upd H18 u3 (HO.dK []) = H19 at s33 h3
    have eO19 := s33 _ _ eO18
    rw [hos] at eO19
    have sq2 : ∀ x ∈ [i, j], Sm x := fun z hz => by
      simp only [List.mem_cons, List.not_mem_nil, or_false] at hz
      rcases hz with rfl | rfl <;> exact ⟨by omega, by omega⟩
    have sq3 : ∀ x ∈ [k, l], Sm x := fun z hz => by
      simp only [List.mem_cons, List.not_mem_nil, or_false] at hz
      rcases hz with rfl | rfl <;> exact ⟨by omega, by omega⟩
    refine ⟨_, rfl, O, _, 0, .int i, rfl, rfl, .inl (.inl eO19), rfl, _, rfl, O, _, 1, .int j, rfl, rfl, .inl (.inl eO19), rfl, by show 2 ≤ sizeLine; decide, fun u4 p4 k4 r4 => ?_⟩
    have s34 := same_new (o := HO.frz p4 (.tup [.int i, .int j])) k4
    have f4 : SqT K (upd H19 u4 (HO.frz p4 (.tup [.int i, .int j]))) u4 (([i, j] : List Int).map V.int) := .inl (.inr ⟨p4, upd_same⟩)
    generalize upd H19 u4 (HO.frz p4 (.tup [.int i, .int j])) = H20 at s34 f4
    have eO20 := s34 _ _ eO19
    refine ⟨_, rfl, O, _, 2, .int k, rfl, rfl, .inl (.inl eO20), rfl, _, rfl, O, _, 3, .int l, rfl, rfl, .inl (.inl eO20), rfl, by show 2 ≤ sizeLine; decide, fun u5 p5 k5 r5 => ?_⟩
    have s35 := same_new (o := HO.frz p5 (.tup [.int k, .int l])) k5
    have f5 : SqT K (upd H20 u5 (HO.frz p5 (.tup [.int k, .int l]))) u5 (([k, l] : List Int).map V.int) := .inl (.inr ⟨p5, upd_same⟩)
    have f4 := s35.keeps.t _ _ f4
    generalize upd H20 u5 (HO.frz p5 (.tup [.int k, .int l])) = H21 at s35 f4 f5
    refine ⟨by show 2 ≤ sizeLine; decide, fun u6 p6 k6 r6 => ?_⟩
    have s36 := same_new (o := HO.frz p6 (.tup [.ref u4, .ref u5])) k6
    have m2 : ∀ {zs : List Int}, (∀ x ∈ zs, Sm x) → zs.length ≤ 2 → Gm 20 1 (.tuple (zs.map .int)) := fun h hl => (gm_tup (gm_ints h) (w := 20) (by have := w_ints h; omega)).mono (by decide) (by decide)
    have h6 : GdV 400 2 K p (upd H21 u6 (HO.frz p6 (.tup [.ref u4, .ref u5]))) (.ref u6) := by
      refine gd_tupF (.inl (.inr ⟨p6, upd_same⟩)) ⟨p6, _, upd_same, r6⟩ (.cons (.tup (s36.keeps.t _ _ f4) (da_ints _)) (.cons (.tup (s36.keeps.t _ _ f5) (da_ints _)) .nil)) (gm_tup (n := 1) (w := 400) (fun d hd => ?_) ?_)
      · simp only [List.mem_cons, List.not_mem_nil, or_false] at hd
        rcases hd with rfl | rfl
        · exact ⟨20, m2 sq2 (show 2 ≤ 2 by decide)⟩
        · exact ⟨20, m2 sq3 (show 2 ≤ 2 by decide)⟩
      · have w1 := (m2 sq2 (show 2 ≤ 2 by decide)).wt
        have w2 := (m2 sq3 (show 2 ≤ 2 by decide)).wt
        rw [PyData.weightAll, PyData.weightAll, PyData.weightAll]
        omega
    have h3 := h3.keep ((s34.trans s35).trans s36)
    have S36 := (s33.trans s34).trans (s35.trans s36)
    generalize upd H21 u6 (HO.frz p6 (.tup [.ref u4, .ref u5])) = H22 at s36 h6 h3 S36
    clear s33 s34 s35 s36 f4 f5
    refine ⟨by show 4 ≤ sizeLine; decide, fun u7 p7 k7 r7 => ?_⟩
    have s37 := same_new (o := HO.frz p7 (.tup [.int 0, .int 0, .int 0, .int 0])) k7
    have h7 : GdV 400 2 K p (upd H22 u7 (HO.frz p7 (.tup [.int 0, .int 0, .int 0, .int 0]))) (.ref u7) := gd_ints (zs := [0, 0, 0, 0]) (.inl (.inr ⟨p7, upd_same⟩)) ⟨p7, _, upd_same, r7⟩ (fun x hx => by
      simp only [List.mem_cons, List.not_mem_nil, or_false] at hx
      rcases hx with rfl | rfl | rfl | rfl <;> exact ⟨by decide, by decide⟩) (by decide)
    generalize upd H22 u7 (HO.frz p7 (.tup [.int 0, .int 0, .int 0, .int 0])) = H23 at s37 h7
    refine ⟨_, rfl, _, rfl, _, rfl, by show 4 ≤ sizeLine; decide, fun u8 p8 k8 r8 => ?_⟩
    have s38 := same_new (o := HO.frz p8 (.tup [.int 0, .int (many : Int), .int (many : Int), .int (many : Int)])) k8
    have h8 : GdV 400 2 K p (upd H23 u8 (HO.frz p8 (.tup [.int 0, .int (many : Int), .int (many : Int), .int (many : Int)]))) (.ref u8) := gd_ints (zs := [0, (many : Int), (many : Int), (many : Int)]) (.inl (.inr ⟨p8, upd_same⟩)) ⟨p8, _, upd_same, r8⟩ (fun x hx => by
      simp only [List.mem_cons, List.not_mem_nil, or_false] at hx
      rcases hx with rfl | rfl | rfl | rfl <;> exact ⟨by omega, by omega⟩) (by show 4 ≤ 8; decide)
    generalize upd H23 u8 (HO.frz p8 (.tup [.int 0, .int (many : Int), .int (many : Int), .int (many : Int)])) = H24 at s38 h8
    have S38 := s37.trans s38
    have GC : GdL 400 2 K p H24 [.str "", .ref u3, .ref u6, .ref u7, .ref u8] := .cons (gd_flat (.str _) (by decide +kernel) rfl) (.cons (h3.keep S38) (.cons (h6.keep S38) (.cons (h7.keep s38) (.cons h8 .nil))))
    refine ⟨by show 5 ≤ sizeLine; decide, fun q2 hq2 => ?_⟩
    have s39 := same_new (o := HO.lst [.str "", .ref u3, .ref u6, .ref u7, .ref u8]) hq2
    have S39 := (S36.trans S38).trans s39
    refine ⟨q1, q2, _, _, rfl, rfl, S39 _ _ eq1, upd_same, by rw [lA]; show 11 + 5 ≤ sizeLine; decide, fun q3 hq3 => ?_⟩
    have s40 := same_new (o := HO.lst (OA ++ [.str "", .ref u3, .ref u6, .ref u7, .ref u8])) hq3
    have GD := ((GA.keep (S36.trans S38)).app GC).keep (s39.trans s40)
    have S40 := S39.trans s40
    have eq3 : (upd (upd H24 q2 (HO.lst [.str "", .ref u3, .ref u6, .ref u7, .ref u8])) q3 (HO.lst (OA ++ [.str "", .ref u3, .ref u6, .ref u7, .ref u8]))) q3 = _ := upd_same
    have lq : (OA ++ [V.str "", .ref u3, .ref u6, .ref u7, .ref u8]).length = 16 := by rw [List.length_append, lA]; rfl
    generalize upd (upd H24 q2 (HO.lst [.str "", .ref u3, .ref u6, .ref u7, .ref u8])) q3 (HO.lst (OA ++ [.str "", .ref u3, .ref u6, .ref u7, .ref u8])) = H25 at S40 GD eq3
    generalize OA ++ [V.str "", .ref u3, .ref u6, .ref u7, .ref u8] = opts at GD eq3 lq
    have S41 := S31.trans S40
    refine ⟨_, rfl, _, rfl, p, c, _, .ref q3, opts, rfl, G9.same S41, by omega, .lst (.inl (.inl eq3)), by omega, by rw [lq]; decide, fun i2 v H26 hv2 s42 G26 => ?_⟩
    exact q v H26 (GD.keepP s42 (G9.same S41) v (List.mem_of_getElem? hv2)) ((SP9.trans (SameP.of S41)).trans s42) G26
end
end My
set_option Elab.async false
set_option linter.all false
set_option maxRecDepth 100000
set_option maxHeartbeats 4000000
namespace My
open PySem PySem.Spec PyProof.Rows L2
section
variable {P : Program} {w : World} {K : PySem.W.Frag} {mg : Str → Option Value} {base : Heap}
def spIsInt (K : PySem.W.Frag) : Sp := fun vs H Q _ => ∃ (p : Addr) (v : V) (d : PyData), vs = [v] ∧ Da K p H v d ∧ Q (.bl (intD d)) H
theorem ok_isint {f : Addr} {fd : FuncData} (F : Fun K "is_integer" "is_integer" sIsInt f fd) (B : Glb mg) : FnOk P w K mg base CX0 1 f fd ["value"] (spIsInt K) := by
  refine F.ok scIsInt (fun vs H Q E h => ?_) (fun cdv A outer s H vs Q E hr h => ?_)
  · obtain ⟨p, v, d, rfl, _⟩ := h
    rfl
  · obtain ⟨p, v, d, rfl, D, q⟩ := h
    refine ⟨_, pss_one (ps_ret (pe_and (pe_callB call_isi (by rfl) B.isi boot_isinstance (pa_cons (pv 0) (pa_cons (pe_bltn (v := .ty "int") (by rfl) B.int boot_int rfl) pa_nil)))
      (pe_one (pe_not (pe_callB call_isi (by rfl) B.isi boot_isinstance (pa_cons (pv 0) (pa_cons (pe_bltn (v := .ty "bool") (by rfl) B.bool boot_bool rfl) pa_nil))))))), ?_⟩
    refine ⟨_, rfl, v, _, _, _, _, rfl, .ty _, da_ty D, kit_ty (kit_int d), _, rfl, ?_⟩
    cases hi : isInt d with
    | true =>
      refine iteT ⟨_, rfl, v, _, _, _, _, rfl, .ty _, da_ty D, kit_ty (kit_bool d), _, rfl, ?_⟩
      have e : (!isBool d) = intD d := by cases d <;> first | rfl | cases hi
      rw [e]
      exact q
    | false =>
      refine iteF ?_
      have e : false = intD d := by cases d <;> first | rfl | cases hi
      rw [e]
      exact q
end
end My
set_option Elab.async false
set_option linter.all false
set_option maxRecDepth 100000
set_option maxHeartbeats 4000000
/-! a < b <= c < .. of any length -/
namespace My
open PySem PySem.Spec PyProof.Rows L2
abbrev TC := V → L2.St → Hp → VK → Prop
structure PCh (X : Cx) (ops : List CmpOp) (es : List Expr) (t : TC) : Prop where
  run : ∀ (pins : List (Addr × Obj)) (s : Shared) (σ : L2.St) (H : Hp) (x : V) (v : Value) (Q : VK) (pos : Pos), Inv X pins σ H s → RelV x v → t x σ H Q → wpAny (model X.prog X.w) X.A (compareChain pos v ops (evalEach es X.env)) (EP X pins σ Q) X.xe s
section
variable {X : Cx} {op op' : CmpOp} {ops : List CmpOp} {r : R2} {a b b' : Expr} {es : List Expr} {ta tb : TE} {t : TC} {pos : Pos}
theorem ch_last (ho : OpR X (compareOp op) r) (hb : PE X b tb) : PCh X [op] [b] (fun x σ H Q => tb σ H fun y H' => r x y H' Q) := by
  refine ⟨fun pins s σ H x v Q pos I rx h => ?_⟩
  exact chain_last (thn (hb.run pins s σ H _ I h) fun w' s4 ⟨z', H4, I4, r4, q4⟩ => ho pins s4 σ H4 x z' v w' Q I4 rx r4 q4)
theorem ch_link (ho : OpR X (compareOp op) r) (hb : PE X b tb) (c : PCh X (op' :: ops) (b' :: es) t) : PCh X (op :: op' :: ops) (b :: b' :: es) (fun x σ H Q => tb σ H fun y H2 => r x y H2 fun z H3 => ∃ k, z = .bl k ∧ (if k = true then t y σ H3 Q else Q (.bl false) H3)) := by
  refine ⟨fun pins s σ H x v Q pos I rx h => ?_⟩
  refine chain_link (thn (hb.run pins s σ H _ I h) fun u s2 ⟨y, H2, I2, r2, q2⟩ => thn (ho pins s2 σ H2 x y v u _ I2 rx r2 q2) fun d s3 ⟨z, H3, I3, r3, k, e, q3⟩ => ?_)
  subst e
  cases r3
  refine wpAny_truthy_bool ?_
  cases k with
  | false => exact ite_ff ⟨.bl false, H3, I3, rfl, q3⟩
  | true => exact ite_tt (c.run pins s3 σ H3 y u Q pos I3 r2 q3)
/-- the whole chain -/
theorem pe_ch {b2 : Expr} (ha : PE X a ta) (c : PCh X (op :: op' :: ops) (b :: b2 :: es) t) (hm : lastMarks (op :: op' :: ops) (b :: b2 :: es) = false := by with_unfolding_all rfl) :
    PE X (.Compare a (op :: op' :: ops) (b :: b2 :: es) pos) (fun σ H Q => ta σ H fun x H1 => t x σ H1 Q) := by
  refine ⟨fun pins s σ H Q I h => ?_⟩
  exact Compare_chain (thn (ha.run pins s σ H _ I h) fun v s1 ⟨x, H1, I1, r1, q1⟩ => c.run pins s1 σ H1 x v Q pos I1 r1 q1) hm
end
end My
set_option Elab.async false
set_option linter.all false
set_option maxRecDepth 100000
set_option maxHeartbeats 4000000
/-! is_exchange, of any value -/
namespace My
open PySem PySem.Spec PyProof.Rows L2
def valD : PyData → Int
  | .int i => i
  | _ => 0
def chkE (n : Int) : List Int → Bool
  | [i, j, k, l] => decide (0 ≤ i) && (decide (i < j) && (decide (j ≤ k) && (decide (k < l) && decide (l ≤ n))))
  | _ => false
def exD (n : Int) : PyData → Bool
  | .tuple ds => decide (ds.length = 4) && (ds.all intD && chkE n (ds.map valD))
  | _ => false
theorem ex_len {n : Int} {ds : List PyData} (h : ds.length ≠ 4) : exD n (.tuple ds) = false := by
  show (decide (ds.length = 4) && _) = false
  rw [decide_eq_false h, Bool.false_and]
theorem int_case {d : PyData} (h : intD d = true) : ∃ i, d = .int i := by cases d <;> first | exact ⟨_, rfl⟩ | cases h
theorem ex_ints {n : Int} {ds : List PyData} (h : ds.all intD = false) : exD n (.tuple ds) = false := by
  show (decide (ds.length = 4) && (ds.all intD && _)) = false
  rw [h, Bool.false_and, Bool.and_false]
theorem all_id (f : PyData → Bool) (l : List PyData) : ((l.map f).all id) = l.all f := by
  rw [List.all_map]
  rfl
section
variable {P : Program} {w : World} {K : PySem.W.Frag} {mg : Str → Option Value} {base : Heap}
def spIsEx (K : PySem.W.Frag) : Sp := fun vs H Q _ => ∃ (p : Addr) (v : V) (d : PyData) (n : Int), vs = [v, .int n] ∧ Da K p H v d ∧ ∀ H', Same H H' → Q (.bl (exD n d)) H'
theorem ok_isex {f fI : Addr} {fd dI : FuncData} (F : Fun K "is_exchange" "is_exchange" sIsExchange f fd) (B : Glb mg) (GI : FnOk P w K mg base CX0 1 fI dI ["value"] (spIsInt K)) (gI : mg "is_integer" = some (.ref fI)) (kI : PySem.W.keepIn K (.ref fI) = true) (bI : Binds K dI ["value"] []) :
    FnOk P w K mg base CX0 2 f fd ["value", "length"] (spIsEx K) := by
  refine F.ok scIsExchange (fun vs H Q E h => ?_) (fun cdv A outer s H vs Q E hr h => ?_)
  · obtain ⟨p, v, d, n, rfl, _⟩ := h
    rfl
  · obtain ⟨p, v, d, n, rfl, D, q⟩ := h
    refine ⟨_, pss_cons (ps_if (PW.pt (pw_or (pt_not (pt_val (pe_callB call_isi (by rfl) B.isi boot_isinstance (pa_cons (pv 0) (pa_cons (pe_bltn (v := .ty "tuple") (by rfl) B.tuple boot_tuple rfl) pa_nil)))))
        (pw_or (pt_cmpR op_ne (pe_callB call_len (by rfl) B.len PySem.boot_len (pa_cons (pv 0) pa_nil)) pe_int (nomark _))
        (pw_or1 (pt_not (pt_val (pe_callB (cr_all rfl) (by rfl) B.all (by decide +kernel) (pa_cons (pe_lc (own := [("index", 6)]) (g := gName 6) (tt := tYes) rfl scIsExchange.nd (pi_tup (pv 0))
          (blkOk_by (own := [("index", 6)]) (N := ["value", "length", "i", "j", "k", "l", "index"]) (sc := defScope sIsExchange) (by decide +kernel)) (fun _ _ _ _ _ => pg_name (i := 6) scIsExchange.nd rfl (Or.inl rfl)) (fun _ _ _ _ _ => pts_nil)
          (fun _ _ _ _ _ => pe_call GI hr (by rfl) gI kI bI .nil pass0 (pa_cons (pv 6) pa_nil))) pa_nil)))))))) (pss_one (ps_ret pe_bl)) pss_nil)
      (pss_cons (ps_asg (pv 0) (pg_tup rfl (pgs_cons (pg_name (i := 2) scIsExchange.nd rfl (.inl rfl)) (pgs_cons (pg_name (i := 3) scIsExchange.nd rfl (.inl rfl)) (pgs_cons (pg_name (i := 4) scIsExchange.nd rfl (.inl rfl)) (pgs_cons (pg_name (i := 5) scIsExchange.nd rfl (.inl rfl)) pgs_nil))))))
      (pss_one (ps_ret (pe_ch pe_int (ch_link op_le (pv 2) (ch_link op_lt (pv 3) (ch_link op_le (pv 4) (ch_link op_lt (pv 5) (ch_last op_le (pv 1)))))))))), ?_⟩
    refine ⟨_, rfl, v, _, _, _, _, rfl, .ty _, da_ty D, kit_ty (kit_tuple d), _, rfl, ?_⟩
    cases hi : isTup d with
    | false =>
      refine iteT ?_
      have e : false = exD n d := by cases d <;> first | rfl | cases hi
      rw [e]
      exact q H (.refl H)
    | true =>
      obtain ⟨ds, rfl⟩ : ∃ ds, d = .tuple ds := by cases d <;> first | exact ⟨_, rfl⟩ | cases hi
      cases D with
      | @tup a xs _ hs hd =>
        have hl := hd.length
        refine iteF ⟨_, rfl, .ref a, xs.length, rfl, .inr ⟨_, hs, rfl⟩, rfl, _, rfl, ?_⟩
        by_cases h4 : xs.length = 4
        · rw [decide_eq_true (by rw [h4]; rfl)]
          refine iteF ⟨_, rfl, a, rfl, ⟨_, hs⟩, fun Dl hD => ?_⟩
          refine lcN_tup (K := K) (a := a) (xs := xs) (fun i H' => H' Dl = some (.lst (((ds.take i).map intD).map V.bl)) ∧ Same H H') ⟨upd_same, same_new hD⟩ (fun i H' _ hp => hp.2.keeps.t _ _ hs) (fun i x H' hx hp => ⟨rfl, ?_⟩) (fun H' hp => ?_)
          · obtain ⟨e, he, De⟩ := hd.at hx
            refine ⟨_, rfl, p, x, e, rfl, da_keep hp.2.keepA De, ?_⟩
            refine ⟨_, hp.1, Evl.sz_lt ?_, ?_, ?_⟩
            · rw [List.length_map, List.length_map, List.length_take]
              omega
            · rw [upd_same, List.take_add_one, he, List.map_append, List.map_append]
              rfl
            · intro b o z
              rw [upd_ne (ne_of_none z hD)]
              exact hp.2 b o z
          · obtain ⟨eD, sm⟩ := hp
            rw [hl, List.take_length] at eD
            refine ⟨Dl, ds.map intD, rfl, .inl (.inl eD), _, rfl, ?_⟩
            rw [all_id]
            obtain ⟨d1, d2, d3, d4, rfl⟩ : ∃ d1 d2 d3 d4, ds = [d1, d2, d3, d4] := by
              rw [h4] at hl
              match ds, hl with
              | [a, b, c, d], _ => exact ⟨a, b, c, d, rfl⟩
            cases ha : [d1, d2, d3, d4].all intD with
            | false =>
              refine iteT ?_
              rw [← ex_ints (n := n) ha]
              exact q H' sm
            | true =>
              have hs' := sm.keeps.t _ _ hs
              simp only [List.all_cons, List.all_nil, Bool.and_true, Bool.and_eq_true] at ha
              obtain ⟨a1, a2, a3, a4⟩ := ha
              obtain ⟨i, rfl⟩ := int_case a1
              obtain ⟨j, rfl⟩ := int_case a2
              obtain ⟨k, rfl⟩ := int_case a3
              obtain ⟨l, rfl⟩ := int_case a4
              have qf := q H' sm
              obtain ⟨x1, x2, x3, x4, rfl, e1, e2, e3, e4⟩ : ∃ x1 x2 x3 x4, xs = [x1, x2, x3, x4] ∧ Da K p H x1 (.int i) ∧ Da K p H x2 (.int j) ∧ Da K p H x3 (.int k) ∧ Da K p H x4 (.int l) := by
                cases hd with
                | cons a1 hd => cases hd with
                  | cons a2 hd => cases hd with
                    | cons a3 hd => cases hd with
                      | cons a4 hd => cases hd; exact ⟨_, _, _, _, rfl, a1, a2, a3, a4⟩
              cases e1
              cases e2
              cases e3
              cases e4
              · skip
                refine iteF ⟨_, rfl, a, _, rfl, hs', rfl, _, _, rfl, _, _, rfl, _, _, rfl, _, _, rfl, rfl, ?_⟩
                have eq : exD n (.tuple [.int i, .int j, .int k, .int l]) = (decide (0 ≤ i) && (decide (i < j) && (decide (j ≤ k) && (decide (k < l) && decide (l ≤ n))))) := rfl
                rw [eq] at qf
                refine ⟨_, rfl, _, _, rfl, rfl, _, rfl, ?_⟩
                cases h1 : decide (0 ≤ i) with
                | false => rw [h1] at qf; exact iteF qf
                | true =>
                  rw [h1] at qf
                  refine iteT ⟨_, rfl, _, _, rfl, rfl, _, rfl, ?_⟩
                  cases h2 : decide (i < j) with
                  | false => rw [h2] at qf; exact iteF qf
                  | true =>
                    rw [h2] at qf
                    refine iteT ⟨_, rfl, _, _, rfl, rfl, _, rfl, ?_⟩
                    cases h3 : decide (j ≤ k) with
                    | false => rw [h3] at qf; exact iteF qf
                    | true =>
                      rw [h3] at qf
                      refine iteT ⟨_, rfl, _, _, rfl, rfl, _, rfl, ?_⟩
                      cases h5 : decide (k < l) with
                      | false => rw [h5] at qf; exact iteF qf
                      | true =>
                        rw [h5] at qf
                        exact iteT ⟨_, rfl, _, _, rfl, rfl, qf⟩
        · rw [decide_eq_false (fun z => h4 (by have := V.int.inj z; omega))]
          refine iteT ?_
          rw [← ex_len (n := n) (ds := ds) (by omega)]
          exact q H (.refl H)
end
end My
set_option Elab.async false
set_option linter.all false
set_option maxRecDepth 100000
set_option maxHeartbeats 4000000
/-! _law_is_swap, of any value -/
namespace My
open PySem PySem.Spec PyProof.Rows L2
theorem ex_not {n : Int} {d : PyData} (h : isTup d = false) : exD n d = false := by cases d <;> first | rfl | cases h
section
variable {P : Program} {w : World} {K : PySem.W.Frag} {mg : Str → Option Value} {base : Heap}
def spLISE (K : PySem.W.Frag) : Sp := fun vs H Q _ => ∃ (p : Addr) (v : V) (d : PyData) (n : Int), vs = [v, .int n] ∧ Da K p H v d ∧ ∀ H', Same H H' → Q (.bl (exD n d)) H'
theorem ok_lisE {fa : Addr} {fd : FuncData} (F : Fun K "_law_is_swap" "_law_is_swap" sLIsSwap fa fd) (B : Glb mg) : FnOk P w K mg base CX0 1 fa fd ["value", "many"] (spLISE K) := by
  refine F.ok scLIsSwap (fun vs H Q E h => ?_) (fun cdv A outer s H vs Q E hr h => ?_)
  · obtain ⟨p, v, d, n, rfl, _⟩ := h
    rfl
  · obtain ⟨p, v, d, n, rfl, D, q⟩ := h
    refine ⟨_, pss_cons (ps_if (PW.pt (pw_or (pt_not (pt_val (pe_callB call_isi (by rfl) B.isi boot_isinstance (pa_cons (pv 0) (pa_cons (pe_bltn (v := .ty "tuple") (by rfl) B.tuple boot_tuple rfl) pa_nil)))))
        (pw_or1 (pt_cmpR op_ne (pe_callB call_len (by rfl) B.len PySem.boot_len (pa_cons (pv 0) pa_nil)) pe_int (nomark _))))) (pss_one (ps_ret pe_bl)) pss_nil)
      (pss_cons (ps_if (pt_cmpR (op_neNil hr.units) (pe_lc (own := [("one", 2)]) (g := gName 2) (tt := tOr (tNot (tB (tCB (rIsi K) (tCons (tVar 2) (tCons (tC (.ty "int")) tNil))))) (tB (tCB (rIsi K) (tCons (tVar 2) (tCons (tC (.ty "bool")) tNil))))) rfl scLIsSwap.nd (pi_tup (pv 0))
          (blkOk_by (own := [("one", 2)]) (N := ["value", "many", "one"]) (sc := defScope sLIsSwap) (by decide +kernel)) (fun _ _ _ _ _ => pg_name (i := 2) scLIsSwap.nd rfl (Or.inl rfl))
          (fun _ _ _ _ _ => pts_one (PW.pt (pw_or (pt_not (pt_val (pe_callB call_isi (by rfl) B.isi boot_isinstance (pa_cons (pv 2) (pa_cons (pe_bltn (v := .ty "int") (by rfl) B.int boot_int rfl) pa_nil)))))
            (pw_or1 (pt_val (pe_callB call_isi (by rfl) B.isi boot_isinstance (pa_cons (pv 2) (pa_cons (pe_bltn (v := .ty "bool") (by rfl) B.bool boot_bool rfl) pa_nil))))))))
          (fun _ _ _ _ _ => pv 2)) (pe_lst pa_nil) (nomark _)) (pss_one (ps_ret pe_bl)) pss_nil)
      (pss_one (ps_ret (pe_ch pe_int (ch_link op_le (pe_ix ix_tup (pv 0) pe_int (fun _ _ => rfl)) (ch_link op_lt (pe_ix ix_tup (pv 0) pe_int (fun _ _ => rfl)) (ch_link op_le (pe_ix ix_tup (pv 0) pe_int (fun _ _ => rfl)) (ch_link op_lt (pe_ix ix_tup (pv 0) pe_int (fun _ _ => rfl)) (ch_last op_le (pv 1)))))))))), ?_⟩
    refine ⟨_, rfl, v, _, _, _, _, rfl, .ty _, da_ty D, kit_ty (kit_tuple d), _, rfl, ?_⟩
    cases hi : isTup d with
    | false =>
      refine iteT ?_
      rw [← ex_not (n := n) hi]
      exact q H (.refl H)
    | true =>
      obtain ⟨ds, rfl⟩ : ∃ ds, d = .tuple ds := by cases d <;> first | exact ⟨_, rfl⟩ | cases hi
      cases D with
      | @tup a xs _ hs hd =>
        have hl := hd.length
        refine iteF ⟨_, rfl, .ref a, xs.length, rfl, .inr ⟨_, hs, rfl⟩, rfl, _, rfl, ?_⟩
        by_cases h4 : xs.length = 4
        · rw [decide_eq_true (by rw [h4]; rfl)]
          refine iteF ?_
          refine ⟨_, rfl, a, rfl, ⟨_, hs⟩, fun Dl hD => ?_⟩
          refine lc_tup (K := K) (a := a) (xs := xs) (g := gName 2) (fun i H' => ∃ ys, H' Dl = some (.lst ys) ∧ ys.isEmpty = (ds.take i).all intD ∧ ys.length ≤ i ∧ Same H H') ⟨[], upd_same, rfl, Nat.zero_le _, same_new hD⟩ (fun i H' _ hp => let ⟨_, _, _, _, sm⟩ := hp; sm.keeps.t _ _ hs) (fun i x H' hx hp => ?_) (fun H1 hp => ?_)
          · obtain ⟨ys, eD, ey, ly, sm⟩ := hp
            obtain ⟨e, he, De⟩ := hd.at hx
            have De := da_keep sm.keepA De
            have li : i < 4 := by
              have := (List.getElem?_eq_some_iff.mp hx).1
              omega
            have ht : (ds.take (i + 1)).all intD = ((ds.take i).all intD && intD e) := by
              rw [List.take_add_one, he, List.all_append]
              simp
            have bad : intD e = false → ∃ ys', (upd H' Dl (.lst (ys ++ [x]))) Dl = some (.lst ys') ∧ ys'.isEmpty = (ds.take (i + 1)).all intD ∧ ys'.length ≤ i + 1 ∧ Same H (upd H' Dl (.lst (ys ++ [x]))) := fun hn => by
              refine ⟨ys ++ [x], upd_same, ?_, by rw [List.length_append]; show _ + 1 ≤ _; omega, ?_⟩
              · rw [ht, hn, Bool.and_false]
                cases ys <;> rfl
              · intro b o z
                rw [upd_ne (ne_of_none z hD)]
                exact sm b o z
            refine ⟨rfl, ?_⟩
            refine ⟨_, rfl, x, _, _, _, _, rfl, .ty _, da_ty De, kit_ty (kit_int e), _, rfl, ?_⟩
            cases h1 : isInt e with
            | false =>
              have hn : intD e = false := by cases e <;> first | rfl | cases h1
              exact iteT ⟨_, rfl, ys, eD, Evl.sz_lt (by omega), bad hn⟩
            | true =>
              refine iteF ⟨_, rfl, x, _, _, _, _, rfl, .ty _, da_ty De, kit_ty (kit_bool e), _, rfl, ?_⟩
              cases h2 : isBool e with
              | false =>
                have hn : intD e = true := by cases e <;> first | rfl | (cases h1; done) | (cases h2; done)
                exact iteF ⟨ys, eD, by rw [ht, hn, Bool.and_true]; exact ey, by omega, sm⟩
              | true =>
                have hn : intD e = false := by cases e <;> first | rfl | cases h2
                exact iteT ⟨_, rfl, ys, eD, Evl.sz_lt (by omega), bad hn⟩
          · obtain ⟨ys, eD, ey, ly, s1⟩ := hp
            rw [hl, List.take_length] at ey
            refine ⟨by show 0 ≤ sizeLine; decide, fun e he => ?_⟩
            have s2 := same_new (o := HO.lst []) he
            refine ⟨Dl, e, ys, rfl, rfl, .inl ⟨.inl (.inl (s2 _ _ eD)), .inl (.inl upd_same)⟩, _, rfl, ?_⟩
            rw [ey]
            have S := s1.trans s2
            generalize upd H1 e (.lst []) = H2 at S
            obtain ⟨d1, d2, d3, d4, rfl⟩ : ∃ d1 d2 d3 d4, ds = [d1, d2, d3, d4] := by
              rw [h4] at hl
              match ds, hl with
              | [a, b, c, d], _ => exact ⟨a, b, c, d, rfl⟩
            cases ha : [d1, d2, d3, d4].all intD with
            | false =>
              refine iteT ?_
              rw [← ex_ints (n := n) ha]
              exact q H2 S
            | true =>
              have hs' := S.keeps.t _ _ hs
              simp only [List.all_cons, List.all_nil, Bool.and_true, Bool.and_eq_true] at ha
              obtain ⟨a1, a2, a3, a4⟩ := ha
              obtain ⟨i, rfl⟩ := int_case a1
              obtain ⟨j, rfl⟩ := int_case a2
              obtain ⟨k, rfl⟩ := int_case a3
              obtain ⟨l, rfl⟩ := int_case a4
              have qf := q H2 S
              obtain ⟨x1, x2, x3, x4, rfl, e1, e2, e3, e4⟩ : ∃ x1 x2 x3 x4, xs = [x1, x2, x3, x4] ∧ Da K p H x1 (.int i) ∧ Da K p H x2 (.int j) ∧ Da K p H x3 (.int k) ∧ Da K p H x4 (.int l) := by
                cases hd with
                | cons a1 hd => cases hd with
                  | cons a2 hd => cases hd with
                    | cons a3 hd => cases hd with
                      | cons a4 hd => cases hd; exact ⟨_, _, _, _, rfl, a1, a2, a3, a4⟩
              cases e1
              cases e2
              cases e3
              cases e4
              have eq : exD n (.tuple [.int i, .int j, .int k, .int l]) = (decide (0 ≤ i) && (decide (i < j) && (decide (j ≤ k) && (decide (k < l) && decide (l ≤ n))))) := rfl
              rw [eq] at qf
              refine iteF ⟨_, rfl, a, _, 0, .int i, rfl, rfl, hs', rfl, _, _, rfl, rfl, _, rfl, ?_⟩
              cases h1 : decide (0 ≤ i) with
              | false => rw [h1] at qf; exact iteF qf
              | true =>
                rw [h1] at qf
                refine iteT ⟨_, rfl, a, _, 1, .int j, rfl, rfl, hs', rfl, _, _, rfl, rfl, _, rfl, ?_⟩
                cases h2 : decide (i < j) with
                | false => rw [h2] at qf; exact iteF qf
                | true =>
                  rw [h2] at qf
                  refine iteT ⟨_, rfl, a, _, 2, .int k, rfl, rfl, hs', rfl, _, _, rfl, rfl, _, rfl, ?_⟩
                  cases h3 : decide (j ≤ k) with
                  | false => rw [h3] at qf; exact iteF qf
                  | true =>
                    rw [h3] at qf
                    refine iteT ⟨_, rfl, a, _, 3, .int l, rfl, rfl, hs', rfl, _, _, rfl, rfl, _, rfl, ?_⟩
                    cases h5 : decide (k < l) with
                    | false => rw [h5] at qf; exact iteF qf
                    | true =>
                      rw [h5] at qf
                      exact iteT ⟨_, rfl, _, _, rfl, rfl, qf⟩
        · rw [decide_eq_false (fun z => h4 (by have := V.int.inj z; omega))]
          refine iteT ?_
          rw [← ex_len (n := n) (ds := ds) (by omega)]
          exact q H (.refl H)
end
end My
set_option Elab.async false
set_option linter.all false
set_option maxRecDepth 100000
set_option maxHeartbeats 4000000
namespace My
open PySem PySem.Spec PyProof.Rows L2
theorem lt_one (a b : Nat) : decide (([a] : List Nat) < [b]) = decide (a < b) := decide_eq_decide.mpr (by rw [List.cons_lt_cons_iff]; simp)
def odds (cs : List Nat) : List V := (cs.filter fun c => !lowC c).map fun c => V.str (sign c)
theorem odds_snoc_yes (cs : List Nat) {c : Nat} (h : lowC c = true) : odds (cs ++ [c]) = odds cs := by
  unfold odds
  rw [List.filter_append, List.map_append, List.filter_cons, h]
  simp
theorem odds_snoc_no (cs : List Nat) {c : Nat} (h : lowC c = false) : odds (cs ++ [c]) = odds cs ++ [.str (sign c)] := by
  unfold odds
  rw [List.filter_append, List.map_append, List.filter_cons, h]
  simp
theorem odds_nil : ∀ cs : List Nat, (odds cs).isEmpty = cs.all lowC
  | [] => rfl
  | c :: r => by
    unfold odds
    rw [List.filter_cons, List.all_cons, ← odds_nil r]
    cases h : lowC c <;> simp [odds]
theorem low_tests (c : Nat) : lowC c = ((!decide (([c] : List Nat) < [97])) && (!decide (([122] : List Nat) < [c]))) := by
  rw [lt_one, lt_one]
  unfold lowC
  by_cases h1 : c < 97
  · rw [decide_eq_true h1, decide_eq_false (by omega)]
    rfl
  · by_cases h2 : 122 < c
    · rw [decide_eq_true h2, decide_eq_false (show ¬ (97 ≤ c ∧ c ≤ 122) by omega), decide_eq_false h1]
      rfl
    · rw [decide_eq_false h1, decide_eq_false h2, decide_eq_true (by omega)]
      rfl
theorem len_odds (cs : List Nat) : (odds cs).length ≤ cs.length := by
  unfold odds
  rw [List.length_map]
  exact List.length_filter_le _ _
section
variable {P : Program} {w : World} {K : PySem.W.Frag} {mg : Str → Option Value} {base : Heap} {t1 t2 : Tok}
theorem ok_lname {f : Addr} {fd : FuncData} (F : Fun K "_law_is_name" "_law_is_name" sLName f fd) (B : Glb mg) : FnOk P w K mg base CX0 1 f fd ["value"] (spIsName K) := by
  refine F.ok scLName (fun vs H Q E h => ?_) (fun cdv A outer s H vs Q E hr h => ?_)
  · obtain ⟨p, v, d, rfl, _⟩ := h
    rfl
  · obtain ⟨p, v, d, rfl, D, hx, q⟩ := h
    refine ⟨_, pss_cons (ps_if (PW.pt (pw_or (pt_not (pt_val (pe_callB call_isi (by rfl) B.isi boot_isinstance (pa_cons (pv 0) (pa_cons (pe_bltn (v := .ty "str") (by rfl) B.str boot_str rfl) pa_nil)))))
        (pw_or1 (pt_not (pt_chain op_le op_le pe_int (pe_callB call_len (by rfl) B.len PySem.boot_len (pa_cons (pv 0) pa_nil)) pe_int))))) (pss_one (ps_ret pe_bl)) pss_nil)
      (pss_one (ps_ret (pe_cmpR (op_eqNil hr.units) (pe_lc (own := [("sign", 1)]) (g := gName 1) rfl scLName.nd (pi_str (pv 0))
        (blkOk_by (own := [("sign", 1)]) (N := ["value", "sign"]) (sc := defScope sLName) (by decide +kernel)) (fun _ _ _ _ _ => pg_name (i := 1) scLName.nd rfl (Or.inl rfl))
        (fun _ _ _ _ _ => pts_one (pt_not (pt_chain op_le_str op_le_str pe_str (pv 1) pe_str))) (fun _ _ _ _ _ => pv 1)) (pe_lst pa_nil) (nomark _)))), ?_⟩
    refine ⟨_, rfl, v, _, _, _, _, rfl, .ty _, da_ty D, kit_ty (kit_str d), _, rfl, ?_⟩
    cases hi : isStr d with
    | false =>
      refine iteT ?_
      rw [← nm_not hi]
      exact q H (.refl H)
    | true =>
      obtain ⟨x, rfl⟩ := str_case hi
      cases D
      have hxl := hx x rfl
      have e0 : nmD (.str x) = nmS x := rfl
      refine iteF ⟨_, rfl, .str x, x.length, rfl, ⟨Evl.sz_of hxl, rfl⟩, _, _, rfl, rfl, _, rfl, ?_⟩
      have e1 : decide ((1 : Int) ≤ (x.length : Int)) = decide (1 ≤ x.length) := decide_eq_decide.mpr (by omega)
      have e2 : decide ((x.length : Int) ≤ (8 : Int)) = decide (x.length ≤ 8) := decide_eq_decide.mpr (by omega)
      rw [e1]
      by_cases h1 : 1 ≤ x.length
      · rw [decide_eq_true h1]
        refine iteT ⟨_, _, rfl, rfl, _, rfl, ?_⟩
        rw [e2]
        by_cases h8 : x.length ≤ 8
        · rw [decide_eq_true h8]
          refine iteF ⟨_, rfl, x, rfl, fun Dl hD => ?_⟩
          refine lcT_str (x := x) (fun c => !lowC c) (fun i H' => H' Dl = some (.lst (odds (x.cps.toList.take i))) ∧ Same H H') ⟨upd_same, same_new hD⟩ (fun i c H' hc hp => ⟨rfl, fun R hR => ?_, fun hb => ?_, fun hb => ?_⟩) (fun H' hp => ?_)
          · refine ⟨_, rfl, _, _, rfl, rfl, _, rfl, ?_⟩
            rw [low_tests] at hR
            show (if (!decide (([c] : List Nat) < [97])) = true then _ else _)
            cases z1 : decide (([c] : List Nat) < [97]) with
            | true =>
              refine iteF ⟨_, rfl, ?_⟩
              rw [z1] at hR
              exact hR
            | false =>
              refine iteT ⟨_, _, rfl, rfl, _, rfl, ?_⟩
              rw [z1] at hR
              exact hR
          · have hb' : lowC c = false := by simpa using hb
            refine ⟨_, rfl, _, hp.1, Evl.sz_lt ?_, ?_, fun b o e => ?_⟩
            · have := len_odds (x.cps.toList.take i)
              rw [List.length_take] at this
              have := str_len x
              omega
            · rw [upd_same, List.take_add_one, hc]
              show _ = some (HO.lst (odds (List.take i x.cps.toList ++ [c])))
              rw [odds_snoc_no _ hb']
            · rw [upd_ne (ne_of_none e hD)]
              exact hp.2 b o e
          · have hb' : lowC c = true := by simpa using hb
            refine ⟨?_, hp.2⟩
            rw [List.take_add_one, hc]
            show _ = some (HO.lst (odds (List.take i x.cps.toList ++ [c])))
            rw [odds_snoc_yes _ hb']
            exact hp.1
          · obtain ⟨eD, sm⟩ := hp
            rw [str_len, List.take_length] at eD
            refine ⟨by show 0 ≤ sizeLine; decide, fun e he => ?_⟩
            have se := same_new (o := HO.lst []) he
            refine ⟨Dl, e, odds x.cps.toList, rfl, rfl, .inl ⟨.inl (.inl (se _ _ eD)), .inl (.inl upd_same)⟩, ?_⟩
            show Q (.bl (odds x.cps.toList).isEmpty) _
            rw [odds_nil, show x.cps.toList.all lowC = nmD (.str x) by rw [e0, nmS, decide_eq_true ⟨h1, h8⟩]; rfl]
            exact q _ (sm.trans se)
        · rw [decide_eq_false h8]
          refine iteT ?_
          rw [show false = nmD (.str x) by rw [e0, nmS, decide_eq_false fun z => h8 z.2]; rfl]
          exact q H (.refl H)
      · rw [decide_eq_false h1]
        refine iteF ⟨_, rfl, iteT ?_⟩
        rw [show false = nmD (.str x) by rw [e0, nmS, decide_eq_false fun z => h1 z.1]; rfl]
        exact q H (.refl H)
end
end My
set_option Elab.async false
set_option linter.all false
set_option maxRecDepth 100000
set_option maxHeartbeats 4000000
/-! _law_is_order, of any value -/
namespace My
open PySem PySem.Spec PyProof.Rows L2
/-- a tuple of at most twelve different names -/
def ordD : PyData → Bool
  | .tuple ds => decide (ds.length ≤ 12) && namesD ds
  | _ => false
theorem ordD_not {d : PyData} (h : isTup d = false) : ordD d = false := by cases d <;> first | rfl | cases h
section
variable {P : Program} {w : World} {K : PySem.W.Frag} {mg : Str → Option Value} {base : Heap}
def spLOrd (K : PySem.W.Frag) : Sp := fun vs H Q _ => ∃ (p : Addr) (v : V) (d : PyData), vs = [v] ∧ Da K p H v d ∧ FitN d ∧ ∀ H', Same H H' → Q (.bl (ordD d)) H'
theorem ok_lord {f fN : Addr} {fd dN : FuncData} (F : Fun K "_law_is_order" "_law_is_order" sLIsOrder f fd) (B : Glb mg) (GN : FnOk P w K mg base CX0 1 fN dN ["value"] (spIsName K)) (gN : mg "_law_is_name" = some (.ref fN)) (kN : PySem.W.keepIn K (.ref fN) = true) (bN : Binds K dN ["value"] []) :
    FnOk P w K mg base CX0 2 f fd ["value"] (spLOrd K) := by
  refine F.ok scLIsOrder (fun vs H Q E h => ?_) (fun cdv A outer s H vs Q E hr h => ?_)
  · obtain ⟨p, v, d, rfl, _⟩ := h
    rfl
  · obtain ⟨p, v, d, rfl, D, hf, q⟩ := h
    refine ⟨_, pss_cons (ps_if (PW.pt (pw_or (pt_not (pt_val (pe_callB call_isi (by rfl) B.isi boot_isinstance (pa_cons (pv 0) (pa_cons (pe_bltn (v := .ty "tuple") (by rfl) B.tuple boot_tuple rfl) pa_nil)))))
        (pw_or (pt_cmpR op_gt (pe_callB call_len (by rfl) B.len PySem.boot_len (pa_cons (pv 0) pa_nil)) pe_int (nomark _))
        (pw_or1 (pt_cmpR (op_neNil hr.units) (pe_lc (own := [("one", 1)]) (g := gName 1) (tt := tNot (tB (tCall (spIsName K) [] E0 (tCons (tVar 1) tNil)))) rfl scLIsOrder.nd (pi_tup (pv 0))
          (blkOk_by (own := [("one", 1)]) (N := ["value", "one"]) (sc := defScope sLIsOrder) (by decide +kernel)) (fun _ _ _ _ _ => pg_name (i := 1) scLIsOrder.nd rfl (Or.inl rfl))
          (fun _ _ _ _ _ => pts_one (pt_not (pt_val (pe_call GN hr (by rfl) gN kN bN .nil pass0 (pa_cons (pv 1) pa_nil))))) (fun _ _ _ _ _ => pv 1)) (pe_lst pa_nil) (nomark _)))))) (pss_one (ps_ret pe_bl)) pss_nil)
      (pss_one (ps_ret (pe_cmpR op_eq (pe_callB call_lenK (by rfl) B.len PySem.boot_len (pa_cons (pe_callTy (call_setOf rfl) (by rfl) B.set (by decide +kernel) (pa_cons (pv 0) pa_nil)) pa_nil)) (pe_callB call_len (by rfl) B.len PySem.boot_len (pa_cons (pv 0) pa_nil)) (nomark _)))), ?_⟩
    refine ⟨_, rfl, v, _, _, _, _, rfl, .ty _, da_ty D, kit_ty (kit_tuple d), _, rfl, ?_⟩
    cases hi : isTup d with
    | false =>
      refine iteT ?_
      rw [← ordD_not hi]
      exact q H (.refl H)
    | true =>
      obtain ⟨ds, rfl⟩ : ∃ ds, d = .tuple ds := by cases d <;> first | exact ⟨_, rfl⟩ | cases hi
      cases D with
      | @tup a xs _ hs hd =>
        have dl := hd.length
        have few := hf.few
        have txt := hf.txt
        refine iteF ⟨_, rfl, .ref a, xs.length, rfl, .inr ⟨_, hs, rfl⟩, _, _, rfl, rfl, _, rfl, ?_⟩
        by_cases l12 : ds.length ≤ 12
        · rw [decide_eq_false (show ¬ (12 : Int) < (xs.length : Nat) by omega)]
          refine iteF ⟨_, rfl, a, rfl, ⟨_, hs⟩, fun Dl hD => ?_⟩
          refine lc_tup (K := K) (a := a) (xs := xs) (g := gName 1) (fun i H' => ∃ ys, H' Dl = some (.lst ys) ∧ ys.isEmpty = (ds.take i).all nmD ∧ ys.length ≤ i ∧ Same H H') ⟨[], upd_same, rfl, Nat.zero_le _, same_new hD⟩ (fun i H' _ hp => let ⟨_, _, _, _, sm⟩ := hp; sm.keeps.t _ _ hs) (fun i x H' hx hp => ?_) (fun H' hp => ?_)
          · obtain ⟨ys, eD, ey, ly, sm⟩ := hp
            obtain ⟨e, he, De⟩ := hd.at hx
            have li : i < 12 := by
              have := (List.getElem?_eq_some_iff.mp hx).1
              omega
            refine ⟨rfl, ?_⟩
            refine ⟨_, rfl, p, x, e, rfl, da_keep sm.keepA De, txt e (List.mem_of_getElem? he), fun H2 s2 => ⟨_, rfl, ?_⟩⟩
            have ht : (ds.take (i + 1)).all nmD = ((ds.take i).all nmD && nmD e) := by
              rw [List.take_add_one, he, List.all_append]
              simp
            cases hn : nmD e with
            | true =>
              refine iteF ⟨ys, s2 _ _ eD, by rw [ht, hn, Bool.and_true]; exact ey, by omega, sm.trans s2⟩
            | false =>
              refine iteT ⟨_, rfl, ys, s2 _ _ eD, Evl.sz_lt (by omega), ys ++ [x], upd_same, ?_, by rw [List.length_append]; show _ + 1 ≤ _; omega, ?_⟩
              · rw [ht, hn, Bool.and_false]
                cases ys <;> rfl
              · intro b o z
                rw [upd_ne (ne_of_none z hD)]
                exact s2 b o (sm b o z)
          · obtain ⟨ys, eD, ey, ly, sm⟩ := hp
            rw [dl, List.take_length] at ey
            refine ⟨by show 0 ≤ sizeLine; decide, fun e he => ?_⟩
            have s2 := same_new (o := HO.lst []) he
            refine ⟨Dl, e, ys, rfl, rfl, .inl ⟨.inl (.inl (s2 _ _ eD)), .inl (.inl upd_same)⟩, _, rfl, ?_⟩
            rw [ey]
            generalize upd H' e (.lst []) = H2 at s2
            have S2 := sm.trans s2
            have eO : ordD (.tuple ds) = namesD ds := by
              show (decide (ds.length ≤ 12) && namesD ds) = _
              rw [decide_eq_true l12, Bool.true_and]
            rw [eO] at q
            cases ha : ds.all nmD with
            | false =>
              refine iteT ?_
              have e : false = namesD ds := by rw [namesD, ha]; rfl
              rw [e]
              exact q H2 S2
            | true =>
              have ek := tx_keys hd ha
              have hs' := S2.keeps.t _ _ hs
              have hs2 := hs'
              rw [ek] at hs2
              refine iteF ⟨_, rfl, a, _, rfl, .inr hs2, by rw [List.length_map]; show _ ≤ 1000; exact few, fun t2 ht2 => ?_⟩
              have s3 := same_new (o := SetK P w t2 (inK (metK [] (ds.map fun d => (Sum.inr (txtD d) : Key)))) (metK [] (ds.map fun d => (Sum.inr (txtD d) : Key))).length) ht2
              have few2 := len_metK_le (ds.map fun d => (Sum.inr (txtD d) : Key)) []
              rw [List.length_map, List.length_nil] at few2
              refine ⟨t2, _, _, rfl, upd_same, by omega, _, rfl, .ref a, xs.length, rfl, .inr ⟨_, s3.keeps.t _ _ hs', rfl⟩, rfl, ?_⟩
              have en : decide (V.int (((metK [] (ds.map fun d => (Sum.inr (txtD d) : Key))).length : Nat) : Int) = V.int ((xs.length : Nat) : Int)) = namesD ds := by
                rw [namesD, ha, Bool.true_and]
                refine decide_eq_decide.mpr ?_
                have k := len_metK_eq (ds.map fun d => (Sum.inr (txtD d) : Key)) [] List.nodup_nil
                rw [List.nil_append, List.length_map, List.length_nil, nodup_keys] at k
                rw [← k, dl]
                constructor
                · intro z
                  have := V.int.inj z
                  omega
                · intro z
                  rw [show (metK [] (ds.map fun d => (Sum.inr (txtD d) : Key))).length = ds.length by omega]
              rw [en]
              exact q _ (S2.trans s3)
        · rw [decide_eq_true (show (12 : Int) < (xs.length : Nat) by omega)]
          refine iteT ?_
          have e : false = ordD (.tuple ds) := by
            show false = (decide (ds.length ≤ 12) && namesD ds)
            rw [decide_eq_false l12, Bool.false_and]
          rw [e]
          exact q H (.refl H)
end
end My
set_option Elab.async false
set_option linter.all false
set_option maxRecDepth 100000
set_option maxHeartbeats 4000000
/-! an own error's __init__: it keeps the value -/
namespace My
open PySem PySem.Spec PyProof.Rows L2
section
variable {P : Program} {w : World} {K : PySem.W.Frag} {mg : Str → Option Value} {base : Heap}
def spErr (K : PySem.W.Frag) (C : Addr) : Sp := fun vs H Q _ => ∃ (a : Addr) (x : V), vs = [.ref a, x] ∧ H a = some (exo a C none) ∧ OexC K C ∧ PySem.W.findIn K (.ref C) "value" = some none ∧
  ∀ dx, H dx = none → dx ≠ a → Q .non (upd (upd H dx (exd dx [("value", x)])) a (exo a C (some dx)))
theorem ok_errInit {f C : Addr} {fd : FuncData} (F : Fun K "__init__" "InvalidOrder.__init__" sInvalidOrderInit f fd) : FnOk P w K mg base CX0 1 f fd ["self", "value"] (spErr K C) := by
  refine F.ok scInvalidOrderInit (fun vs H Q E h => ?_) (fun cdv A outer s H vs Q E hr h => ?_)
  · obtain ⟨a, x, rfl, _⟩ := h
    rfl
  · obtain ⟨a, x, rfl, ha, T, no, q⟩ := h
    refine ⟨_, pss_one (ps_ost (pv 0) (pv 1)), ?_⟩
    refine ⟨_, rfl, _, rfl, a, C, rfl, T, no, .inl ⟨ha, fun dx h1 h2 => ?_⟩⟩
    exact q dx h1 h2
end
end My
set_option Elab.async false
set_option linter.all false
set_option maxRecDepth 100000
set_option maxHeartbeats 4000000
/-! InvalidExchange's __init__ -/
namespace My
open PySem PySem.Spec PyProof.Rows L2
section
variable {P : Program} {w : World} {K : PySem.W.Frag} {mg : Str → Option Value} {base : Heap}
theorem ok_errExch {f C : Addr} {fd : FuncData} (F : Fun K "__init__" "InvalidExchange.__init__" sInvalidExchangeInit f fd) : FnOk P w K mg base CX0 1 f fd ["self", "value"] (spErr K C) := by
  refine F.ok scInvalidExchangeInit (fun vs H Q E h => ?_) (fun cdv A outer s H vs Q E hr h => ?_)
  · obtain ⟨a, x, rfl, _⟩ := h
    rfl
  · obtain ⟨a, x, rfl, ha, T, no, q⟩ := h
    refine ⟨_, pss_one (ps_ost (pv 0) (pv 1)), ?_⟩
    refine ⟨_, rfl, _, rfl, a, C, rfl, T, no, .inl ⟨ha, fun dx h1 h2 => ?_⟩⟩
    exact q dx h1 h2
end
end My
set_option Elab.async false
set_option linter.all false
set_option maxRecDepth 100000
set_option maxHeartbeats 4000000
/-! the names of what is an order -/
namespace My
open PySem PySem.Spec PyProof.Rows L2
theorem nm_name {x : Str} (h : nmS x = true) : NameOk x := by
  unfold nmS at h
  simp only [Bool.and_eq_true, decide_eq_true_eq, List.all_eq_true] at h
  obtain ⟨⟨h1, h2⟩, h3⟩ := h
  refine ⟨by omega, by omega, fun c hc => ?_⟩
  have q := h3 c hc
  unfold lowC at q
  have := of_decide_eq_true q
  omega
/-- the texts of an order -/
def nsD (d : PyData) : List Str := (itemsD d).map txtD
theorem ord_items {K : PySem.W.Frag} {p : Addr} {H : Hp} {v : V} {d : PyData} (D : Da K p H v d) (h : ordD d = true) : ∃ a, v = .ref a ∧ SqT K H a ((nsD d).map V.str) ∧ (nsD d).length ≤ 12 ∧ d = .tuple ((nsD d).map .str) ∧ (∀ x ∈ nsD d, NameOk x) ∧ (nsD d).Nodup := by
  obtain ⟨ds, rfl⟩ : ∃ ds, d = .tuple ds := by cases d <;> first | exact ⟨_, rfl⟩ | cases h
  have h : (decide (ds.length ≤ 12) && (ds.all nmD && decide (ds.map txtD).Nodup)) = true := h
  simp only [Bool.and_eq_true, decide_eq_true_eq] at h
  obtain ⟨h1, h2, h3⟩ := h
  cases D with
  | @tup a xs _ hs hd =>
    have ek := tx_keys hd h2
    refine ⟨a, rfl, ?_, by show (ds.map txtD).length ≤ 12; rw [List.length_map]; exact h1, ?_, ?_, h3⟩
    · rw [ek] at hs
      have e : ((nsD (.tuple ds)).map V.str) = (ds.map fun d => (Sum.inr (txtD d) : Key)).map kV := by
        show ((ds.map txtD).map V.str) = _
        rw [List.map_map, List.map_map]
        rfl
      rw [e]
      exact hs
    · show PyData.tuple ds = .tuple ((ds.map txtD).map .str)
      rw [List.map_map]
      congr 1
      have : ∀ l : List PyData, l.all nmD = true → l = l.map (PyData.str ∘ txtD) := by
        intro l
        induction l with
        | nil => exact fun _ => rfl
        | cons x r ih =>
          intro q
          rw [List.all_cons, Bool.and_eq_true] at q
          rw [List.map_cons, ← ih q.2]
          cases x with
          | str z => rfl
          | _ => exact absurd q.1 Bool.false_ne_true
      exact this ds h2
    · intro x hx
      obtain ⟨z, hz, rfl⟩ := List.mem_map.mp hx
      have q := List.all_eq_true.mp h2 z hz
      cases z with
      | str z => exact nm_name q
      | _ => exact absurd q Bool.false_ne_true
end My
set_option Elab.async false
set_option linter.all false
set_option maxRecDepth 100000
set_option maxHeartbeats 4000000
/-! check_order, of any value -/
namespace My
open PySem PySem.Spec PyProof.Rows L2
section
variable {P : Program} {w : World} {K : PySem.W.Frag} {mg : Str → Option Value} {base : Heap} {t1 : Tok}
def spChkE (K : PySem.W.Frag) (C : Addr) : Sp := fun vs H Q E => ∃ (p : Addr) (v : V) (d : PyData), vs = [v] ∧ Da K p H v d ∧ FitN d ∧ (ordD d = true → ∀ H', Same H H' → Q .non H') ∧
  (ordD d = false → ∀ dd H', Same H H' → H dd = none → H' dd = some (.xd [("value", v)]) → E (.ref C) (some dd) H')
theorem ok_chkE {f fN fI C : Addr} {fd dN dI : FuncData} (F : Fun K "check_order" "check_order" sCheckOrder f fd) (B : Glb mg) (g1 : mg "MOST_IN_ORDER" = some (.int 12 t1)) (GN : FnOk P w K mg base CX0 2 fN dN ["value"] (spNL K)) (gN : mg "is_name_list" = some (.ref fN)) (kN : PySem.W.keepIn K (.ref fN) = true) (bN : Binds K dN ["value"] [])
    (T : OexC K C) (iC : PySem.W.findIn K (.ref C) "__init__" = some (some (.ref fI))) (tI : PySem.W.typeIn K (.ref fI) = some (.type "function")) (FI : Fun K "__init__" "InvalidOrder.__init__" sInvalidOrderInit fI dI) (bI : Binds K dI ["self", "value"] []) (no : PySem.W.findIn K (.ref C) "value" = some none) (gC : mg "InvalidOrder" = some (.ref C)) :
    FnOk P w K mg base (CX P w) 3 f fd ["value"] (spChkE K C) := by
  refine F.okX scCheckOrder (fun vs H Q E h => ?_) (fun cdv A outer s H vs Q E hr h => ?_)
  · obtain ⟨p, v, d, rfl, _⟩ := h
    rfl
  · obtain ⟨p, v, d, rfl, D, hf, q1, q2⟩ := h
    refine ⟨_, pss_one (ps_if (PW.pt (pw_or (pt_not (pt_val (pe_callB call_isi (by rfl) B.isi boot_isinstance (pa_cons (pv 0) (pa_cons (pe_bltn (v := .ty "tuple") (by rfl) B.tuple boot_tuple rfl) pa_nil)))))
        (pw_or (pt_not (pt_val (pe_call GN hr (by rfl) gN kN bN .nil pass0 (pa_cons (pv 0) pa_nil))))
        (pw_or1 (pt_cmpR op_gt (pe_callB call_len (by rfl) B.len PySem.boot_len (pa_cons (pv 0) pa_nil)) (pe_glob (v := .int 12) (by rfl) g1 ⟨_, rfl⟩) (nomark _))))))
        (pss_one (ps_raise rfl (takes_of rfl rfl rfl rfl) (pmk_oex T iC tI (ok_errInit (C := C) FI) hr bI .nil pass0 (by rfl) gC (pa_cons (pv 0) pa_nil)))) pss_nil), ?_⟩
    have raise : ordD d = false → ∀ H1, Same H H1 → tMkO C (spErr K C) [] (tCons (tVar 0) tNil) [some v] H1 (fun cls dd H' => E cls dd H') := fun nd H1 s1 =>
      ⟨_, rfl, by show 1 ≤ 1000; decide, fun a ha => ⟨a, v, rfl, upd_same, T, no, fun dx h1 h2 => ⟨rfl, dx, _, upd_same, (upd_ne h2).trans upd_same, (upd_ne h2).symm.trans h1, by
        have hd1 : H1 dx = none := (upd_ne h2).symm.trans h1
        refine q2 nd dx _ (fun b o e => ?_) (Option.eq_none_iff_forall_ne_some.mpr fun o e => by rw [s1 _ _ e] at hd1; cases hd1) upd_same
        have e1 := s1 _ _ e
        have ba : b ≠ a := ne_of_none e1 ha
        have bd : b ≠ dx := ne_of_none e1 hd1
        rw [upd_ne bd, del_ne ba, upd_ne ba, upd_ne bd, upd_ne ba]
        exact e1⟩⟩⟩
    refine ⟨_, rfl, v, _, _, _, _, rfl, .ty _, da_ty D, kit_ty (kit_tuple d), _, rfl, ?_⟩
    cases hi : isTup d with
    | false => exact iteT (raise (ordD_not hi) H (.refl H))
    | true =>
      obtain ⟨ds, rfl⟩ : ∃ ds, d = .tuple ds := by cases d <;> first | exact ⟨_, rfl⟩ | cases hi
      have eO : ordD (.tuple ds) = (decide (ds.length ≤ 12) && namesD ds) := rfl
      refine iteF ⟨_, rfl, p, v, _, rfl, D, hf, fun H1 s1 => ⟨_, rfl, ?_⟩⟩
      cases hn : nlD (.tuple ds) with
      | false =>
        have hn : namesD ds = false := hn
        exact iteT (raise (by rw [eO, hn, Bool.and_false]) H1 s1)
      | true =>
        have hn : namesD ds = true := hn
        cases D with
        | @tup a xs _ hs hd =>
          have dl := hd.length
          refine iteF ⟨_, rfl, .ref a, xs.length, rfl, .inr ⟨_, s1.keeps.t _ _ hs, rfl⟩, _, _, rfl, rfl, _, rfl, ?_⟩
          by_cases l12 : ds.length ≤ 12
          · rw [decide_eq_false (show ¬ (12 : Int) < (xs.length : Nat) by omega)]
            exact iteF (q1 (by rw [eO, hn, decide_eq_true l12]; rfl) H1 s1)
          · rw [decide_eq_true (show (12 : Int) < (xs.length : Nat) by omega)]
            exact iteT (raise (by rw [eO, decide_eq_false l12, Bool.false_and]) H1 s1)
end
end My
set_option Elab.async false
set_option linter.all false
set_option maxRecDepth 100000
set_option maxHeartbeats 4000000
/-! exchanged_order, of any two values -/
namespace My
open PySem PySem.Spec PyProof.Rows L2
section
variable {P : Program} {w : World} {K : PySem.W.Frag} {mg : Str → Option Value} {base : Heap}
def lenD : PyData → Nat
  | .tuple ds => ds.length
  | _ => 0
theorem exD_nat {n : Nat} {ds : List PyData} (h : exD (n : Int) (.tuple ds) = true) : ∃ i j k l : Nat, ds = [.int (i : Int), .int (j : Int), .int (k : Int), .int (l : Int)] ∧ ExOk n i j k l := by
  have e : (decide (ds.length = 4) && (ds.all intD && chkE (n : Int) (ds.map valD))) = true := h
  simp only [Bool.and_eq_true, decide_eq_true_eq] at e
  obtain ⟨e1, e2, e3⟩ := e
  match ds, e1, e2, e3 with
  | [a, b, c, d], _, e2, e3 =>
    simp only [List.all_cons, List.all_nil, Bool.and_true, Bool.and_eq_true] at e2
    obtain ⟨a1, a2, a3, a4⟩ := e2
    obtain ⟨i, rfl⟩ := int_case a1
    obtain ⟨j, rfl⟩ := int_case a2
    obtain ⟨k, rfl⟩ := int_case a3
    obtain ⟨l, rfl⟩ := int_case a4
    have e4 : (decide (0 ≤ i) && (decide (i < j) && (decide (j ≤ k) && (decide (k < l) && decide (l ≤ (n : Int)))))) = true := e3
    simp only [Bool.and_eq_true, decide_eq_true_eq] at e4
    obtain ⟨b1, b2, b3, b4, b5⟩ := e4
    refine ⟨i.toNat, j.toNat, k.toNat, l.toNat, ?_, ?_⟩
    · rw [Int.toNat_of_nonneg (by omega), Int.toNat_of_nonneg (by omega), Int.toNat_of_nonneg (by omega), Int.toNat_of_nonneg (by omega)]
    · exact ⟨by omega, by omega, by omega, by omega⟩
def spExE (K : PySem.W.Frag) (CO CX : Addr) : Sp := fun vs H Q E => ∃ (p : Addr) (v1 v2 : V) (d1 d2 : PyData), vs = [v1, v2] ∧ Da K p H v1 d1 ∧ FitN d1 ∧ Da K p H v2 d2 ∧
  (ordD d1 = true → exD (lenD d1 : Nat) d2 = true → ∀ v H', Same H H' → Q v H') ∧
  (ordD d1 = false → ∀ dd H', Same H H' → H dd = none → H' dd = some (.xd [("value", v1)]) → E (.ref CO) (some dd) H') ∧
  (ordD d1 = true → exD (lenD d1 : Nat) d2 = false → ∀ dd H', Same H H' → H dd = none → H' dd = some (.xd [("value", v2)]) → E (.ref CX) (some dd) H')
theorem ok_exE {f fC f2 f3 fI CO CX' : Addr} {fd dC d2 d3 dI : FuncData} (F : Fun K "exchanged_order" "exchanged_order" sExchangedOrder f fd) (B : Glb mg) (GC : FnOk P w K mg base (CX P w) 3 fC dC ["value"] (spChkE K CO)) (gC : mg "check_order" = some (.ref fC)) (kC : PySem.W.keepIn K (.ref fC) = true) (bC : Binds K dC ["value"] [])
    (C2 : Has P w K mg base 2 "is_exchange" ["value", "length"] (spIsEx K) f2 d2) (C3 : Has P w K mg base 1 "after_exchange" ["things", "exchange"] (spAft K) f3 d3)
    (T : OexC K CX') (iC : PySem.W.findIn K (.ref CX') "__init__" = some (some (.ref fI))) (tI : PySem.W.typeIn K (.ref fI) = some (.type "function")) (FI : Fun K "__init__" "InvalidExchange.__init__" sInvalidExchangeInit fI dI) (bI : Binds K dI ["self", "value"] []) (no : PySem.W.findIn K (.ref CX') "value" = some none) (gX : mg "InvalidExchange" = some (.ref CX')) :
    FnOk P w K mg base (CX P w) 4 f fd ["order", "exchange"] (spExE K CO CX') := by
  refine F.okX scExchangedOrder (fun vs H Q E h => ?_) (fun cdv A outer s H vs Q E hr h => ?_)
  · obtain ⟨p, v1, v2, d1, d2, rfl, _⟩ := h
    rfl
  · obtain ⟨p, v1, v2, d1, d2, rfl, D1, hf, D2, q1, q2, q3⟩ := h
    have hr1 := hr.mono (show 1 ≤ 3 by decide)
    have hr2 := hr.mono (show 2 ≤ 3 by decide)
    refine ⟨_, pss_cons (ps_expr (pe_callS GC hr (by rfl) gC kC bC (fun σ => passAt (takes_of rfl rfl rfl rfl) σ) (pa_cons (pv 0) pa_nil)))
      (pss_cons (ps_if (pt_not (pt_val (pe_has C2 hr2 (by rfl) (pa_cons (pv 1) (pa_cons (pe_callB call_len (by rfl) B.len PySem.boot_len (pa_cons (pv 0) pa_nil)) pa_nil)))))
        (pss_one (ps_raise rfl (takes_of rfl rfl rfl rfl) (pmk_oex T iC tI (ok_errExch (C := CX') FI) hr2 bI .nil pass0 (by rfl) gX (pa_cons (pv 1) pa_nil)))) pss_nil)
      (pss_one (ps_ret (pe_has C3 hr1 (by rfl) (pa_cons (pv 0) (pa_cons (pv 1) pa_nil)))))), ?_⟩
    refine ⟨_, rfl, p, v1, d1, rfl, D1, hf, fun o1 H1 s1 => ?_, q2⟩
    obtain ⟨a, rfl, ha, fa, ea, na, _⟩ := ord_items D1 o1
    obtain ⟨ds, rfl⟩ : ∃ ds, d1 = .tuple ds := by cases d1 <;> first | exact ⟨_, rfl⟩ | cases o1
    have h1 := s1.keeps.t _ _ ha
    have ll : (nsD (.tuple ds)).length = ds.length := by show (ds.map txtD).length = _; rw [List.length_map]
    refine ⟨_, rfl, _, rfl, .ref a, ((nsD (.tuple ds)).map V.str).length, rfl, .inr ⟨_, h1, rfl⟩, p, v2, d2, _, rfl, da_keep s1.keepA D2, fun H2 s2 => ⟨_, rfl, ?_⟩⟩
    rw [List.length_map, ll]
    have S2 := s1.trans s2
    cases hx : exD (ds.length : Nat) d2 with
    | false =>
      refine iteT ⟨_, rfl, by show 1 ≤ 1000; decide, fun x hx' => ⟨x, v2, rfl, upd_same, T, no, fun dx n1 n2 => ⟨rfl, dx, _, upd_same, (upd_ne n2).trans upd_same, (upd_ne n2).symm.trans n1, ?_⟩⟩⟩
      have hd2 : H2 dx = none := (upd_ne n2).symm.trans n1
      refine q3 o1 hx dx _ (fun b o e => ?_) (Option.eq_none_iff_forall_ne_some.mpr fun o e => by rw [S2 _ _ e] at hd2; cases hd2) upd_same
      have e1 := S2 _ _ e
      have ba : b ≠ x := ne_of_none e1 hx'
      have bd : b ≠ dx := ne_of_none e1 hd2
      rw [upd_ne bd, del_ne ba, upd_ne ba, upd_ne bd, upd_ne ba]
      exact e1
    | true =>
      obtain ⟨es, rfl⟩ : ∃ es, d2 = .tuple es := by cases d2 <;> first | exact ⟨_, rfl⟩ | cases hx
      obtain ⟨i, j, k, l, rfl, ex⟩ := exD_nat hx
      cases D2 with
      | @tup b xs _ hs hd =>
        obtain ⟨x1, x2, x3, x4, rfl, e1, e2, e3, e4⟩ : ∃ x1 x2 x3 x4, xs = [x1, x2, x3, x4] ∧ Da K p H x1 (.int i) ∧ Da K p H x2 (.int j) ∧ Da K p H x3 (.int k) ∧ Da K p H x4 (.int l) := by
          cases hd with
          | cons a1 hd => cases hd with
            | cons a2 hd => cases hd with
              | cons a3 hd => cases hd with
                | cons a4 hd => cases hd; exact ⟨_, _, _, _, rfl, a1, a2, a3, a4⟩
        cases e1
        cases e2
        cases e3
        cases e4
        refine iteF ⟨_, rfl, _, rfl, a, b, (nsD (.tuple ds)).map V.str, i, j, k, l, rfl, S2.keeps.t _ _ ha, S2.keeps.t _ _ hs, by rw [List.length_map]; omega, fun c H3 s3 t3 => ?_⟩
        exact q1 o1 hx _ _ (S2.trans s3)
end
end My
set_option Elab.async false
set_option linter.all false
set_option maxRecDepth 100000
set_option maxHeartbeats 4000000
/-! what stays where tables of code objects grow -/
namespace My
open PySem PySem.Spec PyProof.Rows L2 LamX
theorem tabs_none {q : Str} {P : Addr} {H : Hp} (h : H P = some (.tbl #[])) : Tabs [(P, q)] H := fun p hp => by
  rw [List.mem_singleton.mp hp]
  exact ⟨#[], h, by trivial, fun pos cv z => by cases z⟩
theorem tabs_at {T : List (Addr × Str)} {H H' : Hp} {p : Addr} (h : Tabs T H) (s : ∀ b o, b ≠ p → H b = some o → H' b = some o) (np : ∀ ps, H p ≠ some (.tbl ps)) (nc : ∀ g, H p ≠ some (.ext g)) : Tabs T H' := fun t ht => by
  obtain ⟨ps, h1, h2, h3⟩ := h t ht
  refine ⟨ps, s _ _ (fun z => np ps (z ▸ h1)) h1, h2, fun pos cv hc => ?_⟩
  obtain ⟨c, e1, e2⟩ := h3 pos cv hc
  exact ⟨c, e1, s _ _ (fun z => nc _ (z ▸ e2)) e2⟩
theorem tabs_pen {T : List (Addr × Str)} {H H' : Hp} {p c : Addr} {n : Nat} (h : Tabs T H) (G : PenAt H p c n) (s : SameP p H H') : Tabs T H' := by
  obtain ⟨ns, t, r, e, _⟩ := G.ex
  exact tabs_at h s (fun ps z => by rw [e] at z; cases z) (fun g z => by rw [e] at z; cases z)
theorem PenAt.ext {H H' : Hp} {p c : Addr} {n : Nat} (G : PenAt H p c n) (s : ExtN H H') : PenAt H' p c n := by
  obtain ⟨ns, t, r, e1, e2, r3⟩ := G.ex
  exact ⟨ns, t, r, s _ _ e1 (fun ps z => by cases z), s _ _ e2 (fun ps z => by cases z), r3⟩
theorem extN_bare {H H' : Hp} {a : Addr} (s : ExtN H H') (h : BareT H a) : BareT H' a := by
  obtain ⟨ob, xs, e, d⟩ := h
  exact ⟨ob, xs, s _ _ e (fun ps z => by cases z), d⟩
theorem extN_t {K : PySem.W.Frag} {H H' : Hp} (e : ExtN H H') {a : Addr} {xs : List V} (h : SqT K H a xs) : SqT K H' a xs := by
  rcases h with (h | ⟨ob, h⟩) | h
  · exact .inl (.inl (e _ _ h fun ps z => by cases z))
  · exact .inl (.inr ⟨ob, e _ _ h fun ps z => by cases z⟩)
  · exact .inr h
theorem extN_l {K : PySem.W.Frag} {H H' : Hp} (e : ExtN H H') {a : Addr} {xs : List V} (h : SqL K H a xs) : SqL K H' a xs := by
  rcases h with (h | ⟨ob, h⟩) | h
  · exact .inl (.inl (e _ _ h fun ps z => by cases z))
  · exact .inl (.inr ⟨ob, e _ _ h fun ps z => by cases z⟩)
  · exact .inr h
theorem extN_keepA {K : PySem.W.Frag} {p : Addr} {H H' : Hp} (e : ExtN H H') : KeepA K p H H' := ⟨fun _ _ h => extN_l e h, fun _ _ h => extN_t e h, fun _ _ _ h => e _ _ h fun ps z => by cases z⟩
theorem GdV.ext {m1 m2 : Nat} {K : PySem.W.Frag} {p : Addr} {H H' : Hp} {v : V} (h : GdV m1 m2 K p H v) (s : ExtN H H') : GdV m1 m2 K p H' v := let ⟨d, a, b, c⟩ := h; ⟨d, da_keep (extN_keepA s) a, b, fun z => let ⟨x, y, q⟩ := c z; ⟨x, y, extN_bare s q⟩⟩
theorem GdL.ext {m1 m2 : Nat} {K : PySem.W.Frag} {p : Addr} {H H' : Hp} {xs : List V} (h : GdL m1 m2 K p H xs) (s : ExtN H H') : GdL m1 m2 K p H' xs := fun v hv => (h v hv).ext s
end My
set_option Elab.async false
set_option linter.all false
set_option maxRecDepth 100000
set_option maxHeartbeats 4000000
/-! defs whose code object is known: a lambda is made in them -/
namespace My
open PySem PySem.Spec PyProof.Rows L2
/-- a def whose code object is known -/
structure FunC (K : PySem.W.Frag) (x qual : Str) (st : Stmt) (f : Addr) (fd : FuncData) (c : Addr) : Prop where
  ex : ∃ (oc : Value) (od : Option Addr) (kV doc pm : Value) (an : Option Addr) (ct : Value) (osl : Array (Option Value)),
    fd = PySem.W.fnOf x qual (defArgs st) (defBody st) (defScope st) .none kV doc pm an (.ref c) ct ∧ K.lookup f = some ⟨oc, od, .func fd, osl⟩ ∧ PySem.W.codeIn K (.ref c) qual = true
section
variable {P : Program} {w : World} {K : PySem.W.Frag} {mg : Str → Option Value} {base : Heap}
theorem FunC.ok {x qual : Str} {st : Stmt} {f c : Addr} {fd : FuncData} {N ps : List Str} {k : Nat} {sp : Sp} (F : FunC K x qual st f fd c) (S : FnScope N ps (defScope st)) (len : ∀ vs H Q E, sp vs H Q E → vs.length = ps.length)
    (hbody : ∀ (A : Around) (outer : List Env) (s : Shared) (H : Hp) (vs : List V) (Q : VK) (E : XK), Room k (A.deeper (envOfC qual (defScope st) s.heap.objs.size f (.ref c))) → sp vs H Q E →
      ∃ t, PSs (cxOf CX0 P w K mg base N qual (defScope st) f (.ref c) A outer s H E).nox (defBody st) t ∧ t { nx := fun _ H' => Q .non H', rt := Q } (start N vs) H) : FnOk P w K mg base CX0 (k + 1) f fd ps sp := by
  obtain ⟨oc, od, kV, doc, pm, an, ct, osl, rfl, lk, hcd⟩ := F.ex
  refine fn_of lk hcd S len fun A outer s H vs Q E hr hsp => ?_
  obtain ⟨t, h, q⟩ := hbody A outer s H vs Q E hr hsp
  exact ⟨t, h.nox, q⟩
/-- the same of a def that shows values -/
theorem FunC.okG {x qual : Str} {st : Stmt} {f c : Addr} {fd : FuncData} {N ps : List Str} {k : Nat} {sp : Sp} (F : FunC K x qual st f fd c) (S : FnScope N ps (defScope st)) (len : ∀ vs H Q E, sp vs H Q E → vs.length = ps.length)
    (hbody : ∀ (A : Around) (outer : List Env) (s : Shared) (H : Hp) (vs : List V) (Q : VK) (E : XK), Still A → Room k (A.deeper (envOfC qual (defScope st) s.heap.objs.size f (.ref c))) → sp vs H Q E →
      ∃ t, PSs (cxOf CX0 P w K mg base N qual (defScope st) f (.ref c) A outer s H E).nox (defBody st) t ∧ t { nx := fun _ H' => Q .non H', rt := Q } (start N vs) H) : FnG P w K mg base CX0 (k + 1) f fd ps sp := by
  obtain ⟨oc, od, kV, doc, pm, an, ct, osl, rfl, lk, hcd⟩ := F.ex
  refine fn_ofG lk hcd S len fun A outer s H vs Q E sl hr hsp => ?_
  obtain ⟨t, h, q⟩ := hbody A outer s H vs Q E sl hr hsp
  exact ⟨t, h.nox, q⟩
end
end My
set_option Elab.async false
set_option linter.all false
set_option maxRecDepth 100000
set_option maxHeartbeats 4000000
/-! a != b, both None, or tuples of the same flat items -/
namespace My
open PySem PySem.Spec PyProof.Rows L2
def SameV (K : PySem.W.Frag) (H : Hp) (x y : V) : Prop := (x = .non ∧ y = .non) ∨ ∃ a b, ∃ xs : List V, x = .ref a ∧ y = .ref b ∧ SqT K H a xs ∧ SqT K H b xs ∧ ∀ v ∈ xs, flatB v = true
def rNeS (K : PySem.W.Frag) : R2 := fun x y H Q => SameV K H x y ∧ Q (.bl false) H
theorem op_neS {X : Cx} (hu : X.A.units + 64 < cLine) : OpR X (compareOp .NotEq) (rNeS X.K) := by
  intro pins s σ H x y v u Q I rx ry ⟨h, q⟩
  rcases h with ⟨rfl, rfl⟩ | ⟨a, b, xs, rfl, rfl, ha, hb, fl⟩
  · cases (show v = Value.none from rx)
    cases (show u = Value.none from ry)
    exact SeqAt.RcNeAt.none_none _ _ _ _ ⟨.bl false, H, I, rfl, q⟩
  · cases (show v = Value.ref a from rx)
    cases (show u = Value.ref b from ry)
    obtain ⟨its, r1, p1, _⟩ := I.tuple ha
    obtain ⟨its2, r2, p2, _⟩ := I.tuple hb
    have l1 := r1.length
    have l2 := r2.length
    have he : ∀ j (h1 : j < its.toArray.size) (h2 : j < its2.toArray.size), SeqAt.EqAt X.A.in1 s its.toArray[j] its2.toArray[j] ((fun _ => true) j) := fun j h1 h2 => by
      have h1' : j < its.length := by simpa using h1
      have h2' : j < its2.length := by simpa using h2
      have hx : xs[j]? = some xs[j] := List.getElem?_eq_getElem (by omega)
      obtain ⟨w1, e1, q1⟩ := r1.get hx
      obtain ⟨w2, e2, q2⟩ := r2.get hx
      have z1 : its.toArray[j] = w1 := by
        have := (List.getElem?_eq_some_iff.mp e1).2
        simpa using this
      have z2 : its2.toArray[j] = w2 := by
        have := (List.getElem?_eq_some_iff.mp e2).2
        simpa using this
      rw [z1, z2]
      exact eqAt_same q1 q2 (fl _ (List.mem_of_getElem? hx))
    have e : (!((List.range (min its.toArray.size its2.toArray.size)).all (fun _ => true) && its.toArray.size == its2.toArray.size)) = false := by
      have : its.length = its2.length := by omega
      simp [this]
    have R := SeqAt.RcNeAt.tuples (A := X.A) (s := s) p1 p2 (by omega) he
    rw [e] at R
    exact R _ _ _ _ ⟨.bl false, H, I, rfl, q⟩
end My
set_option Elab.async false
set_option linter.all false
set_option maxRecDepth 100000
set_option maxHeartbeats 4000000
/-! The end of a law whose def shows values, with tables of code objects. -/
namespace My
open PySem PySem.Spec PyProof.Rows L2
section
variable {P : Program} {w : World} {K : PySem.W.Frag} {mg mb : Str → Option Value} {CX : CXT} {k : Nat} {fa a : Addr} {fd : FuncData} {x : Str} {sp : Sp} {s : Shared} {vs : List Value} {ns : List Int} {cs : List (Addr × Addr)}
/-- what is said of the tables -/
structure TabsAt (K : PySem.W.Frag) (cs : List (Addr × Addr)) (mg : Str → Option Value) (h : Heap) : Prop where
  tb : ∀ p ∈ cs, h.get? p.2 = some { cls := .none, data := .fields #[] }
  lk : ∀ p ∈ cs, K.lookup p.2 = none
  hd : ∀ p ∈ cs, PySem.W.CodeHd h p.1 p.2
  bm : ∃ bm ob, mg "__builtins__" = some (.ref bm) ∧ bm ≠ builtinsNs ∧ h.get? bm = some ob ∧ ob.cls = .type "module" ∧ ob.dict = some builtinsNs ∧ ob.data = .plain
/-- the abstract heap in which at most the script and the tables are tracked -/
structure BareTab (K : PySem.W.Frag) (a : Addr) (cs : List (Addr × Addr)) (H : Hp) : Prop where
  only : ∀ b, H b = none ∨ (b = a ∧ ∃ o xs, H b = some (.frz o (.lst xs))) ∨ (∃ p ∈ cs, b = p.2 ∧ H b = some (.tbl #[]))
  free : H a ≠ none → K.lookup a = none
theorem law_atT (B : Behind K mg mb a vs s) (TA : TabsAt K cs mg s.heap) (hr : Room k callerA) (F : ∀ base : Heap, K.In base → base.Ns mainGlobals mg → (∀ p ∈ cs, LamX.TabB base mg p.1 p.2) → FnG P w K mg base CX k fa fd [x] sp)
    (bind : ∀ (s : Shared) (u : Value), BindsTo s fd ⟨[u], []⟩ [(x, u)]) (hCX : ∀ H e s', CX [] H s (fun _ _ _ => False) e s' → False)
    (H : Hp) (W : BareTab K a cs H) (hok : HOk P w H s.heap) (hp : sp [.ref a] H (fun v _ => v = .bl true) fun _ _ _ => False) :
    codeAny (model P w) callerA (.call (.ref fa) ⟨[.ref a], []⟩) (fun r s' => r = .ok (.ret (.bool true)) ∧ OldK s.heap s'.heap ∧ s'.os = s.os ∧ AllBare s'.gens) s := by
  have nz : ∀ {b : Addr} {o : Obj}, s.heap.get? b = some o → (∀ xs n, o.data ≠ .seq xs n) → (∀ fs, o.data = .fields fs → o.cls ≠ .none) → H b = none := fun {b o} e h1 h2 => by
    rcases W.only b with z | ⟨rfl, _⟩ | ⟨p, hp, rfl, _⟩
    · exact z
    · rw [B.ob] at e
      cases e
      exact absurd rfl (h1 _ _)
    · rw [TA.tb p hp] at e
      cases e
      exact absurd rfl (h2 _ rfl)
  have apart : ∀ {b : Addr} {o : Obj}, s.heap.get? b = some o → (∀ xs n, o.data ≠ .seq xs n) → (∀ fs, o.data = .fields fs → o.cls ≠ .none) → (hidT s.heap H).get? b = some o := fun {b o} e h1 h2 => hidT_get e (nz e h1 h2)
  have ns : ∀ {b : Addr} {m : Str → Option Value}, s.heap.Ns b m → (hidT s.heap H).Ns b m := fun {b m} ⟨o, es, ep, e, d, r⟩ => ⟨o, es, ep, apart e (fun _ _ z => by rw [d] at z; cases z) (fun _ z => by rw [d] at z; cases z), d, r⟩
  have kb : K.In (hidT s.heap H) := fun b o e => by
    refine hidT_get (B.kin b o e) ?_
    rcases W.only b with z | ⟨rfl, _⟩ | ⟨p, hp, rfl, _⟩
    · exact z
    · by_cases q : H b = none
      · exact q
      · have := W.free q
        rw [e] at this
        cases this
    · have := TA.lk p hp
      rw [e] at this
      cases this
  obtain ⟨bm, ob, b1, b2, b3, b4, b5, b6⟩ := TA.bm
  obtain ⟨og, eg, pg, e1, e2, _⟩ := B.glob
  have tbs : ∀ p ∈ cs, LamX.TabB (hidT s.heap H) mg p.1 p.2 := fun p hp => by
    obtain ⟨o, vs', file, tf, flags, tg, inF, text, tt, c1, c2, c3, c4⟩ := TA.hd p hp
    have gp : mainGlobals ≠ p.2 := fun z => by
      rw [z, TA.tb p hp] at e1
      cases e1
      cases e2
    refine ⟨⟨o, vs', file, tf, flags, tg, inF, text, tt, apart c1 (fun _ _ z => by rw [c3] at z; cases z) (fun _ _ z => by rw [c2] at z; cases z), c2, c3, c4⟩, ⟨bm, ob, b1, b2, fun z => ?_, fun z => ?_, apart b3 (fun _ _ z => by rw [b6] at z; cases z) (fun _ z => by rw [b6] at z; cases z), b4, b5, b6⟩, gp⟩
    · rw [z, e1] at b3
      cases b3
      rw [e2] at b6
      cases b6
    · rw [z, TA.tb p hp] at b3
      cases b3
      cases b6
  have md : Mod K mg (hidT s.heap H) := ⟨kb, ns B.glob, ⟨mb, ns B.blt, B.boot⟩, match B.lim with | ⟨m, p, q⟩ => ⟨m, ns p, q⟩⟩
  have e0 : Env0 P w K mg (hidT s.heap H) callerA [] s H :=
    { frames := rfl, mod := md, bs := fun _ _ e => of_hidT e, bsz := Nat.le_of_eq (hidT_size _ _), funs := trivial, frf := fun _ z => (List.not_mem_nil z).elim, hok := hok, bare := .of_eq B.gens }
  refine codeAny_mono ((F _ kb (ns B.glob) tbs).run callerA [] s H ⟨[.ref a], []⟩ [.ref a] [.ref a] _ _ rfl hr e0 (bind s (.ref a)) (.cons rfl .nil) hp) ?_
  intro res s' z
  match res, z with
  | .error e, z => exact (hCX H e s' z).elim
  | .ok .next, z => exact z.elim
  | .ok .brk, z => exact z.elim
  | .ok .cont, z => exact z.elim
  | .ok (.ret u), ⟨v, H', os, bare, un, hok', rv, q⟩ =>
    subst q
    cases (show u = Value.bool true from rv)
    refine ⟨rfl, ⟨fun b o e => ?_, fun b o e => un.there b o e List.not_mem_nil⟩, os, bare⟩
    rcases W.only b with z | ⟨_, ob, xs, z⟩ | ⟨p, hp, rfl, z⟩
    · exact .inl (un.keep b o e z List.not_mem_nil List.not_mem_nil)
    · have h1 := (hok b _ z).1
      have h2 := (hok' b _ (un.frzs b ob _ z)).1
      rw [e] at h1
      cases h1
      exact .inl h2
    · obtain ⟨more, e'⟩ := un.tbls p.2 _ z
      have h2 : s'.heap.get? p.2 = some { cls := .none, data := .fields (#[] ++ more) } := hok' p.2 _ e'
      rw [TA.tb p hp] at e
      cases e
      obtain ⟨o, vs', file, tf, flags, tg, inF, text, tt, c1, c2, c3, c4, _⟩ := TA.hd p hp
      exact .inr (.inl ⟨⟨p.1, o, vs', c1, c2, c3, c4⟩, rfl, #[], more, rfl, h2⟩)
theorem law_endT (B : Behind K mg mb a vs s) (TA : TabsAt K cs mg s.heap) (hi : IntsAre vs ns) (hl : ns.length ≤ sizeLine) (hr : Room k callerA)
    (F : ∀ base : Heap, K.In base → base.Ns mainGlobals mg → (∀ p ∈ cs, LamX.TabB base mg p.1 p.2) → FnG P w K mg base CX k fa fd [x] sp) (bind : ∀ (s : Shared) (u : Value), BindsTo s fd ⟨[u], []⟩ [(x, u)])
    (hsp : ∀ H : Hp, (∀ p ∈ cs, H p.2 = some (.tbl #[])) → SqL K H a (ns.map V.int) → sp [.ref a] H (fun v _ => v = .bl true) fun _ _ _ => False) (hCX : ∀ H e s', CX [] H s (fun _ _ _ => False) e s' → False) :
    codeAny (model P w) callerA (.call (.ref fa) ⟨[.ref a], []⟩) (fun r s' => r = .ok (.ret (.bool true)) ∧ OldK s.heap s'.heap ∧ s'.os = s.os ∧ AllBare s'.gens) s := by
  have rv := vals_ints hi
  have le := hi.length
  have lm : (ns.map V.int).length ≤ sizeLine := by
    rw [List.length_map]
    exact hl
  have na : ∀ p ∈ cs, p.2 ≠ a := fun p hp z => by
    have := TA.tb p hp
    rw [z, B.ob] at this
    cases this
  let fz : HO := .frz { cls := .type "list", data := .seq vs.toArray } (.lst (ns.map V.int))
  let T0 : Hp := fun c => if c ∈ cs.map (·.2) then some (.tbl #[]) else none
  have t0 : ∀ p ∈ cs, T0 p.2 = some (.tbl #[]) := fun p hp => if_pos (List.mem_map_of_mem hp)
  have t1 : ∀ b, T0 b = none ∨ ∃ p ∈ cs, b = p.2 ∧ T0 b = some (.tbl #[]) := fun b => (Decidable.em (b ∈ cs.map (·.2))).elim (fun z => by
    obtain ⟨p, hp, e⟩ := List.mem_map.mp z
    exact .inr ⟨p, hp, e.symm, if_pos z⟩) fun z => .inl (if_neg z)
  have ok0 : ∀ b o, T0 b = some o → ∃ p ∈ cs, b = p.2 ∧ o = .tbl #[] := fun b o e => by
    rcases t1 b with z | ⟨p, hp, eb, z⟩
    · rw [z] at e
      cases e
    · rw [z] at e
      cases e
      exact ⟨p, hp, eb, rfl⟩
  cases q : K.lookup a with
  | some o =>
    have e := B.kin a o q
    rw [B.ob] at e
    cases e
    have hS : SqL K T0 a (ns.map V.int) := .inr ⟨_, vs.toArray, _, q, rfl, rfl, rfl, by simpa using (le ▸ hl), by simpa using rv⟩
    refine law_atT B TA hr F bind hCX T0 ⟨fun b => (t1 b).imp id .inr, fun z => ?_⟩ (fun b u z => ?_) (hsp _ t0 hS)
    · rcases t1 a with y | ⟨p, hp, eb, _⟩
      · exact absurd y z
      · exact absurd eb.symm (na p hp)
    · obtain ⟨p, hp, rfl, rfl⟩ := ok0 b u z
      exact TA.tb p hp
  | none =>
    let H : Hp := fun c => if c = a then some fz else T0 c
    have own : H a = some fz := if_pos rfl
    have oth : ∀ b, b ≠ a → H b = T0 b := fun b z => if_neg z
    refine law_atT B TA hr F bind hCX H ⟨fun b => ?_, fun _ => q⟩ (fun b u z => ?_) (hsp _ (fun p hp => (oth _ (na p hp)).trans (t0 p hp)) (.inl (.inr ⟨_, own⟩)))
    · by_cases y : b = a
      · exact .inr (.inl ⟨y, _, _, by rw [y]; exact own⟩)
      · rw [oth b y]
        exact (t1 b).imp id .inr
    · by_cases y : b = a
      · subst y
        rw [own] at z
        cases z
        exact ⟨B.ob, lm, vs, _, rv, B.ob⟩
      · rw [oth b y] at z
        obtain ⟨p, hp, rfl, rfl⟩ := ok0 b u z
        exact TA.tb p hp
end
/-- what the law's def asks for the end -/
def LawAtG (l : PySem.W.OpenLaw) (w : World) (K : PySem.W.Frag) (k n : Nat) (x : Str) (mg : Str → Option Value) (fa : Addr) (h : Heap) : Prop :=
  ∃ (fd : FuncData) (cs : List (Addr × Addr)) (sp : Sp), (∀ p ∈ cs, h.get? p.2 = some { cls := .none, data := .fields #[] }) ∧ (∀ p ∈ cs, K.lookup p.2 = none) ∧ (∀ p ∈ cs, PySem.W.CodeHd h p.1 p.2) ∧
    (∀ (s : Shared) (u : Value), BindsTo s fd ⟨[u], []⟩ [(x, u)]) ∧
    (∀ (H : Hp) (a : Addr) (ns : List Int), ns.length ≤ n → (∀ z ∈ ns, Builtin.Int.intBits z ≤ 1048576) → (∀ p ∈ cs, H p.2 = some (.tbl #[])) → SqL K H a (ns.map V.int) → sp [.ref a] H (fun v _ => v = .bl true) fun _ _ _ => False) ∧
    ∀ base : Heap, K.In base → base.Ns mainGlobals mg → (∀ p ∈ cs, LamX.TabB base mg p.1 p.2) → FnG l.prog w K mg base CX0 k fa fd [x] sp
/-- the end: a law that shows values, with tables of code objects -/
theorem walk_GT {l : PySem.W.OpenLaw} {n k : Nat} {q : Program} {loose : List Str} {XP : (Str → Option Value) → Heap → Prop} {YP : World → Heap → Prop} {d : DefRec} {K : Params → PySem.W.Frag} {x : Str}
    (hn : l.most = some n) (h2 : n ≤ sizeLine) (hd : d.params.defaults = []) (hr : Room k callerA) (hY : ∀ (w : World) (h : Heap), YP w h → (K w.params).In h)
    (F : ∀ (w : World) (mg : Str → Option Value) (fa : Addr) (h : Heap), YP w h → (K w.params).In h → h.Ns mainGlobals mg → mg d.name = some (.ref fa) → LawAtG l w (K w.params) k n x mg fa h) :
    PySem.W.WalkO q loose XP YP l.row.toRowW d [] (fun f vs => PySem.call f vs) :=
  Att.attach_callB hn hd fun w s₀ s mg mb fa o pm cd doc a vs ns G Y _ _ _ hmg hob hi hl hb hg =>
    let ⟨_, cs, sp, ht, hk, hc, bd, hsp, hF⟩ := F w mg fa _ Y (hY w _ Y) G.T.g hmg
    law_endT ⟨hY w _ Y, G.T.g, G.T.b, G.T.builtins, G.T.nolimit, hg, hob⟩ ⟨ht, hk, hc, G.T.bmain⟩ hi (Nat.le_trans hl h2) hr hF bd (fun H h1 hS => hsp H a ns hl hb h1 hS) fun _ _ _ z => z
end My
set_option Elab.async false
set_option linter.all false
set_option maxRecDepth 100000
set_option maxHeartbeats 4000000
namespace My
open PySem PySem.Spec PyProof.Rows L2 LamX
def qLam : Str := "law.<locals>.<lambda>"
theorem seq_split {t u : TS} {D : Ends} {σ : L2.St} {H : Hp} (P : L2.St → Hp → Prop) (h : ∀ nx : L2.St → Hp → Prop, (∀ σ H, P σ H → nx σ H) → t { D with nx := nx } σ H) (k : ∀ σ H, P σ H → u D σ H) : tSeq t u D σ H := h _ k
/-- the refusal that is due of two values -/
def DueX (d1 d2 : PyData) (H : Hp) (v : V) : Prop := (ordD d1 = true ∧ exD (lenD d1 : Nat) d2 = true ∧ v = .non) ∨
  (ordD d1 = false ∧ ∃ t, v = .ref t ∧ H t = some (.tup [.str "order", .str d1.shown])) ∨ (ordD d1 = true ∧ exD (lenD d1 : Nat) d2 = false ∧ ∃ t, v = .ref t ∧ H t = some (.tup [.str "exchange", .str d2.shown]))
theorem DueX.ext {d1 d2 : PyData} {H H' : Hp} {v : V} (h : DueX d1 d2 H v) (s : ExtN H H') : DueX d1 d2 H' v := by
  rcases h with h | ⟨a, t, e, x⟩ | ⟨a, b, t, e, x⟩
  · exact .inl h
  · exact .inr (.inl ⟨a, t, e, s _ _ x fun ps z => by cases z⟩)
  · exact .inr (.inr ⟨a, b, t, e, s _ _ x fun ps z => by cases z⟩)
theorem due_same {K : PySem.W.Frag} {d1 d2 : PyData} {H : Hp} {v u : V} (h : DueX d1 d2 H v) (g : DueX d1 d2 H u) : SameV K H v u := by
  have fl2 : ∀ x y : Str, ∀ z ∈ [V.str x, V.str y], flatB z = true := fun x y z hz => by
    simp only [List.mem_cons, List.not_mem_nil, or_false] at hz
    rcases hz with rfl | rfl <;> rfl
  rcases h with ⟨a1, a2, rfl⟩ | ⟨a1, t, rfl, x⟩ | ⟨a1, a2, t, rfl, x⟩ <;>
    rcases g with ⟨b1, b2, rfl⟩ | ⟨b1, r, rfl, y⟩ | ⟨b1, b2, r, rfl, y⟩ <;>
    first
    | exact .inl ⟨rfl, rfl⟩
    | (rw [a1] at b1; cases b1; done)
    | (rw [a2] at b2; cases b2; done)
    | exact .inr ⟨t, r, _, rfl, rfl, .inl (.inl x), .inl (.inl y), fl2 _ _⟩
theorem shw_of {K : PySem.W.Frag} {p : Addr} {H : Hp} {v : V} {d : PyData} (D : Da K p H v d) (g : Gm 400 2 d) : Shw K H v d := ⟨⟨p, D⟩, g.sh, Nat.le_trans g.dp (by decide), g.short (by decide)⟩
theorem exE_ans {K : PySem.W.Frag} {CO CX CW p : Addr} {H : Hp} {v1 v2 : V} {d1 d2 : PyData} {Q Q' : VK} (hQ : ∀ v H', Q .non H' → Q' v H') (D1 : Da K p H v1 d1) (D2 : Da K p H v2 d2) (g1 : Gm 400 2 d1) (g2 : Gm 400 2 d2) (k : ∀ v H', Same H H' → DueX d1 d2 H' v → Q v H') :
    spExE K CO CX [v1, v2] H Q' (RefE K CO CX CW Q) :=
  ⟨p, v1, v2, d1, d2, rfl, D1, fitN_of g1 (by decide), D2, fun o1 o2 v H' s => hQ _ _ (k _ _ s (.inl ⟨o1, o2, rfl⟩)),
    fun o1 dd H' s _ e => .inl ⟨dd, v1, d1, rfl, rfl, e, (shw_of D1 g1).keep s, fun t H2 s2 e2 => k _ _ (s.trans s2) (.inr (.inl ⟨o1, t, rfl, e2⟩))⟩,
    fun o1 o2 dd H' s _ e => .inr (.inl ⟨dd, v2, d2, rfl, rfl, e, (shw_of D2 g2).keep s, fun t H2 s2 e2 => k _ _ (s.trans s2) (.inr (.inr ⟨o1, o2, t, rfl, e2⟩))⟩)⟩
theorem ord_len {K : PySem.W.Frag} {p : Addr} {H : Hp} {v : V} {d : PyData} (D : Da K p H v d) (o : ordD d = true) : ∃ a xs, v = .ref a ∧ SqT K H a xs ∧ xs.length = lenD d := by
  obtain ⟨ds, rfl⟩ : ∃ ds, d = .tuple ds := by cases d <;> first | exact ⟨_, rfl⟩ | cases o
  cases D with
  | @tup a xs _ hs hd => exact ⟨a, xs, rfl, hs, hd.length⟩
section
variable {P : Program} {w : World} {K : PySem.W.Frag} {mg : Str → Option Value} {base : Heap}
def spLaw (K : PySem.W.Frag) (T : List (Addr × Str)) : Sp := fun vs H Q _ => ∃ (a : Addr) (ns : List Int), vs = [.ref a] ∧ SqL K H a (ns.map V.int) ∧ ns.length ≤ 63 ∧ Tabs T H ∧ ∀ H', Q (.bl true) H'
theorem ok_law {T : List (Addr × Str)} {f c P1 fR fO fD fP fS f1 f2 f3 f4 f5 f6 CO CX' CW CR CN : Addr} {fd dR dO dD dP dS d1 d2 d3 d4 d5 d6 : FuncData} (F : FunC K "law" "law" sLaw f fd c) (B : Glb mg) (TB : TabB base mg c P1) (hm : (P1, qLam) ∈ T) (one : ∀ p ∈ T, p.1 = P1 → p.2 = qLam) (R : RefC K mg CO CX' CW CR CN)
    (FR : Fun K "_law_refused" "_law_refused" sRefd fR dR) (gR : mg "_law_refused" = some (.ref fR)) (kR : PySem.W.keepIn K (.ref fR) = true) (bR : L2.Binds K dR ["call"] []) (D : Draws P w K mg base fD fP fS dD dP dS)
    (CP : Has P w K mg base 1 "_law_pen" ["script"] (spPen K) f1 d1) (CG : Has P w K mg base 3 "_law_wagons" ["pen", "many"] (spWag K) f2 d2) (CO' : Has P w K mg base 3 "_law_odd_order" ["pen", "some"] (spOddO K) f3 d3) (CS : Has P w K mg base 3 "_law_odd_swap" ["pen", "many"] (spOddS K) f4 d4)
    (CI : Has P w K mg base 2 "_law_is_order" ["value"] (spLOrd K) f5 d5) (CJ : Has P w K mg base 1 "_law_is_swap" ["value", "many"] (spLISE K) f6 d6)
    (GO : FnOk P w K mg base (L2.CX P w) 4 fO dO ["order", "exchange"] (spExE K CO CX')) (gO : mg "exchanged_order" = some (.ref fO)) (kO : PySem.W.keepIn K (.ref fO) = true) (bO : L2.Binds K dO ["order", "exchange"] []) :
    FnG P w K mg base C8.CX0 7 f fd ["script"] (spLaw K T) := by
  refine F.okG scLaw (fun vs H Q E h => ?_) (fun A outer s H vs Q E st hr h => ?_)
  · obtain ⟨a, ns, rfl, _⟩ := h
    rfl
  · obtain ⟨a, ns, rfl, hS, hl, hT, q⟩ := h
    have hr1 := hr.mono (show 1 ≤ 6 by decide)
    have hr2 := hr.mono (show 2 ≤ 6 by decide)
    have hr3 := hr.mono (show 3 ≤ 6 by decide)
    have sg : Still (A.deeper (envOfC "law" (defScope sLaw) s.heap.objs.size f (.ref c))) := st
    obtain ⟨oc, od, kV, doc, pm, an, cdv, ct, osl, rfl, lk, hcd⟩ := FR.ex
    refine ⟨_, pss_cons (ps_set (i := 1) scLaw.nd rfl (.inl rfl) (pe_has CP hr1 (by rfl) (pa_cons (pv 0) pa_nil)))
      (pss_cons (ps_for PassesOwn.never rfl (pi_range1 (by rfl) B.range (pa_cons pe_int pa_nil)) (pg_name (i := 2) scLaw.nd rfl (.inl rfl))
        (pss_cons (ps_set (i := 3) scLaw.nd rfl (.inl rfl) (pe_callTy call_tupleF (by rfl) B.tuple (by decide +kernel) (pa_cons (pe_has CG hr3 (by rfl) (pa_cons (pv 1) (pa_cons (pe_call D.oD hr1 (by rfl) D.gD D.kD D.bD .nil pass0 (pa_cons (pv 1) (pa_cons pe_int pa_nil))) pa_nil))) pa_nil)))
        (pss_one (ps_for PassesOwn.never rfl (pi_range1 (by rfl) B.range (pa_cons pe_int pa_nil)) (pg_name (i := 4) scLaw.nd rfl (.inl rfl))
          (pss_cons (ps_set (i := 7) scLaw.nd rfl (.inr rfl) (pe_call D.oP hr2 (by rfl) D.gP D.kP D.bP .nil pass0 (pa_cons (pv 1) (pa_cons (pe_lst (pa_cons (pv 3) (pa_cons (pv 3) (pa_cons (pe_has CO' hr3 (by rfl) (pa_cons (pv 1) (pa_cons (pv 3) pa_nil))) pa_nil)))) pa_nil))))
          (pss_cons (ps_set (i := 8) scLaw.nd rfl (.inr rfl) (pe_has CS hr3 (by rfl) (pa_cons (pv 1) (pa_cons (pe_callB call_len (by rfl) B.len PySem.boot_len (pa_cons (pv 3) pa_nil)) pa_nil))))
          (pss_cons (ps_par (i := 5) (j := 6) (by rfl) scLaw.nd rfl rfl (by decide) rfl rfl (pa_cons (pe_callB (call_reprA sg hr.units) (by rfl) B.repr boot_repr (pa_cons (pe_tup (pa_cons (pv 7) (pa_cons (pv 8) pa_nil))) pa_nil)) (pa_cons pe_non pa_nil)) (by rfl))
          (pss_cons (ps_if (pt_not (pt_val (pe_has CI hr2 (by rfl) (pa_cons (pv 7) pa_nil))))
              (pss_one (ps_set (i := 6) scLaw.nd rfl (.inl rfl) (pe_tup (pa_cons pe_str (pa_cons (pe_callB (call_reprA sg hr.units) (by rfl) B.repr boot_repr (pa_cons (pv 7) pa_nil)) pa_nil)))))
              (pss_one (ps_if (pt_not (pt_val (pe_has CJ hr1 (by rfl) (pa_cons (pv 8) (pa_cons (pe_callB call_len (by rfl) B.len PySem.boot_len (pa_cons (pv 7) pa_nil)) pa_nil)))))
                (pss_one (ps_set (i := 6) scLaw.nd rfl (.inl rfl) (pe_tup (pa_cons pe_str (pa_cons (pe_callB (call_reprA sg hr.units) (by rfl) B.repr boot_repr (pa_cons (pv 8) pa_nil)) pa_nil))))) pss_nil)))
          (pss_one (ps_if (PW.pt (pw_or (pt_cmpR (op_neS hr.units) (pe_lamcall (T := T) (TT := TTRef K CO CX' CW) (k := 4) (t := fun E => tCallS (spExE K CO CX') (fun _ => E) (tCons (tVar 7) (tCons (tVar 8) tNil))) (by rfl) gR kR lk hcd bR scRefd rfl (.inl rfl)
              (refd_gives R B.isi B.repr sg hr1) TB rfl hm one hr (lamS_by (sc := defScope sLaw) (by decide +kernel)) rfl (fun _ _ _ _ _ => rfl) (fun A outer s H E f c' hr' => pe_callS GO hr' (by rfl) gO kO bO (fun σ => passAt (takes_of rfl rfl rfl rfl) σ) (pa_cons (pv 7) (pa_cons (pv 8) pa_nil)))) (pv 6) (nomark _))
              (pw_or1 (pt_cmpR op_ne (pe_callB (call_reprA sg hr.units) (by rfl) B.repr boot_repr (pa_cons (pe_tup (pa_cons (pv 7) (pa_cons (pv 8) pa_nil))) pa_nil)) (pv 5) (nomark _))))) (pss_one (ps_ret pe_bl)) pss_nil))))))))))
      (pss_one (ps_ret pe_bl))), ?_⟩
    refine ⟨_, rfl, a, ns, rfl, hS, hl, fun p c0 H0 hp0 s0 G0 => ?_⟩
    refine ⟨10, rfl, by omega, by omega, ?_⟩
    refine for_range (lo := 0) (n := (10 : Int).toNat) (fun i σ H' => ∃ y2 y3 y4 y5 y6 y7 y8, σ = [some (.ref a), some (.ref p), y2, y3, y4, y5, y6, y7, y8] ∧ PenAt H' p c0 (300 * i) ∧ Tabs T H') ⟨_, _, _, _, _, _, _, rfl, G0, hT.ext s0⟩ (fun i σ H hi hp => ?_) (fun σ H hp => ?_)
    · obtain ⟨y2, y3, y4, y5, y6, y7, y8, rfl, G, hT⟩ := hp
      have hi10 : i < 10 := by omega
      -- names
      refine ⟨_, rfl, _, rfl, p, c0, _, 13, rfl, G, by omega, by decide, by decide, fun d H1 d0 d1 s1 G1 => ?_⟩
      obtain ⟨many, rfl⟩ : ∃ k : Nat, d = (k : Int) := ⟨d.toNat, by omega⟩
      refine ⟨p, c0, _, many, rfl, G1, by omega, by omega, fun l0 one H2 nm ln hl0 el s2 G2 => ?_⟩
      refine ⟨l0, _, rfl, .inl (.inl el), fun t ob ht hob => ?_⟩
      have s3 := same_new (o := HO.frz ob (HO.tup (one.map V.str))) ht
      have t3 : SqT K (upd H2 t (.frz ob (.tup (one.map V.str)))) t (one.map V.str) := .inl (.inr ⟨ob, upd_same⟩)
      have b3 : BareT (upd H2 t (.frz ob (.tup (one.map V.str)))) t := ⟨ob, _, upd_same, hob⟩
      have G3 := G2.same s3
      have T3 := (tabs_pen (tabs_pen hT G s1) G1 s2).ext s3
      generalize upd H2 t (.frz ob (.tup (one.map V.str))) = H3 at s3 t3 b3 G3 T3
      have few : one.length ≤ 12 := by omega
      have mk : ∀ {Hx : Hp} {x : Addr} {xs : List Str}, SqT K Hx x (xs.map V.str) → BareT Hx x → (∀ z ∈ xs, NameOk z) → xs.length ≤ 14 → GdV 400 2 K p Hx (.ref x) := fun h b hn hl =>
        gd_tupF h b (da_strs _) ((gm_tup (gm_names hn) (w := 400) (by have := w_names hn; omega)).mono (by decide) (by decide))
      refine ⟨4, rfl, by omega, by omega, ?_⟩
      refine for_range (lo := 0) (n := (4 : Int).toNat) (fun k σ H' => ∃ y4 y5 y6 y7 y8, σ = [some (.ref a), some (.ref p), some (.int (0 + (i : Int))), some (.ref t), y4, y5, y6, y7, y8] ∧ PenAt H' p c0 (300 * i + 100 + 10 * k) ∧ Tabs T H' ∧ SqT K H' t (one.map V.str) ∧ BareT H' t) ⟨_, _, _, _, _, rfl, G3.mono (by omega), T3, t3, b3⟩ (fun k σ H hk hp => ?_) (fun σ H hp => ?_)
      · obtain ⟨y4, y5, y6, y7, y8, rfl, G, hT, ht, bt⟩ := hp
        have hk4 : k < 4 := by omega
        -- some
        refine ⟨_, rfl, _, rfl, _, rfl, _, rfl, _, rfl, p, c0, t, _, one, rfl, G, by omega, ht, nm.ok, few, fun v5 H1 g5 s1 G1 => ?_⟩
        have t1 := (s1.keepsT (K := K) G) _ _ ht
        have b1 := bt.keepP s1 G
        have T1 := tabs_pen hT G s1
        have gN := mk t1 b1 nm.ok (by omega)
        have GS : GdL 400 2 K p H1 [.ref t, .ref t, v5] := .cons gN (.cons gN (.cons g5 .nil))
        refine ⟨by show 3 ≤ sizeLine; decide, fun sL hsL => ?_⟩
        have s2 := same_new (o := HO.lst [.ref t, .ref t, v5]) hsL
        have GS2 := GS.keep s2
        have eS : (upd H1 sL (HO.lst [.ref t, .ref t, v5])) sL = _ := upd_same
        have G2 := G1.same s2
        have T2 := T1.ext s2
        have t2 := s2.keeps.t _ _ t1
        have b2 := b1.keep s2
        generalize upd H1 sL (HO.lst [.ref t, .ref t, v5]) = H2 at s2 GS2 eS G2 T2 t2 b2
        refine ⟨p, c0, _, .ref sL, _, rfl, G2, by omega, .lst (.inl (.inl eS)), by show 0 < 3; decide, by show 3 < 1073741824; decide, fun j1 v1 H3 hv1 s3 G3 => ?_⟩
        have g1 := GS2.keepP s3 G2 v1 (List.mem_of_getElem? hv1)
        have t3 := (s3.keepsT (K := K) G2) _ _ t2
        have b3 := b2.keepP s3 G2
        have T3 := tabs_pen T2 G2 s3
        clear GS GS2 gN g5 t1 t2 b1 b2 T1 T2 hT ht bt eS s1 s2
        -- swap
        refine ⟨_, rfl, _, rfl, .ref t, (one.map V.str).length, rfl, .inr ⟨_, t3, rfl⟩, p, c0, _, (one.map V.str).length, rfl, G3, by omega, by rw [List.length_map]; exact few, fun v2 H5 g2 s5 G5 => ?_⟩
        have g1 := g1.keepP s5 G3
        have t5 := (s5.keepsT (K := K) G3) _ _ t3
        have b5 := b3.keepP s5 G3
        have T5 := tabs_pen T3 G3 s5
        obtain ⟨d1, D1, m1, w1⟩ := g1
        obtain ⟨d2, D2, m2, w2⟩ := g2
        clear t3 b3 T3 s3 s5
        -- kept
        refine ⟨_, rfl, _, rfl, by show 2 ≤ sizeLine; decide, fun tr htr => ?_⟩
        have s7 := same_new (o := HO.tup [v1, v2]) htr
        have m3 : Gm 802 3 (.tuple [d1, d2]) := gm_tup (n := 2) (fun d hd => by
          simp only [List.mem_cons, List.not_mem_nil, or_false] at hd
          rcases hd with rfl | rfl
          · exact ⟨400, m1⟩
          · exact ⟨400, m2⟩) (by have := m1.wt; have := m2.wt; simp only [PyData.weightAll]; omega)
        refine ⟨p, .ref tr, .tuple [d1, d2], rfl, .tup (.inl (.inl upd_same)) (.cons (da_keep s7.keepA D1) (.cons (da_keep s7.keepA D2) .nil)), m3.sh, Nat.le_trans m3.dp (by decide), m3.short (by decide), ?_⟩
        have E7 : ExtN H5 _ := ExtN.of s7
        have T7 := T5.ext s7
        have D1 := da_keep s7.keepA D1
        have D2 := da_keep s7.keepA D2
        generalize upd H5 tr (HO.tup [v1, v2]) = H7 at s7 E7 T7 D1 D2
        generalize hsh : (PyData.tuple [d1, d2]).shown = shn
        refine ⟨_, _, rfl, ?_⟩
        -- due
        dsimp only
        refine seq_split (t := tIfS _ _ _) (fun σ H' => ∃ u, σ = [some (.ref a), some (.ref p), some (.int (0 + (i : Int))), some (.ref t), some (.int (0 + (k : Int))), some (.str shn), some u, some v1, some v2] ∧ Same H7 H' ∧ DueX d1 d2 H' u) (fun nx kk => ?_) (fun σ H' hh => ?_)
        · refine ⟨_, rfl, p, v1, d1, rfl, D1, fitN_of m1 (by decide), fun H8 s8 => ⟨_, rfl, ?_⟩⟩
          have D1' := da_keep s8.keepA D1
          have D2' := da_keep s8.keepA D2
          cases o1 : ordD d1 with
          | false =>
            refine iteT ⟨_, rfl, p, v1, d1, rfl, D1', m1.sh, Nat.le_trans m1.dp (by decide), m1.short (by decide), by show 2 ≤ sizeLine; decide, fun r hr' => ?_⟩
            exact kk _ _ ⟨.ref r, rfl, s8.trans (same_new hr'), .inr (.inl ⟨o1, r, rfl, upd_same⟩)⟩
          | true =>
            obtain ⟨a1, xs, rfl, hs, lx⟩ := ord_len D1' o1
            refine iteF ⟨_, rfl, _, rfl, .ref a1, xs.length, rfl, .inr ⟨_, hs, rfl⟩, p, v2, d2, _, rfl, D2', fun H9 s9 => ⟨_, rfl, ?_⟩⟩
            rw [lx]
            cases o2 : exD (lenD d1 : Nat) d2 with
            | false =>
              refine iteT ⟨_, rfl, p, v2, d2, rfl, da_keep s9.keepA D2', m2.sh, Nat.le_trans m2.dp (by decide), m2.short (by decide), by show 2 ≤ sizeLine; decide, fun r hr' => ?_⟩
              exact kk _ _ ⟨.ref r, rfl, (s8.trans s9).trans (same_new hr'), .inr (.inr ⟨o1, o2, r, rfl, upd_same⟩)⟩
            | true => exact iteF (kk _ _ ⟨.non, rfl, s8.trans s9, .inl ⟨o1, o2, rfl⟩⟩)
        · obtain ⟨u, rfl, s8, du⟩ := hh
          have E8 := E7.trans (ExtN.of s8)
          have T8 := T7.ext s8
          have D1 := da_keep s8.keepA D1
          have D2 := da_keep s8.keepA D2
          refine ⟨T8, fun H9 e9 T9 Q' hQ' => ⟨_, rfl, _, rfl, exE_ans hQ' (da_keep (extN_keepA e9) D1) (da_keep (extN_keepA e9) D2) m1 m2 fun v H10 s10 dv => ⟨_, rfl, ⟨due_same dv (du.ext (e9.trans (ExtN.of s10))), _, rfl, iteF ?_⟩⟩⟩⟩
          have F10 : ExtN H' H10 := e9.trans (ExtN.of s10)
          have E10 := E8.trans F10
          have T10 := T9.ext s10
          have D1 := da_keep (extN_keepA F10) D1
          have D2 := da_keep (extN_keepA F10) D2
          refine ⟨_, rfl, _, rfl, by show 2 ≤ sizeLine; decide, fun tz htz => ?_⟩
          have s14 := same_new (o := HO.tup [v1, v2]) htz
          refine ⟨p, .ref tz, .tuple [d1, d2], rfl, .tup (.inl (.inl upd_same)) (.cons (da_keep s14.keepA D1) (.cons (da_keep s14.keepA D2) .nil)), m3.sh, Nat.le_trans m3.dp (by decide), m3.short (by decide), ?_⟩
          rw [hsh]
          refine ⟨_, rfl, rfl, _, rfl, ?_⟩
          rw [decide_eq_true rfl]
          have E14 := E10.trans (ExtN.of s14)
          exact iteF ⟨_, _, _, _, _, rfl, (G5.ext E14).mono (by omega), T10.ext s14, extN_t E14 t5, extN_bare E14 b5⟩
      · obtain ⟨y4, y5, y6, y7, y8, rfl, G, hT, _⟩ := hp
        exact ⟨_, _, _, _, _, _, _, rfl, G.mono (by omega), hT⟩
    · exact q H
end
end My
set_option Elab.async false
set_option linter.all false
set_option maxRecDepth 100000
set_option maxHeartbeats 4000000
/-! after_exchange -/
namespace My
open PySem PySem.Spec PyProof.Rows L2
section
variable {P : Program} {w : World} {K : PySem.W.Frag} {mg : Str → Option Value} {base : Heap}
theorem ok_aft {f : Addr} {fd : FuncData} (F : Fun K "after_exchange" "after_exchange" sAfterExchange f fd) : FnOk P w K mg base CX0 1 f fd ["things", "exchange"] (spAft K) := by
  refine F.ok scAfterExchange (fun vs H Q E h => ?_) (fun cdv A outer s H vs Q E hr h => ?_)
  · obtain ⟨a, b, xs, i, j, k, l, rfl, _⟩ := h
    rfl
  · obtain ⟨a, b, xs, i, j, k, l, rfl, ha, hb, few, q⟩ := h
    refine ⟨_, pss_cons (ps_asg (pv 1) (pg_tup rfl (pgs_cons (pg_name (i := 2) scAfterExchange.nd rfl (.inl rfl)) (pgs_cons (pg_name (i := 3) scAfterExchange.nd rfl (.inl rfl)) (pgs_cons (pg_name (i := 4) scAfterExchange.nd rfl (.inl rfl)) (pgs_cons (pg_name (i := 5) scAfterExchange.nd rfl (.inl rfl)) pgs_nil))))))
      (pss_one (ps_ret (pe_op op_catA (pe_op op_catA (pe_op op_catA (pe_op op_catA (pe_slice sl_tupA (pv 0) po_none (po_some (pv 2))) (pe_slice sl_tupA (pv 0) (po_some (pv 4)) (po_some (pv 5)))) (pe_slice sl_tupA (pv 0) (po_some (pv 3)) (po_some (pv 4)))) (pe_slice sl_tupA (pv 0) (po_some (pv 2)) (po_some (pv 3)))) (pe_slice sl_tupA (pv 0) (po_some (pv 5)) po_none)))), ?_⟩
    refine ⟨_, rfl, b, _, rfl, hb, rfl, _, _, rfl, _, _, rfl, _, _, rfl, _, _, rfl, rfl, ?_⟩
    have big : 5000 ≤ sizeLine := by decide
    refine ⟨_, rfl, _, rfl, _, rfl, sl_to ha fun c1 H1 s1 t1 => ?_⟩
    rw [cutV_to] at t1
    refine ⟨_, rfl, _, rfl, _, rfl, _, rfl, _, rfl, sl_to (s1.keeps.t _ _ ha) fun c2 H2 s2 t2 => ?_⟩
    rw [cutV_mid] at t2
    have l1 : (xs.take i).length ≤ 1000 := by rw [List.length_take]; omega
    have l2 : (midX xs k l).length ≤ 1000 := by rw [mid_len]; omega
    have l4 : (midX xs j k).length ≤ 1000 := by rw [mid_len]; omega
    have l6 : (midX xs i j).length ≤ 1000 := by rw [mid_len]; omega
    refine cat_to (s2.keeps.t _ _ t1) t2 (by omega) fun c3 H3 s3 t3 => ?_
    have S3 := (s1.trans s2).trans s3
    refine ⟨_, rfl, _, rfl, _, rfl, _, rfl, _, rfl, sl_to (S3.keeps.t _ _ ha) fun c4 H4 s4 t4 => ?_⟩
    rw [cutV_mid] at t4
    refine cat_to (s4.keeps.t _ _ t3) t4 (by rw [List.length_append]; omega) fun c5 H5 s5 t5 => ?_
    have S5 := (S3.trans s4).trans s5
    refine ⟨_, rfl, _, rfl, _, rfl, _, rfl, _, rfl, sl_to (S5.keeps.t _ _ ha) fun c6 H6 s6 t6 => ?_⟩
    rw [cutV_mid] at t6
    refine cat_to (s6.keeps.t _ _ t5) t6 (by rw [List.length_append, List.length_append]; omega) fun c7 H7 s7 t7 => ?_
    have S7 := (S5.trans s6).trans s7
    refine ⟨_, rfl, _, rfl, _, rfl, ?_⟩
    unfold tNoPart
    refine sl_to (S7.keeps.t _ _ ha) fun c8 H8 s8 t8 => ?_
    rw [cutV_from] at t8
    refine cat_to (s8.keeps.t _ _ t7) t8 (by rw [List.length_append, List.length_append, List.length_append, List.length_drop]; omega) fun c9 H9 s9 t9 => ?_
    exact q c9 H9 ((S7.trans s8).trans s9) t9
end
end My
set_option Elab.async false
set_option linter.all false
set_option maxRecDepth 100000
set_option maxHeartbeats 4000000
namespace My
open PySem PySem.Spec PyProof.Rows L2
/-! ### what the top has written -/
theorem all_mk {l : PySem.W.OpenLaw} {w : World} {K : PySem.W.Frag} {h : Heap} {mg : Str → Option Value} {fa f1 f2 f3 f4 f5 f6 f7 f8 f9 f10 f11 f12 f13 f14 f15 f16 f17 f18 f19 f20 co20 P20 CO fiO CX fiX CW CR CN : Addr} {t2 t1 t3 : Tok} (X : K.In h) (G : h.Ns mainGlobals mg) (hfa : mg "law" = some (.ref fa))
    {od1 an1 od2 an2 od3 an3 od4 an4 od5 an5 od6 an6 od7 an7 od8 an8 od9 an9 od10 an10 od11 an11 od12 an12 od13 an13 od14 an14 od15 an15 od16 an16 od17 an17 od18 an18 od19 an19 od20 an20 xd20 odiO aniO odiX aniX : Option Addr} {sl1 sl2 sl3 sl4 sl5 sl6 sl7 sl8 sl9 sl10 sl11 sl12 sl13 sl14 sl15 sl16 sl17 sl18 sl19 sl20 xs20 sliO sliX : Array (Option Value)} {oc1 kV1 dc1 pm1 cd1 ct1 oc2 kV2 dc2 pm2 cd2 ct2 oc3 kV3 dc3 pm3 cd3 ct3 oc4 kV4 dc4 pm4 cd4 ct4 oc5 kV5 dc5 pm5 cd5 ct5 oc6 kV6 dc6 pm6 cd6 ct6 oc7 kV7 dc7 pm7 cd7 ct7 oc8 kV8 dc8 pm8 cd8 ct8 oc9 kV9 dc9 pm9 cd9 ct9 oc10 kV10 dc10 pm10 cd10 ct10 oc11 kV11 dc11 pm11 cd11 ct11 oc12 kV12 dc12 pm12 cd12 ct12 oc13 kV13 dc13 pm13 cd13 ct13 oc14 kV14 dc14 pm14 cd14 ct14 oc15 kV15 dc15 pm15 cd15 ct15 oc16 kV16 dc16 pm16 cd16 ct16 oc17 kV17 dc17 pm17 cd17 ct17 oc18 kV18 dc18 pm18 cd18 ct18 oc19 kV19 dc19 pm19 cd19 ct19 oc20 kV20 dc20 pm20 ct20 xc20 ociO kViO dciO pmiO cdiO ctiO ociX kViX dciX pmiX cdiX ctiX : Value} {xv20 : Array Value}
    {nmO qqO : Str} {NO : Addr} {bsO : List Value} {snO : List Str} {subO : List Value} {abO : Bool} {colO : Option Bool} {ddO : Option Addr} {m0O m1O m2O m3O m5O : Option Value} {nmX qqX : Str} {NX : Addr} {bsX : List Value} {snX : List Str} {subX : List Value} {abX : Bool} {colX : Option Bool} {ddX : Option Addr} {m0X m1X m2X m3X m5X : Option Value}
    (a1 : PySem.W.nsIn K mainGlobals "is_integer" = some (some (.ref f1)))
    (l1 : K.lookup f1 = some ⟨oc1, od1, .func (PySem.W.fnOf "is_integer" "is_integer" (defArgs sIsInt) (defBody sIsInt) (defScope sIsInt) .none kV1 dc1 pm1 an1 cd1 ct1), sl1⟩)
    (c1 : PySem.W.codeIn K cd1 "is_integer" = true)
    (k1 : PySem.W.keepIn K (.ref f1) = true)
    (a2 : PySem.W.nsIn K mainGlobals "is_name" = some (some (.ref f2)))
    (l2 : K.lookup f2 = some ⟨oc2, od2, .func (PySem.W.fnOf "is_name" "is_name" (defArgs sIsName) (defBody sIsName) (defScope sIsName) .none kV2 dc2 pm2 an2 cd2 ct2), sl2⟩)
    (c2 : PySem.W.codeIn K cd2 "is_name" = true)
    (k2 : PySem.W.keepIn K (.ref f2) = true)
    (a3 : PySem.W.nsIn K mainGlobals "is_name_list" = some (some (.ref f3)))
    (l3 : K.lookup f3 = some ⟨oc3, od3, .func (PySem.W.fnOf "is_name_list" "is_name_list" (defArgs sIsNameList) (defBody sIsNameList) (defScope sIsNameList) .none kV3 dc3 pm3 an3 cd3 ct3), sl3⟩)
    (c3 : PySem.W.codeIn K cd3 "is_name_list" = true)
    (k3 : PySem.W.keepIn K (.ref f3) = true)
    (a4 : PySem.W.nsIn K mainGlobals "check_order" = some (some (.ref f4)))
    (l4 : K.lookup f4 = some ⟨oc4, od4, .func (PySem.W.fnOf "check_order" "check_order" (defArgs sCheckOrder) (defBody sCheckOrder) (defScope sCheckOrder) .none kV4 dc4 pm4 an4 cd4 ct4), sl4⟩)
    (c4 : PySem.W.codeIn K cd4 "check_order" = true)
    (k4 : PySem.W.keepIn K (.ref f4) = true)
    (a5 : PySem.W.nsIn K mainGlobals "is_exchange" = some (some (.ref f5)))
    (l5 : K.lookup f5 = some ⟨oc5, od5, .func (PySem.W.fnOf "is_exchange" "is_exchange" (defArgs sIsExchange) (defBody sIsExchange) (defScope sIsExchange) .none kV5 dc5 pm5 an5 cd5 ct5), sl5⟩)
    (c5 : PySem.W.codeIn K cd5 "is_exchange" = true)
    (k5 : PySem.W.keepIn K (.ref f5) = true)
    (a6 : PySem.W.nsIn K mainGlobals "after_exchange" = some (some (.ref f6)))
    (l6 : K.lookup f6 = some ⟨oc6, od6, .func (PySem.W.fnOf "after_exchange" "after_exchange" (defArgs sAfterExchange) (defBody sAfterExchange) (defScope sAfterExchange) .none kV6 dc6 pm6 an6 cd6 ct6), sl6⟩)
    (c6 : PySem.W.codeIn K cd6 "after_exchange" = true)
    (k6 : PySem.W.keepIn K (.ref f6) = true)
    (a7 : PySem.W.nsIn K mainGlobals "exchanged_order" = some (some (.ref f7)))
    (l7 : K.lookup f7 = some ⟨oc7, od7, .func (PySem.W.fnOf "exchanged_order" "exchanged_order" (defArgs sExchangedOrder) (defBody sExchangedOrder) (defScope sExchangedOrder) .none kV7 dc7 pm7 an7 cd7 ct7), sl7⟩)
    (c7 : PySem.W.codeIn K cd7 "exchanged_order" = true)
    (k7 : PySem.W.keepIn K (.ref f7) = true)
    (a8 : PySem.W.nsIn K mainGlobals "_law_pen" = some (some (.ref f8)))
    (l8 : K.lookup f8 = some ⟨oc8, od8, .func (PySem.W.fnOf "_law_pen" "_law_pen" (defArgs sPen) (defBody sPen) (defScope sPen) .none kV8 dc8 pm8 an8 cd8 ct8), sl8⟩)
    (c8 : PySem.W.codeIn K cd8 "_law_pen" = true)
    (k8 : PySem.W.keepIn K (.ref f8) = true)
    (a9 : PySem.W.nsIn K mainGlobals "_law_draw" = some (some (.ref f9)))
    (l9 : K.lookup f9 = some ⟨oc9, od9, .func (PySem.W.fnOf "_law_draw" "_law_draw" (defArgs sDraw) (defBody sDraw) (defScope sDraw) .none kV9 dc9 pm9 an9 cd9 ct9), sl9⟩)
    (c9 : PySem.W.codeIn K cd9 "_law_draw" = true)
    (k9 : PySem.W.keepIn K (.ref f9) = true)
    (a10 : PySem.W.nsIn K mainGlobals "_law_pick" = some (some (.ref f10)))
    (l10 : K.lookup f10 = some ⟨oc10, od10, .func (PySem.W.fnOf "_law_pick" "_law_pick" (defArgs sPick) (defBody sPick) (defScope sPick) .none kV10 dc10 pm10 an10 cd10 ct10), sl10⟩)
    (c10 : PySem.W.codeIn K cd10 "_law_pick" = true)
    (k10 : PySem.W.keepIn K (.ref f10) = true)
    (a11 : PySem.W.nsIn K mainGlobals "_law_shuffled" = some (some (.ref f11)))
    (l11 : K.lookup f11 = some ⟨oc11, od11, .func (PySem.W.fnOf "_law_shuffled" "_law_shuffled" (defArgs sShuf) (defBody sShuf) (defScope sShuf) .none kV11 dc11 pm11 an11 cd11 ct11), sl11⟩)
    (c11 : PySem.W.codeIn K cd11 "_law_shuffled" = true)
    (k11 : PySem.W.keepIn K (.ref f11) = true)
    (a12 : PySem.W.nsIn K mainGlobals "_law_wagons" = some (some (.ref f12)))
    (l12 : K.lookup f12 = some ⟨oc12, od12, .func (PySem.W.fnOf "_law_wagons" "_law_wagons" (defArgs sWag) (defBody sWag) (defScope sWag) .none kV12 dc12 pm12 an12 cd12 ct12), sl12⟩)
    (c12 : PySem.W.codeIn K cd12 "_law_wagons" = true)
    (k12 : PySem.W.keepIn K (.ref f12) = true)
    (a13 : PySem.W.nsIn K mainGlobals "_law_swaps" = some (some (.ref f13)))
    (l13 : K.lookup f13 = some ⟨oc13, od13, .func (PySem.W.fnOf "_law_swaps" "_law_swaps" (defArgs sLSwaps) (defBody sLSwaps) (defScope sLSwaps) .none kV13 dc13 pm13 an13 cd13 ct13), sl13⟩)
    (c13 : PySem.W.codeIn K cd13 "_law_swaps" = true)
    (k13 : PySem.W.keepIn K (.ref f13) = true)
    (a14 : PySem.W.nsIn K mainGlobals "_law_is_name" = some (some (.ref f14)))
    (l14 : K.lookup f14 = some ⟨oc14, od14, .func (PySem.W.fnOf "_law_is_name" "_law_is_name" (defArgs sLName) (defBody sLName) (defScope sLName) .none kV14 dc14 pm14 an14 cd14 ct14), sl14⟩)
    (c14 : PySem.W.codeIn K cd14 "_law_is_name" = true)
    (k14 : PySem.W.keepIn K (.ref f14) = true)
    (a15 : PySem.W.nsIn K mainGlobals "_law_is_order" = some (some (.ref f15)))
    (l15 : K.lookup f15 = some ⟨oc15, od15, .func (PySem.W.fnOf "_law_is_order" "_law_is_order" (defArgs sLIsOrder) (defBody sLIsOrder) (defScope sLIsOrder) .none kV15 dc15 pm15 an15 cd15 ct15), sl15⟩)
    (c15 : PySem.W.codeIn K cd15 "_law_is_order" = true)
    (k15 : PySem.W.keepIn K (.ref f15) = true)
    (a16 : PySem.W.nsIn K mainGlobals "_law_is_swap" = some (some (.ref f16)))
    (l16 : K.lookup f16 = some ⟨oc16, od16, .func (PySem.W.fnOf "_law_is_swap" "_law_is_swap" (defArgs sLIsSwap) (defBody sLIsSwap) (defScope sLIsSwap) .none kV16 dc16 pm16 an16 cd16 ct16), sl16⟩)
    (c16 : PySem.W.codeIn K cd16 "_law_is_swap" = true)
    (k16 : PySem.W.keepIn K (.ref f16) = true)
    (a17 : PySem.W.nsIn K mainGlobals "_law_odd_order" = some (some (.ref f17)))
    (l17 : K.lookup f17 = some ⟨oc17, od17, .func (PySem.W.fnOf "_law_odd_order" "_law_odd_order" (defArgs sLOddOrder) (defBody sLOddOrder) (defScope sLOddOrder) .none kV17 dc17 pm17 an17 cd17 ct17), sl17⟩)
    (c17 : PySem.W.codeIn K cd17 "_law_odd_order" = true)
    (k17 : PySem.W.keepIn K (.ref f17) = true)
    (a18 : PySem.W.nsIn K mainGlobals "_law_refused" = some (some (.ref f18)))
    (l18 : K.lookup f18 = some ⟨oc18, od18, .func (PySem.W.fnOf "_law_refused" "_law_refused" (defArgs sRefd) (defBody sRefd) (defScope sRefd) .none kV18 dc18 pm18 an18 cd18 ct18), sl18⟩)
    (c18 : PySem.W.codeIn K cd18 "_law_refused" = true)
    (k18 : PySem.W.keepIn K (.ref f18) = true)
    (a19 : PySem.W.nsIn K mainGlobals "_law_odd_swap" = some (some (.ref f19)))
    (l19 : K.lookup f19 = some ⟨oc19, od19, .func (PySem.W.fnOf "_law_odd_swap" "_law_odd_swap" (defArgs sLOddSwap) (defBody sLOddSwap) (defScope sLOddSwap) .none kV19 dc19 pm19 an19 cd19 ct19), sl19⟩)
    (c19 : PySem.W.codeIn K cd19 "_law_odd_swap" = true)
    (k19 : PySem.W.keepIn K (.ref f19) = true)
    (a20 : PySem.W.nsIn K mainGlobals "law" = some (some (.ref f20)))
    (l20 : K.lookup f20 = some ⟨oc20, od20, .func (PySem.W.fnOf "law" "law" (defArgs sLaw) (defBody sLaw) (defScope sLaw) .none kV20 dc20 pm20 an20 (.ref co20) ct20), sl20⟩)
    (c20 : PySem.W.codeIn K (.ref co20) "law" = true)
    (k20 : PySem.W.keepIn K (.ref f20) = true)
    (x120 : K.lookup co20 = some ⟨xc20, xd20, .fields xv20, xs20⟩)
    (x220 : xv20[11]? = some (.ref P20))
    (x320 : PySem.W.codeHdIn K co20 P20 = true)
    (x420 : K.lookup P20 = none)
    (x520 : h.get? P20 = some (PySem.W.tabObj #[]))
    (qn : PySem.W.specialIn K (.builtin "object.__class__") "__get__" = some (some (.builtin "getset_descriptor.__get__")))
    (qt : PySem.W.takesIn K (.builtin "object.__class__") = some true)
    (caO : PySem.W.nsIn K mainGlobals "InvalidOrder" = some (some (.ref CO)))
    (q1O : (PySem.W.clsIn K CO).isSome = true)
    (q2O : PySem.W.findIn K (.ref CO) "__getattribute__" = some (some (.builtin "BaseException.__getattribute__")))
    (q3O : PySem.W.findIn K (.ref CO) "__getattr__" = some none)
    (q4O : PySem.W.subIn K (.ref CO) (.type "BaseException") = some true)
    (q5O : PySem.W.findIn K (.ref CO) "__class__" = some (some (.builtin "object.__class__")))
    (q8O : PySem.W.mroIn K CO (.type "object") = some true)
    (qbO : PySem.W.typeIn K (.ref CO) = some (.type "type"))
    (qcO : PySem.W.keepIn K (.ref CO) = true)
    (q6O : PySem.W.hasDictIn K CO = true)
    (q7O : PySem.W.findIn K (.ref CO) "value" = some none)
    (q9O : K.lookup CO = some (excClassObj nmO qqO CO NO bsO [.type "ValueError", .type "Exception", .type "BaseException", .type "object"] true snO subO abO colO ddO m0O m1O m2O m3O m5O "ValueError.__new__"))
    (qaO : PySem.W.findIn K (.ref CO) "__setattr__" = some (some (.builtin "object.__setattr__")))
    (qiO : PySem.W.findIn K (.ref CO) "__init__" = some (some (.ref fiO)))
    (qjO : PySem.W.typeIn K (.ref fiO) = some (.type "function"))
    (liO : K.lookup fiO = some ⟨ociO, odiO, .func (PySem.W.fnOf "__init__" "InvalidOrder.__init__" (defArgs sInvalidOrderInit) (defBody sInvalidOrderInit) (defScope sInvalidOrderInit) .none kViO dciO pmiO aniO cdiO ctiO), sliO⟩)
    (ciO : PySem.W.codeIn K cdiO "InvalidOrder.__init__" = true)
    (kiO : PySem.W.keepIn K (.ref fiO) = true)
    (caX : PySem.W.nsIn K mainGlobals "InvalidExchange" = some (some (.ref CX)))
    (q1X : (PySem.W.clsIn K CX).isSome = true)
    (q2X : PySem.W.findIn K (.ref CX) "__getattribute__" = some (some (.builtin "BaseException.__getattribute__")))
    (q3X : PySem.W.findIn K (.ref CX) "__getattr__" = some none)
    (q4X : PySem.W.subIn K (.ref CX) (.type "BaseException") = some true)
    (q5X : PySem.W.findIn K (.ref CX) "__class__" = some (some (.builtin "object.__class__")))
    (q8X : PySem.W.mroIn K CX (.type "object") = some true)
    (qbX : PySem.W.typeIn K (.ref CX) = some (.type "type"))
    (qcX : PySem.W.keepIn K (.ref CX) = true)
    (q6X : PySem.W.hasDictIn K CX = true)
    (q7X : PySem.W.findIn K (.ref CX) "value" = some none)
    (q9X : K.lookup CX = some (excClassObj nmX qqX CX NX bsX [.type "ValueError", .type "Exception", .type "BaseException", .type "object"] true snX subX abX colX ddX m0X m1X m2X m3X m5X "ValueError.__new__"))
    (qaX : PySem.W.findIn K (.ref CX) "__setattr__" = some (some (.builtin "object.__setattr__")))
    (qiX : PySem.W.findIn K (.ref CX) "__init__" = some (some (.ref fiX)))
    (qjX : PySem.W.typeIn K (.ref fiX) = some (.type "function"))
    (liX : K.lookup fiX = some ⟨ociX, odiX, .func (PySem.W.fnOf "__init__" "InvalidExchange.__init__" (defArgs sInvalidExchangeInit) (defBody sInvalidExchangeInit) (defScope sInvalidExchangeInit) .none kViX dciX pmiX aniX cdiX ctiX), sliX⟩)
    (ciX : PySem.W.codeIn K cdiX "InvalidExchange.__init__" = true)
    (kiX : PySem.W.keepIn K (.ref fiX) = true)
    (caW : PySem.W.nsIn K mainGlobals "OtherWagons" = some (some (.ref CW)))
    (q1W : (PySem.W.clsIn K CW).isSome = true)
    (q2W : PySem.W.findIn K (.ref CW) "__getattribute__" = some (some (.builtin "BaseException.__getattribute__")))
    (q3W : PySem.W.findIn K (.ref CW) "__getattr__" = some none)
    (q4W : PySem.W.subIn K (.ref CW) (.type "BaseException") = some true)
    (q5W : PySem.W.findIn K (.ref CW) "__class__" = some (some (.builtin "object.__class__")))
    (q8W : PySem.W.mroIn K CW (.type "object") = some true)
    (qbW : PySem.W.typeIn K (.ref CW) = some (.type "type"))
    (qcW : PySem.W.keepIn K (.ref CW) = true)
    (q9W : PySem.W.excIn K CW [.type "ValueError", .type "Exception", .type "BaseException", .type "object"] "ValueError.__new__" = true)
    (caR : PySem.W.nsIn K mainGlobals "InvalidRow" = some (some (.ref CR)))
    (caN : PySem.W.nsIn K mainGlobals "InvalidNumber" = some (some (.ref CN)))
    (eO : PySem.W.exmAny K (.ref CO) [.ref CO, .ref CX] = some true)
    (eX : PySem.W.exmAny K (.ref CX) [.ref CO, .ref CX] = some true)
    (eW : PySem.W.exmAny K (.ref CW) [.ref CO, .ref CX] = some false)
    (wW : PySem.W.exmAny K (.ref CW) [.ref CW] = some true)
    (vW : PySem.W.kitOne K (.ref CW) (.type "ValueError") = some true)
    (vO : PySem.W.kitOne K (.ref CO) (.type "ValueError") = some true)
    (vX : PySem.W.kitOne K (.ref CX) (.type "ValueError") = some true)
    (rW : PySem.W.kitOne K (.ref CW) (.ref CR) = some false)
    (tO : PySem.W.kitAny K (.ref CO) [.ref CR, .ref CN, .ref CW] = some false)
    (tX : PySem.W.kitAny K (.ref CX) [.ref CR, .ref CN, .ref CW] = some false)
    (oo : PySem.W.kitOne K (.ref CO) (.ref CO) = some true)
    (ox : PySem.W.kitOne K (.ref CO) (.ref CX) = some false)
    (xo : PySem.W.kitOne K (.ref CX) (.ref CO) = some false)
    (zisinstance : PySem.W.nsIn K mainGlobals "isinstance" = some none)
    (zint : PySem.W.nsIn K mainGlobals "int" = some none)
    (zbool : PySem.W.nsIn K mainGlobals "bool" = some none)
    (zstr : PySem.W.nsIn K mainGlobals "str" = some none)
    (ztuple : PySem.W.nsIn K mainGlobals "tuple" = some none)
    (zlist : PySem.W.nsIn K mainGlobals "list" = some none)
    (zlen : PySem.W.nsIn K mainGlobals "len" = some none)
    (zall : PySem.W.nsIn K mainGlobals "all" = some none)
    (zset : PySem.W.nsIn K mainGlobals "set" = some none)
    (zrange : PySem.W.nsIn K mainGlobals "range" = some none)
    (zabs : PySem.W.nsIn K mainGlobals "abs" = some none)
    (zrepr : PySem.W.nsIn K mainGlobals "repr" = some none)
    (zValueError : PySem.W.nsIn K mainGlobals "ValueError" = some none)
    (gk0 : PySem.W.nsIn K mainGlobals "LETTERS" = some (some (.str "abcdefghijklmnopqrstuvwxyz" t2)))
    (gk1 : PySem.W.nsIn K mainGlobals "NAME_LENGTH" = some (some (.int 8 t1)))
    (gk2 : PySem.W.nsIn K mainGlobals "MOST_IN_ORDER" = some (some (.int 12 t3)))
    : LawAtG l w K 7 63 "script" mg fa h := by
  have e := hfa.symm.trans (PySem.W.mg_of X G a20)
  cases e
  have F1 := fun_mk (st := sIsInt) l1 c1 k1
  have F2 := fun_mk (st := sIsName) l2 c2 k2
  have F3 := fun_mk (st := sIsNameList) l3 c3 k3
  have F4 := fun_mk (st := sCheckOrder) l4 c4 k4
  have F5 := fun_mk (st := sIsExchange) l5 c5 k5
  have F6 := fun_mk (st := sAfterExchange) l6 c6 k6
  have F7 := fun_mk (st := sExchangedOrder) l7 c7 k7
  have F8 := fun_mk (st := sPen) l8 c8 k8
  have F9 := fun_mk (st := sDraw) l9 c9 k9
  have F10 := fun_mk (st := sPick) l10 c10 k10
  have F11 := fun_mk (st := sShuf) l11 c11 k11
  have F12 := fun_mk (st := sWag) l12 c12 k12
  have F13 := fun_mk (st := sLSwaps) l13 c13 k13
  have F14 := fun_mk (st := sLName) l14 c14 k14
  have F15 := fun_mk (st := sLIsOrder) l15 c15 k15
  have F16 := fun_mk (st := sLIsSwap) l16 c16 k16
  have F17 := fun_mk (st := sLOddOrder) l17 c17 k17
  have F18 := fun_mk (st := sRefd) l18 c18 k18
  have F19 := fun_mk (st := sLOddSwap) l19 c19 k19
  have F20 : FunC K "law" "law" sLaw fa _ co20 := ⟨⟨oc20, od20, kV20, dc20, pm20, an20, ct20, sl20, rfl, l20, c20⟩⟩
  have b1 := F1.binds (ps := ["value"]) fun _ _ _ _ _ _ us hl => match us, hl with | [_], _ => rfl
  have m1 := PySem.W.mg_of X G a1
  have b2 := F2.binds (ps := ["value"]) fun _ _ _ _ _ _ us hl => match us, hl with | [_], _ => rfl
  have m2 := PySem.W.mg_of X G a2
  have b3 := F3.binds (ps := ["value"]) fun _ _ _ _ _ _ us hl => match us, hl with | [_], _ => rfl
  have m3 := PySem.W.mg_of X G a3
  have b4 := F4.binds (ps := ["value"]) fun _ _ _ _ _ _ us hl => match us, hl with | [_], _ => rfl
  have m4 := PySem.W.mg_of X G a4
  have b5 := F5.binds (ps := ["value", "length"]) fun _ _ _ _ _ _ us hl => match us, hl with | [_, _], _ => rfl
  have m5 := PySem.W.mg_of X G a5
  have b6 := F6.binds (ps := ["things", "exchange"]) fun _ _ _ _ _ _ us hl => match us, hl with | [_, _], _ => rfl
  have m6 := PySem.W.mg_of X G a6
  have b7 := F7.binds (ps := ["order", "exchange"]) fun _ _ _ _ _ _ us hl => match us, hl with | [_, _], _ => rfl
  have m7 := PySem.W.mg_of X G a7
  have b8 := F8.binds (ps := ["script"]) fun _ _ _ _ _ _ us hl => match us, hl with | [_], _ => rfl
  have m8 := PySem.W.mg_of X G a8
  have b9 := F9.binds (ps := ["pen", "size"]) fun _ _ _ _ _ _ us hl => match us, hl with | [_, _], _ => rfl
  have m9 := PySem.W.mg_of X G a9
  have b10 := F10.binds (ps := ["pen", "options"]) fun _ _ _ _ _ _ us hl => match us, hl with | [_, _], _ => rfl
  have m10 := PySem.W.mg_of X G a10
  have b11 := F11.binds (ps := ["pen", "some"]) fun _ _ _ _ _ _ us hl => match us, hl with | [_, _], _ => rfl
  have m11 := PySem.W.mg_of X G a11
  have b12 := F12.binds (ps := ["pen", "many"]) fun _ _ _ _ _ _ us hl => match us, hl with | [_, _], _ => rfl
  have m12 := PySem.W.mg_of X G a12
  have b13 := F13.binds (ps := ["many"]) fun _ _ _ _ _ _ us hl => match us, hl with | [_], _ => rfl
  have m13 := PySem.W.mg_of X G a13
  have b14 := F14.binds (ps := ["value"]) fun _ _ _ _ _ _ us hl => match us, hl with | [_], _ => rfl
  have m14 := PySem.W.mg_of X G a14
  have b15 := F15.binds (ps := ["value"]) fun _ _ _ _ _ _ us hl => match us, hl with | [_], _ => rfl
  have m15 := PySem.W.mg_of X G a15
  have b16 := F16.binds (ps := ["value", "many"]) fun _ _ _ _ _ _ us hl => match us, hl with | [_, _], _ => rfl
  have m16 := PySem.W.mg_of X G a16
  have b17 := F17.binds (ps := ["pen", "some"]) fun _ _ _ _ _ _ us hl => match us, hl with | [_, _], _ => rfl
  have m17 := PySem.W.mg_of X G a17
  have b18 := F18.binds (ps := ["call"]) fun _ _ _ _ _ _ us hl => match us, hl with | [_], _ => rfl
  have m18 := PySem.W.mg_of X G a18
  have b19 := F19.binds (ps := ["pen", "many"]) fun _ _ _ _ _ _ us hl => match us, hl with | [_, _], _ => rfl
  have m19 := PySem.W.mg_of X G a19
  have b20 : Binds K (PySem.W.fnOf "law" "law" (defArgs sLaw) (defBody sLaw) (defScope sLaw) .none kV20 dc20 pm20 an20 (.ref co20) ct20) ["script"] [] := .all fun us hl => match us, hl with | [_], _ => rfl
  have m20 := PySem.W.mg_of X G a20
  have mCO := PySem.W.mg_of X G caO
  have xcO : XC K CO := ⟨q1O, q2O, q3O, q4O, q5O, qn, qt, q8O⟩
  have xfO : XfC K CO := ⟨q2O, q3O, q4O, q6O⟩
  have oxO : OexC K CO := ⟨⟨nmO, qqO, NO, bsO, _, snO, subO, abO, colO, ddO, m0O, m1O, m2O, m3O, m5O, q9O, by decide +kernel⟩, qaO, q4O, qbO, qcO⟩
  have FiO := fun_mk (st := sInvalidOrderInit) liO ciO kiO
  have biO := FiO.binds (ps := ["self", "value"]) fun _ _ _ _ _ _ us hl => match us, hl with | [_, _], _ => rfl
  have mCX := PySem.W.mg_of X G caX
  have xcX : XC K CX := ⟨q1X, q2X, q3X, q4X, q5X, qn, qt, q8X⟩
  have xfX : XfC K CX := ⟨q2X, q3X, q4X, q6X⟩
  have oxX : OexC K CX := ⟨⟨nmX, qqX, NX, bsX, _, snX, subX, abX, colX, ddX, m0X, m1X, m2X, m3X, m5X, q9X, by decide +kernel⟩, qaX, q4X, qbX, qcX⟩
  have FiX := fun_mk (st := sInvalidExchangeInit) liX ciX kiX
  have biX := FiX.binds (ps := ["self", "value"]) fun _ _ _ _ _ _ us hl => match us, hl with | [_, _], _ => rfl
  have mCW := PySem.W.mg_of X G caW
  have xcW : XC K CW := ⟨q1W, q2W, q3W, q4W, q5W, qn, qt, q8W⟩
  have mCR := PySem.W.mg_of X G caR
  have mCN := PySem.W.mg_of X G caN
  have n_isinstance := PySem.W.mg_none_of X G zisinstance
  have n_int := PySem.W.mg_none_of X G zint
  have n_bool := PySem.W.mg_none_of X G zbool
  have n_str := PySem.W.mg_none_of X G zstr
  have n_tuple := PySem.W.mg_none_of X G ztuple
  have n_list := PySem.W.mg_none_of X G zlist
  have n_len := PySem.W.mg_none_of X G zlen
  have n_all := PySem.W.mg_none_of X G zall
  have n_set := PySem.W.mg_none_of X G zset
  have n_range := PySem.W.mg_none_of X G zrange
  have n_abs := PySem.W.mg_none_of X G zabs
  have n_repr := PySem.W.mg_none_of X G zrepr
  have n_ValueError := PySem.W.mg_none_of X G zValueError
  have inT : ∀ p : Addr × Addr, p ∈ [(co20, P20)] → p = (co20, P20) := fun p hp => List.mem_singleton.mp hp
  refine ⟨PySem.W.fnOf "law" "law" (defArgs sLaw) (defBody sLaw) (defScope sLaw) .none kV20 dc20 pm20 an20 (.ref co20) ct20, [(co20, P20)], spLaw K [(P20, qLam)], fun p hp => by rw [inT p hp]; exact x520, fun p hp => by rw [inT p hp]; exact x420, fun p hp => by rw [inT p hp]; exact PySem.W.codeHd_of_K X x320, fun s v => .of_eq rfl, fun H a ns hl _ ht hS => ⟨a, ns, rfl, hS, hl, tabs_none (ht _ List.mem_cons_self), fun _ => rfl⟩, fun base _ _ TBs => ?_⟩
  have TB := TBs _ List.mem_cons_self
  have B : Glb mg := ⟨n_isinstance, n_int, n_bool, n_str, n_tuple, n_list, n_len, n_all, n_set, n_range, n_abs, n_repr⟩
  have oInt := ok_isint (P := l.prog) (w := w) (base := base) F1 B
  have oName := ok_isname (P := l.prog) (w := w) (base := base) F2 B (PySem.W.mg_of X G gk1) (PySem.W.mg_of X G gk0)
  have oNL := ok_nl F3 B oName m2 k2 b2
  have oChk := ok_chkE F4 B (PySem.W.mg_of X G gk2) oNL m3 k3 b3 oxO qiO qjO FiO biO q7O mCO
  have oIsX := ok_isex F5 B oInt m1 k1 b1
  have oAft := ok_aft (P := l.prog) (w := w) (mg := mg) (base := base) F6
  have oEx := ok_exE F7 B oChk m4 k4 b4 ⟨oIsX, m5, k5, b5⟩ ⟨oAft, m6, k6, b6⟩ oxX qiX qjX FiX biX q7X mCX
  have oPen := ok_pen (P := l.prog) (w := w) (base := base) F8 B.list
  have oDraw := ok_draw (P := l.prog) (w := w) (base := base) (k := 0) F9 B.len B.abs
  have oPick := ok_pick F10 B.len oDraw m9 k9 b9
  have oShuf := ok_shuf F11 B.len B.list oDraw m9 k9 b9
  have D : Draws l.prog w K mg base _ _ _ _ _ _ := ⟨oDraw, m9, k9, b9, oPick, m10, k10, b10, oShuf, m11, k11, b11⟩
  have oWag := ok_wag F12 D B.range B.int
  have oLS := ok_lsw (P := l.prog) (w := w) (base := base) F13 B.range
  have oLN := ok_lname (P := l.prog) (w := w) (base := base) F14 B
  have oLO := ok_lord F15 B oLN m14 k14 b14
  have oLJ := ok_lisE (P := l.prog) (w := w) (base := base) F16 B
  have oOdd := ok_oddO F17 B D
  have oOds := ok_oddS F19 B D ⟨oLS, m13, k13, b13⟩
  have R : RefC K mg CO CX CW CR CN := ⟨mCO, mCX, mCW, mCR, mCN, n_ValueError, xcO, xcX, xcW, xfO, xfX, q7O, q7X, eO, eX, eW, wW, vW, vO, vX, rW, tO, tX, oo, ox, xo⟩
  exact ok_law (T := [(P20, qLam)]) F20 B TB List.mem_cons_self (fun p hp _ => by rw [List.mem_singleton.mp hp]) R F18 m18 k18 b18 D ⟨oPen, m8, k8, b8⟩ ⟨oWag, m12, k12, b12⟩ ⟨oOdd, m17, k17, b17⟩ ⟨oOds, m19, k19, b19⟩ ⟨oLO, m15, k15, b15⟩ ⟨oLJ, m16, k16, b16⟩ oEx m7 k7 b7
theorem walk {l : PySem.W.OpenLaw} {q : Program} {loose : List Str} {XP : (Str → Option Value) → Heap → Prop} {YP : World → Heap → Prop} {d : DefRec} {K : Params → PySem.W.Frag} (hn : l.most = some 63) (hdf : d.params.defaults = [])
    (hY : ∀ (w : World) (h : Heap), YP w h → (K w.params).In h)
    (F : ∀ (w : World) (mg : Str → Option Value) (fa : Addr) (h : Heap), YP w h → (K w.params).In h → h.Ns mainGlobals mg → mg d.name = some (.ref fa) → LawAtG l w (K w.params) 7 63 "script" mg fa h) :
    PySem.W.WalkO q loose XP YP l.row.toRowW d [] (fun f vs => PySem.call f vs) :=
  walk_GT (n := 63) (k := 7) (x := "script") hn (by decide) hdf ⟨rfl, by decide, by decide⟩ hY F
end My
open PySem PySem.W PyProof.Rows
set_option Elab.async false
set_option maxRecDepth 100000 in
set_option maxHeartbeats 0 in
theorem PySem.Challenge.cw_shuntplan_k48_exchanges_refused_holds : PySem.Challenge.rw_shuntplan_k48_exchanges_refused.Holds := by
  w_on; o_law; k_head; (case hw => w_witness2)
  k_fill
  refine My.walk (l := PySem.Challenge.rw_shuntplan_k48_exchanges_refused) rfl rfl (fun w h Y => PySem.W.km_in_of Y) ?F
  case F =>
    intro w mg fa h Y KX G hmg
    refine' My.all_mk KX G hmg ?a1 ?l1 ?c1 ?k1 ?a2 ?l2 ?c2 ?k2 ?a3 ?l3 ?c3 ?k3 ?a4 ?l4 ?c4 ?k4 ?a5 ?l5 ?c5 ?k5 ?a6 ?l6 ?c6 ?k6 ?a7 ?l7 ?c7 ?k7 ?a8 ?l8 ?c8 ?k8 ?a9 ?l9 ?c9 ?k9 ?a10 ?l10 ?c10 ?k10 ?a11 ?l11 ?c11 ?k11 ?a12 ?l12 ?c12 ?k12 ?a13 ?l13 ?c13 ?k13 ?a14 ?l14 ?c14 ?k14 ?a15 ?l15 ?c15 ?k15 ?a16 ?l16 ?c16 ?k16 ?a17 ?l17 ?c17 ?k17 ?a18 ?l18 ?c18 ?k18 ?a19 ?l19 ?c19 ?k19 ?a20 ?l20 ?c20 ?k20 ?x120 ?x220 ?x320 ?x420 ?x520 ?qn ?qt ?caO ?q1O ?q2O ?q3O ?q4O ?q5O ?q8O ?qbO ?qcO ?q6O ?q7O ?q9O ?qaO ?qiO ?qjO ?liO ?ciO ?kiO ?caX ?q1X ?q2X ?q3X ?q4X ?q5X ?q8X ?qbX ?qcX ?q6X ?q7X ?q9X ?qaX ?qiX ?qjX ?liX ?ciX ?kiX ?caW ?q1W ?q2W ?q3W ?q4W ?q5W ?q8W ?qbW ?qcW ?q9W ?caR ?caN ?eO ?eX ?eW ?wW ?vW ?vO ?vX ?rW ?tO ?tX ?oo ?ox ?xo ?zisinstance ?zint ?zbool ?zstr ?ztuple ?zlist ?zlen ?zall ?zset ?zrange ?zabs ?zrepr ?zValueError ?gk0 ?gk1 ?gk2
    (case a1 => k_is)
    (case l1 => k_is)
    (case c1 => k_is)
    (case k1 => k_is)
    (case a2 => k_is)
    (case l2 => k_is)
    (case c2 => k_is)
    (case k2 => k_is)
    (case a3 => k_is)
    (case l3 => k_is)
    (case c3 => k_is)
    (case k3 => k_is)
    (case a4 => k_is)
    (case l4 => k_is)
    (case c4 => k_is)
    (case k4 => k_is)
    (case a5 => k_is)
    (case l5 => k_is)
    (case c5 => k_is)
    (case k5 => k_is)
    (case a6 => k_is)
    (case l6 => k_is)
    (case c6 => k_is)
    (case k6 => k_is)
    (case a7 => k_is)
    (case l7 => k_is)
    (case c7 => k_is)
    (case k7 => k_is)
    (case a8 => k_is)
    (case l8 => k_is)
    (case c8 => k_is)
    (case k8 => k_is)
    (case a9 => k_is)
    (case l9 => k_is)
    (case c9 => k_is)
    (case k9 => k_is)
    (case a10 => k_is)
    (case l10 => k_is)
    (case c10 => k_is)
    (case k10 => k_is)
    (case a11 => k_is)
    (case l11 => k_is)
    (case c11 => k_is)
    (case k11 => k_is)
    (case a12 => k_is)
    (case l12 => k_is)
    (case c12 => k_is)
    (case k12 => k_is)
    (case a13 => k_is)
    (case l13 => k_is)
    (case c13 => k_is)
    (case k13 => k_is)
    (case a14 => k_is)
    (case l14 => k_is)
    (case c14 => k_is)
    (case k14 => k_is)
    (case a15 => k_is)
    (case l15 => k_is)
    (case c15 => k_is)
    (case k15 => k_is)
    (case a16 => k_is)
    (case l16 => k_is)
    (case c16 => k_is)
    (case k16 => k_is)
    (case a17 => k_is)
    (case l17 => k_is)
    (case c17 => k_is)
    (case k17 => k_is)
    (case a18 => k_is)
    (case l18 => k_is)
    (case c18 => k_is)
    (case k18 => k_is)
    (case a19 => k_is)
    (case l19 => k_is)
    (case c19 => k_is)
    (case k19 => k_is)
    (case a20 => k_is)
    (case l20 => k_is)
    (case c20 => k_is)
    (case k20 => k_is)
    (case x120 => k_is)
    (case x220 => rfl)
    (case x320 => rfl)
    (case x420 => rfl)
    (case x520 => exact PySem.W.km_tabs_of Y _ (by decide))
    (case qn => k_is)
    (case qt => k_is)
    (case caO => k_is)
    (case q1O => first | rfl | k_is)
    (case q2O => k_is)
    (case q3O => k_is)
    (case q4O => k_is)
    (case q5O => k_is)
    (case q8O => k_is)
    (case qbO => k_is)
    (case qcO => k_is)
    (case q6O => k_is)
    (case q7O => k_is)
    (case q9O => k_is)
    (case qaO => k_is)
    (case qiO => k_is)
    (case qjO => k_is)
    (case liO => k_is)
    (case ciO => k_is)
    (case kiO => k_is)
    (case caX => k_is)
    (case q1X => first | rfl | k_is)
    (case q2X => k_is)
    (case q3X => k_is)
    (case q4X => k_is)
    (case q5X => k_is)
    (case q8X => k_is)
    (case qbX => k_is)
    (case qcX => k_is)
    (case q6X => k_is)
    (case q7X => k_is)
    (case q9X => k_is)
    (case qaX => k_is)
    (case qiX => k_is)
    (case qjX => k_is)
    (case liX => k_is)
    (case ciX => k_is)
    (case kiX => k_is)
    (case caW => k_is)
    (case q1W => first | rfl | k_is)
    (case q2W => k_is)
    (case q3W => k_is)
    (case q4W => k_is)
    (case q5W => k_is)
    (case q8W => k_is)
    (case qbW => k_is)
    (case qcW => k_is)
    (case q9W => k_exc)
    (case caR => k_is)
    (case caN => k_is)
    (case eO => first | rfl | decide +kernel)
    (case eX => first | rfl | decide +kernel)
    (case eW => first | rfl | decide +kernel)
    (case wW => first | rfl | decide +kernel)
    (case vW => first | rfl | decide +kernel)
    (case vO => first | rfl | decide +kernel)
    (case vX => first | rfl | decide +kernel)
    (case rW => first | rfl | decide +kernel)
    (case tO => first | rfl | decide +kernel)
    (case tX => first | rfl | decide +kernel)
    (case oo => first | rfl | decide +kernel)
    (case ox => first | rfl | decide +kernel)
    (case xo => first | rfl | decide +kernel)
    (case zisinstance => k_is)
    (case zint => k_is)
    (case zbool => k_is)
    (case zstr => k_is)
    (case ztuple => k_is)
    (case zlist => k_is)
    (case zlen => k_is)
    (case zall => k_is)
    (case zset => k_is)
    (case zrange => k_is)
    (case zabs => k_is)
    (case zrepr => k_is)
    (case zValueError => k_is)
    (case gk0 => k_is)
    (case gk1 => k_is)
    (case gk2 => k_is)
