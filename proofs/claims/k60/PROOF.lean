import PyProof.Rows.All
import Wide.All
import OpenK.AllK
import Wide.FinOn
import HandS.ForExc
import HandS.TryMany
import HandS.ExcValue
import KE.KExcIs
import KE.KTryMore
import HandS.ExcField
import HandS.IsInst
import HandS.ForMost
import HandS.Wide
import HandS.EndBits
import HandS.TupAny
import HandS.Evl
import HandS.Lambda
import HandS.SetBool
import HandS.SetKeys
import HandS.Strs
import HandS.Style
import HandS.DeepEq
import KE.KIndexOf
import KE.DatumOrd
import HandS.Nested
import HandS.ClsMeth
import KE.KSuper
import HandS.ExcInit
import HandS.WordsExc
import HandS.More
import HandS.EndTab
import PySem.Challenge.RW_shuntplan_k60_reversed_rows
set_option Elab.async false
set_option linter.all false
set_option maxRecDepth 100000
set_option maxHeartbeats 4000000
/-! try .. except (X, Y) as e: kept = e .. except Z as e: ..; the error kept is tracked behind the statement -/
namespace My
open PySem PySem.Spec PyProof.Rows L2
/-- an error of the class cls with the dict d -/
def XO (cls : Value) (d : Option Addr) (a : Addr) : HO := .ext fun h => ∃ (oe : Obj) (vs : Array Value), h.get? a = some oe ∧ Zc cls d oe ∧ oe.data = .fields vs
theorem xo_ok {P : Program} {w : World} {H : Hp} {h : Heap} {a : Addr} {cls : Value} {d : Option Addr} {oe : Obj} {vs : Array Value} (e : h.get? a = some oe) (z : Zc cls d oe) (q : oe.data = .fields vs) : ObjOk P w H h a (XO cls d a) :=
  ⟨⟨oe, vs, e, z, q⟩, ⟨oe, e⟩, fun _ _ ⟨o, v, p, r⟩ k => ⟨o, v, k o p, r⟩⟩
section
variable {X : Cx} {pins : List (Addr × Obj)} {σ : L2.St} {H : Hp} {s : Shared}
theorem track {a : Addr} {oe : Obj} {vs : Array Value} {cls : Value} {d : Option Addr} (I : Inv X pins σ H s) (he : s.heap.get? a = some oe) (hz : Zc cls d oe) (hd : oe.data = .fields vs) (na : H a = none) (n0 : X.s_0.heap.get? a = none) (nL : a ≠ X.env.locals)
    (np : ∀ p ∈ X.pn ++ pins, p.1 ≠ a) : Inv X pins σ (upd H a (XO cls d a)) s := by
  have n1 : ∀ {b o}, X.s_0.heap.get? b = some o → b ≠ a := fun {b o} e z => by rw [z, n0] at e; cases e
  have n2 : ∀ {b u}, H b = some u → b ≠ a := fun {b u} e => ne_of_none e na
  refine ⟨I.ok, I.os, I.bare, ⟨I.base.keep, I.base.slot, fun b o e n q => ?_, I.base.there, fun b xs e => ?_, fun b o u e => ?_, fun b ps e => ?_⟩, I.loc, I.cell, ?_, fun x c e => ?_, fun p hp => ?_, HOk.laidN I.hok (fun _ _ e => e) na (xo_ok he hz hd), I.len⟩
  · rw [upd_ne (n1 e)]
    exact I.base.free b o e n q
  · have q := I.base.tups b xs e
    rw [upd_ne (n2 q)]
    exact q
  · have q := I.base.frzs b o u e
    rw [upd_ne (n2 q)]
    exact q
  · obtain ⟨m, q⟩ := I.base.tbls b ps e
    exact ⟨m, by rw [upd_ne (n2 q)]; exact q⟩
  · rw [upd_ne (Ne.symm nL)]
    exact I.free
  · have ne : c ≠ a := fun z => by
      obtain ⟨v, o, ho, hc⟩ := I.cell x c e
      rw [z, he] at ho
      cases ho
      rw [hd] at hc
      cases hc
    rw [upd_ne ne]
    exact I.freeC x c e
  · obtain ⟨p1, p2, p3⟩ := I.pin p hp
    exact ⟨p1, by rw [upd_ne (np p hp)]; exact p2, p3⟩
theorem fly_keep {B h h' : Heap} {l : List Env} {a : Addr} {Z : Obj → Prop} (f : HandSPX.FlyingZ B l a Z h) (k : ∀ b o, h.get? b = some o → h'.get? b = some o) : HandSPX.FlyingZ B l a Z h' := by
  obtain ⟨f1, f2, f3, oe, vs, T, oT, ts, e1, e2, e3, e4, e5, e6, e7, e8, e9⟩ := f
  exact ⟨fun b o q => k b o (f1 b o q), f2, f3.of_keeps fun b o q _ => ⟨o, k b o q, rfl⟩, oe, vs, T, oT, ts, k _ _ e1, e2, e3, e4, e5, e6, k _ _ e7, e8, e9⟩
/-! what an except clause names -/
/-- the test of a clause is evaluated, and matched -/
structure TstOk (X : Cx) (t : Expr) (cs : List Value) : Prop where
  run : ∀ {a : Addr} {oe : Obj} {cls : Value} {b : Bool} {pn pins : List (Addr × Obj)} {σ : L2.St} {H : Hp} {s : Shared} {Q : Bool → Shared → Prop} {E : Value → Shared → Prop}, Inv (X.suite a pn) pins σ H s → s.heap.get? a = some oe → oe.cls = cls →
  PySem.W.exmAny X.K cls cs = some b → (∀ h', (∀ q o, s.heap.get? q = some o → h'.get? q = some o) → Q b { s with heap := h' }) →
  wpAny (model X.prog X.w) (X.A.mark (some (.ref a))) (eval t X.env) (fun c s1 => wpAny (model X.prog X.w) (X.A.mark (some (.ref a))) (excMatches (.ref a) c) Q E s1) E s
theorem name_at {a : Addr} {pn : List (Addr × Obj)} {x : Str} {c : Value} {np : Pos} {Q : Value → Shared → Prop} {E : Value → Shared → Prop} (I : Inv (X.suite a pn) pins σ H s) (hc : Names X x c) (q : Q c s) : wpAny (model X.prog X.w) (X.A.mark (some (.ref a))) (eval (.Name x np) X.env) Q E s := by
  obtain ⟨h1, h2, h3 | ⟨h3, h4, h5⟩⟩ := hc
  · exact ld_glob (X := X.suite a pn) I h1 h3 q h2
  · exact ld_blt (X := X.suite a pn) I h1 h3 h4 q h5 h2
theorem ty_look {a : Addr} {oe : Obj} {cls : Value} (he : s.heap.get? a = some oe) (hc : oe.cls = cls) : PySem.W.Looks (model X.prog X.w) s.heap (typeOf (.ref a)) cls := fun A Q E s' k q => wpAny_typeOf_ref (k _ _ he) (by rw [hc]; exact q)
theorem any_one {K : PySem.W.Frag} {cls c : Value} {b : Bool} (h : PySem.W.exmAny K cls [c] = some b) : PySem.W.exmOne K cls c = some b := by
  obtain ⟨b1, d1, e1, e2, e3⟩ := PySem.W.exmAny_cons h
  cases (show some false = some d1 from e2)
  rw [Bool.or_false] at e3
  rw [e1, e3]
theorem tst1 {x : Str} {c : Value} {np : Pos} (hc : Names X x c) : TstOk X (.Name x np) [c] := ⟨fun {a oe cls b pn pins σ H s Q E} I he ho hx q => name_at I hc ((PySem.W.exm_one (M := model X.prog X.w) I.kIn (ty_look (X := X) he ho) (any_one hx)).here (q s.heap fun _ _ z => z))⟩
theorem tst2 {x1 x2 : Str} {c1 c2 : Value} {p1 p2 tp : Pos} {kk : Nat} (h1 : Names X x1 c1) (h2 : Names X x2 c2) : TstOk X (.Tuple [.Name x1 p1, .Name x2 p2] kk tp) [c1, c2] := ⟨fun {a oe cls b pn pins σ H s Q E} I he ho hx q => by
  refine wpAny_Tuple (wpAny_items_cons (name_at I h1 (wpAny_items_cons (name_at I h2 (wpAny_items_nil ⟨by size_fits, ?_⟩)))))
  have kp : ∀ q o, s.heap.get? q = some o → (s.heap.push { cls := .type "tuple", data := .seq [c1, c2].toArray }).get? q = some o := fun _ _ z => Heap.get?_push_of_some _ z
  exact (PySem.W.exm_tup2 (M := model X.prog X.w) (PySem.W.Frag.In.keeps I.kIn kp) ((ty_look (X := X) he ho).keeps kp) (Heap.get?_push_size s.heap rfl) hx).here (q _ kp)⟩
theorem tst3 {x1 x2 x3 : Str} {c1 c2 c3 : Value} {p1 p2 p3 tp : Pos} {kk : Nat} (h1 : Names X x1 c1) (h2 : Names X x2 c2) (h3 : Names X x3 c3) : TstOk X (.Tuple [.Name x1 p1, .Name x2 p2, .Name x3 p3] kk tp) [c1, c2, c3] := ⟨fun {a oe cls b pn pins σ H s Q E} I he ho hx q => by
  refine wpAny_Tuple (wpAny_items_cons (name_at I h1 (wpAny_items_cons (name_at I h2 (wpAny_items_cons (name_at I h3 (wpAny_items_nil ⟨by size_fits, ?_⟩)))))))
  have kp : ∀ q o, s.heap.get? q = some o → (s.heap.push { cls := .type "tuple", data := .seq [c1, c2, c3].toArray }).get? q = some o := fun _ _ z => Heap.get?_push_of_some _ z
  exact (PySem.W.exm_tup3 (M := model X.prog X.w) (PySem.W.Frag.In.keeps I.kIn kp) ((ty_look (X := X) he ho).keeps kp) (Heap.get?_push_size s.heap rfl) hx).here (q _ kp)⟩
theorem tst4 {x1 x2 x3 x4 : Str} {c1 c2 c3 c4 : Value} {p1 p2 p3 p4 tp : Pos} {kk : Nat} (h1 : Names X x1 c1) (h2 : Names X x2 c2) (h3 : Names X x3 c3) (h4 : Names X x4 c4) : TstOk X (.Tuple [.Name x1 p1, .Name x2 p2, .Name x3 p3, .Name x4 p4] kk tp) [c1, c2, c3, c4] := ⟨fun {a oe cls b pn pins σ H s Q E} I he ho hx q => by
  refine wpAny_Tuple (wpAny_items_cons (name_at I h1 (wpAny_items_cons (name_at I h2 (wpAny_items_cons (name_at I h3 (wpAny_items_cons (name_at I h4 (wpAny_items_nil ⟨by size_fits, ?_⟩)))))))))
  have kp : ∀ q o, s.heap.get? q = some o → (s.heap.push { cls := .type "tuple", data := .seq [c1, c2, c3, c4].toArray }).get? q = some o := fun _ _ z => Heap.get?_push_of_some _ z
  exact (PySem.W.exm_tup4 (M := model X.prog X.w) (PySem.W.Frag.In.keeps I.kIn kp) ((ty_look (X := X) he ho).keeps kp) (Heap.get?_push_size s.heap rfl) hx).here (q _ kp)⟩
end
/-! the statement -/
/-- a clause: the classes it names, its name's slot, its suite's reading -/
structure Cl where
  cs : List Value
  i : Nat
  ts : Addr → Value → Option Addr → TS
def keptD (a : Addr) (cls : Value) (d : Option Addr) (i : Nat) (D : Ends) : Ends := { nx := fun σ H => D.nx (σ.set i none) (upd H a (XO cls d a)), rt := D.rt, bk := fun σ H => D.bk (σ.set i none) H, ct := fun σ H => D.ct (σ.set i none) H }
def wCl (n : Nat) (K : PySem.W.Frag) (Wout : WX) (D : Ends) : List Cl → WX
  | [] => Wout
  | c :: r => fun cls d σ H => σ.length = n → ∃ b, PySem.W.exmAny K cls c.cs = some b ∧ (b = true → ∀ a, H a = none → c.ts a cls d (keptD a cls d c.i D) (σ.set c.i (some (.ref a))) H) ∧ (b = false → wCl n K Wout D r cls d σ H)
inductive ClsOk (X : Cx) : List ExceptHandler → List Cl → Prop
  | nil : ClsOk X [] []
  | cons {t : Expr} {n : Str} {cs : List Value} {i : Nat} {ts : Addr → Value → Option Addr → TS} {b₀ : Stmt} {su : List Stmt} {hp : Pos} {hds : List ExceptHandler} {l : List Cl} (ht : TstOk X t cs) (hi : X.N[i]? = some n) (hn : X.env.kindOf n = some .local)
      (hsu : ∀ (a : Addr) (oe : Obj) (cls : Value) (d : Option Addr) (pn : List (Addr × Obj)), Zc cls d oe → (∃ vs, oe.data = .fields vs) → PSs (X.suite a ((a, oe) :: pn)) (b₀ :: su) (ts a cls d)) (r : ClsOk X hds l) :
      ClsOk X (.ExceptHandler (some t) (some n) (b₀ :: su) hp :: hds) (⟨cs, i, ts⟩ :: l)
section
variable {X : Cx} {body : List Stmt} {h₀ : ExceptHandler} {hds : List ExceptHandler} {l : List Cl} {pos : Pos} {tb : WX → TS} {Wout : WX}
theorem ps_try_kept (hs : X.stack = X.env :: X.outer) (hf : X.env.frame = some X.env.locals) (hfs : X.fs = frs X.outer) (hex : X.ex = []) (hN : X.N.Nodup) (tk : Takes X Wout)
    (hb : ∀ (W : WX) (pn : List (Addr × Obj)) (xe : Value → Shared → Prop), Takes (X.tr pn xe) W → PassesOwn (model X.prog X.w) X.A X.env xe → PSs (X.tr pn xe) body (tb W))
    (hh : ClsOk X (h₀ :: hds) l) : PS X (.Try body (h₀ :: hds) [] [] pos) (fun D σ H => tb (wCl X.N.length X.K Wout D l) D σ H) := by
  refine ⟨fun pins s σ H D I h => ?_⟩
  have ok := I.ok; have hfr : X.A.frames = some (X.env :: X.outer) := by rw [ok.frames, hs]
  refine wpAny_Try_except (wpAny_mono ((hb (wCl X.N.length X.K Wout D l) (X.pn ++ pins) (fun e s₁ => wpAny (model X.prog X.w) X.A (noteFrame e X.env) (fun _ s₂ => wpAny (model X.prog X.w) X.A (setFlight e none) (fun _ s₃ => wpAny (model X.prog X.w) X.A (handleBy e X.env (h₀ :: hds)) (SP X pins D) X.xe s₃) X.xe s₂) X.xe s₁)
    (fun u s' xx => ?_) PassesOwn.looking).run [] s σ H D (I.toTry _) h) (fun f s1 hsp => ?_) (fun e s1 he => he))
  · obtain ⟨a, B, sI, pins', σ', H', cls, d, eu, J', nb, up, sky, na, os, ag, wish⟩ := xx
    subst eu
    have J : Inv X pins σ' H' sI := J'.ofTry ok
    have sky' : Sky B (X.env :: X.outer) a (Zc cls d) X.env.locals s'.heap := hs ▸ sky
    show wpAny (model X.prog X.w) X.A (noteFrame (.ref a) X.env) _ _ _
    refine Sky.land Zc.steady hfr hf sky' fun g0 fl0 up0 => ?_
    obtain ⟨oe0, vs0, e0, z0, d0⟩ := fl0.there
    have nfr : a ∉ frs (X.env :: X.outer) := fun hm => by
      obtain ⟨_, o', e', hnf⟩ := fl0.2.2.1.mem hm
      rw [e0] at e'
      cases e'
      exact hnf _ d0
    have nL : a ≠ X.env.locals := fun z => nfr (List.mem_filterMap.mpr ⟨X.env, List.mem_cons_self, hf.trans (congrArg some z.symm)⟩)
    have nF : a ∉ X.fs := fun hm => by
      rw [hfs] at hm
      obtain ⟨e, h1, h2⟩ := List.mem_filterMap.mp hm
      exact nfr (List.mem_filterMap.mpr ⟨e, List.mem_cons_of_mem _ h1, h2⟩)
    have notI : ∀ b o, sI.heap.get? b = some o → b ∉ frs X.stack → b ≠ a := fun b o e n z => by
      have q := nb b o e n
      rw [z, fl0.2.1] at q
      cases q
    have n0 : X.s_0.heap.get? a = none := by
      cases e : X.s_0.heap.get? a with
      | none => rfl
      | some o =>
        obtain ⟨o', q⟩ := J.base.there a o e (by rw [hex]; exact fun z => nomatch z)
        exact absurd rfl (notI a o' q (by rw [hs]; exact nfr))
    have np : ∀ p ∈ X.pn ++ pins, p.1 ≠ a := fun p hp => by
      obtain ⟨p1, p2, p3, p4, _⟩ := J.pin p hp
      refine notI p.1 p.2 p1 fun hm => ?_
      rw [hs] at hm
      obtain ⟨e, h1, h2⟩ := List.mem_filterMap.mp hm
      rcases List.mem_cons.mp h1 with h1 | h1
      · rw [h1, hf] at h2
        exact p3 (Option.some.inj h2).symm
      · exact p4 (by rw [hfs]; exact List.mem_filterMap.mpr ⟨e, h1, h2⟩)
    have go : ∀ {hds' : List ExceptHandler} {l' : List Cl}, ClsOk X hds' l' → ∀ g : Heap, HandSPX.FlyingZ B (X.env :: X.outer) a (Zc cls d) g → sI.heap.UpToSlots g → wCl X.N.length X.K Wout D l' cls d σ' H' → wpAny (model X.prog X.w) X.A (handleBy (.ref a) X.env hds') (SP X pins D) X.xe { s' with heap := g } := by
      intro hds' l' hk
      induction hk with
      | nil =>
        intro g fl upg wish
        refine wpAny_handleBy_nil ?_
        obtain ⟨k1, k2, k3, oe, vs, T, oT, ts', he, hz, hd, h1, hr⟩ := id fl
        unfold PySem.passOn; refine wpAny_bind (wpAny_field he hd h1 ?_)
        rw [if_neg (show ¬ ((Value.ref T == Value.none) = true) by simp)]
        have fin : wpAny (model X.prog X.w) X.A (setFlight (.ref a) X.env.frame) (fun _ s4 => wpAny (model X.prog X.w) X.A (throw (.ref a) : Sem Flow) (SP X pins D) X.xe s4) X.xe { s' with heap := g } := by
          rw [hf]
          exact HandSPX.setFlight_upZ fl fun h4 q4 up4 => wpAny_throw (tk _ _ ⟨a, B, sI, pins, σ', H', cls, d, rfl, J, nb, upg.trans up4, .inr (.inr (by rw [hs]; exact q4)), na, os, ag, wish⟩)
        first | exact wpAny_bind (wpAny_pure (wpAny_bind fin)) | exact wpAny_bind fin
      | @cons t n cs i ts b₀ su hp hds2 l2 ht hi hn hsu r ih =>
        intro g fl upg wish
        obtain ⟨b, hb1, yes, no⟩ := wish J.len
        have Jg : Inv X pins σ' H' { s' with heap := g } := J.landed nb fl.1 upg os ag
        obtain ⟨oe, vs, he, hz, hd⟩ := fl.there
        have Sg := Jg.suite he hd na nL nF
        refine wpAny_handleBy_cons (codeAny_handlers_test (ht.run Sg he hz.1 hb1 fun g2 kp => ?_)) (by intro q; cases q)
        have fl2 := fly_keep fl kp
        have up2 : sI.heap.UpToSlots g2 := upg.trans (Heap.UpToSlots.of_keeps kp)
        cases b with
        | true =>
          refine codeAny_handlers_suite_as (HandSPX.lands_againZ fl2 fun g4 fl4 up4 => ?_)
          have J4 : Inv X pins σ' H' { s' with heap := g4 } := J.landed nb fl4.1 (up2.trans up4) os ag
          obtain ⟨oe4, vs4, he4, hz4, hd4⟩ := fl4.there
          refine store_ok (X := X.suite a ((a, oe4) :: (X.pn ++ pins))) (v := .ref a) (J4.suite he4 hd4 na nL nF) hN hi (.inl hn) rfl (fun s5 S5 => ?_) (.inr hn)
          refine wpAny_mono ((hsu a oe4 cls d (X.pn ++ pins) hz4 ⟨_, hd4⟩).run [] s5 _ H' _ S5 (yes rfl a na)) (fun f s6 hsp => ?_) (fun _ _ z => False.elim z)
          have end_ : ∀ {σ6 : L2.St} {H6 : Hp} {Q : Shared → Prop}, Inv (X.suite a ((a, oe4) :: (X.pn ++ pins))) [] σ6 H6 s6 → (∀ s7, Inv X pins (σ6.set i none) H6 s7 → Q s7) → wpAny (model X.prog X.w) X.A (do bindName X.env n .none; unbindBehindTheSuite X.env n hp) (fun _ s7 => Q s7) X.xe s6 := fun S6 hq => gone_ok (S6.unsuite ok) hN hi hn hq
          have endT : ∀ {σ6 : L2.St} {H6 : Hp} {Q : Shared → Prop}, Inv (X.suite a ((a, oe4) :: (X.pn ++ pins))) [] σ6 H6 s6 → (∀ s7, Inv X pins (σ6.set i none) (upd H6 a (XO cls d a)) s7 → Q s7) → wpAny (model X.prog X.w) X.A (do bindName X.env n .none; unbindBehindTheSuite X.env n hp) (fun _ s7 => Q s7) X.xe s6 := fun S6 hq => by
            obtain ⟨q1, q2, _⟩ := S6.pin (a, oe4) (List.mem_append_left _ List.mem_cons_self)
            exact gone_ok (track (S6.unsuite ok) q1 hz4 hd4 q2 n0 nL np) hN hi hn hq
          cases f with
          | next => obtain ⟨_, _, S6, q6⟩ := hsp; exact endT S6 fun s7 J7 => ⟨_, _, J7, q6⟩
          | brk => obtain ⟨_, _, S6, q6⟩ := hsp; exact end_ S6 fun s7 J7 => ⟨_, _, J7, q6⟩
          | cont => obtain ⟨_, _, S6, q6⟩ := hsp; exact end_ S6 fun s7 J7 => ⟨_, _, J7, q6⟩
          | ret u => obtain ⟨_, _, _, S6, r6, q6⟩ := hsp; exact end_ S6 fun s7 J7 => ⟨_, _, _, J7, r6, q6⟩
        | false => exact ih g2 fl2 up2 (no rfl)
    exact go hh g0 fl0 (up.trans up0) wish
  · cases f with
    | next => obtain ⟨_, _, J', q⟩ := hsp; exact wpAny_execs_nil ⟨_, _, J'.ofTry ok, q⟩
    | brk => obtain ⟨_, _, J', q⟩ := hsp; exact ⟨_, _, J'.ofTry ok, q⟩
    | cont => obtain ⟨_, _, J', q⟩ := hsp; exact ⟨_, _, J'.ofTry ok, q⟩
    | ret u => obtain ⟨_, _, _, J', r, q⟩ := hsp; exact ⟨_, _, _, J'.ofTry ok, r, q⟩
end
end My
set_option Elab.async false
set_option linter.all false
set_option maxRecDepth 100000
set_option maxHeartbeats 4000000
/-! a kept error: isinstance of it, its fields -/
namespace My
open PySem PySem.Spec PyProof.Rows L2
/-- what an own class of errors must say, so that isinstance asks its instances rightly -/
structure XC (K : PySem.W.Frag) (C : Addr) : Prop where
  hc : (PySem.W.clsIn K C).isSome = true
  ga : PySem.W.findIn K (.ref C) "__getattribute__" = some (some (.builtin "BaseException.__getattribute__"))
  gt : PySem.W.findIn K (.ref C) "__getattr__" = some none
  sb : PySem.W.subIn K (.ref C) (.type "BaseException") = some true
  ha : PySem.W.findIn K (.ref C) "__class__" = some (some (.builtin "object.__class__"))
  hn : PySem.W.specialIn K (.builtin "object.__class__") "__get__" = some (some (.builtin "getset_descriptor.__get__"))
  ht : PySem.W.takesIn K (.builtin "object.__class__") = some true
  hm : PySem.W.mroIn K C (.type "object") = some true
section
variable {X : Cx} {pins : List (Addr × Obj)} {σ : L2.St} {H : Hp} {s : Shared}
/-- the dict of a kept error is there -/
def DictAt (H : Hp) : Option Addr → Prop
  | none => True
  | some dd => ∃ fs, H dd = some (.xd fs)
theorem inst_of {a C : Addr} {d : Option Addr} (I : Inv X pins σ H s) (h : H a = some (XO (.ref C) d a)) (hd : DictAt H d) : ∃ ox od, PySem.W.InstAt s.heap a ox C od := by
  have hx : ObjOk X.prog X.w H s.heap a (XO (.ref C) d a) := I.hok a _ h
  obtain ⟨⟨oe, vs, h1, ⟨h2, h3⟩, h4⟩, _, _⟩ := hx
  cases d with
  | none => exact ⟨oe, none, h1, h2, by unfold PySem.W.notCls; rw [h4] <;> rfl, by rw [h3]; trivial⟩
  | some dd =>
    obtain ⟨fs, e⟩ := hd
    have hx2 : ObjOk X.prog X.w H s.heap dd (.xd fs) := I.hok dd _ e
    obtain ⟨mA, hns, _⟩ := hx2
    obtain ⟨od, ho, _⟩ := lookIn_ns hns
    exact ⟨oe, some od, h1, h2, by unfold PySem.W.notCls; rw [h4] <;> rfl, by rw [h3]; exact ho⟩
/-- isinstance(kept, c) -/
def rIsX (K : PySem.W.Frag) : List V → Hp → VK → Prop := fun xs H Q => ∃ (a C : Addr) (d : Option Addr) (c : V) (cv : Value) (b : Bool), xs = [.ref a, c] ∧ H a = some (XO (.ref C) d a) ∧ DictAt H d ∧ XC K C ∧ (∀ u, RelV c u → u = cv) ∧ PySem.W.kitOne K (.ref C) cv = some b ∧ Q (.bl b) H
theorem call_isX : CallR X (.builtin "isinstance") (rIsX X.K) := by
  intro pins s σ H xs us Q I r h
  obtain ⟨a, C, d, c, cv, b, rfl, ha, hd, T, hcv, e, q⟩ := h
  obtain ⟨u1, u2, rfl, r1, r2⟩ := vals2 r
  cases (show u1 = Value.ref a from r1)
  cases hcv _ r2
  obtain ⟨ox, od, J⟩ := inst_of I ha hd
  exact PySem.W.kia_one (PySem.W.kitx_exc (od := od) T.hc T.ga T.gt T.sb T.ha T.hn T.ht T.hm) I.kIn J e (fun z => nomatch z) fun tk => ⟨.bl b, H, I.tok tk, rfl, q⟩
/-- isinstance(kept, (c1, c2, ..)) -/
def rIsXT (K : PySem.W.Frag) : List V → Hp → VK → Prop := fun xs H Q => ∃ (a C : Addr) (d : Option Addr) (tp : Addr) (cs : List V) (ws : List Value) (b : Bool), xs = [.ref a, .ref tp] ∧ H a = some (XO (.ref C) d a) ∧ DictAt H d ∧ XC K C ∧ H tp = some (.tup cs) ∧ (∀ us, Vals cs us → us = ws) ∧ PySem.W.kitAny K (.ref C) ws = some b ∧ Q (.bl b) H
theorem call_isXT : CallR X (.builtin "isinstance") (rIsXT X.K) := by
  intro pins s σ H xs us Q I r h
  obtain ⟨a, C, d, tp, cs, ws, b, rfl, ha, hd, T, hT, hcv, e, q⟩ := h
  obtain ⟨u1, u2, rfl, r1, r2⟩ := vals2 r
  cases (show u1 = Value.ref a from r1)
  cases (show u2 = Value.ref tp from r2)
  obtain ⟨ox, od, J⟩ := inst_of I ha hd
  obtain ⟨_, its, rv, o, h1, h2, n, h3⟩ := (show ObjOk X.prog X.w H s.heap tp (.tup cs) from I.hok tp _ hT)
  cases hcv _ rv
  obtain ⟨oc, oo, dt, sl⟩ := o
  simp only at h2 h3
  subst h2 h3
  exact PySem.W.kia_tup (PySem.W.kitx_exc (od := od) T.hc T.ga T.gt T.sb T.ha T.hn T.ht T.hm) I.kIn J h1 e (fun z => nomatch z) fun tk => ⟨.bl b, H, I.tok tk, rfl, q⟩
/-- kept.f -/
def tXk (K : PySem.W.Frag) (f : Str) (te : TE) : TE := fun σ H Q => te σ H fun x H1 => ∃ (a C dd : Addr) (fs : List (Str × V)) (v : V), x = .ref a ∧ H1 a = some (XO (.ref C) (some dd) a) ∧ H1 dd = some (.xd fs) ∧ fs.lookup f = some v ∧ XfC K C ∧ PySem.W.findIn K (.ref C) f = some none ∧ Q v H1
theorem pe_xk {e : Expr} {te : TE} {pos : Pos} {n : Str} (he : PE X e te) (hb : attributeBase e n X.env (eval e X.env) = eval e X.env := by rfl) : PE X (.Attribute e n pos) (tXk X.K n te) := by
  refine ⟨fun pins s σ H Q I h => ?_⟩
  refine attr_of hb (thn (he.run pins s σ H _ I h) fun u s1 hh => ?_)
  obtain ⟨x, H1, I1, rx, a, C, dd, fs, v, ex, ha, ed, l, T, hno, q⟩ := hh
  subst ex
  cases (show u = Value.ref a from rx)
  have hx : ObjOk X.prog X.w H1 s1.heap a (XO (.ref C) (some dd) a) := I1.hok a _ ha
  obtain ⟨⟨oe, vs, h1, ⟨h2, h3⟩, h4⟩, _, _⟩ := hx
  have hx2 : ObjOk X.prog X.w H1 s1.heap dd (.xd fs) := I1.hok dd _ ed
  obtain ⟨mA, hns, hr⟩ := hx2
  obtain ⟨od, ho, hl⟩ := lookIn_ns hns
  obtain ⟨u, hu, ru⟩ := RelO.some_of (v := v) (o := mA n) (by rw [← l]; exact hr n)
  have J : PySem.W.InstAt s1.heap a oe C (some od) := ⟨h1, h2, by unfold PySem.W.notCls; rw [h4] <;> rfl, by rw [h3]; exact ho⟩
  exact HandSPX.exc_get I1.kIn J T.ga T.gg T.exC (PySem.W.findObj_own T.hdC hno rfl (by rw [hl, hu])) (handed_of ru) ⟨v, H1, I1.tok _, ru, q⟩
end
end My
set_option Elab.async false
set_option linter.all false
set_option maxRecDepth 100000
set_option maxHeartbeats 4000000
/-! Defs that show values: a promise that may lean on «nothing is being shown around the call», its callers, its end, and repr of data. -/
namespace My
open PySem PySem.Spec PyProof.Rows L2

/-- no value is being shown around here -/
def Still (A : Around) : Prop := A.guards = some []
theorem Still.deeper {A : Around} (h : Still A) (e : Env) : Still (A.deeper e) := h

section
variable (P : Program) (w : World) (K : PySem.W.Frag) (mg : Str → Option Value) (base : Heap) (CX : CXT)
/-- a def's promise, kept wherever nothing is being shown -/
structure FnG (k : Nat) (f : Addr) (fd : FuncData) (ps : List Str) (sp : Sp) : Prop where
  len : ∀ vs H Q E, sp vs H Q E → vs.length = ps.length
  run : ∀ (A : Around) (stk : List Env) (s : Shared) (H : Hp) (g : Args) (us : List Value) (vs : List V) (Q : VK) (E : XK), Still A → Room k A → Env0 P w K mg base A stk s H →
    BindsTo s fd g (ps.zip us) → Vals vs us → sp vs H Q E → codeAny (model P w) A (.call (.ref f) g) (CR CX stk P w H s Q E) s
end

section
variable {P : Program} {w : World} {K : PySem.W.Frag} {mg : Str → Option Value} {base : Heap} {CX : CXT}
theorem FnG.of {k : Nat} {f : Addr} {fd : FuncData} {ps : List Str} {sp : Sp} (F : FnOk P w K mg base CX k f fd ps sp) : FnG P w K mg base CX k f fd ps sp :=
  ⟨F.len, fun A stk s H g us vs Q E _ r e b v h => F.run A stk s H g us vs Q E r e b v h⟩
theorem FnG.mono {i k : Nat} {f : Addr} {fd : FuncData} {ps : List Str} {sp : Sp} (F : FnG P w K mg base CX i f fd ps sp) (h : i ≤ k) : FnG P w K mg base CX k f fd ps sp :=
  ⟨F.len, fun A stk s H g us vs Q E st r e b v q => F.run A stk s H g us vs Q E st (r.mono h) e b v q⟩
theorem FnG.imp {k : Nat} {f : Addr} {fd : FuncData} {ps : List Str} {sp sp' : Sp} (F : FnG P w K mg base CX k f fd ps sp) (h : ∀ vs H Q E, sp' vs H Q E → sp vs H Q E) : FnG P w K mg base CX k f fd ps sp' :=
  ⟨fun vs H Q E q => F.len vs H Q E (h _ _ _ _ q), fun A stk s H g us vs Q E st r e b v q => F.run A stk s H g us vs Q E st r e b v (h _ _ _ _ q)⟩
end

section
variable {X : Cx} {CX : CXT} {k : Nat} {f C : Addr} {fd : FuncData} {ps : List Str} {sp : Sp} {dvs : List V} {ds : List Value} {E : XK} {x : Str} {p pos : Pos} {e : Expr} {es : List Expr} {t : TA}
theorem runG {pins : List (Addr × Obj)} {σ : L2.St} {H : Hp} {s : Shared} {Q : VK} {us : List Value} {vs : List V} (F : FnG X.prog X.w X.K X.mg X.base CX k f fd ps sp) (st : Still X.A) (hr : Room k X.A)
    (hb : Binds X.K fd ps ds) (hd : Vals dvs ds) (hx : Passes CX X E) (I : Inv X pins σ H s) (rv : Vals vs us) (hp : sp (vs ++ dvs) H Q E) :
    wpAny (model X.prog X.w) X.A (call (.ref f) us) (EP X pins σ Q) X.xe s := by
  have all : Vals (vs ++ dvs) (us ++ ds) := rv.append hd
  have many : (us ++ ds).length = ps.length := all.length.symm.trans (F.len _ _ _ _ hp)
  refine wpAny_call (codeAny_mono (F.run X.A X.stack s H ⟨us, []⟩ (us ++ ds) (vs ++ dvs) Q E st hr I.env0 (hb s us I.kIn many) all hp) ?_)
  intro res s' end_
  match res, end_ with
  | .error er, z => exact hx pins σ H s er s' I z
  | .ok (.ret u), z => exact I.after z
  | .ok .next, z => exact z.elim
  | .ok .brk, z => exact z.elim
  | .ok .cont, z => exact z.elim

theorem pe_callG (F : FnG X.prog X.w X.K X.mg X.base CX k f fd ps sp) (st : Still X.A) (hr : Room k X.A) (hg : Gl X x) (hm : X.mg x = some (.ref f)) (kp : PySem.W.keepIn X.K (.ref f) = true)
    (hb : Binds X.K fd ps ds) (hd : Vals dvs ds) (hx : Passes CX X E) (ha : PA X (e :: es) t) (nd : (x == ("__debug__" : Str)) = false := by decide)
    (he : starEach (e :: es) X.env = (false, eval e X.env) :: starEach es X.env := by rfl) (hp : (backTo pos (starEach es X.env)).any (·.1) = false := by rfl) :
    PE X (.Call (.Name x p) (e :: es) [] pos) (tCall sp dvs E t) :=
  ⟨fun pins s σ H Q I q => wpAny_Call_Name_kw (ld_glob I hg hm
    (PySem.W.callWith_K (h₀ := X.base) I.ok.mod.kin kp (thn (ha.run pos pins s σ H _ I q) fun _ _ ⟨_, _, J, rv, z⟩ => ⟨J.kIn, runG F st hr hb hd hx J rv z⟩) he hp) nd)⟩
theorem pe_callG0 (F : FnG X.prog X.w X.K X.mg X.base CX k f fd ps sp) (st : Still X.A) (hr : Room k X.A) (hg : Gl X x) (hm : X.mg x = some (.ref f)) (kp : PySem.W.keepIn X.K (.ref f) = true)
    (hb : Binds X.K fd ps ds) (hd : Vals dvs ds) (hx : Passes CX X E) (nd : (x == ("__debug__" : Str)) = false := by decide) : PE X (.Call (.Name x p) [] [] pos) (tCall sp dvs E tNil) :=
  ⟨fun pins s σ H Q I q => wpAny_Call_Name_kw (ld_glob I hg hm (PySem.W.callWith_K0 I.kIn kp (runG (us := []) F st hr hb hd hx I .nil q)) nd)⟩
end

/-! ### a def by its body -/
theorem fn_ofG {CX : CXT} {P : Program} {w : World} {K : PySem.W.Frag} {mg : Str → Option Value} {base : Heap} {k : Nat} {f : Addr} {name qual : Str} {params : Arguments} {body : List Stmt} {sc : Scope} {dV kV doc pm cdv ct oc : Value} {an od : Option Addr}
    {osl : Array (Option Value)} {N ps : List Str} {sp : Sp} (lk : K.lookup f = some ⟨oc, od, .func (PySem.W.fnOf name qual params body sc dV kV doc pm an cdv ct), osl⟩) (hc : PySem.W.codeIn K cdv qual = true) (S : FnScope N ps sc)
    (len : ∀ vs H Q E, sp vs H Q E → vs.length = ps.length)
    (hbody : ∀ (A : Around) (stk : List Env) (s : Shared) (H : Hp) (vs : List V) (Q : VK) (E : XK), Still A → Room k (A.deeper (envOfC qual sc s.heap.objs.size f cdv)) → sp vs H Q E →
      ∃ t, PSs (cxOf CX P w K mg base N qual sc f cdv A stk s H E) body t ∧ t { nx := fun _ H' => Q .non H', rt := Q } (start N vs) H) :
    FnG P w K mg base CX (k + 1) f (PySem.W.fnOf name qual params body sc dV kV doc pm an cdv ct) ps sp := by
  refine ⟨len, fun A stk s H g us vs Q E st hr e0 hb rv hp => ?_⟩
  have many := len _ _ _ _ hp
  have keep : ∀ b o, base.get? b = some o → s.heap.get? b = some o := fun b o e => (e0.bs b o e).1
  have KX : K.In s.heap := e0.mod.kin.keeps keep
  have lim : s.heap.NoLimit := e0.mod.nolimit.keeps keep
  refine codeAny_call_function hr.depth (KX _ _ lk) rfl S.co S.gen rfl (PySem.W.codeRec_of KX hc) (hb _ _ _ _ (wpAny_newFunctionEnv_cells S.kind ?_ ?_))
  · rintro ⟨n, v⟩ hy
    rcases S.par n (List.of_mem_zip hy).1 with q | q
    · exact .inl q
    · exact .inr ⟨q, PySem.W.cellsFrom_some _ _ _ (.inl q)⟩
  · rintro env rfl s1 x
    obtain ⟨t, ht, hq⟩ := hbody A stk s H vs Q E st (hr.deeper _) hp
    refine ⟨lim.keeps x.toInCall.keep, codeAny_func (wpAny_mono (ht.run [] s1 (start N vs) H _ (inv_start S hr.hd e0 many rv x) hq) ?_ fun _ _ z => z)⟩
    intro fl s' z
    match fl, z with
    | .ret u, ⟨v, _, H', J, r, q⟩ => exact ⟨v, H', J.os, J.bare, J.base, J.hok, r, q⟩
    | .next, ⟨_, H', J, q⟩ => exact ⟨V.non, H', J.os, J.bare, J.base, J.hok, (rfl : Value.none = Value.none), q⟩
    | .brk, ⟨_, _, _, q⟩ => exact q.elim
    | .cont, ⟨_, _, _, q⟩ => exact q.elim

section
variable {P : Program} {w : World} {K : PySem.W.Frag} {mg : Str → Option Value} {base : Heap}
theorem okG {x qual : Str} {st : Stmt} {f : Addr} {fd : FuncData} {N ps : List Str} {k : Nat} {sp : Sp} (F : Fun K x qual st f fd) (S : FnScope N ps (defScope st)) (len : ∀ vs H Q E, sp vs H Q E → vs.length = ps.length)
    (hbody : ∀ (cdv : Value) (A : Around) (stk : List Env) (s : Shared) (H : Hp) (vs : List V) (Q : VK) (E : XK), Still A → Room k (A.deeper (envOfC qual (defScope st) s.heap.objs.size f cdv)) → sp vs H Q E →
      ∃ t, PSs (cxOf CX0 P w K mg base N qual (defScope st) f cdv A stk s H E).nox (defBody st) t ∧ t { nx := fun _ H' => Q .non H', rt := Q } (start N vs) H) : FnG P w K mg base CX0 (k + 1) f fd ps sp := by
  obtain ⟨oc, od, kV, doc, pm, an, cdv, ct, osl, rfl, lk, hc⟩ := F.ex
  exact fn_ofG lk hc S len fun A stk s H vs Q E sl hr hp => let ⟨t, h, q⟩ := hbody cdv A stk s H vs Q E sl hr hp; ⟨t, h.nox, q⟩
end

/-! ### repr of data -/
section
variable {X : Cx}
def rRepr (K : PySem.W.Frag) : List V → Hp → VK → Prop := fun xs H Q => ∃ v d, xs = [v] ∧ Dp K H v d ∧ d.showable = true ∧ d.depth ≤ 60 ∧ d.shown.length ≤ sizeLine ∧ Q (.str d.shown) H
mutual
theorem noDict {K : PySem.W.Frag} {H : Hp} : ∀ (d : PyData) (v : V), Dp K H v d → d.hasDict = false
  | .none, _, _ => by simp only [PyData.hasDict]
  | .bool _, _, _ => by simp only [PyData.hasDict]
  | .int _, _, _ => by simp only [PyData.hasDict]
  | .str _, _, _ => by simp only [PyData.hasDict]
  | .list ds, _, h => by
    cases h with
    | lst _ a =>
      simp only [PyData.hasDict]
      exact noDictAll ds _ a
  | .tuple ds, _, h => by
    cases h with
    | tup _ a =>
      simp only [PyData.hasDict]
      exact noDictAll ds _ a
  | .dict _, _, h => by cases h
theorem noDictAll {K : PySem.W.Frag} {H : Hp} : ∀ (ds : List PyData) (vs : List V), DpAll K H vs ds → PyData.hasDictAll ds = false
  | [], _, _ => by simp only [PyData.hasDictAll]
  | d :: ds, _, h => by
    cases h with
    | cons a b =>
      simp only [PyData.hasDictAll, noDict d _ a, noDictAll ds _ b]
      rfl
end
theorem inv_more {pins : List (Addr × Obj)} {σ : L2.St} {H : Hp} {s : Shared} {h' : Heap} {tk : Nat} (I : Inv X pins σ H s) (k : ∀ b o, s.heap.get? b = some o → h'.get? b = some o) : Inv X pins σ H { s with heap := h', toks := tk } :=
  I.un (Un.kept k) (I.hok.kept k)
theorem call_repr (hg : Still X.A) (hu : X.A.units + 64 < cLine) : CallR X (.builtin "repr") (rRepr X.K) := by
  intro pins s σ H xs us Q I r h
  obtain ⟨v, d, rfl, hd, hs, hdp, hz, q⟩ := h
  obtain ⟨u, rfl, rv⟩ := vals1 r
  have nd := noDict d v hd
  obtain ⟨as, rd⟩ := Dp.reads I d v u hd rv
  have fin : ∀ (h' : Heap) (t tk : Tok), (∀ b o, s.heap.get? b = some o → h'.get? b = some o) → EP X pins σ Q (.str d.shown t) { s with heap := h', toks := tk } :=
    fun h' t tk k => ⟨.str d.shown, H, inv_more I k, ⟨t, rfl⟩, q⟩
  cases hd with
  | non =>
    cases rv
    exact PySem.P.repr_of_none (by simpa only [PyData.shown] using fin s.heap _ _ fun _ _ e => e)
  | bl b =>
    cases rv
    exact PySem.P.repr_of_bool (by simpa only [PyData.shown] using fin s.heap _ _ fun _ _ e => e)
  | int i =>
    obtain ⟨t, rfl⟩ := rv
    exact PySem.P.repr_of_int (by simpa [PyData.showable] using hs) (by simpa only [PyData.shown] using fin s.heap _ _ fun _ _ e => e)
  | str x =>
    obtain ⟨t, rfl⟩ := rv
    exact PySem.P.repr_of_str (by simpa only [PyData.shown] using fin s.heap _ _ fun _ _ e => e) (by simpa only [PyData.shown] using hz)
  | lst _ _ =>
    cases rv
    exact PySem.repr_of_reads' rd hs (PyData.noDict_hsm nd) hg (by omega) (fun _ _ e => e) (fun h' u tk k => fin h' u tk k) hz
  | tup _ _ =>
    cases rv
    exact PySem.repr_of_reads' rd hs (PyData.noDict_hsm nd) hg (by omega) (fun _ _ e => e) (fun h' u tk k => fin h' u tk k) hz
end
end My
set_option Elab.async false
set_option linter.all false
set_option maxRecDepth 100000
set_option maxHeartbeats 4000000
/-! The end of a law whose def shows values. -/
namespace My
open PySem PySem.Spec PyProof.Rows L2

section
variable {P : Program} {w : World} {K : PySem.W.Frag} {mg mb : Str → Option Value} {CX : CXT} {k : Nat} {fa a : Addr} {fd : FuncData} {x : Str} {sp : Sp} {s : Shared} {vs : List Value} {ns : List Int}
/-- what the law's call asks of the state behind the top -/
structure Behind (K : PySem.W.Frag) (mg mb : Str → Option Value) (a : Addr) (vs : List Value) (s : Shared) : Prop where
  kin : K.In s.heap
  glob : s.heap.Ns mainGlobals mg
  blt : s.heap.Ns builtinsNs mb
  boot : ∀ y : Str, y ≠ "__name__" → mb y = bootBuiltins y
  lim : s.heap.NoLimit
  gens : s.gens = #[]
  ob : s.heap.get? a = some { cls := .type "list", data := .seq vs.toArray }
/-- the abstract heap in which at most the script is tracked -/
structure Bare (K : PySem.W.Frag) (a : Addr) (H : Hp) : Prop where
  only : Only H
  at_ : ∀ b, H b ≠ none → b = a
  free : H a ≠ none → K.lookup a = none
theorem law_at (B : Behind K mg mb a vs s) (hr : Room k callerA) (F : ∀ base : Heap, K.In base → base.Ns mainGlobals mg → FnG P w K mg base CX k fa fd [x] sp)
    (bind : ∀ (s : Shared) (u : Value), BindsTo s fd ⟨[u], []⟩ [(x, u)]) (hCX : ∀ H e s', CX [] H s (fun _ _ _ => False) e s' → False)
    (H : Hp) (W : Bare K a H) (hok : HOk P w H s.heap) (hp : sp [.ref a] H (fun v _ => v = .bl true) fun _ _ _ => False) :
    codeAny (model P w) callerA (.call (.ref fa) ⟨[.ref a], []⟩) (fun r s' => r = .ok (.ret (.bool true)) ∧ OldK s.heap s'.heap ∧ s'.os = s.os ∧ AllBare s'.gens) s := by
  have apart : ∀ {b : Addr} {o : Obj}, s.heap.get? b = some o → (b = a → H a = none) → (hidT s.heap H).get? b = some o := fun {b o} e z => hidT_get e (by
    by_cases q : H b = none
    · exact q
    · have ba := W.at_ b q
      rw [ba]
      exact z ba)
  have ns : ∀ {b : Addr} {m : Str → Option Value}, s.heap.Ns b m → (hidT s.heap H).Ns b m := fun {b m} ⟨o, es, ep, e, d, r⟩ => ⟨o, es, ep, apart e (fun z => by
    subst z
    rw [B.ob] at e
    cases e
    exact absurd d (fun q => nomatch q)), d, r⟩
  have kb : K.In (hidT s.heap H) := fun b o e => apart (B.kin b o e) (fun z => by
    subst z
    by_cases q : H b = none
    · exact q
    · have := W.free q
      rw [e] at this
      cases this)
  have md : Mod K mg (hidT s.heap H) := ⟨kb, ns B.glob, ⟨mb, ns B.blt, B.boot⟩, match B.lim with | ⟨m, p, q⟩ => ⟨m, ns p, q⟩⟩
  have e0 : Env0 P w K mg (hidT s.heap H) callerA [] s H :=
    { frames := rfl, mod := md, bs := fun _ _ e => of_hidT e, bsz := Nat.le_of_eq (hidT_size _ _), funs := trivial, frf := fun _ z => (List.not_mem_nil z).elim, hok := hok, bare := .of_eq B.gens }
  refine codeAny_mono ((F _ kb (ns B.glob)).run callerA [] s H ⟨[.ref a], []⟩ [.ref a] [.ref a] _ _ rfl hr e0 (bind s (.ref a)) (.cons rfl .nil) hp) ?_
  intro res s' z
  match res, z with
  | .error e, z => exact (hCX H e s' z).elim
  | .ok .next, z => exact z.elim
  | .ok .brk, z => exact z.elim
  | .ok .cont, z => exact z.elim
  | .ok (.ret u), ⟨v, H', os, bare, un, hok', rv, q⟩ =>
    subst q
    cases (show u = Value.bool true from rv)
    refine ⟨rfl, OldK.of_keep fun b o e => ?_, os, bare⟩
    rcases W.only b with z | ⟨ob, xs, z⟩
    · exact un.keep b o e z List.not_mem_nil List.not_mem_nil
    · have h1 := (hok b _ z).1
      have h2 := (hok' b _ (un.frzs b ob _ z)).1
      rw [e] at h1
      cases h1
      exact h2
theorem law_endG (B : Behind K mg mb a vs s) (hi : IntsAre vs ns) (hl : ns.length ≤ sizeLine) (hr : Room k callerA)
    (F : ∀ base : Heap, K.In base → base.Ns mainGlobals mg → FnG P w K mg base CX k fa fd [x] sp) (bind : ∀ (s : Shared) (u : Value), BindsTo s fd ⟨[u], []⟩ [(x, u)])
    (hsp : ∀ H : Hp, Only H → SqL K H a (ns.map V.int) → sp [.ref a] H (fun v _ => v = .bl true) fun _ _ _ => False) (hCX : ∀ H e s', CX [] H s (fun _ _ _ => False) e s' → False) :
    codeAny (model P w) callerA (.call (.ref fa) ⟨[.ref a], []⟩) (fun r s' => r = .ok (.ret (.bool true)) ∧ OldK s.heap s'.heap ∧ s'.os = s.os ∧ AllBare s'.gens) s := by
  have rv := vals_ints hi
  have le := hi.length
  have lm : (ns.map V.int).length ≤ sizeLine := by
    rw [List.length_map]
    exact hl
  cases q : K.lookup a with
  | some o =>
    have e := B.kin a o q
    rw [B.ob] at e
    cases e
    have hS : SqL K (fun _ => none) a (ns.map V.int) := .inr ⟨_, vs.toArray, _, q, rfl, rfl, rfl, by simpa using (le ▸ hl), by simpa using rv⟩
    exact law_at B hr F bind hCX (fun _ => none) ⟨fun _ => .inl rfl, fun _ z => absurd rfl z, fun z => absurd rfl z⟩ (fun _ _ z => nomatch z) (hsp _ (fun _ => .inl rfl) hS)
  | none =>
    let fz : HO := .frz { cls := .type "list", data := .seq vs.toArray } (.lst (ns.map V.int))
    have oth : ∀ b, b ≠ a → (fun c => if c = a then some fz else none : Hp) b = none := fun b z => if_neg z
    have own : (fun c => if c = a then some fz else none : Hp) a = some fz := if_pos rfl
    have on : Only (fun c => if c = a then some fz else none) := fun b => (Decidable.em (b = a)).elim (fun z => .inr ⟨{ cls := .type "list", data := .seq vs.toArray }, ns.map V.int, if_pos z⟩) fun z => .inl (oth b z)
    refine law_at B hr F bind hCX _ ⟨on, fun b z => Decidable.byContradiction fun y => z (oth b y), fun _ => q⟩ (fun b u z => ?_) (hsp _ on (.inl (.inr ⟨_, own⟩)))
    by_cases y : b = a
    · subst y
      rw [if_pos rfl] at z
      cases z
      exact ⟨B.ob, lm, vs, _, rv, B.ob⟩
    · rw [if_neg y] at z
      cases z
end
/-- the goal that the head leaves, from a promise that may lean on «nothing is being shown»; the script's bits are told -/
theorem walk_G {l : PySem.W.OpenLaw} {n k : Nat} {q : Program} {loose : List Str} {XP : (Str → Option Value) → Heap → Prop} {YP : World → Heap → Prop} {d : DefRec} {K : Params → PySem.W.Frag} {sp : PySem.W.Frag → Sp} {x : Str}
    (hn : l.most = some n) (h2 : n ≤ sizeLine) (hd : d.params.defaults = []) (hr : Room k callerA) (hY : ∀ (w : World) (h : Heap), YP w h → (K w.params).In h)
    (F : ∀ (w : World) (mg : Str → Option Value) (fa : Addr) (h : Heap), (K w.params).In h → h.Ns mainGlobals mg → mg d.name = some (.ref fa) →
      ∃ fd : FuncData, (∀ (s : Shared) (u : Value), BindsTo s fd ⟨[u], []⟩ [(x, u)]) ∧ ∀ base : Heap, (K w.params).In base → base.Ns mainGlobals mg → FnG l.prog w (K w.params) mg base CX0 k fa fd [x] (sp (K w.params)))
    (hsp : ∀ (K : PySem.W.Frag) (H : Hp) (a : Addr) (ns : List Int), ns.length ≤ n → (∀ z ∈ ns, Builtin.Int.intBits z ≤ 1048576) → SqL K H a (ns.map V.int) → sp K [.ref a] H (fun v _ => v = .bl true) fun _ _ _ => False) :
    PySem.W.WalkO q loose XP YP l.row.toRowW d [] (fun f vs => PySem.call f vs) :=
  Att.attach_callB hn hd fun w s₀ s mg mb fa o pm cd doc a vs ns G Y _ _ _ hmg hob hi hl hb hg =>
    let ⟨_, bd, hF⟩ := F w mg fa _ (hY w _ Y) G.T.g hmg
    law_endG ⟨hY w _ Y, G.T.g, G.T.b, G.T.builtins, G.T.nolimit, hg, hob⟩ hi (Nat.le_trans hl h2) hr hF bd (fun H _ hS => hsp _ H a ns hl hb hS) fun _ _ _ z => z
end My
set_option Elab.async false
set_option linter.all false
set_option maxRecDepth 100000
set_option maxHeartbeats 4000000
namespace My
open PySem PySem.Spec PyProof.Rows L2
def topS (i : Nat) : Stmt := PySem.Challenge.pw_shuntplan_k60_reversed_rows.main.body.getD i (.Pass ⟨0, 0, 0, 0⟩)
abbrev sInvInit : Stmt := inClass (topS 1) 0
abbrev sInvalidOrderInit : Stmt := inClass (topS 2) 0
abbrev sInvalidNumberInit : Stmt := inClass (topS 3) 0
abbrev sPrimeStretchInit : Stmt := inClass (topS 5) 0
abbrev sIsInt : Stmt := topS 10
abbrev sIsNumberBelow : Stmt := topS 11
abbrev sIsName : Stmt := topS 12
abbrev sIsWith : Stmt := topS 13
abbrev sIsDir : Stmt := topS 14
abbrev sIsRow : Stmt := topS 15
abbrev sChkF : Stmt := topS 16
abbrev sTurn : Stmt := topS 17
abbrev sReversedRow : Stmt := topS 19
abbrev sPen : Stmt := topS 21
abbrev sDraw : Stmt := topS 22
abbrev sPick : Stmt := topS 23
abbrev sShuf : Stmt := topS 24
abbrev sWag : Stmt := topS 25
abbrev sRow : Stmt := topS 26
abbrev sLTurnedPart : Stmt := topS 27
abbrev sRefd : Stmt := topS 28
abbrev sLIsIndex : Stmt := topS 29
abbrev sLaw : Stmt := topS 30
theorem scInvInit : FnScope ["self", "value"] ["self", "value"] (defScope sInvInit) := ⟨rfl, rfl, rfl, by decide +kernel, rfl, by decide +kernel, by decide +kernel⟩
theorem scInvalidOrderInit : FnScope ["self", "value"] ["self", "value"] (defScope sInvalidOrderInit) := ⟨rfl, rfl, rfl, by decide +kernel, rfl, by decide +kernel, by decide +kernel⟩
theorem scInvalidNumberInit : FnScope ["self", "value"] ["self", "value"] (defScope sInvalidNumberInit) := ⟨rfl, rfl, rfl, by decide +kernel, rfl, by decide +kernel, by decide +kernel⟩
theorem scPrimeStretchInit : FnScope ["self", "stretch"] ["self", "stretch"] (defScope sPrimeStretchInit) := ⟨rfl, rfl, rfl, by decide +kernel, rfl, by decide +kernel, by decide +kernel⟩
theorem scIsInt : FnScope ["value"] ["value"] (defScope sIsInt) := ⟨rfl, rfl, rfl, by decide +kernel, rfl, by decide +kernel, by decide +kernel⟩
theorem scIsNumberBelow : FnScope ["value", "limit"] ["value", "limit"] (defScope sIsNumberBelow) := ⟨rfl, rfl, rfl, by decide +kernel, rfl, by decide +kernel, by decide +kernel⟩
theorem scIsName : FnScope ["value", "letter"] ["value"] (defScope sIsName) := ⟨rfl, rfl, rfl, by decide +kernel, rfl, by decide +kernel, by decide +kernel⟩
theorem scIsWith : FnScope ["value", "numbers"] ["value", "numbers"] (defScope sIsWith) := ⟨rfl, rfl, rfl, by decide +kernel, rfl, by decide +kernel, by decide +kernel⟩
theorem scIsDir : FnScope ["value"] ["value"] (defScope sIsDir) := ⟨rfl, rfl, rfl, by decide +kernel, rfl, by decide +kernel, by decide +kernel⟩
theorem scIsRow : FnScope ["value", "wagon", "name", "_"] ["value"] (defScope sIsRow) := ⟨rfl, rfl, rfl, by decide +kernel, rfl, by decide +kernel, by decide +kernel⟩
theorem scChkF : FnScope ["value"] ["value"] (defScope sChkF) := ⟨rfl, rfl, rfl, by decide +kernel, rfl, by decide +kernel, by decide +kernel⟩
theorem scTurn : FnScope ["row", "name", "direction"] ["row"] (defScope sTurn) := ⟨rfl, rfl, rfl, by decide +kernel, rfl, by decide +kernel, by decide +kernel⟩
theorem scReversedRow : FnScope ["row", "first", "last"] ["row", "first", "last"] (defScope sReversedRow) := ⟨rfl, rfl, rfl, by decide +kernel, rfl, by decide +kernel, by decide +kernel⟩
theorem scPen : FnScope ["script"] ["script"] (defScope sPen) := ⟨rfl, rfl, rfl, by decide +kernel, rfl, by decide +kernel, by decide +kernel⟩
theorem scDraw : FnScope ["pen", "size", "digit", "turn", "cell", "primes", "prime", "mixed"] ["pen", "size"] (defScope sDraw) := ⟨rfl, rfl, rfl, by decide +kernel, rfl, by decide +kernel, by decide +kernel⟩
theorem scPick : FnScope ["pen", "options"] ["pen", "options"] (defScope sPick) := ⟨rfl, rfl, rfl, by decide +kernel, rfl, by decide +kernel, by decide +kernel⟩
theorem scShuf : FnScope ["pen", "some", "left", "found"] ["pen", "some"] (defScope sShuf) := ⟨rfl, rfl, rfl, by decide +kernel, rfl, by decide +kernel, by decide +kernel⟩
theorem scWag : FnScope ["pen", "many", "letters", "k", "front", "first", "step", "found", "place"] ["pen", "many"] (defScope sWag) := ⟨rfl, rfl, rfl, by decide +kernel, rfl, by decide +kernel, by decide +kernel⟩
theorem scRow : FnScope ["pen", "wagons", "name"] ["pen", "wagons"] (defScope sRow) := ⟨rfl, rfl, rfl, by decide +kernel, rfl, by decide +kernel, by decide +kernel⟩
theorem scLTurnedPart : FnScope ["row", "first", "last", "part", "name", "direction"] ["row", "first", "last"] (defScope sLTurnedPart) := ⟨rfl, rfl, rfl, by decide +kernel, rfl, by decide +kernel, by decide +kernel⟩
theorem scRefd : FnScope ["call", "kept", "e", "plain"] ["call"] (defScope sRefd) := ⟨rfl, rfl, rfl, by decide +kernel, rfl, by decide +kernel, by decide +kernel⟩
theorem scLIsIndex : FnScope ["value", "least", "many"] ["value", "least", "many"] (defScope sLIsIndex) := ⟨rfl, rfl, rfl, by decide +kernel, rfl, by decide +kernel, by decide +kernel⟩
theorem scLaw : FnScope ["script", "pen", "turn", "many", "kept", "again", "start", "end", "due", "odd", "high", "low", "wagons"] ["script"] (defScope sLaw) := ⟨rfl, rfl, rfl, by decide +kernel, rfl, by decide +kernel, by decide +kernel⟩
end My
set_option Elab.async false
set_option linter.all false
set_option maxRecDepth 100000
set_option maxHeartbeats 4000000
namespace My
open PySem PySem.Spec PyProof.Rows L2

/-! ### the pen: where the drawing stands -/
def kCells : Key := .inr "cells"
def kTurn : Key := .inr "turn"
def kRest : Key := .inr "rest"
theorem k12 : ¬ kCells = kTurn := by decide +kernel
theorem k13 : ¬ kCells = kRest := by decide +kernel
theorem k23 : ¬ kTurn = kRest := by decide +kernel
def penL (c : Addr) (t r : Int) : List (Key × V) := [(kCells, .ref c), (kTurn, .int t), (kRest, .int r)]
theorem penL_cells (c : Addr) (t r : Int) : valV (penL c t r) kCells = some (.ref c) := valV_pos (p := (kCells, V.ref c)) rfl
theorem penL_turn (c : Addr) (t r : Int) : valV (penL c t r) kTurn = some (.int t) := (valV_neg (p := (kCells, V.ref c)) k12).trans (valV_pos (p := (kTurn, V.int t)) rfl)
theorem penL_rest (c : Addr) (t r : Int) : valV (penL c t r) kRest = some (.int r) :=
  ((valV_neg (p := (kCells, V.ref c)) k13).trans (valV_neg (p := (kTurn, V.int t)) k23)).trans (valV_pos (p := (kRest, V.int r)) rfl)
theorem put_turn (c : Addr) (t r y : Int) : putK (penL c t r) kTurn (.int y) = penL c y r := by
  unfold putK penL
  rw [if_pos (by simp)]
  simp only [List.map_cons, List.map_nil]
  rw [if_neg k12, if_pos trivial, if_neg fun z => k23 z.symm]
theorem put_rest (c : Addr) (t r y : Int) : putK (penL c t r) kRest (.int y) = penL c t y := by
  unfold putK penL
  rw [if_pos (by simp)]
  simp only [List.map_cons, List.map_nil]
  rw [if_neg k13, if_neg k23, if_pos trivial]
/-- at most n draws were made; the cells stand at c -/
structure PenAt (H : Hp) (p c : Addr) (n : Nat) : Prop where
  ex : ∃ (ns : List Int) (t r : Int), H p = some (.dK (penL c t r)) ∧ H c = some (.lst (ns.map V.int)) ∧ ns.length ≤ 63 ∧ 0 ≤ t ∧ t ≤ n
theorem PenAt.mono {H : Hp} {p c : Addr} {n m : Nat} (h : PenAt H p c n) (k : n ≤ m) : PenAt H p c m := let ⟨⟨ns, t, r, a, b, d, e, f⟩⟩ := h; ⟨⟨ns, t, r, a, b, d, e, by omega⟩⟩
theorem PenAt.ne {H : Hp} {p c : Addr} {n : Nat} (h : PenAt H p c n) : c ≠ p := let ⟨⟨_, _, _, a, b, _⟩⟩ := h; ne_of b a (fun z => nomatch z)
theorem penAt_of {H : Hp} {p c : Addr} {n : Nat} {kvs : List (Key × V)} {ns : List Int} {t r : Int} (e : kvs = penL c t r) (h : H p = some (.dK kvs)) (hc : H c = some (.lst (ns.map V.int))) (hl : ns.length ≤ 63) (h0 : 0 ≤ t) (h1 : t ≤ n) : PenAt H p c n :=
  ⟨⟨ns, t, r, e ▸ h, hc, hl, h0, h1⟩⟩
/-- all that was tracked is as it was, but the pen -/
def SameP (p : Addr) (H H' : Hp) : Prop := ∀ b o, b ≠ p → H b = some o → H' b = some o
theorem SameP.refl (p : Addr) (H : Hp) : SameP p H H := fun _ _ _ h => h
theorem SameP.trans {p : Addr} {H H1 H2 : Hp} (a : SameP p H H1) (b : SameP p H1 H2) : SameP p H H2 := fun c o n h => b c o n (a c o n h)
theorem SameP.of {p : Addr} {H H' : Hp} (a : Same H H') : SameP p H H' := fun c o _ h => a c o h
theorem same_new {H : Hp} {q : Addr} {o : HO} (h : H q = none) : Same H (upd H q o) := fun b x e => by rw [upd_ne (ne_of_none e h)]; exact e
theorem SameP.new {p : Addr} {H : Hp} {q : Addr} {o : HO} (h : H q = none) : SameP p H (upd H q o) := .of (same_new h)
theorem SameP.pen {p : Addr} {H : Hp} {o : HO} : SameP p H (upd H p o) := fun b x n e => by rw [upd_ne n]; exact e
theorem PenAt.same {H H' : Hp} {p c : Addr} {n : Nat} (h : PenAt H p c n) (s : Same H H') : PenAt H' p c n := let ⟨⟨ns, t, r, a, b, d, e, f⟩⟩ := h; ⟨⟨ns, t, r, s _ _ a, s _ _ b, d, e, f⟩⟩

/-! ### the draw's numbers -/
theorem mod_lo (a : Int) {b : Int} (h : 0 < b) : 0 ≤ a % b := Int.emod_nonneg a (by omega)
theorem mod_hi (a : Int) {b : Int} (h : 0 < b) : a % b < b := Int.emod_lt_of_pos a h
def primesL : List Int := [2147483629, 2147483647, 2147483563, 2147483587, 2147483579]
theorem prime_at (t : Int) : ∃ q : Int, atI (primesL.map V.int) (t % 5) = some (.int q) ∧ 0 < q ∧ q < 2147483648 := by
  have h1 := mod_lo t (b := 5) (by decide)
  have h2 := mod_hi t (b := 5) (by decide)
  have h3 : t % 5 = 0 ∨ t % 5 = 1 ∨ t % 5 = 2 ∨ t % 5 = 3 ∨ t % 5 = 4 := by omega
  rcases h3 with e | e | e | e | e <;> rw [e]
  · exact ⟨2147483629, rfl, by decide, by decide⟩
  · exact ⟨2147483647, rfl, by decide, by decide⟩
  · exact ⟨2147483563, rfl, by decide, by decide⟩
  · exact ⟨2147483587, rfl, by decide, by decide⟩
  · exact ⟨2147483579, rfl, by decide, by decide⟩
theorem cmul_l {i j : Int} (h0 : 0 ≤ i) (h1 : i ≤ 10 ^ 19) : CMul i j := .inl ⟨by omega, by
  have h : (10 : Int) ^ 19 < 2 ^ 64 := by decide
  exact Int.lt_of_le_of_lt h1 h⟩

/-! ### lists of ints as data -/
theorem dp_ints (K : PySem.W.Frag) (H : Hp) : ∀ ns : List Int, DpAll K H (ns.map V.int) (ns.map PyData.int)
  | [] => .nil
  | n :: r => .cons (.int n) (dp_ints K H r)
theorem lay_ints : ∀ ns : List Int, PyData.canLayAll0 (ns.map PyData.int) = true
  | [] => by simp only [List.map_nil, PyData.canLayAll0]
  | n :: r => by simp only [List.map_cons, PyData.canLayAll0, PyData.canLay0, lay_ints r, Bool.and_self]
theorem depth_ints : ∀ ns : List Int, PyData.depthAll (ns.map PyData.int) = 0
  | [] => by simp only [List.map_nil, PyData.depthAll]
  | n :: r => by simp only [List.map_cons, PyData.depthAll, PyData.depth, depth_ints r, Nat.max_self]
theorem shaped_ints (ns : List Int) : SeqAt.shaped (.list (ns.map PyData.int)) = true := by
  unfold SeqAt.shaped
  simp only [PyData.canLay0, lay_ints, PyData.depth, depth_ints]
  decide
theorem eqv_nil (ds : List PyData) : PyData.eqv (.list ds) (.list []) = ds.isEmpty := by
  cases ds <;> simp only [PyData.eqv, PyData.eqvAll, List.isEmpty]

section
variable {P : Program} {w : World} {K : PySem.W.Frag} {mg : Str → Option Value} {base : Heap}
/-- a number below size is drawn; nothing but the pen is touched -/
def spDraw : Sp := fun vs H Q _ => ∃ (p c : Addr) (n : Nat) (size : Int), vs = [.ref p, .int size] ∧ PenAt H p c n ∧ n ≤ 1000000000 ∧ 0 < size ∧ size < 1073741824 ∧
  ∀ (d : Int) (H' : Hp), 0 ≤ d → d < size → SameP p H H' → PenAt H' p c (n + 1) → Q (.int d) H'
theorem ok_draw {f : Addr} {fd : FuncData} {k : Nat} (F : Fun K "_law_draw" "_law_draw" sDraw f fd) (ml : mg "len" = none) (ma : mg "abs" = none) : FnOk P w K mg base CX0 (k + 1) f fd ["pen", "size"] spDraw := by
  refine F.ok scDraw (fun vs H Q E h => ?_) (fun cdv A outer s H vs Q E hr h => ?_)
  · obtain ⟨p, c, n, size, rfl, _⟩ := h
    rfl
  · obtain ⟨p, c, n, size, rfl, ⟨⟨ns, t, r, hp, hc, hlen, t0, tn⟩⟩, hn, s0, s1, q⟩ := h
    have hu := hu_of hr
    have hcp : c ≠ p := ne_of hc hp (fun z => nomatch z)
    refine ⟨_, pss_cons (ps_if (pt_cmpR op_gt (pe_dget hu (pv 0) pe_str (fun _ _ => rfl)) pe_int (nomark _))
        (pss_cons (ps_set (i := 2) scDraw.nd rfl (.inl rfl) (pe_op op_mod (pe_dget hu (pv 0) pe_str (fun _ _ => rfl)) (pv 1)))
        (pss_cons (ps_dput hu (pv 0) pe_str (pe_op op_fdiv (pe_dget hu (pv 0) pe_str (fun _ _ => rfl)) (pv 1)) rfl)
        (pss_one (ps_ret (pv 2))))) pss_nil)
      (pss_cons (ps_set (i := 3) scDraw.nd rfl (.inl rfl) (pe_dget hu (pv 0) pe_str (fun _ _ => rfl)))
      (pss_cons (ps_dput hu (pv 0) pe_str (pe_op op_add (pv 3) pe_int) rfl)
      (pss_cons (ps_set (i := 4) scDraw.nd rfl (.inl rfl) (pe_op op_add (pe_op op_mul pe_int (pv 3)) pe_int))
      (Evl.pss_cut (ps_if (pt_cmpR (op_neD hr.units) (pe_dget hu (pv 0) pe_str (fun _ _ => rfl)) (pe_lst pa_nil) (nomark _))
        (pss_one (ps_set (i := 4) scDraw.nd rfl (.inl rfl) (pe_ix ix_list (pe_dget hu (pv 0) pe_str (fun _ _ => rfl)) (pe_op op_mod (pv 3) (pe_callB call_len_seq (by rfl) ml PySem.boot_len (pa_cons (pe_dget hu (pv 0) pe_str (fun _ _ => rfl)) pa_nil))) (fun _ _ => rfl)))) pss_nil)
      (Evl.pss_cut (ps_if (PW.pt (pw_and (pt_cmpR op_lt (pv 3) (pe_callB call_len_seq (by rfl) ml PySem.boot_len (pa_cons (pe_dget hu (pv 0) pe_str (fun _ _ => rfl)) pa_nil)) (nomark _))
            (pw_and1 (pt_cmpR op_ge (pe_callB call_abs (by rfl) ma (by decide +kernel) (pa_cons (pv 4) pa_nil)) (pe_op op_pow pe_int pe_int) (nomark _)))))
          (pss_cons (ps_dput hu (pv 0) pe_str (pe_op op_fdiv (pe_op op_sub (pe_callB call_abs (by rfl) ma (by decide +kernel) (pa_cons (pv 4) pa_nil)) (pe_op op_pow pe_int pe_int)) (pv 1)) rfl)
          (pss_one (ps_ret (pe_op op_mod (pe_op op_sub (pe_callB call_abs (by rfl) ma (by decide +kernel) (pa_cons (pv 4) pa_nil)) (pe_op op_pow pe_int pe_int)) (pv 1))))) pss_nil)
      (pss_cons (ps_set (i := 5) scDraw.nd rfl (.inl rfl) (pe_lst (pa_cons pe_int (pa_cons pe_int (pa_cons pe_int (pa_cons pe_int (pa_cons pe_int pa_nil)))))))
      (pss_cons (ps_set (i := 6) scDraw.nd rfl (.inl rfl) (pe_ix ix_list (pv 5) (pe_op op_mod (pv 3) pe_int) (fun _ _ => rfl)))
      (pss_cons (ps_set (i := 7) scDraw.nd rfl (.inl rfl) (pe_op op_mod (pe_op op_add (pe_op op_add (pe_op op_add (pe_op op_mul (pe_op op_mod (pv 4) pe_int) pe_int) (pe_op op_mul (pe_op op_mul pe_int (pv 3)) (pv 3))) (pe_op op_mul pe_int (pv 3))) pe_int) (pv 6)))
      (pss_cons (ps_set (i := 7) scDraw.nd rfl (.inl rfl) (pe_op op_mod (pe_op op_add (pe_op op_add (pe_op op_add (pe_op op_mul (pv 7) (pv 7)) (pe_op op_mul pe_int (pv 7))) (pe_op op_mul pe_int (pv 3))) pe_int) pe_int))
      (pss_one (ps_ret (pe_op op_mod (pe_op op_fdiv (pe_op op_mod (pe_op op_mul (pv 7) (pe_op op_add (pv 7) pe_int)) pe_int) pe_int) (pv 1))))))))))))), ?_⟩
    -- if pen['rest'] > 0
    refine ⟨_, rfl, p, _, rfl, penL_rest c t r ▸ DGet.k (k := kRest) hp, r, 0, rfl, rfl, _, rfl, ite2 (fun _ => ?_) (fun _ => ?_)⟩
    · refine ⟨_, rfl, p, _, rfl, penL_rest c t r ▸ DGet.k (k := kRest) hp, _, rfl, r, size, rfl, rfl, s0, ?_⟩
      refine ⟨_, rfl, p, _, rfl, penL_rest c t r ▸ DGet.k (k := kRest) hp, _, rfl, r, size, rfl, rfl, ⟨s0, s1⟩, _, rfl, p, _, rfl, DPut.k (k := kRest) hp (by show 3 < sizeLine; decide), ?_⟩
      exact ⟨_, rfl, q _ _ (mod_lo r s0) (mod_hi r s0) SameP.pen (penAt_of (put_rest c t r _) upd_same ((upd_ne hcp).trans hc) hlen t0 (by omega))⟩
    -- turn = pen['turn']; pen['turn'] = turn + 1; cell = 61 * turn + 17
    · refine ⟨_, rfl, p, _, rfl, penL_turn c t r ▸ DGet.k (k := kTurn) hp, ?_⟩
      refine ⟨_, rfl, _, _, rfl, rfl, _, rfl, p, _, rfl, DPut.k (k := kTurn) hp (by show 3 < sizeLine; decide), ?_⟩
      rw [put_turn]
      generalize hH1 : upd H p (.dK (penL c (t + 1) r)) = H1
      have p1 : H1 p = some (.dK (penL c (t + 1) r)) := by rw [← hH1, upd_same]
      have c1 : H1 c = some (.lst (ns.map V.int)) := by rw [← hH1, upd_ne hcp]; exact hc
      have sm : SameP p H H1 := by rw [← hH1]; exact SameP.pen
      refine ⟨_, rfl, _, _, rfl, rfl, .inl ⟨by decide, by decide⟩, _, _, rfl, rfl, ?_⟩
      -- if pen['cells'] != []
      refine ⟨fun σ H2 => ∃ cell : Int, σ = [some (.ref p), some (.int size), none, some (.int t), some (.int cell), none, none, none] ∧ Same H1 H2, ?_, ?_⟩
      · refine ⟨_, rfl, p, _, rfl, penL_cells c (t + 1) r ▸ DGet.k (k := kCells) p1, by show 0 ≤ sizeLine; decide, fun l hl => ?_⟩
        have sl : Same H1 (upd H1 l (.lst [])) := same_new hl
        have c2 := sl _ _ c1
        have p2 := sl _ _ p1
        refine ⟨.list (ns.map PyData.int), .list [], .lst (.inl (.inl c2)) (dp_ints K _ ns), .lst (.inl (.inl upd_same)) .nil, shaped_ints ns, shaped_ints [], _, rfl, ?_⟩
        rw [eqv_nil]
        cases ns with
        | nil => exact iteF ⟨_, rfl, sl⟩
        | cons n0 nr =>
          refine iteT ?_
          have lp : (0 : Int) < (((n0 :: nr).map V.int).length : Int) := by simp
          obtain ⟨j, hj⟩ : ∃ j : Nat, t % (((n0 :: nr).map V.int).length : Int) = (j : Int) := ⟨(t % (((n0 :: nr).map V.int).length : Int)).toNat, by have := mod_lo t lp; omega⟩
          have hjl : j < (n0 :: nr).length := by
            have h2 := mod_hi t lp
            rw [hj, List.length_map] at h2
            omega
          refine ⟨_, rfl, p, _, rfl, penL_cells c (t + 1) r ▸ DGet.k (k := kCells) p2, _, rfl, _, rfl, p, _, rfl, penL_cells c (t + 1) r ▸ DGet.k (k := kCells) p2, c, _, rfl, .inl (.inl (.inl c2)), t, _, rfl, rfl, lp, ?_⟩
          refine ⟨c, _, _, .int (n0 :: nr)[j], rfl, rfl, .inl (.inl c2), ?_, ⟨_, rfl, sl⟩⟩
          rw [hj]
          refine atI_nat ?_
          rw [List.getElem?_map, List.getElem?_eq_getElem hjl]
          rfl
      · -- if turn < len(cells) and abs(cell) >= 10 ** 18
        rintro σ H2 ⟨cell, rfl, s2⟩
        have c2 := s2 _ _ c1
        have p2 := s2 _ _ p1
        have sm2 : SameP p H H2 := sm.trans (.of s2)
        refine ⟨fun σ H3 => σ = [some (.ref p), some (.int size), none, some (.int t), some (.int cell), none, none, none] ∧ H3 = H2, ?_, ?_⟩
        · refine ⟨_, rfl, _, rfl, p, _, rfl, penL_cells c (t + 1) r ▸ DGet.k (k := kCells) p2, c, _, rfl, .inl (.inl (.inl c2)), _, _, rfl, rfl, _, rfl, ite2 (fun _ => ?_) (fun _ => iteF ⟨rfl, rfl⟩)⟩
          refine ⟨_, rfl, _, rfl, _, _, rfl, rfl, ⟨by decide, by decide, by decide⟩, _, _, rfl, rfl, _, rfl, ite2 (fun _ => ?_) (fun _ => ⟨rfl, rfl⟩)⟩
          refine ⟨_, rfl, _, rfl, _, _, rfl, rfl, ⟨by decide, by decide, by decide⟩, _, _, rfl, rfl, _, rfl, _, _, rfl, rfl, ⟨s0, s1⟩, _, rfl, p, _, rfl, DPut.k (k := kRest) p2 (by show 3 < sizeLine; decide), ?_⟩
          refine ⟨_, rfl, _, rfl, _, _, rfl, rfl, ⟨by decide, by decide, by decide⟩, _, _, rfl, rfl, _, rfl, _, _, rfl, rfl, s0, ?_⟩
          exact q _ _ (mod_lo _ s0) (mod_hi _ s0) (sm2.trans SameP.pen) (penAt_of (put_rest c (t + 1) r _) upd_same ((upd_ne hcp).trans c2) hlen (by omega) (by omega))
        · rintro σ H3 ⟨rfl, rfl⟩
          -- primes, prime
          refine ⟨by show 5 ≤ sizeLine; decide, fun l hl => ?_⟩
          have sl : Same H3 (upd H3 l (.lst (primesL.map V.int))) := same_new hl
          obtain ⟨pr, hpr, pr0, pr1⟩ := prime_at t
          refine ⟨_, rfl, _, rfl, t, 5, rfl, rfl, (by show (0 : Int) < 5; decide), l, primesL.map V.int, _, _, rfl, rfl, .inl (.inl upd_same), hpr, ?_⟩
          -- mixed
          have tb : t ≤ 1000000000 := by omega
          have m1 := mod_lo cell (b := 4294967291) (by decide)
          have m2 := mod_hi cell (b := 4294967291) (by decide)
          refine ⟨_, rfl, _, _, rfl, rfl, (by show (0 : Int) < 4294967291; decide), _, _, rfl, rfl, cmul_l m1 (by omega), _, rfl, _, _, rfl, rfl, cmul_l (by decide) (by decide), _, rfl, _, _, rfl, rfl, cmul_l (by omega) (by omega), _, _, rfl, rfl,
            _, rfl, _, _, rfl, rfl, cmul_l (by decide) (by decide), _, _, rfl, rfl, _, _, rfl, rfl, _, rfl, _, _, rfl, rfl, pr0, ?_⟩
          have lt1 : ∀ a : Int, a % pr ≤ 10 ^ 19 := fun a => Int.le_trans (Int.le_of_lt (mod_hi a pr0)) (by omega)
          have lt2 : ∀ a : Int, a % 4294967279 ≤ 10 ^ 19 := fun a => Int.le_trans (Int.le_of_lt (mod_hi a (by decide))) (by decide)
          refine ⟨_, rfl, _, rfl, _, _, rfl, rfl, cmul_l (mod_lo _ pr0) (lt1 _), _, rfl, _, _, rfl, rfl, cmul_l (by decide) (by decide), _, _, rfl, rfl, _, rfl, _, _, rfl, rfl, cmul_l (by decide) (by decide), _, _, rfl, rfl, _, _, rfl, rfl,
            _, _, rfl, rfl, (by show (0 : Int) < 4294967279; decide), ?_⟩
          refine ⟨_, rfl, _, rfl, _, _, rfl, rfl, _, _, rfl, rfl, cmul_l (mod_lo _ (by decide)) (lt2 _), _, _, rfl, rfl, (by show (0 : Int) < 4294967231; decide), _, _, rfl, rfl, ⟨by decide, by decide⟩, _, rfl, _, _, rfl, rfl, s0, ?_⟩
          exact q _ _ (mod_lo _ s0) (mod_hi _ s0) (sm2.trans (.of sl)) (penAt_of (t := t + 1) (r := r) rfl (sl _ _ p2) (sl _ _ c2) hlen (by omega) (by omega))
end
/-! ### what stays when a pen draws -/
theorem sameP_ne {p c : Addr} {H : Hp} {n : Nat} (g : PenAt H p c n) {a : Addr} {o : HO} (e : H a = some o) (h : ∀ kvs, o ≠ .dK kvs) : a ≠ p := by
  obtain ⟨⟨_, _, _, hp, _⟩⟩ := g
  rintro rfl
  rw [e] at hp
  exact h _ (Option.some.inj hp)
section
variable {K : PySem.W.Frag} {H H' : Hp} {p c : Addr} {n : Nat}
theorem SameP.lst (s : SameP p H H') (g : PenAt H p c n) {a : Addr} {xs : List V} (e : H a = some (.lst xs)) : H' a = some (.lst xs) := s _ _ (sameP_ne g e fun _ z => nomatch z) e
theorem SameP.tup (s : SameP p H H') (g : PenAt H p c n) {a : Addr} {xs : List V} (e : H a = some (.tup xs)) : H' a = some (.tup xs) := s _ _ (sameP_ne g e fun _ z => nomatch z) e
theorem SameP.sqL (s : SameP p H H') (g : PenAt H p c n) {a : Addr} {xs : List V} (e : SqL K H a xs) : SqL K H' a xs := by
  rcases e with (e | ⟨o, e⟩) | e
  · exact .inl (.inl (s.lst g e))
  · exact .inl (.inr ⟨o, s _ _ (sameP_ne g e fun _ z => nomatch z) e⟩)
  · exact .inr e
theorem SameP.sqT (s : SameP p H H') (g : PenAt H p c n) {a : Addr} {xs : List V} (e : SqT K H a xs) : SqT K H' a xs := by
  rcases e with (e | ⟨o, e⟩) | e
  · exact .inl (.inl (s.tup g e))
  · exact .inl (.inr ⟨o, s _ _ (sameP_ne g e fun _ z => nomatch z) e⟩)
  · exact .inr e
/-- lists and tuples that were read are read so again -/
structure Keeps (K : PySem.W.Frag) (H H' : Hp) : Prop where
  l : ∀ a xs, SqL K H a xs → SqL K H' a xs
  t : ∀ a xs, SqT K H a xs → SqT K H' a xs
theorem SameP.keeps (s : SameP p H H') (g : PenAt H p c n) : Keeps K H H' := ⟨fun _ _ e => s.sqL g e, fun _ _ e => s.sqT g e⟩
theorem _root_.L2.Same.keeps (s : Same H H') : Keeps K H H' := ⟨fun _ _ e => s.seq e, fun a xs e => by
  rcases e with (e | ⟨o, e⟩) | e
  · exact .inl (.inl (s _ _ e))
  · exact .inl (.inr ⟨o, s _ _ e⟩)
  · exact .inr e⟩
mutual
theorem dp_keep (s : Keeps K H H') : ∀ (d : PyData) (v : V), Dp K H v d → Dp K H' v d
  | .none, _, h => by cases h; exact .non
  | .bool _, _, h => by cases h; exact .bl _
  | .int _, _, h => by cases h; exact .int _
  | .str _, _, h => by cases h; exact .str _
  | .list ds, _, h => by
    cases h with
    | lst a b => exact .lst (s.l _ _ a) (dp_keepAll s ds _ b)
  | .tuple ds, _, h => by
    cases h with
    | tup a b => exact .tup (s.t _ _ a) (dp_keepAll s ds _ b)
  | .dict _, _, h => by cases h
theorem dp_keepAll (s : Keeps K H H') : ∀ (ds : List PyData) (vs : List V), DpAll K H vs ds → DpAll K H' vs ds
  | [], _, h => by cases h; exact .nil
  | d :: ds, _, h => by
    cases h with
    | cons a b => exact .cons (dp_keep s d _ a) (dp_keepAll s ds _ b)
end
/-- a list, a tuple, a text, by its items -/
inductive SeqOf (K : PySem.W.Frag) (H : Hp) : V → List V → Prop
  | lst {a : Addr} {xs : List V} : SqL K H a xs → SeqOf K H (.ref a) xs
  | tup {a : Addr} {xs : List V} : SqT K H a xs → SeqOf K H (.ref a) xs
  | str {z : Str} : z.length ≤ sizeLine → SeqOf K H (.str z) (z.cps.toList.map fun c => .str ⟨#[c]⟩)
theorem SeqOf.keep (s : Keeps K H H') {x : V} {xs : List V} (h : SeqOf K H x xs) : SeqOf K H' x xs := by
  cases h with
  | lst e => exact .lst (s.l _ _ e)
  | tup e => exact .tup (s.t _ _ e)
  | str e => exact .str e
theorem SeqOf.len {x : V} {xs : List V} (h : SeqOf K H x xs) : LenV K x H xs.length := by
  cases h with
  | lst e => exact .inl ⟨_, e, rfl⟩
  | tup e => exact .inr ⟨_, e, rfl⟩
  | @str z e =>
    refine ⟨e, ?_⟩
    rw [List.length_map, Array.length_toList]
    rfl
theorem SeqOf.ix {x : V} {xs : List V} (h : SeqOf K H x xs) {i : Nat} {v : V} (hi : xs[i]? = some v) {Q : VK} (q : Q v H) : rIx K x (.int i) H Q := by
  cases h with
  | lst e => exact .inl ⟨_, _, _, _, rfl, rfl, e, atI_nat hi, q⟩
  | tup e => exact .inr (.inl ⟨_, _, _, _, rfl, rfl, e, atI_nat hi, q⟩)
  | @str z e =>
    rw [List.getElem?_map] at hi
    obtain ⟨cd, h1, rfl⟩ := Option.map_eq_some_iff.mp hi
    exact .inr (.inr ⟨_, _, _, rfl, rfl, e, atI_nat h1, q⟩)
end

section
variable {P : Program} {w : World} {K : PySem.W.Frag} {mg : Str → Option Value} {base : Heap}
/-- one of the options -/
def spPick (K : PySem.W.Frag) : Sp := fun vs H Q _ => ∃ (p c : Addr) (n : Nat) (o : V) (xs : List V), vs = [.ref p, o] ∧ PenAt H p c n ∧ n ≤ 1000000000 ∧ SeqOf K H o xs ∧ 0 < xs.length ∧ xs.length < 1073741824 ∧
  ∀ (i : Nat) (v : V) (H' : Hp), xs[i]? = some v → SameP p H H' → PenAt H' p c (n + 1) → Q v H'
theorem ok_pick {f fD : Addr} {fd fdD : FuncData} {k : Nat} (F : Fun K "_law_pick" "_law_pick" sPick f fd) (ml : mg "len" = none) (GD : FnOk P w K mg base CX0 k fD fdD ["pen", "size"] spDraw) (gD : mg "_law_draw" = some (.ref fD)) (kD : PySem.W.keepIn K (.ref fD) = true)
    (bD : Binds K fdD ["pen", "size"] []) : FnOk P w K mg base CX0 (k + 1) f fd ["pen", "options"] (spPick K) := by
  refine F.ok scPick (fun vs H Q E h => ?_) (fun cdv A outer s H vs Q E hr h => ?_)
  · obtain ⟨p, c, n, o, xs, rfl, _⟩ := h
    rfl
  · obtain ⟨p, c, n, o, xs, rfl, G, hn, hx, h0, h1, q⟩ := h
    refine ⟨_, pss_one (ps_ret (pe_ix ix_seq (pv 1) (pe_call GD hr (by rfl) gD kD bD .nil pass0 (pa_cons (pv 0) (pa_cons (pe_callB call_len (by rfl) ml PySem.boot_len (pa_cons (pv 1) pa_nil)) pa_nil))) (fun _ _ => rfl))), ?_⟩
    refine ⟨_, rfl, _, rfl, _, rfl, o, xs.length, rfl, hx.len, p, c, n, _, rfl, G, hn, by omega, by omega, fun d H' d0 d1 s G' => ?_⟩
    obtain ⟨i, rfl⟩ : ∃ i : Nat, d = (i : Int) := ⟨d.toNat, by omega⟩
    have hi : i < xs.length := by omega
    exact SeqOf.ix (hx.keep (s.keeps G)) (List.getElem?_eq_getElem hi) (q i _ H' (List.getElem?_eq_getElem hi) s G')
end
end My
set_option Elab.async false
set_option linter.all false
set_option maxRecDepth 100000
set_option maxHeartbeats 4000000
/-! xs != [], t != (), == likewise, whatever the items are. -/
namespace My
open PySem PySem.Spec PyProof.Rows L2 SeqAt
section
variable {X : Cx}
/-- a list beside an empty list, a tuple beside an empty tuple -/
def rNil (K : PySem.W.Frag) (f : Bool → Bool) : R2 := fun x y H Q => ∃ a b xs, x = .ref a ∧ y = .ref b ∧ ((SqL K H a xs ∧ SqL K H b []) ∨ (SqT K H a xs ∧ SqT K H b [])) ∧ Q (.bl (f xs.isEmpty)) H
theorem vals_nil {its : List Value} (r : Vals [] its) : its = [] := by cases r; rfl
theorem vals_emp {xs : List V} {its : List Value} (r : Vals xs its) : (its.toArray.size == 0) = xs.isEmpty := by
  cases r <;> rfl
theorem op_neNil (hu : X.A.units + 64 < cLine) : OpR X (compareOp .NotEq) (rNil X.K not) := by
  intro pins s σ H x y v u Q I rx ry h
  obtain ⟨a, b, xs, rfl, rfl, h, q⟩ := h
  cases rx
  cases ry
  rcases h with ⟨ha, hb⟩ | ⟨ha, hb⟩
  · obtain ⟨its, rv, ⟨o, n, ho, hc, _, hd⟩, _⟩ := I.list ha
    obtain ⟨its2, rv2, ⟨o2, n2, ho2, hc2, _, hd2⟩, _⟩ := I.list hb
    cases vals_nil rv2
    have l1 : s.heap.IsList a its.toArray := ⟨o, ho, hc, n, hd⟩
    have l2 : s.heap.IsList b #[] := ⟨o2, ho2, hc2, n2, hd2⟩
    cases rv with
    | nil => exact RcNeAt.lists (e := fun _ => true) l1 l2 rfl (by omega) (fun j h1 => absurd h1 (Nat.not_lt_zero j)) _ _ _ _ ⟨.bl _, H, I, rfl, q⟩
    | cons r t => exact RcNeAt.lists_lengths l1 l2 (by simp) (by omega) _ _ _ _ ⟨.bl _, H, I, rfl, q⟩
  · obtain ⟨its, rv, ⟨o, ho, hc, n, hd⟩, _⟩ := I.tuple ha
    obtain ⟨its2, rv2, ⟨o2, ho2, hc2, n2, hd2⟩, _⟩ := I.tuple hb
    cases vals_nil rv2
    have l1 : s.heap.IsTuple a its.toArray := ⟨o, ho, hc, n, hd⟩
    have l2 : s.heap.IsTuple b #[] := ⟨o2, ho2, hc2, n2, hd2⟩
    refine RcNeAt.tuples (e := fun _ => true) l1 l2 (by omega) (fun j _ h2 => absurd h2 (Nat.not_lt_zero j)) _ _ _ _ ?_
    rw [show min its.toArray.size (#[] : Array Value).size = 0 from Nat.min_zero _]
    refine ⟨.bl (!xs.isEmpty), H, I, ?_, q⟩
    show Value.bool _ = Value.bool _
    rw [← vals_emp rv]
    simp
end
end My
set_option Elab.async false
set_option linter.all false
set_option maxRecDepth 100000
set_option maxHeartbeats 4000000
namespace My
open PySem PySem.Spec PyProof.Rows L2

theorem PenAt.apart {H : Hp} {p c a : Addr} {n : Nat} (G : PenAt H p c n) (h : H a = none) : c ≠ a := let ⟨⟨_, _, _, _, hc, _⟩⟩ := G; ne_of_none hc h
theorem PenAt.apart' {H : Hp} {p c a : Addr} {n : Nat} (G : PenAt H p c n) (h : H a = none) : p ≠ a := let ⟨⟨_, _, _, hp, _⟩⟩ := G; ne_of_none hp h
theorem PenAt.upd {H : Hp} {p c a : Addr} {n : Nat} {o : HO} (G : PenAt H p c n) (h : p ≠ a) (k : c ≠ a) : PenAt (upd H a o) p c n :=
  let ⟨⟨ns, t, r, hp, hc, e⟩⟩ := G; ⟨⟨ns, t, r, (upd_ne h).trans hp, (upd_ne k).trans hc, e⟩⟩
theorem SameP.free {H H' : Hp} {p c a : Addr} {n : Nat} (s : SameP p H H') (G : PenAt H' p c n) (h : H' a = none) : H a = none := by
  cases e : H a with
  | none => rfl
  | some o => rw [s a o (Ne.symm (G.apart' h)) e] at h; cases h
theorem perm_erase {α : Type} : ∀ (xs : List α) (i : Nat) (h : i < xs.length), (xs[i] :: xs.eraseIdx i).Perm xs
  | x :: r, 0, _ => .refl _
  | x :: r, i + 1, h => ((List.Perm.swap x (r[i]'(Nat.lt_of_succ_lt_succ h)) (r.eraseIdx i)).trans ((perm_erase r i (Nat.lt_of_succ_lt_succ h)).cons x))

section
variable {P : Program} {w : World} {K : PySem.W.Frag} {mg : Str → Option Value} {base : Heap}
/-- a new list of the same things in some order -/
def spShuf (K : PySem.W.Frag) : Sp := fun vs H Q _ => ∃ (p c a : Addr) (n : Nat) (xs : List V), vs = [.ref p, .ref a] ∧ PenAt H p c n ∧ n ≤ 900000000 ∧ SeqOf K H (.ref a) xs ∧ xs.length ≤ 100000 ∧
  ∀ (l : Addr) (ys : List V) (H' : Hp), ys.Perm xs → H l = none → H' l = some (.lst ys) → SameP p H H' → PenAt H' p c (n + xs.length) → Q (.ref l) H'
theorem ok_shuf {f fD : Addr} {fd fdD : FuncData} {k : Nat} (F : Fun K "_law_shuffled" "_law_shuffled" sShuf f fd) (ml : mg "len" = none) (mli : mg "list" = none) (GD : FnOk P w K mg base CX0 k fD fdD ["pen", "size"] spDraw) (gD : mg "_law_draw" = some (.ref fD)) (kD : PySem.W.keepIn K (.ref fD) = true)
    (bD : Binds K fdD ["pen", "size"] []) : FnOk P w K mg base CX0 (k + 1) f fd ["pen", "some"] (spShuf K) := by
  refine F.ok scShuf (fun vs H Q E h => ?_) (fun cdv A outer s H vs Q E hr h => ?_)
  · obtain ⟨p, c, a, n, xs, rfl, _⟩ := h
    rfl
  · obtain ⟨p, c, a, n, xs, rfl, G, hn, hx, h1, q⟩ := h
    refine ⟨_, pss_cons (ps_par (i := 2) (j := 3) (by rfl) scShuf.nd rfl rfl (by decide) rfl rfl (pa_cons (pe_callTy call_list_of (by rfl) mli (by decide +kernel) (pa_cons (pv 1) pa_nil)) (pa_cons (pe_lst pa_nil) pa_nil)) (by rfl))
      (pss_cons (ps_while PassesOwn.never (pt_cmpR (op_neNil hr.units) (pv 2) (pe_lst pa_nil) (nomark _))
        (pss_one (ps_expr (pe_bm PySem.F.plainAttrs_list PySem.F.slot_list_append PySem.F.type_list_append mt_append (pv 3) (pa_cons
          (pe_bm PySem.F.plainAttrs_list PySem.F.slot_list_pop PySem.F.type_list_pop mt_popAt (pv 2) (pa_cons (pe_call GD hr (by rfl) gD kD bD .nil pass0 (pa_cons (pv 0) (pa_cons (pe_callB call_len_seq (by rfl) ml PySem.boot_len (pa_cons (pv 2) pa_nil)) pa_nil))) pa_nil)) pa_nil)))))
      (pss_one (ps_ret (pv 3)))), ?_⟩
    -- left, found = list(some), []
    have hs : SqL K H a xs ∨ SqT K H a xs := by
      cases hx with
      | lst e => exact .inl e
      | tup e => exact .inr e
    refine ⟨_, rfl, a, xs, rfl, hs, fun l hl => ?_⟩
    refine ⟨by show 0 ≤ sizeLine; decide, fun g hg => ?_⟩
    have nlg : l ≠ g := fun z => by rw [z, upd_same] at hg; cases hg
    have g0 : H g = none := by
      rw [upd_ne (Ne.symm nlg)] at hg
      exact hg
    have s1 : Same H (upd (upd H l (.lst xs)) g (.lst [])) := (same_new hl).trans (same_new hg)
    refine ⟨_, _, rfl, ?_⟩
    -- while left != []
    refine ⟨fun m σ H2 => ∃ (left found : List V), σ = [some (.ref p), some (.ref a), some (.ref l), some (.ref g)] ∧ m = left.length ∧ SameP p H H2 ∧ H2 l = some (.lst left) ∧ H2 g = some (.lst found) ∧ (found ++ left).Perm xs ∧ PenAt H2 p c (n + found.length),
      ⟨_, xs, [], rfl, rfl, .of s1, by rw [upd_ne nlg, upd_same], upd_same, .refl _, G.same s1⟩, fun m σ H2 hW => ?_⟩
    obtain ⟨left, found, rfl, rfl, s2, el, eg, pm, G2⟩ := hW
    have hlen : found.length + left.length = xs.length := by
      have := pm.length_eq
      rwa [List.length_append] at this
    refine ⟨_, rfl, by show 0 ≤ sizeLine; decide, fun e he => ?_⟩
    have se : Same H2 (upd H2 e (.lst [])) := same_new he
    refine ⟨l, e, left, rfl, rfl, .inl ⟨.inl (.inl (se _ _ el)), .inl (.inl upd_same)⟩, _, rfl, ?_⟩
    generalize hH3 : upd H2 e (.lst []) = H3 at se
    have el3 := se _ _ el
    have eg3 := se _ _ eg
    have G3 := G2.same se
    cases left with
    | nil =>
      refine iteF ⟨_, rfl, ?_⟩
      rw [List.append_nil] at pm
      refine q g found H3 pm g0 eg3 (s2.trans (.of se)) (G3.mono ?_)
      rw [pm.length_eq]
      exact Nat.le_refl _
    | cons y0 yr =>
      refine iteT ⟨_, fun _ _ z => z, ?_⟩
      -- found.append(left.pop(draw))
      refine ⟨_, rfl, .inl ⟨rfl, _, .inl (.inl eg3)⟩, _, rfl, .inl ⟨rfl, _, .inl (.inl el3)⟩, _, rfl, _, rfl, l, _, rfl, .inl (.inl (.inl el3)), p, c, _, _, rfl, G3, by omega, by simp, by rw [List.length_cons] at *; omega, fun d H4 d0 d1 s4 G4 => ?_⟩
      obtain ⟨i, rfl⟩ : ∃ i : Nat, d = (i : Int) := ⟨d.toNat, by omega⟩
      have hi : i < (y0 :: yr).length := by omega
      have el4 := s4.lst G3 el3
      have eg4 := s4.lst G3 eg3
      refine ⟨l, _, _, i, (y0 :: yr)[i], rfl, rfl, el4, by omega, by omega, by rw [seqIndex_of (by omega) (by omega)]; rfl, List.getElem?_eq_getElem hi, ?_⟩
      refine ⟨g, found, _, rfl, rfl, by rw [upd_ne (Ne.symm nlg)]; exact eg4, Evl.sz_lt (by omega), ?_⟩
      have lp := sameP_ne G3 el3 fun _ z => nomatch z
      have gp := sameP_ne G3 eg3 fun _ z => nomatch z
      have cl : c ≠ l := G.apart hl
      have cg : c ≠ g := G.apart g0
      refine ⟨_, ?_, (y0 :: yr).eraseIdx i, found ++ [(y0 :: yr)[i]], rfl, rfl, ?_, ?_, upd_same, ?_, ?_⟩
      · rw [List.length_eraseIdx, if_pos hi]
        simp
      · intro b o nb e0
        rw [upd_ne (ne_of_none e0 g0), upd_ne (ne_of_none e0 hl)]
        exact (s2.trans (SameP.of se)).trans s4 b o nb e0
      · rw [upd_ne nlg, upd_same]
      · rw [List.append_assoc]
        exact (List.Perm.append_left found (perm_erase (y0 :: yr) i hi)).trans pm
      · exact ((G4.upd (Ne.symm lp) cl).upd (Ne.symm gp) cg).mono (by rw [List.length_append, List.length_singleton]; omega)
end
end My
set_option Elab.async false
set_option linter.all false
set_option maxRecDepth 100000
set_option maxHeartbeats 4000000
/-! Comprehensions without a test, over a name. -/
namespace My
open PySem PySem.Spec PyProof.Rows L2
section
variable {K : PySem.W.Frag} {te : TE} {vs : List Nat} {σ : L2.St} {H1 : Hp} {D : Addr} {Qd : Hp → Prop} {j : Nat}
def Grows (te : TE) (D : Addr) (Pv : Hp → Prop) (σ : L2.St) (H : Hp) : Prop := te σ H fun y H4 => ∃ acc, H4 D = some (.lst acc) ∧ acc.length < sizeLine ∧ Pv (upd H4 D (.lst (acc ++ [y])))
theorem yes_turn {te : TE} {σ0 σ2 : L2.St} {H : Hp} {vs : List Nat} {R : V → Hp → Prop} {N : Hp → Prop} (a : wipe σ2 vs = wipe σ0 vs) (b : te σ2 H R) : wipe σ2 vs = wipe σ0 vs ∧ tYes σ2 H fun b H3 => if b = true then te σ2 H3 R else N H3 :=
  ⟨a, (if_pos rfl : (if true = true then te σ2 H R else N H) = te σ2 H R).mpr b⟩
def lcN_range {lo : Int} {n : Nat} (Pv : Nat → Hp → Prop) (h0 : Pv 0 (upd H1 D (.lst [])))
    (hs : ∀ i H, i < n → Pv i H → wipe ((wipe σ vs).set j (some (.int (lo + i)))) vs = wipe σ vs ∧ Grows te D (Pv (i + 1)) ((wipe σ vs).set j (some (.int (lo + i)))) H) (hd : ∀ H, Pv n H → Qd H) :=
  lc_range (lo := lo) (n := n) (g := gName j) (tt := tYes) (te := te) (vs := vs) (σ := σ) (H1 := H1) (D := D) (Qd := Qd) Pv h0 (fun i H hi p => yes_turn (hs i H hi p).1 (hs i H hi p).2) hd
def lcN_list {a : Addr} {xs : List V} (Pv : Nat → Hp → Prop) (h0 : Pv 0 (upd H1 D (.lst []))) (hl : ∀ i H, i ≤ xs.length → Pv i H → SqL K H a xs)
    (hs : ∀ i x H, xs[i]? = some x → Pv i H → wipe ((wipe σ vs).set j (some x)) vs = wipe σ vs ∧ Grows te D (Pv (i + 1)) ((wipe σ vs).set j (some x)) H) (hd : ∀ H, Pv xs.length H → Qd H) :=
  lc_list (K := K) (a := a) (xs := xs) (g := gName j) (tt := tYes) (te := te) (vs := vs) (σ := σ) (H1 := H1) (D := D) (Qd := Qd) Pv h0 hl (fun i x H hi p => yes_turn (hs i x H hi p).1 (hs i x H hi p).2) hd
def lcN_tup {a : Addr} {xs : List V} (Pv : Nat → Hp → Prop) (h0 : Pv 0 (upd H1 D (.lst []))) (hl : ∀ i H, i ≤ xs.length → Pv i H → SqT K H a xs)
    (hs : ∀ i x H, xs[i]? = some x → Pv i H → wipe ((wipe σ vs).set j (some x)) vs = wipe σ vs ∧ Grows te D (Pv (i + 1)) ((wipe σ vs).set j (some x)) H) (hd : ∀ H, Pv xs.length H → Qd H) :=
  lc_tup (K := K) (a := a) (xs := xs) (g := gName j) (tt := tYes) (te := te) (vs := vs) (σ := σ) (H1 := H1) (D := D) (Qd := Qd) Pv h0 hl (fun i x H hi p => yes_turn (hs i x H hi p).1 (hs i x H hi p).2) hd
end
end My
set_option Elab.async false
set_option linter.all false
set_option maxRecDepth 100000
set_option maxHeartbeats 4000000
namespace My
open PySem PySem.Spec PyProof.Rows L2

/-! ### a short text some few times -/
def rMulS : R2 := fun x y H Q => ∃ (z : Str) (i : Int), x = .str z ∧ y = .int i ∧ z.length ≤ 1000 ∧ i ≤ 1000 ∧ -1000 ≤ i ∧ Q (.str (Txt.mul z i)) H
theorem mulOk_small {x : Str} {n : Int} (h : x.length ≤ 1000) (h1 : n ≤ 1000) (h2 : -1000 ≤ n) : MulOk x n := by
  refine ⟨?_, fun a _ => ?_, fun a _ => ?_⟩
  · have e1 : decide (n < -(2 ^ 63 : Int)) = false := decide_eq_false (by omega)
    have e2 : decide (n ≥ (2 : Int) ^ 63) = false := decide_eq_false (by omega)
    rw [e1, e2]
    rfl
  · have h3 : (1000 : Int) ≤ (2 ^ 63 - 1) / n := Int.le_ediv_of_mul_le (by omega) (by omega)
    omega
  · have h3 : x.length * n.toNat ≤ 1000 * 1000 := Nat.mul_le_mul h (by omega)
    exact decide_eq_false (Nat.not_lt.mpr (Nat.le_trans h3 (by decide)))
theorem op_mulS {X : Cx} : OpR X (binaryOp .Mult) rMulS := by
  intro pins s σ H x y v u Q I rx ry h
  obtain ⟨z, i, rfl, rfl, h1, h2, h3, q⟩ := h
  obtain ⟨t, rfl⟩ := rx
  obtain ⟨t', rfl⟩ := ry
  exact SB.mul (mulOk_small h1 h2 h3) fun t2 k => ⟨.str _, H, I.tok _, ⟨_, rfl⟩, q⟩

/-! ### names -/
def NameOk (x : Str) : Prop := 1 ≤ x.length ∧ x.length ≤ 8 ∧ ∀ c ∈ x.cps.toList, 97 ≤ c ∧ c ≤ 122
def abc : Str := "abcdefghijklmnopqrstuvwxyz"
theorem abc_codes : abc.cps.toList = (List.range 26).map (97 + ·) := by decide +kernel
theorem abc_len : abc.length = 26 := by decide +kernel
theorem abc_at {j : Nat} (h : j < 26) : abc.cps.toList[j]? = some (97 + j) := by
  rw [abc_codes, List.getElem?_map, List.getElem?_range h]
  rfl
/-- the name at the k-th place -/
def wName (front : Str) (first step k : Nat) : Str := front ++ ⟨#[97 + (first + step * k) % 26]⟩ ++ (if 25 < k then ⟨#[97 + k % 26]⟩ else Str.empty)
theorem wName_codes (front : Str) (first step k : Nat) : (wName front first step k).cps.toList = front.cps.toList ++ [97 + (first + step * k) % 26] ++ (if 25 < k then [97 + k % 26] else []) := by
  unfold wName
  rw [Str.cps_append, Array.toList_append, Str.cps_append, Array.toList_append]
  by_cases h : 25 < k
  · rw [if_pos h, if_pos h]
  · rw [if_neg h, if_neg h]
    rfl
theorem str_len (x : Str) : x.length = x.cps.toList.length := by
  rw [Array.length_toList]
  rfl
theorem wName_ok {front : Str} (hf : front.length ≤ 6) (hc : ∀ c ∈ front.cps.toList, 97 ≤ c ∧ c ≤ 122) (first step k : Nat) : NameOk (wName front first step k) := by
  rw [str_len] at hf
  unfold NameOk
  rw [str_len, wName_codes, List.length_append, List.length_append, List.length_singleton]
  refine ⟨by omega, ?_, fun c h => ?_⟩
  · by_cases h : 25 < k
    · rw [if_pos h, List.length_singleton]
      omega
    · rw [if_neg h, List.length_nil]
      omega
  · rcases List.mem_append.mp h with h | h
    · rcases List.mem_append.mp h with h | h
      · exact hc c h
      · rw [List.mem_singleton.mp h]
        omega
    · by_cases g : 25 < k
      · rw [if_pos g] at h
        rw [List.mem_singleton.mp h]
        omega
      · rw [if_neg g] at h
        cases h
theorem step_inj {first step i j : Nat} (hs : step = 1 ∨ step = 3 ∨ step = 5 ∨ step = 7 ∨ step = 9 ∨ step = 11) (hi : i < 26) (hj : j < 26) (h : (first + step * i) % 26 = (first + step * j) % 26) : i = j := by
  rcases hs with rfl | rfl | rfl | rfl | rfl | rfl <;> omega
theorem wName_inj {front : Str} {first step i j : Nat} (hs : step = 1 ∨ step = 3 ∨ step = 5 ∨ step = 7 ∨ step = 9 ∨ step = 11) (hi : i < 52) (hj : j < 52) (h : wName front first step i = wName front first step j) : i = j := by
  have e : (wName front first step i).cps.toList = (wName front first step j).cps.toList := by rw [h]
  rw [wName_codes, wName_codes, List.append_assoc, List.append_assoc] at e
  have e := List.append_cancel_left e
  by_cases a : 25 < i
  · by_cases b : 25 < j
    · rw [if_pos a, if_pos b] at e
      simp only [List.singleton_append, List.cons.injEq, and_true] at e
      omega
    · rw [if_pos a, if_neg b] at e
      simp at e
  · by_cases b : 25 < j
    · rw [if_neg a, if_pos b] at e
      simp at e
    · rw [if_neg a, if_neg b] at e
      simp only [List.append_nil, List.cons.injEq, and_true] at e
      exact step_inj (first := first) hs (by omega) (by omega) (by omega)
def wNames (front : Str) (first step many : Nat) : List Str := (List.range many).map (wName front first step)
theorem nodup_map_on {α β : Type} {f : α → β} : ∀ {xs : List α}, xs.Nodup → (∀ a ∈ xs, ∀ b ∈ xs, f a = f b → a = b) → (xs.map f).Nodup
  | [], _, _ => List.nodup_nil
  | x :: r, h, g => by
    rw [List.nodup_cons] at h
    rw [List.map_cons, List.nodup_cons]
    refine ⟨fun z => ?_, nodup_map_on h.2 fun a ha b hb => g a (List.mem_cons_of_mem _ ha) b (List.mem_cons_of_mem _ hb)⟩
    obtain ⟨y, hy, e⟩ := List.mem_map.mp z
    have := g y (List.mem_cons_of_mem _ hy) x List.mem_cons_self e
    exact h.1 (this ▸ hy)
theorem wNames_nodup {front : Str} {first step many : Nat} (hs : step = 1 ∨ step = 3 ∨ step = 5 ∨ step = 7 ∨ step = 9 ∨ step = 11) (hm : many ≤ 52) : (wNames front first step many).Nodup :=
  nodup_map_on List.nodup_range fun a ha b hb e => wName_inj hs (Nat.lt_of_lt_of_le (List.mem_range.mp ha) hm) (Nat.lt_of_lt_of_le (List.mem_range.mp hb) hm) e
/-- many names, all different -/
structure Names (xs : List Str) : Prop where
  ok : ∀ x ∈ xs, NameOk x
  nd : xs.Nodup
theorem Names.perm {xs ys : List Str} (h : Names xs) (p : ys.Perm xs) : Names ys := ⟨fun x hx => h.ok x (p.subset hx), p.nodup_iff.mpr h.nd⟩
def unS : V → Str
  | .str z => z
  | _ => Str.empty
theorem perm_strs {ys : List V} {xs : List Str} (p : ys.Perm (xs.map V.str)) : ∃ zs : List Str, ys = zs.map V.str ∧ zs.Perm xs := by
  refine ⟨ys.map unS, ?_, ?_⟩
  · rw [List.map_map]
    have : ∀ v ∈ ys, (V.str ∘ unS) v = v := fun v hv => by
      obtain ⟨x, _, rfl⟩ := List.mem_map.mp (p.subset hv)
      rfl
    rw [List.map_congr_left this, List.map_id']
  · have := p.map unS
    rwa [List.map_map, show (unS ∘ V.str) = id from rfl, List.map_id] at this
def sign (cd : Nat) : Str := ⟨#[cd]⟩
theorem join_signs : ∀ cs : List Nat, (Str.join Str.empty (cs.map sign)).cps.toList = cs
  | [] => rfl
  | [_] => rfl
  | x :: y :: r => by
    have ih := join_signs (y :: r)
    show (sign x ++ Str.empty ++ Str.join Str.empty ((y :: r).map sign)).cps.toList = x :: y :: r
    rw [Str.cps_append, Array.toList_append, ih, Str.cps_append, Array.toList_append]
    rfl
theorem sum_signs : ∀ cs : List Nat, ((cs.map sign).map (·.length)).sum = cs.length
  | [] => rfl
  | x :: r => by
    rw [List.map_cons, List.map_cons, List.sum_cons, sum_signs r, List.length_cons]
    show 1 + r.length = r.length + 1
    omega
theorem signs_V (cs : List Nat) : (cs.map sign).map V.str = cs.map fun cd => V.str (sign cd) := by rw [List.map_map]; rfl
theorem abc_item {i : Nat} {v : V} (h : (abc.cps.toList.map fun cd => V.str ⟨#[cd]⟩)[i]? = some v) : ∃ cd, v = .str (sign cd) ∧ 97 ≤ cd ∧ cd ≤ 122 := by
  rw [abc_codes, List.map_map, List.getElem?_map] at h
  obtain ⟨j, h1, rfl⟩ := Option.map_eq_some_iff.mp h
  have h2 := List.mem_range.mp (List.mem_of_getElem? h1)
  exact ⟨97 + j, rfl, by omega, by omega⟩
theorem steps_item {i : Nat} {v : V} (h : ([.int 1, .int 3, .int 5, .int 7, .int 9, .int 11] : List V)[i]? = some v) : ∃ st : Nat, v = .int (st : Int) ∧ (st = 1 ∨ st = 3 ∨ st = 5 ∨ st = 7 ∨ st = 9 ∨ st = 11) := by
  have := List.mem_of_getElem? h
  simp only [List.mem_cons, List.not_mem_nil, or_false] at this
  rcases this with rfl | rfl | rfl | rfl | rfl | rfl
  · exact ⟨1, rfl, by omega⟩
  · exact ⟨3, rfl, by omega⟩
  · exact ⟨5, rfl, by omega⟩
  · exact ⟨7, rfl, by omega⟩
  · exact ⟨9, rfl, by omega⟩
  · exact ⟨11, rfl, by omega⟩
theorem place_nat (f st k : Nat) : ((f : Int) + (st : Int) * ((0 : Int) + (k : Int))) % 26 = (((f + st * k) % 26 : Nat) : Int) := by
  rw [Int.zero_add, ← Int.natCast_mul]
  omega
theorem mul_sign (cd : Nat) (b : Bool) : Txt.mul (sign cd) (if b then 1 else 0) = if b = true then sign cd else Str.empty := by
  cases b <;> rfl

section
variable {P : Program} {w : World} {K : PySem.W.Frag} {mg : Str → Option Value} {base : Heap}
/-- what the draw, the pick and the shuffling have promised -/
structure Draws (P : Program) (w : World) (K : PySem.W.Frag) (mg : Str → Option Value) (base : Heap) (fD fP fS : Addr) (dD dP dS : FuncData) : Prop where
  oD : FnOk P w K mg base CX0 1 fD dD ["pen", "size"] spDraw
  gD : mg "_law_draw" = some (.ref fD)
  kD : PySem.W.keepIn K (.ref fD) = true
  bD : Binds K dD ["pen", "size"] []
  oP : FnOk P w K mg base CX0 2 fP dP ["pen", "options"] (spPick K)
  gP : mg "_law_pick" = some (.ref fP)
  kP : PySem.W.keepIn K (.ref fP) = true
  bP : Binds K dP ["pen", "options"] []
  oS : FnOk P w K mg base CX0 2 fS dS ["pen", "some"] (spShuf K)
  gS : mg "_law_shuffled" = some (.ref fS)
  kS : PySem.W.keepIn K (.ref fS) = true
  bS : Binds K dS ["pen", "some"] []
/-- a new list of so many different names -/
def spWag (K : PySem.W.Frag) : Sp := fun vs H Q _ => ∃ (p c : Addr) (n many : Nat), vs = [.ref p, .int (many : Int)] ∧ PenAt H p c n ∧ n ≤ 800000000 ∧ many ≤ 52 ∧
  ∀ (l : Addr) (xs : List Str) (H' : Hp), Names xs → xs.length = many → H l = none → H' l = some (.lst (xs.map V.str)) → SameP p H H' → PenAt H' p c (n + 61) → Q (.ref l) H'
/-- .. all of one length, where they are few -/
def spWagL (K : PySem.W.Frag) : Sp := fun vs H Q _ => ∃ (p c : Addr) (n many : Nat), vs = [.ref p, .int (many : Int)] ∧ PenAt H p c n ∧ n ≤ 800000000 ∧ many ≤ 52 ∧
  ∀ (l : Addr) (xs : List Str) (H' : Hp), Names xs → xs.length = many → H l = none → H' l = some (.lst (xs.map V.str)) → SameP p H H' → PenAt H' p c (n + 61) → (many ≤ 26 → ∀ x ∈ xs, ∀ y ∈ xs, x.length = y.length) → Q (.ref l) H'
theorem ok_wagL {f fD fP fS : Addr} {fd dD dP dS : FuncData} (F : Fun K "_law_wagons" "_law_wagons" sWag f fd) (T : Draws P w K mg base fD fP fS dD dP dS) (mr : mg "range" = none) (mi : mg "int" = none) :
    FnOk P w K mg base CX0 3 f fd ["pen", "many"] (spWagL K) := by
  refine F.ok scWag (fun vs H Q E h => ?_) (fun cdv A outer s H vs Q E hr h => ?_)
  · obtain ⟨p, c, n, many, rfl, _⟩ := h
    rfl
  · obtain ⟨p, c, n, many, rfl, G, hn, hm, q⟩ := h
    have hr1 := hr.mono (show 1 ≤ 2 by decide)
    refine ⟨_, pss_cons (ps_set (i := 2) scWag.nd rfl (.inr rfl) pe_str)
      (pss_cons (ps_set (i := 4) scWag.nd rfl (.inl rfl) (pe_join pe_str (pe_lc (own := [("k", 3)]) (g := gName 3) (tt := tYes) rfl scWag.nd
          (pi_range1 (by rfl) mr (pa_cons (pe_call T.oD hr1 (by rfl) T.gD T.kD T.bD .nil pass0 (pa_cons (pv 0) (pa_cons pe_int pa_nil))) pa_nil))
          (blkOk_by (own := [("k", 3)]) (N := ["pen", "many", "letters", "k", "front", "first", "step", "found", "place"]) (sc := defScope sWag) (by decide +kernel))
          (fun _ _ _ _ _ => pg_name (i := 3) scWag.nd rfl (Or.inl rfl)) (fun _ _ _ _ _ => pts_nil) (fun _ _ _ _ _ => pe_call T.oP hr (by rfl) T.gP T.kP T.bP .nil pass0 (pa_cons (pv 0) (pa_cons (pv 2) pa_nil))))))
      (pss_cons (ps_par (i := 5) (j := 6) (by rfl) scWag.nd rfl rfl (by decide) rfl rfl (pa_cons (pe_call T.oD hr1 (by rfl) T.gD T.kD T.bD .nil pass0 (pa_cons (pv 0) (pa_cons pe_int pa_nil)))
        (pa_cons (pe_call T.oP hr (by rfl) T.gP T.kP T.bP .nil pass0 (pa_cons (pv 0) (pa_cons (pe_lst (pa_cons pe_int (pa_cons pe_int (pa_cons pe_int (pa_cons pe_int (pa_cons pe_int (pa_cons pe_int pa_nil))))))) pa_nil))) pa_nil)) (by rfl))
      (pss_cons (ps_set (i := 7) scWag.nd rfl (.inl rfl) (pe_lst pa_nil))
      (pss_cons (ps_for PassesOwn.never rfl (pi_range1 (by rfl) mr (pa_cons (pv 1) pa_nil)) (pg_name (i := 3) scWag.nd rfl (.inl rfl))
        (pss_cons (ps_set (i := 8) scWag.nd rfl (.inl rfl) (pe_op op_mod (pe_op op_add (pv 5) (pe_op op_mul (pv 6) (pv 3))) pe_int))
        (pss_one (ps_expr (pe_bm PySem.F.plainAttrs_list PySem.F.slot_list_append PySem.F.type_list_append mt_append (pv 7) (pa_cons
          (pe_op op_add_str (pe_op op_add_str (pv 4) (pe_ix ix_str (pv 2) (pv 8) (fun _ _ => rfl))) (pe_op op_mulS (pe_ix ix_str (pv 2) (pe_op op_mod (pv 3) pe_int) (fun _ _ => rfl))
            (pe_callTy call_int1 (by rfl) mi (by decide +kernel) (pa_cons (pe_cmpR op_gt (pv 3) pe_int (nomark _)) pa_nil)))) pa_nil))))))
      (pss_one (ps_ret (pe_call T.oS hr (by rfl) T.gS T.kS T.bS .nil pass0 (pa_cons (pv 0) (pa_cons (pv 7) pa_nil))))))))), ?_⟩
    -- front
    refine ⟨⟨_, rfl⟩, _, rfl, p, c, n, 7, rfl, G, by omega, by decide, by decide, fun d H1 d0 d1 s1 G1 => ⟨d, rfl, by omega, by omega, fun Dl hD => ?_⟩⟩
    have hD0 : H Dl = none := s1.free G1 hD
    refine lcN_range (lo := 0) (n := d.toNat) (fun i H' => ∃ cs : List Nat, H' Dl = some (.lst (cs.map fun cd => V.str (sign cd))) ∧ cs.length = i ∧ (∀ cd ∈ cs, 97 ≤ cd ∧ cd ≤ 122) ∧ SameP p H H' ∧ PenAt H' p c (n + 1 + i))
      ⟨[], upd_same, rfl, fun _ z => (nomatch z), s1.trans (SameP.new hD), G1.same (same_new hD)⟩ (fun i H2 hi hp => ?_) (fun H2 hp => ?_)
    · obtain ⟨cs, eD, hl, hc, s2, G2⟩ := hp
      refine ⟨rfl, ?_⟩
      refine ⟨_, rfl, _, rfl, p, c, _, .str abc, _, rfl, G2, by omega, .str (by rw [abc_len]; decide), ?_, ?_, fun j v H3 hv s3 G3 => ?_⟩
      · rw [List.length_map, abc_codes, List.length_map, List.length_range]
        decide
      · rw [List.length_map, abc_codes, List.length_map, List.length_range]
        decide
      · obtain ⟨cd, rfl, c0, c1⟩ := abc_item hv
        have eD3 := s3.lst G2 eD
        refine ⟨_, eD3, Evl.sz_lt (by rw [List.length_map]; omega), cs ++ [cd], ?_, by rw [List.length_append, hl]; rfl, fun z hz => ?_, fun b o nb e => ?_, ?_⟩
        · rw [upd_same, List.map_append]
          rfl
        · rcases List.mem_append.mp hz with hz | hz
          · exact hc z hz
          · rw [List.mem_singleton.mp hz]
            exact ⟨c0, c1⟩
        · rw [upd_ne (ne_of_none e hD0)]
          exact (s2.trans s3) b o nb e
        · exact (G3.upd (G1.apart' hD) (G1.apart hD)).mono (by omega)
    · obtain ⟨cs, eD, hl, hc, s2, G2⟩ := hp
      have hlen : cs.length ≤ 6 := by omega
      refine ⟨Str.empty, Dl, cs.map sign, rfl, rfl, .inl (by rw [signs_V]; exact .inl (.inl eD)), ?_, ?_⟩
      · rw [sum_signs, List.length_map]
        show cs.length + cs.length * 0 ≤ 16777216
        omega
      generalize hfr : Txt.join Str.empty (cs.map sign) = front
      have fc : front.cps.toList = cs := by rw [← hfr, TL.join_eq, join_signs]
      have f6 : front.length ≤ 6 := by rw [str_len, fc]; exact hlen
      have fok : ∀ cd ∈ front.cps.toList, 97 ≤ cd ∧ cd ≤ 122 := by rw [fc]; exact hc
      -- first, step
      refine ⟨_, rfl, p, c, _, 26, rfl, G2, by omega, by decide, by decide, fun f1 H3 f0 f26 s3 G3 => ?_⟩
      refine ⟨_, rfl, by show 6 ≤ sizeLine; decide, fun o1 ho1 => ?_⟩
      have so := same_new (o := HO.lst [.int 1, .int 3, .int 5, .int 7, .int 9, .int 11]) ho1
      refine ⟨p, c, _, .ref o1, [.int 1, .int 3, .int 5, .int 7, .int 9, .int 11], rfl, G3.same so, by omega, .lst (.inl (.inl upd_same)), by decide, by decide, fun j v H4 hv s4 G4 => ?_⟩
      obtain ⟨st, rfl, hst⟩ := steps_item hv
      obtain ⟨f2, rfl⟩ : ∃ f2 : Nat, f1 = (f2 : Int) := ⟨f1.toNat, by omega⟩
      refine ⟨_, _, rfl, ?_⟩
      -- found
      refine ⟨by show 0 ≤ sizeLine; decide, fun g hg => ?_⟩
      have s5 : SameP p H H4 := ((s2.trans s3).trans (SameP.of so)).trans s4
      have hg0 : H g = none := s5.free G4 hg
      refine ⟨_, rfl, (many : Int), rfl, by omega, by omega, ?_⟩
      refine for_range (lo := 0) (n := (many : Int).toNat) (fun i σ H' => ∃ y3 y8, σ = [some (.ref p), some (.int (many : Int)), some (.str abc), y3, some (.str front), some (.int (f2 : Int)), some (.int (st : Int)), some (.ref g), y8] ∧
        H' g = some (.lst ((wNames front f2 st i).map V.str)) ∧ SameP p H H' ∧ PenAt H' p c (n + 9)) ⟨_, _, rfl, upd_same, s5.trans (SameP.new hg), (G4.same (same_new hg)).mono (by omega)⟩ (fun i σ H5 hi hp => ?_) (fun σ H5 hp => ?_)
      · obtain ⟨y3, y8, rfl, eg, s6, G6⟩ := hp
        have hib : i < 52 := by omega
        refine ⟨_, rfl, _, rfl, _, rfl, _, _, rfl, rfl, cmul_l (by omega) (by omega), _, _, rfl, rfl, _, _, rfl, rfl, (by show (0 : Int) < 26; decide), ?_⟩
        refine ⟨_, rfl, .inl ⟨rfl, _, .inl (.inl eg)⟩, _, rfl, _, rfl, _, rfl, abc, _, 97 + (f2 + st * i) % 26, rfl, rfl, (by rw [abc_len]; decide), ?_, _, _, rfl, rfl, ?_, ?_⟩
        · rw [place_nat]
          exact atI_nat (abc_at (Nat.mod_lt _ (by decide)))
        · show front.length + 1 ≤ sizeLine
          exact Evl.sz_of (by omega)
        refine ⟨_, rfl, _, rfl, _, _, rfl, rfl, (by show (0 : Int) < 26; decide), abc, _, 97 + i % 26, rfl, rfl, (by rw [abc_len]; decide), ?_, _, rfl, _, _, rfl, rfl, .inr ⟨_, rfl, ?_⟩⟩
        · rw [show ((0 : Int) + (i : Int)) % 26 = ((i % 26 : Nat) : Int) by omega]
          exact atI_nat (abc_at (Nat.mod_lt _ (by decide)))
        refine ⟨sign (97 + i % 26), _, rfl, rfl, (by show 1 ≤ 1000; decide), (by split <;> decide), (by split <;> decide), _, _, rfl, rfl, ?_, ?_⟩
        · rw [mul_sign, Str.length_append]
          have h1 : (if decide ((25 : Int) < 0 + (i : Int)) = true then sign (97 + i % 26) else Str.empty).length ≤ 1 := by
            split
            · exact Nat.le_refl 1
            · exact Nat.zero_le 1
          show front.length + 1 + _ ≤ sizeLine
          exact Evl.sz_of (by omega)
        · refine ⟨g, _, _, rfl, rfl, eg, Evl.sz_lt (by rw [List.length_map, wNames, List.length_map, List.length_range]; omega), some (.int ((0 : Int) + (i : Int))), _, rfl, ?_, ?_, G6.upd ?_ ?_⟩
          · rw [upd_same, mul_sign]
            congr 2
            rw [wNames, wNames, List.range_succ, List.map_append, List.map_append]
            congr 1
            show [V.str _] = [V.str _]
            congr 2
            unfold wName sign
            congr 1
            by_cases z : 25 < i
            · rw [if_pos (decide_eq_true (by omega)), if_pos z]
            · rw [if_neg (by rw [decide_eq_false (by omega)]; decide), if_neg z]
          · intro b o nb e
            rw [upd_ne (ne_of_none e hg0)]
            exact s6 b o nb e
          · exact G.apart' hg0
          · exact G.apart hg0
      · obtain ⟨y3, y8, rfl, eg, s6, G6⟩ := hp
        rw [show (many : Int).toNat = many from rfl] at eg
        have nm : Names (wNames front f2 st many) := ⟨fun x hx => by
          obtain ⟨k, _, rfl⟩ := List.mem_map.mp hx
          exact wName_ok f6 fok f2 st k, wNames_nodup hst hm⟩
        have ln : (wNames front f2 st many).length = many := by rw [wNames, List.length_map, List.length_range]
        refine ⟨_, rfl, _, rfl, p, c, g, _, _, rfl, G6, by omega, .lst (.inl (.inl eg)), by rw [List.length_map, ln]; omega, fun l ys H6 pm hl0 el s7 G7 => ?_⟩
        · obtain ⟨zs, rfl, pz⟩ := perm_strs pm
          rw [List.length_map, ln] at G7
          have one : many ≤ 26 → ∀ x ∈ wNames front f2 st many, x.length = front.length + 1 := fun hm26 x hx => by
            obtain ⟨k, hk, rfl⟩ := List.mem_map.mp hx
            have := List.mem_range.mp hk
            rw [str_len, wName_codes, if_neg (by omega), List.append_nil, List.length_append, ← str_len]
            rfl
          refine q l zs H6 (nm.perm pz) (by rw [pz.length_eq, ln]) (s6.free G6 hl0) el (s6.trans s7) (G7.mono (by omega)) fun hm26 x hx y hy => ?_
          rw [one hm26 x (pz.subset hx), one hm26 y (pz.subset hy)]
theorem ok_wag {f fD fP fS : Addr} {fd dD dP dS : FuncData} (F : Fun K "_law_wagons" "_law_wagons" sWag f fd) (T : Draws P w K mg base fD fP fS dD dP dS) (mr : mg "range" = none) (mi : mg "int" = none) :
    FnOk P w K mg base CX0 3 f fd ["pen", "many"] (spWag K) :=
  (ok_wagL F T mr mi).imp fun vs H Q E ⟨p, c, n, many, e, G, h1, h2, q⟩ => ⟨p, c, n, many, e, G, h1, h2, fun l xs H' a1 a2 a3 a4 a5 a6 _ => q l xs H' a1 a2 a3 a4 a5 a6⟩
end
end My
set_option Elab.async false
set_option linter.all false
set_option maxRecDepth 100000
set_option maxHeartbeats 4000000
namespace My
open PySem PySem.Spec PyProof.Rows L2

/-! ### data that never changes: None, bools, ints, texts, tuples of such -/
mutual
inductive Dt (K : PySem.W.Frag) (H : Hp) : V → PyData → Prop
  | non : Dt K H .non .none
  | bl (b : Bool) : Dt K H (.bl b) (.bool b)
  | int (i : Int) : Dt K H (.int i) (.int i)
  | str (x : Str) : Dt K H (.str x) (.str x)
  | tup {a : Addr} {xs : List V} {ds : List PyData} : SqT K H a xs → DtAll K H xs ds → Dt K H (.ref a) (.tuple ds)
inductive DtAll (K : PySem.W.Frag) (H : Hp) : List V → List PyData → Prop
  | nil : DtAll K H [] []
  | cons {v : V} {vs : List V} {d : PyData} {ds : List PyData} : Dt K H v d → DtAll K H vs ds → DtAll K H (v :: vs) (d :: ds)
end
/-- tuples that were read are read so again -/
def KeepsT (K : PySem.W.Frag) (H H' : Hp) : Prop := ∀ a xs, SqT K H a xs → SqT K H' a xs
section
variable {K : PySem.W.Frag} {H H' H2 : Hp}
mutual
theorem dt_keep (s : KeepsT K H H') : ∀ {d : PyData} {v : V}, Dt K H v d → Dt K H' v d
  | .none, _, h => by cases h; exact .non
  | .bool _, _, h => by cases h; exact .bl _
  | .int _, _, h => by cases h; exact .int _
  | .str _, _, h => by cases h; exact .str _
  | .tuple ds, _, h => by
    cases h with
    | tup a b => exact .tup (s _ _ a) (dt_keepAll s b)
  | .list _, _, h => by cases h
  | .dict _, _, h => by cases h
theorem dt_keepAll (s : KeepsT K H H') : ∀ {ds : List PyData} {vs : List V}, DtAll K H vs ds → DtAll K H' vs ds
  | [], _, h => by cases h; exact .nil
  | d :: ds, _, h => by
    cases h with
    | cons a b => exact .cons (dt_keep s a) (dt_keepAll s b)
end
mutual
theorem dt_dp : ∀ {d : PyData} {v : V}, Dt K H v d → Dp K H v d
  | .none, _, h => by cases h; exact .non
  | .bool _, _, h => by cases h; exact .bl _
  | .int _, _, h => by cases h; exact .int _
  | .str _, _, h => by cases h; exact .str _
  | .tuple ds, _, h => by
    cases h with
    | tup a b => exact .tup a (dt_dpAll b)
  | .list _, _, h => by cases h
  | .dict _, _, h => by cases h
theorem dt_dpAll : ∀ {ds : List PyData} {vs : List V}, DtAll K H vs ds → DpAll K H vs ds
  | [], _, h => by cases h; exact .nil
  | d :: ds, _, h => by
    cases h with
    | cons a b => exact .cons (dt_dp a) (dt_dpAll b)
end
theorem KeepsT.refl : KeepsT K H H := fun _ _ h => h
theorem KeepsT.trans (a : KeepsT K H H') (b : KeepsT K H' H2) : KeepsT K H H2 := fun _ _ h => b _ _ (a _ _ h)
theorem _root_.L2.Same.keepsT (s : Same H H') : KeepsT K H H' := s.keeps.t
theorem SameP.keepsT {p c : Addr} {n : Nat} (s : SameP p H H') (G : PenAt H p c n) : KeepsT K H H' := (s.keeps G).t
/-- a change at a place where no tuple stands -/
theorem KeepsT.at {a : Addr} {o : HO} (h : ∀ xs, H a ≠ some (.tup xs)) (h' : ∀ ob u, H a ≠ some (.frz ob u)) : KeepsT K H (upd H a o) := fun b xs e => by
  rcases e with (e | ⟨ob, e⟩) | e
  · exact .inl (.inl ((upd_ne (fun z : b = a => h xs (z ▸ e))).trans e))
  · exact .inl (.inr ⟨ob, (upd_ne (fun z : b = a => h' _ _ (z ▸ e))).trans e⟩)
  · exact .inr e
theorem KeepsT.lst {a : Addr} {xs : List V} {o : HO} (h : H a = some (.lst xs)) : KeepsT K H (upd H a o) := .at (fun _ z => by rw [h] at z; cases z) (fun _ _ z => by rw [h] at z; cases z)
theorem KeepsT.new {a : Addr} {o : HO} (h : H a = none) : KeepsT K H (upd H a o) := (same_new h).keepsT
theorem DtAll.append : ∀ {xs ys : List V} {ds es : List PyData}, DtAll K H xs ds → DtAll K H ys es → DtAll K H (xs ++ ys) (ds ++ es)
  | _, _, _, _, .nil, h => h
  | _, _, _, _, .cons a b, h => .cons a (b.append h)
theorem DtAll.length : ∀ {xs : List V} {ds : List PyData}, DtAll K H xs ds → xs.length = ds.length
  | _, _, .nil => rfl
  | _, _, .cons _ b => congrArg (· + 1) b.length
theorem DtAll.at : ∀ {xs : List V} {ds : List PyData} {i : Nat} {v : V}, DtAll K H xs ds → xs[i]? = some v → ∃ d, ds[i]? = some d ∧ Dt K H v d
  | _, _, 0, _, .cons a _, h => by
    cases h
    exact ⟨_, rfl, a⟩
  | _, _, i + 1, _, .cons _ b, h => b.at (i := i) h
theorem DtAll.two {x y : V} {d e : PyData} (a : Dt K H x d) (b : Dt K H y e) : DtAll K H [x, y] [d, e] := .cons a (.cons b .nil)
end

/-! ### rows -/
def dwD (r : Str × Int) : PyData := .tuple [.str r.1, .int r.2]
def rowD (r : List (Str × Int)) : PyData := .tuple (r.map dwD)
def Dirs (r : List (Str × Int)) : Prop := ∀ x ∈ r, x.2 = 1 ∨ x.2 = -1

end My
set_option Elab.async false
set_option linter.all false
set_option maxRecDepth 100000
set_option maxHeartbeats 4000000
/-! Values of any kind: None, bools, ints, texts, tuples, lists, dicts (keys ints and texts), nested; none of them is the pen at p. -/
namespace My
open PySem PySem.Spec PyProof.Rows L2

def keyD : Key → PyData
  | .inl i => .int i
  | .inr x => .str x
mutual
inductive Da (K : PySem.W.Frag) (p : Addr) (H : Hp) : V → PyData → Prop
  | non : Da K p H .non .none
  | bl (b : Bool) : Da K p H (.bl b) (.bool b)
  | int (i : Int) : Da K p H (.int i) (.int i)
  | str (x : Str) : Da K p H (.str x) (.str x)
  | lst {a : Addr} {xs : List V} {ds : List PyData} : a ≠ sysModules → SqL K H a xs → DaAll K p H xs ds → Da K p H (.ref a) (.list ds)
  | tup {a : Addr} {xs : List V} {ds : List PyData} : SqT K H a xs → DaAll K p H xs ds → Da K p H (.ref a) (.tuple ds)
  | dct {a : Addr} {kvs : List (Key × V)} {es : List (PyData × PyData)} : a ≠ p → H a = some (.dK kvs) → DaKv K p H kvs es → Da K p H (.ref a) (.dict es)
inductive DaAll (K : PySem.W.Frag) (p : Addr) (H : Hp) : List V → List PyData → Prop
  | nil : DaAll K p H [] []
  | cons {v : V} {vs : List V} {d : PyData} {ds : List PyData} : Da K p H v d → DaAll K p H vs ds → DaAll K p H (v :: vs) (d :: ds)
inductive DaKv (K : PySem.W.Frag) (p : Addr) (H : Hp) : List (Key × V) → List (PyData × PyData) → Prop
  | nil : DaKv K p H [] []
  | cons {k : Key} {v : V} {r : List (Key × V)} {d : PyData} {es : List (PyData × PyData)} : Da K p H v d → DaKv K p H r es → DaKv K p H ((k, v) :: r) ((keyD k, d) :: es)
end
section
variable {K : PySem.W.Frag} {p c : Addr} {n : Nat} {H H' H2 : Hp}
/-- what is read of lists, tuples, dicts (but p) stays -/
structure KeepA (K : PySem.W.Frag) (p : Addr) (H H' : Hp) : Prop where
  l : ∀ a xs, SqL K H a xs → SqL K H' a xs
  t : ∀ a xs, SqT K H a xs → SqT K H' a xs
  d : ∀ a kvs, a ≠ p → H a = some (.dK kvs) → H' a = some (.dK kvs)
theorem KeepA.refl : KeepA K p H H := ⟨fun _ _ h => h, fun _ _ h => h, fun _ _ _ h => h⟩
theorem KeepA.trans (a : KeepA K p H H') (b : KeepA K p H' H2) : KeepA K p H H2 := ⟨fun _ _ h => b.l _ _ (a.l _ _ h), fun _ _ h => b.t _ _ (a.t _ _ h), fun _ _ n h => b.d _ _ n (a.d _ _ n h)⟩
theorem _root_.L2.Same.keepA (s : Same H H') : KeepA K p H H' := ⟨s.keeps.l, s.keeps.t, fun _ _ _ e => s _ _ e⟩
theorem SameP.keepA (s : SameP p H H') (G : PenAt H p c n) : KeepA K p H H' := ⟨(s.keeps G).l, (s.keeps G).t, fun _ _ ne e => s _ _ ne e⟩
mutual
theorem da_keep (s : KeepA K p H H') : ∀ {d : PyData} {v : V}, Da K p H v d → Da K p H' v d
  | .none, _, h => by cases h; exact .non
  | .bool _, _, h => by cases h; exact .bl _
  | .int _, _, h => by cases h; exact .int _
  | .str _, _, h => by cases h; exact .str _
  | .tuple ds, _, h => by
    cases h with
    | tup a b => exact .tup (s.t _ _ a) (da_keepAll s b)
  | .list _, _, h => by
    cases h with
    | lst a b c => exact .lst a (s.l _ _ b) (da_keepAll s c)
  | .dict es, _, h => by
    cases h with
    | dct a b c => exact .dct a (s.d _ _ a b) (da_keepKv s c)
theorem da_keepAll (s : KeepA K p H H') : ∀ {ds : List PyData} {vs : List V}, DaAll K p H vs ds → DaAll K p H' vs ds
  | [], _, h => by cases h; exact .nil
  | d :: ds, _, h => by
    cases h with
    | cons a b => exact .cons (da_keep s a) (da_keepAll s b)
theorem da_keepKv (s : KeepA K p H H') : ∀ {es : List (PyData × PyData)} {kvs : List (Key × V)}, DaKv K p H kvs es → DaKv K p H' kvs es
  | [], _, h => by cases h; exact .nil
  | (k, d) :: es, _, h => by
    cases h with
    | cons a b => exact .cons (da_keep s a) (da_keepKv s b)
end
mutual
theorem dt_da : ∀ {d : PyData} {v : V}, Dt K H v d → Da K p H v d
  | .none, _, h => by cases h; exact .non
  | .bool _, _, h => by cases h; exact .bl _
  | .int _, _, h => by cases h; exact .int _
  | .str _, _, h => by cases h; exact .str _
  | .tuple ds, _, h => by
    cases h with
    | tup a b => exact .tup a (dt_daAll b)
  | .list _, _, h => by cases h
  | .dict _, _, h => by cases h
theorem dt_daAll : ∀ {ds : List PyData} {vs : List V}, DtAll K H vs ds → DaAll K p H vs ds
  | [], _, h => by cases h; exact .nil
  | d :: ds, _, h => by
    cases h with
    | cons a b => exact .cons (dt_da a) (dt_daAll b)
end
theorem DaAll.append : ∀ {xs ys : List V} {ds es : List PyData}, DaAll K p H xs ds → DaAll K p H ys es → DaAll K p H (xs ++ ys) (ds ++ es)
  | _, _, _, _, .nil, h => h
  | _, _, _, _, .cons a b, h => .cons a (b.append h)
theorem DaAll.length : ∀ {xs : List V} {ds : List PyData}, DaAll K p H xs ds → xs.length = ds.length
  | _, _, .nil => rfl
  | _, _, .cons _ b => congrArg (· + 1) b.length
theorem DaAll.at : ∀ {xs : List V} {ds : List PyData} {i : Nat} {v : V}, DaAll K p H xs ds → xs[i]? = some v → ∃ d, ds[i]? = some d ∧ Da K p H v d
  | _, _, 0, _, .cons a _, h => by
    cases h
    exact ⟨_, rfl, a⟩
  | _, _, i + 1, _, .cons _ b, h => b.at (i := i) h
theorem DaAll.take : ∀ {xs : List V} {ds : List PyData} (i : Nat), DaAll K p H xs ds → DaAll K p H (xs.take i) (ds.take i)
  | _, _, 0, _ => .nil
  | _, _, _ + 1, .nil => .nil
  | _, _, i + 1, .cons a b => .cons a (b.take i)
theorem DaAll.drop : ∀ {xs : List V} {ds : List PyData} (i : Nat), DaAll K p H xs ds → DaAll K p H (xs.drop i) (ds.drop i)
  | _, _, 0, h => h
  | _, _, _ + 1, .nil => .nil
  | _, _, i + 1, .cons _ b => b.drop i
theorem DaAll.reverse : ∀ {xs : List V} {ds : List PyData}, DaAll K p H xs ds → DaAll K p H xs.reverse ds.reverse
  | _, _, .nil => .nil
  | _, _, .cons a b => by
    rw [List.reverse_cons, List.reverse_cons]
    exact b.reverse.append (.cons a .nil)
end

/-! ### its repr -/
section
variable {X : Cx} {pins : List (Addr × Obj)} {σ : L2.St} {H : Hp} {s : Shared} {p : Addr}
theorem keys_read {P : Program} {w : World} {h : Heap} : ∀ {vs : List (Key × Value)} {es : List DictEntry}, Pairs (mixKind P w) es vs → ReadsAll h (es.map (·.key)) (vs.map fun kv => keyD kv.1) []
  | _, _, .nil => .nil
  | _, _, .cons (e := e) (kv := kv) h1 h2 r => by
    have ih := keys_read (h := h) r
    rcases keyIs_shape (k := kv.1) (v := e.key) h1 with ⟨i, t, e1, e2⟩ | ⟨x, t, e1, e2⟩
    · rw [List.map_cons, List.map_cons, e1, e2]
      exact ReadsAll.cons (.int i t) ih
    · rw [List.map_cons, List.map_cons, e1, e2]
      exact ReadsAll.cons (.str x t) ih
theorem vals_read {P : Program} {w : World} : ∀ {vs : List (Key × Value)} {es : List DictEntry}, Pairs (mixKind P w) es vs → es.map (·.val) = vs.map (·.2)
  | _, _, .nil => rfl
  | _, _, .cons h1 h2 r => by rw [List.map_cons, List.map_cons, h2, vals_read r]
mutual
theorem da_reads (I : Inv X pins σ H s) : ∀ (d : PyData) (v : V) (u : Value), Da X.K p H v d → RelV v u → ∃ as, Reads s.heap u d as ∧ sysModules ∉ as
  | .none, _, _, h, r => by
    cases h
    cases r
    exact ⟨_, .none, List.not_mem_nil⟩
  | .bool b, _, _, h, r => by
    cases h
    cases r
    exact ⟨_, .bool b, List.not_mem_nil⟩
  | .int i, _, _, h, r => by
    cases h
    obtain ⟨t, rfl⟩ := r
    exact ⟨_, .int i t, List.not_mem_nil⟩
  | .str x, _, _, h, r => by
    cases h
    obtain ⟨t, rfl⟩ := r
    exact ⟨_, .str x t, List.not_mem_nil⟩
  | .list ds, _, _, h, r => by
    cases h with
    | lst hne hs ha =>
      cases r
      obtain ⟨its, rv, ⟨o, n, ho, hc, _, hd⟩, _⟩ := I.list hs
      obtain ⟨as, hr, ns⟩ := da_readsAll I ds _ its ha rv
      exact ⟨_, .list ho hc hd hr, fun z => (List.mem_cons.mp z).elim (fun e => hne e.symm) ns⟩
  | .tuple ds, _, _, h, r => by
    cases h with
    | tup hs ha =>
      cases r
      obtain ⟨its, rv, ⟨o, ho, hc, n, hd⟩, _⟩ := I.tuple hs
      obtain ⟨as, hr, ns⟩ := da_readsAll I ds _ its ha rv
      exact ⟨_, .tuple ho hc hd hr, ns⟩
  | .dict es, _, _, h, r => by
    cases h with
    | @dct a kvs _ hn ho hv =>
      cases r
      obtain ⟨_, ns, vs, kv, o, ents, ep, h1, h2, h3, _, h5, _⟩ := dk_of I.hok ho
      obtain ⟨as, hr, nsr, ek⟩ := da_readsKv I es _ vs hv kv
      have r1 := keys_read (h := s.heap) h5
      rw [ek] at r1
      refine ⟨_, .dict h1 h2.1 h3 r1 (by rw [vals_read h5]; exact hr), fun z => ?_⟩
      rcases List.mem_cons.mp (by simpa using z) with e | e
      · rw [← e] at ns
        simp at ns
      · exact nsr e
theorem da_readsAll (I : Inv X pins σ H s) : ∀ (ds : List PyData) (vs : List V) (us : List Value), DaAll X.K p H vs ds → Vals vs us → ∃ as, ReadsAll s.heap us ds as ∧ sysModules ∉ as
  | [], _, _, h, r => by
    cases h
    cases r
    exact ⟨_, .nil, List.not_mem_nil⟩
  | d :: ds, _, _, h, r => by
    cases h with
    | cons h1 h2 =>
      cases r with
      | cons r1 r2 =>
        obtain ⟨as, q1, n1⟩ := da_reads I d _ _ h1 r1
        obtain ⟨bs, q2, n2⟩ := da_readsAll I ds _ _ h2 r2
        exact ⟨_, .cons q1 q2, fun z => (List.mem_append.mp z).elim n1 n2⟩
theorem da_readsKv (I : Inv X pins σ H s) : ∀ (es : List (PyData × PyData)) (kvs : List (Key × V)) (vs : List (Key × Value)), DaKv X.K p H kvs es → KV kvs vs →
    ∃ as, ReadsAll s.heap (vs.map (·.2)) (es.map (·.2)) as ∧ sysModules ∉ as ∧ (vs.map fun kv => keyD kv.1) = es.map (·.1)
  | [], _, _, h, r => by
    cases h
    cases r
    exact ⟨_, .nil, List.not_mem_nil, rfl⟩
  | (k, d) :: es, _, _, h, r => by
    cases h with
    | cons h1 h2 =>
      cases r with
      | cons r1 r2 =>
        obtain ⟨as, q1, n1⟩ := da_reads I d _ _ h1 r1.2
        obtain ⟨bs, q2, n2, e⟩ := da_readsKv I es _ _ h2 r2
        refine ⟨_, .cons q1 q2, fun z => (List.mem_append.mp z).elim n1 n2, ?_⟩
        rw [List.map_cons, List.map_cons, e, ← r1.1]
end
end
section
variable {X : Cx}
def rReprA (K : PySem.W.Frag) : List V → Hp → VK → Prop := fun xs H Q => ∃ p v d, xs = [v] ∧ Da K p H v d ∧ d.showable = true ∧ d.depth ≤ 60 ∧ d.shown.length ≤ sizeLine ∧ Q (.str d.shown) H
theorem call_reprA (hg : Still X.A) (hu : X.A.units + 64 < cLine) : CallR X (.builtin "repr") (rReprA X.K) := by
  intro pins s σ H xs us Q I r h
  obtain ⟨p, v, d, rfl, hd, hs, hdp, hz, q⟩ := h
  obtain ⟨u, rfl, rv⟩ := vals1 r
  obtain ⟨as, rd, nsys⟩ := da_reads I d v u hd rv
  have fin : ∀ (h' : Heap) (t tk : Tok), (∀ b o, s.heap.get? b = some o → h'.get? b = some o) → EP X pins σ Q (.str d.shown t) { s with heap := h', toks := tk } :=
    fun h' t tk k => ⟨.str d.shown, H, inv_more I k, ⟨t, rfl⟩, q⟩
  cases hd with
  | non =>
    cases rv
    exact PySem.P.repr_of_none (by simpa only [PyData.shown] using fin s.heap _ _ fun _ _ e => e)
  | bl b =>
    cases rv
    exact PySem.P.repr_of_bool (by simpa only [PyData.shown] using fin s.heap _ _ fun _ _ e => e)
  | int i =>
    obtain ⟨t, rfl⟩ := rv
    exact PySem.P.repr_of_int (by simpa [PyData.showable] using hs) (by simpa only [PyData.shown] using fin s.heap _ _ fun _ _ e => e)
  | str x =>
    obtain ⟨t, rfl⟩ := rv
    exact PySem.P.repr_of_str (by simpa only [PyData.shown] using fin s.heap _ _ fun _ _ e => e) (by simpa only [PyData.shown] using hz)
  | lst _ _ _ =>
    cases rv
    exact PySem.repr_of_reads' rd hs (fun _ => nsys) hg (by omega) (fun _ _ e => e) (fun h' u tk k => fin h' u tk k) hz
  | tup _ _ =>
    cases rv
    exact PySem.repr_of_reads' rd hs (fun _ => nsys) hg (by omega) (fun _ _ e => e) (fun h' u tk k => fin h' u tk k) hz
  | dct _ _ _ =>
    cases rv
    exact PySem.repr_of_reads' rd hs (fun _ => nsys) hg (by omega) (fun _ _ e => e) (fun h' u tk k => fin h' u tk k) hz
end
/-! ### new lists: not at sys.modules -/
section
variable {X : Cx}
def tLstN (t : TA) : TE := fun σ H Q => t σ H fun xs H1 => xs.length ≤ sizeLine ∧ ∀ p, H1 p = none → p ≠ sysModules → Q (.ref p) (upd H1 p (.lst xs))
theorem pe_lstN {es : List Expr} {pos : Pos} {t : TA} (ha : PA X es t) : PE X (.List es pos) (tLstN t) := by
  constructor
  intro pins s0 σ H Q I q0
  refine wpAny_List_spliced (thn (ha.run pos pins s0 σ H _ I q0) fun us s1 ⟨ys, H2, I2, rv, zz, q1⟩ => ⟨by have := rv.length; omega, ?_⟩)
  have fresh := I2.hok.fresh (Nat.le_refl s1.heap.objs.size)
  have nsys : s1.heap.objs.size ≠ sysModules := Nat.ne_of_gt I2.big
  exact ⟨.ref s1.heap.objs.size, upd H2 s1.heap.objs.size (.lst ys), I2.laid (t' := s1.toks) (fun _ _ e => Heap.get?_push_of_some _ e) (Nat.le_refl _) ⟨zz, us, 0, rv, Heap.get?_push_size _ rfl⟩, rfl, q1 _ fresh nsys⟩
/-- list(t) of a tuple -/
theorem call_listN : CallR X (.type "list") (fun xs H Q => ∃ p ys, xs = [.ref p] ∧ SqT X.K H p ys ∧ ∀ l, H l = none → l ≠ sysModules → Q (.ref l) (upd H l (.lst ys))) := by
  intro pins s σ H xs us Q I rv ⟨p, ys, ex, ht, q⟩
  subst ex
  obtain ⟨u, rfl, r1⟩ := vals1 rv
  cases r1
  obtain ⟨its, rr, ⟨o, ho, hc, n, hd⟩, hz⟩ := I.tuple ht
  have ll := rr.length
  refine call_list_seq p (.inr rfl) ho hc hd (fun h' c' kp e => ?_) (by simp only [List.size_toArray]; omega)
  exact ⟨.ref s.heap.objs.size, _, I.laid (t' := s.toks) kp (Nat.le_refl _) (show ObjOk X.prog X.w _ h' _ (.lst ys) from ⟨hz, its, c', rr, e⟩), rfl, q _ (I.hok.fresh (Nat.le_refl _)) (Nat.ne_of_gt I.big)⟩
end
end My
set_option Elab.async false
set_option linter.all false
set_option maxRecDepth 100000
set_option maxHeartbeats 4000000
namespace My
open PySem PySem.Spec PyProof.Rows L2
/-- a callee's promise and its name -/
structure Has (P : Program) (w : World) (K : PySem.W.Frag) (mg : Str → Option Value) (base : Heap) (k : Nat) (x : Str) (ps : List Str) (sp : Sp) (f : Addr) (fd : FuncData) : Prop where
  o : FnOk P w K mg base CX0 k f fd ps sp
  g : mg x = some (.ref f)
  k : PySem.W.keepIn K (.ref f) = true
  b : Binds K fd ps []
/-- what is not reached -/
theorem ps_no {X : Cx} {st : Stmt} : PS X st (fun _ _ _ => False) := ⟨fun _ _ _ _ _ _ h => h.elim⟩
section
variable {X : Cx} {k : Nat} {x : Str} {ps : List Str} {sp : Sp} {f : Addr} {fd : FuncData}
/-- the call of such a def by its name -/
theorem pe_has {e : Expr} {es : List Expr} {t : TA} {p pos : Pos} (G : Has X.prog X.w X.K X.mg X.base k x ps sp f fd) (hr : Room k X.A) (hg : Gl X x) (ha : PA X (e :: es) t) (nd : (x == ("__debug__" : Str)) = false := by decide)
    (he : starEach (e :: es) X.env = (false, eval e X.env) :: starEach es X.env := by rfl) (hp : (backTo pos (starEach es X.env)).any (·.1) = false := by rfl) : PE X (.Call (.Name x p) (e :: es) [] pos) (tCall sp [] E0 t) :=
  pe_call G.o hr hg G.g G.k G.b .nil pass0 ha nd he hp
end
end My
set_option Elab.async false
set_option linter.all false
set_option maxRecDepth 100000
set_option maxHeartbeats 4000000
/-! _law_refused of k60: what a call that may raise InvalidNumber makes of it -/
namespace My
open PySem PySem.Spec PyProof.Rows L2 LamX
/-- the classes of errors that the law asks about -/
structure RefN (K : PySem.W.Frag) (mg : Str → Option Value) (CN CR CW CP CO : Addr) : Prop where
  gN : mg "InvalidNumber" = some (.ref CN)
  gR : mg "InvalidRow" = some (.ref CR)
  gW : mg "OtherWagons" = some (.ref CW)
  gP : mg "PrimeStretch" = some (.ref CP)
  gO : mg "InvalidOrder" = some (.ref CO)
  gV : mg "ValueError" = none
  gL : mg "LookupError" = none
  xN : XC K CN
  fN : XfC K CN
  nN : PySem.W.findIn K (.ref CN) "value" = some none
  eN : PySem.W.exmAny K (.ref CN) [.ref CR, .ref CN, .ref CW, .ref CP] = some true
  np : PySem.W.kitOne K (.ref CN) (.ref CP) = some false
  nv : PySem.W.kitOne K (.ref CN) (.type "ValueError") = some true
  no : PySem.W.kitAny K (.ref CN) [.ref CO, .type "LookupError"] = some false
  nw : PySem.W.kitOne K (.ref CN) (.ref CW) = some false
  nr : PySem.W.kitOne K (.ref CN) (.ref CR) = some false
/-- a value that is shown: its data -/
structure Shw (K : PySem.W.Frag) (H : Hp) (v : V) (dt : PyData) : Prop where
  da : ∃ p, Da K p H v dt
  sh : dt.showable = true
  dp : dt.depth ≤ 60
  sz : dt.shown.length ≤ sizeLine
theorem Shw.keep {K : PySem.W.Frag} {H H' : Hp} {v : V} {dt : PyData} (h : Shw K H v dt) (s : Same H H') : Shw K H' v dt := ⟨let ⟨p, q⟩ := h.da; ⟨p, da_keep s.keepA q⟩, h.sh, h.dp, h.sz⟩
/-- the refusal that is told of an error -/
def RefE (K : PySem.W.Frag) (CN : Addr) (Q : VK) : XK := fun cls d H => ∃ dd v dt, cls = .ref CN ∧ d = some dd ∧ H dd = some (.xd [("value", v)]) ∧ Shw K H v dt ∧ ∀ t H', Same H H' → H' t = some (.tup [.str "number", .str dt.shown]) → Q (.ref t) H'
def TTRef (K : PySem.W.Frag) (CN : Addr) : (XK → Hp → VK → Prop) → Hp → VK → Prop := fun tl H Q => ∀ Q' : VK, (∀ v H', Q .non H' → Q' v H') → tl (RefE K CN Q) H Q'
theorem boot_ve : bootBuiltins "ValueError" = some (.type "ValueError") := by decide +kernel
theorem boot_le : bootBuiltins "LookupError" = some (.type "LookupError") := by decide +kernel
theorem refd_gives {X : Cx} {g CN CR CW CP CO : Addr} {cdg : Value} {q : Str} (R : RefN X.K X.mg CN CR CW CP CO) (mi : X.mg "isinstance" = none) (mr : X.mg "repr" = none) (st : Still X.A) (hr : Room 1 X.A) :
    GivesTo X ["call", "kept", "e", "plain"] "_law_refused" (defScope sRefd) g cdg (defBody sRefd) "call" q (TTRef X.K CN) := by
  intro f c' s H Q tl act hc h
  refine ⟨_, pss_cons (ps_set (i := 1) scRefd.nd rfl (.inl rfl) pe_non)
    (pss_cons (ps_try_kept (X := (cxOf C8.CX0 X.prog X.w X.K X.mg X.base ["call", "kept", "e", "plain"] "_law_refused" (defScope sRefd) g cdg X.A X.stack s H C8.E0).nox)
        (tb := fun W D σ H => ∃ Ech : XK, (∀ cls d σ' H', Ech cls d H' → W cls d σ' H') ∧ σ[0]? = some (some (.ref f)) ∧ H c' = some (CodeO c' q) ∧ tl Ech H (fun _ H' => D.nx σ H'))
        rfl rfl rfl rfl scRefd.nd L2.takes0 (fun W pn xe tk _ => ?_)
        (.cons (i := 2) (tst4 ⟨by rfl, by decide, .inl R.gR⟩ ⟨by rfl, by decide, .inl R.gN⟩ ⟨by rfl, by decide, .inl R.gW⟩ ⟨by rfl, by decide, .inl R.gP⟩) rfl rfl (fun a oe cls d pn hz hf => pss_one (ps_set (i := 1) scRefd.nd rfl (.inl rfl) (pv 2))) .nil))
    (pss_cons (ps_if (pt_cmpR op_isN (pv 1) pe_non (nomark _)) (pss_one (ps_ret pe_non)) pss_nil)
    (pss_cons (ps_if (pt_val (pe_callB call_isX (by rfl) mi boot_isinstance (pa_cons (pv 1) (pa_cons (pe_glob (v := .ref CP) (by rfl) R.gP rfl) pa_nil)))) (pss_cons ps_no (pss_one ps_no)) pss_nil)
    (pss_cons (ps_if (PW.pt (pw_or (pt_not (pt_val (pe_callB call_isX (by rfl) mi boot_isinstance (pa_cons (pv 1) (pa_cons (pe_bltn (v := .ty "ValueError") (by rfl) R.gV boot_ve rfl) pa_nil)))))
        (pw_or1 (pt_val (pe_callB call_isXT (by rfl) mi boot_isinstance (pa_cons (pv 1) (pa_cons (pe_tup (pa_cons (pe_glob (v := .ref CO) (by rfl) R.gO rfl) (pa_cons (pe_bltn (v := .ty "LookupError") (by rfl) R.gL boot_le rfl) pa_nil))) pa_nil))))))) (pss_one (ps_ret (pe_tup (pa_cons pe_str pa_nil)))) pss_nil)
    (pss_cons (ps_if (pt_val (pe_callB call_isX (by rfl) mi boot_isinstance (pa_cons (pv 1) (pa_cons (pe_glob (v := .ref CW) (by rfl) R.gW rfl) pa_nil)))) (pss_one ps_no) pss_nil)
    (pss_cons (ps_if (pt_val (pe_callB call_isX (by rfl) mi boot_isinstance (pa_cons (pv 1) (pa_cons (pe_glob (v := .ref CR) (by rfl) R.gR rfl) pa_nil)))) (pss_one ps_no) pss_nil)
    (pss_one (ps_ret (pe_tup (pa_cons pe_str (pa_cons (pe_callB (call_reprA (st.deeper _) (hr.deeper _).units) (by rfl) mr boot_repr (pa_cons (pe_xk (pv 1)) pa_nil)) pa_nil))))))))))), ?_⟩
  · refine ⟨fun pins s' σ H' D I h' => ?_⟩
    obtain ⟨Ech, hW, h1, h2, h3⟩ := h'
    exact (pss_one (ps_expr (act W pn xe Ech _ _ tk hW))).run pins s' σ H' D I ⟨h1, h2, h3⟩
  · refine ⟨RefE X.K CN Q, fun cls d σ' H' hE hl => ?_, rfl, hc, h _ fun v H' q => ⟨_, rfl, rfl, _, rfl, iteT q⟩⟩
    match σ', hl with
    | [x0, x1, x2, x3], _ =>
      obtain ⟨dd, v, dt, rfl, rfl, ed, sv, k⟩ := hE
      refine ⟨true, R.eN, fun _ a na => ⟨_, rfl, ?_⟩, fun z => nomatch z⟩
      have s1 := same_new (o := XO (.ref CN) (some dd) a) na
      have e1 : (upd H' a (XO (.ref CN) (some dd) a)) a = _ := upd_same
      show _
      refine ⟨_, rfl, rfl, _, rfl, iteF ?_⟩
      generalize upd H' a (XO (.ref CN) (some dd) a) = H1 at s1 e1
      have d1 := s1 _ _ ed
      refine ⟨_, rfl, a, CN, some dd, .ref CP, .ref CP, false, rfl, e1, ⟨_, d1⟩, R.xN, fun u r => r, R.np, _, rfl, iteF ?_⟩
      refine ⟨_, rfl, a, CN, some dd, .ty "ValueError", .type "ValueError", true, rfl, e1, ⟨_, d1⟩, R.xN, fun u r => r, R.nv, _, rfl, iteF ?_⟩
      refine ⟨_, rfl, by show 2 ≤ sizeLine; decide, fun tp htp => ?_⟩
      have s2 := same_new (o := HO.tup [.ref CO, .ty "LookupError"]) htp
      refine ⟨a, CN, some dd, tp, [.ref CO, .ty "LookupError"], _, false, rfl, s2 _ _ e1, ⟨_, s2 _ _ d1⟩, R.xN, upd_same, fun us r => ClsV.all (.cons (.own CO) (.cons (.ty _) .nil)) r, R.no, _, rfl, iteF ?_⟩
      have S2 := s1.trans s2
      have e2 := s2 _ _ e1
      have d2 := s2 _ _ d1
      refine ⟨_, rfl, a, CN, some dd, .ref CW, .ref CW, false, rfl, e2, ⟨_, d2⟩, R.xN, fun u r => r, R.nw, _, rfl, iteF ?_⟩
      refine ⟨_, rfl, a, CN, some dd, .ref CR, .ref CR, false, rfl, e2, ⟨_, d2⟩, R.xN, fun u r => r, R.nr, _, rfl, iteF ?_⟩
      obtain ⟨⟨p, da⟩, w1, w2, w3⟩ := sv.keep S2
      refine ⟨_, rfl, a, CN, dd, _, v, rfl, e2, d2, rfl, R.fN, R.nN, p, v, dt, rfl, da, w1, w2, w3, by show 2 ≤ sizeLine; decide, fun t ht => ?_⟩
      exact k t _ (S2.trans (same_new ht)) upd_same
end My
set_option Elab.async false
set_option linter.all false
set_option maxRecDepth 100000
set_option maxHeartbeats 4000000
/-! {e for target in it}, e an int or a text; len of such a set. -/
namespace My
open PySem PySem.Spec PyProof.Rows L2
section
variable {X : Cx} {pins : List (Addr × Obj)} {σ : L2.St} {H : Hp} {s : Shared}
def noKeys : Key → Bool := fun _ => false
def withKey (S : Key → Bool) (k : Key) : Key → Bool := fun j => S j || decide (j = k)
def more (S : Key → Bool) (k : Key) (n : Nat) : Nat := if S k = true then n else n + 1
theorem keys_fresh {P : Program} {w : World} {h : Heap} : (h.push { cls := .type "set", dict := none, data := .set #[] 0 (.fresh 0 0 (!w.params.followText "set-order")) }).SetOf (mixKind P w) h.objs.size noKeys 0 := by
  refine ⟨_, #[], 0, _, Heap.get?_push_size _ rfl, ⟨rfl, rfl, rfl⟩, rfl, fun e z => ?_, fun k => ?_, by decide, by rfl, rfl⟩
  · exact absurd z (by simp)
  · unfold noKeys
    simp
/-- a key is added -/
theorem key_added {E : Value → Shared → Prop} {D : Addr} {S : Key → Bool} {n : Nat} {k : Key} {u : Value} {Q : Value → Shared → Prop} (I : Inv X pins σ H s) (e : H D = some (SetK X.prog X.w D S n)) (r : RelV (kV k) u) (room : n + 1 < scanBound)
    (q : ∀ s', Inv X pins σ (upd H D (SetK X.prog X.w D (withKey S k) (more S k n))) s' → Q .none s') : wpAny (model X.prog X.w) X.A (call (.builtin "set.add") [.ref D, u]) Q E s := by
  refine call_set_add (kV_is r) (key_scan r) (setK_get I e) room fun h' same now => ?_
  obtain ⟨ob, _, _, _, there, _⟩ := id now
  refine q _ (I.write (e := D) (t' := s.toks + 1) ?_ (.inl rfl) (fun b u ne hu => (same.2 b ne).trans hu) ⟨ob, there⟩ (setK_new now))
  rw [e]
  trivial
/-- what one turn wants of the element's key -/
def keyEnd (P : Program) (w : World) (D : Addr) (Nx : Hp → Prop) : VK := fun y H => ∃ (k : Key) (S : Key → Bool) (n : Nat), y = kV k ∧ H D = some (SetK P w D S n) ∧ n + 1 < scanBound ∧ Nx (upd H D (SetK P w D (withKey S k) (more S k n)))
/-- the comprehension's reading; D is the new set -/
def tSetC (P : Program) (w : World) (wi : TI) (g : TG) (te : TE) (vs : List Nat) : TE := fun σ H Q => wi σ H fun J H1 => ∀ D, H1 D = none →
  ∃ W : Nat → Nat → Hp → Prop, (∃ m, W 0 m (upd H1 D (SetK P w D noKeys 0))) ∧ ∀ i m H, W i m H → (J.stop i H ∧ Q (.ref D) H) ∨
    (J.go i H ∧ ∃ Nx : Hp → Prop, (∀ H', Nx H' → ∃ m', m' < m ∧ W (i + 1) m' H') ∧ ∀ x H', J.yld i H x H' → g x (wipe σ vs) H' fun σ2 H2 => wipe σ2 vs = wipe σ vs ∧ te σ2 H2 (keyEnd P w D Nx))
theorem pe_setc {elt tg iter : Expr} {scope : Scope} {own : List (PySem.Str × Nat)} {pos : Pos} {wi : TI} {g : TG} {te : TE} (calm : X.calm = true) (nd : X.N.Nodup) (hi : PI X tg iter wi) (ok : BlkOk X.N X.env.scope scope own)
    (hg : ∀ (s : Shared) (H : Hp) (C : Addr) (cl : List (PySem.Str × Addr)) (fp : List Addr), PG (X.blk s H scope (compEnvC scope cl C X.env) fp) tg g)
    (he : ∀ (s : Shared) (H : Hp) (C : Addr) (cl : List (PySem.Str × Addr)) (fp : List Addr), PE (X.blk s H scope (compEnvC scope cl C X.env) fp) elt te)
    (plain : ∀ x, foldedSetIterable iter X.env x = pure x := by intro _; rfl) : PE X (.SetComp elt [⟨tg, iter, [], 0⟩] scope pos) (tSetC X.prog X.w wi g te (own.map (·.2))) := by
  refine ⟨fun pins s σ H Q I h => ?_⟩
  rw [PpSet.eval_SetComp]
  have cells : ∀ y ∈ scope.names, y.2 = .free → ∃ c, X.env.cells.lookup y.1 = some c := fun y hy e =>
    (ok.free y hy e).elim (fun k => I.ok.has _ (.inl k)) fun k => I.ok.has _ (.inr k)
  refine wpAny_comprehension_free (use := none) rfl plain (closure_ok cells) ok.kind (fun y hy e => (ok.uniq y hy).trans (congrArg some e)) ?_
  refine thn (hi.run pins s σ H _ I h) fun xv sa walks => thn walks fun itv sb z => ?_
  obtain ⟨it, fp, tn, J, Hb, rfl, Ib, T, st, foot, q⟩ := z
  refine PpSet.newSet_ok (newEnv_comp ?_)
  generalize hD : sb.heap.objs.size = D
  have freeD : Hb D = none := Ib.hok.fresh (Nat.le_of_eq hD)
  obtain ⟨W, ⟨m0, w0⟩, turn⟩ := q D freeD
  generalize hc : ({ sb with heap := sb.heap.push { cls := .type "set", dict := none, data := .set #[] 0 (.fresh 0 0 (!X.w.params.followText "set-order")) } } : Shared) = sc
  have heapC : sc.heap = sb.heap.push { cls := .type "set", dict := none, data := .set #[] 0 (.fresh 0 0 (!X.w.params.followText "set-order")) } := by rw [← hc]
  have Ic : Inv X pins σ (upd Hb D (SetK X.prog X.w D noKeys 0)) sc := by
    rw [← hc]
    refine Ib.laid (t' := sb.toks) (fun b o e => Heap.get?_push_of_some _ e) (Nat.le_of_eq hD) ?_
    rw [← hD]
    exact setK_new keys_fresh
  have small : ∀ b ∈ fp, b < sb.heap.objs.size := fun b hb => let ⟨_, e, _⟩ := T.obj _ _ st b hb; Heap.lt_size e
  have footC : ∀ b ∈ fp, FpOk X pins (upd Hb D (SetK X.prog X.w D noKeys 0)) b ∧ b < sc.heap.objs.size := fun b hb => by
    have lt := small b hb
    refine ⟨⟨(upd_ne (hD ▸ Nat.ne_of_lt lt)).trans (foot b hb).1, (foot b hb).2⟩, ?_⟩
    rw [heapC, Heap.size_push]
    exact Nat.lt_succ_of_lt lt
  have stc : tn 0 sc.heap := T.keep _ _ _ st fun b _ o e => heapC ▸ Heap.get?_push_of_some _ e
  have In := block_start Ic ok nd footC
  let ce := compEnvC scope (cellsFrom (sc.heap.objs.size + 1) scope.names (cloFrom X.env.cells scope.names [])) sc.heap.objs.size X.env
  let Hc := upd Hb D (SetK X.prog X.w D noKeys 0)
  have pg : PG (X.blk sc Hc scope ce fp) tg g := hg _ _ _ _ _
  have pe : PE (X.blk sc Hc scope ce fp) elt te := he _ _ _ _ _
  let B := X.blk sc Hc scope ce fp
  have nfp : ∀ b ∈ fp, Hc b = none := fun b hb => (footC b hb).1.1
  generalize hd : ({ sc with heap := pushCells (sc.heap.push { cls := .type "dict", data := .dict #[] }) scope.names } : Shared) = sd at In
  have Id : Inv B [] (wipe σ (own.map (·.2))) Hc sd := In
  have std : tn 0 sd.heap := T.keep _ _ _ stc fun b _ o e => by rw [← hd]; exact pushCells_keeps _ _ _ _ (Heap.get?_push_of_some _ e)
  have stay : ∀ {σ' : L2.St} {H' : Hp} {s' : Shared}, Inv B [] σ' H' s' → (∀ b ∈ fp, H' b = none) → ∀ b ∈ fp, FpOk B [] H' b := fun {_ _ _} J no b hb =>
    ⟨no b hb, (J.ok.exf b hb).1, J.ok.exfs b hb, .inl hb, fun x c e => (J.ok.exf b hb).2 x c e, fun p hp => (List.not_mem_nil (List.append_nil ([] : List (Addr × Obj)) ▸ hp)).elim⟩
  have loop : codeAny (model X.prog X.w) X.A (.compLoop (.SetComp elt [⟨tg, iter, [], 0⟩] scope pos) 0 (.ref it) (.ref D) ce) (compPost (model X.prog X.w) X.A X.xe none (EP X pins σ Q) (.ref D) sc.heap.objs.size) sd := by
    refine PpSet.compLoopS_any (fun n s' => ∃ i H', Inv B [] (wipe σ (own.map (·.2))) H' s' ∧ tn i s'.heap ∧ (∀ b ∈ fp, H' b = none) ∧ W i n H') ?_ m0 ⟨0, Hc, Id, std, nfp, w0⟩
    rintro n se ⟨i, He, Ie, ste, ne, we⟩
    rcases turn i n He we with ⟨stop, fin⟩ | ⟨go, Nx, fall, step⟩
    · refine thnF (T.done B rfl rfl rfl calm i [] se _ He (fun _ _ => False) Ie (stay Ie ne) ste stop) fun r sf ⟨er, If⟩ => ?_
      subst er
      have Ig : Inv X pins σ He sf := Ic.call' (ch := fp) If.os If.base If.hok If.bare fun b hb => let f := (footC b hb).1; ⟨f.2.2.2.1, f.2.1, f.2.2.2.2.1, f.2.2.2.2.2⟩
      have noC : He sc.heap.objs.size = none := If.free
      obtain ⟨m, hn, _⟩ := If.loc
      obtain ⟨f0, f1, f2, f3, f4, f5⟩ := Ic.fpOk (Nat.le_refl _) noC
      exact ⟨m, hn, fun h'' sm => ⟨.ref D, He, Ig.turned (t' := sf.toks) (fun b o hb e => (sm.2 b hb).trans e) f0 f1 f3 f4 f5, rfl, fin⟩⟩
    · refine thnF (T.item B rfl rfl rfl calm i [] se _ He (fun _ _ => False) Ie (stay Ie ne) ste go) fun r sf ⟨u, er, hf⟩ => ?_
      subst er
      refine thnF hf fun _ sg ⟨x, Hg, Ig, rg, yg, stg, ng⟩ => ?_
      have Ip := Ig.pinned (stay Ig ng) (T.obj _ _ stg)
      refine thnF (pg.run _ sg _ Hg x u _ Ip rg (step x Hg yg)) fun _ sh ⟨σh, Hh, Ih, same, qh⟩ => ?_
      refine wpAny_tests_nil ?_
      rw [if_pos rfl]
      refine thnF (pe.run _ sh σh Hh _ Ih qh) fun v si ⟨yv, Hi, Ii, rv, k, S, c, ey, hDi, room, nx⟩ => ?_
      subst ey
      refine key_added (X := B) Ii hDi rv room fun sj Ij => ?_
      obtain ⟨m', lt, w'⟩ := fall _ nx
      have held : ∀ b ∈ fp, ∀ o, sg.heap.get? b = some o → sj.heap.get? b = some o ∧ (upd Hi D (SetK X.prog X.w D (withKey S k) (more S k c))) b = none := fun b hb o e =>
        let z := Ij.pin (b, o) (List.mem_append_right _ (List.mem_append_right _ (mem_pinsAt hb e)))
        ⟨z.1, z.2.1⟩
      have len : (wipe σ (own.map (·.2))).length = σh.length := by rw [← same, wipe_length]
      refine ⟨m', lt, i + 1, _, (Ij.unpinned (pins := [])).weak len (fun j v e => ?_), T.keep _ _ _ stg fun b hb o e => (held b hb o e).1, fun b hb => ?_, w'⟩
      · rw [← same] at e
        exact (wipe_some e).1
      · obtain ⟨o, e, _⟩ := T.obj _ _ stg b hb
        exact (held b hb o e).2
  exact PpSet.codeAny_compStart_set loop (T.self X.A 0 _ _ _ std loop)
end
end My
set_option Elab.async false
set_option linter.all false
set_option maxRecDepth 100000
set_option maxHeartbeats 8000000
/-! set(xs), xs a list (or a tuple) of ints and texts, any number of them; len of a set of such. -/
namespace My
open PySem PySem.Spec PyProof.Rows L2

theorem one_nodup {α : Type} (x : α) : [x].Nodup := List.nodup_cons.mpr ⟨List.not_mem_nil, List.nodup_nil⟩
open Classical in
/-- the keys met so far, each once -/
noncomputable def metK : List Key → List Key → List Key
  | seen, [] => seen
  | seen, k :: r => metK (if k ∈ seen then seen else seen ++ [k]) r
open Classical in
theorem metK_snoc : ∀ (xs seen : List Key) (k : Key), metK seen (xs ++ [k]) = if k ∈ metK seen xs then metK seen xs else metK seen xs ++ [k]
  | [], seen, k => rfl
  | x :: r, seen, k => metK_snoc r _ k
open Classical in
theorem mem_metK : ∀ (xs seen : List Key) (k : Key), k ∈ metK seen xs ↔ k ∈ seen ∨ k ∈ xs
  | [], seen, k => by simp [metK]
  | x :: r, seen, k => by
    rw [metK, mem_metK r]
    split
    · rename_i h
      constructor
      · rintro (z | z)
        · exact .inl z
        · exact .inr (List.mem_cons_of_mem _ z)
      · rintro (z | z)
        · exact .inl z
        · rcases List.mem_cons.mp z with e | z
          · subst e
            exact .inl h
          · exact .inr z
    · rw [List.mem_append, List.mem_singleton, List.mem_cons, or_assoc]
open Classical in
theorem nodup_metK : ∀ (xs seen : List Key), seen.Nodup → (metK seen xs).Nodup
  | [], _, h => h
  | x :: r, seen, h => by
    rw [metK]
    refine nodup_metK r _ ?_
    split
    · exact h
    · rename_i z
      exact List.nodup_append.mpr ⟨h, one_nodup x, fun a ha b hb e => z (by rw [List.mem_singleton.mp hb] at e; exact e ▸ ha)⟩
open Classical in
theorem len_metK_le : ∀ (xs seen : List Key), (metK seen xs).length ≤ seen.length + xs.length
  | [], _ => Nat.le_refl _
  | x :: r, seen => by
    rw [metK]
    have h := len_metK_le r (if x ∈ seen then seen else seen ++ [x])
    have : (if x ∈ seen then seen else seen ++ [x]).length ≤ seen.length + 1 := by
      split
      · omega
      · rw [List.length_append]; exact Nat.le_refl _
    rw [List.length_cons]
    omega
open Classical in
/-- as many as items just where all differ -/
theorem len_metK_eq : ∀ (xs seen : List Key), seen.Nodup → ((metK seen xs).length = seen.length + xs.length ↔ (seen ++ xs).Nodup)
  | [], seen, h => by simp [metK, h]
  | x :: r, seen, h => by
    rw [metK]
    by_cases z : x ∈ seen
    · rw [if_pos z]
      constructor
      · intro e
        have := len_metK_le r seen
        rw [List.length_cons] at e
        omega
      · intro nd
        have := (List.nodup_append.mp nd).2.2 x z x List.mem_cons_self
        exact absurd rfl this
    · rw [if_neg z]
      have nd : (seen ++ [x]).Nodup := List.nodup_append.mpr ⟨h, one_nodup x, fun a ha b hb e => z (by rw [List.mem_singleton.mp hb] at e; exact e ▸ ha)⟩
      have ih := len_metK_eq r (seen ++ [x]) nd
      rw [List.length_append, List.length_singleton, List.append_assoc] at ih
      rw [List.length_cons, show seen.length + (r.length + 1) = seen.length + 1 + r.length by omega]
      exact ih
open Classical in
noncomputable def inK (xs : List Key) : Key → Bool := fun k => decide (k ∈ xs)

section
variable {prog : Program} {w : World}
theorem setOf_eq {h : Heap} {a : Addr} {S T : Key → Bool} {n m : Nat} (R : h.SetOf (mixKind prog w) a S n) (e : ∀ k, S k = T k) (en : n = m) : h.SetOf (mixKind prog w) a T m := by
  cases (funext e : S = T)
  cases en
  exact R
open Classical in
theorem met_add {h : Heap} {a : Addr} {xs : List Key} {k : Key} (R : h.SetOf (mixKind prog w) a (fun j => inK (metK [] xs) j || decide (j = k)) (if inK (metK [] xs) k = true then (metK [] xs).length else (metK [] xs).length + 1)) :
    h.SetOf (mixKind prog w) a (inK (metK [] (xs ++ [k]))) (metK [] (xs ++ [k])).length := by
  refine setOf_eq R (fun j => ?_) ?_
  · unfold inK
    rw [metK_snoc]
    by_cases z : k ∈ metK [] xs
    · rw [if_pos z]
      by_cases e : j = k
      · subst e
        simp [z]
      · simp [e]
    · rw [if_neg z]
      by_cases e : j = k
      · simp [e]
      · simp [e]
  · unfold inK
    rw [metK_snoc]
    by_cases z : k ∈ metK [] xs
    · rw [if_pos z, if_pos (decide_eq_true z)]
    · rw [if_neg z, if_neg (by simpa using z), List.length_append]
      rfl
variable {A : Around} {R : Result → Shared → Prop} {it : Addr} {fp wr : List Addr} {G : Array GenState → Array GenState → Prop} {n : Nat} {Y : Nat → Value → Prop} {St : Nat → Shared → Prop}
/-- the filling loop -/
theorem fill_loop (W : WalksS prog w A.in1 it fp wr G n Y St) {D : Addr} (apart : D ∉ fp) {ks : List Key} (len : ks.length = n) (keys : ∀ i v, Y i v → ∃ k, ks[i]? = some k ∧ keyIs k v = true) (room : n + 1 < scanBound) :
    ∀ (left i : Nat) (s : Shared), i + left = n → St i s → s.heap.SetOf (mixKind prog w) D (inK (metK [] (ks.take i))) (metK [] (ks.take i)).length →
      (∀ s', Moved (D :: wr) G s s' → s'.heap.SetOf (mixKind prog w) D (inK (metK [] ks)) (metK [] ks).length → R (.ok (.ret .none)) s') → codeAny (model prog w) A (.builtin "set.update.loop" ⟨[.ref D, .ref it], []⟩) R s := by
  have notW : D ∉ wr := fun h => apart (W.sub _ h)
  have wide : ∀ b ∈ wr, b ∈ D :: wr := fun _ h => List.mem_cons_of_mem _ h
  have kept : ∀ {s s' : Shared} {S : Key → Bool} {m : Nat}, Moved wr G s s' → s.heap.SetOf (mixKind prog w) D S m → s'.heap.SetOf (mixKind prog w) D S m := fun mv q => setOf_at q fun o e => mv.heap D o notW e
  intro left
  induction left with
  | zero =>
    intro i s e st have_ go
    have all : i = n := e
    subst all
    refine codeAny_builtin PyProof.Rows.F.entry_set_update_loop ?_
    rw [Around.under_plainId PyProof.Rows.F.plain_set_update_loop _]
    refine (show wpAny _ A.in1 (pyNext (.ref it) >>= _) _ _ s from wpAny_bind (W.done s _ _ st fun s' mv => ?_))
    refine (show wpAny _ A.in1 (ret Value.none) _ _ s' from wpAny_pure (go s' (mv.mono wide) ?_))
    have q := kept mv have_
    rwa [List.take_of_length_le (Nat.le_of_eq len)] at q
  | succ left ih =>
    intro i s e st have_ go
    refine codeAny_builtin PyProof.Rows.F.entry_set_update_loop ?_
    rw [Around.under_plainId PyProof.Rows.F.plain_set_update_loop _]
    refine (show wpAny _ A.in1 (pyNext (.ref it) >>= _) _ _ s from wpAny_bind (W.item i s _ _ (by omega) st fun v s' yv st' mv => ?_))
    obtain ⟨k, hk, isk⟩ := keys i v yv
    have q := kept mv have_
    have few : (metK [] (ks.take i)).length ≤ i := by
      have h := len_metK_le (ks.take i) []
      rw [List.length_take, List.length_nil] at h
      omega
    have scan : v.scannable = true := by
      rcases keyIs_shape isk with ⟨_, _, _, rfl⟩ | ⟨_, _, _, rfl⟩ <;> rfl
    refine (show wpAny _ A.in1 (holding [v] (setAdd D v) >>= _) _ _ s' from wpAny_bind (wpAny_holding ?_))
    unfold setAdd
    refine wpAny_holding (wpAny_bind ((mixKind prog w).pyHash (k := k) isk ?_))
    refine wpAny_setAddHashed_of (knd := mixKind prog w) (s := { s' with toks := s'.toks + 1 }) isk scan q (by omega) fun h' same now => ?_
    have nowK := met_add now
    rw [show ks.take i ++ [k] = ks.take (i + 1) by rw [List.take_add_one, hk]; rfl] at nowK
    refine wpAny_pure ⟨plainId_quiet PyProof.Rows.F.plain_set_update_loop _, ih (i + 1) _ (by omega) (W.frame _ s' _ _ st' (Nat.le_succ _) fun b hb o e => ?_) nowK fun s'' mv' end_ => ?_⟩
    · exact (same.2 b fun z => apart (z ▸ hb)).trans e
    · exact go s'' (Moved.trans W.gtrans ((mv.mono wide).then_heap (Nat.le_succ _) fun b o hb e => (same.2 b fun z => hb (z ▸ List.mem_cons_self)).trans e) mv') end_
end

section
variable {prog : Program} {w : World} {A : Around} {E : Value → Shared → Prop} {s : Shared}
abbrev setOb (led : Bool) : Obj := { cls := .type "set", dict := none, data := .set #[] 0 (.fresh 0 0 led) }
theorem setFrom_list {l : Addr} {items : Array Value} {ks : List Key} {Q : Value → Shared → Prop} (calm : A.handled = none) (src : s.heap.IsList l items) (len : ks.length = items.size) (keys : ∀ (i : Nat) (v : Value), items[i]? = some v → ∃ k, ks[i]? = some k ∧ keyIs k v = true)
    (room : items.size + 1 < scanBound) (q : ∀ (h' : Heap) (tk : Nat), h'.SetOf (mixKind prog w) s.heap.objs.size (inK (metK [] ks)) (metK [] ks).length → (∀ b o, b < s.heap.objs.size → s.heap.get? b = some o → h'.get? b = some o) →
      Q (.ref s.heap.objs.size) { s with heap := h', toks := tk }) : wpAny (model prog w) A (call (.type "set") [.ref l]) Q E s := by
  obtain ⟨c0, t0, mro0⟩ := PySem.F.called_set.mro
  have made0 := PySem.F.called_set.made
  have sub0 := PySem.F.called_set.sub
  refine wpAny_call (codeAny_of_tree (show wpAny _ _ (callAny (.type "set") _) _ _ _ from ?_))
  refine wpAny_pure ⟨Code.quiet_builtin _ (by decide +kernel), codeAny_builtin PySem.F.entry_type_call ?_⟩
  rw [Around.under_plain (weight_type_call_type "set" [.ref l] []) rfl]
  have nt0 := PySem.F.called_set.notType
  have cc0 := PySem.F.called_set.canCreate
  have tc0 := PySem.F.typeCall_set_1 (.ref l)
  repeat (any_goals (first | assumption | wp_step))
  refine codeAny_mono (code_set_new_1 (.ref l) (E := E) (Q₁ := fun ob s1 => ∃ led : Bool, ob = .ref s.heap.objs.size ∧ s1 = { s with heap := s.heap.push (setOb led) }) fun led => ⟨led, rfl, rfl⟩) fun res s1 z => ?_
  match res, z with
  | .error e, z => exact z
  | .ok .next, z => exact z.elim
  | .ok .brk, z => exact z.elim
  | .ok .cont, z => exact z.elim
  | .ok (.ret ob), ⟨led, e1, e2⟩ =>
    subst e1
    subst e2
    have at0 : (s.heap.push (setOb led)).get? s.heap.objs.size = some (setOb led) := Heap.get?_push_size _ rfl
    have ty0 : Shared.TypeIs { s with heap := s.heap.push (setOb led) } (.ref s.heap.objs.size) "set" := ⟨_, at0, rfl⟩
    have li0 := PySem.F.called_set.init.lookup
    have bi0 := PySem.F.called_set.init.bind (.ref s.heap.objs.size)
    repeat (any_goals (first | assumption | wp_step))
    refine codeAny_mono (codeAny_call_builtin (R := wants (fun r s2 => r = .none ∧ ∃ h' tk, s2 = { s with heap := h', toks := tk } ∧ h'.SetOf (mixKind prog w) s.heap.objs.size (inK (metK [] ks)) (metK [] ks).length ∧
        (∀ b o, b < s.heap.objs.size → s.heap.get? b = some o → h'.get? b = some o)) E) PySem.F.called_set.init.plain PySem.F.entry_set_init (check_set_init_1 ty0 ?_)) fun res2 s2 z2 => ?_
    · obtain ⟨⟨cl, dc, dt, sl⟩, hol, hcl, nl, hdl⟩ := src
      simp only at hcl hdl
      subst hcl
      subst hdl
      have here : (s.heap.push (setOb led)).get? l = some { cls := .type "list", dict := dc, data := .seq items nl, slots := sl } := Heap.get?_push_of_some _ hol
      have su1 := PySem.F.sub_list_set
      have su2 := PySem.F.sub_list_frozenset
      have nd0 : (Value.type "list" == Value.type "dict") = false := by decide
      have src' : (s.heap.push (setOb led)).IsList l items := ⟨_, here, rfl, nl, rfl⟩
      unfold Builtin.«set.__init__» noKeywords Builtin.Frozenset.updateFrom
      generalize pz : pyIter = pzI
      wp_walk
      subst pz
      refine wpAny_pyIter_list src' (wpAny_bind (wpAny_runValue ?_))
      have below : l < s.heap.objs.size := Heap.lt_size hol
      have calm3 : A.in1.in1.in1.handled = none := by simp [calm]
      have sz1 : (s.heap.push (setOb led)).objs.size = s.heap.objs.size + 1 := Heap.size_push _ _
      have ne1 : l ≠ (s.heap.push (setOb led)).objs.size := by
        rw [sz1]
        exact Nat.ne_of_lt (Nat.lt_succ_of_lt below)
      have out : s.heap.objs.size ∉ [(s.heap.push (setOb led)).objs.size, l] := by
        rw [sz1]
        simp only [List.mem_cons, List.not_mem_nil, or_false, not_or]
        exact ⟨Nat.ne_of_lt (Nat.lt_succ_self _), Nat.ne_of_gt below⟩
      refine fill_loop ((Walks.list calm3 _ l ne1 items).toS) out len keys room items.size 0 _ (Nat.zero_add _) ⟨⟨_, Heap.get?_push_size _ rfl, rfl, rfl⟩, (src'.push _)⟩ ?_ fun s' mv end_ => ?_
      · have get0 : ((s.heap.push (setOb led)).push { cls := .type "list_iterator", data := .fields #[.ref l, .int 0 0] }).get? s.heap.objs.size = some (setOb led) := Heap.get?_push_of_some _ at0
        refine ⟨_, #[], 0, _, get0, ⟨rfl, rfl, rfl⟩, rfl, fun e z => absurd z (by simp), fun k => ?_, by decide, by rfl, rfl⟩
        simp [inK, metK]
      · obtain ⟨h', g', d', tk', os'⟩ := s'
        cases (show g' = s.gens from mv.gens)
        cases (show d' = s.drawn from mv.drawn)
        cases (show os' = s.os from mv.os)
        refine (show wpAny _ _ _ _ _ _ from wpAny_pure (show wpAny _ _ (ret Value.none) _ _ _ from wpAny_pure ⟨rfl, h', tk', rfl, end_, fun b o hb e => ?_⟩))
        refine mv.heap b o ?_ (Heap.get?_push_of_some _ (Heap.get?_push_of_some _ e))
        simp only [List.mem_cons, List.not_mem_nil, or_false, not_or]
        refine ⟨Nat.ne_of_lt hb, ?_⟩
        rw [sz1]
        exact Nat.ne_of_lt (Nat.lt_succ_of_lt hb)
    · match res2, z2 with
      | .error e, z2 => exact z2
      | .ok .next, z2 => exact z2.elim
      | .ok .brk, z2 => exact z2.elim
      | .ok .cont, z2 => exact z2.elim
      | .ok (.ret r), ⟨e1, h', tk, e2, end_, keep⟩ =>
        subst e1
        subst e2
        repeat (any_goals (first | assumption | wp_step))
        exact q _ _ end_ keep
end

section
variable {prog : Program} {w : World} {A : Around} {E : Value → Shared → Prop} {s : Shared}
theorem setFrom_tuple {l : Addr} {items : Array Value} {ks : List Key} {Q : Value → Shared → Prop} (calm : A.handled = none) (src : s.heap.IsTuple l items) (len : ks.length = items.size) (keys : ∀ (i : Nat) (v : Value), items[i]? = some v → ∃ k, ks[i]? = some k ∧ keyIs k v = true)
    (room : items.size + 1 < scanBound) (q : ∀ (h' : Heap) (tk : Nat), h'.SetOf (mixKind prog w) s.heap.objs.size (inK (metK [] ks)) (metK [] ks).length → (∀ b o, b < s.heap.objs.size → s.heap.get? b = some o → h'.get? b = some o) →
      Q (.ref s.heap.objs.size) { s with heap := h', toks := tk }) : wpAny (model prog w) A (call (.type "set") [.ref l]) Q E s := by
  obtain ⟨c0, t0, mro0⟩ := PySem.F.called_set.mro
  have made0 := PySem.F.called_set.made
  have sub0 := PySem.F.called_set.sub
  refine wpAny_call (codeAny_of_tree (show wpAny _ _ (callAny (.type "set") _) _ _ _ from ?_))
  refine wpAny_pure ⟨Code.quiet_builtin _ (by decide +kernel), codeAny_builtin PySem.F.entry_type_call ?_⟩
  rw [Around.under_plain (weight_type_call_type "set" [.ref l] []) rfl]
  have nt0 := PySem.F.called_set.notType
  have cc0 := PySem.F.called_set.canCreate
  have tc0 := PySem.F.typeCall_set_1 (.ref l)
  repeat (any_goals (first | assumption | wp_step))
  refine codeAny_mono (code_set_new_1 (.ref l) (E := E) (Q₁ := fun ob s1 => ∃ led : Bool, ob = .ref s.heap.objs.size ∧ s1 = { s with heap := s.heap.push (setOb led) }) fun led => ⟨led, rfl, rfl⟩) fun res s1 z => ?_
  match res, z with
  | .error e, z => exact z
  | .ok .next, z => exact z.elim
  | .ok .brk, z => exact z.elim
  | .ok .cont, z => exact z.elim
  | .ok (.ret ob), ⟨led, e1, e2⟩ =>
    subst e1
    subst e2
    have at0 : (s.heap.push (setOb led)).get? s.heap.objs.size = some (setOb led) := Heap.get?_push_size _ rfl
    have ty0 : Shared.TypeIs { s with heap := s.heap.push (setOb led) } (.ref s.heap.objs.size) "set" := ⟨_, at0, rfl⟩
    have li0 := PySem.F.called_set.init.lookup
    have bi0 := PySem.F.called_set.init.bind (.ref s.heap.objs.size)
    repeat (any_goals (first | assumption | wp_step))
    refine codeAny_mono (codeAny_call_builtin (R := wants (fun r s2 => r = .none ∧ ∃ h' tk, s2 = { s with heap := h', toks := tk } ∧ h'.SetOf (mixKind prog w) s.heap.objs.size (inK (metK [] ks)) (metK [] ks).length ∧
        (∀ b o, b < s.heap.objs.size → s.heap.get? b = some o → h'.get? b = some o)) E) PySem.F.called_set.init.plain PySem.F.entry_set_init (check_set_init_1 ty0 ?_)) fun res2 s2 z2 => ?_
    · obtain ⟨⟨cl, dc, dt, sl⟩, hol, hcl, nl, hdl⟩ := src
      simp only at hcl hdl
      subst hcl
      subst hdl
      have here : (s.heap.push (setOb led)).get? l = some { cls := .type "tuple", dict := dc, data := .seq items nl, slots := sl } := Heap.get?_push_of_some _ hol
      have su1 := PySem.F.sub_tuple_set
      have su2 := PySem.F.sub_tuple_frozenset
      have nd0 : (Value.type "tuple" == Value.type "dict") = false := by decide
      have src' : (s.heap.push (setOb led)).IsTuple l items := ⟨_, here, rfl, nl, rfl⟩
      unfold Builtin.«set.__init__» noKeywords Builtin.Frozenset.updateFrom
      generalize pz : pyIter = pzI
      wp_walk
      subst pz
      refine wpAny_pyIter_tuple src' (wpAny_bind (wpAny_runValue ?_))
      have below : l < s.heap.objs.size := Heap.lt_size hol
      have calm3 : A.in1.in1.in1.handled = none := by simp [calm]
      have sz1 : (s.heap.push (setOb led)).objs.size = s.heap.objs.size + 1 := Heap.size_push _ _
      have ne1 : l ≠ (s.heap.push (setOb led)).objs.size := by
        rw [sz1]
        exact Nat.ne_of_lt (Nat.lt_succ_of_lt below)
      have out : s.heap.objs.size ∉ [(s.heap.push (setOb led)).objs.size, l] := by
        rw [sz1]
        simp only [List.mem_cons, List.not_mem_nil, or_false, not_or]
        exact ⟨Nat.ne_of_lt (Nat.lt_succ_self _), Nat.ne_of_gt below⟩
      refine fill_loop ((Walks.tuple calm3 _ l ne1 items).toS) out len keys room items.size 0 _ (Nat.zero_add _) ⟨⟨_, Heap.get?_push_size _ rfl, rfl, rfl⟩, (src'.push _)⟩ ?_ fun s' mv end_ => ?_
      · have get0 : ((s.heap.push (setOb led)).push { cls := .type "tuple_iterator", data := .fields #[.ref l, .int 0 0] }).get? s.heap.objs.size = some (setOb led) := Heap.get?_push_of_some _ at0
        refine ⟨_, #[], 0, _, get0, ⟨rfl, rfl, rfl⟩, rfl, fun e z => absurd z (by simp), fun k => ?_, by decide, by rfl, rfl⟩
        simp [inK, metK]
      · obtain ⟨h', g', d', tk', os'⟩ := s'
        cases (show g' = s.gens from mv.gens)
        cases (show d' = s.drawn from mv.drawn)
        cases (show os' = s.os from mv.os)
        refine (show wpAny _ _ _ _ _ _ from wpAny_pure (show wpAny _ _ (ret Value.none) _ _ _ from wpAny_pure ⟨rfl, h', tk', rfl, end_, fun b o hb e => ?_⟩))
        refine mv.heap b o ?_ (Heap.get?_push_of_some _ (Heap.get?_push_of_some _ e))
        simp only [List.mem_cons, List.not_mem_nil, or_false, not_or]
        refine ⟨Nat.ne_of_lt hb, ?_⟩
        rw [sz1]
        exact Nat.ne_of_lt (Nat.lt_succ_of_lt hb)
    · match res2, z2 with
      | .error e, z2 => exact z2
      | .ok .next, z2 => exact z2.elim
      | .ok .brk, z2 => exact z2.elim
      | .ok .cont, z2 => exact z2.elim
      | .ok (.ret r), ⟨e1, h', tk, e2, end_, keep⟩ =>
        subst e1
        subst e2
        repeat (any_goals (first | assumption | wp_step))
        exact q _ _ end_ keep
end
end My
set_option Elab.async false
set_option linter.all false
set_option maxRecDepth 100000
set_option maxHeartbeats 4000000
/-! set(xs), len of a set, {.. for .. in t}: the rules and their turns. -/
namespace My
open PySem PySem.Spec PyProof.Rows L2
section
variable {X : Cx}
theorem vals_keys : ∀ {ks : List Key} {us : List Value}, Vals (ks.map kV) us → ∀ (i : Nat) (v : Value), us[i]? = some v → ∃ k, ks[i]? = some k ∧ keyIs k v = true
  | [], _, .nil, i, v, h => by simp at h
  | k :: r, _, .cons a b, 0, v, h => ⟨k, rfl, by
    cases h
    cases k with
    | inl i =>
      obtain ⟨t, rfl⟩ := a
      exact keyIs_int i t
    | inr x =>
      obtain ⟨t, rfl⟩ := a
      exact keyIs_str x t⟩
  | k :: r, _, .cons a b, i + 1, v, h => vals_keys b i v h
/-- set(xs) -/
def rSetOf (K : PySem.W.Frag) (P : Program) (w : World) : List V → Hp → VK → Prop := fun xs H Q => ∃ (a : Addr) (ks : List Key), xs = [.ref a] ∧ (SqL K H a (ks.map kV) ∨ SqT K H a (ks.map kV)) ∧ ks.length ≤ 1000 ∧
  ∀ p, H p = none → Q (.ref p) (upd H p (SetK P w p (inK (metK [] ks)) (metK [] ks).length))
theorem call_setOf (calm : X.calm = true) : CallR X (.type "set") (rSetOf X.K X.prog X.w) := by
  intro pins s σ H xs us Q I r h
  obtain ⟨a, ks, rfl, hs, hl, q⟩ := h
  obtain ⟨u, rfl, rx⟩ := vals1 r
  cases rx
  have fin : ∀ (h' : Heap) (tk : Nat), h'.SetOf (mixKind X.prog X.w) s.heap.objs.size (inK (metK [] ks)) (metK [] ks).length → (∀ b o, b < s.heap.objs.size → s.heap.get? b = some o → h'.get? b = some o) →
      EP X pins σ Q (.ref s.heap.objs.size) { s with heap := h', toks := tk } := fun h' tk R k =>
    ⟨.ref _, upd H s.heap.objs.size (SetK X.prog X.w s.heap.objs.size (inK (metK [] ks)) (metK [] ks).length), I.laid (t' := tk) (fun b o e => k b o (Heap.lt_size e) e) (Nat.le_refl _) (setK_new R), rfl, q _ (I.hok.fresh (Nat.le_refl _))⟩
  have sb : ks.length + 1 < scanBound := by unfold scanBound; omega
  rcases hs with hs | hs
  · obtain ⟨its, rv, pl, _⟩ := I.list hs
    have el : ks.length = its.toArray.size := by rw [List.size_toArray, ← rv.length, List.length_map]
    exact setFrom_list (I.ok.hd calm) pl.isList el (fun i v e => vals_keys rv i v (by simpa using e)) (by rw [← el]; exact sb) fin
  · obtain ⟨its, rv, pl, _⟩ := I.tuple hs
    have el : ks.length = its.toArray.size := by rw [List.size_toArray, ← rv.length, List.length_map]
    exact setFrom_tuple (I.ok.hd calm) pl el (fun i v e => vals_keys rv i v (by simpa using e)) (by rw [← el]; exact sb) fin
/-- len of a set -/
def rLenK (P : Program) (w : World) : List V → Hp → VK → Prop := fun xs H Q => ∃ (a : Addr) (S : Key → Bool) (n : Nat), xs = [.ref a] ∧ H a = some (SetK P w a S n) ∧ n ≤ 100000 ∧ Q (.int (n : Int)) H
theorem call_lenK : CallR X (.builtin "len") (rLenK X.prog X.w) := by
  intro pins s σ H xs us Q I r h
  obtain ⟨a, S, n, rfl, hs, hn, q⟩ := h
  obtain ⟨u, rfl, rx⟩ := vals1 r
  cases rx
  obtain ⟨o, es, ep, t, ho, hex, hd, _, _, _, hf, en⟩ := setK_get I hs
  exact call_len_set ho hex hd hf (by rw [en] <;> omega) ⟨.int (n : Int), H, I.tok _, ⟨_, by rw [en]⟩, q⟩
end
/-- a set comprehension over a tuple that the block leaves as it is -/
theorem setc_tup {P : Program} {w : World} {K : PySem.W.Frag} {a : Addr} {xs : List V} {g : TG} {te : TE} {vs : List Nat} {σ : L2.St} {H1 : Hp} {D : Addr} {Qd : Hp → Prop} (Pv : Nat → Hp → Prop) (h0 : Pv 0 (upd H1 D (SetK P w D noKeys 0)))
    (hl : ∀ i H, i ≤ xs.length → Pv i H → SqT K H a xs) (hs : ∀ i x H, xs[i]? = some x → Pv i H → g x (wipe σ vs) H fun σ2 H2 => wipe σ2 vs = wipe σ vs ∧ te σ2 H2 (keyEnd P w D (Pv (i + 1)))) (hd : ∀ H, Pv xs.length H → Qd H) :
    ∃ W : Nat → Nat → Hp → Prop, (∃ m, W 0 m (upd H1 D (SetK P w D noKeys 0))) ∧ ∀ i m H, W i m H → ((Itt K a).stop i H ∧ Qd H) ∨
      ((Itt K a).go i H ∧ ∃ Nx : Hp → Prop, (∀ H', Nx H' → ∃ m', m' < m ∧ W (i + 1) m' H') ∧ ∀ x H', (Itt K a).yld i H x H' → g x (wipe σ vs) H' fun σ2 H2 => wipe σ2 vs = wipe σ vs ∧ te σ2 H2 (keyEnd P w D Nx)) := by
  refine ⟨fun i m H => i + m = xs.length ∧ Pv i H, ⟨xs.length, Nat.zero_add _, h0⟩, fun i m H ⟨e, p⟩ => ?_⟩
  have there := hl i H (by omega) p
  cases m with
  | zero =>
    cases e
    exact .inl ⟨⟨xs, there, Nat.le_refl _⟩, hd H p⟩
  | succ m =>
    have lt : i < xs.length := by omega
    refine .inr ⟨⟨xs, xs[i], there, List.getElem?_eq_getElem lt⟩, Pv (i + 1), fun H' p' => ⟨m, Nat.lt_succ_self m, by omega, p'⟩, fun x H' y => ?_⟩
    obtain ⟨rfl, y⟩ := y
    exact hs i x _ (y xs there) p
end My
set_option Elab.async false
set_option linter.all false
set_option maxRecDepth 100000
set_option maxHeartbeats 4000000
namespace My
open PySem PySem.Spec PyProof.Rows L2 SeqAt
section
variable {X : Cx}
theorem op_eqNil (hu : X.A.units + 64 < cLine) : OpR X (compareOp .Eq) (rNil X.K id) := by
  intro pins s σ H x y v u Q I rx ry h
  obtain ⟨a, b, xs, rfl, rfl, h, q⟩ := h
  cases rx
  cases ry
  rcases h with ⟨ha, hb⟩ | ⟨ha, hb⟩
  · obtain ⟨its, rv, ⟨o, n, ho, hc, _, hd⟩, _⟩ := I.list ha
    obtain ⟨its2, rv2, ⟨o2, n2, ho2, hc2, _, hd2⟩, _⟩ := I.list hb
    cases vals_nil rv2
    have l1 : s.heap.IsList a its.toArray := ⟨o, ho, hc, n, hd⟩
    have l2 : s.heap.IsList b #[] := ⟨o2, ho2, hc2, n2, hd2⟩
    cases rv with
    | nil => exact RcAt.lists (e := fun _ => true) l1 l2 rfl (by omega) (fun j h1 => absurd h1 (Nat.not_lt_zero j)) _ _ _ _ ⟨.bl _, H, I, rfl, q⟩
    | cons r t => exact RcAt.lists_lengths l1 l2 (by simp) (by omega) _ _ _ _ ⟨.bl _, H, I, rfl, q⟩
  · obtain ⟨its, rv, ⟨o, ho, hc, n, hd⟩, _⟩ := I.tuple ha
    obtain ⟨its2, rv2, ⟨o2, ho2, hc2, n2, hd2⟩, _⟩ := I.tuple hb
    cases vals_nil rv2
    have l1 : s.heap.IsTuple a its.toArray := ⟨o, ho, hc, n, hd⟩
    have l2 : s.heap.IsTuple b #[] := ⟨o2, ho2, hc2, n2, hd2⟩
    refine RcAt.tuples (e := fun _ => true) l1 l2 (by omega) (fun j _ h2 => absurd h2 (Nat.not_lt_zero j)) _ _ _ _ ?_
    rw [show min its.toArray.size (#[] : Array Value).size = 0 from Nat.min_zero _]
    refine ⟨.bl xs.isEmpty, H, I, ?_, q⟩
    show Value.bool _ = Value.bool _
    rw [← vals_emp rv]
    simp
end
/-! ### a comprehension over anything of a known length -/
theorem lcJ {J : It} {n : Nat} {g : TG} {tt : TT} {te : TE} {vs : List Nat} {σ : L2.St} {H1 : Hp} {D : Addr} {Qd : Hp → Prop} (Pv : Nat → Hp → Prop) (h0 : Pv 0 (upd H1 D (.lst []))) (go : ∀ i H, i < n → Pv i H → J.go i H) (stop : ∀ H, Pv n H → J.stop n H)
    (hs : ∀ i H x H', i < n → Pv i H → J.yld i H x H' → g x (wipe σ vs) H' fun σ2 H2 => wipe σ2 vs = wipe σ vs ∧ tt σ2 H2 fun b H3 =>
      if b = true then te σ2 H3 fun y H4 => ∃ acc, H4 D = some (.lst acc) ∧ acc.length < sizeLine ∧ Pv (i + 1) (upd H4 D (.lst (acc ++ [y]))) else Pv (i + 1) H3) (hd : ∀ H, Pv n H → Qd H) :
    ∃ W : Nat → Nat → Hp → Prop, (∃ m, W 0 m (upd H1 D (.lst []))) ∧ ∀ i m H, W i m H → (J.stop i H ∧ Qd H) ∨
      (J.go i H ∧ ∃ Nx : Hp → Prop, (∀ H', Nx H' → ∃ m', m' < m ∧ W (i + 1) m' H') ∧ ∀ x H', J.yld i H x H' → g x (wipe σ vs) H' fun σ2 H2 => wipe σ2 vs = wipe σ vs ∧ tt σ2 H2 fun b H3 =>
        if b = true then te σ2 H3 fun y H4 => ∃ acc, H4 D = some (.lst acc) ∧ acc.length < sizeLine ∧ Nx (upd H4 D (.lst (acc ++ [y]))) else Nx H3) := by
  refine ⟨fun i m H => i + m = n ∧ Pv i H, ⟨n, Nat.zero_add _, h0⟩, fun i m H ⟨e, p⟩ => ?_⟩
  cases m with
  | zero =>
    cases e
    exact .inl ⟨stop H p, hd H p⟩
  | succ m => exact .inr ⟨go i H (by omega) p, Pv (i + 1), fun H' p' => ⟨m, Nat.lt_succ_self m, by omega, p'⟩, fun x H' y => hs i H x H' (by omega) p y⟩
/-- .. over a text's signs, no test -/
def lcN_str {x : Str} {te : TE} {vs : List Nat} {σ : L2.St} {H1 : Hp} {D : Addr} {Qd : Hp → Prop} {j : Nat} (Pv : Nat → Hp → Prop) (h0 : Pv 0 (upd H1 D (.lst [])))
    (hs : ∀ i c H, x.cps.toList[i]? = some c → Pv i H → wipe ((wipe σ vs).set j (some (.str (sign c)))) vs = wipe σ vs ∧ Grows te D (Pv (i + 1)) ((wipe σ vs).set j (some (.str (sign c)))) H) (hd : ∀ H, Pv x.length H → Qd H) :=
  lcJ (J := Its x) (n := x.length) (g := gName j) (tt := tYes) (te := te) (vs := vs) (σ := σ) (H1 := H1) (D := D) (Qd := Qd) Pv h0 (fun i H lt _ => lt) (fun H _ => Nat.le_refl _)
    (fun i H v H' lt p y => by
      obtain ⟨rfl, c, e, rfl⟩ := y
      have e' : x.cps.toList[i]? = some c := by rw [Array.getElem?_toList]; exact e
      exact yes_turn (hs i c _ e' p).1 (hs i c _ e' p).2) hd
/-- .. with a test whose answer is known and which leaves the heap -/
def lcT_str {x : Str} {tt : TT} {te : TE} {vs : List Nat} {σ : L2.St} {H1 : Hp} {D : Addr} {Qd : Hp → Prop} {j : Nat} (b : Nat → Bool) (Pv : Nat → Hp → Prop) (h0 : Pv 0 (upd H1 D (.lst [])))
    (hs : ∀ i c H, x.cps.toList[i]? = some c → Pv i H → wipe ((wipe σ vs).set j (some (.str (sign c)))) vs = wipe σ vs ∧ (∀ Q : Bool → Hp → Prop, Q (b c) H → tt ((wipe σ vs).set j (some (.str (sign c)))) H Q) ∧
      (b c = true → Grows te D (Pv (i + 1)) ((wipe σ vs).set j (some (.str (sign c)))) H) ∧ (b c = false → Pv (i + 1) H)) (hd : ∀ H, Pv x.length H → Qd H) :=
  lcJ (J := Its x) (n := x.length) (g := gName j) (tt := tt) (te := te) (vs := vs) (σ := σ) (H1 := H1) (D := D) (Qd := Qd) Pv h0 (fun i H lt _ => lt) (fun H _ => Nat.le_refl _)
    (fun i H v H' lt p y => by
      obtain ⟨rfl, c, e, rfl⟩ := y
      have e' : x.cps.toList[i]? = some c := by rw [Array.getElem?_toList]; exact e
      obtain ⟨w1, w2, w3, w4⟩ := hs i c _ e' p
      refine ⟨w1, w2 _ ?_⟩
      cases hb : b c with
      | true => exact iteT (w3 hb)
      | false => exact iteF (w4 hb)) hd

/-! ### kinds -/
def kindD : PyData → String
  | .none => "NoneType"
  | .bool _ => "bool"
  | .int _ => "int"
  | .str _ => "str"
  | .list _ => "list"
  | .tuple _ => "tuple"
  | .dict _ => "dict"
theorem da_ty {K : PySem.W.Frag} {p : Addr} {H : Hp} : ∀ {d : PyData} {v : V}, Da K p H v d → TyX K H v (.type (kindD d))
  | _, _, .non => .base .non
  | _, _, .bl b => .base (.bl b)
  | _, _, .int i => .base (.int i)
  | _, _, .str x => .base (.str x)
  | _, _, .lst _ h _ => by
    rcases h with (h | ⟨o, h⟩) | ⟨o, its, n, h, c, _⟩
    · exact .base (.lst h)
    · exact .base (.frz h)
    · exact .kList h c
  | _, _, .tup h _ => by
    rcases h with (h | ⟨o, h⟩) | ⟨o, its, n, h, c, _⟩
    · exact .base (.tup h)
    · exact .fTuple h
    · exact .kTuple h c
  | _, _, .dct _ h _ => .base (.dK h)
def isStr : PyData → Bool
  | .str _ => true
  | _ => false
def isTup : PyData → Bool
  | .tuple _ => true
  | _ => false
def isInt : PyData → Bool
  | .int _ => true
  | .bool _ => true
  | _ => false
def isBool : PyData → Bool
  | .bool _ => true
  | _ => false
theorem kit_str : ∀ d : PyData, kitB (kindD d) "str" = some (isStr d)
  | .none => (show kitB "NoneType" "str" = some false by decide +kernel)
  | .bool _ => (show kitB "bool" "str" = some false by decide +kernel)
  | .int _ => (show kitB "int" "str" = some false by decide +kernel)
  | .str _ => (show kitB "str" "str" = some true by decide +kernel)
  | .list _ => (show kitB "list" "str" = some false by decide +kernel)
  | .tuple _ => (show kitB "tuple" "str" = some false by decide +kernel)
  | .dict _ => (show kitB "dict" "str" = some false by decide +kernel)
theorem kit_tuple : ∀ d : PyData, kitB (kindD d) "tuple" = some (isTup d)
  | .none => (show kitB "NoneType" "tuple" = some false by decide +kernel)
  | .bool _ => (show kitB "bool" "tuple" = some false by decide +kernel)
  | .int _ => (show kitB "int" "tuple" = some false by decide +kernel)
  | .str _ => (show kitB "str" "tuple" = some false by decide +kernel)
  | .list _ => (show kitB "list" "tuple" = some false by decide +kernel)
  | .tuple _ => (show kitB "tuple" "tuple" = some true by decide +kernel)
  | .dict _ => (show kitB "dict" "tuple" = some false by decide +kernel)
theorem kit_int : ∀ d : PyData, kitB (kindD d) "int" = some (isInt d)
  | .none => (show kitB "NoneType" "int" = some false by decide +kernel)
  | .bool _ => (show kitB "bool" "int" = some true by decide +kernel)
  | .int _ => (show kitB "int" "int" = some true by decide +kernel)
  | .str _ => (show kitB "str" "int" = some false by decide +kernel)
  | .list _ => (show kitB "list" "int" = some false by decide +kernel)
  | .tuple _ => (show kitB "tuple" "int" = some false by decide +kernel)
  | .dict _ => (show kitB "dict" "int" = some false by decide +kernel)
theorem kit_bool : ∀ d : PyData, kitB (kindD d) "bool" = some (isBool d)
  | .none => (show kitB "NoneType" "bool" = some false by decide +kernel)
  | .bool _ => (show kitB "bool" "bool" = some true by decide +kernel)
  | .int _ => (show kitB "int" "bool" = some false by decide +kernel)
  | .str _ => (show kitB "str" "bool" = some false by decide +kernel)
  | .list _ => (show kitB "list" "bool" = some false by decide +kernel)
  | .tuple _ => (show kitB "tuple" "bool" = some false by decide +kernel)
  | .dict _ => (show kitB "dict" "bool" = some false by decide +kernel)
section
variable {K : PySem.W.Frag} {p : Addr} {H : Hp} {v : V} {d : PyData} {Q : VK}
theorem isi_str (h : Da K p H v d) (q : Q (.bl (isStr d)) H) : rIsi K [v, .ty "str"] H Q := ⟨v, _, _, _, _, rfl, .ty _, da_ty h, kit_ty (kit_str d), q⟩
theorem isi_tup (h : Da K p H v d) (q : Q (.bl (isTup d)) H) : rIsi K [v, .ty "tuple"] H Q := ⟨v, _, _, _, _, rfl, .ty _, da_ty h, kit_ty (kit_tuple d), q⟩
theorem isi_int (h : Da K p H v d) (q : Q (.bl (isInt d)) H) : rIsi K [v, .ty "int"] H Q := ⟨v, _, _, _, _, rfl, .ty _, da_ty h, kit_ty (kit_int d), q⟩
theorem isi_bool (h : Da K p H v d) (q : Q (.bl (isBool d)) H) : rIsi K [v, .ty "bool"] H Q := ⟨v, _, _, _, _, rfl, .ty _, da_ty h, kit_ty (kit_bool d), q⟩
end
end My
set_option Elab.async false
set_option linter.all false
set_option maxRecDepth 100000
set_option maxHeartbeats 4000000
namespace My
open PySem PySem.Spec PyProof.Rows L2

/-! ### what is a name, an integer, an end, a row -/
def lowC (c : Nat) : Bool := decide (97 ≤ c ∧ c ≤ 122)
def nmS (x : Str) : Bool := decide (1 ≤ x.length ∧ x.length ≤ 8) && x.cps.toList.all lowC
def nmD : PyData → Bool
  | .str x => nmS x
  | _ => false
def intD : PyData → Bool
  | .int _ => true
  | _ => false
theorem mem_abc (c : Nat) : decide (c ∈ abc.cps.toList) = lowC c := by
  rw [abc_codes]
  unfold lowC
  by_cases h : 97 ≤ c ∧ c ≤ 122
  · rw [decide_eq_true h, decide_eq_true (List.mem_map.mpr ⟨c - 97, List.mem_range.mpr (by omega), by omega⟩)]
  · rw [decide_eq_false h, decide_eq_false fun z => ?_]
    obtain ⟨j, hj, rfl⟩ := List.mem_map.mp z
    have := List.mem_range.mp hj
    exact h (by omega)
/-- texts and lists of a length that the model carries -/
def fitS (x : Str) : Prop := x.length ≤ 100000

section
variable {P : Program} {w : World} {K : PySem.W.Frag} {mg : Str → Option Value} {base : Heap} {t1 t2 : Tok}
/-- the names of the module that these defs read -/
structure Glb (mg : Str → Option Value) : Prop where
  isi : mg "isinstance" = none
  int : mg "int" = none
  bool : mg "bool" = none
  str : mg "str" = none
  tuple : mg "tuple" = none
  list : mg "list" = none
  len : mg "len" = none
  all : mg "all" = none
  set : mg "set" = none
  range : mg "range" = none
  abs : mg "abs" = none
  repr : mg "repr" = none
/-- is_name: of any value, for texts of a length that is carried; nothing that is tracked changes -/
def spIsName (K : PySem.W.Frag) : Sp := fun vs H Q _ => ∃ (p : Addr) (v : V) (d : PyData), vs = [v] ∧ Da K p H v d ∧ (∀ x, d = .str x → x.length ≤ 100000) ∧ ∀ H', Same H H' → Q (.bl (nmD d)) H'
theorem str_case {d : PyData} (h : isStr d = true) : ∃ x, d = .str x := by cases d <;> first | exact ⟨_, rfl⟩ | cases h
theorem nm_not {d : PyData} (h : isStr d = false) : nmD d = false := by cases d <;> first | rfl | cases h
theorem all_map (f : Nat → Bool) : ∀ l : List Nat, ((l.map f).all id) = l.all f
  | [] => rfl
  | c :: r => by rw [List.map_cons, List.all_cons, List.all_cons, all_map f r]; rfl
theorem ok_isname {f : Addr} {fd : FuncData} (F : Fun K "is_name" "is_name" sIsName f fd) (B : Glb mg) (g1 : mg "NAME_LENGTH" = some (.int 8 t1)) (g2 : mg "LETTERS" = some (.str abc t2)) : FnOk P w K mg base CX0 1 f fd ["value"] (spIsName K) := by
  refine F.ok scIsName (fun vs H Q E h => ?_) (fun cdv A outer s H vs Q E hr h => ?_)
  · obtain ⟨p, v, d, rfl, _⟩ := h
    rfl
  · obtain ⟨p, v, d, rfl, D, hx, q⟩ := h
    refine ⟨_, pss_cons (ps_if (PW.pt (pw_or (pt_not (pt_val (pe_callB call_isi (by rfl) B.isi boot_isinstance (pa_cons (pv 0) (pa_cons (pe_bltn (v := .ty "str") (by rfl) B.str boot_str rfl) pa_nil)))))
        (pw_or1 (pt_not (pt_chain op_le op_le pe_int (pe_callB call_len (by rfl) B.len PySem.boot_len (pa_cons (pv 0) pa_nil)) (pe_glob (v := .int 8) (by rfl) g1 ⟨_, rfl⟩)))))) (pss_one (ps_ret pe_bl)) pss_nil)
      (pss_one (ps_ret (pe_callB (cr_all rfl) (by rfl) B.all (by decide +kernel) (pa_cons (pe_lc (own := [("letter", 1)]) (g := gName 1) (tt := tYes) rfl scIsName.nd (pi_str (pv 0))
        (blkOk_by (own := [("letter", 1)]) (N := ["value", "letter"]) (sc := defScope sIsName) (by decide +kernel)) (fun _ _ _ _ _ => pg_name (i := 1) scIsName.nd rfl (Or.inl rfl)) (fun _ _ _ _ _ => pts_nil)
        (fun _ _ _ _ _ => pe_cmpR op_in_sign (pv 1) (pe_glob (v := .str abc) (by rfl) g2 ⟨_, rfl⟩) (by rfl))) pa_nil)))), ?_⟩
    refine ⟨_, rfl, v, _, _, _, _, rfl, .ty _, da_ty D, kit_ty (kit_str d), _, rfl, ?_⟩
    cases hi : isStr d with
    | false =>
      refine iteT ?_
      rw [← nm_not hi]
      exact q H (.refl H)
    | true =>
      obtain ⟨x, rfl⟩ := str_case hi
      cases D
      have hxl := hx x rfl
      have e0 : nmD (.str x) = nmS x := rfl
      refine iteF ⟨_, rfl, .str x, x.length, rfl, ⟨Evl.sz_of hxl, rfl⟩, _, _, rfl, rfl, _, rfl, ?_⟩
      have e1 : decide ((1 : Int) ≤ (x.length : Int)) = decide (1 ≤ x.length) := decide_eq_decide.mpr (by omega)
      have e2 : decide ((x.length : Int) ≤ (8 : Int)) = decide (x.length ≤ 8) := decide_eq_decide.mpr (by omega)
      rw [e1]
      by_cases h1 : 1 ≤ x.length
      · rw [decide_eq_true h1]
        refine iteT ⟨_, _, rfl, rfl, _, rfl, ?_⟩
        rw [e2]
        by_cases h8 : x.length ≤ 8
        · rw [decide_eq_true h8]
          refine iteF ⟨_, rfl, x, rfl, fun Dl hD => ?_⟩
          refine lcN_str (x := x) (fun i H' => H' Dl = some (.lst (((x.cps.toList.take i).map lowC).map V.bl)) ∧ Same H H') ⟨upd_same, same_new hD⟩ (fun i c H' hc hp => ⟨rfl, ?_⟩) (fun H' hp => ?_)
          · refine ⟨_, rfl, c, abc, rfl, rfl, _, hp.1, Evl.sz_lt ?_, ?_, ?_⟩
            · rw [List.length_map, List.length_map, List.length_take]
              have := str_len x
              omega
            · rw [upd_same, mem_abc, List.take_add_one, hc, List.map_append, List.map_append]
              rfl
            · intro b o e
              rw [upd_ne (ne_of_none e hD)]
              exact hp.2 b o e
          · obtain ⟨eD, sm⟩ := hp
            rw [str_len, List.take_length] at eD
            refine ⟨Dl, x.cps.toList.map lowC, rfl, .inl (.inl eD), ?_⟩
            rw [all_map]
            have e : x.cps.toList.all lowC = nmD (.str x) := by
              rw [e0, nmS, decide_eq_true ⟨h1, h8⟩]
              rfl
            rw [e]
            exact q H' sm
        · rw [decide_eq_false h8]
          refine iteT ?_
          have e : false = nmD (.str x) := by rw [e0, nmS, decide_eq_false fun z => h8 z.2]; rfl
          rw [e]
          exact q H (.refl H)
      · rw [decide_eq_false h1]
        refine iteF ⟨_, rfl, iteT ?_⟩
        have e : false = nmD (.str x) := by rw [e0, nmS, decide_eq_false fun z => h1 z.1]; rfl
        rw [e]
        exact q H (.refl H)
end
end My
set_option Elab.async false
set_option linter.all false
set_option maxRecDepth 100000
set_option maxHeartbeats 4000000
namespace My
open PySem PySem.Spec PyProof.Rows L2
section
variable {P : Program} {w : World} {K : PySem.W.Frag} {mg : Str → Option Value} {base : Heap}
def spIsInt (K : PySem.W.Frag) : Sp := fun vs H Q _ => ∃ (p : Addr) (v : V) (d : PyData), vs = [v] ∧ Da K p H v d ∧ Q (.bl (intD d)) H
theorem ok_isint {f : Addr} {fd : FuncData} (F : Fun K "is_integer" "is_integer" sIsInt f fd) (B : Glb mg) : FnOk P w K mg base CX0 1 f fd ["value"] (spIsInt K) := by
  refine F.ok scIsInt (fun vs H Q E h => ?_) (fun cdv A outer s H vs Q E hr h => ?_)
  · obtain ⟨p, v, d, rfl, _⟩ := h
    rfl
  · obtain ⟨p, v, d, rfl, D, q⟩ := h
    refine ⟨_, pss_one (ps_ret (pe_and (pe_callB call_isi (by rfl) B.isi boot_isinstance (pa_cons (pv 0) (pa_cons (pe_bltn (v := .ty "int") (by rfl) B.int boot_int rfl) pa_nil)))
      (pe_one (pe_not (pe_callB call_isi (by rfl) B.isi boot_isinstance (pa_cons (pv 0) (pa_cons (pe_bltn (v := .ty "bool") (by rfl) B.bool boot_bool rfl) pa_nil))))))), ?_⟩
    refine ⟨_, rfl, v, _, _, _, _, rfl, .ty _, da_ty D, kit_ty (kit_int d), _, rfl, ?_⟩
    cases hi : isInt d with
    | true =>
      refine iteT ⟨_, rfl, v, _, _, _, _, rfl, .ty _, da_ty D, kit_ty (kit_bool d), _, rfl, ?_⟩
      have e : (!isBool d) = intD d := by cases d <;> first | rfl | cases hi
      rw [e]
      exact q
    | false =>
      refine iteF ?_
      have e : false = intD d := by cases d <;> first | rfl | cases hi
      rw [e]
      exact q
end
end My
set_option Elab.async false
set_option linter.all false
set_option maxRecDepth 100000
set_option maxHeartbeats 4000000
namespace My
open PySem PySem.Spec PyProof.Rows L2
/-- the texts of a value, its lists and dicts are of a length that is carried -/
def Fit : PyData → Prop
  | .str x => x.length ≤ 100000
  | .tuple ds => ds.length ≤ 100000
  | .list ds => ds.length ≤ 100000
  | _ => True
def Fit1 (d : PyData) : Prop := Fit d ∧ ∀ ds, d = .tuple ds → ∀ e ∈ ds, Fit e
def Fit2 (d : PyData) : Prop := Fit d ∧ ∀ ds, d = .tuple ds → ∀ e ∈ ds, Fit1 e
end My
set_option Elab.async false
set_option linter.all false
set_option maxRecDepth 100000
set_option maxHeartbeats 4000000
namespace My
open PySem PySem.Spec PyProof.Rows L2
section
variable {P : Program} {w : World} {K : PySem.W.Frag} {mg : Str → Option Value} {base : Heap} {t1 t2 : Tok}
/-! ### a tuple of a name and a number -/
def inD (ns : List Int) : PyData → Bool
  | .int i => decide (i ∈ ns)
  | _ => false
def withD (ns : List Int) : PyData → Bool
  | .tuple [a, b] => nmD a && (intD b && inD ns b)
  | _ => false
def spIsWith (K : PySem.W.Frag) : Sp := fun vs H Q _ => ∃ (p b : Addr) (v : V) (d : PyData) (ns : List Int), vs = [v, .ref b] ∧ Da K p H v d ∧ Fit1 d ∧ SqT K H b (ns.map V.int) ∧ ∀ H', Same H H' → Q (.bl (withD ns d)) H'
theorem in_ints (i : Int) : ∀ ns : List Int, inV (.int i) (ns.map V.int) = decide (i ∈ ns)
  | [] => rfl
  | n :: r => by
    have ih := in_ints i r
    unfold inV at ih ⊢
    rw [List.map_cons, List.any_cons, ih]
    by_cases e : n = i
    · subst e
      have : eqV (V.int n) (V.int n) = true := by unfold eqV; simp
      simp [this]
    · have : eqV (V.int n) (V.int i) = false := by unfold eqV; simpa using e
      have e' : ¬ i = n := fun z => e z.symm
      simp [this, e']
theorem flat_ints : ∀ ns : List Int, (ns.map V.int).all flatV = true
  | [] => rfl
  | n :: r => by rw [List.map_cons, List.all_cons, flat_ints r]; rfl
theorem ok_iswith {f fI fN : Addr} {fd dI dN : FuncData} (F : Fun K "is_name_with" "is_name_with" sIsWith f fd) (B : Glb mg) (GI : FnOk P w K mg base CX0 1 fI dI ["value"] (spIsInt K)) (gI : mg "is_integer" = some (.ref fI)) (kI : PySem.W.keepIn K (.ref fI) = true) (bI : Binds K dI ["value"] [])
    (GN : FnOk P w K mg base CX0 1 fN dN ["value"] (spIsName K)) (gN : mg "is_name" = some (.ref fN)) (kN : PySem.W.keepIn K (.ref fN) = true) (bN : Binds K dN ["value"] []) : FnOk P w K mg base CX0 2 f fd ["value", "numbers"] (spIsWith K) := by
  refine F.ok scIsWith (fun vs H Q E h => ?_) (fun cdv A outer s H vs Q E hr h => ?_)
  · obtain ⟨p, b, v, d, ns, rfl, _⟩ := h
    rfl
  · obtain ⟨p, b, v, d, ns, rfl, D, hf, hb, q⟩ := h
    refine ⟨_, pss_cons (ps_if (PW.pt (pw_or (pt_not (pt_val (pe_callB call_isi (by rfl) B.isi boot_isinstance (pa_cons (pv 0) (pa_cons (pe_bltn (v := .ty "tuple") (by rfl) B.tuple boot_tuple rfl) pa_nil)))))
        (pw_or1 (pt_cmpR op_ne (pe_callB call_len (by rfl) B.len PySem.boot_len (pa_cons (pv 0) pa_nil)) pe_int (nomark _))))) (pss_one (ps_ret pe_bl)) pss_nil)
      (pss_one (ps_ret (pe_and (pe_call GN hr (by rfl) gN kN bN .nil pass0 (pa_cons (pe_ix ix_tup (pv 0) pe_int (fun _ _ => rfl)) pa_nil))
        (pe_and (pe_call GI hr (by rfl) gI kI bI .nil pass0 (pa_cons (pe_ix ix_tup (pv 0) pe_int (fun _ _ => rfl)) pa_nil))
        (pe_one (pe_cmpR op_in_seq (pe_ix ix_tup (pv 0) pe_int (fun _ _ => rfl)) (pv 1) (by rfl))))))), ?_⟩
    refine ⟨_, rfl, v, _, _, _, _, rfl, .ty _, da_ty D, kit_ty (kit_tuple d), _, rfl, ?_⟩
    cases hi : isTup d with
    | false =>
      refine iteT ?_
      have e : false = withD ns d := by cases d <;> first | rfl | cases hi
      rw [e]
      exact q H (.refl H)
    | true =>
      obtain ⟨ds, rfl⟩ : ∃ ds, d = .tuple ds := by cases d <;> first | exact ⟨_, rfl⟩ | cases hi
      obtain ⟨hf0, hf1⟩ := hf
      cases D with
      | @tup a xs _ hs hd =>
        have hl := hd.length
        refine iteF ⟨_, rfl, .ref a, xs.length, rfl, .inr ⟨_, hs, rfl⟩, rfl, _, rfl, ?_⟩
        by_cases h2 : xs.length = 2
        · rw [h2]
          refine iteF ?_
          obtain ⟨d1, d2, rfl⟩ : ∃ d1 d2, ds = [d1, d2] := by
            rw [h2] at hl
            match ds, hl with
            | [x, y], _ => exact ⟨x, y, rfl⟩
          cases hd with
          | @cons x1 xr _ _ D1 hd =>
            cases hd with
            | @cons x2 xr _ _ D2 hd =>
              cases hd
              have i0 : atI [x1, x2] 0 = some x1 := atI_nat (j := 0) rfl
              have i1 : atI [x1, x2] 1 = some x2 := atI_nat (j := 1) rfl
              refine ⟨_, rfl, a, _, _, _, rfl, rfl, hs, i0, p, x1, d1, rfl, D1, fun x e => (by have := hf1 _ rfl d1 List.mem_cons_self; rw [e] at this; exact this), fun H1 s1 => ⟨_, rfl, ?_⟩⟩
              have ew : withD ns (.tuple [d1, d2]) = (nmD d1 && (intD d2 && inD ns d2)) := rfl
              cases hn : nmD d1 with
              | false =>
                refine iteF ?_
                rw [show false = withD ns (.tuple [d1, d2]) by rw [ew, hn]; rfl]
                exact q H1 s1
              | true =>
                refine iteT ?_
                refine ⟨_, rfl, a, _, _, _, rfl, rfl, s1.keepsT _ _ hs, i1, p, x2, d2, rfl, da_keep s1.keepA D2, _, rfl, ?_⟩
                cases hj : intD d2 with
                | false =>
                  refine iteF ?_
                  rw [show false = withD ns (.tuple [d1, d2]) by rw [ew, hn, hj]; rfl]
                  exact q H1 s1
                | true =>
                  obtain ⟨i, rfl⟩ : ∃ i, d2 = .int i := by cases d2 <;> first | exact ⟨_, rfl⟩ | cases hj
                  cases D2
                  refine iteT ⟨_, rfl, a, _, _, _, rfl, rfl, s1.keepsT _ _ hs, i1, _, rfl, b, _, rfl, .inr (s1.keepsT _ _ hb), rfl, flat_ints ns, ?_⟩
                  show Q (.bl (if false = true then !inV (.int i) (ns.map V.int) else inV (.int i) (ns.map V.int))) H1
                  rw [if_neg Bool.false_ne_true, in_ints, show decide (i ∈ ns) = withD ns (.tuple [d1, .int i]) by rw [ew, hn]; rfl]
                  exact q H1 s1
        · have e1 : decide (V.int (xs.length : Int) = V.int 2) = false := decide_eq_false fun z => h2 (by have := V.int.inj z; omega)
          rw [e1]
          refine iteT ?_
          have e : false = withD ns (.tuple ds) := by
            match ds, hl with
            | [], _ => rfl
            | [_], _ => rfl
            | [_, _], z => exact absurd z h2
            | _ :: _ :: _ :: _, _ => rfl
          rw [e]
          exact q H (.refl H)
end
end My
set_option Elab.async false
set_option linter.all false
set_option maxRecDepth 100000
set_option maxHeartbeats 4000000
namespace My
open PySem PySem.Spec PyProof.Rows L2
open Classical in
theorem withKey_met (xs : List Key) (k : Key) : withKey (inK (metK [] xs)) k = inK (metK [] (xs ++ [k])) := by
  funext j
  unfold withKey inK
  rw [metK_snoc]
  by_cases z : k ∈ metK [] xs
  · rw [if_pos z]
    by_cases e : j = k
    · subst e
      simp [z]
    · simp [e]
  · rw [if_neg z]
    by_cases e : j = k
    · simp [e]
    · simp [e]
open Classical in
theorem more_met (xs : List Key) (k : Key) : more (inK (metK [] xs)) k (metK [] xs).length = (metK [] (xs ++ [k])).length := by
  unfold more inK
  rw [metK_snoc]
  by_cases z : k ∈ metK [] xs
  · rw [if_pos z, if_pos (decide_eq_true z)]
  · rw [if_neg z, if_neg (by simpa using z), List.length_append]
    rfl
def fstK : PyData → Key
  | .tuple (.str x :: _) => .inr x
  | _ => .inl 0
noncomputable def cntK (ds : List PyData) : Nat := (metK [] (ds.map fstK)).length
open Classical in
noncomputable def isRowD : PyData → Bool
  | .tuple ds => decide (ds.length ≤ 30) && (ds.all (withD [1, -1]) && decide (cntK ds = ds.length))
  | _ => false
theorem isRowD_not {d : PyData} (h : isTup d = false) : isRowD d = false := by cases d <;> first | (simp only [isRowD]; done) | cases h
theorem with_shape {ns : List Int} {d : PyData} (h : withD ns d = true) : ∃ x i, d = .tuple [.str x, .int i] ∧ nmS x = true ∧ i ∈ ns := by
  match d, h with
  | .tuple [a, b], h =>
    have h1 : nmD a = true ∧ intD b = true ∧ inD ns b = true := by simpa [withD] using h
    obtain ⟨h1, h2, h3⟩ := h1
    match a, b, h1, h2, h3 with
    | .str x, .int i, h1, _, h3 => exact ⟨x, i, rfl, h1, of_decide_eq_true h3⟩
section
variable {P : Program} {w : World} {K : PySem.W.Frag} {mg : Str → Option Value} {base : Heap} {t1 t2 t3 : Tok}
def spKind (K : PySem.W.Frag) (g : PyData → Bool) : Sp := fun vs H Q _ => ∃ (p : Addr) (v : V) (d : PyData), vs = [v] ∧ Da K p H v d ∧ Fit1 d ∧ ∀ H', Same H H' → Q (.bl (g d)) H'
theorem ok_isdir {f fW : Addr} {fd dW : FuncData} (F : Fun K "is_directed" "is_directed" sIsDir f fd) (GW : FnOk P w K mg base CX0 2 fW dW ["value", "numbers"] (spIsWith K)) (gW : mg "is_name_with" = some (.ref fW)) (kW : PySem.W.keepIn K (.ref fW) = true) (bW : Binds K dW ["value", "numbers"] []) :
    FnOk P w K mg base CX0 3 f fd ["value"] (spKind K (withD [1, -1])) := by
  refine F.ok scIsDir (fun vs H Q E h => ?_) (fun cdv A outer s H vs Q E hr h => ?_)
  · obtain ⟨p, v, d, rfl, _⟩ := h
    rfl
  · obtain ⟨p, v, d, rfl, D, hf, q⟩ := h
    refine ⟨_, pss_one (ps_ret (pe_call GW hr (by rfl) gW kW bW .nil pass0 (pa_cons (pv 0) (pa_cons (pe_tup (pa_cons pe_int (pa_cons (pe_un un_neg pe_int) pa_nil))) pa_nil)))), ?_⟩
    refine ⟨_, rfl, _, rfl, by show 2 ≤ sizeLine; decide, fun b hb => ?_⟩
    have sb := same_new (o := HO.tup [.int 1, .int (-1)]) hb
    exact ⟨p, b, v, d, [1, -1], rfl, da_keep sb.keepA D, hf, .inl (.inl upd_same), fun H' s => q H' (sb.trans s)⟩
def spIsRow (K : PySem.W.Frag) : Sp := fun vs H Q _ => ∃ (p : Addr) (v : V) (d : PyData), vs = [v] ∧ Da K p H v d ∧ Fit2 d ∧ ∀ H', Same H H' → Q (.bl (isRowD d)) H'
theorem all_with (g : PyData → Bool) : ∀ l : List PyData, ((l.map g).all id) = l.all g
  | [] => rfl
  | c :: r => by rw [List.map_cons, List.all_cons, List.all_cons, all_with g r]; rfl
open Classical in
theorem ok_isrow {f fD : Addr} {fd dD : FuncData} (F : Fun K "is_row" "is_row" sIsRow f fd) (B : Glb mg) (g3 : mg "MOST_WAGONS" = some (.int 30 t3)) (GD : FnOk P w K mg base CX0 3 fD dD ["value"] (spKind K (withD [1, -1]))) (gD : mg "is_directed" = some (.ref fD)) (kD : PySem.W.keepIn K (.ref fD) = true)
    (bD : Binds K dD ["value"] []) : FnOk P w K mg base CX0 4 f fd ["value"] (spIsRow K) := by
  refine F.ok scIsRow (fun vs H Q E h => ?_) (fun cdv A outer s H vs Q E hr h => ?_)
  · obtain ⟨p, v, d, rfl, _⟩ := h
    rfl
  · obtain ⟨p, v, d, rfl, D, hf, q⟩ := h
    refine ⟨_, pss_cons (ps_if (PW.pt (pw_or (pt_not (pt_val (pe_callB call_isi (by rfl) B.isi boot_isinstance (pa_cons (pv 0) (pa_cons (pe_bltn (v := .ty "tuple") (by rfl) B.tuple boot_tuple rfl) pa_nil)))))
        (pw_or1 (pt_cmpR op_gt (pe_callB call_len (by rfl) B.len PySem.boot_len (pa_cons (pv 0) pa_nil)) (pe_glob (v := .int 30) (by rfl) g3 ⟨_, rfl⟩) (nomark _))))) (pss_one (ps_ret pe_bl)) pss_nil)
      (pss_cons (ps_if (pt_not (pt_val (pe_callB (cr_all rfl) (by rfl) B.all (by decide +kernel) (pa_cons (pe_lc (own := [("wagon", 1)]) (g := gName 1) (tt := tYes) rfl scIsRow.nd (pi_tup (pv 0))
          (blkOk_by (own := [("wagon", 1)]) (N := ["value", "wagon", "name", "_"]) (sc := defScope sIsRow) (by decide +kernel)) (fun _ _ _ _ _ => pg_name (i := 1) scIsRow.nd rfl (Or.inl rfl)) (fun _ _ _ _ _ => pts_nil)
          (fun _ _ _ _ _ => pe_call GD hr (by rfl) gD kD bD .nil pass0 (pa_cons (pv 1) pa_nil))) pa_nil)))) (pss_one (ps_ret pe_bl)) pss_nil)
      (pss_one (ps_ret (pe_cmpR op_eq (pe_callB call_lenK (by rfl) B.len PySem.boot_len (pa_cons (pe_setc (own := [("name", 2), ("_", 3)]) (g := gTup K 2 (gCons (gName 2) (gCons (gName 3) gNil))) rfl scIsRow.nd (pi_tup (pv 0))
          (blkOk_by (own := [("name", 2), ("_", 3)]) (N := ["value", "wagon", "name", "_"]) (sc := defScope sIsRow) (by decide +kernel))
          (fun _ _ _ _ _ => pg_tup rfl (pgs_cons (pg_name (i := 2) scIsRow.nd rfl (Or.inl rfl) (Or.inr rfl)) (pgs_cons (pg_name (i := 3) scIsRow.nd rfl (Or.inl rfl) (Or.inr rfl)) pgs_nil)))
          (fun _ _ _ _ _ => pv 2)) pa_nil)) (pe_callB call_len (by rfl) B.len PySem.boot_len (pa_cons (pv 0) pa_nil)) (nomark _))))), ?_⟩
    refine ⟨_, rfl, v, _, _, _, _, rfl, .ty _, da_ty D, kit_ty (kit_tuple d), _, rfl, ?_⟩
    cases hi : isTup d with
    | false =>
      refine iteT ?_
      rw [← isRowD_not hi]
      exact q H (.refl H)
    | true =>
      obtain ⟨ds, rfl⟩ : ∃ ds, d = .tuple ds := by cases d <;> first | exact ⟨_, rfl⟩ | cases hi
      obtain ⟨hf0, hf1⟩ := hf
      cases D with
      | @tup a xs _ hs hd =>
        have hl := hd.length
        have er : isRowD (.tuple ds) = (decide (ds.length ≤ 30) && (ds.all (withD [1, -1]) && decide (cntK ds = ds.length))) := rfl
        refine iteF ⟨_, rfl, .ref a, xs.length, rfl, .inr ⟨_, hs, rfl⟩, _, _, rfl, rfl, _, rfl, ?_⟩
        by_cases h30 : ds.length ≤ 30
        · rw [decide_eq_false (by omega)]
          refine iteF ⟨_, rfl, a, rfl, ⟨_, hs⟩, fun Dl hD => ?_⟩
          refine lcN_tup (K := K) (a := a) (xs := xs) (fun i H' => H' Dl = some (.lst (((ds.take i).map (withD [1, -1])).map V.bl)) ∧ Same H H') ⟨upd_same, same_new hD⟩ (fun i H' _ hp => hp.2.keepsT _ _ hs) (fun i x H' hx hp => ⟨rfl, ?_⟩) (fun H' hp => ?_)
          · obtain ⟨e, he, De⟩ := hd.at hx
            refine ⟨_, rfl, p, x, e, rfl, da_keep hp.2.keepA De, hf1 ds rfl e (List.mem_of_getElem? he), fun H2 s2 => ?_⟩
            refine ⟨_, s2 _ _ hp.1, Evl.sz_lt ?_, ?_, ?_⟩
            · rw [List.length_map, List.length_map, List.length_take]
              omega
            · rw [upd_same, List.take_add_one, he, List.map_append, List.map_append]
              rfl
            · intro b o z
              rw [upd_ne (ne_of_none z hD)]
              exact s2 b o (hp.2 b o z)
          · obtain ⟨eD, sm⟩ := hp
            rw [hl, List.take_length] at eD
            refine ⟨Dl, ds.map (withD [1, -1]), rfl, .inl (.inl eD), _, rfl, ?_⟩
            rw [all_with]
            cases ha : ds.all (withD [1, -1]) with
            | false =>
              refine iteT ?_
              rw [show false = isRowD (.tuple ds) by rw [er, ha, decide_eq_true h30]; rfl]
              exact q H' sm
            | true =>
              have hs' : SqT K H' a xs := sm.keepsT _ _ hs
              refine iteF ⟨_, rfl, a, rfl, ⟨_, hs'⟩, fun Ds hDs => ?_⟩
              refine setc_tup (K := K) (a := a) (xs := xs) (fun i H2 => H2 Ds = some (SetK P w Ds (inK (metK [] ((ds.map fstK).take i))) (metK [] ((ds.map fstK).take i)).length) ∧ Same H' H2)
                ⟨?_, same_new hDs⟩ (fun i H2 _ hp => hp.2.keepsT _ _ hs') (fun i x H2 hx hp => ?_) (fun H2 hp => ?_)
              · rw [upd_same]
                congr 2
                funext k
                simp [noKeys, inK, metK]
              · obtain ⟨e, he, De⟩ := hd.at hx
                obtain ⟨nm, dir, rfl, _, _⟩ := with_shape (List.all_eq_true.mp ha e (List.mem_of_getElem? he))
                have sm2 : Same H H2 := sm.trans hp.2
                have De' := da_keep (p := p) sm2.keepA De
                cases De' with
                | @tup b ys _ hb hy =>
                  cases hy with
                  | cons y1 hy =>
                    cases hy with
                    | cons y2 hy =>
                      cases hy
                      cases y1
                      cases y2
                      refine ⟨b, _, rfl, hb, rfl, _, _, rfl, _, _, rfl, rfl, rfl, ?_⟩
                      have few := len_metK_le ((ds.map fstK).take i) []
                      rw [List.length_take, List.length_nil] at few
                      refine ⟨_, rfl, .inr nm, _, _, rfl, hp.1, by unfold scanBound; rw [List.length_map] at few; omega, ?_, ?_⟩
                      · rw [upd_same, withKey_met, more_met]
                        have e2 : (ds.map fstK).take i ++ [Sum.inr nm] = (ds.map fstK).take (i + 1) := by
                          rw [List.take_add_one, List.getElem?_map, he]
                          rfl
                        rw [e2]
                        rfl
                      · intro b o z
                        rw [upd_ne (ne_of_none z hDs)]
                        exact hp.2 b o z
              · obtain ⟨eS, s2⟩ := hp
                have lk : (ds.map fstK).length = xs.length := by rw [List.length_map, hl]
                rw [← lk, List.take_length] at eS
                have few := len_metK_le (ds.map fstK) []
                refine ⟨Ds, _, _, rfl, eS, by rw [List.length_nil] at few; omega, _, rfl, .ref a, xs.length, rfl, .inr ⟨_, (sm.trans s2).keepsT _ _ hs, rfl⟩, rfl, ?_⟩
                have ee : decide (V.int ((metK [] (ds.map fstK)).length : Int) = V.int (xs.length : Int)) = isRowD (.tuple ds) := by
                  rw [er, ha, decide_eq_true h30]
                  show _ = (true && (true && decide (cntK ds = ds.length)))
                  rw [Bool.true_and, Bool.true_and]
                  refine decide_eq_decide.mpr ⟨fun z => ?_, fun z => ?_⟩
                  · have := V.int.inj z
                    unfold cntK
                    omega
                  · unfold cntK at z
                    rw [z, hl]
                rw [ee]
                exact q H2 (sm.trans s2)
        · rw [decide_eq_true (by omega)]
          refine iteT ?_
          rw [show false = isRowD (.tuple ds) by rw [er, decide_eq_false h30]; rfl]
          exact q H (.refl H)
end
end My
set_option Elab.async false
set_option linter.all false
set_option maxRecDepth 100000
set_option maxHeartbeats 4000000
/-! t[::-1] of a tuple -/
namespace My
open PySem PySem.Spec PyProof.Rows L2 HT
section
variable {prog : Program} {w : World} {A : Around} {E : Value → Shared → Prop} {s : Shared}
theorem adj_rev (n : Nat) : Builtin.Slice.sliceAdjust none none (-1) (n : Int) = ((n : Int) - 1, -1) := rfl
theorem places_rev (n : Nat) : Builtin.Slice.slicePlaces ((n : Int) - 1) (-1) (-1) = n := by
  unfold Builtin.Slice.slicePlaces
  rw [if_neg (by decide)]
  split
  · rw [show (-(-1) : Int) = 1 by decide, Int.ediv_one]
    omega
  · omega
theorem fm_map {α β : Type} (f : α → Option β) (g : α → β) : ∀ l : List α, (∀ a ∈ l, f a = some (g a)) → l.filterMap f = l.map g
  | [], _ => rfl
  | a :: r, h => by rw [List.filterMap_cons_some (h a List.mem_cons_self), List.map_cons, fm_map f g r fun b hb => h b (List.mem_cons_of_mem _ hb)]
theorem pick_rev (xs : Array Value) : ((List.range xs.size).filterMap fun (m : Nat) => xs[((xs.size : Int) - 1 + (m : Int) * (-1)).toNat]?).toArray = xs.toList.reverse.toArray := by
  congr 1
  apply List.ext_getElem?
  intro j
  have hl : ((List.range xs.size).filterMap fun (m : Nat) => xs[((xs.size : Int) - 1 + (m : Int) * (-1)).toNat]?) = (List.range xs.size).map fun m => xs.toList.getD (xs.size - 1 - m) .none := by
    refine fm_map _ _ _ fun m hm => ?_
    have hm := List.mem_range.mp hm
    have e : ((xs.size : Int) - 1 + (m : Int) * (-1)).toNat = xs.size - 1 - m := by omega
    rw [e, Array.getElem?_eq_getElem (by omega)]
    simp [List.getD_eq_getElem?_getD, Array.getElem?_toList, Array.getElem?_eq_getElem (show xs.size - 1 - m < xs.size by omega)]
  rw [hl]
  by_cases hj : j < xs.size
  · rw [List.getElem?_map, List.getElem?_range hj, List.getElem?_reverse (by simpa using hj), Option.map_some, List.getD_eq_getElem?_getD, List.getElem?_eq_getElem (by simp; omega)]
    simp only [Option.getD_some]
    rw [List.getElem?_eq_getElem (by simp; omega)]
    congr 1
  · rw [List.getElem?_eq_none (by simp; omega), List.getElem?_eq_none (by simp; omega)]
theorem applied_rev {sl : Addr} {vl vu vs : Value} {n : Nat} {Q : Int × Int × Nat → Shared → Prop} (hs : s.heap.IsSliceOf sl vl vu vs) (pl : IsPart vl none) (pu : IsPart vu none) (ps : IsPart vs (some (-1))) (h : Q ((n : Int) - 1, -1, n) s) :
    wpAny (model prog w) A (Builtin.Slice.sliceApplied (.ref sl) (pure (n : Int))) Q E s := by
  obtain ⟨os, hos, hcs, hds⟩ := id hs
  unfold Builtin.Slice.sliceApplied Builtin.Slice.sliceFields
  refine wpAny_bind (wpAny_bind (wpAny_field hos hds (x := vl) rfl (wpAny_bind (wpAny_field hos hds (x := vu) rfl (wpAny_bind (wpAny_field hos hds (x := vs) rfl (wpAny_pure ?_)))))))
  refine wpAny_bind (slicePart_ ps ?_)
  show wpAny _ _ (if ((-1 : Int) == 0) = true then _ else _) _ _ s
  rw [if_neg (by decide)]
  refine wpAny_bind (slicePart_ pl (wpAny_bind (slicePart_ pu (wpAny_bind (wpAny_pure ?_)))))
  show wpAny _ _ (pure ((n : Int) - 1, (-1 : Int), Builtin.Slice.slicePlaces ((n : Int) - 1) (-1) (-1))) _ _ s
  rw [places_rev]
  exact wpAny_pure h
theorem get_rev {t sl : Addr} {items : Array Value} {vl vu vs : Value} {Q : Value → Shared → Prop} (ht : IsTup s.heap t items) (hs : s.heap.IsSliceOf sl vl vu vs) (pl : IsPart vl none) (pu : IsPart vu none) (ps : IsPart vs (some (-1)))
    (h : Q (.ref s.heap.objs.size) { s with heap := s.heap.push { cls := .type "tuple", data := .seq items.toList.reverse.toArray } }) (hsz : items.size ≤ sizeLine) : wpAny (model prog w) A (getItem (.ref t) (.ref sl)) Q E s := by
  have ok : sizeOk (.seq items.toList.reverse.toArray) := by
    show items.toList.reverse.toArray.size ≤ sizeLine
    rw [List.size_toArray, List.length_reverse, Array.length_toList]
    exact hsz
  obtain ⟨os, hos, hcs, hds⟩ := id hs
  have hTs : s.TypeIs (.ref sl) "slice" := ⟨os, hos, hcs⟩
  unfold getItem
  try with_reducible refine wpAny_holding ?_
  first | refine wpAny_bind (wpAny_pure ?_) | skip
  refine wpAny_bind (wpAny_sequenceKey ht.typeIs (by decide) ?_)
  refine wpAny_bind (wpAny_callSpecial?_slot (name := Str.ofString "__getitem__") ht.typeIs PyProof.Rows.slot_tuple_getitem
    (wpAny_call_entry PyProof.Rows.slot_tuple_getitem ht.typeIs entry_tuple_getitem ?_ (args_tuple_getitem _ _)))
  show wpAny _ _ (Builtin.Tuple.tupleItemsOf (.ref t) >>= _) _ _ s
  refine wpAny_bind (tupleItemsOf_ ht ?_)
  refine wpAny_bind (wpAny_typeOf hTs ?_)
  rw [if_pos (by decide)]
  refine wpAny_bind (applied_rev hs pl pu ps ?_)
  have no : ¬ (((items.size : Int) - 1 == 0 && (-1 : Int) == 1 && items.size == items.size) = true) := by simp
  show wpAny _ _ (if ((items.size : Int) - 1 == 0 && (-1 : Int) == 1 && items.size == items.size) = true then _ else _) _ _ s
  rw [if_neg no, pick_rev]
  first
    | exact wpAny_bind (m := Builtin.Tuple.tupleExact _) (wpAny_newObj_type (wpAny_pure ⟨_, rfl, wpAny_pure h⟩) ok)
    | exact wpAny_bind (m := Builtin.Tuple.tupleExact _) (wpAny_newObj_type (wpAny_bind (wpAny_pure (wpAny_pure ⟨_, rfl, wpAny_pure h⟩))) ok)
end
def tRevT (K : PySem.W.Frag) (te : TE) : TE := fun σ H Q => te σ H fun x H1 => ∃ a xs, x = .ref a ∧ SqT K H1 a xs ∧ ∀ p, H1 p = none → Q (.ref p) (upd H1 p (.tup xs.reverse))
section
variable {X : Cx}
theorem pe_revT {e : Expr} {te : TE} {k : Nat} {p1 p2 p3 pos : Pos} (he : PE X e te) : PE X (.Subscript e (.Slice none none (some (.UnaryOp .USub (.Constant (.int 1) k p1) p2)) p3) pos) (tRevT X.K te) := by
  refine ⟨fun pins s σ H Q I h => ?_⟩
  refine Subscript_ (thn (he.run pins s σ H _ I h) fun v s1 ⟨x, H1, I1, r1, q1⟩ => ?_)
  obtain ⟨a, xs, ex, hx, q⟩ := q1
  subst ex
  cases r1
  have hst : PO X (some (.UnaryOp .USub (.Constant (.int 1) k p1) p2)) (tPart (tUn (rU fun i => .int (-i)) (tC (.int 1)))) := po_some (pe_un un_neg pe_int)
  refine wpAny_Slice (thn (po_none.run pins s1 σ H1 (fun o H2 => o = none ∧ H2 = H1) I1 ⟨rfl, rfl⟩) fun vl s2 ⟨l, H2, I2, pl, el, e2⟩ => ?_)
  subst el e2
  refine thn (po_none.run pins s2 σ H2 (fun o H3 => o = none ∧ H3 = H2) I2 ⟨rfl, rfl⟩) fun vu s3 ⟨u, H3, I3, pu, eu, e3⟩ => ?_
  subst eu e3
  refine thn (hst.run pins s3 σ H3 (fun o H4 => o = some (-1) ∧ H4 = H3) I3 ⟨1, rfl, -1, rfl, rfl, rfl⟩) fun vs s4 ⟨o, H4, I4, ps, eo, e4⟩ => ?_
  subst eo e4
  have I5 : Inv X pins σ H4 { s4 with heap := s4.heap.push { cls := .type "slice", data := .fields #[vl, vu, vs] } } := I4.kept (t' := s4.toks) fun b ob q => Heap.get?_push_of_some _ q
  obtain ⟨its, r, ht, hz⟩ := I5.tuple hx
  have hlen := r.length
  show wpAny (model X.prog X.w) X.A (subscriptTail e (.Slice none none (some (.UnaryOp .USub (.Constant (.int 1) k p1) p2)) p3) (.ref a) (.ref s4.heap.objs.size)) (EP X pins σ Q) X.xe { s4 with heap := s4.heap.push { cls := .type "slice", data := .fields #[vl, vu, vs] } }
  refine tail_any (ops := [.ref a, .ref s4.heap.objs.size]) ht.typeIs (PyProof.Rows.slot_tuple_getitem.lookup) ?_ (by with_unfolding_all rfl)
  refine get_rev ht (Heap.IsSliceOf.new _ vl vu vs) pl pu ps ?_ (by rw [List.size_toArray]; omega)
  refine ⟨.ref _, _, I5.laid (t' := s4.toks) (o := .tup xs.reverse) (fun b ob q => Heap.get?_push_of_some _ q) (Nat.le_refl _) ?_, rfl, q _ (I5.hok.fresh (Nat.le_refl _))⟩
  exact ⟨by rw [List.length_reverse]; exact hz, _, r.reverse, IsTup.new _ _⟩
end
end My
set_option Elab.async false
set_option linter.all false
set_option maxRecDepth 100000
set_option maxHeartbeats 4000000
/-! (name, direction) in a row, row.index((name, direction)), == of such pairs, the least of some texts -/
namespace My
open PySem PySem.Spec PyProof.Rows L2
theorem dw_eqv (p q : Str × Int) : PyData.eqv (dwD p) (dwD q) = decide (p = q) := by
  obtain ⟨a, b⟩ := p
  obtain ⟨c, d⟩ := q
  show ((a == c) && ((b == d) && true)) = _
  rw [Bool.and_true, Bool.eq_iff_iff, Bool.and_eq_true, beq_iff_eq, beq_iff_eq, decide_eq_true_iff, Prod.mk.injEq]
/-- the names can be laid -/
def LayR (r : List (Str × Int)) : Prop := ∀ x ∈ r, PyData.strOk x.1 = true
theorem lay_dw {p : Str × Int} (h : PyData.strOk p.1 = true) : (dwD p).canLay0 = true := by
  show (PyData.strOk p.1 && (true && true)) = true
  rw [h]
  rfl
theorem lay_row : ∀ {r : List (Str × Int)}, LayR r → PyData.canLayAll0 (r.map dwD) = true
  | [], _ => rfl
  | x :: r, h => by
    show ((dwD x).canLay0 && PyData.canLayAll0 (r.map dwD)) = true
    rw [lay_dw (h x List.mem_cons_self), lay_row fun y hy => h y (List.mem_cons_of_mem _ hy)]
    rfl
theorem depth_dw (p : Str × Int) : (dwD p).depth = 1 := rfl
theorem any_dw (q : Str × Int) : ∀ r : List (Str × Int), ((r.map dwD).any fun z => PyData.eqv z (dwD q)) = decide (q ∈ r)
  | [] => rfl
  | x :: r => by
    rw [List.map_cons, List.any_cons, any_dw q r, dw_eqv, Bool.eq_iff_iff, Bool.or_eq_true, decide_eq_true_iff, decide_eq_true_iff, decide_eq_true_iff, List.mem_cons]
    exact or_congr ⟨fun e => e.symm, fun e => e.symm⟩ Iff.rfl
section
variable {X : Cx}
/-- what stands behind such a tuple -/
theorem row_reads {pins : List (Addr × Obj)} {σ : L2.St} {H : Hp} {s : Shared} {a : Addr} {r : List (Str × Int)} (I : Inv X pins σ H s) (h : Dt X.K H (.ref a) (rowD r)) :
    ∃ (its : List Value) (as : List Addr), s.heap.IsTuple a its.toArray ∧ ReadsAll s.heap its (r.map dwD) as ∧ its.length = r.length := by
  cases h with
  | tup hs hd =>
    obtain ⟨its, rv, ⟨o, ho, hc, n, hdd⟩, _⟩ := I.tuple hs
    obtain ⟨as, ra⟩ := Dp.readsAll I (r.map dwD) _ its (dt_dpAll hd) rv
    have e := SeqAt.ReadsAll.length (r.map dwD) its as ra
    rw [List.length_map] at e
    exact ⟨its, as, ⟨o, ho, hc, n, hdd⟩, ra, e⟩
def rInRow (K : PySem.W.Frag) (neg : Bool) : R2 := fun x y H Q => ∃ (q : Str × Int) (a : Addr) (r : List (Str × Int)), y = .ref a ∧ Dt K H x (dwD q) ∧ Dt K H (.ref a) (rowD r) ∧ PyData.strOk q.1 = true ∧ LayR r ∧ Q (.bl (if neg then !decide (q ∈ r) else decide (q ∈ r))) H
theorem items_row {pins : List (Addr × Obj)} {σ : L2.St} {H : Hp} {s : Shared} {x : V} {v : Value} {q : Str × Int} {r : List (Str × Int)} {its : List Value} {as : List Addr} {A : Around} (hu : A.units + 65 < cLine) (I : Inv X pins σ H s) (rx : RelV x v) (hx : Dt X.K H x (dwD q)) (ra : ReadsAll s.heap its (r.map dwD) as)
    (hq : PyData.strOk q.1 = true) (hr : LayR r) : ∀ y, y ∈ its.toArray → SeqAt.EqAt A.in1 s y v (PyData.eqv (SeqAt.readOf s.heap y) (dwD q)) := by
  obtain ⟨bs, rb⟩ := Dp.reads I (dwD q) x v (dt_dp hx) rx
  refine SeqAt.items_eqAt (vs := its.toArray) ra rb (lay_row hr) (lay_dw hq) ?_
  have : min (PyData.depthAll (r.map dwD)) (dwD q).depth ≤ 1 := Nat.min_le_right _ _
  omega
theorem op_inRow (hu : X.A.units + 65 < cLine) : OpR X (compareOp .In) (rInRow X.K false) := by
  intro pins s σ H x y v u Q I rx ry ⟨q, a, r, ey, hx, hy, lq, lr, k⟩
  subst ey
  cases ry
  obtain ⟨its, as, tp, ra, le⟩ := row_reads I hy
  refine SeqAt.in_tupleAt (fun z => PyData.eqv (SeqAt.readOf s.heap z) (dwD q)) tp (items_row hu I rx hx ra lq lr) ⟨.bl _, H, I, rfl, ?_⟩
  rw [show its.toArray.any (fun z => PyData.eqv (SeqAt.readOf s.heap z) (dwD q)) = decide (q ∈ r) by
    rw [← any_dw, ← SeqAt.readsAll_map (r.map dwD) its as (lay_row lr) ra]
    simp
    rfl]
  exact k
theorem op_notInRow (hu : X.A.units + 65 < cLine) : OpR X (compareOp .NotIn) (rInRow X.K true) := by
  intro pins s σ H x y v u Q I rx ry ⟨q, a, r, ey, hx, hy, lq, lr, k⟩
  subst ey
  cases ry
  obtain ⟨its, as, tp, ra, le⟩ := row_reads I hy
  refine SeqAt.notIn_tupleAt (fun z => PyData.eqv (SeqAt.readOf s.heap z) (dwD q)) tp (items_row hu I rx hx ra lq lr) ⟨.bl _, H, I, rfl, ?_⟩
  rw [show its.toArray.any (fun z => PyData.eqv (SeqAt.readOf s.heap z) (dwD q)) = decide (q ∈ r) by
    rw [← any_dw, ← SeqAt.readsAll_map (r.map dwD) its as (lay_row lr) ra]
    simp
    rfl]
  exact k
/-- row.index((name, direction)), there -/
def rIxRow (K : PySem.W.Frag) : V → List V → Hp → VK → Prop := fun x xs H Q => ∃ (q : Str × Int) (y : V) (a : Addr) (r : List (Str × Int)), x = .ref a ∧ xs = [y] ∧ Dt K H y (dwD q) ∧ Dt K H (.ref a) (rowD r) ∧ PyData.strOk q.1 = true ∧ LayR r ∧ q ∈ r ∧ Q (.int (@List.idxOf _ instBEqOfDecidableEq q r : Nat)) H
theorem mt_ixRow (hu : X.A.units + 65 < cLine) : MtR X "tuple.index" (rIxRow X.K) := by
  intro pins s σ H x xs v us Q I rx rxs ⟨q, y, a, r, ex, exs, hy, hr, lq, lr, hm, k⟩
  subst ex exs
  cases rx
  obtain ⟨u, rfl, ry⟩ := vals1 rxs
  obtain ⟨its, as, tp, ra, le⟩ := row_reads I hr
  have eqs := items_row (A := X.A) hu I ry hy ra lq lr
  have mp := SeqAt.readsAll_map (r.map dwD) its as (lay_row lr) ra
  refine PySem.SeqAt.call_tuple_index (ks := r) (k := q) tp ⟨le, fun j h1 h2 => ?_⟩ hm ⟨.int _, H, I.tok _, ⟨_, rfl⟩, k⟩
  have e1 := eqs its[j] (by simp)
  have e2 : SeqAt.readOf s.heap its[j] = dwD r[j] := by
    have : (its.map (SeqAt.readOf s.heap))[j]? = (r.map dwD)[j]? := by rw [mp]
    rw [List.getElem?_map, List.getElem?_map, List.getElem?_eq_getElem h1, List.getElem?_eq_getElem h2] at this
    exact Option.some.inj this
  rw [e2, dw_eqv] at e1
  exact e1
end
end My
set_option Elab.async false
set_option linter.all false
set_option maxRecDepth 100000
set_option maxHeartbeats 4000000
/-! min of a list of texts -/
namespace My
open PySem PySem.Spec PyProof.Rows L2
/-- the first of the least of y :: t -/
abbrev minS (y : Str) (t : List Str) : Str := PySem.W.minOf y t
def ltS (a b : Str) : Bool := decide (a.cps.toList < b.cps.toList)
theorem minS_mem : ∀ (t : List Str) (y : Str), minS y t ∈ y :: t
  | [], y => List.mem_cons_self
  | z :: t, y => by
    have ih := minS_mem t (if ltS z y = true then z else y)
    show minS (if ltS z y = true then z else y) t ∈ _
    rcases List.mem_cons.mp ih with e | e
    · rw [e]
      split
      · exact List.mem_cons_of_mem _ List.mem_cons_self
      · exact List.mem_cons_self
    · exact List.mem_cons_of_mem _ (List.mem_cons_of_mem _ e)
theorem ltS_le {a b c : Str} (h1 : ltS a b = true) (h2 : ltS c b = false) : ltS c a = false := by
  unfold ltS at *
  have h1 := of_decide_eq_true h1
  have h2 := of_decide_eq_false h2
  exact decide_eq_false fun z => h2 (List.lt_trans z h1)
theorem minS_le : ∀ (t : List Str) (y : Str), ∀ x ∈ y :: t, ltS x (minS y t) = false
  | [], y, x, hx => by
    rw [List.mem_singleton.mp hx]
    exact decide_eq_false (List.lt_irrefl _)
  | z :: t, y, x, hx => by
    have ih := minS_le t (if ltS z y = true then z else y)
    show ltS x (minS (if ltS z y = true then z else y) t) = false
    cases hz : ltS z y with
    | true =>
      rw [if_pos rfl]
      rw [hz, if_pos rfl] at ih
      rcases List.mem_cons.mp hx with rfl | hx
      · have hm := ih z List.mem_cons_self
        unfold ltS at *
        have hz := of_decide_eq_true hz
        have hm := of_decide_eq_false hm
        exact decide_eq_false fun q => hm (List.lt_trans hz q)
      · exact ih x hx
    | false =>
      rw [if_neg Bool.false_ne_true]
      rw [hz, if_neg Bool.false_ne_true] at ih
      rcases List.mem_cons.mp hx with rfl | hx
      · exact ih x List.mem_cons_self
      · rcases List.mem_cons.mp hx with rfl | hx
        · have hm := ih y List.mem_cons_self
          unfold ltS at *
          have hz := of_decide_eq_false hz
          have hm := of_decide_eq_false hm
          exact decide_eq_false (List.not_lt.mpr (List.le_trans (List.not_lt.mp hm) (List.not_lt.mp hz)))
        · exact ih x (List.mem_cons_of_mem _ hx)
section
variable {X : Cx}
theorem reads_strs {h : Heap} : ∀ {ys : List Str} {its : List Value}, Vals (ys.map V.str) its → ∃ as, ReadsAll h its (ys.map PyData.str) as
  | [], _, r => by cases r; exact ⟨_, .nil⟩
  | y :: ys, _, r => by
    cases r with
    | cons r1 r2 =>
      obtain ⟨t, rfl⟩ := r1
      obtain ⟨as, h2⟩ := reads_strs (h := h) r2
      exact ⟨_, .cons (.str y t) h2⟩
theorem call_minS (hc : X.calm = true) (hu : X.A.units + 65 < cLine) : CallR X (.builtin "min") (fun xs H Q => ∃ (p : Addr) (y : Str) (t : List Str), xs = [.ref p] ∧ SqL X.K H p ((y :: t).map V.str) ∧ Q (.str (minS y t)) H) := by
  intro pins s σ H xs us Q I r ⟨p, y, t, ex, hs, q⟩
  subst ex
  obtain ⟨u, rfl, r1⟩ := vals1 r
  cases r1
  obtain ⟨its, rv, ⟨o, n, ho, hcl, _, hd⟩, hz⟩ := I.list hs
  obtain ⟨as, ra⟩ := reads_strs (h := s.heap) rv
  refine PySem.W.min_list_datum (α := Str) (x := y) (xs := t) (I.ok.hd hc) ⟨o, ho, hcl, n, hd⟩ ⟨as, ra⟩ (by show X.A.units + 1 + 0 < cLine; omega) fun i v h' tk hi hv k => ?_
  obtain ⟨bs, rd⟩ := hv
  have rd : Reads h' v (.str (minS y t)) bs := rd
  cases rd with
  | str _ tt => exact ⟨.str _, H, I.kept k, ⟨_, rfl⟩, q⟩
end
end My
set_option Elab.async false
set_option linter.all false
set_option maxRecDepth 100000
set_option maxHeartbeats 4000000
/-! super().__init__(..) as the first statement of an own class's __init__ -/
namespace My
open PySem PySem.Spec PyProof.Rows L2 NdefX
section
variable {P : Program} {w : World} {K : PySem.W.Frag} {mg : Str → Option Value} {base : Heap}
/-- what the top has written of such an __init__, at f, of the class at C, whose next __init__ stands at g -/
structure SupFn (P : Program) (K : PySem.W.Frag) (mg : Str → Option Value) (F : NF) (ps : List Str) (f C g cc : Addr) (fd : FuncData) : Prop where
  ex : ∃ (oc kV doc pm ct : Value) (od an : Option Addr) (osl : Array (Option Value)), fd = PySem.W.fnX F.name F.qual F.params F.body F.scope F.cl .none kV doc pm an (.ref F.c) ct ∧ K.lookup f = some ⟨oc, od, .func fd, osl⟩
  cl : F.cl = [(("__class__" : Str), cc)]
  code : PySem.W.codeIn K (.ref F.c) F.qual = true
  rcd : ∃ (ccl : Value) (cdd : Option Addr) (vs : Array Value) (ccs : Array (Option Value)) (file : Str) (tf : Tok), K.lookup F.c = some ⟨ccl, cdd, .fields vs, ccs⟩ ∧ vs[2]? = some (.str file tf) ∧ ((P.main.file : Str) == file) = true
  par : ∃ ar, (F.params.posonlyargs ++ F.params.args).head? = some ar ∧ ps[0]? = some ar.arg
  sup : F.scope.names.lookup ("super" : Str) = some .globalImplicit
  cell : ∃ (cl : Value) (cld : Option Addr) (csl : Array (Option Value)), K.lookup cc = some ⟨cl, cld, .cell (some (.ref C)), csl⟩
  cls : ∃ cd, PySem.W.clsIn K C = some cd
  sub : PySem.W.mroIn K C (.ref C) = some true
  nxt : PySem.W.ks_superIn K C C "__init__" = some (some (.ref g))
  fn : PySem.W.fnIn K g = true
  ty : PySem.W.typeIn K (.ref g) = some (.type "function")
  any : PySem.W.nsIn K cStatics "thirdparty.any" = some none
  free : mg "super" = none
  top : (P.main.scope.names.lookup ("super" : Str)).isSome = false
theorem cells_sup {F : NF} {ps : List Str} {f C g cc : Addr} {fd : FuncData} {A : Around} {stk : List Env} {s : Shared} {H : Hp} (T : SupFn P K mg F ps f C g cc fd) (e0 : Env0 P w K mg base A stk s H) : CellsAt F.cl [("__class__" : Str)] [none] s.heap H := by
  obtain ⟨cl, cld, csl, hk⟩ := T.cell
  have hb := e0.mod.kin _ _ hk
  have hs := e0.bs _ _ hb
  have one : ∀ (y : Str) (c : Addr), F.cl.lookup y = some c → y = ("__class__" : Str) ∧ c = cc := fun y c e => by
    rw [T.cl] at e
    by_cases h : y = ("__class__" : Str)
    · subst h
      exact ⟨rfl, (Option.some.inj e).symm⟩
    · have : ([(("__class__" : Str), cc)] : List (Str × Addr)).lookup y = none := by
        simp only [List.lookup]
        split
        · rename_i z
          exact absurd (eq_of_beq z) h
        · rfl
      rw [this] at e
      cases e
  refine ⟨rfl, fun y c e => ?_, fun x y c e1 e2 => (one x c e1).1.trans (one y c e2).1.symm, fun i y e => ?_⟩
  · rw [(one y c e).2]
    exact ⟨hs.2, _, _, hs.1, rfl⟩
  · have : i = 0 := by
      have := (List.getElem?_eq_some_iff.mp e).1
      simp at this
      exact this
    subst this
    cases e
    refine ⟨cc, by rw [T.cl]; rfl, fun v z => ?_⟩
    cases z
/-- a def whose body begins super().__init__(e) -/
theorem fn_super {F : NF} {N ps : List Str} {f C g cc : Addr} {fd gd : FuncData} {gps : List Str} {k : Nat} {sp spI : Sp} {e : Expr} {rest : List Stmt} {p0 p1 p2 p3 p4 : Pos} (T : SupFn P K mg F ps f C g cc fd) (S : NScope N ps [("__class__" : Str)] F.scope)
    (hb : F.body = .Expr (.Call (.Attribute (.Call (.Name "super" p0) [] [] p1) "__init__" p2) [e] [] p3) p4 :: rest) (GI : FnOk P w K mg base CX0 k g gd gps spI) (bI : Binds K gd gps []) (len : ∀ vs H Q E, sp vs H Q E → vs.length = ps.length)
    (hbody : ∀ (A : Around) (stk : List Env) (s : Shared) (H : Hp) (vs : List V) (Q : VK) (E : XK), Room k (A.deeper (envF F f s.heap.objs.size)) → sp vs H Q E →
      ∃ ta t, PA (ncx CX0 P w K mg base N F f A stk s H E).nox [e] ta ∧ PSs (ncx CX0 P w K mg base N F f A stk s H E).nox rest t ∧ ∃ x dx fs, vs[0]? = some (.ref x) ∧ H x = some (.ins C dx fs) ∧
        ta (startF N vs [none]) H fun ws H1 => spI (.ref x :: ws) H1 (fun _ H2 => t { nx := fun _ H' => Q .non H', rt := Q } (startF N vs [none]) H2) E0)
    (he : ∀ env : Env, starEach [e] env = (false, eval e env) :: starEach [] env)
    (hcall : ∀ env : Env, ∃ pl : Sem Bool, eval (.Call (.Attribute (.Call (.Name "super" p0) [] [] p1) "__init__" p2) [e] [] p3) env = (do
      let ov ← attributeBase (.Call (.Name "super" p0) [] [] p1) "__init__" env (eval (.Call (.Name "super" p0) [] [] p1) env)
      standAt p2.atName
      let (f, first) ← holding [ov] (getMethod ov "__init__" pl)
      callWith p3 f first (backTo p3 (starEach [e] env)) [])) : FnOk P w K mg base CX0 (k + 1) f fd ps sp := by
  obtain ⟨oc, kV, doc, pm, ct, od, an, osl, rfl, lk⟩ := T.ex
  refine ⟨len, fun A stk s H a us vs Q E hr e0 hbind rv hsp => ?_⟩
  have hl := len _ _ _ _ hsp
  have keep : ∀ b o, base.get? b = some o → s.heap.get? b = some o := fun b o z => (e0.bs b o z).1
  have KX : K.In s.heap := e0.mod.kin.keeps keep
  have lim : s.heap.NoLimit := e0.mod.nolimit.keeps keep
  refine codeAny_call_function hr.depth (KX _ _ lk) rfl S.co S.gen rfl (PySem.W.codeRec_of KX T.code) (hbind _ _ _ _ (wpAny_newFunctionEnv S.nocell (fun ⟨n, _⟩ hy => S.par n (List.of_mem_zip hy).1) (fun h1 hns hsb => ⟨lim.fresh _ hsb, ?_⟩) S.kind))
  have kp : ∀ b o, s.heap.get? b = some o → h1.get? b = some o := fun b o z => hsb.extBut b o (Nat.ne_of_lt (Heap.lt_size z)) (Heap.get?_push_of_some _ z)
  have C0 := cells_sup T e0
  obtain ⟨ta, t, hta, ht, x, dx, fs, hv0, hx, hq⟩ := hbody A stk s H vs Q E (hr.deeper _) hsp
  have I := (inv_startN (f := f) (CX := CX0) (E := E) (tk := s.toks + (ps.zip us).length) S hr.hd e0 hl rv C0 hns kp).wish fun _ _ => False
  show codeAny _ _ (.func F.body (envF F f s.heap.objs.size)) _ _
  refine PySem.ks_codeAny_funcAt (PySem.ks_wpAt_mono (E := fun _ _ => False) ?_ (fun _ _ z => z) fun _ _ z => z.elim)
  rw [hb]
  have KX1 : K.In h1 := KX.keeps kp
  obtain ⟨ccl, cdd, vs0, ccs, file, tf, hcode, hvs, hfile⟩ := T.rcd
  obtain ⟨ar, hp, hp0⟩ := T.par
  obtain ⟨cl, cld, csl, hcell⟩ := T.cell
  obtain ⟨cd, hC⟩ := T.cls
  obtain ⟨mb, hbl, hboot⟩ := e0.mod.blt
  obtain ⟨mA, ob, _⟩ := ins_get I.hok hx
  obtain ⟨odx, Ix, _⟩ := ob.look
  obtain ⟨oC, hC1, hC2⟩ : ∃ oC, h1.get? C = some oC ∧ oC.data = .cls cd := by
    unfold PySem.W.clsIn at hC
    split at hC
    · rename_i z1 z2 z3 z4 z5
      cases hC
      exact ⟨_, KX1 _ _ z5, rfl⟩
    · cases hC
  have hself : ∃ u, us[0]? = some u ∧ u = .ref x := by
    obtain ⟨u, hu, ru⟩ := rv.get hv0
    exact ⟨u, hu, ru⟩
  obtain ⟨u0, hu0, rfl⟩ := hself
  obtain ⟨pl, hpl⟩ := hcall (envF F f s.heap.objs.size)
  refine PySem.ks_wpAt_execs_cons (PySem.ks_wpAt_Expr_any (hi := by unfold interactive; rw [S.kind]; rfl) (PySem.ks_wpAt_MethodCall (pl := pl) (he := hpl) (PySem.ks_wpAt_super_base T.sup (S.frk _ List.mem_cons_self) (by decide) rfl (KX1 _ _ lk) rfl hp rfl (KX1 _ _ hcode) rfl hvs hfile T.top ?_)))
  refine PySem.W.ks_loadName_global S.kind T.sup (PySem.Calls.loadGlobal_builtin (e0.mod.glob.keeps fun b o z => kp _ _ (keep b o z)) T.free (hbl.keeps fun b o z => kp _ _ (keep b o z)) ((hboot _ (by decide +kernel)).trans (by decide +kernel : bootBuiltins "super" = some (.type "super"))) ⟨rfl, ?_⟩)
  refine wpAny_loadName_free S.kind (S.frk _ List.mem_cons_self) (by show F.cl.lookup _ = some cc; rw [T.cl]; rfl) ⟨_, KX1 _ _ hcell, rfl⟩ ?_
  have ndP : ps.Nodup := by
    have q0 := S.nd.sublist (List.take_sublist (ps.length + [("__class__" : Str)].length) N)
    rw [S.pre] at q0
    exact (List.nodup_append.mp q0).1
  refine wpAny_loadName_local S.kind (S.par _ (List.mem_of_getElem? hp0)) hns (zip_look ndP hp0 hu0) ?_
  refine PySem.ks_wpAny_isType_cls hC1 hC2 ⟨rfl, ?_⟩
  refine PySem.ks_wpAny_call_super hC1 hC2 Ix.at_ Ix.cls (fun c z => ?_) (PySem.W.looks_mroIn KX1 T.sub) (fun h2 e2 k2 => ?_)
  · have no := Ix.no
    unfold PySem.W.notCls at no
    rw [z] at no
    exact Bool.noConfusion no
  have KX2 : K.In h2 := KX1.keeps k2
  obtain ⟨of, hof, hofc⟩ : ∃ of, h2.get? g = some of ∧ of.cls = .type "function" := by
    have ty : (K.lookup g).map (·.cls) = some (.type "function") := T.ty
    cases z : K.lookup g with
    | none => rw [z] at ty; cases ty
    | some o => rw [z] at ty; exact ⟨o, KX2 _ _ z, Option.some.inj ty⟩
  have nxt := T.nxt
  unfold PySem.W.ks_superIn at nxt
  rw [hC] at nxt
  refine PySem.ks_wpAny_getMethod_super e2 (PySem.W.looks_opaque KX2 T.any) (l₀ := cd.mro) (fun A Q E s k q => wpAny_bind ((PySem.W.looks_clsIn KX2 hC) A _ E s k (wpAny_pure q))) rfl KX2 nxt hof hofc (PySem.W.ks_ne KX1 Ix hC) (by decide) ?_
  have I1 := I.kept (h' := h2) (t' := s.toks + (ps.zip us).length) k2
  have I2 := ClX.met_new (g := g) (C := x) I1
  refine ClX.callwith_cm I2 (ClX.base_none I1 (Nat.le_refl _)) T.fn (thn (hta.run p3 _ _ _ _ _ I2 hq) fun vs1 s3 ⟨ws, H1, I3, rv1, q3⟩ => ⟨⟨ClX.pin_at I3, I3.kIn⟩, thn (ClX.run_cm (Q := fun _ H2 => t { nx := fun _ H' => Q .non H', rt := Q } (startF N vs [none]) H2) (GI.raw bI .nil) (hr.deeper _) pass0 I3 rv1 (by rw [List.append_nil]; exact q3)) fun u s4 z4 => ?_⟩) (he _) rfl
  obtain ⟨v4, H2, I4, r4, q4⟩ := z4
  refine wpAt_of_any ?_
  refine wpAny_mono (ht.run [] s4 _ H2 _ I4 q4) (fun fl s5 hs => ?_) fun _ _ z => z
  have fin : ∀ {σ' : L2.St} {H' : Hp} {v : V} {u : Value}, Inv (ncx CX0 P w K mg base N F f A stk s H E).nox [] σ' H' s5 → L2.RelV v u → Q v H' → CE stk P w H s Q u s5 :=
    fun {σ' H' v u} J rr qq => ⟨v, H', J.os, J.bare, J.base, J.hok, rr, qq⟩
  cases fl with
  | ret u =>
    obtain ⟨v, σ', H', J, rr, qq⟩ := hs
    exact fin J rr qq
  | next =>
    obtain ⟨σ', H', J, qq⟩ := hs
    exact fin (v := V.non) (u := Value.none) J rfl qq
  | brk =>
    obtain ⟨_, _, _, qq⟩ := hs
    exact qq.elim
  | cont =>
    obtain ⟨_, _, _, qq⟩ := hs
    exact qq.elim
end
end My
set_option Elab.async false
set_option linter.all false
set_option maxRecDepth 100000
set_option maxHeartbeats 4000000
/-! comprehensions with a pair as target, no test -/
namespace My
open PySem PySem.Spec PyProof.Rows L2
abbrev gPair (K : PySem.W.Frag) (i j : Nat) : TG := gTup K 2 (gCons (gName i) (gCons (gName j) gNil))
section
variable {K : PySem.W.Frag} {te : TE} {vs : List Nat} {σ : L2.St} {H1 : Hp} {D : Addr} {Qd : Hp → Prop} {i1 i2 : Nat}
def lcP_tup {a : Addr} {xs : List V} (Pv : Nat → Hp → Prop) (h0 : Pv 0 (upd H1 D (.lst []))) (hl : ∀ i H, i ≤ xs.length → Pv i H → SqT K H a xs)
    (hs : ∀ i v H, xs[i]? = some v → Pv i H → ∃ b x y, v = .ref b ∧ SqT K H b [x, y] ∧ wipe (((wipe σ vs).set i1 (some x)).set i2 (some y)) vs = wipe σ vs ∧ Grows te D (Pv (i + 1)) (((wipe σ vs).set i1 (some x)).set i2 (some y)) H) (hd : ∀ H, Pv xs.length H → Qd H) :=
  lc_tup (K := K) (a := a) (xs := xs) (g := gPair K i1 i2) (tt := tYes) (te := te) (vs := vs) (σ := σ) (H1 := H1) (D := D) (Qd := Qd) Pv h0 hl (fun i v H hi p => by
    obtain ⟨b, x, y, rfl, hb, h1, h2⟩ := hs i v H hi p
    exact ⟨b, [x, y], rfl, hb, rfl, x, [y], rfl, y, [], rfl, rfl, yes_turn h1 h2⟩) hd
end
end My
set_option Elab.async false
set_option linter.all false
set_option maxRecDepth 100000
set_option maxHeartbeats 4000000
/-! new tuples that are known to bear no dict, and their methods -/
namespace My
open PySem PySem.Spec PyProof.Rows L2
def BareT (H : Hp) (a : Addr) : Prop := ∃ ob xs, H a = some (.frz ob (.tup xs)) ∧ ob.dict = none
theorem BareT.keep {H H' : Hp} {a : Addr} (h : BareT H a) (s : Same H H') : BareT H' a := let ⟨ob, xs, e, d⟩ := h; ⟨ob, xs, s _ _ e, d⟩
theorem BareT.keepP {H H' : Hp} {p c a : Addr} {n : Nat} (h : BareT H a) (s : SameP p H H') (G : PenAt H p c n) : BareT H' a := let ⟨ob, xs, e, d⟩ := h; ⟨ob, xs, s _ _ (sameP_ne G e fun _ z => nomatch z) e, d⟩
section
variable {X : Cx}
/-- tuple(list): a new tuple -/
theorem call_tupleF : CallR X (.type "tuple") (fun xs H Q => ∃ p ys, xs = [.ref p] ∧ SqL X.K H p ys ∧ ∀ l ob, H l = none → ob.dict = none → Q (.ref l) (upd H l (.frz ob (.tup ys)))) := by
  intro pins s σ H xs us Q I rv ⟨p, ys, ex, hl, q⟩
  subst ex
  obtain ⟨u, rfl, r1⟩ := vals1 rv
  cases r1
  obtain ⟨its, rr, pl, hz⟩ := I.list hl
  have ll := rr.length
  refine call_tuple_list pl.isList (fun h1 kp => ?_) (by simp only [List.size_toArray]; omega)
  have I1 : Inv X pins σ H { s with heap := h1 } := I.kept (t' := s.toks) kp
  have nw := IsTup.new h1 its.toArray
  have I2 : Inv X pins σ (upd H h1.objs.size (.frz { cls := .type "tuple", data := .seq its.toArray } (.tup ys))) { s with heap := h1.push { cls := .type "tuple", data := .seq its.toArray } } :=
    I1.laid (t' := s.toks) (fun _ _ e => Heap.get?_push_of_some _ e) (Nat.le_refl _) ⟨Heap.get?_push_size _ rfl, hz, its, rr, nw⟩
  exact ⟨.ref h1.objs.size, _, I2, rfl, q _ _ (I1.hok.fresh (Nat.le_refl _)) rfl⟩
def tTM (r : V → List V → Hp → VK → Prop) (to : TE) (t : TA) : TE := fun σ H Q => to σ H fun x H1 => (∃ a, x = .ref a ∧ BareT H1 a) ∧ t σ H1 fun xs H2 => r x xs H2 Q
/-- t.m(e), t such a tuple -/
theorem pe_tm {o e : Expr} {es : List Expr} {to : TE} {t : TA} {name : Str} {apos cpos : Pos} {id : String} {r : V → List V → Hp → VK → Prop} (slot : Slot "tuple" name id) (hty : typeOf (.builtin id) = pure (.type "method_descriptor")) (hm : MtR X id r) (ho : PE X o to) (ha : PA X (e :: es) t)
    (hbase : attributeBase o name X.env (eval o X.env) = eval o X.env := by rfl)
    (hfew : ((backTo cpos (starEach (e :: es) X.env)).all (fun x => !x.1) && (backToKw cpos (keywordEach [] X.env)).all (fun x => x.1.isSome) &&
      decide ((e :: es).length + ([] : List Keyword).length + (if ([] : List Keyword).isEmpty then 0 else 1) < 30)) = true := by rfl)
    (hline : (apos.endLine == cpos.line) = true := by rfl) (hs : starEach (e :: es) X.env = (false, eval e X.env) :: starEach es X.env := by rfl) (hplain : (backTo cpos (starEach es X.env)).any (·.1) = false := by rfl) :
    PE X (.Call (.Attribute o name apos) (e :: es) [] cpos) (tTM r to t) := by
  constructor
  intro pins s σ H Q I h
  refine wpAny_Call_method_late hbase hfew hline rfl (thn (ho.run pins s σ H _ I h) fun v s1 ⟨x, H1, I1, r1, ty, q1⟩ => ?_)
  obtain ⟨a, rfl, ob, ys, ea, hdn⟩ := ty
  cases r1
  obtain ⟨g1, _, its, _, o2, g2, hc2, _⟩ := I1.hok a _ ea
  rw [g1] at g2
  cases g2
  refine ⟨"tuple", id, PySem.F.plainAttrs_tuple, slot, hty, ⟨ob, g1, hc2⟩, fun b e => ?_, ?_⟩
  · cases e
    exact ⟨ob, g1, hdn⟩
  have hA := ha.run cpos pins s1 σ H1 _ I1 q1
  rw [hs] at hA ⊢
  refine Calls.callWith_builtin (by show (false || (backTo cpos (starEach es X.env)).any (·.1)) = false; rw [hplain] <;> rfl) (Calls.evalArgs_plain ?_)
  exact thn hA fun us s2 ⟨ws, H2, I2, r2, q2⟩ => hm pins s2 σ H2 (.ref a) ws (.ref a) us Q I2 rfl r2 q2
end
end My
set_option Elab.async false
set_option linter.all false
set_option maxRecDepth 100000
set_option maxHeartbeats 4000000
namespace My
open PySem PySem.Spec PyProof.Rows L2
section
variable {K : PySem.W.Frag} {p c L o : Addr} {n m : Nat} {H H' : Hp} {x : V} {lo hi : Option Int} {Q : VK} {a b : Addr} {xs ys ls : List V}
/-! ### cuts of tuples -/
theorem cutV_to (k : Nat) : cutV xs none (some (k : Int)) = xs.take k := by
  unfold cutV
  rw [HT.sIx_none, HT.sIx_nat, List.drop_zero, Nat.sub_zero]
  rcases Nat.le_total k xs.length with h | h
  · rw [Nat.min_eq_left h]
  · rw [Nat.min_eq_right h, List.take_of_length_le h, List.take_length]
theorem cutV_from (k : Nat) : cutV xs (some (k : Int)) none = xs.drop k := by
  unfold cutV
  rw [HT.sIx_none, HT.sIx_nat]
  rcases Nat.le_total k xs.length with h | h
  · rw [Nat.min_eq_left h, List.take_of_length_le (by rw [List.length_drop]; exact Nat.le_refl _)]
  · rw [Nat.min_eq_right h, Nat.sub_self, List.take_zero, List.drop_eq_nil_of_le h]
theorem sl_to (ht : SqT K H a xs) (q : ∀ (b : Addr) (H' : Hp), Same H H' → SqT K H' b (cutV xs lo hi) → Q (.ref b) H') : rSlA K (.ref a) lo hi H Q := by
  refine ⟨a, xs, rfl, ht, fun hw => q a H (.refl H) ?_, fun _ b hb => q b _ (same_new hb) (.inl (.inl upd_same))⟩
  have e : cutV xs lo hi = xs := by
    unfold cutV
    rw [hw.1, hw.2, List.drop_zero, Nat.sub_zero, List.take_length]
  rw [e]
  exact ht
theorem cat_to (hx : SqT K H a xs) (hy : SqT K H b ys) (hz : xs.length + ys.length ≤ sizeLine) (q : ∀ (b : Addr) (H' : Hp), Same H H' → SqT K H' b (xs ++ ys) → Q (.ref b) H') : rCatA K (.ref a) (.ref b) H Q := by
  refine ⟨a, b, xs, ys, rfl, rfl, hx, hy, hz, fun e => q b H (.refl H) ?_, fun _ e => q a H (.refl H) ?_, fun _ _ d hd => q d _ (same_new hd) (.inl (.inl upd_same))⟩
  · rw [e]
    exact hy
  · rw [e, List.append_nil]
    exact hx
end
end My
set_option Elab.async false
set_option linter.all false
set_option maxRecDepth 100000
set_option maxHeartbeats 4000000
namespace My
open PySem PySem.Spec PyProof.Rows L2
/-! ### rows -/
def turnR (r : List (Str × Int)) : List (Str × Int) := (r.reverse).map fun x => (x.1, -x.2)
/-- a row of the document: names, each once, directions; few -/
structure RowOk (r : List (Str × Int)) : Prop where
  nm : ∀ x ∈ r, NameOk x.1
  dir : Dirs r
  nd : (r.map (·.1)).Nodup
  few : r.length ≤ 30
theorem fit_row {r : List (Str × Int)} (h : RowOk r) : Fit2 (rowD r) := by
  refine ⟨?_, fun ds e x hx => ?_⟩
  · have := h.few
    show (r.map dwD).length ≤ 100000
    rw [List.length_map]
    omega
  · cases e
    obtain ⟨y, hy, rfl⟩ := List.mem_map.mp hx
    refine ⟨by show 2 ≤ 100000; decide, fun ds e z hz => ?_⟩
    cases e
    rcases List.mem_cons.mp hz with rfl | hz
    · have := (h.nm y hy).2.1
      show y.1.length ≤ 100000
      omega
    · rw [List.mem_singleton.mp hz]
      trivial
theorem nm_ok {x : Str} (h : NameOk x) : nmS x = true := by
  unfold nmS
  rw [Bool.and_eq_true, List.all_eq_true]
  exact ⟨decide_eq_true ⟨h.1, h.2.1⟩, fun c hc => decide_eq_true (h.2.2 c hc)⟩
theorem with_dw {x : Str × Int} (h : NameOk x.1) (d : x.2 = 1 ∨ x.2 = -1) : withD [1, -1] (dwD x) = true := by
  show (nmS x.1 && (true && decide (x.2 ∈ [1, -1]))) = true
  rw [nm_ok h, decide_eq_true (by rcases d with d | d <;> rw [d] <;> decide)]
  rfl
theorem keys_row (r : List (Str × Int)) : (r.map dwD).map fstK = r.map fun x => (Sum.inr x.1 : Key) := by
  rw [List.map_map]
  rfl
theorem is_row {r : List (Str × Int)} (h : RowOk r) : isRowD (rowD r) = true := by
  have e : isRowD (rowD r) = (decide ((r.map dwD).length ≤ 30) && ((r.map dwD).all (withD [1, -1]) && decide (cntK (r.map dwD) = (r.map dwD).length))) := rfl
  have e2 : (r.map dwD).all (withD [1, -1]) = true := List.all_eq_true.mpr fun d hd => by
    obtain ⟨x, hx, rfl⟩ := List.mem_map.mp hd
    exact with_dw (h.nm x hx) (h.dir x hx)
  have e3 : cntK (r.map dwD) = (r.map dwD).length := by
    unfold cntK
    rw [keys_row]
    have z := (len_metK_eq (r.map fun x => (Sum.inr x.1 : Key)) [] List.nodup_nil).mpr (by
      rw [List.nil_append]
      have e4 : (r.map fun x => (Sum.inr x.1 : Key)) = (r.map (·.1)).map Sum.inr := by rw [List.map_map]; rfl
      rw [e4]
      exact nodup_map_on h.nd fun a _ b _ q => Sum.inr.inj q)
    rw [z, List.length_map, List.length_map, List.length_nil, Nat.zero_add]
  rw [e, e2, decide_eq_true e3, decide_eq_true (show (r.map dwD).length ≤ 30 by rw [List.length_map]; exact h.few)]
  rfl
section
variable {K : PySem.W.Frag} {H H' : Hp} {a : Addr} {r : List (Str × Int)}
theorem dt_items : ∀ {xs : List V} {r : List (Str × Int)}, DtAll K H xs (r.map dwD) → ∀ (i : Nat) (v : V), xs[i]? = some v → ∃ b x, r[i]? = some x ∧ v = .ref b ∧ SqT K H b [.str x.1, .int x.2]
  | [], _, _, i, v, e => by simp at e
  | x :: xs, [], h, _, _, _ => by cases h
  | x :: xs, y :: r, h, 0, v, e => by
    cases h with
    | cons h1 h2 =>
      cases e
      cases h1 with
      | tup hs hd =>
        cases hd with
        | cons d1 d2 =>
          cases d1
          cases d2 with
          | cons d3 d4 =>
            cases d3
            cases d4
            exact ⟨_, y, rfl, rfl, hs⟩
  | x :: xs, y :: r, h, i + 1, v, e => by
    cases h with
    | cons h1 h2 => exact dt_items h2 i v e
theorem dtAll_rev : ∀ {xs : List V} {ds : List PyData}, DtAll K H xs ds → DtAll K H xs.reverse ds.reverse
  | _, _, .nil => .nil
  | _, _, .cons a b => by
    rw [List.reverse_cons, List.reverse_cons]
    exact (dtAll_rev b).append (.cons a .nil)
theorem row_at (h : Dt K H (.ref a) (rowD r)) : ∃ xs, SqT K H a xs ∧ xs.length = r.length ∧ DtAll K H xs (r.map dwD) := by
  cases h with
  | tup hs hd =>
    have := hd.length
    rw [List.length_map] at this
    exact ⟨_, hs, this, hd⟩
end
theorem turn_len (r : List (Str × Int)) : (turnR r).length = r.length := by rw [turnR, List.length_map, List.length_reverse]
theorem turn_ok {r : List (Str × Int)} (h : RowOk r) : RowOk (turnR r) := by
  refine ⟨fun x hx => ?_, fun x hx => ?_, ?_, by rw [turn_len]; exact h.few⟩
  · obtain ⟨y, hy, rfl⟩ := List.mem_map.mp hx
    exact h.nm y (List.mem_reverse.mp hy)
  · obtain ⟨y, hy, rfl⟩ := List.mem_map.mp hx
    have := h.dir y (List.mem_reverse.mp hy)
    show -y.2 = 1 ∨ -y.2 = -1
    omega
  · unfold turnR
    rw [List.map_map]
    show (r.reverse.map (·.1)).Nodup
    rw [List.map_reverse]
    exact (List.reverse_perm _).nodup_iff.mpr h.nd
section
variable {P : Program} {w : World} {K : PySem.W.Frag} {mg : Str → Option Value} {base : Heap}
/-- a new row that is made of a row -/
def spRowTo (K : PySem.W.Frag) (f : List (Str × Int) → List (Str × Int)) : Sp := fun vs H Q _ => ∃ (a : Addr) (r : List (Str × Int)), vs = [.ref a] ∧ Dt K H (.ref a) (rowD r) ∧ RowOk r ∧ ∀ (b : Addr) (H' : Hp), Same H H' → Dt K H' (.ref b) (rowD (f r)) → Q (.ref b) H'
def spTurn (K : PySem.W.Frag) : Sp := fun vs H Q _ => ∃ (a : Addr) (r : List (Str × Int)), vs = [.ref a] ∧ Dt K H (.ref a) (rowD r) ∧ RowOk r ∧ ∀ (b : Addr) (H' : Hp), Same H H' → Dt K H' (.ref b) (rowD (turnR r)) → BareT H' b → Q (.ref b) H'
/-- the comprehension [(name, -direction) for name, direction in row[::-1]] grows -/
theorem turn_grows {te : TE} {H Hn : Hp} {Dl : Addr} {xs : List V} {r : List (Str × Int)} (hD : H Dl = none) {i : Nat} {v : V} (hv : xs[i]? = some v) (da : DtAll K H xs (r.reverse.map dwD)) (hn : xs.length ≤ 1000)
    (hp : ∃ cs, Hn Dl = some (.lst cs) ∧ DtAll K Hn cs (((turnR r).take i).map dwD) ∧ Same H Hn) :
    ∃ b nm z, v = .ref b ∧ SqT K Hn b [.str nm, .int z] ∧ ∀ (σ' : L2.St), (∀ R : VK, (∀ t, Hn t = none → R (.ref t) (upd Hn t (.tup [.str nm, .int (-z)]))) → te σ' Hn R) →
      Grows te Dl (fun H' => ∃ cs, H' Dl = some (.lst cs) ∧ DtAll K H' cs (((turnR r).take (i + 1)).map dwD) ∧ Same H H') σ' Hn := by
  obtain ⟨cs, eD, dc, sm⟩ := hp
  obtain ⟨b, x, hx, rfl, hb⟩ := dt_items da i v hv
  have hi := (List.getElem?_eq_some_iff.mp hx).1
  refine ⟨b, x.1, x.2, rfl, sm.keepsT _ _ hb, fun σ' hte => ?_⟩
  unfold Grows
  refine hte _ fun t ht => ?_
  have st := same_new (o := HO.tup [.str x.1, .int (-x.2)]) ht
  have eD2 := st _ _ eD
  have lc : cs.length ≤ 1000 := by
    have l1 := dc.length
    have l2 := da.length
    rw [List.length_map, List.length_take] at l1
    rw [List.length_map] at l2
    omega
  refine ⟨cs, eD2, Evl.sz_lt (Nat.lt_of_le_of_lt lc (by decide)), cs ++ [.ref t], upd_same, ?_, fun c o z => ?_⟩
  · have ti : (turnR r)[i]? = some (x.1, -x.2) := by
      unfold turnR
      rw [List.getElem?_map, hx]
      rfl
    rw [List.take_add_one, ti, List.map_append]
    exact (dt_keepAll (st.keepsT.trans (KeepsT.lst eD2)) dc).append (.cons (.tup (KeepsT.lst eD2 _ _ (.inl (.inl upd_same))) (.two (.str _) (.int _))) .nil)
  · rw [upd_ne (ne_of_none z hD)]
    exact st _ _ (sm _ _ z)
theorem ok_turned {f fR : Addr} {fd dR : FuncData} (F : Fun K "turned" "turned" sTurn f fd) (B : Glb mg) (GR : FnOk P w K mg base CX0 4 fR dR ["value"] (spIsRow K)) (gR : mg "is_row" = some (.ref fR)) (kR : PySem.W.keepIn K (.ref fR) = true) (bR : Binds K dR ["value"] []) :
    FnOk P w K mg base CX0 5 f fd ["row"] (spTurn K) := by
  refine F.ok scTurn (fun vs H Q E h => ?_) (fun cdv A outer s H vs Q E hr h => ?_)
  · obtain ⟨a, r, rfl, _⟩ := h
    rfl
  · obtain ⟨a, r, rfl, hd, ok, q⟩ := h
    obtain ⟨xs, hs, hl, da⟩ := row_at hd
    have few := ok.few
    refine ⟨_, pss_cons (ps_if (pt_not (pt_val (pe_call GR hr (by rfl) gR kR bR .nil pass0 (pa_cons (pv 0) pa_nil)))) (pss_one ps_no) pss_nil)
      (pss_one (ps_ret (pe_callTy call_tupleF (by rfl) B.tuple (by decide +kernel) (pa_cons (pe_lc (own := [("name", 1), ("direction", 2)]) (g := gPair K 1 2) (tt := tYes) rfl scTurn.nd (pi_tup (pe_revT (pv 0)))
        (blkOk_by (own := [("name", 1), ("direction", 2)]) (N := ["row", "name", "direction"]) (sc := defScope sTurn) (by decide +kernel))
        (fun _ _ _ _ _ => pg_tup rfl (pgs_cons (pg_name (i := 1) scTurn.nd rfl (Or.inl rfl) (Or.inr rfl)) (pgs_cons (pg_name (i := 2) scTurn.nd rfl (Or.inl rfl) (Or.inr rfl)) pgs_nil)))
        (fun _ _ _ _ _ => pts_nil) (fun _ _ _ _ _ => pe_tup (pa_cons (pv 1) (pa_cons (pe_un un_neg (pv 2)) pa_nil)))) pa_nil)))), ?_⟩
    refine ⟨_, rfl, a, .ref a, rowD r, rfl, dt_da hd, fit_row ok, fun H1 s1 => ⟨_, rfl, ?_⟩⟩
    rw [is_row ok]
    refine iteF ⟨_, rfl, a, xs, rfl, s1.keepsT _ _ hs, fun b hb => ?_⟩
    have s2 := s1.trans (same_new (o := HO.tup xs.reverse) hb)
    have t2 : SqT K (upd H1 b (.tup xs.reverse)) b xs.reverse := .inl (.inl upd_same)
    generalize upd H1 b (.tup xs.reverse) = H2 at s2 t2
    have dr : DtAll K H2 xs.reverse (r.reverse.map dwD) := by
      rw [List.map_reverse]
      exact dtAll_rev (dt_keepAll s2.keepsT da)
    refine ⟨b, rfl, ⟨_, t2⟩, fun Dl hDl => ?_⟩
    refine lcP_tup (K := K) (a := b) (xs := xs.reverse) (fun i Hn => ∃ cs, Hn Dl = some (.lst cs) ∧ DtAll K Hn cs (((turnR r).take i).map dwD) ∧ Same H2 Hn) ⟨[], upd_same, .nil, same_new hDl⟩ (fun i Hn _ hp => ?_) (fun i v Hn hv hp => ?_) (fun Hn hp => ?_)
    · obtain ⟨_, _, _, sm⟩ := hp
      exact sm.keepsT _ _ t2
    · obtain ⟨b2, nm, z, rfl, hb2, gr⟩ := turn_grows hDl hv dr (by rw [List.length_reverse]; omega) hp
      exact ⟨b2, .str nm, .int z, rfl, hb2, rfl, gr _ fun R hR => ⟨_, rfl, _, rfl, z, rfl, by show 2 ≤ sizeLine; decide, fun t ht => hR t ht⟩⟩
    · obtain ⟨cs, eD, dc, sm⟩ := hp
      rw [List.length_reverse, hl, ← turn_len r, List.take_length] at dc
      refine ⟨Dl, cs, rfl, .inl (.inl eD), fun c ob hc hob => ?_⟩
      have sc := same_new (o := HO.frz ob (.tup cs)) hc
      exact q c _ ((s2.trans sm).trans sc) (.tup (.inl (.inr ⟨ob, upd_same⟩)) (dt_keepAll sc.keepsT dc)) ⟨ob, cs, upd_same, hob⟩
end
end My
set_option Elab.async false
set_option linter.all false
set_option maxRecDepth 100000
set_option maxHeartbeats 4000000
/-! tuples that are written or added: known to bear no dict -/
namespace My
open PySem PySem.Spec PyProof.Rows L2
section
variable {X : Cx}
def tTupF (t : TA) : TE := fun σ H Q => t σ H fun xs H1 => xs.length ≤ sizeLine ∧ ∀ p ob, H1 p = none → ob.dict = none → Q (.ref p) (upd H1 p (.frz ob (.tup xs)))
theorem pe_tupF {es : List Expr} {pos : Pos} {x1 : Nat} {t : TA} (ha : PA X es t) : PE X (.Tuple es x1 pos) (tTupF t) := by
  constructor
  intro pins s0 σ H Q I q0
  refine wpAny_Tuple_spliced (thn (ha.run pos pins s0 σ H _ I q0) fun us s1 ⟨ys, H2, I2, rv, zz, q1⟩ => ⟨by have := rv.length; omega, ?_⟩)
  have fresh := I2.hok.fresh (Nat.le_refl s1.heap.objs.size)
  have nw := IsTup.new s1.heap us.toArray
  exact ⟨.ref s1.heap.objs.size, upd H2 s1.heap.objs.size (.frz { cls := .type "tuple", data := .seq us.toArray } (.tup ys)), I2.laid (t' := s1.toks) (fun _ _ e => Heap.get?_push_of_some _ e) (Nat.le_refl _) ⟨Heap.get?_push_size _ rfl, zz, us, rv, nw⟩, rfl, q1 _ _ fresh rfl⟩
/-- a + b of two tuples with items -/
def rCatF (K : PySem.W.Frag) : R2 := fun x y H Q => ∃ a b xs ys, x = .ref a ∧ y = .ref b ∧ SqT K H a xs ∧ SqT K H b ys ∧ xs.length + ys.length ≤ sizeLine ∧ xs ≠ [] ∧ ys ≠ [] ∧ ∀ p ob, H p = none → ob.dict = none → Q (.ref p) (upd H p (.frz ob (.tup (xs ++ ys))))
theorem op_catF : OpR X (binaryOp .Add) (rCatF X.K) := by
  intro pins s σ H x y v u Q I rx ry ⟨a, b, xs, ys, ex, ey, ta, tb, hz, nx, ny, q⟩
  subst ex ey
  cases rx
  cases ry
  obtain ⟨its, rv, t1, _⟩ := I.tuple ta
  obtain ⟨it2, rv2, t2, _⟩ := I.tuple tb
  have l1 := rv.length
  have l2 := rv2.length
  have i1 : its ≠ [] := fun z => nx (List.eq_nil_of_length_eq_zero (by rw [z, List.length_nil] at l1; omega))
  have i2 : it2 ≠ [] := fun z => ny (List.eq_nil_of_length_eq_zero (by rw [z, List.length_nil] at l2; omega))
  have fresh := I.hok.fresh (Nat.le_refl s.heap.objs.size)
  have nw := IsTup.new s.heap (its ++ it2).toArray
  refine HT.cat_tup t1 t2 i1 (fun z => absurd z i2) (fun _ => ?_) (by omega)
  exact ⟨.ref s.heap.objs.size, upd H s.heap.objs.size (.frz { cls := .type "tuple", data := .seq (its ++ it2).toArray } (.tup (xs ++ ys))), I.laid (t' := s.toks) (fun _ _ e => Heap.get?_push_of_some _ e) (Nat.le_refl _) ⟨Heap.get?_push_size _ rfl, by rw [List.length_append]; exact hz, its ++ it2, rv.append rv2, nw⟩, rfl, q _ _ fresh rfl⟩
theorem op_catG : OpR X (binaryOp .Add) (fun x y H Q => rCatA X.K x y H Q ∨ rCatF X.K x y H Q) := fun pins s σ H x y v u Q I rx ry h => h.elim (op_catA pins s σ H x y v u Q I rx ry) (op_catF pins s σ H x y v u Q I rx ry)
end
section
variable {K : PySem.W.Frag} {H : Hp} {a b : Addr} {xs ys : List V} {Q : VK}
/-- one lemma for all three -/
theorem cat_toG (hx : SqT K H a xs) (hy : SqT K H b ys) (hz : xs.length + ys.length ≤ sizeLine) (bx : ys = [] → xs ≠ [] → BareT H a) (hyb : xs = [] → BareT H b) (q : ∀ (c : Addr) (H' : Hp), Same H H' → SqT K H' c (xs ++ ys) → BareT H' c → Q (.ref c) H') :
    rCatA K (.ref a) (.ref b) H Q ∨ rCatF K (.ref a) (.ref b) H Q := by
  by_cases nx : xs = []
  · subst nx
    exact .inl ⟨a, b, [], ys, rfl, rfl, hx, hy, hz, fun _ => q b H (.refl H) hy (hyb rfl), fun z => absurd rfl z, fun z => absurd rfl z⟩
  · by_cases ny : ys = []
    · subst ny
      exact .inl ⟨a, b, xs, [], rfl, rfl, hx, hy, hz, fun z => absurd z nx, fun _ _ => q a H (.refl H) (by rw [List.append_nil]; exact hx) (bx rfl nx), fun _ z => absurd rfl z⟩
    · exact .inr ⟨a, b, xs, ys, rfl, rfl, hx, hy, hz, nx, ny, fun p ob hp hd => q p _ (same_new hp) (.inl (.inr ⟨ob, upd_same⟩)) ⟨ob, _, upd_same, hd⟩⟩
/-- a cut that is the whole is the same object -/
theorem sl_toG {lo hi : Option Int} (ht : SqT K H a xs) (q : ∀ (b : Addr) (H' : Hp), Same H H' → SqT K H' b (cutV xs lo hi) → (HT.sIx xs.length 0 lo = 0 → HT.sIx xs.length xs.length hi = xs.length → b = a) → Q (.ref b) H') : rSlA K (.ref a) lo hi H Q := by
  refine ⟨a, xs, rfl, ht, fun hw => q a H (.refl H) ?_ fun _ _ => rfl, fun hn b hb => q b _ (same_new hb) (.inl (.inl upd_same)) fun h1 h2 => absurd ⟨h1, h2⟩ hn⟩
  have e : cutV xs lo hi = xs := by
    unfold cutV
    rw [hw.1, hw.2, List.drop_zero, Nat.sub_zero, List.take_length]
  rw [e]
  exact ht
end
end My
set_option Elab.async false
set_option linter.all false
set_option maxRecDepth 100000
set_option maxHeartbeats 4000000
/-! cuts of tuples known to bear no dict -/
namespace My
open PySem PySem.Spec PyProof.Rows L2
section
variable {X : Cx}
def rSlF (K : PySem.W.Frag) : V → Option Int → Option Int → Hp → VK → Prop := fun x lo hi H Q => ∃ a xs, x = .ref a ∧ SqT K H a xs ∧
  ¬ (HT.sIx xs.length 0 lo = 0 ∧ HT.sIx xs.length xs.length hi = xs.length) ∧ ∀ p ob, H p = none → ob.dict = none → Q (.ref p) (upd H p (.frz ob (.tup (cutV xs lo hi))))
theorem sl_tupF : SlR X (rSlF X.K) := by
  intro pins s σ H x v vl vu lo hi sl Q I rx hs pl pu ⟨a, xs, ex, hx, hw, q⟩
  subst ex
  cases rx
  obtain ⟨its, r, ht, hz⟩ := I.tuple hx
  have hlen : its.toArray.size = xs.length := by rw [List.size_toArray]; exact r.length.symm
  have fresh := I.hok.fresh (Nat.le_refl s.heap.objs.size)
  refine ⟨"tuple", _, PyProof.Rows.slot_tuple_getitem.lookup, ht.typeIs, ?_⟩
  refine HT.getItem_tuple_cut ht hs pl pu (by rw [hlen]; exact hw) ?_ (by rw [hlen]; exact hz)
  rw [hlen]
  refine ⟨.ref s.heap.objs.size, _, I.laid (t' := s.toks) (o := .frz _ (.tup (cutV xs lo hi))) (fun _ _ e => Heap.get?_push_of_some _ e) (Nat.le_refl _)
    ⟨Heap.get?_push_size _ rfl, Nat.le_trans (cutV_length xs lo hi) hz, _, (r.drop (HT.sIx xs.length 0 lo)).take (HT.sIx xs.length xs.length hi - HT.sIx xs.length 0 lo), IsTup.new _ _⟩, rfl, q _ _ fresh rfl⟩
theorem sl_tupG : SlR X (fun x lo hi H Q => rSlA X.K x lo hi H Q ∨ rSlF X.K x lo hi H Q) := fun pins s σ H x v vl vu lo hi sl Q I rx hs pl pu h =>
  h.elim (sl_tupA pins s σ H x v vl vu lo hi sl Q I rx hs pl pu) (sl_tupF pins s σ H x v vl vu lo hi sl Q I rx hs pl pu)
end
section
variable {K : PySem.W.Frag} {H : Hp} {a b : Addr} {xs ys : List V} {Q : VK}
theorem sl_toF {lo hi : Option Int} (ht : SqT K H a xs) (hb : BareT H a) (q : ∀ (c : Addr) (H' : Hp), Same H H' → SqT K H' c (cutV xs lo hi) → BareT H' c → Q (.ref c) H') : rSlA K (.ref a) lo hi H Q ∨ rSlF K (.ref a) lo hi H Q := by
  by_cases hw : HT.sIx xs.length 0 lo = 0 ∧ HT.sIx xs.length xs.length hi = xs.length
  · refine .inl ⟨a, xs, rfl, ht, fun hw => q a H (.refl H) ?_ hb, fun hn => absurd hw hn⟩
    have e : cutV xs lo hi = xs := by
      unfold cutV
      rw [hw.1, hw.2, List.drop_zero, Nat.sub_zero, List.take_length]
    rw [e]
    exact ht
  · exact .inr ⟨a, xs, rfl, ht, hw, fun p ob hp hd => q p _ (same_new hp) (.inl (.inr ⟨ob, upd_same⟩)) ⟨ob, _, upd_same, hd⟩⟩
theorem cat_toF (hx : SqT K H a xs) (hy : SqT K H b ys) (hz : xs.length + ys.length ≤ sizeLine) (ba : BareT H a) (bb : BareT H b) (q : ∀ (c : Addr) (H' : Hp), Same H H' → SqT K H' c (xs ++ ys) → BareT H' c → Q (.ref c) H') :
    rCatA K (.ref a) (.ref b) H Q ∨ rCatF K (.ref a) (.ref b) H Q := cat_toG hx hy hz (fun _ _ => ba) (fun _ => bb) q
end
end My
set_option Elab.async false
set_option linter.all false
/-! exchanges of two stretches of a list -/
namespace My
def midX {α : Type} (xs : List α) (a b : Nat) : List α := (xs.take b).drop a
/-- the things behind an exchange -/
def aftX {α : Type} (xs : List α) (i j k l : Nat) : List α := (((xs.take i ++ midX xs k l) ++ midX xs j k) ++ midX xs i j) ++ xs.drop l
theorem mid_len {α : Type} (xs : List α) (a b : Nat) : (midX xs a b).length = min b xs.length - a := by
  unfold midX
  rw [List.length_drop, List.length_take]
theorem mid_map {α β : Type} (f : α → β) (xs : List α) (a b : Nat) : midX (xs.map f) a b = (midX xs a b).map f := by
  unfold midX
  rw [List.map_drop, List.map_take]
theorem aft_map {α β : Type} (f : α → β) (xs : List α) (i j k l : Nat) : aftX (xs.map f) i j k l = (aftX xs i j k l).map f := by
  unfold aftX
  simp only [mid_map, List.map_append, List.map_take, List.map_drop]
/-- an exchange of an order of this length -/
structure ExOk (n i j k l : Nat) : Prop where
  ij : i < j
  jk : j ≤ k
  kl : k < l
  ln : l ≤ n
theorem take_two {α : Type} (A B R : List α) : (A ++ (B ++ R)).take (A.length + B.length) = A ++ B := by
  rw [← List.append_assoc, List.take_left' (by rw [List.length_append])]
theorem aft_parts {α : Type} (A B M C D : List α) : aftX (A ++ (B ++ (M ++ (C ++ D)))) A.length (A.length + B.length) (A.length + B.length + M.length) (A.length + B.length + M.length + C.length) = A ++ (C ++ (M ++ (B ++ D))) := by
  have t1 : (A ++ (B ++ (M ++ (C ++ D)))).take A.length = A := List.take_left' rfl
  have t2 : (A ++ (B ++ (M ++ (C ++ D)))).take (A.length + B.length) = A ++ B := take_two A B _
  have t3 : (A ++ (B ++ (M ++ (C ++ D)))).take (A.length + B.length + M.length) = (A ++ B) ++ M := by
    have := take_two (A ++ B) M (C ++ D)
    rw [List.length_append, List.append_assoc A B] at this
    rw [this, List.append_assoc]
  have t4 : (A ++ (B ++ (M ++ (C ++ D)))).take (A.length + B.length + M.length + C.length) = (A ++ (B ++ M)) ++ C := by
    have := take_two (A ++ (B ++ M)) C D
    rw [List.length_append, List.length_append, ← Nat.add_assoc, List.append_assoc, List.append_assoc] at this
    exact this
  have d4 : (A ++ (B ++ (M ++ (C ++ D)))).drop (A.length + B.length + M.length + C.length) = D := by
    rw [show A ++ (B ++ (M ++ (C ++ D))) = (A ++ (B ++ (M ++ C))) ++ D by simp only [List.append_assoc]]
    exact List.drop_left' (by simp only [List.length_append]; omega)
  unfold aftX midX
  rw [t1, t2, t3, t4, d4, List.drop_left' (l₁ := A) rfl, List.drop_left' (l₁ := A ++ B) (List.length_append ..), List.drop_left' (l₁ := A ++ (B ++ M)) (by simp only [List.length_append]; omega)]
  simp only [List.append_assoc]
theorem parts_of {α : Type} {xs : List α} {i j k l : Nat} (h : ExOk xs.length i j k l) : ∃ A B M C D : List α, xs = A ++ (B ++ (M ++ (C ++ D))) ∧ A.length = i ∧ B.length = j - i ∧ M.length = k - j ∧ C.length = l - k := by
  obtain ⟨h1, h2, h3, h4⟩ := h
  refine ⟨xs.take i, (xs.drop i).take (j - i), (xs.drop j).take (k - j), (xs.drop k).take (l - k), xs.drop l, ?_, ?_, ?_, ?_, ?_⟩
  · have e1 := (List.take_append_drop i xs).symm
    have e2 : xs.drop i = (xs.drop i).take (j - i) ++ xs.drop j := by
      have := (List.take_append_drop (j - i) (xs.drop i)).symm
      rw [List.drop_drop, show i + (j - i) = j by omega] at this
      exact this
    have e3 : xs.drop j = (xs.drop j).take (k - j) ++ xs.drop k := by
      have := (List.take_append_drop (k - j) (xs.drop j)).symm
      rw [List.drop_drop, show j + (k - j) = k by omega] at this
      exact this
    have e4 : xs.drop k = (xs.drop k).take (l - k) ++ xs.drop l := by
      have := (List.take_append_drop (l - k) (xs.drop k)).symm
      rw [List.drop_drop, show k + (l - k) = l by omega] at this
      exact this
    rw [← e4, ← e3, ← e2]
    exact e1
  all_goals simp only [List.length_take, List.length_drop]; omega
theorem aft_eq {α : Type} {xs : List α} {i j k l : Nat} (h : ExOk xs.length i j k l) : ∃ A B M C D : List α, xs = A ++ (B ++ (M ++ (C ++ D))) ∧ A.length = i ∧ B.length = j - i ∧ M.length = k - j ∧ C.length = l - k ∧ aftX xs i j k l = A ++ (C ++ (M ++ (B ++ D))) := by
  obtain ⟨A, B, M, C, D, e, a, b, m, c⟩ := parts_of h
  refine ⟨A, B, M, C, D, e, a, b, m, c, ?_⟩
  obtain ⟨h1, h2, h3, h4⟩ := h
  have q := aft_parts A B M C D
  rw [e]
  rw [show i = A.length from a.symm, show j = A.length + B.length by omega, show k = A.length + B.length + M.length by omega, show l = A.length + B.length + M.length + C.length by omega]
  exact q
theorem aft_back {α : Type} {xs : List α} {i j k l : Nat} (h : ExOk xs.length i j k l) : aftX (aftX xs i j k l) i (i + l - k) (i + l - j) l = xs := by
  obtain ⟨A, B, M, C, D, e, a, b, m, c, q⟩ := aft_eq h
  obtain ⟨h1, h2, h3, h4⟩ := h
  rw [q, e]
  have z := aft_parts A C M B D
  rw [show A.length + C.length + M.length + B.length = l by omega, show A.length + C.length + M.length = i + l - j by omega, show A.length + C.length = i + l - k by omega, a] at z
  exact z
theorem perm_swap {α : Type} (A B M C D : List α) : (A ++ (C ++ (M ++ (B ++ D)))).Perm (A ++ (B ++ (M ++ (C ++ D)))) := by
  refine List.Perm.append_left A ?_
  have e1 : (C ++ (M ++ (B ++ D))) = (C ++ (M ++ B)) ++ D := by simp only [List.append_assoc]
  have e2 : (B ++ (M ++ (C ++ D))) = (B ++ (M ++ C)) ++ D := by simp only [List.append_assoc]
  rw [e1, e2]
  refine List.Perm.append_right D ?_
  have p1 : (C ++ (M ++ B)).Perm ((M ++ B) ++ C) := List.perm_append_comm
  have p2 : ((M ++ B) ++ C).Perm ((B ++ M) ++ C) := List.Perm.append_right C List.perm_append_comm
  rw [← List.append_assoc B M C]
  exact p1.trans p2
theorem aft_perm {α : Type} {xs : List α} {i j k l : Nat} (h : ExOk xs.length i j k l) : (aftX xs i j k l).Perm xs := by
  obtain ⟨A, B, M, C, D, e, _, _, _, _, q⟩ := aft_eq h
  rw [q, e]
  exact perm_swap A B M C D
theorem ex_back {n i j k l : Nat} (h : ExOk n i j k l) : ExOk n i (i + l - k) (i + l - j) l := let ⟨h1, h2, h3, h4⟩ := h; ⟨by omega, by omega, by omega, by omega⟩
end My
set_option Elab.async false
set_option linter.all false
set_option maxRecDepth 100000
set_option maxHeartbeats 4000000
/-! two stretches of a tuple change places -/
namespace My
open PySem PySem.Spec PyProof.Rows L2
theorem cutV_mid {xs : List V} (a b : Nat) : cutV xs (some (a : Int)) (some (b : Int)) = midX xs a b := by
  unfold cutV midX
  rw [HT.sIx_nat, HT.sIx_nat, List.drop_take]
  rcases Nat.le_total a xs.length with h | h
  · rw [Nat.min_eq_left h]
    rcases Nat.le_total b xs.length with k | k
    · rw [Nat.min_eq_left k]
    · rw [Nat.min_eq_right k, List.take_of_length_le (by rw [List.length_drop]; exact Nat.le_refl _), List.take_of_length_le (by rw [List.length_drop]; omega)]
  · rw [Nat.min_eq_right h, List.drop_eq_nil_of_le h, List.drop_eq_nil_of_le (Nat.le_refl _), List.take_nil, List.take_nil]
def spAft (K : PySem.W.Frag) : Sp := fun vs H Q _ => ∃ (a b : Addr) (xs : List V) (i j k l : Nat), vs = [.ref a, .ref b] ∧ SqT K H a xs ∧ SqT K H b [.int (i : Int), .int (j : Int), .int (k : Int), .int (l : Int)] ∧ xs.length ≤ 1000 ∧
  ∀ (c : Addr) (H' : Hp), Same H H' → SqT K H' c (aftX xs i j k l) → Q (.ref c) H'
end My
set_option Elab.async false
set_option linter.all false
set_option maxRecDepth 100000
set_option maxHeartbeats 4000000
/-! how large a value is: its texts, its ints, its weight, its depth -/
namespace My
open PySem PySem.Spec PyProof.Rows L2
mutual
def okB (b : Nat) : PyData → Bool
  | .none => true
  | .bool _ => true
  | .int i => decide (i.natAbs ≤ 10 ^ 20 + b)
  | .str x => decide (x.length ≤ b) && x.cps.toList.all fun c => decide (c < 128)
  | .list ds => okAll b ds
  | .tuple ds => okAll b ds
  | .dict es => okKv b es
def okAll (b : Nat) : List PyData → Bool
  | [] => true
  | d :: r => okB b d && okAll b r
def okKv (b : Nat) : List (PyData × PyData) → Bool
  | [] => true
  | (k, v) :: r => okB b k && okB b v && okKv b r
end
mutual
theorem okB_mono {b c : Nat} (h : b ≤ c) : ∀ d : PyData, okB b d = true → okB c d = true
  | .none, _ => rfl
  | .bool _, _ => rfl
  | .int i, e => by
    have := of_decide_eq_true e
    exact decide_eq_true (by omega)
  | .str x, e => by
    rw [okB, Bool.and_eq_true] at e ⊢
    have := of_decide_eq_true e.1
    exact ⟨decide_eq_true (by omega), e.2⟩
  | .list ds, e => okAll_mono h ds e
  | .tuple ds, e => okAll_mono h ds e
  | .dict es, e => okKv_mono h es e
theorem okAll_mono {b c : Nat} (h : b ≤ c) : ∀ ds : List PyData, okAll b ds = true → okAll c ds = true
  | [], _ => rfl
  | d :: r, e => by
    rw [okAll, Bool.and_eq_true] at e ⊢
    exact ⟨okB_mono h d e.1, okAll_mono h r e.2⟩
theorem okKv_mono {b c : Nat} (h : b ≤ c) : ∀ es : List (PyData × PyData), okKv b es = true → okKv c es = true
  | [], _ => rfl
  | (k, v) :: r, e => by
    rw [okKv, Bool.and_eq_true, Bool.and_eq_true] at e ⊢
    exact ⟨⟨okB_mono h k e.1.1, okB_mono h v e.1.2⟩, okKv_mono h r e.2⟩
end
mutual
theorem okB_short {b : Nat} (h : b ≤ 1000) : ∀ d : PyData, okB b d = true → d.leavesShort 30 = true
  | .none, _ => rfl
  | .bool _, _ => rfl
  | .int i, e => by
    have := of_decide_eq_true e
    have l := int_text_length_le10 (a := i) (k := 22) (by decide) (by omega)
    refine decide_eq_true ?_
    show (Str.ofString (toString i)).length ≤ 30
    rw [PySem.ofString_length]
    omega
  | .str x, e => by
    rw [okB, Bool.and_eq_true, List.all_eq_true] at e
    rw [PyData.leavesShort, List.all_eq_true]
    intro c hc
    have := of_decide_eq_true (e.2 c hc)
    exact decide_eq_true (by omega)
  | .list ds, e => okAll_short h ds e
  | .tuple ds, e => okAll_short h ds e
  | .dict es, e => okKv_short h es e
theorem okAll_short {b : Nat} (h : b ≤ 1000) : ∀ ds : List PyData, okAll b ds = true → PyData.leavesShortAll 30 ds = true
  | [], _ => rfl
  | d :: r, e => by
    rw [okAll, Bool.and_eq_true] at e
    rw [PyData.leavesShortAll, Bool.and_eq_true]
    exact ⟨okB_short h d e.1, okAll_short h r e.2⟩
theorem okKv_short {b : Nat} (h : b ≤ 1000) : ∀ es : List (PyData × PyData), okKv b es = true → PyData.leavesShortKv 30 es = true
  | [], _ => rfl
  | (k, v) :: r, e => by
    rw [okKv, Bool.and_eq_true, Bool.and_eq_true] at e
    rw [PyData.leavesShortKv, Bool.and_eq_true, Bool.and_eq_true]
    exact ⟨⟨okB_short h k e.1.1, okB_short h v e.1.2⟩, okKv_short h r e.2⟩
end
theorem log_small {i : Int} (h : i.natAbs ≤ 10 ^ 20 + 1000) : i.natAbs.log2 < 70 := by
  by_cases z : i.natAbs = 0
  · rw [z]; decide
  · exact (Nat.log2_lt z).mpr (by omega)
mutual
theorem okB_shows {b : Nat} (h : b ≤ 1000) : ∀ d : PyData, okB b d = true → d.showable = true
  | .none, _ => rfl
  | .bool _, _ => rfl
  | .int i, e => by
    have := of_decide_eq_true e
    have := log_small (i := i) (by omega)
    exact decide_eq_true (by omega)
  | .str x, e => rfl
  | .list ds, e => okAll_shows h ds e
  | .tuple ds, e => okAll_shows h ds e
  | .dict es, e => okKv_shows h es e
theorem okAll_shows {b : Nat} (h : b ≤ 1000) : ∀ ds : List PyData, okAll b ds = true → PyData.showableAll ds = true
  | [], _ => rfl
  | d :: r, e => by
    rw [okAll, Bool.and_eq_true] at e
    rw [PyData.showableAll, Bool.and_eq_true]
    exact ⟨okB_shows h d e.1, okAll_shows h r e.2⟩
theorem okKv_shows {b : Nat} (h : b ≤ 1000) : ∀ es : List (PyData × PyData), okKv b es = true → PyData.showableKv es = true
  | [], _ => rfl
  | (k, v) :: r, e => by
    rw [okKv, Bool.and_eq_true, Bool.and_eq_true] at e
    rw [PyData.showableKv, Bool.and_eq_true, Bool.and_eq_true]
    exact ⟨⟨okB_shows h k e.1.1, okB_shows h v e.1.2⟩, okKv_shows h r e.2⟩
end
theorem okAll_iff {b : Nat} : ∀ {ds : List PyData}, okAll b ds = true ↔ ∀ d ∈ ds, okB b d = true
  | [] => ⟨fun _ _ z => (nomatch z), fun _ => rfl⟩
  | d :: r => by
    rw [okAll, Bool.and_eq_true, okAll_iff]
    exact ⟨fun ⟨a, c⟩ x hx => (List.mem_cons.mp hx).elim (fun e => e ▸ a) (c x), fun h => ⟨h d List.mem_cons_self, fun x hx => h x (List.mem_cons_of_mem _ hx)⟩⟩
theorem wAll_append : ∀ xs ys : List PyData, PyData.weightAll (xs ++ ys) = PyData.weightAll xs + PyData.weightAll ys
  | [], ys => by rw [List.nil_append, PyData.weightAll, Nat.zero_add]
  | x :: xs, ys => by rw [List.cons_append, PyData.weightAll, PyData.weightAll, wAll_append xs ys]; omega
theorem wAll_mem : ∀ {xs : List PyData} {d : PyData}, d ∈ xs → d.weight + 1 ≤ PyData.weightAll xs
  | x :: xs, d, h => by
    rw [PyData.weightAll]
    rcases List.mem_cons.mp h with rfl | h
    · omega
    · have := wAll_mem h
      omega
theorem wAll_len : ∀ xs : List PyData, xs.length ≤ PyData.weightAll xs
  | [] => Nat.zero_le _
  | x :: xs => by
    have := wAll_len xs
    rw [PyData.weightAll, List.length_cons]
    omega
theorem wAll_rev : ∀ xs : List PyData, PyData.weightAll xs.reverse = PyData.weightAll xs
  | [] => rfl
  | x :: xs => by
    rw [List.reverse_cons, wAll_append, wAll_rev xs]
    simp only [PyData.weightAll]
    omega
theorem wAll_cut (xs : List PyData) (i : Nat) : PyData.weightAll (xs.take i) + PyData.weightAll (xs.drop i) = PyData.weightAll xs := by rw [← wAll_append, List.take_append_drop]
theorem dAll_le {n : Nat} : ∀ {xs : List PyData}, PyData.depthAll xs ≤ n ↔ ∀ d ∈ xs, d.depth ≤ n
  | [] => ⟨fun _ _ z => (nomatch z), fun _ => Nat.zero_le _⟩
  | x :: xs => by
    rw [PyData.depthAll, Nat.max_le, dAll_le]
    exact ⟨fun ⟨a, c⟩ y hy => (List.mem_cons.mp hy).elim (fun e => e ▸ a) (c y), fun h => ⟨h x List.mem_cons_self, fun y hy => h y (List.mem_cons_of_mem _ hy)⟩⟩
/-- a value of at most these measures -/
structure Lim (b w n : Nat) (d : PyData) : Prop where
  ok : okB b d = true
  wt : d.weight ≤ w
  dp : d.depth ≤ n
theorem Lim.mono {b w n b' w' n' : Nat} {d : PyData} (h : Lim b w n d) (h1 : b ≤ b') (h2 : w ≤ w') (h3 : n ≤ n') : Lim b' w' n' d := ⟨okB_mono h1 d h.ok, Nat.le_trans h.wt h2, Nat.le_trans h.dp h3⟩
theorem Lim.shows {b w n : Nat} {d : PyData} (h : Lim b w n d) (hb : b ≤ 1000) : d.showable = true := okB_shows hb d h.ok
theorem Lim.short {b w n : Nat} {d : PyData} (h : Lim b w n d) (hb : b ≤ 1000) (hw : w ≤ 100000) : d.shown.length ≤ sizeLine := by
  have := PyData.shown_le 30 (by decide) d (okB_short hb d h.ok)
  have := h.wt
  rw [sizeLine_eq]
  omega
theorem Lim.fit {b w n : Nat} {d : PyData} (h : Lim b w n d) (hb : b ≤ 1000) (hw : w ≤ 100000) : Fit d := by
  obtain ⟨h1, h2, _⟩ := h
  cases d with
  | str x =>
    rw [okB, Bool.and_eq_true] at h1
    have := of_decide_eq_true h1.1
    show x.length ≤ 100000
    omega
  | list ds =>
    have := wAll_len ds
    simp only [PyData.weight] at h2
    show ds.length ≤ 100000
    omega
  | tuple ds =>
    have := wAll_len ds
    simp only [PyData.weight] at h2
    show ds.length ≤ 100000
    omega
  | _ => trivial
theorem Lim.item {b w n : Nat} {ds : List PyData} (h : Lim b w n (.tuple ds)) {e : PyData} (he : e ∈ ds) : Lim b w (n - 1) e := by
  obtain ⟨h1, h2, h3⟩ := h
  simp only [PyData.weight] at h2
  simp only [PyData.depth] at h3
  have := wAll_mem he
  exact ⟨okAll_iff.mp h1 e he, by omega, dAll_le.mp (show PyData.depthAll ds ≤ n - 1 by omega) e he⟩
theorem Lim.fit1 {b w n : Nat} {d : PyData} (h : Lim b w n d) (hb : b ≤ 1000) (hw : w ≤ 100000) : Fit1 d := ⟨h.fit hb hw, fun ds e x hx => by
  subst e
  exact (h.item hx).fit hb hw⟩
theorem Lim.fit2 {b w n : Nat} {d : PyData} (h : Lim b w n d) (hb : b ≤ 1000) (hw : w ≤ 100000) : Fit2 d := ⟨h.fit hb hw, fun ds e x hx => by
  subst e
  exact (h.item hx).fit1 hb hw⟩
theorem lim_tup {b w n : Nat} {ds : List PyData} (h1 : ∀ d ∈ ds, okB b d = true) (h2 : PyData.weightAll ds ≤ w) (h3 : ∀ d ∈ ds, d.depth ≤ n) : Lim b w (n + 1) (.tuple ds) :=
  ⟨okAll_iff.mpr h1, by simp only [PyData.weight]; exact h2, by simp only [PyData.depth]; have := dAll_le.mpr h3; omega⟩
theorem lim_lst {b w n : Nat} {ds : List PyData} (h1 : ∀ d ∈ ds, okB b d = true) (h2 : PyData.weightAll ds ≤ w) (h3 : ∀ d ∈ ds, d.depth ≤ n) : Lim b w (n + 1) (.list ds) :=
  ⟨okAll_iff.mpr h1, by simp only [PyData.weight]; exact h2, by simp only [PyData.depth]; have := dAll_le.mpr h3; omega⟩
theorem lim_str {b w n : Nat} {x : Str} (h1 : x.length ≤ b) (h2 : ∀ c ∈ x.cps.toList, c < 128) (h3 : b ≤ w) : Lim b w n (.str x) :=
  ⟨by rw [okB, Bool.and_eq_true, List.all_eq_true]; exact ⟨decide_eq_true h1, fun c hc => decide_eq_true (h2 c hc)⟩, Nat.le_trans (show x.length ≤ b from h1) h3, Nat.zero_le _⟩
theorem lim_int {b w n : Nat} {i : Int} (h1 : i.natAbs ≤ 10 ^ 20 + b) (hb : b ≤ 1000) (h2 : 70 ≤ w) : Lim b w n (.int i) :=
  ⟨decide_eq_true h1, by
    have := log_small (i := i) (by omega)
    simp only [PyData.weight]
    split <;> omega, Nat.zero_le _⟩
end My
set_option Elab.async false
set_option linter.all false
set_option maxRecDepth 100000
set_option maxHeartbeats 4000000
/-! rows cut and put together -/
namespace My
open PySem PySem.Spec PyProof.Rows L2
section
variable {K : PySem.W.Frag} {H H' : Hp} {a b : Addr} {r s : List (Str × Int)} {Q : VK}
theorem dtAll_tk : ∀ {xs : List V} {ds : List PyData} (i : Nat), DtAll K H xs ds → DtAll K H (xs.take i) (ds.take i)
  | _, _, 0, _ => .nil
  | _, _, _ + 1, .nil => .nil
  | _, _, i + 1, .cons d r => .cons d (dtAll_tk i r)
theorem dtAll_dr : ∀ {xs : List V} {ds : List PyData} (i : Nat), DtAll K H xs ds → DtAll K H (xs.drop i) (ds.drop i)
  | _, _, 0, h => h
  | _, _, _ + 1, .nil => .nil
  | _, _, i + 1, .cons _ r => dtAll_dr i r
/-- a row that is known to bear no dict -/
structure Rw (K : PySem.W.Frag) (H : Hp) (a : Addr) (r : List (Str × Int)) : Prop where
  dt : Dt K H (.ref a) (rowD r)
  ba : BareT H a
theorem Rw.keep (h : Rw K H a r) (s : Same H H') : Rw K H' a r := ⟨dt_keep s.keepsT h.dt, h.ba.keep s⟩
theorem Rw.keepP {p c : Addr} {n : Nat} (h : Rw K H a r) (s : SameP p H H') (G : PenAt H p c n) : Rw K H' a r := ⟨dt_keep (s.keepsT (K := K) G) h.dt, h.ba.keepP s G⟩
theorem Rw.at (h : Rw K H a r) : ∃ xs, SqT K H a xs ∧ xs.length = r.length ∧ DtAll K H xs (r.map dwD) := row_at h.dt
theorem rw_to {k : Nat} (h : Rw K H a r) (q : ∀ (c : Addr) (H' : Hp), Same H H' → Rw K H' c (r.take k) → Q (.ref c) H') : rSlA K (.ref a) none (some (k : Int)) H Q ∨ rSlF K (.ref a) none (some (k : Int)) H Q := by
  obtain ⟨xs, hs, hl, da⟩ := h.at
  refine sl_toF hs h.ba fun c H' s t b => q c H' s ⟨?_, b⟩
  rw [cutV_to] at t
  have d := dtAll_tk k (dt_keepAll s.keepsT da)
  rw [← List.map_take] at d
  exact .tup t d
theorem rw_from {k : Nat} (h : Rw K H a r) (q : ∀ (c : Addr) (H' : Hp), Same H H' → Rw K H' c (r.drop k) → Q (.ref c) H') : rSlA K (.ref a) (some (k : Int)) none H Q ∨ rSlF K (.ref a) (some (k : Int)) none H Q := by
  obtain ⟨xs, hs, hl, da⟩ := h.at
  refine sl_toF hs h.ba fun c H' s t b => q c H' s ⟨?_, b⟩
  rw [cutV_from] at t
  have d := dtAll_dr k (dt_keepAll s.keepsT da)
  rw [← List.map_drop] at d
  exact .tup t d
theorem rw_mid {i j : Nat} (h : Rw K H a r) (q : ∀ (c : Addr) (H' : Hp), Same H H' → Rw K H' c (midX r i j) → Q (.ref c) H') : rSlA K (.ref a) (some (i : Int)) (some (j : Int)) H Q ∨ rSlF K (.ref a) (some (i : Int)) (some (j : Int)) H Q := by
  obtain ⟨xs, hs, hl, da⟩ := h.at
  refine sl_toF hs h.ba fun c H' s t b => q c H' s ⟨?_, b⟩
  rw [cutV_mid] at t
  have d := dtAll_dr i (dtAll_tk j (dt_keepAll s.keepsT da))
  rw [← List.map_take, ← List.map_drop] at d
  exact .tup t d
theorem rw_cat (h : Rw K H a r) (g : Rw K H b s) (hl : r.length + s.length ≤ 1000) (q : ∀ (c : Addr) (H' : Hp), Same H H' → Rw K H' c (r ++ s) → Q (.ref c) H') : rCatA K (.ref a) (.ref b) H Q ∨ rCatF K (.ref a) (.ref b) H Q := by
  obtain ⟨xs, hs, l1, da⟩ := h.at
  obtain ⟨ys, ht, l2, db⟩ := g.at
  refine cat_toF hs ht (Evl.sz_of (show xs.length + ys.length ≤ 100000 by omega)) h.ba g.ba fun c H' s t b => q c H' s ⟨?_, b⟩
  have d := (dt_keepAll s.keepsT da).append (dt_keepAll s.keepsT db)
  rw [← List.map_append] at d
  exact .tup t d
end
/-! a part turned around -/
def revPart (r : List (Str × Int)) (i j : Nat) : List (Str × Int) := r.take i ++ turnR (midX r i (j + 1)) ++ r.drop (j + 1)
theorem mid_sub {r : List (Str × Int)} {i j : Nat} : ∀ x ∈ midX r i j, x ∈ r := fun x hx => List.mem_of_mem_take (List.mem_of_mem_drop hx)
theorem cut3 (r : List (Str × Int)) {i j : Nat} (h : i ≤ j) : r = r.take i ++ midX r i j ++ r.drop j := by
  unfold midX
  have e : r.take i = (r.take j).take i := by rw [List.take_take, Nat.min_eq_left h]
  rw [e, List.take_append_drop, List.take_append_drop]
theorem mid_ok {r : List (Str × Int)} {i j : Nat} (h : RowOk r) : RowOk (midX r i j) :=
  ⟨fun x hx => h.nm x (mid_sub x hx), fun x hx => h.dir x (mid_sub x hx), h.nd.sublist (((List.drop_sublist _ _).trans (List.take_sublist _ _)).map _), by unfold midX; rw [List.length_drop, List.length_take]; have := h.few; omega⟩
theorem turn_fst (r : List (Str × Int)) : (turnR r).map (·.1) = (r.map (·.1)).reverse := by
  unfold turnR
  rw [List.map_map, ← List.map_reverse]
  rfl
theorem rev_len {r : List (Str × Int)} {i j : Nat} (h : i ≤ j) : (revPart r i j).length = r.length := by
  have e := congrArg List.length (cut3 r (show i ≤ j + 1 by omega))
  unfold revPart
  simp only [List.length_append, turn_len] at e ⊢
  omega
theorem rev_ok {r : List (Str × Int)} {i j : Nat} (h : RowOk r) (hi : i ≤ j) : RowOk (revPart r i j) := by
  have e := cut3 r (show i ≤ j + 1 by omega)
  refine ⟨fun x hx => ?_, fun x hx => ?_, ?_, by rw [rev_len hi]; exact h.few⟩
  · unfold revPart at hx
    rcases List.mem_append.mp hx with hx | hx
    · rcases List.mem_append.mp hx with hx | hx
      · exact h.nm x (List.mem_of_mem_take hx)
      · exact (turn_ok (mid_ok h)).nm x hx
    · exact h.nm x (List.mem_of_mem_drop hx)
  · unfold revPart at hx
    rcases List.mem_append.mp hx with hx | hx
    · rcases List.mem_append.mp hx with hx | hx
      · exact h.dir x (List.mem_of_mem_take hx)
      · exact (turn_ok (mid_ok h)).dir x hx
    · exact h.dir x (List.mem_of_mem_drop hx)
  · have p : ((revPart r i j).map (·.1)).Perm (r.map (·.1)) := by
      rw [show r.map (·.1) = (r.take i ++ midX r i (j + 1) ++ r.drop (j + 1)).map (·.1) by rw [← e]]
      unfold revPart
      rw [List.map_append, List.map_append, List.map_append, List.map_append, turn_fst]
      exact ((List.Perm.refl _).append (List.reverse_perm _)).append (List.Perm.refl _)
    exact p.nodup_iff.mpr h.nd
theorem turn_turn (r : List (Str × Int)) : turnR (turnR r) = r := by
  unfold turnR
  rw [← List.map_reverse, List.reverse_reverse, List.map_map]
  refine (List.map_congr_left fun x _ => ?_).trans (List.map_id _)
  show (x.1, - -x.2) = x
  rw [Int.neg_neg]
theorem rev_rev {r : List (Str × Int)} {i j : Nat} (hi : i ≤ j) (hj : j < r.length) : revPart (revPart r i j) i j = r := by
  have l1 : (r.take i).length = i := by rw [List.length_take]; omega
  have l2 : (turnR (midX r i (j + 1))).length = j + 1 - i := by rw [turn_len]; unfold midX; rw [List.length_drop, List.length_take]; omega
  have l3 : (r.take i ++ turnR (midX r i (j + 1))).length = j + 1 := by rw [List.length_append, l1, l2]; omega
  have e1 : (revPart r i j).take i = r.take i := by
    unfold revPart
    rw [List.append_assoc, List.take_append_of_le_length (by omega), List.take_of_length_le (by omega)]
  have e2 : (revPart r i j).drop (j + 1) = r.drop (j + 1) := by
    unfold revPart
    rw [List.drop_append_of_le_length (by omega), List.drop_of_length_le (by omega), List.nil_append]
  have e3 : midX (revPart r i j) i (j + 1) = turnR (midX r i (j + 1)) := by
    show ((revPart r i j).take (j + 1)).drop i = _
    unfold revPart
    rw [List.take_append_of_le_length (by omega), List.take_of_length_le (by omega), List.drop_append_of_le_length (by omega), List.drop_of_length_le (by omega), List.nil_append]
  show (revPart r i j).take i ++ turnR (midX (revPart r i j) i (j + 1)) ++ (revPart r i j).drop (j + 1) = r
  rw [e1, e2, e3, turn_turn]
  exact (cut3 r (by omega)).symm
end My
set_option Elab.async false
set_option linter.all false
set_option maxRecDepth 100000
set_option maxHeartbeats 4000000
/-! check_filled_row, of rows -/
namespace My
open PySem PySem.Spec PyProof.Rows L2
section
variable {P : Program} {w : World} {K : PySem.W.Frag} {mg : Str → Option Value} {base : Heap}
def spChkF (K : PySem.W.Frag) : Sp := fun vs H Q _ => ∃ (a : Addr) (r : List (Str × Int)), vs = [.ref a] ∧ Dt K H (.ref a) (rowD r) ∧ RowOk r ∧ r ≠ [] ∧ ∀ H', Same H H' → Q .non H'
theorem ok_chkF {f fR : Addr} {fd dR : FuncData} (F : Fun K "check_filled_row" "check_filled_row" sChkF f fd) (GR : FnOk P w K mg base CX0 4 fR dR ["value"] (spIsRow K)) (gR : mg "is_row" = some (.ref fR)) (kR : PySem.W.keepIn K (.ref fR) = true) (bR : Binds K dR ["value"] []) :
    FnOk P w K mg base CX0 5 f fd ["value"] (spChkF K) := by
  refine F.ok scChkF (fun vs H Q E h => ?_) (fun cdv A outer s H vs Q E hr h => ?_)
  · obtain ⟨a, r, rfl, _⟩ := h
    rfl
  · obtain ⟨a, r, rfl, hd, ok, hne, q⟩ := h
    obtain ⟨xs, hs, hl, da⟩ := row_at hd
    refine ⟨_, pss_one (ps_if (PW.pt (pw_or (pt_not (pt_val (pe_call GR hr (by rfl) gR kR bR .nil pass0 (pa_cons (pv 0) pa_nil)))) (pw_or1 (pt_cmpR (op_eqNil hr.units) (pv 0) (pe_tup pa_nil) (nomark _))))) (pss_one ps_no) pss_nil), ?_⟩
    refine ⟨_, rfl, a, .ref a, rowD r, rfl, dt_da hd, fit_row ok, fun H1 s1 => ⟨_, rfl, ?_⟩⟩
    rw [is_row ok]
    refine iteF ⟨_, rfl, by show 0 ≤ sizeLine; decide, fun e he => ?_⟩
    have s2 := same_new (o := HO.tup []) he
    refine ⟨a, e, xs, rfl, rfl, .inr ⟨(s1.trans s2).keepsT _ _ hs, .inl (.inl upd_same)⟩, _, rfl, ?_⟩
    have hxs : xs.isEmpty = false := by
      cases xs with
      | nil => exact absurd (List.length_eq_zero_iff.mp hl.symm) hne
      | cons _ _ => rfl
    show if xs.isEmpty = true then _ else _
    rw [hxs]
    exact iteF (q _ (s1.trans s2))
end
end My
set_option Elab.async false
set_option linter.all false
set_option maxRecDepth 100000
set_option maxHeartbeats 4000000
/-! a < b <= c < .. of any length -/
namespace My
open PySem PySem.Spec PyProof.Rows L2
abbrev TC := V → L2.St → Hp → VK → Prop
structure PCh (X : Cx) (ops : List CmpOp) (es : List Expr) (t : TC) : Prop where
  run : ∀ (pins : List (Addr × Obj)) (s : Shared) (σ : L2.St) (H : Hp) (x : V) (v : Value) (Q : VK) (pos : Pos), Inv X pins σ H s → RelV x v → t x σ H Q → wpAny (model X.prog X.w) X.A (compareChain pos v ops (evalEach es X.env)) (EP X pins σ Q) X.xe s
section
variable {X : Cx} {op op' : CmpOp} {ops : List CmpOp} {r : R2} {a b b' : Expr} {es : List Expr} {ta tb : TE} {t : TC} {pos : Pos}
theorem ch_last (ho : OpR X (compareOp op) r) (hb : PE X b tb) : PCh X [op] [b] (fun x σ H Q => tb σ H fun y H' => r x y H' Q) := by
  refine ⟨fun pins s σ H x v Q pos I rx h => ?_⟩
  exact chain_last (thn (hb.run pins s σ H _ I h) fun w' s4 ⟨z', H4, I4, r4, q4⟩ => ho pins s4 σ H4 x z' v w' Q I4 rx r4 q4)
theorem ch_link (ho : OpR X (compareOp op) r) (hb : PE X b tb) (c : PCh X (op' :: ops) (b' :: es) t) : PCh X (op :: op' :: ops) (b :: b' :: es) (fun x σ H Q => tb σ H fun y H2 => r x y H2 fun z H3 => ∃ k, z = .bl k ∧ (if k = true then t y σ H3 Q else Q (.bl false) H3)) := by
  refine ⟨fun pins s σ H x v Q pos I rx h => ?_⟩
  refine chain_link (thn (hb.run pins s σ H _ I h) fun u s2 ⟨y, H2, I2, r2, q2⟩ => thn (ho pins s2 σ H2 x y v u _ I2 rx r2 q2) fun d s3 ⟨z, H3, I3, r3, k, e, q3⟩ => ?_)
  subst e
  cases r3
  refine wpAny_truthy_bool ?_
  cases k with
  | false => exact ite_ff ⟨.bl false, H3, I3, rfl, q3⟩
  | true => exact ite_tt (c.run pins s3 σ H3 y u Q pos I3 r2 q3)
/-- the whole chain -/
theorem pe_ch {b2 : Expr} (ha : PE X a ta) (c : PCh X (op :: op' :: ops) (b :: b2 :: es) t) (hm : lastMarks (op :: op' :: ops) (b :: b2 :: es) = false := by with_unfolding_all rfl) :
    PE X (.Compare a (op :: op' :: ops) (b :: b2 :: es) pos) (fun σ H Q => ta σ H fun x H1 => t x σ H1 Q) := by
  refine ⟨fun pins s σ H Q I h => ?_⟩
  exact Compare_chain (thn (ha.run pins s σ H _ I h) fun v s1 ⟨x, H1, I1, r1, q1⟩ => c.run pins s1 σ H1 x v Q pos I1 r1 q1) hm
end
end My
set_option Elab.async false
set_option linter.all false
set_option maxRecDepth 100000
set_option maxHeartbeats 4000000
/-! is_number_below, _law_is_index: of any value -/
namespace My
open PySem PySem.Spec PyProof.Rows L2
def valI : PyData → Int
  | .int i => i
  | _ => 0
theorem int_caseI {d : PyData} (h : intD d = true) : d = .int (valI d) := by cases d <;> first | rfl | cases h
/-- an integer from lo on, below hi -/
def idxD (lo hi : Int) (d : PyData) : Bool := intD d && (decide (lo ≤ valI d) && decide (valI d < hi))
section
variable {P : Program} {w : World} {K : PySem.W.Frag} {mg : Str → Option Value} {base : Heap}
def spNumB (K : PySem.W.Frag) : Sp := fun vs H Q _ => ∃ (p : Addr) (v : V) (d : PyData) (n : Int), vs = [v, .int n] ∧ Da K p H v d ∧ Q (.bl (idxD 0 n d)) H
theorem ok_numB {f f1 : Addr} {fd e1 : FuncData} (F : Fun K "is_number_below" "is_number_below" sIsNumberBelow f fd) (CI : Has P w K mg base 1 "is_integer" ["value"] (spIsInt K) f1 e1) : FnOk P w K mg base CX0 2 f fd ["value", "limit"] (spNumB K) := by
  refine F.ok scIsNumberBelow (fun vs H Q E h => ?_) (fun cdv A outer s H vs Q E hr h => ?_)
  · obtain ⟨p, v, d, n, rfl, _⟩ := h
    rfl
  · obtain ⟨p, v, d, n, rfl, D, q⟩ := h
    refine ⟨_, pss_one (ps_ret (pe_and (pe_has CI hr (by rfl) (pa_cons (pv 0) pa_nil)) (pe_one (pe_ch pe_int (ch_link op_le (pv 0) (ch_last op_lt (pv 1))))))), ?_⟩
    refine ⟨_, rfl, p, v, d, rfl, D, _, rfl, ?_⟩
    cases hi : intD d with
    | false =>
      have e : idxD 0 n d = false := by unfold idxD; rw [hi]; rfl
      rw [e] at q
      exact iteF q
    | true =>
      have e : idxD 0 n d = (decide (0 ≤ valI d) && decide (valI d < n)) := by unfold idxD; rw [hi]; rfl
      rw [e] at q
      have ed := int_caseI hi
      rw [ed] at D
      generalize valI d = z at D q
      cases D
      refine iteT ⟨_, rfl, _, _, rfl, rfl, _, rfl, ?_⟩
      cases h1 : decide (0 ≤ z) with
      | false => rw [h1] at q; exact iteF q
      | true => rw [h1] at q; exact iteT ⟨_, rfl, _, _, rfl, rfl, q⟩
def spIdx (K : PySem.W.Frag) : Sp := fun vs H Q _ => ∃ (p : Addr) (v : V) (d : PyData) (lo hi : Int), vs = [v, .int lo, .int hi] ∧ Da K p H v d ∧ Q (.bl (idxD lo hi d)) H
theorem ok_idx {f : Addr} {fd : FuncData} (F : Fun K "_law_is_index" "_law_is_index" sLIsIndex f fd) (B : Glb mg) : FnOk P w K mg base CX0 1 f fd ["value", "least", "many"] (spIdx K) := by
  refine F.ok scLIsIndex (fun vs H Q E h => ?_) (fun cdv A outer s H vs Q E hr h => ?_)
  · obtain ⟨p, v, d, lo, hi, rfl, _⟩ := h
    rfl
  · obtain ⟨p, v, d, lo, hi, rfl, D, q⟩ := h
    refine ⟨_, pss_one (ps_ret (pe_and (pe_callB call_isi (by rfl) B.isi boot_isinstance (pa_cons (pv 0) (pa_cons (pe_bltn (v := .ty "int") (by rfl) B.int boot_int rfl) pa_nil)))
      (pe_and (pe_not (pe_callB call_isi (by rfl) B.isi boot_isinstance (pa_cons (pv 0) (pa_cons (pe_bltn (v := .ty "bool") (by rfl) B.bool boot_bool rfl) pa_nil)))) (pe_one (pe_ch (pv 1) (ch_link op_le (pv 0) (ch_last op_lt (pv 2)))))))), ?_⟩
    refine ⟨_, rfl, v, _, _, _, _, rfl, .ty _, da_ty D, kit_ty (kit_int d), _, rfl, ?_⟩
    cases h0 : isInt d with
    | false =>
      have e : idxD lo hi d = false := by cases d <;> first | rfl | cases h0
      rw [e] at q
      exact iteF q
    | true =>
      refine iteT ⟨_, rfl, v, _, _, _, _, rfl, .ty _, da_ty D, kit_ty (kit_bool d), _, rfl, _, rfl, ?_⟩
      cases hb : isBool d with
      | true =>
        have e : idxD lo hi d = false := by cases d <;> first | rfl | (cases hb; done)
        rw [e] at q
        exact iteF q
      | false =>
        have hi' : intD d = true := by cases d <;> first | rfl | (cases h0; done) | (cases hb; done)
        have e : idxD lo hi d = (decide (lo ≤ valI d) && decide (valI d < hi)) := by unfold idxD; rw [hi']; rfl
        rw [e] at q
        have ed := int_caseI hi'
        rw [ed] at D
        generalize valI d = z at D q
        cases D
        refine iteT ⟨_, rfl, _, rfl, _, _, rfl, rfl, _, rfl, ?_⟩
        cases h1 : decide (lo ≤ z) with
        | false => rw [h1] at q; exact iteF q
        | true => rw [h1] at q; exact iteT ⟨_, rfl, _, _, rfl, rfl, q⟩
end
end My
set_option Elab.async false
set_option linter.all false
set_option maxRecDepth 100000
set_option maxHeartbeats 4000000
/-! InvalidNumber's __init__ -/
namespace My
open PySem PySem.Spec PyProof.Rows L2
section
variable {P : Program} {w : World} {K : PySem.W.Frag} {mg : Str → Option Value} {base : Heap}
def spErr (K : PySem.W.Frag) (C : Addr) : Sp := fun vs H Q _ => ∃ (a : Addr) (x : V), vs = [.ref a, x] ∧ H a = some (exo a C none) ∧ OexC K C ∧ PySem.W.findIn K (.ref C) "value" = some none ∧
  ∀ dx, H dx = none → dx ≠ a → Q .non (upd (upd H dx (exd dx [("value", x)])) a (exo a C (some dx)))
theorem ok_errNum {f C : Addr} {fd : FuncData} (F : Fun K "__init__" "InvalidNumber.__init__" sInvalidNumberInit f fd) : FnOk P w K mg base CX0 1 f fd ["self", "value"] (spErr K C) := by
  refine F.ok scInvalidNumberInit (fun vs H Q E h => ?_) (fun cdv A outer s H vs Q E hr h => ?_)
  · obtain ⟨a, x, rfl, _⟩ := h
    rfl
  · obtain ⟨a, x, rfl, ha, T, no, q⟩ := h
    refine ⟨_, pss_one (ps_ost (pv 0) (pv 1)), ?_⟩
    refine ⟨_, rfl, _, rfl, a, C, rfl, T, no, .inl ⟨ha, fun dx h1 h2 => ?_⟩⟩
    exact q dx h1 h2
end
end My
set_option Elab.async false
set_option linter.all false
set_option maxRecDepth 100000
set_option maxHeartbeats 4000000
/-! reversed_row -/
namespace My
open PySem PySem.Spec PyProof.Rows L2
theorem idx_nat {n i : Nat} (h : i < n) : idxD 0 (n : Int) (.int (i : Int)) = true := by
  show (true && (decide ((0 : Int) ≤ (i : Int)) && decide ((i : Int) < (n : Int)))) = true
  rw [decide_eq_true (by omega), decide_eq_true (by omega)]
  rfl
theorem idx_is {lo n : Int} {d : PyData} (h : idxD lo n d = true) : ∃ z, d = .int z ∧ lo ≤ z ∧ z < n := by
  unfold idxD at h
  rw [Bool.and_eq_true, Bool.and_eq_true, decide_eq_true_eq, decide_eq_true_eq] at h
  exact ⟨_, int_caseI h.1, h.2.1, h.2.2⟩
theorem idx_up {lo n : Int} {d : PyData} (h : idxD 0 n d = false) (hl : 0 ≤ lo) : idxD lo n d = false := by
  cases e : idxD lo n d with
  | false => rfl
  | true =>
    obtain ⟨z, rfl, h1, h2⟩ := idx_is e
    have : idxD 0 n (.int z) = true := by
      show (true && (decide ((0 : Int) ≤ z) && decide (z < n))) = true
      rw [decide_eq_true (by omega), decide_eq_true (by omega)]
      rfl
    rw [this] at h
    cases h
section
variable {P : Program} {w : World} {K : PySem.W.Frag} {mg : Str → Option Value} {base : Heap}
def spRev (K : PySem.W.Frag) : Sp := fun vs H Q _ => ∃ (a : Addr) (r : List (Str × Int)) (i j : Nat), vs = [.ref a, .int (i : Int), .int (j : Int)] ∧ Rw K H a r ∧ RowOk r ∧ i ≤ j ∧ j < r.length ∧ ∀ (c : Addr) (H' : Hp), Same H H' → Rw K H' c (revPart r i j) → Q (.ref c) H'
/-- the cuts put together -/
theorem rev_put {H : Hp} {Q : VK} {a : Addr} {r : List (Str × Int)} {i j : Nat} {σ : L2.St} (hσ : σ = [some (.ref a), some (.int (i : Int)), some (.int (j : Int))]) (h : Rw K H a r) (ok : RowOk r) (hi : i ≤ j) (hj : j < r.length) (q : ∀ (c : Addr) (H' : Hp), Same H H' → Rw K H' c (revPart r i j) → Q (.ref c) H') :
    tOp (fun x y H Q => rCatA K x y H Q ∨ rCatF K x y H Q) (tOp (fun x y H Q => rCatA K x y H Q ∨ rCatF K x y H Q) (tSl (fun x lo hi H Q => rSlA K x lo hi H Q ∨ rSlF K x lo hi H Q) (tVar 0) tNoPart (tPart (tVar 1)))
      (tCall (spTurn K) [] E0 (tCons (tSl (fun x lo hi H Q => rSlA K x lo hi H Q ∨ rSlF K x lo hi H Q) (tVar 0) (tPart (tVar 1)) (tPart (tOp (rI0 fun i j => .int (i + j)) (tVar 2) (tC (.int 1))))) tNil))) (tSl (fun x lo hi H Q => rSlA K x lo hi H Q ∨ rSlF K x lo hi H Q) (tVar 0) (tPart (tOp (rI0 fun i j => .int (i + j)) (tVar 2) (tC (.int 1)))) tNoPart) σ H Q := by
  subst hσ
  refine ⟨_, rfl, _, rfl, _, rfl, rw_to h fun c1 H1 s1 h1 => ?_⟩
  refine ⟨_, rfl, _, rfl, _, rfl, _, rfl, _, _, rfl, rfl, _, rfl, ?_⟩
  rw [show ((j : Nat) : Int) + 1 = ((j + 1 : Nat) : Int) from rfl]
  refine rw_mid (h.keep s1) fun c2 H2 s2 h2 => ?_
  refine ⟨c2, _, rfl, h2.dt, mid_ok ok, fun c3 H3 s3 d3 b3 => ?_⟩
  have h3 : Rw K H3 c3 (turnR (midX r i (j + 1))) := ⟨d3, b3⟩
  have S3 := (s1.trans s2).trans s3
  have l1 : (r.take i).length ≤ 30 := by rw [List.length_take]; have := ok.few; omega
  have l2 : (turnR (midX r i (j + 1))).length ≤ 30 := (turn_ok (mid_ok ok)).few
  refine rw_cat (h1.keep (s2.trans s3)) h3 (by omega) fun c4 H4 s4 h4 => ?_
  refine ⟨_, rfl, _, rfl, _, _, rfl, rfl, _, rfl, ?_⟩
  rw [show ((j : Nat) : Int) + 1 = ((j + 1 : Nat) : Int) from rfl]
  refine rw_from (h.keep (S3.trans s4)) fun c5 H5 s5 h5 => ?_
  exact rw_cat (h4.keep s5) h5 (by rw [List.length_append, List.length_drop]; have := ok.few; omega) fun c6 H6 s6 h6 => q c6 H6 (((S3.trans s4).trans s5).trans s6) h6
theorem ok_rev {f f1 f2 f3 : Addr} {fd e1 e2 e3 : FuncData} (F : Fun K "reversed_row" "reversed_row" sReversedRow f fd) (B : Glb mg) (CF : Has P w K mg base 5 "check_filled_row" ["value"] (spChkF K) f1 e1) (CN : Has P w K mg base 2 "is_number_below" ["value", "limit"] (spNumB K) f2 e2) (CT : Has P w K mg base 5 "turned" ["row"] (spTurn K) f3 e3) :
    FnOk P w K mg base CX0 6 f fd ["row", "first", "last"] (spRev K) := by
  refine F.ok scReversedRow (fun vs H Q E h => ?_) (fun cdv A outer s H vs Q E hr h => ?_)
  · obtain ⟨a, r, i, j, rfl, _⟩ := h
    rfl
  · obtain ⟨a, r, i, j, rfl, hR, ok, hi, hj, q⟩ := h
    have hr2 := hr.mono (show 2 ≤ 5 by decide)
    refine ⟨_, pss_cons (ps_expr (pe_has CF hr (by rfl) (pa_cons (pv 0) pa_nil)))
      (pss_cons (ps_if (pt_not (pt_val (pe_has CN hr2 (by rfl) (pa_cons (pv 1) (pa_cons (pe_callB call_len (by rfl) B.len PySem.boot_len (pa_cons (pv 0) pa_nil)) pa_nil))))) (pss_one ps_no) pss_nil)
      (pss_cons (ps_if (PW.pt (pw_or (pt_not (pt_val (pe_has CN hr2 (by rfl) (pa_cons (pv 2) (pa_cons (pe_callB call_len (by rfl) B.len PySem.boot_len (pa_cons (pv 0) pa_nil)) pa_nil))))) (pw_or1 (pt_cmpR op_lt (pv 2) (pv 1) (nomark _))))) (pss_one ps_no) pss_nil)
      (pss_one (ps_ret (pe_op op_catG (pe_op op_catG (pe_slice sl_tupG (pv 0) po_none (po_some (pv 1))) (pe_has CT hr (by rfl) (pa_cons (pe_slice sl_tupG (pv 0) (po_some (pv 1)) (po_some (pe_op op_add (pv 2) pe_int))) pa_nil)))
        (pe_slice sl_tupG (pv 0) (po_some (pe_op op_add (pv 2) pe_int)) po_none)))))), ?_⟩
    refine ⟨_, rfl, a, r, rfl, hR.dt, ok, (fun z => by rw [z] at hj; exact absurd hj (Nat.not_lt_zero _)), fun H1 s1 => ?_⟩
    obtain ⟨xs, hs, hl, da⟩ := (hR.keep s1).at
    refine ⟨_, rfl, _, rfl, .ref a, xs.length, rfl, .inr ⟨_, hs, rfl⟩, 0, .int (i : Int), _, _, rfl, .int _, _, rfl, ?_⟩
    rw [idx_nat (show i < xs.length by omega)]
    refine iteF ⟨_, rfl, _, rfl, .ref a, xs.length, rfl, .inr ⟨_, hs, rfl⟩, 0, .int (j : Int), _, _, rfl, .int _, _, rfl, ?_⟩
    rw [idx_nat (show j < xs.length by omega)]
    refine iteF ⟨_, rfl, _, rfl, _, _, rfl, rfl, _, rfl, ?_⟩
    rw [decide_eq_false (show ¬ (j : Int) < (i : Int) by omega)]
    exact iteF (rev_put rfl (hR.keep s1) ok hi hj fun c H' s h => q c H' (s1.trans s) h)
def spRevE (K : PySem.W.Frag) (CN : Addr) : Sp := fun vs H Q E => ∃ (p a : Addr) (r : List (Str × Int)) (v1 v2 : V) (d1 d2 : PyData), vs = [.ref a, v1, v2] ∧ Rw K H a r ∧ RowOk r ∧ r ≠ [] ∧ Da K p H v1 d1 ∧ Da K p H v2 d2 ∧
  (idxD 0 (r.length : Nat) d1 = true → idxD (valI d1) (r.length : Nat) d2 = true → ∀ v H', Same H H' → Q v H') ∧
  (idxD 0 (r.length : Nat) d1 = false → ∀ dd H', Same H H' → H dd = none → H' dd = some (.xd [("value", v1)]) → E (.ref CN) (some dd) H') ∧
  (idxD 0 (r.length : Nat) d1 = true → idxD (valI d1) (r.length : Nat) d2 = false → ∀ dd H', Same H H' → H dd = none → H' dd = some (.xd [("value", v2)]) → E (.ref CN) (some dd) H')
theorem ok_revE {f f1 f2 f3 fI C : Addr} {fd e1 e2 e3 dI : FuncData} (F : Fun K "reversed_row" "reversed_row" sReversedRow f fd) (B : Glb mg) (CF : Has P w K mg base 5 "check_filled_row" ["value"] (spChkF K) f1 e1) (CN : Has P w K mg base 2 "is_number_below" ["value", "limit"] (spNumB K) f2 e2) (CT : Has P w K mg base 5 "turned" ["row"] (spTurn K) f3 e3)
    (T : OexC K C) (iC : PySem.W.findIn K (.ref C) "__init__" = some (some (.ref fI))) (tI : PySem.W.typeIn K (.ref fI) = some (.type "function")) (FI : Fun K "__init__" "InvalidNumber.__init__" sInvalidNumberInit fI dI) (bI : Binds K dI ["self", "value"] []) (no : PySem.W.findIn K (.ref C) "value" = some none) (gX : mg "InvalidNumber" = some (.ref C)) :
    FnOk P w K mg base (CX P w) 6 f fd ["row", "first", "last"] (spRevE K C) := by
  refine F.okX scReversedRow (fun vs H Q E h => ?_) (fun cdv A outer s H vs Q E hr h => ?_)
  · obtain ⟨p, a, r, v1, v2, d1, d2, rfl, _⟩ := h
    rfl
  · obtain ⟨p, a, r, v1, v2, d1, d2, rfl, hR, ok, ne, D1, D2, q1, q2, q3⟩ := h
    have hr2 := hr.mono (show 2 ≤ 5 by decide)
    refine ⟨_, pss_cons (ps_expr (pe_has CF hr (by rfl) (pa_cons (pv 0) pa_nil)))
      (pss_cons (ps_if (pt_not (pt_val (pe_has CN hr2 (by rfl) (pa_cons (pv 1) (pa_cons (pe_callB call_len (by rfl) B.len PySem.boot_len (pa_cons (pv 0) pa_nil)) pa_nil))))) (pss_one (ps_raise rfl (takes_of rfl rfl rfl rfl) (pmk_oex T iC tI (ok_errNum (C := C) FI) hr2 bI .nil pass0 (by rfl) gX (pa_cons (pv 1) pa_nil)))) pss_nil)
      (pss_cons (ps_if (PW.pt (pw_or (pt_not (pt_val (pe_has CN hr2 (by rfl) (pa_cons (pv 2) (pa_cons (pe_callB call_len (by rfl) B.len PySem.boot_len (pa_cons (pv 0) pa_nil)) pa_nil))))) (pw_or1 (pt_cmpR op_lt (pv 2) (pv 1) (nomark _))))) (pss_one (ps_raise rfl (takes_of rfl rfl rfl rfl) (pmk_oex T iC tI (ok_errNum (C := C) FI) hr2 bI .nil pass0 (by rfl) gX (pa_cons (pv 2) pa_nil)))) pss_nil)
      (pss_one (ps_ret (pe_op op_catG (pe_op op_catG (pe_slice sl_tupG (pv 0) po_none (po_some (pv 1))) (pe_has CT hr (by rfl) (pa_cons (pe_slice sl_tupG (pv 0) (po_some (pv 1)) (po_some (pe_op op_add (pv 2) pe_int))) pa_nil)))
        (pe_slice sl_tupG (pv 0) (po_some (pe_op op_add (pv 2) pe_int)) po_none)))))), ?_⟩
    have fin : ∀ (v : V) (H2 : Hp) (x dx : Addr), Same H H2 → H2 x = none → (upd H2 x (exo x C none)) dx = none → dx ≠ x → (∀ dd H', Same H H' → H dd = none → H' dd = some (.xd [("value", v)]) → E (.ref C) (some dd) H') →
        E (.ref C) (some dx) (upd (del (upd (upd (upd H2 x (exo x C none)) dx (exd dx [("value", v)])) x (exo x C (some dx))) x) dx (.xd [("value", v)])) := fun v H2 x dx S2 hx' n1 n2 q3 => by
      have hd2 : H2 dx = none := (upd_ne n2).symm.trans n1
      refine q3 dx _ (fun b o e => ?_) (Option.eq_none_iff_forall_ne_some.mpr fun o e => by rw [S2 _ _ e] at hd2; cases hd2) upd_same
      have e1 := S2 _ _ e
      have ba : b ≠ x := ne_of_none e1 hx'
      have bd : b ≠ dx := ne_of_none e1 hd2
      rw [upd_ne bd, del_ne ba, upd_ne ba, upd_ne bd, upd_ne ba]
      exact e1
    refine ⟨_, rfl, a, r, rfl, hR.dt, ok, ne, fun H1 s1 => ?_⟩
    obtain ⟨xs, hs, hl, da⟩ := (hR.keep s1).at
    have D1 := da_keep s1.keepA D1
    have D2 := da_keep s1.keepA D2
    refine ⟨_, rfl, _, rfl, .ref a, xs.length, rfl, .inr ⟨_, hs, rfl⟩, p, v1, d1, _, rfl, D1, _, rfl, ?_⟩
    rw [hl]
    cases h1 : idxD 0 (r.length : Nat) d1 with
    | false => exact iteT ⟨_, rfl, by show 1 ≤ 1000; decide, fun x hx' => ⟨x, v1, rfl, upd_same, T, no, fun dx n1 n2 => ⟨rfl, dx, _, upd_same, (upd_ne n2).trans upd_same, (upd_ne n2).symm.trans n1, fin v1 H1 x dx s1 hx' n1 n2 (q2 h1)⟩⟩⟩
    | true =>
      obtain ⟨i, rfl, i0, i1⟩ := idx_is h1
      cases D1
      refine iteF ⟨_, rfl, _, rfl, .ref a, xs.length, rfl, .inr ⟨_, hs, rfl⟩, p, v2, d2, _, rfl, D2, _, rfl, ?_⟩
      rw [hl]
      cases h2 : idxD 0 (r.length : Nat) d2 with
      | false => exact iteT ⟨_, rfl, by show 1 ≤ 1000; decide, fun x hx' => ⟨x, v2, rfl, upd_same, T, no, fun dx n1 n2 => ⟨rfl, dx, _, upd_same, (upd_ne n2).trans upd_same, (upd_ne n2).symm.trans n1, fin v2 H1 x dx s1 hx' n1 n2 (q3 h1 (idx_up h2 i0))⟩⟩⟩
      | true =>
        obtain ⟨j, rfl, j0, j1⟩ := idx_is h2
        cases D2
        refine iteF ⟨_, rfl, _, rfl, _, _, rfl, rfl, _, rfl, ?_⟩
        have ej : idxD i (r.length : Nat) (.int j) = decide (i ≤ j) := by
          show (true && (decide (i ≤ j) && decide (j < (r.length : Nat)))) = _
          rw [decide_eq_true j1, Bool.and_true, Bool.true_and]
        by_cases lt : j < i
        · rw [decide_eq_true lt]
          refine iteT ⟨_, rfl, by show 1 ≤ 1000; decide, fun x hx' => ⟨x, .int j, rfl, upd_same, T, no, fun dx n1 n2 => ⟨rfl, dx, _, upd_same, (upd_ne n2).trans upd_same, (upd_ne n2).symm.trans n1, fin (.int j) H1 x dx s1 hx' n1 n2 (q3 h1 ?_)⟩⟩⟩
          show idxD i (r.length : Nat) (.int j) = false
          rw [ej, decide_eq_false (by omega)]
        · rw [decide_eq_false lt]
          obtain ⟨ni, rfl⟩ : ∃ k : Nat, i = (k : Int) := ⟨i.toNat, by omega⟩
          obtain ⟨nj, rfl⟩ : ∃ k : Nat, j = (k : Int) := ⟨j.toNat, by omega⟩
          refine iteF (rev_put rfl (hR.keep s1) ok (by omega) (by omega) fun c H' s h => q1 h1 ?_ _ H' (s1.trans s))
          show idxD (ni : Int) (r.length : Nat) (.int (nj : Int)) = true
          rw [ej, decide_eq_true (by omega)]
end
end My
set_option Elab.async false
set_option linter.all false
set_option maxRecDepth 100000
set_option maxHeartbeats 4000000
/-! _law_turned_part -/
namespace My
open PySem PySem.Spec PyProof.Rows L2
section
variable {P : Program} {w : World} {K : PySem.W.Frag} {mg : Str → Option Value} {base : Heap}
def spLTP (K : PySem.W.Frag) : Sp := fun vs H Q _ => ∃ (a : Addr) (r : List (Str × Int)) (i j : Nat), vs = [.ref a, .int (i : Int), .int (j : Int)] ∧ Rw K H a r ∧ RowOk r ∧ i ≤ j ∧ j < r.length ∧ ∀ (c : Addr) (H' : Hp), Same H H' → Rw K H' c (revPart r i j) → Q (.ref c) H'
theorem ok_ltp {f : Addr} {fd : FuncData} (F : Fun K "_law_turned_part" "_law_turned_part" sLTurnedPart f fd) (B : Glb mg) : FnOk P w K mg base CX0 1 f fd ["row", "first", "last"] (spLTP K) := by
  refine F.ok scLTurnedPart (fun vs H Q E h => ?_) (fun cdv A outer s H vs Q E hr h => ?_)
  · obtain ⟨a, r, i, j, rfl, _⟩ := h
    rfl
  · obtain ⟨a, r, i, j, rfl, hR, ok, hi, hj, q⟩ := h
    refine ⟨_, pss_cons (ps_set (i := 3) scLTurnedPart.nd rfl (.inl rfl) (pe_callTy call_tupleF (by rfl) B.tuple (by decide +kernel) (pa_cons (pe_lc (own := [("name", 4), ("direction", 5)]) (g := gPair K 4 5) (tt := tYes) rfl scLTurnedPart.nd (pi_tup (pe_revT (pe_slice sl_tupG (pv 0) (po_some (pv 1)) (po_some (pe_op op_add (pv 2) pe_int)))))
        (blkOk_by (own := [("name", 4), ("direction", 5)]) (N := ["row", "first", "last", "part", "name", "direction"]) (sc := defScope sLTurnedPart) (by decide +kernel))
        (fun _ _ _ _ _ => pg_tup rfl (pgs_cons (pg_name (i := 4) scLTurnedPart.nd rfl (Or.inl rfl) (Or.inr rfl)) (pgs_cons (pg_name (i := 5) scLTurnedPart.nd rfl (Or.inl rfl) (Or.inr rfl)) pgs_nil)))
        (fun _ _ _ _ _ => pts_nil) (fun _ _ _ _ _ => pe_tup (pa_cons (pv 4) (pa_cons (pe_un un_neg (pv 5)) pa_nil)))) pa_nil)))
      (pss_one (ps_ret (pe_op op_catG (pe_op op_catG (pe_slice sl_tupG (pv 0) po_none (po_some (pv 1))) (pv 3)) (pe_slice sl_tupG (pv 0) (po_some (pe_op op_add (pv 2) pe_int)) po_none)))), ?_⟩
    refine ⟨_, rfl, _, rfl, _, rfl, _, rfl, _, _, rfl, rfl, _, rfl, ?_⟩
    rw [show ((j : Nat) : Int) + 1 = ((j + 1 : Nat) : Int) from rfl]
    refine rw_mid hR fun b0 H0 s0 h0 => ?_
    have okm : RowOk (midX r i (j + 1)) := mid_ok ok
    generalize hm : midX r i (j + 1) = m at h0 okm
    have few := okm.few
    obtain ⟨xs, hs, hl, da⟩ := h0.at
    refine ⟨b0, xs, rfl, hs, fun b hb => ?_⟩
    have s2 := s0.trans (same_new (o := HO.tup xs.reverse) hb)
    have s2' := same_new (o := HO.tup xs.reverse) hb
    have t2 : SqT K (upd H0 b (.tup xs.reverse)) b xs.reverse := .inl (.inl upd_same)
    generalize upd H0 b (.tup xs.reverse) = H2 at s2 t2 s2'
    have dr : DtAll K H2 xs.reverse (m.reverse.map dwD) := by
      rw [List.map_reverse]
      exact dtAll_rev (dt_keepAll s2'.keepsT da)
    refine ⟨b, rfl, ⟨_, t2⟩, fun Dl hDl => ?_⟩
    refine lcP_tup (K := K) (a := b) (xs := xs.reverse) (fun i Hn => ∃ cs, Hn Dl = some (.lst cs) ∧ DtAll K Hn cs (((turnR m).take i).map dwD) ∧ Same H2 Hn) ⟨[], upd_same, .nil, same_new hDl⟩ (fun i Hn _ hp => ?_) (fun i v Hn hv hp => ?_) (fun Hn hp => ?_)
    · obtain ⟨_, _, _, sm⟩ := hp
      exact sm.keepsT _ _ t2
    · obtain ⟨b2, nm, z, rfl, hb2, gr⟩ := turn_grows hDl hv dr (by rw [List.length_reverse]; omega) hp
      exact ⟨b2, .str nm, .int z, rfl, hb2, rfl, gr _ fun R hR => ⟨_, rfl, _, rfl, z, rfl, by show 2 ≤ sizeLine; decide, fun t ht => hR t ht⟩⟩
    · obtain ⟨cs, eD, dc, sm⟩ := hp
      rw [List.length_reverse, hl, ← turn_len m, List.take_length] at dc
      refine ⟨Dl, cs, rfl, .inl (.inl eD), fun c ob hc hob => ?_⟩
      have sc := same_new (o := HO.frz ob (.tup cs)) hc
      have h3 : Rw K (upd Hn c (.frz ob (.tup cs))) c (turnR m) := ⟨.tup (.inl (.inr ⟨ob, upd_same⟩)) (dt_keepAll sc.keepsT dc), ⟨ob, cs, upd_same, hob⟩⟩
      have S3 := (s2.trans sm).trans sc
      generalize upd Hn c (.frz ob (.tup cs)) = H3 at S3 h3
      refine ⟨_, rfl, _, rfl, _, rfl, rw_to (hR.keep S3) fun c1 H4 s4 h4 => ?_⟩
      have l1 : (r.take i).length ≤ 30 := by rw [List.length_take]; have := ok.few; omega
      have l2 : (turnR m).length ≤ 30 := (turn_ok okm).few
      refine ⟨_, rfl, rw_cat h4 (h3.keep s4) (by omega) fun c2 H5 s5 h5 => ?_⟩
      refine ⟨_, rfl, _, rfl, _, _, rfl, rfl, _, rfl, ?_⟩
      rw [show ((j : Nat) : Int) + 1 = ((j + 1 : Nat) : Int) from rfl]
      refine rw_from (hR.keep ((S3.trans s4).trans s5)) fun c5 H6 s6 h6 => ?_
      refine rw_cat (h5.keep s6) h6 (by rw [List.length_append, List.length_drop]; have := ok.few; omega) fun c6 H7 s7 h7 => ?_
      rw [← hm] at h7
      exact q c6 H7 (((S3.trans s4).trans s5).trans (s6.trans s7)) h7
end
end My
set_option Elab.async false
set_option linter.all false
set_option maxRecDepth 100000
set_option maxHeartbeats 4000000
/-! few items, short texts -/
namespace My
open PySem PySem.Spec PyProof.Rows L2
def itemsD : PyData → List PyData
  | .list ds => ds
  | .tuple ds => ds
  | _ => []
structure FitN (d : PyData) : Prop where
  few : (itemsD d).length ≤ 1000
  txt : ∀ e ∈ itemsD d, ∀ x, e = .str x → x.length ≤ 100000
end My
set_option Elab.async false
set_option linter.all false
set_option maxRecDepth 100000
set_option maxHeartbeats 4000000
/-! tuples known to bear no dict -/
namespace My
open PySem PySem.Spec PyProof.Rows L2
/-- if it is a tuple, it is known to bear no dict -/
def BareV (H : Hp) (v : V) (d : PyData) : Prop := isTup d = true → ∃ a, v = .ref a ∧ BareT H a
theorem BareV.keep {H H' : Hp} {v : V} {d : PyData} (h : BareV H v d) (s : Same H H') : BareV H' v d := fun z => let ⟨a, e, b⟩ := h z; ⟨a, e, b.keep s⟩
end My
set_option Elab.async false
set_option linter.all false
set_option maxRecDepth 100000
set_option maxHeartbeats 4000000
namespace My
open PySem PySem.Spec PyProof.Rows L2
theorem penL_made (c : Addr) : mergeK [] [(kCells, V.ref c), (kTurn, V.int 0), (kRest, V.int 0)] = penL c 0 0 := by
  unfold mergeK penL
  simp only [List.foldl_cons, List.foldl_nil]
  rw [putK_new (kvs := []) _ rfl, List.nil_append, putK_new _ (show valV [(kCells, V.ref c)] kTurn = none from valV_neg k12), List.singleton_append,
    putK_new _ (show valV [(kCells, V.ref c), (kTurn, V.int 0)] kRest = none from (valV_neg k13).trans (valV_neg k23))]
  rfl
theorem cut_ints (ns : List Int) (lo hi : Option Int) : ∃ ms : List Int, cutV (ns.map V.int) lo hi = ms.map V.int ∧ ms.length ≤ ns.length := by
  refine ⟨(ns.drop (HT.sIx (ns.map V.int).length 0 lo)).take (HT.sIx (ns.map V.int).length (ns.map V.int).length hi - HT.sIx (ns.map V.int).length 0 lo), ?_, ?_⟩
  · unfold cutV
    rw [List.map_take, List.map_drop]
  · rw [List.length_take, List.length_drop]
    omega
section
variable {P : Program} {w : World} {K : PySem.W.Frag} {mg : Str → Option Value} {base : Heap}
/-- a pen over a script -/
def spPen (K : PySem.W.Frag) : Sp := fun vs H Q _ => ∃ (a : Addr) (ns : List Int), vs = [.ref a] ∧ SqL K H a (ns.map V.int) ∧ ns.length ≤ 63 ∧ ∀ (p c : Addr) (H' : Hp), H p = none → Same H H' → PenAt H' p c 0 → Q (.ref p) H'
theorem ok_pen {f : Addr} {fd : FuncData} (F : Fun K "_law_pen" "_law_pen" sPen f fd) (ml : mg "list" = none) : FnOk P w K mg base CX0 1 f fd ["script"] (spPen K) := by
  refine F.ok scPen (fun vs H Q E h => ?_) (fun cdv A outer s H vs Q E hr h => ?_)
  · obtain ⟨a, ns, rfl, _⟩ := h
    rfl
  · obtain ⟨a, ns, rfl, hS, hl, q⟩ := h
    refine ⟨_, pss_one (ps_ret (pe_disp (pps_cons pe_str (pe_callTy call_list_of (by rfl) ml (by decide +kernel) (pa_cons (pe_slice sl_list (pv 0) po_none (po_some pe_int)) pa_nil))
      (pps_cons pe_str pe_int (pps_cons pe_str pe_int pps_nil))) (by rfl) (by rfl) (fun z => by cases z) (by decide))), ?_⟩
    intro p hp
    have sp := same_new (o := HO.dK []) hp
    refine ⟨_, rfl, _, rfl, a, _, rfl, sp.seq hS, fun b hb => ?_⟩
    have sb := same_new (o := HO.lst (cutV (ns.map V.int) none (some 63))) hb
    refine ⟨b, _, rfl, .inl (.inl (.inl upd_same)), fun c hc => ?_⟩
    have sc := same_new (o := HO.lst (cutV (ns.map V.int) none (some 63))) hc
    have p1 : (upd (upd (upd H p (.dK [])) b (.lst (cutV (ns.map V.int) none (some 63)))) c (.lst (cutV (ns.map V.int) none (some 63)))) p = some (.dK []) := sc _ _ (sb _ _ upd_same)
    refine ⟨p1, [(kCells, .ref c), (kTurn, .int 0), (kRest, .int 0)], rfl, ?_⟩
    obtain ⟨ms, em, lm⟩ := cut_ints ns none (some 63)
    have npc : p ≠ c := ne_of_none (sb _ _ upd_same) hc
    refine ⟨by show 3 ≤ 15; decide, q p c _ hp (fun b' o e => ?_) ⟨⟨ms, 0, 0, ?_, ?_, by omega, Int.le_refl 0, Int.le_refl 0⟩⟩⟩
    · rw [upd_ne (ne_of_none e hp)]
      exact sc _ _ (sb _ _ (sp _ _ e))
    · rw [upd_same, penL_made]
    · rw [upd_ne npc.symm, upd_same, em]
end
end My
set_option Elab.async false
set_option linter.all false
set_option maxRecDepth 100000
set_option maxHeartbeats 4000000
/-! values that a law draws: of any kind, not large, shown in few signs -/
namespace My
open PySem PySem.Spec PyProof.Rows L2
/-- not large -/
structure Gm (w n : Nat) (d : PyData) : Prop where
  sh : d.showable = true
  ls : d.leavesShort 70 = true
  wt : d.weight ≤ w
  dp : d.depth ≤ n
def gmB (w n : Nat) (d : PyData) : Bool := d.showable && (d.leavesShort 70 && (decide (d.weight ≤ w) && decide (d.depth ≤ n)))
theorem gmB_ok {w n : Nat} {d : PyData} (h : gmB w n d = true) : Gm w n d := by
  unfold gmB at h
  simp only [Bool.and_eq_true, decide_eq_true_eq] at h
  exact ⟨h.1, h.2.1, h.2.2.1, h.2.2.2⟩
theorem Gm.mono {w n w' n' : Nat} {d : PyData} (h : Gm w n d) (h1 : w ≤ w') (h2 : n ≤ n') : Gm w' n' d := ⟨h.sh, h.ls, Nat.le_trans h.wt h1, Nat.le_trans h.dp h2⟩
theorem Gm.short {w n : Nat} {d : PyData} (h : Gm w n d) (hw : w ≤ 10000) : d.shown.length ≤ sizeLine := by
  have := PyData.shown_le 70 (by decide) d h.ls
  have := h.wt
  rw [sizeLine_eq]
  omega
theorem shAll_iff : ∀ {ds : List PyData}, PyData.showableAll ds = true ↔ ∀ d ∈ ds, d.showable = true
  | [] => ⟨fun _ _ z => (nomatch z), fun _ => rfl⟩
  | d :: r => by
    rw [PyData.showableAll, Bool.and_eq_true, shAll_iff]
    exact ⟨fun ⟨a, c⟩ x hx => (List.mem_cons.mp hx).elim (fun e => e ▸ a) (c x), fun h => ⟨h d List.mem_cons_self, fun x hx => h x (List.mem_cons_of_mem _ hx)⟩⟩
theorem lsAll_iff : ∀ {ds : List PyData}, PyData.leavesShortAll 70 ds = true ↔ ∀ d ∈ ds, d.leavesShort 70 = true
  | [] => ⟨fun _ _ z => (nomatch z), fun _ => rfl⟩
  | d :: r => by
    rw [PyData.leavesShortAll, Bool.and_eq_true, lsAll_iff]
    exact ⟨fun ⟨a, c⟩ x hx => (List.mem_cons.mp hx).elim (fun e => e ▸ a) (c x), fun h => ⟨h d List.mem_cons_self, fun x hx => h x (List.mem_cons_of_mem _ hx)⟩⟩
theorem gm_tup {w n : Nat} {ds : List PyData} (h : ∀ d ∈ ds, ∃ w', Gm w' n d) (hw : PyData.weightAll ds ≤ w) : Gm w (n + 1) (.tuple ds) :=
  ⟨shAll_iff.mpr fun d hd => let ⟨_, g⟩ := h d hd; g.sh, lsAll_iff.mpr fun d hd => let ⟨_, g⟩ := h d hd; g.ls, by simp only [PyData.weight]; exact hw, by simp only [PyData.depth]; have := dAll_le.mpr fun d hd => let ⟨_, g⟩ := h d hd; g.dp; omega⟩
theorem gm_lst {w n : Nat} {ds : List PyData} (h : ∀ d ∈ ds, ∃ w', Gm w' n d) (hw : PyData.weightAll ds ≤ w) : Gm w (n + 1) (.list ds) :=
  ⟨shAll_iff.mpr fun d hd => let ⟨_, g⟩ := h d hd; g.sh, lsAll_iff.mpr fun d hd => let ⟨_, g⟩ := h d hd; g.ls, by simp only [PyData.weight]; exact hw, by simp only [PyData.depth]; have := dAll_le.mpr fun d hd => let ⟨_, g⟩ := h d hd; g.dp; omega⟩
theorem gm_name {x : Str} (h : NameOk x) : Gm 8 0 (.str x) := by
  obtain ⟨h1, h2, h3⟩ := h
  refine ⟨rfl, ?_, h2, Nat.zero_le _⟩
  rw [PyData.leavesShort, List.all_eq_true]
  intro c hc
  have := h3 c hc
  exact decide_eq_true (by omega)
theorem gm_names {ns : List Str} (h : ∀ x ∈ ns, NameOk x) : ∀ d ∈ ns.map PyData.str, ∃ w', Gm w' 0 d := fun d hd => by
  obtain ⟨x, hx, rfl⟩ := List.mem_map.mp hd
  exact ⟨8, gm_name (h x hx)⟩
theorem w_names : ∀ {ns : List Str}, (∀ x ∈ ns, NameOk x) → PyData.weightAll (ns.map .str) ≤ 9 * ns.length
  | [], _ => Nat.le_refl _
  | x :: r, h => by
    have ih := w_names (ns := r) fun y hy => h y (List.mem_cons_of_mem _ hy)
    have := (gm_name (h x List.mem_cons_self)).wt
    rw [List.map_cons, PyData.weightAll, List.length_cons]
    omega
theorem fitN_of {w n : Nat} {d : PyData} (h : Gm w n d) (hw : w ≤ 1000) : FitN d := by
  have hd := h.wt
  cases d with
  | list ds =>
    simp only [PyData.weight] at hd
    refine ⟨Nat.le_trans (wAll_len ds) (by omega), fun e he x ex => ?_⟩
    have := wAll_mem (xs := ds) he
    subst ex
    have e : (PyData.str x).weight = x.length := by simp only [PyData.weight]; rfl
    omega
  | tuple ds =>
    simp only [PyData.weight] at hd
    refine ⟨Nat.le_trans (wAll_len ds) (by omega), fun e he x ex => ?_⟩
    have := wAll_mem (xs := ds) he
    subst ex
    have e : (PyData.str x).weight = x.length := by simp only [PyData.weight]; rfl
    omega
  | _ => exact ⟨Nat.zero_le _, fun e he => nomatch he⟩
/-- a value drawn -/
def GdV (m1 m2 : Nat) (K : PySem.W.Frag) (p : Addr) (H : Hp) (v : V) : Prop := ∃ d, Da K p H v d ∧ Gm m1 m2 d ∧ BareV H v d
section
variable {m1 m2 : Nat} {K : PySem.W.Frag} {p c : Addr} {n : Nat} {H H' : Hp}
theorem GdV.mono {m3 m4 : Nat} {v : V} (h : GdV m1 m2 K p H v) (a : m1 ≤ m3) (b : m2 ≤ m4) : GdV m3 m4 K p H v := let ⟨d, x, y, z⟩ := h; ⟨d, x, y.mono a b, z⟩
theorem GdV.keep {v : V} (h : GdV m1 m2 K p H v) (s : Same H H') : GdV m1 m2 K p H' v := let ⟨d, a, b, e⟩ := h; ⟨d, da_keep s.keepA a, b, e.keep s⟩
theorem BareV.keepP {v : V} {d : PyData} (h : BareV H v d) (s : SameP p H H') (G : PenAt H p c n) : BareV H' v d := fun z => let ⟨a, e, b⟩ := h z; ⟨a, e, b.keepP s G⟩
theorem GdV.keepP {v : V} (h : GdV m1 m2 K p H v) (s : SameP p H H') (G : PenAt H p c n) : GdV m1 m2 K p H' v := let ⟨d, a, b, e⟩ := h; ⟨d, da_keep (s.keepA G) a, b, e.keepP s G⟩
theorem gd_flat {v : V} {d : PyData} (a : Da K p H v d) (g : gmB m1 m2 d = true) (h : isTup d = false) : GdV m1 m2 K p H v := ⟨d, a, gmB_ok g, fun z => by rw [h] at z; cases z⟩
theorem gd_tupF {a : Addr} {xs : List V} {ds : List PyData} (h : SqT K H a xs) (b : BareT H a) (hd : DaAll K p H xs ds) (g : Gm m1 m2 (.tuple ds)) : GdV m1 m2 K p H (.ref a) := ⟨_, .tup h hd, g, fun _ => ⟨a, rfl, b⟩⟩
theorem gd_lst {a : Addr} {xs : List V} {ds : List PyData} (h : H a = some (.lst xs)) (na : a ≠ sysModules) (hd : DaAll K p H xs ds) (g : Gm m1 m2 (.list ds)) : GdV m1 m2 K p H (.ref a) := ⟨_, .lst na (.inl (.inl h)) hd, g, fun z => nomatch z⟩
theorem gd_dct {a : Addr} {kvs : List (Key × V)} {es : List (PyData × PyData)} (na : a ≠ p) (h : H a = some (.dK kvs)) (hd : DaKv K p H kvs es) (g : Gm m1 m2 (.dict es)) : GdV m1 m2 K p H (.ref a) := ⟨_, .dct na h hd, g, fun z => nomatch z⟩
end
/-- a list of such values -/
def GdL (m1 m2 : Nat) (K : PySem.W.Frag) (p : Addr) (H : Hp) (xs : List V) : Prop := ∀ v ∈ xs, GdV m1 m2 K p H v
section
variable {m1 m2 : Nat} {K : PySem.W.Frag} {p c : Addr} {n : Nat} {H H' : Hp} {xs ys : List V}
theorem GdL.keep (h : GdL m1 m2 K p H xs) (s : Same H H') : GdL m1 m2 K p H' xs := fun v hv => (h v hv).keep s
theorem GdL.keepP (h : GdL m1 m2 K p H xs) (s : SameP p H H') (G : PenAt H p c n) : GdL m1 m2 K p H' xs := fun v hv => (h v hv).keepP s G
theorem GdL.nil : GdL m1 m2 K p H [] := fun _ z => nomatch z
theorem GdL.cons {v : V} (a : GdV m1 m2 K p H v) (h : GdL m1 m2 K p H xs) : GdL m1 m2 K p H (v :: xs) := fun x hx => (List.mem_cons.mp hx).elim (fun e => e ▸ a) (h x)
theorem GdL.app (h : GdL m1 m2 K p H xs) (g : GdL m1 m2 K p H ys) : GdL m1 m2 K p H (xs ++ ys) := fun x hx => (List.mem_append.mp hx).elim (h x) (g x)
end
section
variable {X : Cx}
/-- list + list: a new list, not at sys.modules -/
theorem op_catN : OpR X (binaryOp .Add) (fun x y H Q => ∃ l b xs zs, x = .ref l ∧ y = .ref b ∧ H l = some (.lst xs) ∧ H b = some (.lst zs) ∧ xs.length + zs.length ≤ sizeLine ∧ ∀ p, H p = none → p ≠ sysModules → Q (.ref p) (upd H p (.lst (xs ++ zs)))) := by
  intro pins s σ H x y v u Q I rx ry ⟨l, b, xs, zs, e1, e2, h1, h2, hz, q⟩
  subst e1; subst e2; cases rx; cases ry
  obtain ⟨_, its, _, r1, l1, g1⟩ := I.lstM h1; obtain ⟨_, its2, _, r2, l2, g2⟩ := I.lstM h2
  refine PySem.P.add_list g1 g2 ?_ (by rw [List.size_toArray, List.size_toArray]; omega)
  rw [show its.toArray ++ its2.toArray = (its ++ its2).toArray by simp]
  exact ⟨.ref _, _, I.lnew (t' := s.toks) (r1.append r2) (by rw [List.length_append]; omega), rfl, q _ I.fresh (Nat.ne_of_gt I.big)⟩
end
end My
set_option Elab.async false
set_option linter.all false
set_option maxRecDepth 100000
set_option maxHeartbeats 4000000
/-! small numbers and rows, as values drawn -/
namespace My
open PySem PySem.Spec PyProof.Rows L2
def SmI (z : Int) : Prop := -64 ≤ z ∧ z ≤ 64
theorem gm_intI {z : Int} (h : SmI z) : gmB 8 0 (.int z) = true := by
  have q : ∀ k : Fin 129, gmB 8 0 (.int ((k.val : Int) - 64)) = true := by decide +kernel
  obtain ⟨h1, h2⟩ := h
  have := q ⟨(z + 64).toNat, by omega⟩
  rw [show ((((z + 64).toNat : Nat) : Int) - 64) = z by omega] at this
  exact this
theorem gd_intI {K : PySem.W.Frag} {p : Addr} {H : Hp} {z : Int} {m n : Nat} (h : SmI z) (hm : 8 ≤ m) : GdV m n K p H (.int z) := ⟨.int z, .int z, (gmB_ok (gm_intI h)).mono hm (Nat.zero_le _), fun z => nomatch z⟩
theorem gm_dw {x : Str × Int} (h : NameOk x.1) (d : x.2 = 1 ∨ x.2 = -1) : Gm 11 1 (dwD x) := by
  have g1 := gm_name h
  have g2 : Gm 1 0 (.int x.2) := by rcases d with d | d <;> rw [d] <;> exact gmB_ok (by decide +kernel)
  refine gm_tup (n := 0) (fun d hd => ?_) ?_
  · simp only [List.mem_cons, List.not_mem_nil, or_false] at hd
    rcases hd with rfl | rfl
    · exact ⟨8, g1⟩
    · exact ⟨1, g2⟩
  · have w1 := g1.wt
    have w2 := g2.wt
    rw [PyData.weightAll, PyData.weightAll, PyData.weightAll]
    omega
theorem w_row : ∀ {r : List (Str × Int)}, (∀ x ∈ r, NameOk x.1) → Dirs r → PyData.weightAll (r.map dwD) ≤ 12 * r.length
  | [], _, _ => Nat.le_refl _
  | x :: r, h, d => by
    have ih := w_row (r := r) (fun y hy => h y (List.mem_cons_of_mem _ hy)) (fun y hy => d y (List.mem_cons_of_mem _ hy))
    have := (gm_dw (h x List.mem_cons_self) (d x List.mem_cons_self)).wt
    rw [List.map_cons, PyData.weightAll, List.length_cons]
    omega
theorem gm_row {r : List (Str × Int)} (h : RowOk r) : Gm 400 2 (rowD r) :=
  gm_tup (n := 1) (fun d hd => by
    obtain ⟨x, hx, rfl⟩ := List.mem_map.mp hd
    exact ⟨11, gm_dw (h.nm x hx) (h.dir x hx)⟩) (by have := w_row h.nm h.dir; have := h.few; omega)
theorem name_lay {x : Str} (h : NameOk x) : PyData.strOk x = true := by
  unfold PyData.strOk
  rw [← Array.all_toList, List.all_eq_true]
  intro c hc
  have := h.2.2 c hc
  exact decide_eq_true (by omega)
theorem lay_rowI : ∀ {r : List (Str × Int)}, (∀ x ∈ r, NameOk x.1) → PyData.canLayAll0 (r.map dwD) = true
  | [], _ => rfl
  | x :: r, h => by
    rw [List.map_cons, PyData.canLayAll0, lay_rowI (r := r) fun d hd => h d (List.mem_cons_of_mem _ hd), Bool.and_true]
    show PyData.canLay0 (.tuple [.str x.1, .int x.2]) = true
    simp only [PyData.canLay0, PyData.canLayAll0, name_lay (h x List.mem_cons_self)]
    rfl
theorem shaped_row {r : List (Str × Int)} (h : RowOk r) : SeqAt.shaped (rowD r) = true := by
  have d := (gm_row h).dp
  unfold SeqAt.shaped
  rw [Bool.and_eq_true]
  refine ⟨?_, decide_eq_true (by omega)⟩
  unfold rowD
  simp only [PyData.canLay0]
  exact lay_rowI h.nm
end My
set_option Elab.async false
set_option linter.all false
set_option maxRecDepth 100000
set_option maxHeartbeats 4000000
/-! what stays where tables of code objects grow -/
namespace My
open PySem PySem.Spec PyProof.Rows L2 LamX
theorem tabs_none {q : Str} {P : Addr} {H : Hp} (h : H P = some (.tbl #[])) : Tabs [(P, q)] H := fun p hp => by
  rw [List.mem_singleton.mp hp]
  exact ⟨#[], h, by trivial, fun pos cv z => by cases z⟩
theorem tabs_at {T : List (Addr × Str)} {H H' : Hp} {p : Addr} (h : Tabs T H) (s : ∀ b o, b ≠ p → H b = some o → H' b = some o) (np : ∀ ps, H p ≠ some (.tbl ps)) (nc : ∀ g, H p ≠ some (.ext g)) : Tabs T H' := fun t ht => by
  obtain ⟨ps, h1, h2, h3⟩ := h t ht
  refine ⟨ps, s _ _ (fun z => np ps (z ▸ h1)) h1, h2, fun pos cv hc => ?_⟩
  obtain ⟨c, e1, e2⟩ := h3 pos cv hc
  exact ⟨c, e1, s _ _ (fun z => nc _ (z ▸ e2)) e2⟩
theorem tabs_pen {T : List (Addr × Str)} {H H' : Hp} {p c : Addr} {n : Nat} (h : Tabs T H) (G : PenAt H p c n) (s : SameP p H H') : Tabs T H' := by
  obtain ⟨ns, t, r, e, _⟩ := G.ex
  exact tabs_at h s (fun ps z => by rw [e] at z; cases z) (fun g z => by rw [e] at z; cases z)
theorem PenAt.ext {H H' : Hp} {p c : Addr} {n : Nat} (G : PenAt H p c n) (s : ExtN H H') : PenAt H' p c n := by
  obtain ⟨ns, t, r, e1, e2, r3⟩ := G.ex
  exact ⟨ns, t, r, s _ _ e1 (fun ps z => by cases z), s _ _ e2 (fun ps z => by cases z), r3⟩
theorem extN_bare {H H' : Hp} {a : Addr} (s : ExtN H H') (h : BareT H a) : BareT H' a := by
  obtain ⟨ob, xs, e, d⟩ := h
  exact ⟨ob, xs, s _ _ e (fun ps z => by cases z), d⟩
theorem extN_t {K : PySem.W.Frag} {H H' : Hp} (e : ExtN H H') {a : Addr} {xs : List V} (h : SqT K H a xs) : SqT K H' a xs := by
  rcases h with (h | ⟨ob, h⟩) | h
  · exact .inl (.inl (e _ _ h fun ps z => by cases z))
  · exact .inl (.inr ⟨ob, e _ _ h fun ps z => by cases z⟩)
  · exact .inr h
theorem extN_l {K : PySem.W.Frag} {H H' : Hp} (e : ExtN H H') {a : Addr} {xs : List V} (h : SqL K H a xs) : SqL K H' a xs := by
  rcases h with (h | ⟨ob, h⟩) | h
  · exact .inl (.inl (e _ _ h fun ps z => by cases z))
  · exact .inl (.inr ⟨ob, e _ _ h fun ps z => by cases z⟩)
  · exact .inr h
theorem extN_keepA {K : PySem.W.Frag} {p : Addr} {H H' : Hp} (e : ExtN H H') : KeepA K p H H' := ⟨fun _ _ h => extN_l e h, fun _ _ h => extN_t e h, fun _ _ _ h => e _ _ h fun ps z => by cases z⟩
theorem GdV.ext {m1 m2 : Nat} {K : PySem.W.Frag} {p : Addr} {H H' : Hp} {v : V} (h : GdV m1 m2 K p H v) (s : ExtN H H') : GdV m1 m2 K p H' v := let ⟨d, a, b, c⟩ := h; ⟨d, da_keep (extN_keepA s) a, b, fun z => let ⟨x, y, q⟩ := c z; ⟨x, y, extN_bare s q⟩⟩
theorem GdL.ext {m1 m2 : Nat} {K : PySem.W.Frag} {p : Addr} {H H' : Hp} {xs : List V} (h : GdL m1 m2 K p H xs) (s : ExtN H H') : GdL m1 m2 K p H' xs := fun v hv => (h v hv).ext s
end My
set_option Elab.async false
set_option linter.all false
set_option maxRecDepth 100000
set_option maxHeartbeats 4000000
/-! defs whose code object is known: a lambda is made in them -/
namespace My
open PySem PySem.Spec PyProof.Rows L2
/-- a def whose code object is known -/
structure FunC (K : PySem.W.Frag) (x qual : Str) (st : Stmt) (f : Addr) (fd : FuncData) (c : Addr) : Prop where
  ex : ∃ (oc : Value) (od : Option Addr) (kV doc pm : Value) (an : Option Addr) (ct : Value) (osl : Array (Option Value)),
    fd = PySem.W.fnOf x qual (defArgs st) (defBody st) (defScope st) .none kV doc pm an (.ref c) ct ∧ K.lookup f = some ⟨oc, od, .func fd, osl⟩ ∧ PySem.W.codeIn K (.ref c) qual = true
section
variable {P : Program} {w : World} {K : PySem.W.Frag} {mg : Str → Option Value} {base : Heap}
theorem FunC.ok {x qual : Str} {st : Stmt} {f c : Addr} {fd : FuncData} {N ps : List Str} {k : Nat} {sp : Sp} (F : FunC K x qual st f fd c) (S : FnScope N ps (defScope st)) (len : ∀ vs H Q E, sp vs H Q E → vs.length = ps.length)
    (hbody : ∀ (A : Around) (outer : List Env) (s : Shared) (H : Hp) (vs : List V) (Q : VK) (E : XK), Room k (A.deeper (envOfC qual (defScope st) s.heap.objs.size f (.ref c))) → sp vs H Q E →
      ∃ t, PSs (cxOf CX0 P w K mg base N qual (defScope st) f (.ref c) A outer s H E).nox (defBody st) t ∧ t { nx := fun _ H' => Q .non H', rt := Q } (start N vs) H) : FnOk P w K mg base CX0 (k + 1) f fd ps sp := by
  obtain ⟨oc, od, kV, doc, pm, an, ct, osl, rfl, lk, hcd⟩ := F.ex
  refine fn_of lk hcd S len fun A outer s H vs Q E hr hsp => ?_
  obtain ⟨t, h, q⟩ := hbody A outer s H vs Q E hr hsp
  exact ⟨t, h.nox, q⟩
/-- the same of a def that shows values -/
theorem FunC.okG {x qual : Str} {st : Stmt} {f c : Addr} {fd : FuncData} {N ps : List Str} {k : Nat} {sp : Sp} (F : FunC K x qual st f fd c) (S : FnScope N ps (defScope st)) (len : ∀ vs H Q E, sp vs H Q E → vs.length = ps.length)
    (hbody : ∀ (A : Around) (outer : List Env) (s : Shared) (H : Hp) (vs : List V) (Q : VK) (E : XK), Still A → Room k (A.deeper (envOfC qual (defScope st) s.heap.objs.size f (.ref c))) → sp vs H Q E →
      ∃ t, PSs (cxOf CX0 P w K mg base N qual (defScope st) f (.ref c) A outer s H E).nox (defBody st) t ∧ t { nx := fun _ H' => Q .non H', rt := Q } (start N vs) H) : FnG P w K mg base CX0 (k + 1) f fd ps sp := by
  obtain ⟨oc, od, kV, doc, pm, an, ct, osl, rfl, lk, hcd⟩ := F.ex
  refine fn_ofG lk hcd S len fun A outer s H vs Q E sl hr hsp => ?_
  obtain ⟨t, h, q⟩ := hbody A outer s H vs Q E sl hr hsp
  exact ⟨t, h.nox, q⟩
end
end My
set_option Elab.async false
set_option linter.all false
set_option maxRecDepth 100000
set_option maxHeartbeats 4000000
/-! a != b, both None, or tuples of the same flat items -/
namespace My
open PySem PySem.Spec PyProof.Rows L2
def SameV (K : PySem.W.Frag) (H : Hp) (x y : V) : Prop := (x = .non ∧ y = .non) ∨ ∃ a b, ∃ xs : List V, x = .ref a ∧ y = .ref b ∧ SqT K H a xs ∧ SqT K H b xs ∧ ∀ v ∈ xs, flatB v = true
def rNeS (K : PySem.W.Frag) : R2 := fun x y H Q => SameV K H x y ∧ Q (.bl false) H
theorem op_neS {X : Cx} (hu : X.A.units + 64 < cLine) : OpR X (compareOp .NotEq) (rNeS X.K) := by
  intro pins s σ H x y v u Q I rx ry ⟨h, q⟩
  rcases h with ⟨rfl, rfl⟩ | ⟨a, b, xs, rfl, rfl, ha, hb, fl⟩
  · cases (show v = Value.none from rx)
    cases (show u = Value.none from ry)
    exact SeqAt.RcNeAt.none_none _ _ _ _ ⟨.bl false, H, I, rfl, q⟩
  · cases (show v = Value.ref a from rx)
    cases (show u = Value.ref b from ry)
    obtain ⟨its, r1, p1, _⟩ := I.tuple ha
    obtain ⟨its2, r2, p2, _⟩ := I.tuple hb
    have l1 := r1.length
    have l2 := r2.length
    have he : ∀ j (h1 : j < its.toArray.size) (h2 : j < its2.toArray.size), SeqAt.EqAt X.A.in1 s its.toArray[j] its2.toArray[j] ((fun _ => true) j) := fun j h1 h2 => by
      have h1' : j < its.length := by simpa using h1
      have h2' : j < its2.length := by simpa using h2
      have hx : xs[j]? = some xs[j] := List.getElem?_eq_getElem (by omega)
      obtain ⟨w1, e1, q1⟩ := r1.get hx
      obtain ⟨w2, e2, q2⟩ := r2.get hx
      have z1 : its.toArray[j] = w1 := by
        have := (List.getElem?_eq_some_iff.mp e1).2
        simpa using this
      have z2 : its2.toArray[j] = w2 := by
        have := (List.getElem?_eq_some_iff.mp e2).2
        simpa using this
      rw [z1, z2]
      exact eqAt_same q1 q2 (fl _ (List.mem_of_getElem? hx))
    have e : (!((List.range (min its.toArray.size its2.toArray.size)).all (fun _ => true) && its.toArray.size == its2.toArray.size)) = false := by
      have : its.length = its2.length := by omega
      simp [this]
    have R := SeqAt.RcNeAt.tuples (A := X.A) (s := s) p1 p2 (by omega) he
    rw [e] at R
    exact R _ _ _ _ ⟨.bl false, H, I, rfl, q⟩
end My
set_option Elab.async false
set_option linter.all false
set_option maxRecDepth 100000
set_option maxHeartbeats 4000000
/-! _law_row: a tuple that bears no dict -/
namespace My
open PySem PySem.Spec PyProof.Rows L2
section
variable {P : Program} {w : World} {K : PySem.W.Frag} {mg : Str → Option Value} {base : Heap}
/-- the names in order, each in a drawn direction -/
def spRowB (K : PySem.W.Frag) : Sp := fun vs H Q _ => ∃ (p c o : Addr) (n : Nat) (names : List Str), vs = [.ref p, .ref o] ∧ PenAt H p c n ∧ n ≤ 900000000 ∧ SqL K H o (names.map V.str) ∧ names.length ≤ 1000 ∧
  ∀ (a : Addr) (r : List (Str × Int)) (H' : Hp), r.map (·.1) = names → Dirs r → H a = none → Dt K H' (.ref a) (rowD r) → BareT H' a → SameP p H H' → PenAt H' p c (n + names.length) → Q (.ref a) H'
theorem ok_rowB {f fD fP fS : Addr} {fd dD dP dS : FuncData} (F : Fun K "_law_row" "_law_row" sRow f fd) (T : Draws P w K mg base fD fP fS dD dP dS) (mt : mg "tuple" = none) : FnOk P w K mg base CX0 3 f fd ["pen", "wagons"] (spRowB K) := by
  refine F.ok scRow (fun vs H Q E h => ?_) (fun cdv A outer s H vs Q E hr h => ?_)
  · obtain ⟨p, c, o, n, names, rfl, _⟩ := h
    rfl
  · obtain ⟨p, c, o, n, names, rfl, G, hn, hS, hl, q⟩ := h
    refine ⟨_, pss_one (ps_ret (pe_callTy call_tupleF (by rfl) mt (by decide +kernel) (pa_cons (pe_lc (own := [("name", 2)]) (g := gName 2) (tt := tYes) rfl scRow.nd (pi_list (pv 1))
        (blkOk_by (own := [("name", 2)]) (N := ["pen", "wagons", "name"]) (sc := defScope sRow) (by decide +kernel)) (fun _ _ _ _ _ => pg_name (i := 2) scRow.nd rfl (Or.inl rfl)) (fun _ _ _ _ _ => pts_nil)
        (fun _ _ _ _ _ => pe_tup (pa_cons (pv 2) (pa_cons (pe_call T.oP hr (by rfl) T.gP T.kP T.bP .nil pass0 (pa_cons (pv 0) (pa_cons (pe_lst (pa_cons pe_int (pa_cons (pe_un un_neg pe_int) pa_nil))) pa_nil))) pa_nil)))) pa_nil))), ?_⟩
    refine ⟨_, rfl, o, rfl, ⟨_, hS⟩, fun Dl hD => ?_⟩
    refine lcN_list (K := K) (a := o) (xs := names.map V.str) (fun i H' => ∃ (cs : List V) (r : List (Str × Int)), H' Dl = some (.lst cs) ∧ DtAll K H' cs (r.map dwD) ∧ r.map (·.1) = names.take i ∧ Dirs r ∧ SameP p H H' ∧ PenAt H' p c (n + i))
      ⟨[], [], upd_same, .nil, rfl, fun _ z => (nomatch z), SameP.new hD, G.same (same_new hD)⟩ (fun i H2 _ hp => ?_) (fun i x H2 hx hp => ?_) (fun H2 hp => ?_)
    · obtain ⟨_, _, _, _, _, _, s2, _⟩ := hp
      exact s2.sqL G hS
    · obtain ⟨cs, r, eD, da, er, dr, s2, G2⟩ := hp
      refine ⟨rfl, ?_⟩
      rw [List.getElem?_map] at hx
      obtain ⟨nm, hnm, rfl⟩ := Option.map_eq_some_iff.mp hx
      have hi : i < names.length := (List.getElem?_eq_some_iff.mp hnm).1
      have lr : r.length = i := by
        have := congrArg List.length er
        rw [List.length_map, List.length_take] at this
        omega
      refine ⟨_, rfl, _, rfl, _, rfl, by show 2 ≤ sizeLine; decide, fun o1 ho1 => ?_⟩
      have so := same_new (o := HO.lst [.int 1, .int (-1)]) ho1
      refine ⟨p, c, _, .ref o1, [.int 1, .int (-1)], rfl, G2.same so, by omega, .lst (.inl (.inl upd_same)), by decide, by decide, fun j v H4 hv s4 G4 => ?_⟩
      have hdv : ∃ z : Int, v = .int z ∧ (z = 1 ∨ z = -1) := by
        have := List.mem_of_getElem? hv
        simp only [List.mem_cons, List.not_mem_nil, or_false] at this
        rcases this with rfl | rfl
        · exact ⟨1, rfl, .inl rfl⟩
        · exact ⟨-1, rfl, .inr rfl⟩
      obtain ⟨z, rfl, hz⟩ := hdv
      have s24 : SameP p H2 H4 := (SameP.of so).trans s4
      have eD4 := s24.lst G2 eD
      refine ⟨by show 2 ≤ sizeLine; decide, fun t ht => ?_⟩
      have st := same_new (o := HO.tup [.str nm, .int z]) ht
      have eD5 := st _ _ eD4
      have k : KeepsT K H2 (upd (upd H4 t (.tup [.str nm, .int z])) Dl (.lst (cs ++ [.ref t]))) := ((s24.keepsT G2).trans st.keepsT).trans (KeepsT.lst eD5)
      refine ⟨cs, eD5, Evl.sz_lt (by rw [da.length, List.length_map]; omega), cs ++ [.ref t], r ++ [(nm, z)], upd_same, ?_, ?_, ?_, ?_, ?_⟩
      · rw [List.map_append]
        refine (dt_keepAll k da).append (.cons (.tup (KeepsT.lst eD5 _ _ (.inl (.inl upd_same))) (.two (.str _) (.int _))) .nil)
      · rw [List.map_append, er, List.take_add_one, hnm]
        rfl
      · intro y hy
        rcases List.mem_append.mp hy with hy | hy
        · exact dr y hy
        · rw [List.mem_singleton.mp hy]
          exact hz
      · intro b ob nb e
        rw [upd_ne (ne_of_none e hD)]
        exact st _ _ ((s2.trans s24) b ob nb e)
      · exact ((G4.same st).upd (G.apart' hD) (G.apart hD)).mono (by omega)
    · obtain ⟨cs, r, eD, da, er, dr, s2, G2⟩ := hp
      rw [List.length_map] at er G2
      refine ⟨Dl, cs, rfl, .inl (.inl eD), fun a ob ha hob => ?_⟩
      have sa := same_new (o := HO.frz ob (.tup cs)) ha
      exact q a r _ (by rw [er, List.take_length]) dr (s2.free G2 ha) (.tup (.inl (.inr ⟨ob, upd_same⟩)) (dt_keepAll sa.keepsT da)) ⟨ob, cs, upd_same, hob⟩ (s2.trans (.of sa)) (G2.same sa)
end
end My
set_option Elab.async false
set_option linter.all false
set_option maxRecDepth 100000
set_option maxHeartbeats 4000000
/-! The end of a law whose def shows values, with tables of code objects. -/
namespace My
open PySem PySem.Spec PyProof.Rows L2
section
variable {P : Program} {w : World} {K : PySem.W.Frag} {mg mb : Str → Option Value} {CX : CXT} {k : Nat} {fa a : Addr} {fd : FuncData} {x : Str} {sp : Sp} {s : Shared} {vs : List Value} {ns : List Int} {cs : List (Addr × Addr)}
/-- what is said of the tables -/
structure TabsAt (K : PySem.W.Frag) (cs : List (Addr × Addr)) (mg : Str → Option Value) (h : Heap) : Prop where
  tb : ∀ p ∈ cs, h.get? p.2 = some { cls := .none, data := .fields #[] }
  lk : ∀ p ∈ cs, K.lookup p.2 = none
  hd : ∀ p ∈ cs, PySem.W.CodeHd h p.1 p.2
  bm : ∃ bm ob, mg "__builtins__" = some (.ref bm) ∧ bm ≠ builtinsNs ∧ h.get? bm = some ob ∧ ob.cls = .type "module" ∧ ob.dict = some builtinsNs ∧ ob.data = .plain
/-- the abstract heap in which at most the script and the tables are tracked -/
structure BareTab (K : PySem.W.Frag) (a : Addr) (cs : List (Addr × Addr)) (H : Hp) : Prop where
  only : ∀ b, H b = none ∨ (b = a ∧ ∃ o xs, H b = some (.frz o (.lst xs))) ∨ (∃ p ∈ cs, b = p.2 ∧ H b = some (.tbl #[]))
  free : H a ≠ none → K.lookup a = none
theorem law_atT (B : Behind K mg mb a vs s) (TA : TabsAt K cs mg s.heap) (hr : Room k callerA) (F : ∀ base : Heap, K.In base → base.Ns mainGlobals mg → (∀ p ∈ cs, LamX.TabB base mg p.1 p.2) → FnG P w K mg base CX k fa fd [x] sp)
    (bind : ∀ (s : Shared) (u : Value), BindsTo s fd ⟨[u], []⟩ [(x, u)]) (hCX : ∀ H e s', CX [] H s (fun _ _ _ => False) e s' → False)
    (H : Hp) (W : BareTab K a cs H) (hok : HOk P w H s.heap) (hp : sp [.ref a] H (fun v _ => v = .bl true) fun _ _ _ => False) :
    codeAny (model P w) callerA (.call (.ref fa) ⟨[.ref a], []⟩) (fun r s' => r = .ok (.ret (.bool true)) ∧ OldK s.heap s'.heap ∧ s'.os = s.os ∧ AllBare s'.gens) s := by
  have nz : ∀ {b : Addr} {o : Obj}, s.heap.get? b = some o → (∀ xs n, o.data ≠ .seq xs n) → (∀ fs, o.data = .fields fs → o.cls ≠ .none) → H b = none := fun {b o} e h1 h2 => by
    rcases W.only b with z | ⟨rfl, _⟩ | ⟨p, hp, rfl, _⟩
    · exact z
    · rw [B.ob] at e
      cases e
      exact absurd rfl (h1 _ _)
    · rw [TA.tb p hp] at e
      cases e
      exact absurd rfl (h2 _ rfl)
  have apart : ∀ {b : Addr} {o : Obj}, s.heap.get? b = some o → (∀ xs n, o.data ≠ .seq xs n) → (∀ fs, o.data = .fields fs → o.cls ≠ .none) → (hidT s.heap H).get? b = some o := fun {b o} e h1 h2 => hidT_get e (nz e h1 h2)
  have ns : ∀ {b : Addr} {m : Str → Option Value}, s.heap.Ns b m → (hidT s.heap H).Ns b m := fun {b m} ⟨o, es, ep, e, d, r⟩ => ⟨o, es, ep, apart e (fun _ _ z => by rw [d] at z; cases z) (fun _ z => by rw [d] at z; cases z), d, r⟩
  have kb : K.In (hidT s.heap H) := fun b o e => by
    refine hidT_get (B.kin b o e) ?_
    rcases W.only b with z | ⟨rfl, _⟩ | ⟨p, hp, rfl, _⟩
    · exact z
    · by_cases q : H b = none
      · exact q
      · have := W.free q
        rw [e] at this
        cases this
    · have := TA.lk p hp
      rw [e] at this
      cases this
  obtain ⟨bm, ob, b1, b2, b3, b4, b5, b6⟩ := TA.bm
  obtain ⟨og, eg, pg, e1, e2, _⟩ := B.glob
  have tbs : ∀ p ∈ cs, LamX.TabB (hidT s.heap H) mg p.1 p.2 := fun p hp => by
    obtain ⟨o, vs', file, tf, flags, tg, inF, text, tt, c1, c2, c3, c4⟩ := TA.hd p hp
    have gp : mainGlobals ≠ p.2 := fun z => by
      rw [z, TA.tb p hp] at e1
      cases e1
      cases e2
    refine ⟨⟨o, vs', file, tf, flags, tg, inF, text, tt, apart c1 (fun _ _ z => by rw [c3] at z; cases z) (fun _ _ z => by rw [c2] at z; cases z), c2, c3, c4⟩, ⟨bm, ob, b1, b2, fun z => ?_, fun z => ?_, apart b3 (fun _ _ z => by rw [b6] at z; cases z) (fun _ z => by rw [b6] at z; cases z), b4, b5, b6⟩, gp⟩
    · rw [z, e1] at b3
      cases b3
      rw [e2] at b6
      cases b6
    · rw [z, TA.tb p hp] at b3
      cases b3
      cases b6
  have md : Mod K mg (hidT s.heap H) := ⟨kb, ns B.glob, ⟨mb, ns B.blt, B.boot⟩, match B.lim with | ⟨m, p, q⟩ => ⟨m, ns p, q⟩⟩
  have e0 : Env0 P w K mg (hidT s.heap H) callerA [] s H :=
    { frames := rfl, mod := md, bs := fun _ _ e => of_hidT e, bsz := Nat.le_of_eq (hidT_size _ _), funs := trivial, frf := fun _ z => (List.not_mem_nil z).elim, hok := hok, bare := .of_eq B.gens }
  refine codeAny_mono ((F _ kb (ns B.glob) tbs).run callerA [] s H ⟨[.ref a], []⟩ [.ref a] [.ref a] _ _ rfl hr e0 (bind s (.ref a)) (.cons rfl .nil) hp) ?_
  intro res s' z
  match res, z with
  | .error e, z => exact (hCX H e s' z).elim
  | .ok .next, z => exact z.elim
  | .ok .brk, z => exact z.elim
  | .ok .cont, z => exact z.elim
  | .ok (.ret u), ⟨v, H', os, bare, un, hok', rv, q⟩ =>
    subst q
    cases (show u = Value.bool true from rv)
    refine ⟨rfl, ⟨fun b o e => ?_, fun b o e => un.there b o e List.not_mem_nil⟩, os, bare⟩
    rcases W.only b with z | ⟨_, ob, xs, z⟩ | ⟨p, hp, rfl, z⟩
    · exact .inl (un.keep b o e z List.not_mem_nil List.not_mem_nil)
    · have h1 := (hok b _ z).1
      have h2 := (hok' b _ (un.frzs b ob _ z)).1
      rw [e] at h1
      cases h1
      exact .inl h2
    · obtain ⟨more, e'⟩ := un.tbls p.2 _ z
      have h2 : s'.heap.get? p.2 = some { cls := .none, data := .fields (#[] ++ more) } := hok' p.2 _ e'
      rw [TA.tb p hp] at e
      cases e
      obtain ⟨o, vs', file, tf, flags, tg, inF, text, tt, c1, c2, c3, c4, _⟩ := TA.hd p hp
      exact .inr (.inl ⟨⟨p.1, o, vs', c1, c2, c3, c4⟩, rfl, #[], more, rfl, h2⟩)
theorem law_endT (B : Behind K mg mb a vs s) (TA : TabsAt K cs mg s.heap) (hi : IntsAre vs ns) (hl : ns.length ≤ sizeLine) (hr : Room k callerA)
    (F : ∀ base : Heap, K.In base → base.Ns mainGlobals mg → (∀ p ∈ cs, LamX.TabB base mg p.1 p.2) → FnG P w K mg base CX k fa fd [x] sp) (bind : ∀ (s : Shared) (u : Value), BindsTo s fd ⟨[u], []⟩ [(x, u)])
    (hsp : ∀ H : Hp, (∀ p ∈ cs, H p.2 = some (.tbl #[])) → SqL K H a (ns.map V.int) → sp [.ref a] H (fun v _ => v = .bl true) fun _ _ _ => False) (hCX : ∀ H e s', CX [] H s (fun _ _ _ => False) e s' → False) :
    codeAny (model P w) callerA (.call (.ref fa) ⟨[.ref a], []⟩) (fun r s' => r = .ok (.ret (.bool true)) ∧ OldK s.heap s'.heap ∧ s'.os = s.os ∧ AllBare s'.gens) s := by
  have rv := vals_ints hi
  have le := hi.length
  have lm : (ns.map V.int).length ≤ sizeLine := by
    rw [List.length_map]
    exact hl
  have na : ∀ p ∈ cs, p.2 ≠ a := fun p hp z => by
    have := TA.tb p hp
    rw [z, B.ob] at this
    cases this
  let fz : HO := .frz { cls := .type "list", data := .seq vs.toArray } (.lst (ns.map V.int))
  let T0 : Hp := fun c => if c ∈ cs.map (·.2) then some (.tbl #[]) else none
  have t0 : ∀ p ∈ cs, T0 p.2 = some (.tbl #[]) := fun p hp => if_pos (List.mem_map_of_mem hp)
  have t1 : ∀ b, T0 b = none ∨ ∃ p ∈ cs, b = p.2 ∧ T0 b = some (.tbl #[]) := fun b => (Decidable.em (b ∈ cs.map (·.2))).elim (fun z => by
    obtain ⟨p, hp, e⟩ := List.mem_map.mp z
    exact .inr ⟨p, hp, e.symm, if_pos z⟩) fun z => .inl (if_neg z)
  have ok0 : ∀ b o, T0 b = some o → ∃ p ∈ cs, b = p.2 ∧ o = .tbl #[] := fun b o e => by
    rcases t1 b with z | ⟨p, hp, eb, z⟩
    · rw [z] at e
      cases e
    · rw [z] at e
      cases e
      exact ⟨p, hp, eb, rfl⟩
  cases q : K.lookup a with
  | some o =>
    have e := B.kin a o q
    rw [B.ob] at e
    cases e
    have hS : SqL K T0 a (ns.map V.int) := .inr ⟨_, vs.toArray, _, q, rfl, rfl, rfl, by simpa using (le ▸ hl), by simpa using rv⟩
    refine law_atT B TA hr F bind hCX T0 ⟨fun b => (t1 b).imp id .inr, fun z => ?_⟩ (fun b u z => ?_) (hsp _ t0 hS)
    · rcases t1 a with y | ⟨p, hp, eb, _⟩
      · exact absurd y z
      · exact absurd eb.symm (na p hp)
    · obtain ⟨p, hp, rfl, rfl⟩ := ok0 b u z
      exact TA.tb p hp
  | none =>
    let H : Hp := fun c => if c = a then some fz else T0 c
    have own : H a = some fz := if_pos rfl
    have oth : ∀ b, b ≠ a → H b = T0 b := fun b z => if_neg z
    refine law_atT B TA hr F bind hCX H ⟨fun b => ?_, fun _ => q⟩ (fun b u z => ?_) (hsp _ (fun p hp => (oth _ (na p hp)).trans (t0 p hp)) (.inl (.inr ⟨_, own⟩)))
    · by_cases y : b = a
      · exact .inr (.inl ⟨y, _, _, by rw [y]; exact own⟩)
      · rw [oth b y]
        exact (t1 b).imp id .inr
    · by_cases y : b = a
      · subst y
        rw [own] at z
        cases z
        exact ⟨B.ob, lm, vs, _, rv, B.ob⟩
      · rw [oth b y] at z
        obtain ⟨p, hp, rfl, rfl⟩ := ok0 b u z
        exact TA.tb p hp
end
/-- what the law's def asks for the end -/
def LawAtG (l : PySem.W.OpenLaw) (w : World) (K : PySem.W.Frag) (k n : Nat) (x : Str) (mg : Str → Option Value) (fa : Addr) (h : Heap) : Prop :=
  ∃ (fd : FuncData) (cs : List (Addr × Addr)) (sp : Sp), (∀ p ∈ cs, h.get? p.2 = some { cls := .none, data := .fields #[] }) ∧ (∀ p ∈ cs, K.lookup p.2 = none) ∧ (∀ p ∈ cs, PySem.W.CodeHd h p.1 p.2) ∧
    (∀ (s : Shared) (u : Value), BindsTo s fd ⟨[u], []⟩ [(x, u)]) ∧
    (∀ (H : Hp) (a : Addr) (ns : List Int), ns.length ≤ n → (∀ z ∈ ns, Builtin.Int.intBits z ≤ 1048576) → (∀ p ∈ cs, H p.2 = some (.tbl #[])) → SqL K H a (ns.map V.int) → sp [.ref a] H (fun v _ => v = .bl true) fun _ _ _ => False) ∧
    ∀ base : Heap, K.In base → base.Ns mainGlobals mg → (∀ p ∈ cs, LamX.TabB base mg p.1 p.2) → FnG l.prog w K mg base CX0 k fa fd [x] sp
/-- the end: a law that shows values, with tables of code objects -/
theorem walk_GT {l : PySem.W.OpenLaw} {n k : Nat} {q : Program} {loose : List Str} {XP : (Str → Option Value) → Heap → Prop} {YP : World → Heap → Prop} {d : DefRec} {K : Params → PySem.W.Frag} {x : Str}
    (hn : l.most = some n) (h2 : n ≤ sizeLine) (hd : d.params.defaults = []) (hr : Room k callerA) (hY : ∀ (w : World) (h : Heap), YP w h → (K w.params).In h)
    (F : ∀ (w : World) (mg : Str → Option Value) (fa : Addr) (h : Heap), YP w h → (K w.params).In h → h.Ns mainGlobals mg → mg d.name = some (.ref fa) → LawAtG l w (K w.params) k n x mg fa h) :
    PySem.W.WalkO q loose XP YP l.row.toRowW d [] (fun f vs => PySem.call f vs) :=
  Att.attach_callB hn hd fun w s₀ s mg mb fa o pm cd doc a vs ns G Y _ _ _ hmg hob hi hl hb hg =>
    let ⟨_, cs, sp, ht, hk, hc, bd, hsp, hF⟩ := F w mg fa _ Y (hY w _ Y) G.T.g hmg
    law_endT ⟨hY w _ Y, G.T.g, G.T.b, G.T.builtins, G.T.nolimit, hg, hob⟩ ⟨ht, hk, hc, G.T.bmain⟩ hi (Nat.le_trans hl h2) hr hF bd (fun H h1 hS => hsp H a ns hl hb h1 hS) fun _ _ _ z => z
end My
set_option Elab.async false
set_option linter.all false
set_option maxRecDepth 100000
set_option maxHeartbeats 4000000
namespace My
open PySem PySem.Spec PyProof.Rows L2 LamX
def qLam : Str := "law.<locals>.<lambda>"
theorem seq_split {t u : TS} {D : Ends} {σ : L2.St} {H : Hp} (P : L2.St → Hp → Prop) (h : ∀ nx : L2.St → Hp → Prop, (∀ σ H, P σ H → nx σ H) → t { D with nx := nx } σ H) (k : ∀ σ H, P σ H → u D σ H) : tSeq t u D σ H := h _ k
/-- the refusal that is due of two values -/
def DueN (n : Nat) (d1 d2 : PyData) (H : Hp) (v : V) : Prop := (idxD 0 (n : Nat) d1 = true ∧ idxD (valI d1) (n : Nat) d2 = true ∧ v = .non) ∨
  (idxD 0 (n : Nat) d1 = false ∧ ∃ t, v = .ref t ∧ H t = some (.tup [.str "number", .str d1.shown])) ∨ (idxD 0 (n : Nat) d1 = true ∧ idxD (valI d1) (n : Nat) d2 = false ∧ ∃ t, v = .ref t ∧ H t = some (.tup [.str "number", .str d2.shown]))
theorem DueN.ext {n : Nat} {d1 d2 : PyData} {H H' : Hp} {v : V} (h : DueN n d1 d2 H v) (s : ExtN H H') : DueN n d1 d2 H' v := by
  rcases h with h | ⟨a, t, e, x⟩ | ⟨a, b, t, e, x⟩
  · exact .inl h
  · exact .inr (.inl ⟨a, t, e, s _ _ x fun ps z => by cases z⟩)
  · exact .inr (.inr ⟨a, b, t, e, s _ _ x fun ps z => by cases z⟩)
theorem due_same {K : PySem.W.Frag} {n : Nat} {d1 d2 : PyData} {H : Hp} {v u : V} (h : DueN n d1 d2 H v) (g : DueN n d1 d2 H u) : SameV K H v u := by
  have fl2 : ∀ x y : Str, ∀ z ∈ [V.str x, V.str y], flatB z = true := fun x y z hz => by
    simp only [List.mem_cons, List.not_mem_nil, or_false] at hz
    rcases hz with rfl | rfl <;> rfl
  rcases h with ⟨a1, a2, rfl⟩ | ⟨a1, t, rfl, x⟩ | ⟨a1, a2, t, rfl, x⟩ <;>
    rcases g with ⟨b1, b2, rfl⟩ | ⟨b1, r, rfl, y⟩ | ⟨b1, b2, r, rfl, y⟩ <;>
    first
    | exact .inl ⟨rfl, rfl⟩
    | (rw [a1] at b1; cases b1; done)
    | (rw [a2] at b2; cases b2; done)
    | exact .inr ⟨t, r, _, rfl, rfl, .inl (.inl x), .inl (.inl y), fl2 _ _⟩
theorem shw_of {K : PySem.W.Frag} {p : Addr} {H : Hp} {v : V} {d : PyData} (D : Da K p H v d) (g : Gm 200 1 d) : Shw K H v d := ⟨⟨p, D⟩, g.sh, Nat.le_trans g.dp (by decide), g.short (by decide)⟩
theorem Rw.ext {K : PySem.W.Frag} {H H' : Hp} {a : Addr} {r : List (Str × Int)} (h : Rw K H a r) (s : ExtN H H') : Rw K H' a r := ⟨dt_keep (fun _ _ z => extN_t s z) h.dt, extN_bare s h.ba⟩
theorem revE_ans {K : PySem.W.Frag} {CN p a : Addr} {H : Hp} {v1 v2 : V} {d1 d2 : PyData} {r : List (Str × Int)} {Q Q' : VK} (hQ : ∀ v H', Q .non H' → Q' v H') (hr : Rw K H a r) (ok : RowOk r) (ne : r ≠ []) (D1 : Da K p H v1 d1) (D2 : Da K p H v2 d2) (g1 : Gm 200 1 d1) (g2 : Gm 200 1 d2) (k : ∀ v H', Same H H' → DueN r.length d1 d2 H' v → Q v H') :
    spRevE K CN [.ref a, v1, v2] H Q' (RefE K CN Q) :=
  ⟨p, a, r, v1, v2, d1, d2, rfl, hr, ok, ne, D1, D2, fun o1 o2 v H' s => hQ _ _ (k _ _ s (.inl ⟨o1, o2, rfl⟩)),
    fun o1 dd H' s _ e => ⟨dd, v1, d1, rfl, rfl, e, (shw_of D1 g1).keep s, fun t H2 s2 e2 => k _ _ (s.trans s2) (.inr (.inl ⟨o1, t, rfl, e2⟩))⟩,
    fun o1 o2 dd H' s _ e => ⟨dd, v2, d2, rfl, rfl, e, (shw_of D2 g2).keep s, fun t H2 s2 e2 => k _ _ (s.trans s2) (.inr (.inr ⟨o1, o2, t, rfl, e2⟩))⟩⟩
section
variable {P : Program} {w : World} {K : PySem.W.Frag} {mg : Str → Option Value} {base : Heap}
def spLaw (K : PySem.W.Frag) (T : List (Addr × Str)) : Sp := fun vs H Q _ => ∃ (a : Addr) (ns : List Int), vs = [.ref a] ∧ SqL K H a (ns.map V.int) ∧ ns.length ≤ 63 ∧ Tabs T H ∧ ∀ H', Q (.bl true) H'
theorem ok_law {T : List (Addr × Str)} {f c P1 fR fO fD fP fS f1 f2 f3 f4 f5 CN CR CW CP CO : Addr} {fd dR dO dD dP dS d1 d2 d3 d4 d5 : FuncData} (F : FunC K "law" "law" sLaw f fd c) (B : Glb mg) (TB : TabB base mg c P1) (hm : (P1, qLam) ∈ T) (one : ∀ p ∈ T, p.1 = P1 → p.2 = qLam) (R : RefN K mg CN CR CW CP CO)
    (FR : Fun K "_law_refused" "_law_refused" sRefd fR dR) (gR : mg "_law_refused" = some (.ref fR)) (kR : PySem.W.keepIn K (.ref fR) = true) (bR : L2.Binds K dR ["call"] []) (D : Draws P w K mg base fD fP fS dD dP dS)
    (CP : Has P w K mg base 1 "_law_pen" ["script"] (spPen K) f1 d1) (CG : Has P w K mg base 3 "_law_wagons" ["pen", "many"] (spWag K) f2 d2) (CB : Has P w K mg base 3 "_law_row" ["pen", "wagons"] (spRowB K) f3 d3) (CT : Has P w K mg base 1 "_law_turned_part" ["row", "first", "last"] (spLTP K) f4 d4) (CI : Has P w K mg base 1 "_law_is_index" ["value", "least", "many"] (spIdx K) f5 d5)
    (GO : FnOk P w K mg base CX0 6 fO dO ["row", "first", "last"] (spRev K)) (GE : FnOk P w K mg base (L2.CX P w) 6 fO dO ["row", "first", "last"] (spRevE K CN)) (gO : mg "reversed_row" = some (.ref fO)) (kO : PySem.W.keepIn K (.ref fO) = true) (bO : L2.Binds K dO ["row", "first", "last"] []) :
    FnG P w K mg base C8.CX0 9 f fd ["script"] (spLaw K T) := by
  refine F.okG scLaw (fun vs H Q E h => ?_) (fun A outer s H vs Q E st hr h => ?_)
  · obtain ⟨a, ns, rfl, _⟩ := h
    rfl
  · obtain ⟨a, ns, rfl, hS, hl, hT, q⟩ := h
    have hr1 := hr.mono (show 1 ≤ 8 by decide)
    have hr2 := hr.mono (show 2 ≤ 8 by decide)
    have hr3 := hr.mono (show 3 ≤ 8 by decide)
    have hr6 := hr.mono (show 6 ≤ 8 by decide)
    have sg : Still (A.deeper (envOfC "law" (defScope sLaw) s.heap.objs.size f (.ref c))) := st
    obtain ⟨oc, od, kV, doc, pm, an, cdv, ct, osl, rfl, lk, hcd⟩ := FR.ex
    refine ⟨_, pss_cons (ps_set (i := 1) scLaw.nd rfl (.inl rfl) (pe_has CP hr1 (by rfl) (pa_cons (pv 0) pa_nil)))
      (pss_cons (ps_for PassesOwn.never rfl (pi_range1 (by rfl) B.range (pa_cons pe_int pa_nil)) (pg_name (i := 2) scLaw.nd rfl (.inl rfl))
        (pss_cons (ps_set (i := 12) scLaw.nd rfl (.inr rfl) (pe_has CB hr3 (by rfl) (pa_cons (pv 1) (pa_cons (pe_has CG hr3 (by rfl) (pa_cons (pv 1) (pa_cons (pe_op op_add pe_int (pe_call D.oD hr1 (by rfl) D.gD D.kD D.bD .nil pass0 (pa_cons (pv 1) (pa_cons pe_int pa_nil)))) pa_nil))) pa_nil))))
        (pss_cons (ps_par (i := 3) (j := 4) (by rfl) scLaw.nd rfl rfl (by decide) rfl rfl (pa_cons (pe_callB call_len (by rfl) B.len PySem.boot_len (pa_cons (pv 12) pa_nil)) (pa_cons (pe_callB (call_reprA sg hr.units) (by rfl) B.repr boot_repr (pa_cons (pv 12) pa_nil)) pa_nil)) (by rfl))
        (pss_one (ps_for PassesOwn.never rfl (pi_range1 (by rfl) B.range (pa_cons pe_int pa_nil)) (pg_name (i := 5) scLaw.nd rfl (.inl rfl))
          (pss_cons (ps_set (i := 6) scLaw.nd rfl (.inl rfl) (pe_call D.oD hr1 (by rfl) D.gD D.kD D.bD .nil pass0 (pa_cons (pv 1) (pa_cons (pv 3) pa_nil))))
          (pss_cons (ps_set (i := 7) scLaw.nd rfl (.inl rfl) (pe_call D.oP hr2 (by rfl) D.gP D.kP D.bP .nil pass0 (pa_cons (pv 1) (pa_cons (pe_lst (pa_cons (pv 6) (pa_cons (pe_op op_add (pv 6) (pe_call D.oD hr1 (by rfl) D.gD D.kD D.bD .nil pass0 (pa_cons (pv 1) (pa_cons (pe_op op_sub (pv 3) (pv 6)) pa_nil)))) (pa_cons (pe_op op_sub (pv 3) pe_int) pa_nil)))) pa_nil))))
          (pss_cons (ps_set (i := 8) scLaw.nd rfl (.inl rfl) (pe_has CT hr1 (by rfl) (pa_cons (pv 12) (pa_cons (pv 6) (pa_cons (pv 7) pa_nil)))))
          (pss_cons (ps_if (PW.pt (pw_or (pt_cmpR op_ne (pe_callB (call_reprA sg hr.units) (by rfl) B.repr boot_repr (pa_cons (pe_call GO hr6 (by rfl) gO kO bO .nil pass0 (pa_cons (pv 12) (pa_cons (pv 6) (pa_cons (pv 7) pa_nil)))) pa_nil)) (pe_callB (call_reprA sg hr.units) (by rfl) B.repr boot_repr (pa_cons (pv 8) pa_nil)) (nomark _))
              (pw_or1 (pt_cmpR (op_neD hr.units) (pe_call GO hr6 (by rfl) gO kO bO .nil pass0 (pa_cons (pv 8) (pa_cons (pv 6) (pa_cons (pv 7) pa_nil)))) (pv 12) (nomark _))))) (pss_one (ps_ret pe_bl)) pss_nil)
          (pss_cons (ps_set (i := 9) scLaw.nd rfl (.inl rfl) (pe_lst (pa_cons (pv 6) (pa_cons (pv 7) (pa_cons (pe_op op_add (pv 7) pe_int) (pa_cons (pe_op op_sub (pv 6) pe_int) (pa_cons (pv 3) (pa_cons (pe_un un_neg pe_int) (pa_cons (pe_op op_sub pe_int (pv 3)) (pa_cons pe_bl (pa_cons pe_bl (pa_cons pe_non (pa_cons pe_str (pa_cons (pe_tupF (pa_cons pe_int pa_nil)) (pa_cons (pe_lstN pa_nil) (pa_cons (pe_op op_pow pe_int pe_int) (pa_cons pe_int pa_nil)))))))))))))))))
          (pss_cons (ps_asg (pe_tup (pa_cons (pe_call D.oP hr2 (by rfl) D.gP D.kP D.bP .nil pass0 (pa_cons (pv 1) (pa_cons (pv 9) pa_nil))) (pa_cons (pe_call D.oP hr2 (by rfl) D.gP D.kP D.bP .nil pass0 (pa_cons (pv 1) (pa_cons (pv 9) pa_nil))) pa_nil)))
              (pg_tup rfl (pgs_cons (pg_name (i := 11) scLaw.nd rfl (.inr rfl)) (pgs_cons (pg_name (i := 10) scLaw.nd rfl (.inr rfl)) pgs_nil))))
          (pss_cons (ps_set (i := 8) scLaw.nd rfl (.inl rfl) pe_non)
          (pss_cons (ps_if (pt_not (pt_val (pe_has CI hr1 (by rfl) (pa_cons (pv 11) (pa_cons pe_int (pa_cons (pv 3) pa_nil))))))
              (pss_one (ps_set (i := 8) scLaw.nd rfl (.inl rfl) (pe_tup (pa_cons pe_str (pa_cons (pe_callB (call_reprA sg hr.units) (by rfl) B.repr boot_repr (pa_cons (pv 11) pa_nil)) pa_nil)))))
              (pss_one (ps_if (pt_not (pt_val (pe_has CI hr1 (by rfl) (pa_cons (pv 10) (pa_cons (pv 11) (pa_cons (pv 3) pa_nil))))))
                (pss_one (ps_set (i := 8) scLaw.nd rfl (.inl rfl) (pe_tup (pa_cons pe_str (pa_cons (pe_callB (call_reprA sg hr.units) (by rfl) B.repr boot_repr (pa_cons (pv 10) pa_nil)) pa_nil))))) pss_nil)))
          (pss_one (ps_if (PW.pt (pw_or (pt_cmpR (op_neS hr.units) (pe_lamcall (T := T) (TT := TTRef K CN) (k := 6) (t := fun E => tCallS (spRevE K CN) (fun _ => E) (tCons (tVar 12) (tCons (tVar 11) (tCons (tVar 10) tNil)))) (by rfl) gR kR lk hcd bR scRefd rfl (.inl rfl)
              (refd_gives R B.isi B.repr sg hr1) TB rfl hm one hr (lamS_by (sc := defScope sLaw) (by decide +kernel)) rfl (fun _ _ _ _ _ => rfl) (fun A outer s H E f c' hr' => pe_callS GE hr' (by rfl) gO kO bO (fun σ => passAt (takes_of rfl rfl rfl rfl) σ) (pa_cons (pv 12) (pa_cons (pv 11) (pa_cons (pv 10) pa_nil))))) (pv 8) (nomark _))
              (pw_or1 (pt_cmpR op_ne (pe_callB (call_reprA sg hr.units) (by rfl) B.repr boot_repr (pa_cons (pv 12) pa_nil)) (pv 4) (nomark _))))) (pss_one (ps_ret pe_bl)) pss_nil)))))))))))))))
      (pss_one (ps_ret pe_bl))), ?_⟩
    refine ⟨_, rfl, a, ns, rfl, hS, hl, fun p c0 H0 hp0 s0 G0 => ?_⟩
    refine ⟨10, rfl, by omega, by omega, ?_⟩
    refine for_range (lo := 0) (n := (10 : Int).toNat) (fun i σ H' => ∃ y2 y3 y4 y5 y6 y7 y8 y9 y10 y11 y12, σ = [some (.ref a), some (.ref p), y2, y3, y4, y5, y6, y7, y8, y9, y10, y11, y12] ∧ PenAt H' p c0 (300 * i) ∧ Tabs T H') ⟨_, _, _, _, _, _, _, _, _, _, _, rfl, G0, hT.ext s0⟩ (fun i σ H hi hp => ?_) (fun σ H hp => ?_)
    · obtain ⟨y2, y3, y4, y5, y6, y7, y8, y9, y10, y11, y12, rfl, G, hT⟩ := hp
      have hi10 : i < 10 := by omega
      -- wagons
      refine ⟨_, rfl, _, rfl, _, rfl, p, c0, _, 30, rfl, G, by omega, by decide, by decide, fun d H1 d0 d1 s1 G1 => ⟨_, _, rfl, rfl, ?_⟩⟩
      obtain ⟨m, em, m1, m30⟩ : ∃ m : Nat, 1 + d = (m : Int) ∧ 1 ≤ m ∧ m ≤ 30 := ⟨(1 + d).toNat, by omega, by omega, by omega⟩
      refine ⟨p, c0, _, m, by rw [← em]; rfl, G1, by omega, by omega, fun l0 one H2 nm ln hl0 el s2 G2 => ?_⟩
      refine ⟨p, c0, l0, _, one, rfl, G2, by omega, .inl (.inl el), by omega, fun t r H3 er dir n0 dt ba s3 G3 => ?_⟩
      have lr : r.length = m := by rw [← List.length_map (f := (·.1)), er, ln]
      have ok : RowOk r := ⟨fun x hx => nm.ok x.1 (by rw [← er]; exact List.mem_map_of_mem hx), dir, by rw [er]; exact nm.nd, by omega⟩
      have ne : r ≠ [] := fun z => by rw [z] at lr; simp at lr; omega
      have hR : Rw K H3 t r := ⟨dt, ba⟩
      have T3 := tabs_pen (tabs_pen (tabs_pen hT G s1) G1 s2) G2 s3
      have grow := gm_row ok
      obtain ⟨ys, hs, hly, _⟩ := hR.at
      refine ⟨_, rfl, .ref t, r.length, rfl, .inr ⟨ys, hs, hly.symm⟩, _, rfl, p, .ref t, rowD r, rfl, dt_da dt, grow.sh, Nat.le_trans grow.dp (by decide), grow.short (by decide), ?_⟩
      refine ⟨_, _, rfl, ?_⟩
      rw [lr]
      generalize hsh : (rowD r).shown = shn
      refine ⟨5, rfl, by omega, by omega, ?_⟩
      refine for_range (lo := 0) (n := (5 : Int).toNat) (fun k σ H' => ∃ y5 y6 y7 y8 y9 y10 y11, σ = [some (.ref a), some (.ref p), some (.int (0 + (i : Int))), some (.int (m : Int)), some (.str shn), y5, y6, y7, y8, y9, y10, y11, some (.ref t)] ∧ PenAt H' p c0 (300 * i + 100 + 10 * k) ∧ Tabs T H' ∧ Rw K H' t r) ⟨_, _, _, _, _, _, _, rfl, G3.mono (by rw [ln]; omega), T3, hR⟩ (fun k σ H hk hp => ?_) (fun σ H hp => ?_)
      · obtain ⟨y5, y6, y7, y8, y9, y10, y11, rfl, G, hT, hR⟩ := hp
        clear dt ba hs hly s1 s2 s3 G1 G2 G3 T3 el
        have hk5 : k < 5 := by omega
        -- start
        refine ⟨_, rfl, _, rfl, p, c0, _, (m : Int), rfl, G, by omega, by omega, by omega, fun d H1 d0 d1 s1 G1 => ?_⟩
        obtain ⟨i0, rfl⟩ : ∃ k : Nat, d = (k : Int) := ⟨d.toNat, by omega⟩
        -- end
        refine ⟨_, rfl, _, rfl, _, rfl, _, rfl, _, rfl, _, rfl, _, _, rfl, rfl, p, c0, _, (m : Int) - (i0 : Int), rfl, G1, by omega, by omega, by omega, fun e H2 e0 e1 s2 G2 => ?_⟩
        refine ⟨_, _, rfl, rfl, _, rfl, _, _, rfl, rfl, by show 3 ≤ sizeLine; decide, fun sL hsL => ?_⟩
        have s3 := same_new (o := HO.lst [.int (i0 : Int), .int ((i0 : Int) + e), .int ((m : Int) - 1)]) hsL
        have G3 := G2.same s3
        refine ⟨p, c0, _, .ref sL, _, rfl, G3, by omega, .lst (.inl (.inl upd_same)), by show 0 < 3; decide, by show 3 < 1073741824; decide, fun j1 v1 H4 hv1 s4 G4 => ?_⟩
        obtain ⟨j0, rfl, hij, hj⟩ : ∃ j0 : Nat, v1 = .int (j0 : Int) ∧ i0 ≤ j0 ∧ j0 < r.length := by
          have := List.mem_of_getElem? hv1
          simp only [List.mem_cons, List.not_mem_nil, or_false] at this
          rcases this with rfl | rfl | rfl
          · exact ⟨i0, rfl, Nat.le_refl _, by omega⟩
          · exact ⟨((i0 : Int) + e).toNat, by congr 1; omega, by omega, by omega⟩
          · exact ⟨((m : Int) - 1).toNat, by congr 1; omega, by omega, by omega⟩
        have R4 := (((hR.keepP s1 G).keepP s2 G1).keep s3).keepP s4 G3
        have T4 := tabs_pen ((tabs_pen (tabs_pen hT G s1) G1 s2).ext s3) G3 s4
        clear hv1 s1 s2 s3 s4 hR hT G1 G2 G3
        -- due
        refine ⟨_, rfl, _, rfl, _, rfl, t, r, i0, j0, rfl, R4, ok, hij, hj, fun cD H5 s5 hD => ?_⟩
        have okD := rev_ok (i := i0) (j := j0) ok hij
        have growD := gm_row okD
        refine ⟨_, rfl, _, rfl, _, rfl, t, r, i0, j0, rfl, R4.keep s5, ok, hij, hj, fun cE H6 s6 hE => ?_⟩
        refine ⟨p, .ref cE, _, rfl, dt_da hE.dt, growD.sh, Nat.le_trans growD.dp (by decide), growD.short (by decide), ?_⟩
        refine ⟨_, rfl, p, .ref cD, _, rfl, dt_da (hD.keep s6).dt, growD.sh, Nat.le_trans growD.dp (by decide), growD.short (by decide), ?_⟩
        refine ⟨rfl, _, rfl, ?_⟩
        rw [decide_eq_true rfl]
        refine iteF ⟨_, rfl, _, rfl, _, rfl, cD, _, i0, j0, rfl, hD.keep s6, okD, hij, by rw [rev_len hij]; exact hj, fun cF H7 s7 hF => ?_⟩
        rw [rev_rev hij hj] at hF
        have R7 := R4.keep ((s5.trans s6).trans s7)
        have SH := shaped_row ok
        refine ⟨_, rfl, rowD r, rowD r, dt_dp hF.dt, dt_dp R7.dt, SH, SH, _, rfl, ?_⟩
        rw [SeqAt.eqv_refl _ (SeqAt.canLay_of_shaped SH)]
        refine iteF ?_
        have S7 := (s5.trans s6).trans s7
        have G7 := G4.same S7
        have T7 := T4.ext S7
        clear hD hE hF s5 s6 s7 S7 R4 T4 G4 SH growD okD
        -- odd
        refine ⟨_, rfl, _, rfl, _, rfl, _, _, rfl, rfl, _, rfl, _, _, rfl, rfl, _, rfl, _, rfl, _, rfl, _, _, rfl, rfl, by show 1 ≤ sizeLine; decide, fun t1 o1 h1 b1 => ?_⟩
        have s8 := same_new (o := HO.frz o1 (.tup [.int 0])) h1
        have g1 : GdV 200 1 K p (upd H7 t1 (HO.frz o1 (.tup [.int 0]))) (.ref t1) := gd_tupF (.inl (.inr ⟨o1, upd_same⟩)) ⟨o1, _, upd_same, b1⟩ (.cons (.int _) .nil) (gmB_ok (by decide +kernel))
        generalize upd H7 t1 (HO.frz o1 (.tup [.int 0])) = H8 at s8 g1
        refine ⟨by show 0 ≤ sizeLine; decide, fun t2 h2 n2 => ?_⟩
        have s9 := same_new (o := HO.lst []) h2
        have g2 : GdV 200 1 K p (upd H8 t2 (HO.lst [])) (.ref t2) := gd_lst upd_same n2 .nil (gmB_ok (by decide +kernel))
        have g1 := g1.keep s9
        generalize upd H8 t2 (HO.lst []) = H9 at s9 g1 g2
        refine ⟨_, _, rfl, rfl, ⟨by decide, by decide, by decide⟩, by show 15 ≤ sizeLine; decide, fun oL hoL => ?_⟩
        have GB : GdL 200 1 K p H9 [.int (i0 : Int), .int (j0 : Int), .int ((j0 : Int) + 1), .int ((i0 : Int) - 1), .int (m : Int), .int (-1), .int (0 - (m : Int)), .bl true, .bl false, .non, .str "0", .ref t1, .ref t2, .int (10 ^ (59 : Int).toNat), .int 1] :=
          .cons (gd_intI ⟨by omega, by omega⟩ (by decide)) (.cons (gd_intI ⟨by omega, by omega⟩ (by decide)) (.cons (gd_intI ⟨by omega, by omega⟩ (by decide)) (.cons (gd_intI ⟨by omega, by omega⟩ (by decide)) (.cons (gd_intI ⟨by omega, by omega⟩ (by decide)) (.cons (gd_intI ⟨by omega, by omega⟩ (by decide)) (.cons (gd_intI ⟨by omega, by omega⟩ (by decide))
            (.cons (gd_flat (.bl _) (by decide +kernel) rfl) (.cons (gd_flat (.bl _) (by decide +kernel) rfl) (.cons (gd_flat .non (by decide +kernel) rfl) (.cons (gd_flat (.str _) (by decide +kernel) rfl) (.cons g1 (.cons g2 (.cons (gd_flat (.int _) (by decide +kernel) rfl) (.cons (gd_flat (.int _) (by decide +kernel) rfl) .nil))))))))))))))
        have s10 := same_new (o := HO.lst [.int (i0 : Int), .int (j0 : Int), .int ((j0 : Int) + 1), .int ((i0 : Int) - 1), .int (m : Int), .int (-1), .int (0 - (m : Int)), .bl true, .bl false, .non, .str "0", .ref t1, .ref t2, .int (10 ^ (59 : Int).toNat), .int 1]) hoL
        have eO : (upd H9 oL (HO.lst [.int (i0 : Int), .int (j0 : Int), .int ((j0 : Int) + 1), .int ((i0 : Int) - 1), .int (m : Int), .int (-1), .int (0 - (m : Int)), .bl true, .bl false, .non, .str "0", .ref t1, .ref t2, .int (10 ^ (59 : Int).toNat), .int 1])) oL = _ := upd_same
        have GB := GB.keep s10
        have lO : ([.int (i0 : Int), .int (j0 : Int), .int ((j0 : Int) + 1), .int ((i0 : Int) - 1), .int (m : Int), .int (-1), .int (0 - (m : Int)), .bl true, .bl false, .non, .str "0", .ref t1, .ref t2, .int (10 ^ (59 : Int).toNat), .int 1] : List V).length = 15 := rfl
        generalize ([.int (i0 : Int), .int (j0 : Int), .int ((j0 : Int) + 1), .int ((i0 : Int) - 1), .int (m : Int), .int (-1), .int (0 - (m : Int)), .bl true, .bl false, .non, .str "0", .ref t1, .ref t2, .int (10 ^ (59 : Int).toNat), .int 1] : List V) = OL at s10 eO GB lO
        have S10 := (s8.trans s9).trans s10
        generalize upd H9 oL (HO.lst OL) = H10 at S10 eO GB
        have G10 := G7.same S10
        have R10 := R7.keep S10
        have T10 := T7.ext S10
        clear g1 g2 s8 s9 s10 S10 G7 R7 T7
        -- low, high
        refine ⟨_, rfl, _, rfl, p, c0, _, .ref oL, OL, rfl, G10, by omega, .lst (.inl (.inl eO)), by omega, by rw [lO]; decide, fun j1 v1 H11 hv1 s11 G11 => ?_⟩
        have g1 := GB.keepP s11 G10 v1 (List.mem_of_getElem? hv1)
        have GB := GB.keepP s11 G10
        have eO := s11.lst G10 eO
        refine ⟨_, rfl, _, rfl, p, c0, _, .ref oL, OL, rfl, G11, by omega, .lst (.inl (.inl eO)), by omega, by rw [lO]; decide, fun j2 v2 H12 hv2 s12 G12 => ?_⟩
        have g2 := GB.keepP s12 G11 v2 (List.mem_of_getElem? hv2)
        have g1 := g1.keepP s12 G11
        have R12 := (R10.keepP s11 G10).keepP s12 G11
        have T12 := tabs_pen (tabs_pen T10 G10 s11) G11 s12
        obtain ⟨d1, D1, m1, _⟩ := g1
        obtain ⟨d2, D2, m2, _⟩ := g2
        refine ⟨by show 2 ≤ sizeLine; decide, fun tq htq => ?_⟩
        have s13 := same_new (o := HO.tup [v1, v2]) htq
        have tq13 : SqT K (upd H12 tq (HO.tup [v1, v2])) tq [v1, v2] := .inl (.inl upd_same)
        have E13 : ExtN H12 _ := ExtN.of s13
        have R13 := R12.keep s13
        have T13 := T12.ext s13
        have D1 := da_keep s13.keepA D1
        have D2 := da_keep s13.keepA D2
        generalize upd H12 tq (HO.tup [v1, v2]) = H13 at s13 tq13 E13 R13 T13 D1 D2
        clear GB eO hv1 hv2 s11 s12 R10 R12 T10 T12 G10 G11
        refine ⟨tq, _, rfl, tq13, rfl, _, _, rfl, _, _, rfl, rfl, ?_⟩
        -- due
        dsimp only
        refine seq_split (t := tAsg _ _) (fun σ H' => σ = [some (.ref a), some (.ref p), some (.int (0 + (i : Int))), some (.int (m : Int)), some (.str shn), some (.int (0 + (k : Int))), some (.int (i0 : Int)), some (.int (j0 : Int)), some .non, some (.ref oL), some v2, some v1, some (.ref t)] ∧ H13 = H') (fun nx kk => kk _ _ ⟨rfl, rfl⟩) (fun σ H' hh => ?_)
        obtain ⟨rfl, rfl⟩ := hh
        refine seq_split (t := tIfS _ _ _) (fun σ H' => ∃ u, σ = [some (.ref a), some (.ref p), some (.int (0 + (i : Int))), some (.int (m : Int)), some (.str shn), some (.int (0 + (k : Int))), some (.int (i0 : Int)), some (.int (j0 : Int)), some u, some (.ref oL), some v2, some v1, some (.ref t)] ∧ Same H13 H' ∧ DueN r.length d1 d2 H' u) (fun nx kk => ?_) (fun σ H' hh => ?_)
        · rw [lr] at kk
          refine ⟨_, rfl, _, rfl, p, v1, d1, 0, (m : Int), rfl, D1, _, rfl, ?_⟩
          cases o1 : idxD 0 (m : Nat) d1 with
          | false =>
            refine iteT ⟨_, rfl, p, v1, d1, rfl, D1, m1.sh, Nat.le_trans m1.dp (by decide), m1.short (by decide), by show 2 ≤ sizeLine; decide, fun r' hr' => ?_⟩
            exact kk _ _ ⟨.ref r', rfl, same_new hr', .inr (.inl ⟨o1, r', rfl, upd_same⟩)⟩
          | true =>
            obtain ⟨z, rfl, z0, z1⟩ := idx_is o1
            cases D1
            refine iteF ⟨_, rfl, _, rfl, _, rfl, p, v2, d2, z, (m : Int), rfl, D2, _, rfl, ?_⟩
            cases o2 : idxD z (m : Nat) d2 with
            | false =>
              refine iteT ⟨_, rfl, p, v2, d2, rfl, D2, m2.sh, Nat.le_trans m2.dp (by decide), m2.short (by decide), by show 2 ≤ sizeLine; decide, fun r' hr' => ?_⟩
              exact kk _ _ ⟨.ref r', rfl, same_new hr', .inr (.inr ⟨o1, o2, r', rfl, upd_same⟩)⟩
            | true => exact iteF (kk _ _ ⟨.non, rfl, .refl _, .inl ⟨o1, o2, rfl⟩⟩)
        · obtain ⟨u, rfl, s14, du⟩ := hh
          have E14 := E13.trans (ExtN.of s14)
          have T14 := T13.ext s14
          have R14 := R13.keep s14
          have D1 := da_keep s14.keepA D1
          have D2 := da_keep s14.keepA D2
          refine ⟨T14, fun H15 e15 T15 Q' hQ' => ⟨_, rfl, _, rfl, _, rfl, revE_ans hQ' (R14.ext e15) ok ne (da_keep (extN_keepA e15) D1) (da_keep (extN_keepA e15) D2) m1 m2 fun v H16 s16 dv => ⟨_, rfl, ⟨due_same dv (du.ext (e15.trans (ExtN.of s16))), _, rfl, iteF ?_⟩⟩⟩⟩
          have F16 : ExtN H' H16 := e15.trans (ExtN.of s16)
          have E16 := E14.trans F16
          have T16 := T15.ext s16
          have R16 := R14.ext F16
          refine ⟨_, rfl, p, .ref t, rowD r, rfl, dt_da R16.dt, grow.sh, Nat.le_trans grow.dp (by decide), grow.short (by decide), ?_⟩
          rw [hsh]
          refine ⟨_, rfl, rfl, _, rfl, ?_⟩
          rw [decide_eq_true rfl]
          exact iteF ⟨_, _, _, _, _, _, _, rfl, (G12.ext E16).mono (by omega), T16, R16⟩
      · obtain ⟨y5, y6, y7, y8, y9, y10, y11, rfl, G, hT, _⟩ := hp
        exact ⟨_, _, _, _, _, _, _, _, _, _, _, rfl, G.mono (by omega), hT⟩
    · exact q H
end
end My
set_option Elab.async false
set_option linter.all false
set_option maxRecDepth 100000
set_option maxHeartbeats 4000000
namespace My
open PySem PySem.Spec PyProof.Rows L2
/-! ### what the top has written -/
theorem all_mk {l : PySem.W.OpenLaw} {w : World} {K : PySem.W.Frag} {h : Heap} {mg : Str → Option Value} {fa f1 f2 f3 f4 f5 f6 f7 f8 f9 f10 f11 f12 f13 f14 f15 f16 f17 f18 f19 co19 P19 CN fiN CR CW CP CO : Addr} {t1 t2 t3 : Tok} (X : K.In h) (G : h.Ns mainGlobals mg) (hfa : mg "law" = some (.ref fa))
    {od1 an1 od2 an2 od3 an3 od4 an4 od5 an5 od6 an6 od7 an7 od8 an8 od9 an9 od10 an10 od11 an11 od12 an12 od13 an13 od14 an14 od15 an15 od16 an16 od17 an17 od18 an18 od19 an19 xd19 odiN aniN : Option Addr} {sl1 sl2 sl3 sl4 sl5 sl6 sl7 sl8 sl9 sl10 sl11 sl12 sl13 sl14 sl15 sl16 sl17 sl18 sl19 xs19 sliN : Array (Option Value)} {oc1 kV1 dc1 pm1 cd1 ct1 oc2 kV2 dc2 pm2 cd2 ct2 oc3 kV3 dc3 pm3 cd3 ct3 oc4 kV4 dc4 pm4 cd4 ct4 oc5 kV5 dc5 pm5 cd5 ct5 oc6 kV6 dc6 pm6 cd6 ct6 oc7 kV7 dc7 pm7 cd7 ct7 oc8 kV8 dc8 pm8 cd8 ct8 oc9 kV9 dc9 pm9 cd9 ct9 oc10 kV10 dc10 pm10 cd10 ct10 oc11 kV11 dc11 pm11 cd11 ct11 oc12 kV12 dc12 pm12 cd12 ct12 oc13 kV13 dc13 pm13 cd13 ct13 oc14 kV14 dc14 pm14 cd14 ct14 oc15 kV15 dc15 pm15 cd15 ct15 oc16 kV16 dc16 pm16 cd16 ct16 oc17 kV17 dc17 pm17 cd17 ct17 oc18 kV18 dc18 pm18 cd18 ct18 oc19 kV19 dc19 pm19 ct19 xc19 ociN kViN dciN pmiN cdiN ctiN : Value} {xv19 : Array Value}
    {nmN qqN : Str} {NN : Addr} {bsN : List Value} {snN : List Str} {subN : List Value} {abN : Bool} {colN : Option Bool} {ddN : Option Addr} {m0N m1N m2N m3N m5N : Option Value}
    (a1 : PySem.W.nsIn K mainGlobals "is_integer" = some (some (.ref f1)))
    (l1 : K.lookup f1 = some ⟨oc1, od1, .func (PySem.W.fnOf "is_integer" "is_integer" (defArgs sIsInt) (defBody sIsInt) (defScope sIsInt) .none kV1 dc1 pm1 an1 cd1 ct1), sl1⟩)
    (c1 : PySem.W.codeIn K cd1 "is_integer" = true)
    (k1 : PySem.W.keepIn K (.ref f1) = true)
    (a2 : PySem.W.nsIn K mainGlobals "is_number_below" = some (some (.ref f2)))
    (l2 : K.lookup f2 = some ⟨oc2, od2, .func (PySem.W.fnOf "is_number_below" "is_number_below" (defArgs sIsNumberBelow) (defBody sIsNumberBelow) (defScope sIsNumberBelow) .none kV2 dc2 pm2 an2 cd2 ct2), sl2⟩)
    (c2 : PySem.W.codeIn K cd2 "is_number_below" = true)
    (k2 : PySem.W.keepIn K (.ref f2) = true)
    (a3 : PySem.W.nsIn K mainGlobals "is_name" = some (some (.ref f3)))
    (l3 : K.lookup f3 = some ⟨oc3, od3, .func (PySem.W.fnOf "is_name" "is_name" (defArgs sIsName) (defBody sIsName) (defScope sIsName) .none kV3 dc3 pm3 an3 cd3 ct3), sl3⟩)
    (c3 : PySem.W.codeIn K cd3 "is_name" = true)
    (k3 : PySem.W.keepIn K (.ref f3) = true)
    (a4 : PySem.W.nsIn K mainGlobals "is_name_with" = some (some (.ref f4)))
    (l4 : K.lookup f4 = some ⟨oc4, od4, .func (PySem.W.fnOf "is_name_with" "is_name_with" (defArgs sIsWith) (defBody sIsWith) (defScope sIsWith) .none kV4 dc4 pm4 an4 cd4 ct4), sl4⟩)
    (c4 : PySem.W.codeIn K cd4 "is_name_with" = true)
    (k4 : PySem.W.keepIn K (.ref f4) = true)
    (a5 : PySem.W.nsIn K mainGlobals "is_directed" = some (some (.ref f5)))
    (l5 : K.lookup f5 = some ⟨oc5, od5, .func (PySem.W.fnOf "is_directed" "is_directed" (defArgs sIsDir) (defBody sIsDir) (defScope sIsDir) .none kV5 dc5 pm5 an5 cd5 ct5), sl5⟩)
    (c5 : PySem.W.codeIn K cd5 "is_directed" = true)
    (k5 : PySem.W.keepIn K (.ref f5) = true)
    (a6 : PySem.W.nsIn K mainGlobals "is_row" = some (some (.ref f6)))
    (l6 : K.lookup f6 = some ⟨oc6, od6, .func (PySem.W.fnOf "is_row" "is_row" (defArgs sIsRow) (defBody sIsRow) (defScope sIsRow) .none kV6 dc6 pm6 an6 cd6 ct6), sl6⟩)
    (c6 : PySem.W.codeIn K cd6 "is_row" = true)
    (k6 : PySem.W.keepIn K (.ref f6) = true)
    (a7 : PySem.W.nsIn K mainGlobals "check_filled_row" = some (some (.ref f7)))
    (l7 : K.lookup f7 = some ⟨oc7, od7, .func (PySem.W.fnOf "check_filled_row" "check_filled_row" (defArgs sChkF) (defBody sChkF) (defScope sChkF) .none kV7 dc7 pm7 an7 cd7 ct7), sl7⟩)
    (c7 : PySem.W.codeIn K cd7 "check_filled_row" = true)
    (k7 : PySem.W.keepIn K (.ref f7) = true)
    (a8 : PySem.W.nsIn K mainGlobals "turned" = some (some (.ref f8)))
    (l8 : K.lookup f8 = some ⟨oc8, od8, .func (PySem.W.fnOf "turned" "turned" (defArgs sTurn) (defBody sTurn) (defScope sTurn) .none kV8 dc8 pm8 an8 cd8 ct8), sl8⟩)
    (c8 : PySem.W.codeIn K cd8 "turned" = true)
    (k8 : PySem.W.keepIn K (.ref f8) = true)
    (a9 : PySem.W.nsIn K mainGlobals "reversed_row" = some (some (.ref f9)))
    (l9 : K.lookup f9 = some ⟨oc9, od9, .func (PySem.W.fnOf "reversed_row" "reversed_row" (defArgs sReversedRow) (defBody sReversedRow) (defScope sReversedRow) .none kV9 dc9 pm9 an9 cd9 ct9), sl9⟩)
    (c9 : PySem.W.codeIn K cd9 "reversed_row" = true)
    (k9 : PySem.W.keepIn K (.ref f9) = true)
    (a10 : PySem.W.nsIn K mainGlobals "_law_pen" = some (some (.ref f10)))
    (l10 : K.lookup f10 = some ⟨oc10, od10, .func (PySem.W.fnOf "_law_pen" "_law_pen" (defArgs sPen) (defBody sPen) (defScope sPen) .none kV10 dc10 pm10 an10 cd10 ct10), sl10⟩)
    (c10 : PySem.W.codeIn K cd10 "_law_pen" = true)
    (k10 : PySem.W.keepIn K (.ref f10) = true)
    (a11 : PySem.W.nsIn K mainGlobals "_law_draw" = some (some (.ref f11)))
    (l11 : K.lookup f11 = some ⟨oc11, od11, .func (PySem.W.fnOf "_law_draw" "_law_draw" (defArgs sDraw) (defBody sDraw) (defScope sDraw) .none kV11 dc11 pm11 an11 cd11 ct11), sl11⟩)
    (c11 : PySem.W.codeIn K cd11 "_law_draw" = true)
    (k11 : PySem.W.keepIn K (.ref f11) = true)
    (a12 : PySem.W.nsIn K mainGlobals "_law_pick" = some (some (.ref f12)))
    (l12 : K.lookup f12 = some ⟨oc12, od12, .func (PySem.W.fnOf "_law_pick" "_law_pick" (defArgs sPick) (defBody sPick) (defScope sPick) .none kV12 dc12 pm12 an12 cd12 ct12), sl12⟩)
    (c12 : PySem.W.codeIn K cd12 "_law_pick" = true)
    (k12 : PySem.W.keepIn K (.ref f12) = true)
    (a13 : PySem.W.nsIn K mainGlobals "_law_shuffled" = some (some (.ref f13)))
    (l13 : K.lookup f13 = some ⟨oc13, od13, .func (PySem.W.fnOf "_law_shuffled" "_law_shuffled" (defArgs sShuf) (defBody sShuf) (defScope sShuf) .none kV13 dc13 pm13 an13 cd13 ct13), sl13⟩)
    (c13 : PySem.W.codeIn K cd13 "_law_shuffled" = true)
    (k13 : PySem.W.keepIn K (.ref f13) = true)
    (a14 : PySem.W.nsIn K mainGlobals "_law_wagons" = some (some (.ref f14)))
    (l14 : K.lookup f14 = some ⟨oc14, od14, .func (PySem.W.fnOf "_law_wagons" "_law_wagons" (defArgs sWag) (defBody sWag) (defScope sWag) .none kV14 dc14 pm14 an14 cd14 ct14), sl14⟩)
    (c14 : PySem.W.codeIn K cd14 "_law_wagons" = true)
    (k14 : PySem.W.keepIn K (.ref f14) = true)
    (a15 : PySem.W.nsIn K mainGlobals "_law_row" = some (some (.ref f15)))
    (l15 : K.lookup f15 = some ⟨oc15, od15, .func (PySem.W.fnOf "_law_row" "_law_row" (defArgs sRow) (defBody sRow) (defScope sRow) .none kV15 dc15 pm15 an15 cd15 ct15), sl15⟩)
    (c15 : PySem.W.codeIn K cd15 "_law_row" = true)
    (k15 : PySem.W.keepIn K (.ref f15) = true)
    (a16 : PySem.W.nsIn K mainGlobals "_law_turned_part" = some (some (.ref f16)))
    (l16 : K.lookup f16 = some ⟨oc16, od16, .func (PySem.W.fnOf "_law_turned_part" "_law_turned_part" (defArgs sLTurnedPart) (defBody sLTurnedPart) (defScope sLTurnedPart) .none kV16 dc16 pm16 an16 cd16 ct16), sl16⟩)
    (c16 : PySem.W.codeIn K cd16 "_law_turned_part" = true)
    (k16 : PySem.W.keepIn K (.ref f16) = true)
    (a17 : PySem.W.nsIn K mainGlobals "_law_refused" = some (some (.ref f17)))
    (l17 : K.lookup f17 = some ⟨oc17, od17, .func (PySem.W.fnOf "_law_refused" "_law_refused" (defArgs sRefd) (defBody sRefd) (defScope sRefd) .none kV17 dc17 pm17 an17 cd17 ct17), sl17⟩)
    (c17 : PySem.W.codeIn K cd17 "_law_refused" = true)
    (k17 : PySem.W.keepIn K (.ref f17) = true)
    (a18 : PySem.W.nsIn K mainGlobals "_law_is_index" = some (some (.ref f18)))
    (l18 : K.lookup f18 = some ⟨oc18, od18, .func (PySem.W.fnOf "_law_is_index" "_law_is_index" (defArgs sLIsIndex) (defBody sLIsIndex) (defScope sLIsIndex) .none kV18 dc18 pm18 an18 cd18 ct18), sl18⟩)
    (c18 : PySem.W.codeIn K cd18 "_law_is_index" = true)
    (k18 : PySem.W.keepIn K (.ref f18) = true)
    (a19 : PySem.W.nsIn K mainGlobals "law" = some (some (.ref f19)))
    (l19 : K.lookup f19 = some ⟨oc19, od19, .func (PySem.W.fnOf "law" "law" (defArgs sLaw) (defBody sLaw) (defScope sLaw) .none kV19 dc19 pm19 an19 (.ref co19) ct19), sl19⟩)
    (c19 : PySem.W.codeIn K (.ref co19) "law" = true)
    (k19 : PySem.W.keepIn K (.ref f19) = true)
    (x119 : K.lookup co19 = some ⟨xc19, xd19, .fields xv19, xs19⟩)
    (x219 : xv19[11]? = some (.ref P19))
    (x319 : PySem.W.codeHdIn K co19 P19 = true)
    (x419 : K.lookup P19 = none)
    (x519 : h.get? P19 = some (PySem.W.tabObj #[]))
    (qn : PySem.W.specialIn K (.builtin "object.__class__") "__get__" = some (some (.builtin "getset_descriptor.__get__")))
    (qt : PySem.W.takesIn K (.builtin "object.__class__") = some true)
    (caN : PySem.W.nsIn K mainGlobals "InvalidNumber" = some (some (.ref CN)))
    (q1N : (PySem.W.clsIn K CN).isSome = true)
    (q2N : PySem.W.findIn K (.ref CN) "__getattribute__" = some (some (.builtin "BaseException.__getattribute__")))
    (q3N : PySem.W.findIn K (.ref CN) "__getattr__" = some none)
    (q4N : PySem.W.subIn K (.ref CN) (.type "BaseException") = some true)
    (q5N : PySem.W.findIn K (.ref CN) "__class__" = some (some (.builtin "object.__class__")))
    (q8N : PySem.W.mroIn K CN (.type "object") = some true)
    (qbN : PySem.W.typeIn K (.ref CN) = some (.type "type"))
    (qcN : PySem.W.keepIn K (.ref CN) = true)
    (q6N : PySem.W.hasDictIn K CN = true)
    (q7N : PySem.W.findIn K (.ref CN) "value" = some none)
    (q9N : K.lookup CN = some (excClassObj nmN qqN CN NN bsN [.type "ValueError", .type "Exception", .type "BaseException", .type "object"] true snN subN abN colN ddN m0N m1N m2N m3N m5N "ValueError.__new__"))
    (qaN : PySem.W.findIn K (.ref CN) "__setattr__" = some (some (.builtin "object.__setattr__")))
    (qiN : PySem.W.findIn K (.ref CN) "__init__" = some (some (.ref fiN)))
    (qjN : PySem.W.typeIn K (.ref fiN) = some (.type "function"))
    (liN : K.lookup fiN = some ⟨ociN, odiN, .func (PySem.W.fnOf "__init__" "InvalidNumber.__init__" (defArgs sInvalidNumberInit) (defBody sInvalidNumberInit) (defScope sInvalidNumberInit) .none kViN dciN pmiN aniN cdiN ctiN), sliN⟩)
    (ciN : PySem.W.codeIn K cdiN "InvalidNumber.__init__" = true)
    (kiN : PySem.W.keepIn K (.ref fiN) = true)
    (caR : PySem.W.nsIn K mainGlobals "InvalidRow" = some (some (.ref CR)))
    (caW : PySem.W.nsIn K mainGlobals "OtherWagons" = some (some (.ref CW)))
    (caP : PySem.W.nsIn K mainGlobals "PrimeStretch" = some (some (.ref CP)))
    (caO : PySem.W.nsIn K mainGlobals "InvalidOrder" = some (some (.ref CO)))
    (eN : PySem.W.exmAny K (.ref CN) [.ref CR, .ref CN, .ref CW, .ref CP] = some true)
    (np : PySem.W.kitOne K (.ref CN) (.ref CP) = some false)
    (nv : PySem.W.kitOne K (.ref CN) (.type "ValueError") = some true)
    (no : PySem.W.kitAny K (.ref CN) [.ref CO, .type "LookupError"] = some false)
    (nw : PySem.W.kitOne K (.ref CN) (.ref CW) = some false)
    (nr : PySem.W.kitOne K (.ref CN) (.ref CR) = some false)
    (zisinstance : PySem.W.nsIn K mainGlobals "isinstance" = some none)
    (zint : PySem.W.nsIn K mainGlobals "int" = some none)
    (zbool : PySem.W.nsIn K mainGlobals "bool" = some none)
    (zstr : PySem.W.nsIn K mainGlobals "str" = some none)
    (ztuple : PySem.W.nsIn K mainGlobals "tuple" = some none)
    (zlist : PySem.W.nsIn K mainGlobals "list" = some none)
    (zlen : PySem.W.nsIn K mainGlobals "len" = some none)
    (zall : PySem.W.nsIn K mainGlobals "all" = some none)
    (zset : PySem.W.nsIn K mainGlobals "set" = some none)
    (zrange : PySem.W.nsIn K mainGlobals "range" = some none)
    (zabs : PySem.W.nsIn K mainGlobals "abs" = some none)
    (zrepr : PySem.W.nsIn K mainGlobals "repr" = some none)
    (zValueError : PySem.W.nsIn K mainGlobals "ValueError" = some none)
    (zLookupError : PySem.W.nsIn K mainGlobals "LookupError" = some none)
    (gk0 : PySem.W.nsIn K mainGlobals "NAME_LENGTH" = some (some (.int 8 t1)))
    (gk1 : PySem.W.nsIn K mainGlobals "LETTERS" = some (some (.str "abcdefghijklmnopqrstuvwxyz" t2)))
    (gk2 : PySem.W.nsIn K mainGlobals "MOST_WAGONS" = some (some (.int 30 t3)))
    : LawAtG l w K 9 63 "script" mg fa h := by
  have e := hfa.symm.trans (PySem.W.mg_of X G a19)
  cases e
  have F1 := fun_mk (st := sIsInt) l1 c1 k1
  have F2 := fun_mk (st := sIsNumberBelow) l2 c2 k2
  have F3 := fun_mk (st := sIsName) l3 c3 k3
  have F4 := fun_mk (st := sIsWith) l4 c4 k4
  have F5 := fun_mk (st := sIsDir) l5 c5 k5
  have F6 := fun_mk (st := sIsRow) l6 c6 k6
  have F7 := fun_mk (st := sChkF) l7 c7 k7
  have F8 := fun_mk (st := sTurn) l8 c8 k8
  have F9 := fun_mk (st := sReversedRow) l9 c9 k9
  have F10 := fun_mk (st := sPen) l10 c10 k10
  have F11 := fun_mk (st := sDraw) l11 c11 k11
  have F12 := fun_mk (st := sPick) l12 c12 k12
  have F13 := fun_mk (st := sShuf) l13 c13 k13
  have F14 := fun_mk (st := sWag) l14 c14 k14
  have F15 := fun_mk (st := sRow) l15 c15 k15
  have F16 := fun_mk (st := sLTurnedPart) l16 c16 k16
  have F17 := fun_mk (st := sRefd) l17 c17 k17
  have F18 := fun_mk (st := sLIsIndex) l18 c18 k18
  have F19 : FunC K "law" "law" sLaw fa _ co19 := ⟨⟨oc19, od19, kV19, dc19, pm19, an19, ct19, sl19, rfl, l19, c19⟩⟩
  have b1 := F1.binds (ps := ["value"]) fun _ _ _ _ _ _ us hl => match us, hl with | [_], _ => rfl
  have m1 := PySem.W.mg_of X G a1
  have b2 := F2.binds (ps := ["value", "limit"]) fun _ _ _ _ _ _ us hl => match us, hl with | [_, _], _ => rfl
  have m2 := PySem.W.mg_of X G a2
  have b3 := F3.binds (ps := ["value"]) fun _ _ _ _ _ _ us hl => match us, hl with | [_], _ => rfl
  have m3 := PySem.W.mg_of X G a3
  have b4 := F4.binds (ps := ["value", "numbers"]) fun _ _ _ _ _ _ us hl => match us, hl with | [_, _], _ => rfl
  have m4 := PySem.W.mg_of X G a4
  have b5 := F5.binds (ps := ["value"]) fun _ _ _ _ _ _ us hl => match us, hl with | [_], _ => rfl
  have m5 := PySem.W.mg_of X G a5
  have b6 := F6.binds (ps := ["value"]) fun _ _ _ _ _ _ us hl => match us, hl with | [_], _ => rfl
  have m6 := PySem.W.mg_of X G a6
  have b7 := F7.binds (ps := ["value"]) fun _ _ _ _ _ _ us hl => match us, hl with | [_], _ => rfl
  have m7 := PySem.W.mg_of X G a7
  have b8 := F8.binds (ps := ["row"]) fun _ _ _ _ _ _ us hl => match us, hl with | [_], _ => rfl
  have m8 := PySem.W.mg_of X G a8
  have b9 := F9.binds (ps := ["row", "first", "last"]) fun _ _ _ _ _ _ us hl => match us, hl with | [_, _, _], _ => rfl
  have m9 := PySem.W.mg_of X G a9
  have b10 := F10.binds (ps := ["script"]) fun _ _ _ _ _ _ us hl => match us, hl with | [_], _ => rfl
  have m10 := PySem.W.mg_of X G a10
  have b11 := F11.binds (ps := ["pen", "size"]) fun _ _ _ _ _ _ us hl => match us, hl with | [_, _], _ => rfl
  have m11 := PySem.W.mg_of X G a11
  have b12 := F12.binds (ps := ["pen", "options"]) fun _ _ _ _ _ _ us hl => match us, hl with | [_, _], _ => rfl
  have m12 := PySem.W.mg_of X G a12
  have b13 := F13.binds (ps := ["pen", "some"]) fun _ _ _ _ _ _ us hl => match us, hl with | [_, _], _ => rfl
  have m13 := PySem.W.mg_of X G a13
  have b14 := F14.binds (ps := ["pen", "many"]) fun _ _ _ _ _ _ us hl => match us, hl with | [_, _], _ => rfl
  have m14 := PySem.W.mg_of X G a14
  have b15 := F15.binds (ps := ["pen", "wagons"]) fun _ _ _ _ _ _ us hl => match us, hl with | [_, _], _ => rfl
  have m15 := PySem.W.mg_of X G a15
  have b16 := F16.binds (ps := ["row", "first", "last"]) fun _ _ _ _ _ _ us hl => match us, hl with | [_, _, _], _ => rfl
  have m16 := PySem.W.mg_of X G a16
  have b17 := F17.binds (ps := ["call"]) fun _ _ _ _ _ _ us hl => match us, hl with | [_], _ => rfl
  have m17 := PySem.W.mg_of X G a17
  have b18 := F18.binds (ps := ["value", "least", "many"]) fun _ _ _ _ _ _ us hl => match us, hl with | [_, _, _], _ => rfl
  have m18 := PySem.W.mg_of X G a18
  have b19 : Binds K (PySem.W.fnOf "law" "law" (defArgs sLaw) (defBody sLaw) (defScope sLaw) .none kV19 dc19 pm19 an19 (.ref co19) ct19) ["script"] [] := .all fun us hl => match us, hl with | [_], _ => rfl
  have m19 := PySem.W.mg_of X G a19
  have mCN := PySem.W.mg_of X G caN
  have xcN : XC K CN := ⟨q1N, q2N, q3N, q4N, q5N, qn, qt, q8N⟩
  have xfN : XfC K CN := ⟨q2N, q3N, q4N, q6N⟩
  have oxN : OexC K CN := ⟨⟨nmN, qqN, NN, bsN, _, snN, subN, abN, colN, ddN, m0N, m1N, m2N, m3N, m5N, q9N, by decide +kernel⟩, qaN, q4N, qbN, qcN⟩
  have FiN := fun_mk (st := sInvalidNumberInit) liN ciN kiN
  have biN := FiN.binds (ps := ["self", "value"]) fun _ _ _ _ _ _ us hl => match us, hl with | [_, _], _ => rfl
  have mCR := PySem.W.mg_of X G caR
  have mCW := PySem.W.mg_of X G caW
  have mCP := PySem.W.mg_of X G caP
  have mCO := PySem.W.mg_of X G caO
  have n_isinstance := PySem.W.mg_none_of X G zisinstance
  have n_int := PySem.W.mg_none_of X G zint
  have n_bool := PySem.W.mg_none_of X G zbool
  have n_str := PySem.W.mg_none_of X G zstr
  have n_tuple := PySem.W.mg_none_of X G ztuple
  have n_list := PySem.W.mg_none_of X G zlist
  have n_len := PySem.W.mg_none_of X G zlen
  have n_all := PySem.W.mg_none_of X G zall
  have n_set := PySem.W.mg_none_of X G zset
  have n_range := PySem.W.mg_none_of X G zrange
  have n_abs := PySem.W.mg_none_of X G zabs
  have n_repr := PySem.W.mg_none_of X G zrepr
  have n_ValueError := PySem.W.mg_none_of X G zValueError
  have n_LookupError := PySem.W.mg_none_of X G zLookupError
  have inT : ∀ p : Addr × Addr, p ∈ [(co19, P19)] → p = (co19, P19) := fun p hp => List.mem_singleton.mp hp
  refine ⟨PySem.W.fnOf "law" "law" (defArgs sLaw) (defBody sLaw) (defScope sLaw) .none kV19 dc19 pm19 an19 (.ref co19) ct19, [(co19, P19)], spLaw K [(P19, qLam)], fun p hp => by rw [inT p hp]; exact x519, fun p hp => by rw [inT p hp]; exact x419, fun p hp => by rw [inT p hp]; exact PySem.W.codeHd_of_K X x319, fun s v => .of_eq rfl, fun H a ns hl _ ht hS => ⟨a, ns, rfl, hS, hl, tabs_none (ht _ List.mem_cons_self), fun _ => rfl⟩, fun base _ _ TBs => ?_⟩
  have TB := TBs _ List.mem_cons_self
  have B : Glb mg := ⟨n_isinstance, n_int, n_bool, n_str, n_tuple, n_list, n_len, n_all, n_set, n_range, n_abs, n_repr⟩
  have oInt := ok_isint (P := l.prog) (w := w) (base := base) F1 B
  have oNum := ok_numB (P := l.prog) (w := w) (base := base) F2 ⟨oInt, m1, k1, b1⟩
  have oName := ok_isname (P := l.prog) (w := w) (base := base) F3 B (PySem.W.mg_of X G gk0) (PySem.W.mg_of X G gk1)
  have oWith := ok_iswith F4 B oInt m1 k1 b1 oName m3 k3 b3
  have oDir := ok_isdir F5 oWith m4 k4 b4
  have oRow := ok_isrow F6 B (PySem.W.mg_of X G gk2) oDir m5 k5 b5
  have oChkF := ok_chkF F7 oRow m6 k6 b6
  have oTurn := ok_turned F8 B oRow m6 k6 b6
  have oRev := ok_rev F9 B ⟨oChkF, m7, k7, b7⟩ ⟨oNum, m2, k2, b2⟩ ⟨oTurn, m8, k8, b8⟩
  have oRevE := ok_revE F9 B ⟨oChkF, m7, k7, b7⟩ ⟨oNum, m2, k2, b2⟩ ⟨oTurn, m8, k8, b8⟩ oxN qiN qjN FiN biN q7N mCN
  have oPen := ok_pen (P := l.prog) (w := w) (base := base) F10 B.list
  have oDraw := ok_draw (P := l.prog) (w := w) (base := base) (k := 0) F11 B.len B.abs
  have oPick := ok_pick F12 B.len oDraw m11 k11 b11
  have oShuf := ok_shuf F13 B.len B.list oDraw m11 k11 b11
  have D : Draws l.prog w K mg base _ _ _ _ _ _ := ⟨oDraw, m11, k11, b11, oPick, m12, k12, b12, oShuf, m13, k13, b13⟩
  have oWag := ok_wag F14 D B.range B.int
  have oLRow := ok_rowB F15 D B.tuple
  have oLTP := ok_ltp (P := l.prog) (w := w) (base := base) F16 B
  have oIdx := ok_idx (P := l.prog) (w := w) (base := base) F18 B
  have R : RefN K mg CN CR CW CP CO := ⟨mCN, mCR, mCW, mCP, mCO, n_ValueError, n_LookupError, xcN, xfN, q7N, eN, np, nv, no, nw, nr⟩
  exact ok_law (T := [(P19, qLam)]) F19 B TB List.mem_cons_self (fun p hp _ => by rw [List.mem_singleton.mp hp]) R F17 m17 k17 b17 D ⟨oPen, m10, k10, b10⟩ ⟨oWag, m14, k14, b14⟩ ⟨oLRow, m15, k15, b15⟩ ⟨oLTP, m16, k16, b16⟩ ⟨oIdx, m18, k18, b18⟩ oRev oRevE m9 k9 b9
theorem walk {l : PySem.W.OpenLaw} {q : Program} {loose : List Str} {XP : (Str → Option Value) → Heap → Prop} {YP : World → Heap → Prop} {d : DefRec} {K : Params → PySem.W.Frag} (hn : l.most = some 63) (hdf : d.params.defaults = [])
    (hY : ∀ (w : World) (h : Heap), YP w h → (K w.params).In h)
    (F : ∀ (w : World) (mg : Str → Option Value) (fa : Addr) (h : Heap), YP w h → (K w.params).In h → h.Ns mainGlobals mg → mg d.name = some (.ref fa) → LawAtG l w (K w.params) 9 63 "script" mg fa h) :
    PySem.W.WalkO q loose XP YP l.row.toRowW d [] (fun f vs => PySem.call f vs) :=
  walk_GT (n := 63) (k := 9) (x := "script") hn (by decide) hdf ⟨rfl, by decide, by decide⟩ hY F
end My
open PySem PySem.W PyProof.Rows
set_option Elab.async false
set_option maxRecDepth 100000 in
set_option maxHeartbeats 0 in
theorem PySem.Challenge.cw_shuntplan_k60_reversed_rows_holds : PySem.Challenge.rw_shuntplan_k60_reversed_rows.Holds := by
  w_on; o_law; k_head; (case hw => w_witness2)
  k_fill
  refine My.walk (l := PySem.Challenge.rw_shuntplan_k60_reversed_rows) rfl rfl (fun w h Y => PySem.W.km_in_of Y) ?F
  case F =>
    intro w mg fa h Y KX G hmg
    refine' My.all_mk KX G hmg ?a1 ?l1 ?c1 ?k1 ?a2 ?l2 ?c2 ?k2 ?a3 ?l3 ?c3 ?k3 ?a4 ?l4 ?c4 ?k4 ?a5 ?l5 ?c5 ?k5 ?a6 ?l6 ?c6 ?k6 ?a7 ?l7 ?c7 ?k7 ?a8 ?l8 ?c8 ?k8 ?a9 ?l9 ?c9 ?k9 ?a10 ?l10 ?c10 ?k10 ?a11 ?l11 ?c11 ?k11 ?a12 ?l12 ?c12 ?k12 ?a13 ?l13 ?c13 ?k13 ?a14 ?l14 ?c14 ?k14 ?a15 ?l15 ?c15 ?k15 ?a16 ?l16 ?c16 ?k16 ?a17 ?l17 ?c17 ?k17 ?a18 ?l18 ?c18 ?k18 ?a19 ?l19 ?c19 ?k19 ?x119 ?x219 ?x319 ?x419 ?x519 ?qn ?qt ?caN ?q1N ?q2N ?q3N ?q4N ?q5N ?q8N ?qbN ?qcN ?q6N ?q7N ?q9N ?qaN ?qiN ?qjN ?liN ?ciN ?kiN ?caR ?caW ?caP ?caO ?eN ?np ?nv ?no ?nw ?nr ?zisinstance ?zint ?zbool ?zstr ?ztuple ?zlist ?zlen ?zall ?zset ?zrange ?zabs ?zrepr ?zValueError ?zLookupError ?gk0 ?gk1 ?gk2
    (case a1 => k_is)
    (case l1 => k_is)
    (case c1 => k_is)
    (case k1 => k_is)
    (case a2 => k_is)
    (case l2 => k_is)
    (case c2 => k_is)
    (case k2 => k_is)
    (case a3 => k_is)
    (case l3 => k_is)
    (case c3 => k_is)
    (case k3 => k_is)
    (case a4 => k_is)
    (case l4 => k_is)
    (case c4 => k_is)
    (case k4 => k_is)
    (case a5 => k_is)
    (case l5 => k_is)
    (case c5 => k_is)
    (case k5 => k_is)
    (case a6 => k_is)
    (case l6 => k_is)
    (case c6 => k_is)
    (case k6 => k_is)
    (case a7 => k_is)
    (case l7 => k_is)
    (case c7 => k_is)
    (case k7 => k_is)
    (case a8 => k_is)
    (case l8 => k_is)
    (case c8 => k_is)
    (case k8 => k_is)
    (case a9 => k_is)
    (case l9 => k_is)
    (case c9 => k_is)
    (case k9 => k_is)
    (case a10 => k_is)
    (case l10 => k_is)
    (case c10 => k_is)
    (case k10 => k_is)
    (case a11 => k_is)
    (case l11 => k_is)
    (case c11 => k_is)
    (case k11 => k_is)
    (case a12 => k_is)
    (case l12 => k_is)
    (case c12 => k_is)
    (case k12 => k_is)
    (case a13 => k_is)
    (case l13 => k_is)
    (case c13 => k_is)
    (case k13 => k_is)
    (case a14 => k_is)
    (case l14 => k_is)
    (case c14 => k_is)
    (case k14 => k_is)
    (case a15 => k_is)
    (case l15 => k_is)
    (case c15 => k_is)
    (case k15 => k_is)
    (case a16 => k_is)
    (case l16 => k_is)
    (case c16 => k_is)
    (case k16 => k_is)
    (case a17 => k_is)
    (case l17 => k_is)
    (case c17 => k_is)
    (case k17 => k_is)
    (case a18 => k_is)
    (case l18 => k_is)
    (case c18 => k_is)
    (case k18 => k_is)
    (case a19 => k_is)
    (case l19 => k_is)
    (case c19 => k_is)
    (case k19 => k_is)
    (case x119 => k_is)
    (case x219 => rfl)
    (case x319 => rfl)
    (case x419 => rfl)
    (case x519 => exact PySem.W.km_tabs_of Y _ (by decide))
    (case qn => k_is)
    (case qt => k_is)
    (case caN => k_is)
    (case q1N => first | rfl | k_is)
    (case q2N => k_is)
    (case q3N => k_is)
    (case q4N => k_is)
    (case q5N => k_is)
    (case q8N => k_is)
    (case qbN => k_is)
    (case qcN => k_is)
    (case q6N => k_is)
    (case q7N => k_is)
    (case q9N => k_is)
    (case qaN => k_is)
    (case qiN => k_is)
    (case qjN => k_is)
    (case liN => k_is)
    (case ciN => k_is)
    (case kiN => k_is)
    (case caR => k_is)
    (case caW => k_is)
    (case caP => k_is)
    (case caO => k_is)
    (case eN => first | rfl | decide +kernel)
    (case np => first | rfl | decide +kernel)
    (case nv => first | rfl | decide +kernel)
    (case no => first | rfl | decide +kernel)
    (case nw => first | rfl | decide +kernel)
    (case nr => first | rfl | decide +kernel)
    (case zisinstance => k_is)
    (case zint => k_is)
    (case zbool => k_is)
    (case zstr => k_is)
    (case ztuple => k_is)
    (case zlist => k_is)
    (case zlen => k_is)
    (case zall => k_is)
    (case zset => k_is)
    (case zrange => k_is)
    (case zabs => k_is)
    (case zrepr => k_is)
    (case zValueError => k_is)
    (case zLookupError => k_is)
    (case gk0 => k_is)
    (case gk1 => k_is)
    (case gk2 => k_is)
