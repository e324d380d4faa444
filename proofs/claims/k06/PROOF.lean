import PyProof.Rows.All
import Wide.All
import OpenK.AllK
import Wide.FinOn
import HandS.Exc
import HandS.List
import HandS.ExcIs
import HandS.IsInst
import PyProof.EqKinds
import KE.KExcIs
import HandS.Words
import HandS.ExcInit
import HandS.ExcValue
import HandS.ExcField
import HandS.ForMost
import HandS.Wide
import HandS.RaiseMore
import PyProof.ReprRoads
import PyProof.ReprLen
import HandS.Evl
import HandS.Codes
import HandS.TupMul
import HandS.TupAny
import KE.GoesEnum
import HandS.Defaults
import HandS.FStrTup
import HandS.Dict
import HandS.FStr
import HandS.Text
import HandS.WordsExc
import HandS.TryOnly
import HandS.Walk
import HandS.Deep
import HandS.Zip
import HandS.Style
import PyProof.StrBlock2
import PySem.Challenge.RW_limitrun_k06_texts_that_are_not_ordinals
set_option Elab.async false
set_option linter.all false
set_option maxRecDepth 100000
set_option maxHeartbeats 2000000
namespace Lim
open PySem PySem.Spec PyProof.Rows L2
/-- an error that a name still holds behind its suite -/
def Kept (cls : Value) (d : Option Addr) (a : Addr) : HO := .ext fun h => ∃ oe vs, h.get? a = some oe ∧ Zc cls d oe ∧ oe.data = .fields vs
theorem kept_ok {P : Program} {w : World} {H : Hp} {h : Heap} {a : Addr} {cls : Value} {d : Option Addr} {oe : Obj} {vs : Array Value} (e : h.get? a = some oe) (z : Zc cls d oe) (f : oe.data = .fields vs) : ObjOk P w H h a (Kept cls d a) :=
  ⟨⟨oe, vs, e, z, f⟩, ⟨oe, e⟩, fun _ _ ⟨o, v, q, r⟩ k => ⟨o, v, k o q, r⟩⟩
section
variable {X : Cx} {pins : List (Addr × Obj)} {σ : L2.St} {H : Hp} {s : Shared} {a : Addr} {cls : Value} {d : Option Addr}
theorem Inv_track {oe : Obj} {vs : Array Value} (I : Inv X pins σ H s) (e : s.heap.get? a = some oe) (z : Zc cls d oe) (f : oe.data = .fields vs) (n : H a = none) (h0 : X.s_0.heap.get? a = none)
    (nL : a ≠ X.env.locals) (nc : ∀ x c, X.env.cells.lookup x = some c → c ≠ a) (np : ∀ p ∈ X.pn ++ pins, p.1 ≠ a) : Inv X pins σ (upd H a (Kept cls d a)) s := by
  have oth : ∀ {b : Addr} {o : HO}, H b = some o → b ≠ a := fun {b o} q y => by
    rw [y, n] at q
    cases q
  refine ⟨I.ok, I.os, I.bare, ⟨I.base.keep, I.base.slot, fun b o q m hx => ?_, I.base.there, fun b xs q => ?_, fun b o u q => ?_, fun b ps q => ?_⟩, I.loc, I.cell, ?_, fun x c q => ?_, fun p hp => ?_, fun b u q => ?_, I.len⟩
  · rw [upd_ne (fun y => by rw [y, h0] at q; cases q)]
    exact I.base.free b o q m hx
  · have r := I.base.tups b xs q
    rw [upd_ne (oth r)]
    exact r
  · have r := I.base.frzs b o u q
    rw [upd_ne (oth r)]
    exact r
  · obtain ⟨more, r⟩ := I.base.tbls b ps q
    exact ⟨more, by rw [upd_ne (oth r)]; exact r⟩
  · rw [upd_ne (Ne.symm nL)]
    exact I.free
  · rw [upd_ne (nc x c q)]
    exact I.freeC x c q
  · obtain ⟨p1, p2, p3⟩ := I.pin p hp
    exact ⟨p1, by rw [upd_ne (np p hp)]; exact p2, p3⟩
  · by_cases hb : b = a
    · subst hb
      rw [upd_same] at q
      cases q
      exact kept_ok e z f
    · rw [upd_ne hb] at q
      refine (I.hok b u q).stay (fun _ _ _ r => r) (fun c r => ?_) fun c xs r => ?_
      · rw [upd_ne (oth r)]
        exact r
      · rw [upd_ne (oth r)]
        exact r
end
/-- what 'except x as n' wishes, its error tracked behind the suite -/
def wKeep (K : PySem.W.Frag) (c : Value) (i : Nat) (ts : Addr → Value → Option Addr → TS) (W0 : WX) (D : Ends) : WX := fun cls d σ H =>
  ∃ b, PySem.W.exmOne K cls c = some b ∧
    (b = true → ∀ a, H a = none → ts a cls d { nx := fun σ1 H1 => H1 a = none → D.nx (σ1.set i none) (upd H1 a (Kept cls d a)), rt := D.rt, bk := fun σ1 H1 => D.bk (σ1.set i none) H1, ct := fun σ1 H1 => D.ct (σ1.set i none) H1 } (σ.set i (some (.ref a))) H) ∧
    (b = false → W0 cls d σ H)
section
variable {X : Cx} {x n : Str} {c : Value} {i : Nat} {body suite : List Stmt} {b₀ : Stmt} {np pos pos' : Pos} {tb : WX → TS} {ts : Addr → Value → Option Addr → TS} {W0 : WX}
theorem ps_try_keep (hx : X.ex = []) (hs : X.stack = X.env :: X.outer) (hf : X.env.frame = some X.env.locals) (hN : X.N.Nodup) (hi : X.N[i]? = some n) (hl : X.env.kindOf n = some .local) (hc : Names X x c) (tk : Takes X W0)
    (hb : ∀ (W : WX) (pn : List (Addr × Obj)) (xe : Value → Shared → Prop), Takes (X.tr pn xe) W → PassesOwn (model X.prog X.w) X.A X.env xe → PSs (X.tr pn xe) body (tb W))
    (hu : ∀ (a : Addr) (oe : Obj) (cls : Value) (d : Option Addr) (pn : List (Addr × Obj)), Zc cls d oe → (∃ vs, oe.data = .fields vs) → PSs (X.suite a ((a, oe) :: pn)) (b₀ :: suite) (ts a cls d)) :
    PS X (.Try body [.ExceptHandler (some (.Name x np)) (some n) (b₀ :: suite) pos'] [] [] pos) (fun D σ H => tb (wKeep X.K c i ts W0 D) D σ H) := by
  refine ⟨fun pins s σ H D I h => ?_⟩
  have ok := I.ok
  have afr : X.A.frames = some (X.env :: X.outer) := ok.frames.trans (by rw [hs])
  let hand : ExceptHandler := .ExceptHandler (some (.Name x np)) (some n) (b₀ :: suite) pos'
  let xe : Value → Shared → Prop := fun e t => wpAny (model X.prog X.w) X.A (noteFrame e X.env) (fun _ t => wpAny (model X.prog X.w) X.A (setFlight e none) (fun _ t => wpAny (model X.prog X.w) X.A (handleBy e X.env [hand]) (SP X pins D) X.xe t) X.xe t) X.xe t
  have catch_ : ∀ u t, XE (X.tr (X.pn ++ pins) xe) (wKeep X.K c i ts W0 D) u t → xe u t := by
    rintro u t ⟨a, B, sI, pi, τ, G, cls, d, rfl, J0, nb, up, sky, na, os, ag, b, hb1, hyes, hno⟩
    have J : Inv X pins τ G sI := J0.ofTry ok
    have sk : Sky B (X.env :: X.outer) a (Zc cls d) X.env.locals t.heap := hs ▸ sky
    refine Sky.land Zc.steady afr hf sk fun h3 fl up3 => ?_
    have stB : B.StaysIn h3 := fl.1
    have nB : B.get? a = none := fl.2.1
    have J3 : Inv X pins τ G { t with heap := h3 } := J.landed nb stB (up.trans up3) os ag
    obtain ⟨o3, v3, g3, z3, f3⟩ := fl.there
    have nfr : a ∉ frs (X.env :: X.outer) := fun hm => by
      obtain ⟨_, o', q, hnf⟩ := fl.2.2.1.mem hm
      rw [g3] at q
      cases q
      exact hnf _ f3
    have nL : a ≠ X.env.locals := fun z => nfr (List.mem_filterMap.mpr ⟨X.env, List.mem_cons_self, by rw [hf, z]⟩)
    have nF : a ∉ X.fs := fun hm => by
      obtain ⟨e, he, q⟩ := List.mem_filterMap.mp hm
      exact nfr (List.mem_filterMap.mpr ⟨e, List.mem_cons_of_mem _ he, q⟩)
    -- a stood nowhere before
    have nI : sI.heap.get? a = none := by
      cases q : sI.heap.get? a with
      | none => rfl
      | some o =>
        have := nb a o q (by rw [show (X.tr (X.pn ++ pins) xe).stack = X.env :: X.outer from hs]; exact nfr)
        rw [nB] at this
        cases this
    have n0 : X.s_0.heap.get? a = none := by
      cases q : X.s_0.heap.get? a with
      | none => rfl
      | some o =>
        obtain ⟨o', r⟩ := J.base.there a o q (by rw [hx]; exact List.not_mem_nil)
        rw [nI] at r
        cases r
    have nC : ∀ y k, X.env.cells.lookup y = some k → k ≠ a := fun y k q z => by
      obtain ⟨v, o, r, _⟩ := J.cell y k q
      rw [z, nI] at r
      cases r
    have nP : ∀ p ∈ X.pn ++ pins, p.1 ≠ a := fun p hp z => by
      have := (J.pin p hp).1
      rw [z, nI] at this
      cases this
    have S3 := J3.suite g3 f3 na nL nF
    refine wpAny_handleBy_cons (codeAny_handlers_test ?_) (fun q => by cases q)
    have LT : PySem.W.Looks (model X.prog X.w) h3 (typeOf (.ref a)) cls := fun A Q E s k q => wpAny_typeOf_ref (k _ _ g3) (z3.1.symm ▸ q)
    have LM := PySem.W.exm_one (M := model X.prog X.w) J3.kIn LT hb1
    have test : ∀ {Q : Value → Shared → Prop} {E : Value → Shared → Prop}, Q c { t with heap := h3 } → wpAny (model X.prog X.w) (X.A.mark (some (.ref a))) (eval (.Name x np) X.env) Q E { t with heap := h3 } := fun {Q E} q => by
      rcases hc with ⟨hg, hdb, hm | ⟨hm, hv, hnn⟩⟩
      · exact ld_glob (X := X.suite a ((a, o3) :: (X.pn ++ pins))) S3 hg hm q hdb
      · exact ld_blt (X := X.suite a ((a, o3) :: (X.pn ++ pins))) S3 hg hm hv q hnn hdb
    refine test (LM.here ?_)
    cases b with
    | false =>
      show wpAny _ X.A (handleBy (.ref a) X.env []) _ _ _
      refine wpAny_handleBy_nil ?_
      obtain ⟨_, _, _, oe, vs, T, oT, ts', he, hz, hd, h1, hr⟩ := id fl
      unfold PySem.passOn
      refine wpAny_bind (wpAny_field he hd h1 ?_)
      rw [if_neg (show ¬ ((Value.ref T == Value.none) = true) by simp)]
      have fin : wpAny (model X.prog X.w) X.A (setFlight (.ref a) X.env.frame) (fun _ t4 => wpAny (model X.prog X.w) X.A (throw (.ref a) : Sem Flow) (SP X pins D) X.xe t4) X.xe { t with heap := h3 } := by
        rw [hf]
        refine HandSPX.setFlight_upZ fl fun h4 hh4 up4 => wpAny_throw (tk _ _ ?_)
        exact ⟨a, B, sI, pins, τ, G, cls, d, rfl, J, nb, (up.trans up3).trans up4, .inr (.inr (hs ▸ hh4)), na, os, ag, hno rfl⟩
      first
        | exact wpAny_bind fin
        | exact wpAny_bind (wpAny_pure (wpAny_bind fin))
    | true =>
      refine codeAny_handlers_suite_as ?_
      refine HandSPX.lands_againZ fl fun h4 fl4 up4 => ?_
      have J4 : Inv X pins τ G { t with heap := h4 } := J.landed nb fl4.1 ((up.trans up3).trans up4) os ag
      obtain ⟨o4, v4, g4, z4, f4⟩ := fl4.there
      have S4 := J4.suite g4 f4 na nL nF
      refine store_ok (X := X.suite a ((a, o4) :: (X.pn ++ pins))) (v := .ref a) S4 hN hi (.inl hl) rfl (fun s5 S5 => ?_) (.inr hl)
      refine wpAny_mono ((hu a o4 cls d (X.pn ++ pins) z4 ⟨_, f4⟩).run [] s5 _ G _ S5 (hyes rfl a na)) (fun f s6 hsp => ?_) fun _ _ z => z.elim
      have off : ∀ {σ6 : L2.St} {H6 : Hp} {Q : Shared → Prop}, Inv (X.suite a ((a, o4) :: (X.pn ++ pins))) [] σ6 H6 s6 → (∀ s7, Inv (X.suite a ((a, o4) :: (X.pn ++ pins))) [] (σ6.set i none) H6 s7 → Q s7) →
          wpAny (model X.prog X.w) X.A (do bindName X.env n .none; unbindBehindTheSuite X.env n pos') (fun _ s7 => Q s7) X.xe s6 := fun S6 hq => gone_ok (X := X.suite a ((a, o4) :: (X.pn ++ pins))) S6 hN hi hl hq
      cases f with
      | next =>
        obtain ⟨σ6, H6, S6, q6⟩ := hsp
        refine off S6 fun s7 S7 => ?_
        obtain ⟨p1, p2, _⟩ := S7.pin (a, o4) (List.mem_append_left _ List.mem_cons_self)
        exact ⟨_, _, Inv_track (S7.unsuite ok) p1 z4 f4 p2 n0 nL nC nP, q6 p2⟩
      | brk =>
        obtain ⟨σ6, H6, S6, q6⟩ := hsp
        exact off S6 fun s7 S7 => ⟨_, _, S7.unsuite ok, q6⟩
      | cont =>
        obtain ⟨σ6, H6, S6, q6⟩ := hsp
        exact off S6 fun s7 S7 => ⟨_, _, S7.unsuite ok, q6⟩
      | ret u =>
        obtain ⟨v6, σ6, H6, S6, r6, q6⟩ := hsp
        exact off S6 fun s7 S7 => ⟨_, _, _, S7.unsuite ok, r6, q6⟩
  refine wpAny_Try_except (wpAny_mono ((hb _ (X.pn ++ pins) xe catch_ PassesOwn.looking).run [] s σ H D (I.toTry _) h) (fun f s1 hsp => ?_) fun e s1 he => he)
  cases f with
  | next =>
    obtain ⟨σ', H', J', q⟩ := hsp
    exact wpAny_execs_nil ⟨σ', H', J'.ofTry ok, q⟩
  | ret u =>
    obtain ⟨v, σ', H', J', r, q⟩ := hsp
    exact ⟨v, σ', H', J'.ofTry ok, r, q⟩
  | brk =>
    obtain ⟨σ', H', J', q⟩ := hsp
    exact ⟨σ', H', J'.ofTry ok, q⟩
  | cont =>
    obtain ⟨σ', H', J', q⟩ := hsp
    exact ⟨σ', H', J'.ofTry ok, q⟩
end
end Lim
set_option maxHeartbeats 2000000
namespace Lim
open PySem PySem.Spec PyProof.Rows L2
/-! isinstance of an error that a name holds, and a list of bools counted -/
def rIsK (K : PySem.W.Frag) : List V → Hp → VK → Prop := fun xs H Q => ∃ (a D : Addr) (c : V) (cv : Value) (b : Bool), xs = [.ref a, c] ∧ H a = some (Kept (.ref D) none a) ∧ ExcC K D ∧ ClsV c cv ∧ PySem.W.kitOne K (.ref D) cv = some b ∧ Q (.bl b) H
def rIsKT (K : PySem.W.Frag) : List V → Hp → VK → Prop := fun xs H Q => ∃ (a D tp : Addr) (cs : List V) (us : List Value) (b : Bool), xs = [.ref a, .ref tp] ∧ H a = some (Kept (.ref D) none a) ∧ ExcC K D ∧ H tp = some (.tup cs) ∧ Paired ClsV cs us ∧
  PySem.W.kitAny K (.ref D) us = some b ∧ Q (.bl b) H
section
variable {X : Cx} {pins : List (Addr × Obj)} {σ : L2.St} {H : Hp} {s : Shared} {a D : Addr}
theorem kept_at (I : Inv X pins σ H s) (h : H a = some (Kept (.ref D) none a)) : ∃ oe, PySem.W.InstAt s.heap a oe D none := by
  obtain ⟨⟨oe, vs, e, z, f⟩, _, _⟩ := (show ObjOk X.prog X.w H s.heap a (Kept (.ref D) none a) from I.hok a _ h)
  obtain ⟨oc, od, oda, osl⟩ := oe
  obtain ⟨z1, z2⟩ := z
  dsimp only at z1 z2 f
  subst z1 z2 f
  exact ⟨_, e, rfl, rfl, trivial⟩
theorem call_isK : CallR X (.builtin "isinstance") (rIsK X.K) := by
  intro pins s σ H xs us Q I r h
  obtain ⟨a, D, c, cv, b, rfl, hH, C, hc, e, q⟩ := h
  obtain ⟨u1, u2, rfl, r1, r2⟩ := vals2 r
  cases (show u1 = Value.ref a from r1)
  obtain rfl := hc.eq r2
  obtain ⟨oe, J⟩ := kept_at I hH
  exact PySem.W.kia_one (PySem.W.handS_kitx_exc C.hg C.hk C.hs C.hd C.ha C.hn C.ht C.hm) I.kIn J e (fun z => nomatch z) fun tk => ⟨.bl b, H, I.tok tk, rfl, q⟩
theorem call_isKT : CallR X (.builtin "isinstance") (rIsKT X.K) := by
  intro pins s σ H xs us Q I r h
  obtain ⟨a, D, tp, cs, ws, b, rfl, hH, C, hT, k, e, q⟩ := h
  obtain ⟨u1, u2, rfl, r1, r2⟩ := vals2 r
  cases (show u1 = Value.ref a from r1)
  cases (show u2 = Value.ref tp from r2)
  obtain ⟨oe, J⟩ := kept_at I hH
  obtain ⟨_, its, rv, o, h1, h2, n, h3⟩ := (show ObjOk X.prog X.w H s.heap tp (.tup cs) from I.hok tp _ hT)
  obtain rfl := ClsV.all k rv
  obtain ⟨oc, od, dt, sl⟩ := o
  simp only at h2 h3
  subst h2 h3
  exact PySem.W.kia_tup (PySem.W.handS_kitx_exc C.hg C.hk C.hs C.hd C.ha C.hn C.ht C.hm) I.kIn J h1 e (fun z => nomatch z) fun tk => ⟨.bl b, H, I.tok tk, rfl, q⟩
end
section
variable {K : PySem.W.Frag} {D C : Addr} {b : Bool}
theorem kit_same : PySem.W.kitOne K (.ref D) (.ref D) = some true := by
  unfold PySem.W.kitOne
  rw [if_pos (beq_self_eq_true _)]
theorem kit_ref (ne : D ≠ C) (hd : PySem.W.hasDictIn K C = true) (ht : PySem.W.typeIn K (.ref C) = some (.type "type")) (h4 : PySem.W.subIn K (.ref D) (.ref C) = some b) : PySem.W.kitOne K (.ref D) (.ref C) = some b := by
  obtain ⟨cd, hc, _⟩ := PySem.W.any_some hd
  unfold PySem.W.kitOne
  rw [if_neg (fun z => ne (by simpa using z))]
  show (if ((PySem.W.clsIn K C).isSome && PySem.W.typeIn K (.ref C) == some (.type "type")) = true then PySem.W.subIn K (.ref D) (.ref C) else none) = some b
  rw [if_pos (by rw [hc, ht]; rfl)]
  exact h4
theorem kit_type {T : String} (hm : PySem.W.kitMeta T = true) (h4 : PySem.W.subIn K (.ref D) (.type T) = some b) : PySem.W.kitOne K (.ref D) (.type T) = some b := by
  unfold PySem.W.kitOne
  rw [if_neg (by simp)]
  show (if PySem.W.kitMeta T = true then PySem.W.subIn K (.ref D) (.type T) else none) = some b
  rw [if_pos hm]
  exact h4
end
/-! bools counted -/
open PySem.SeqAt (EqAt)
def isBl (k : Bool) : Value → Bool
  | .bool b => b == k
  | _ => false
theorem bl_vals {bs : List Bool} {us : List Value} (h : Vals (bs.map V.bl) us) : us = bs.map Value.bool := by
  induction bs generalizing us with
  | nil =>
    cases h
    rfl
  | cons b r ih =>
    cases h with
    | cons rb rr =>
      rw [ih rr, show _ = Value.bool b from rb]
      rfl
theorem bl_gives {A : Around} {s : Shared} {k : Bool} {bs : List Bool} {us : List Value} (h : Vals (bs.map V.bl) us) : ∀ y ∈ us, EqAt A s y (.bool k) (isBl k y) := by
  rw [bl_vals h]
  intro y hy
  obtain ⟨b, _, rfl⟩ := List.mem_map.mp hy
  exact PySem.SeqAt.EqAt.bool_bool b k
theorem bl_count {k : Bool} {bs : List Bool} {us : List Value} (h : Vals (bs.map V.bl) us) : us.countP (isBl k) = bs.count k := by
  rw [bl_vals h, List.countP_map]
  rfl
def rCntB (K : PySem.W.Frag) : V → List V → Hp → VK → Prop := fun x xs H Q => ∃ (p : Addr) (bs : List Bool) (k : Bool), x = .ref p ∧ xs = [.bl k] ∧ SqL K H p (bs.map V.bl) ∧ Q (.int (bs.count k : Nat)) H
theorem mt_bcount {X : Cx} : MtR X "list.count" (rCntB X.K) := by
  intro pins s σ H x xs v us Q I rx rxs h
  obtain ⟨p, bs, k, rfl, rfl, hs, q⟩ := h
  cases rx
  obtain ⟨u, rfl, ru⟩ := rxs.one
  cases (show u = Value.bool k from ru)
  obtain ⟨its, rv, ⟨⟨cls, dd, data, sl⟩, n, ho, hc, hdn, hd⟩, hlen⟩ := I.list hs
  simp only at hc hd
  subst hc hd
  have ec : its.toArray.toList.countP (isBl k) = bs.count k := bl_count rv
  refine call_meets PySem.F.slot_list_count ⟨_, ho, rfl⟩ PySem.F.entry_list_count (PySem.F.args_list_count_2 _ _) (SeqAt.list_countAt p its.toArray n dd sl (.bool k) (isBl k)) ⟨ho, fun y hy => ?_, ?_⟩
  · exact bl_gives rv y (by simpa using hy)
  · refine ⟨.int (bs.count k : Nat), H, I.tok _, ⟨s.toks, ?_⟩, q⟩
    show Value.int ((its.toArray.toList.countP (isBl k) : Nat) : Int) s.toks = Value.int ((bs.count k : Nat) : Int) s.toks
    rw [ec]
end Lim
set_option maxHeartbeats 2000000
namespace Lim
open PySem PySem.Spec PyProof.Rows L2
/-! errors held as values: made by their class, asked for their class, read -/
section
variable {X : Cx} {x f : Str} {L C fI : Addr} {e : Expr} {es : List Expr} {ta : TA} {te : TE} {p p1 p2 pos : Pos} {pl : Sem Bool}
/-- what a class over ValueError says when its __init__ is called by its name -/
structure BaseC (K : PySem.W.Frag) (L : Addr) : Prop where
  sp : PySem.W.specialIn K (.ref L) "__getattribute__" = some (some (.builtin "type.__getattribute__"))
  rd : PySem.W.readsIn K L (.type "type") = true
  fc : PySem.W.findCls K (.ref L) (.type "type") "__init__" = some (.val (.builtin "ValueError.__init__"))
theorem pe_vebase (hg : Gl X x) (hm : X.mg x = some (.ref L)) (B : BaseC X.K L) (ha : PA X (e :: es) ta)
    (hc : eval (.Call (.Attribute (.Name x p1) "__init__" p2) (e :: es) [] pos) X.env = (do
      let v ← eval (.Name x p1) X.env
      standAt p2.atName
      let (g, first) ← holding [v] (getMethod v "__init__" pl)
      callWith pos g first (backTo pos (starEach (e :: es) X.env)) (backToKw pos (keywordEach [] X.env))) := by rfl)
    (hdb : (x == ("__debug__" : Str)) = false := by decide) (he : starEach (e :: es) X.env = (false, eval e X.env) :: starEach es X.env := by rfl) (hpl : (backTo pos (starEach es X.env)).any (·.1) = false := by rfl) :
    PE X (.Call (.Attribute (.Name x p1) "__init__" p2) (e :: es) [] pos) (tVeI X.K ta) := by
  refine ⟨fun pins s σ H Q I h => PySem.W.methodCall_KW (ld_glob I hg hm ?_ hdb) hc⟩
  refine PySem.W.method_cls I.kIn B.sp (PySem.W.cls_value I.kIn B.rd B.fc (by decide +kernel) ?_)
  show wpAny _ _ (callWith pos (Value.builtin "ValueError.__init__") [] (backTo pos (starEach (e :: es) X.env)) []) _ _ _
  refine callWith_method1 (thn (ha.run pos pins _ σ H _ (I.tok _) h) fun us s1 ⟨vs, H1, I1, r1, a, D, ws, ev, hl, T, ea, q⟩ => ?_) he hpl
  subst ev
  cases r1 with
  | @cons _ u0 _ ur ra rw' =>
    cases (show u0 = Value.ref a from ra)
    exact oinit_ok T I1 ea (by rw [← Paired.length rw', sizeLine_eq]; omega) fun t J => ⟨.non, H1, J, rfl, q⟩
/-- C(e, ..) as a value, C's own __init__ keeping sp -/
def tMkV (C : Addr) (sp : Sp) (ta : TA) : TE := fun σ H Q => ta σ H fun vs H1 => vs.length ≤ 1000 ∧ ∀ a, H1 a = none → sp (.ref a :: vs) (upd H1 a (exo a C none)) (fun v H2 => v = .non ∧ Q (.ref a) H2) (fun _ _ _ => False)
theorem pe_mkErr {k : Nat} {fd : FuncData} {ps : List Str} {sp : Sp} (T : OexC X.K C) (iC : PySem.W.findIn X.K (.ref C) "__init__" = some (some (.ref fI))) (tI : PySem.W.typeIn X.K (.ref fI) = some (.type "function"))
    (F1 : FnOk X.prog X.w X.K X.mg X.base CX0 k fI fd ps sp) (hr : Room (k + 1) X.A) (hb : Binds X.K fd ps []) (hg : Gl X x) (hm : X.mg x = some (.ref C)) (ha : PA X (e :: es) ta)
    (hdb : (x == ("__debug__" : Str)) = false := by decide) (he : starEach (e :: es) X.env = (false, eval e X.env) :: starEach es X.env := by rfl) (hpl : (backTo pos (starEach es X.env)).any (·.1) = false := by rfl) :
    PE X (.Call (.Name x p) (e :: es) [] pos) (tMkV C sp ta) := by
  refine ⟨fun pins s σ H Q I h => ?_⟩
  obtain ⟨nm, q, N, bs, bm, sn, sub, ab, col, dd, k0, k1, k2, k3, k5, hC, hbm⟩ := T.cls
  refine wpAny_Call_Name_kw (ld_glob I hg hm ?_ hdb)
  refine PySem.W.callWith_K (h₀ := X.base) I.ok.mod.kin T.kC (thn (ha.run pos pins s σ H _ I h) fun us s1 ⟨vs, H1, I1, r1, hz, q1⟩ => ⟨I1.kIn, ?_⟩) he hpl
  show wpAny _ _ (call (.ref C) us) _ _ _
  obtain ⟨hp, g, dr, tk, os⟩ := s1
  have hle : hp.objs.size ≤ hp.objs.size + 1 := Nat.le_succ _
  have hq := q1 _ (I1.hok.fresh hle)
  have kp : ∀ b o, hp.get? b = some o → ((hp.push (PySem.W.kdv_tup us)).push (PySem.HandSPX.excO C hp.objs.size)).get? b = some o := fun b o z => Heap.get?_push_of_some _ (Heap.get?_push_of_some _ z)
  have hget : ((hp.push (PySem.W.kdv_tup us)).push (PySem.HandSPX.excO C hp.objs.size)).get? (hp.objs.size + 1) = some (PySem.HandSPX.excO C hp.objs.size) := by heap_get
  have J := I1.laid (t' := tk) (a := hp.objs.size + 1) (o := exo (hp.objs.size + 1) C none) (h' := (hp.push (PySem.W.kdv_tup us)).push (PySem.HandSPX.excO C hp.objs.size)) kp hle (exo_ok hget)
  have r2 : Vals (V.ref (hp.objs.size + 1) :: vs) (Value.ref (hp.objs.size + 1) :: us) := .cons rfl r1
  have hl : ((Value.ref (hp.objs.size + 1) :: us) ++ []).length = ps.length := by
    rw [List.append_nil, ← r2.length, F1.len _ _ _ _ hq]
  have hbt := hb ⟨(hp.push (PySem.W.kdv_tup us)).push (PySem.HandSPX.excO C hp.objs.size), g, dr, tk, os⟩ (Value.ref (hp.objs.size + 1) :: us) J.kIn hl
  rw [List.append_nil] at hbt
  refine wpAny_call (PySem.HandSPX.call_own F.excBase_ValueError (fun Y => PySem.HandSPX.refsVE_contains Y bm hbm) (I1.kIn _ _ hC) (PySem.W.looks_findIn I1.kIn iC) (fun self => PySem.W.bind_fn I1.kIn self tI)
    (by rw [← Paired.length r1, sizeLine_eq]; omega) (codeAny_mono (F1.run _ X.stack _ _ ⟨Value.ref (hp.objs.size + 1) :: us, []⟩ (Value.ref (hp.objs.size + 1) :: us) _ _ (fun _ _ _ => False) (hr.make C us []) (J.env0.make C us []) hbt r2 hq) fun r s' z => ?_))
  match r, z with
  | .error er, z => exact pass0 pins σ _ _ er s' J z
  | .ok .next, z => exact False.elim z
  | .ok .brk, z => exact False.elim z
  | .ok .cont, z => exact False.elim z
  | .ok (.ret u), z =>
    obtain ⟨v, H2, J2, rv, ev, q2⟩ := J.after z
    subst ev
    exact ⟨rv, .ref (hp.objs.size + 1), H2, J2, rfl, q2⟩
/-! isinstance -/
/-- at a: an error of the class at C -/
def ErrAt (H : Hp) (a C : Addr) : Prop := H a = some (ExO (.ref C) a) ∨ ∃ d fs, H a = some (exo a C (some d)) ∧ H d = some (exd d fs)
theorem err_inst {pins : List (Addr × Obj)} {σ : L2.St} {H : Hp} {s : Shared} {a : Addr} (I : Inv X pins σ H s) (h : ErrAt H a C) : ∃ oe od, PySem.W.InstAt s.heap a oe C od := by
  rcases h with h | ⟨d, fs, h, hd⟩
  · obtain ⟨⟨oe, vs, e, z, f, _⟩, _, _⟩ := (show ObjOk X.prog X.w H s.heap a (ExO (.ref C) a) from I.hok a _ h)
    obtain ⟨oc, od, oda, osl⟩ := oe
    obtain ⟨z1, z2⟩ := z
    dsimp only at z1 z2 f
    subst z1 z2 f
    exact ⟨_, none, e, rfl, rfl, trivial⟩
  · obtain ⟨t1, ho⟩ := exo_at I.hok h
    obtain ⟨mA, hns, _⟩ := exd_at I.hok hd
    obtain ⟨o, _, _, hod, _⟩ := hns
    exact ⟨_, some o, ho, rfl, rfl, hod⟩
def rIsV (K : PySem.W.Frag) : List V → Hp → VK → Prop := fun xs H Q => ∃ (a D : Addr) (c : V) (cv : Value) (b : Bool), xs = [.ref a, c] ∧ ErrAt H a D ∧ ExcC K D ∧ ClsV c cv ∧ PySem.W.kitOne K (.ref D) cv = some b ∧ Q (.bl b) H
theorem call_isV : CallR X (.builtin "isinstance") (rIsV X.K) := by
  intro pins s σ H xs us Q I r h
  obtain ⟨a, D, c, cv, b, rfl, hH, E, hc, k, q⟩ := h
  obtain ⟨u1, u2, rfl, r1, r2⟩ := vals2 r
  cases (show u1 = Value.ref a from r1)
  obtain rfl := hc.eq r2
  obtain ⟨oe, od, J⟩ := err_inst I hH
  obtain ⟨cd, hcd, _⟩ := PySem.W.any_some E.hd
  exact PySem.W.kia_one (PySem.W.kitx_exc (by rw [hcd]; rfl) E.hg E.hk E.hs E.ha E.hn E.ht E.hm) I.kIn J k (fun z => nomatch z) fun tk => ⟨.bl b, H, I.tok tk, rfl, q⟩
/-! err.f -/
def tFldE (K : PySem.W.Frag) (f : Str) (te : TE) : TE := fun σ H Q => te σ H fun x H1 => ∃ (a D d : Addr) (fs : List (Str × V)) (v : V), x = .ref a ∧ H1 a = some (exo a D (some d)) ∧ H1 d = some (exd d fs) ∧ XfC K D ∧ PySem.W.findIn K (.ref D) f = some none ∧ fs.lookup f = some v ∧ Q v H1
theorem pe_fldE (he : PE X e te) (hb : attributeBase e f X.env (eval e X.env) = eval e X.env := by rfl) : PE X (.Attribute e f pos) (tFldE X.K f te) := by
  refine ⟨fun pins s σ H Q I h => attr_of hb (thn (he.run pins s σ H _ I h) fun u s1 hh => ?_)⟩
  obtain ⟨x, H1, I1, rx, a, D, d, fs, v, ex, ha, hd, T, hno, l, q⟩ := hh
  subst ex
  cases (show u = Value.ref a from rx)
  obtain ⟨t1, ho⟩ := exo_at I1.hok ha
  obtain ⟨mA, hns, hr⟩ := exd_at I1.hok hd
  obtain ⟨od, ho2, hl⟩ := lookIn_ns hns
  obtain ⟨w1, hw, rw'⟩ := RelO.some_of (v := v) (o := mA f) (by rw [← l]; exact hr f)
  have J : PySem.W.InstAt s1.heap a _ D (some od) := ⟨ho, rfl, rfl, ho2⟩
  exact HandSPX.exc_get I1.kIn J T.ga T.gg T.exC (PySem.W.findObj_own T.hdC hno rfl (by rw [hl, hw])) (handed_of rw') ⟨v, H1, I1.tok _, rw', q⟩
end
end Lim
set_option maxHeartbeats 2000000
namespace Lim
open PySem PySem.Spec PyProof.Rows L2
/-! an error that a name still holds, with its fields or without: isinstance, its fields -/
def KeptE (H : Hp) (a D : Addr) : Prop := H a = some (Kept (.ref D) none a) ∨ ∃ d fs, H a = some (Kept (.ref D) (some d) a) ∧ H d = some (.xd fs)
theorem KeptE.same {H H' : Hp} {a D : Addr} (h : KeptE H a D) (s : Same H H') : KeptE H' a D := by
  rcases h with h | ⟨d, fs, h1, h2⟩
  · exact .inl (s _ _ h)
  · exact .inr ⟨d, fs, s _ _ h1, s _ _ h2⟩
def rIsW (K : PySem.W.Frag) : List V → Hp → VK → Prop := fun xs H Q => ∃ (a D : Addr) (c : V) (cv : Value) (b : Bool), xs = [.ref a, c] ∧ KeptE H a D ∧ ExcC K D ∧ ClsV c cv ∧ PySem.W.kitOne K (.ref D) cv = some b ∧ Q (.bl b) H
def rIsWT (K : PySem.W.Frag) : List V → Hp → VK → Prop := fun xs H Q => ∃ (a D tp : Addr) (cs : List V) (us : List Value) (b : Bool), xs = [.ref a, .ref tp] ∧ KeptE H a D ∧ ExcC K D ∧ H tp = some (.tup cs) ∧ Paired ClsV cs us ∧
  PySem.W.kitAny K (.ref D) us = some b ∧ Q (.bl b) H
section
variable {X : Cx} {pins : List (Addr × Obj)} {σ : L2.St} {H : Hp} {s : Shared} {a D : Addr} {f : Str} {e : Expr} {te : TE} {pos : Pos}
theorem kept_inst (I : Inv X pins σ H s) (h : KeptE H a D) : ∃ oe od, PySem.W.InstAt s.heap a oe D od := by
  rcases h with h | ⟨d, fs, h, hd⟩
  · obtain ⟨oe, J⟩ := kept_at I h
    exact ⟨oe, none, J⟩
  · obtain ⟨⟨oe, vs, e, z, f⟩, _, _⟩ := (show ObjOk X.prog X.w H s.heap a (Kept (.ref D) (some d) a) from I.hok a _ h)
    obtain ⟨oc, od, oda, osl⟩ := oe
    obtain ⟨z1, z2⟩ := z
    dsimp only at z1 z2 f
    subst z1 z2 f
    obtain ⟨mA, hns, _⟩ := (show ∃ mA, s.heap.Ns1 d mA ∧ ∀ f, RelO (fs.lookup f) (mA f) from I.hok d _ hd)
    obtain ⟨o, _, _, hod, _⟩ := hns
    exact ⟨_, some o, e, rfl, rfl, hod⟩
theorem call_isW : CallR X (.builtin "isinstance") (rIsW X.K) := by
  intro pins s σ H xs us Q I r h
  obtain ⟨a, D, c, cv, b, rfl, hH, E, hc, k, q⟩ := h
  obtain ⟨u1, u2, rfl, r1, r2⟩ := vals2 r
  cases (show u1 = Value.ref a from r1)
  obtain rfl := hc.eq r2
  obtain ⟨oe, od, J⟩ := kept_inst I hH
  obtain ⟨cd, hcd, _⟩ := PySem.W.any_some E.hd
  exact PySem.W.kia_one (PySem.W.kitx_exc (by rw [hcd]; rfl) E.hg E.hk E.hs E.ha E.hn E.ht E.hm) I.kIn J k (fun z => nomatch z) fun tk => ⟨.bl b, H, I.tok tk, rfl, q⟩
theorem call_isWT : CallR X (.builtin "isinstance") (rIsWT X.K) := by
  intro pins s σ H xs us Q I r h
  obtain ⟨a, D, tp, cs, ws, b, rfl, hH, E, hT, k, e, q⟩ := h
  obtain ⟨u1, u2, rfl, r1, r2⟩ := vals2 r
  cases (show u1 = Value.ref a from r1)
  cases (show u2 = Value.ref tp from r2)
  obtain ⟨oe, od, J⟩ := kept_inst I hH
  obtain ⟨_, its, rv, o, h1, h2, n, h3⟩ := (show ObjOk X.prog X.w H s.heap tp (.tup cs) from I.hok tp _ hT)
  obtain rfl := ClsV.all k rv
  obtain ⟨oc, od', dt, sl⟩ := o
  simp only at h2 h3
  subst h2 h3
  obtain ⟨cd, hcd, _⟩ := PySem.W.any_some E.hd
  exact PySem.W.kia_tup (PySem.W.kitx_exc (by rw [hcd]; rfl) E.hg E.hk E.hs E.ha E.hn E.ht E.hm) I.kIn J h1 e (fun z => nomatch z) fun tk => ⟨.bl b, H, I.tok tk, rfl, q⟩
/-- n.f, n holding an error behind its suite -/
def tFldW (K : PySem.W.Frag) (f : Str) (te : TE) : TE := fun σ H Q => te σ H fun x H1 => ∃ (a D d : Addr) (fs : List (Str × V)) (v : V), x = .ref a ∧ H1 a = some (Kept (.ref D) (some d) a) ∧ H1 d = some (.xd fs) ∧ XfC K D ∧ PySem.W.findIn K (.ref D) f = some none ∧ fs.lookup f = some v ∧ Q v H1
theorem pe_fldW (he : PE X e te) (hb : attributeBase e f X.env (eval e X.env) = eval e X.env := by rfl) : PE X (.Attribute e f pos) (tFldW X.K f te) := by
  refine ⟨fun pins s σ H Q I h => attr_of hb (thn (he.run pins s σ H _ I h) fun u s1 hh => ?_)⟩
  obtain ⟨x, H1, I1, rx, a, D, d, fs, v, ex, ha, hd, T, hno, l, q⟩ := hh
  subst ex
  cases (show u = Value.ref a from rx)
  obtain ⟨⟨oe, vs, e1, z, f1⟩, _, _⟩ := (show ObjOk X.prog X.w H1 s1.heap a (Kept (.ref D) (some d) a) from I1.hok a _ ha)
  obtain ⟨oc, od, oda, osl⟩ := oe
  obtain ⟨z1, z2⟩ := z
  dsimp only at z1 z2 f1
  subst z1 z2 f1
  obtain ⟨mA, hns, hr⟩ := (show ∃ mA, s1.heap.Ns1 d mA ∧ ∀ f, RelO (fs.lookup f) (mA f) from I1.hok d _ hd)
  obtain ⟨od, ho2, hl⟩ := lookIn_ns hns
  obtain ⟨w1, hw, rw'⟩ := RelO.some_of (v := v) (o := mA f) (by rw [← l]; exact hr f)
  have J : PySem.W.InstAt s1.heap a _ D (some od) := ⟨e1, rfl, rfl, ho2⟩
  exact HandSPX.exc_get I1.kIn J T.ga T.gg T.exC (PySem.W.findObj_own T.hdC hno rfl (by rw [hl, hw])) (handed_of rw') ⟨v, H1, I1.tok _, rw', q⟩
end
/-! a class among many -/
theorem kitAny_no {K : PySem.W.Frag} {t : Value} : ∀ {us : List Value}, (∀ c ∈ us, PySem.W.kitOne K t c = some false) → PySem.W.kitAny K t us = some false
  | [], _ => rfl
  | c :: r, h => by
    show (match PySem.W.kitOne K t c with | some true => some true | some false => PySem.W.kitAny K t r | none => none) = _
    rw [h c (List.mem_cons_self ..)]
    exact kitAny_no fun x hx => h x (List.mem_cons_of_mem _ hx)
theorem kitAny_yes {K : PySem.W.Frag} {t c : Value} : ∀ {us : List Value}, (∀ x ∈ us, ∃ b, PySem.W.kitOne K t x = some b) → c ∈ us → PySem.W.kitOne K t c = some true → PySem.W.kitAny K t us = some true
  | [], _, h, _ => by cases h
  | x :: r, h, hm, ht => by
    show (match PySem.W.kitOne K t x with | some true => some true | some false => PySem.W.kitAny K t r | none => none) = _
    obtain ⟨b, hb⟩ := h x (List.mem_cons_self ..)
    rw [hb]
    cases b with
    | true => rfl
    | false =>
      rcases List.mem_cons.mp hm with e | e
      · rw [← e, ht] at hb
        cases hb
      · exact kitAny_yes (fun y hy => h y (List.mem_cons_of_mem _ hy)) e ht
end Lim
set_option maxHeartbeats 4000000
namespace Lim
open PySem PySem.Spec PyProof.Rows L2

/-! a def whose promise may lean on: no repr is under way around it -/
structure FnG (P : Program) (w : World) (K : PySem.W.Frag) (mg : Str → Option Value) (base : Heap) (k : Nat) (f : Addr) (fd : FuncData) (ps : List Str) (sp : Sp) : Prop where
  len : ∀ vs H Q E, sp vs H Q E → vs.length = ps.length
  go : ∀ (B : Around) (below : List Env) (s : Shared) (H : Hp) (ar : Args) (us : List Value) (vs : List V) (Q : VK) (E : XK),
    B.guards = some [] → Room k B → Env0 P w K mg base B below s H → BindsTo s fd ar (ps.zip us) → Vals vs us → sp vs H Q E →
    codeAny (model P w) B (.call (.ref f) ar) (CR CX0 below P w H s Q E) s
section
variable {P : Program} {w : World} {K : PySem.W.Frag} {mg : Str → Option Value} {base : Heap} {k : Nat} {f : Addr} {fd : FuncData} {ps : List Str} {sp : Sp}
theorem FnG.of (F : FnOk P w K mg base CX0 k f fd ps sp) : FnG P w K mg base k f fd ps sp :=
  ⟨F.len, fun B below s H ar us vs Q E _ r e b v q => F.run B below s H ar us vs Q E r e b v q⟩
theorem FnG.up {j : Nat} (F : FnG P w K mg base j f fd ps sp) (h : j ≤ k) : FnG P w K mg base k f fd ps sp :=
  ⟨F.len, fun B below s H ar us vs Q E g r e b v q => F.go B below s H ar us vs Q E g (r.mono h) e b v q⟩
theorem FnG.imp {sp' : Sp} (F : FnG P w K mg base k f fd ps sp) (h : ∀ vs H Q E, sp' vs H Q E → sp vs H Q E) : FnG P w K mg base k f fd ps sp' :=
  ⟨fun vs H Q E q => F.len _ _ _ _ (h _ _ _ _ q), fun B below s H ar us vs Q E g r e b v q => F.go B below s H ar us vs Q E g r e b v (h _ _ _ _ q)⟩

theorem deeper_guards {B : Around} {env : Env} : (B.deeper env).guards = B.guards := rfl

/-- the def's own rule -/
theorem Fun_okG {x qual : Str} {st : Stmt} {N : List Str} (F : Fun K x qual st f fd) (S : FnScope N ps (defScope st)) (len : ∀ vs H Q E, sp vs H Q E → vs.length = ps.length)
    (hb : ∀ (cdv : Value) (B : Around) (below : List Env) (s : Shared) (H : Hp) (vs : List V) (Q : VK) (E : XK), B.guards = some [] → Room k (B.deeper (envOfC qual (defScope st) s.heap.objs.size f cdv)) → sp vs H Q E →
      ∃ t, PSs (cxOf CX0 P w K mg base N qual (defScope st) f cdv B below s H E).nox (defBody st) t ∧ t { nx := fun _ H' => Q .non H', rt := Q } (start N vs) H) :
    FnG P w K mg base (k + 1) f fd ps sp := by
  obtain ⟨oc, od, kV, doc, pm, an, cdv, ct, osl, rfl, lk, hcd⟩ := F.ex
  refine ⟨len, fun B below s H ar us vs Q E hg hr ev bt va hq => ?_⟩
  have hn := len _ _ _ _ hq
  have KH : K.In s.heap := ev.mod.kin.keeps fun a o z => (ev.bs a o z).1
  have noLim : s.heap.NoLimit := ev.mod.nolimit.keeps fun a o z => (ev.bs a o z).1
  refine codeAny_call_function hr.depth (KH _ _ lk) rfl S.co S.gen rfl (PySem.W.codeRec_of KH hcd) (bt _ _ _ _ ?_)
  refine wpAny_newFunctionEnv_cells S.kind (fun ⟨y, v⟩ hy => ?_) fun env he s1 hx => ?_
  · rcases S.par y (List.of_mem_zip hy).1 with q | q
    · exact Or.inl q
    · exact Or.inr ⟨q, PySem.W.cellsFrom_some _ _ _ (Or.inl q)⟩
  · subst he
    refine ⟨noLim.keeps hx.toInCall.keep, codeAny_func ?_⟩
    obtain ⟨t, ht, hrun⟩ := hb cdv B below s H vs Q E hg (hr.deeper _) hq
    have J0 := inv_start (CX := CX0) (E := E) S hr.hd ev hn va hx
    refine wpAny_mono (ht.nox.run [] s1 (start N vs) H _ J0 hrun) (fun fl s2 hs => ?_) fun _ _ z => z
    cases fl with
    | brk =>
      obtain ⟨_, _, _, z⟩ := hs
      exact z.elim
    | cont =>
      obtain ⟨_, _, _, z⟩ := hs
      exact z.elim
    | next =>
      obtain ⟨σ1, H1, J, z⟩ := hs
      exact ⟨V.non, H1, J.os, J.bare, J.base, J.hok, rfl, z⟩
    | ret u =>
      obtain ⟨v, σ1, H1, J, rv, z⟩ := hs
      exact ⟨v, H1, J.os, J.bare, J.base, J.hok, rv, z⟩
end
section
variable {X : Cx} {k : Nat} {f : Addr} {fd : FuncData} {ps : List Str} {sp : Sp} {x : Str} {p pos : Pos} {e : Expr} {es : List Expr} {t : TA}
/-- the callee runs -/
theorem run_g {pins : List (Addr × Obj)} {σ : L2.St} {H : Hp} {s : Shared} {Q : VK} {us : List Value} {vs : List V} (F : FnG X.prog X.w X.K X.mg X.base k f fd ps sp) (hg : X.A.guards = some []) (hr : Room k X.A) (hb : Binds X.K fd ps [])
    (I : Inv X pins σ H s) (r : Vals vs us) (h : sp vs H Q E0) : wpAny (model X.prog X.w) X.A (call (.ref f) us) (EP X pins σ Q) X.xe s := by
  have hl : us.length = ps.length := r.length ▸ F.len _ _ _ _ h
  have hbt := hb s us I.kIn (by rw [List.append_nil]; exact hl)
  rw [List.append_nil] at hbt
  refine wpAny_call (codeAny_mono (F.go X.A X.stack s H ⟨us, []⟩ us vs Q E0 hg hr I.env0 hbt r h) fun res s1 z => ?_)
  match res, z with
  | .error _, z => exact False.elim z
  | .ok (.ret u), z => exact I.after z
  | .ok .next, z => exact False.elim z
  | .ok .brk, z => exact False.elim z
  | .ok .cont, z => exact False.elim z
theorem pe_g (F : FnG X.prog X.w X.K X.mg X.base k f fd ps sp) (hgd : X.A.guards = some []) (hr : Room k X.A) (hg : Gl X x) (hm : X.mg x = some (.ref f)) (hk : PySem.W.keepIn X.K (.ref f) = true) (hb : Binds X.K fd ps [])
    (ha : PA X (e :: es) t) (hdb : (x == ("__debug__" : Str)) = false := by decide) (he : starEach (e :: es) X.env = (false, eval e X.env) :: starEach es X.env := by rfl) (hpl : (backTo pos (starEach es X.env)).any (·.1) = false := by rfl) :
    PE X (.Call (.Name x p) (e :: es) [] pos) (fun σ H Q => t σ H fun vs H1 => sp vs H1 Q E0) := by
  refine ⟨fun pins s σ H Q I h => ?_⟩
  refine wpAny_Call_Name_kw (ld_glob I hg hm ?_ hdb)
  refine PySem.W.callWith_K (h₀ := X.base) I.ok.mod.kin hk ?_ he hpl
  exact thn (ha.run pos pins s σ H _ I h) fun us s1 ⟨vs, H1, I1, r, q⟩ => ⟨I1.kIn, run_g F hgd hr hb I1 r q⟩
/-- repr(x), x data -/
theorem call_reprD (hgd : X.A.guards = some []) (hu : X.A.units + 100 < cLine) : CallR X (.builtin "repr") (fun xs H Q => ∃ v d, xs = [v] ∧ Dp X.K H v d ∧ d.showable = true ∧ d.hasDict = false ∧ d.depth ≤ 60 ∧ d.shown.length ≤ sizeLine ∧ Q (.str d.shown) H) := by
  intro pins s σ H xs us Q I r h
  obtain ⟨v, d, rfl, hd, h1, h2, h3, h4, q⟩ := h
  obtain ⟨u, rfl, r1⟩ := vals1 r
  cases hd with
  | non =>
    cases r1
    exact PySem.P.repr_of_none ⟨.str _, H, I.tok _, ⟨_, rfl⟩, q⟩
  | bl b =>
    cases r1
    refine PySem.P.repr_of_bool ⟨.str _, H, I.tok _, ⟨_, rfl⟩, ?_⟩
    cases b <;> exact q
  | int i =>
    obtain ⟨t, rfl⟩ := r1
    refine PySem.P.repr_of_int ?_ ⟨.str _, H, I.tok _, ⟨_, rfl⟩, q⟩
    simpa [PyData.showable] using h1
  | str y =>
    obtain ⟨t, rfl⟩ := r1
    exact PySem.P.repr_of_str ⟨.str _, H, I.tok _, ⟨_, rfl⟩, q⟩ h4
  | lst hs ha =>
    obtain ⟨as, rd⟩ := Dp.reads I _ _ _ (.lst hs ha) r1
    cases r1
    exact PySem.repr_of_reads' rd h1 (fun z => by rw [h2] at z; cases z) hgd (by omega) (fun _ _ z => z) (fun h' u tk hk => ⟨.str _, H, I.kept hk, ⟨_, rfl⟩, q⟩) h4
  | tup hs ha =>
    obtain ⟨as, rd⟩ := Dp.reads I _ _ _ (.tup hs ha) r1
    cases r1
    exact PySem.repr_of_reads' rd h1 (fun z => by rw [h2] at z; cases z) hgd (by omega) (fun _ _ z => z) (fun h' u tk hk => ⟨.str _, H, I.kept hk, ⟨_, rfl⟩, q⟩) h4
end
/-! tuple * k for k below 2 -/
section
variable (l : Addr) (its : Array Value) (n : Nat) (dd : Option Addr) (sl : Array (Option Value)) (u : Tok)
abbrev tupO (its : Array Value) (n : Nat) (dd : Option Addr) (sl : Array (Option Value)) : Obj := { cls := .type "tuple", dict := dd, data := .seq its n, slots := sl }
theorem tmul_none (x : Int) (b0 : (decide (x < -(2 ^ 63)) || decide (x ≥ 2 ^ 63)) = false) (b1 : (its.isEmpty || x == 1) = false) (b2 : (decide (x ≤ 0) || its.isEmpty) = true) :
    Meets (Builtin.«tuple.__mul__» ⟨[.ref l, .int x u], []⟩) (fun _ R s => s.heap.get? l = some (tupO its n dd sl) ∧ R (.ok (.ret (Value.ref s.heap.objs.size))) { s with heap := s.heap.push { cls := Value.type "tuple", data := Data.seq #[] }, toks := s.toks }) := by
  refine .of_wp fun pg ww AA RR ss hh => ?_
  obtain ⟨h1, h2, h3, h4, h5⟩ := ss
  obtain ⟨hl, hh⟩ := hh
  have ix := AutoSeq1.idx_int
  have n0 := decide_eq_false (p := (decide (x < -(2 ^ 63)) || decide (x ≥ 2 ^ 63)) = true) (by rw [b0]; decide)
  have n1 := decide_eq_false (p := (its.isEmpty || x == 1) = true) (by rw [b1]; decide)
  wp_walk using wpAny_loadPart' hl
  repeat (first
    | (refine wpAny_ite_false n0 ?_; wp_walk using wpAny_loadPart' hl)
    | (refine wpAny_ite_false n1 ?_; wp_walk using wpAny_loadPart' hl)
    | (refine wpAny_ite_true (decide_eq_true b2) ?_; wp_walk using wpAny_loadPart' hl))
  exact ⟨_, rfl, hh⟩
theorem tmul_one : Meets (Builtin.«tuple.__mul__» ⟨[.ref l, .int 1 u], []⟩) (fun _ R s => s.heap.get? l = some (tupO its n dd sl) ∧ R (.ok (.ret (Value.ref l))) s) := by
  refine .of_wp fun pg ww AA RR ss hh => ?_
  obtain ⟨h1, h2, h3, h4, h5⟩ := ss
  obtain ⟨hl, hh⟩ := hh
  have ix := AutoSeq1.idx_int
  have b1 : (its.isEmpty || (1 : Int) == 1) = true := by simp
  wp_walk using wpAny_loadPart' hl
  repeat (first
    | (refine wpAny_ite_false (decide_eq_false (by decide)) ?_; wp_walk using wpAny_loadPart' hl)
    | (refine wpAny_ite_true (decide_eq_true b1) ?_; wp_walk using wpAny_loadPart' hl))
  exact ⟨_, rfl, hh⟩
end
def rRepZ (K : PySem.W.Frag) : R2 := fun x y H Q => ∃ l k xs, x = .ref l ∧ y = .int k ∧ SqT K H l xs ∧ xs ≠ [] ∧ -1000 ≤ k ∧ k ≤ 1000 ∧ xs.length ≤ 1000 ∧
  (k ≤ 0 → ∀ p, H p = none → Q (.ref p) (upd H p (.tup []))) ∧ (k = 1 → Q (.ref l) H) ∧ (2 ≤ k → ∀ p, H p = none → Q (.ref p) (upd H p (.tup (List.replicate k.toNat xs).flatten)))
section
variable {X : Cx}
theorem op_repZ : OpR X (binaryOp .Mult) (rRepZ X.K) := by
  intro pins s σ H x y v u Q I rx ry h
  obtain ⟨l, k, xs, rfl, rfl, hT, hne, h1, h2, hz, q0, q1, q2⟩ := h
  by_cases c2 : 2 ≤ k
  · exact op_repT pins s σ H _ _ v u Q I rx ry ⟨l, k, xs, rfl, rfl, hT, hne, c2, h2, hz, q2 c2⟩
  · cases rx
    obtain ⟨t, rfl⟩ := ry
    obtain ⟨its, r, ⟨⟨cls, dd, data, sl⟩, ho, hc, n, hd⟩, hs⟩ := I.tuple hT
    simp only at hc hd
    subst hc hd
    have hie : its.toArray.isEmpty = false := by
      cases its with
      | nil =>
        cases r
        exact absurd rfl hne
      | cons a b => rfl
    by_cases c1 : k = 1
    · subst c1
      refine wpAny_binaryOp_repeat_ref (T := "tuple") (U := "int") (by decide) ⟨_, ho, rfl⟩ (fun s' => typeIs_int s' 1 t) noFill_tuple_mul F.fills_int_mul F.slot_int_rmul repeat_tuple F.slot_int_index.lookup ?_
      refine call_meets F.slot_int_rmul (typeIs_int s 1 t) F.entry_int_rmul (F.args_int_rmul_2 _ _) (int_rmul_tuple 1 t l its.toArray n dd sl) ⟨ho, rfl, ⟨_, ho, rfl⟩, ?_⟩
      exact call_meets F.slot_tuple_mul ⟨_, ho, rfl⟩ F.entry_tuple_mul (F.args_tuple_mul_2 _ _) (tmul_one l its.toArray n dd sl t) ⟨ho, .ref l, H, I, rfl, q1 rfl⟩
    · have k0 : k ≤ 0 := by omega
      have b0 : (decide (k < -(2 ^ 63)) || decide (k ≥ 2 ^ 63)) = false := by
        rw [decide_eq_false (by omega), decide_eq_false (by omega)] <;> rfl
      have b1 : (its.toArray.isEmpty || k == 1) = false := by
        rw [hie, Bool.false_or]
        exact beq_eq_false_iff_ne.mpr c1
      have b2 : (decide (k ≤ 0) || its.toArray.isEmpty) = true := by
        rw [decide_eq_true k0] <;> rfl
      refine wpAny_binaryOp_repeat_ref (T := "tuple") (U := "int") (by decide) ⟨_, ho, rfl⟩ (fun s' => typeIs_int s' k t) noFill_tuple_mul F.fills_int_mul F.slot_int_rmul repeat_tuple F.slot_int_index.lookup ?_
      refine call_meets F.slot_int_rmul (typeIs_int s k t) F.entry_int_rmul (F.args_int_rmul_2 _ _) (int_rmul_tuple k t l its.toArray n dd sl) ⟨ho, rfl, ⟨_, ho, rfl⟩, ?_⟩
      refine call_meets F.slot_tuple_mul ⟨_, ho, rfl⟩ F.entry_tuple_mul (F.args_tuple_mul_2 _ _) (tmul_none l its.toArray n dd sl t k b0 b1 b2) ⟨ho, ?_⟩
      refine ⟨.ref s.heap.objs.size, _, I.laid (t' := s.toks) (o := .tup []) (fun b ob z => Heap.get?_push_of_some _ z) (Nat.le_refl _) ?_, rfl, q0 k0 _ (I.hok.fresh (Nat.le_refl _))⟩
      exact ⟨Nat.zero_le _, [], .nil, IsTup.new _ _⟩
end
/-! enumerate of a tuple -/
def Iet (K : PySem.W.Frag) (a : Addr) : It where
  go := fun i H => ∃ (xs : List V) (x : V), SqT K H a xs ∧ xs[i]? = some x
  yld := fun i H v H' => ∃ T x, v = .ref T ∧ H T = none ∧ H' = upd H T (.tup [.int (i : Nat), x]) ∧ ∀ xs, SqT K H a xs → xs[i]? = some x
  stop := fun i H => ∃ xs : List V, SqT K H a xs ∧ xs.length = i
theorem enum_new1 {v : Value} {o : Obj} {Hh : Heap → Prop} (B : Begins v o Hh) : Meets (Builtin.«enumerate.__new__» ⟨[.type "enumerate", v], []⟩) (fun _ R s => Hh s.heap ∧
      R (.ok (.ret (.ref (s.heap.push o).objs.size))) { s with heap := (s.heap.push o).push { cls := .type "enumerate", data := .fields #[.none, .bool false, .ref s.heap.objs.size, rawInt 0, .none, .none] } }) := by
  refine .of_wp fun pg ww AA RR ss hh => ?_
  obtain ⟨h1, h2, h3, h4, h5⟩ := ss
  obtain ⟨b1, hh⟩ := hh
  have sube := sub_enumerate
  have qi : ∀ {A' : Around} {E' : Value → Shared → Prop} {Q' : Value → Shared → Prop}, Q' (.ref h1.objs.size) ⟨h1.push o, h2, h3, h4, h5⟩ → wpAny (model pg ww) A' (pyIter v) Q' E' ⟨h1, h2, h3, h4, h5⟩ :=
    fun z => B.iter pg ww _ _ ⟨h1, h2, h3, h4, h5⟩ _ b1 z
  wp_walk
  refine wpAny_stack_any fun st => wpAny_pure ?_
  split
  · rename_i cc _ _ _ _ _
    cases (cc == Value.type "enumerate") <;>
      (wp_walk using qi
       exact ⟨_, rfl, hh⟩)
  · wp_walk using qi
    exact ⟨_, rfl, hh⟩
section
variable {prog : Program} {w : World} {A : Around} {E : Value → Shared → Prop} {s : Shared}
theorem call_enum1 {v : Value} {o : Obj} {Hh : Heap → Prop} {Q : Value → Shared → Prop} (B : Begins v o Hh) (b1 : Hh s.heap)
    (h : ∀ h', IsEnum h' (s.heap.objs.size + 1) s.heap.objs.size 0 .none → h'.get? s.heap.objs.size = some o → h'.objs.size = s.heap.objs.size + 2 → (∀ b o, s.heap.get? b = some o → h'.get? b = some o) → Q (.ref (s.heap.objs.size + 1)) { s with heap := h' }) :
    wpAny (model prog w) A (call (.type "enumerate") [v]) Q E s := by
  refine callType_new F.called_enumerate (by decide) (F.typeCall_enumerate_1 _) (F.newCall_enumerate_1 _) (fun obj => F.args_object_init_2 obj _) F.entry_enumerate_new (enum_new1 B) ⟨b1, ?_⟩
  have z1 : (s.heap.push o).objs.size = s.heap.objs.size + 1 := Heap.size_push ..
  show _ ∧ _
  rw [z1]
  have ie : IsEnum ((s.heap.push o).push { cls := .type "enumerate", data := .fields #[.none, .bool false, .ref s.heap.objs.size, rawInt 0, .none, .none] }) (s.heap.objs.size + 1) s.heap.objs.size 0 .none := by
    have q := Heap.get?_push_size (s.heap.push o) (o := { cls := .type "enumerate", data := .fields #[.none, .bool false, .ref s.heap.objs.size, rawInt 0, .none, .none] }) rfl
    rw [z1] at q
    exact q
  exact ⟨⟨_, ie, rfl⟩, h _ ie (Heap.get?_push_of_some _ (Heap.get?_push_size _ B.free)) (by rw [Heap.size_push, z1]) fun b o' x => Heap.get?_push_of_some _ (Heap.get?_push_of_some _ x)⟩
end
theorem turn_enumT {P : Program} {w : World} {K : PySem.W.Frag} {elts : List Expr} {kk : Nat} {tpos : Pos} (a e it : Addr) (hae : a ≠ e) (hai : a ≠ it) :
    Turn P w K (.Tuple elts kk tpos) (Iet K a) [e, it] e (fun i h => (∃ old, IsEnum h e it ((i : Nat) : Int) old) ∧ h.IsTupleIter it a i ∧ e ≠ it) where
  mem := List.mem_cons_self ..
  obj := by
    rintro i h ⟨⟨old, he⟩, ⟨o, ho, hc, hd⟩, _⟩ b hb
    rcases List.mem_cons.mp hb with rfl | hb
    · exact ⟨_, he, fun v q => nomatch q⟩
    · rw [List.mem_singleton.mp hb]
      exact ⟨o, ho, fun v q => by rw [hd] at q; cases q⟩
  keep := by
    rintro i h h' ⟨⟨old, he⟩, hi, ne⟩ k
    exact ⟨⟨old, k e (by simp) _ he⟩, hi.at fun o q => k it (by simp) o q, ne⟩
  item := by
    rintro X rfl rfl rfl hc i pins s σ H E I hf ⟨⟨old, he⟩, hit, hne⟩ ⟨xs, x, hq, hx⟩
    obtain ⟨its, rv, hT, hz⟩ := I.tuple hq
    have hT' : s.heap.IsTuple a its.toArray := hT
    obtain ⟨u, hu, ru⟩ := rv.get hx
    have le : e < s.heap.objs.size := Heap.lt_size he
    have li : it < s.heap.objs.size := by
      obtain ⟨_, q, _⟩ := hit
      exact Heap.lt_size q
    have hlt : i < its.toArray.size := by
      have := (List.getElem?_eq_some_iff.mp hu).1
      simpa using this
    refine wpAny_pyNext_enum_itemD (Draws.tuple (A := X.A.in1) (I.ok.hd hc) it a hai its.toArray) he ⟨hit, hT'⟩ hlt hne ?_ fun y h' tk hy ho hit' hnew hsz hk => ?_
    · intro hb
      rcases List.mem_cons.mp hb with q | q
      · exact hne q
      · exact hae (List.mem_singleton.mp q).symm
    · have hyu : y = u := by
        have e1 : its.toArray[i]? = some y := hy
        rw [List.getElem?_toArray, hu] at e1
        exact (Option.some.inj e1).symm
      subst hyu
      refine ⟨_, rfl, wpAny_letOwnedTupleGo_enum (s := { s with heap := h', toks := tk + 1 }) ho fun h2 he2 sb => ?_⟩
      have hT2 : h2.get? s.heap.objs.size = some { cls := .type "tuple", data := .seq #[.int i tk, y] } := (sb.2 _ (Nat.ne_of_gt le)).trans hnew
      have nob : ObjOk X.prog X.w (upd H s.heap.objs.size (.tup [.int (i : Nat), x])) h2 s.heap.objs.size (.tup [.int (i : Nat), x]) :=
        ⟨by show 2 ≤ sizeLine; decide, [.int i tk, y], .cons ⟨_, rfl⟩ (.cons ru .nil), ⟨_, hT2, rfl, _, rfl⟩⟩
      have J : Inv X pins σ (upd H s.heap.objs.size (.tup [.int (i : Nat), x])) { s with heap := h2, toks := tk + 1 } :=
        I.turnedNew (ch := [e, it]) (fun b ob hb q => (sb.2 b (fun z => hb (by simp [z]))).trans (hk b ob (fun z => hb (by simp [z])) (fun z => hb (by simp [z])) q)) hf (Nat.le_refl _) nob
      refine ⟨.ref s.heap.objs.size, _, J, rfl, ⟨_, x, rfl, I.hok.fresh (Nat.le_refl _), rfl, fun ys hy => by rw [I.tuple_inj hy hq]; exact hx⟩, ⟨⟨y, ?_⟩, hit'.1.at fun o q => (sb.2 it (Ne.symm hne)).trans q, hne⟩, fun b hb => ?_⟩
      · have e1 : ((i + 1 : Nat) : Int) = (i : Int) + 1 := by omega
        rw [e1]
        exact he2
      · have lb : b < s.heap.objs.size := by
          rcases List.mem_cons.mp hb with z | z
          · rw [z]
            exact le
          · rw [List.mem_singleton.mp z]
            exact li
        rw [upd_ne (Nat.ne_of_lt lb)]
        exact (hf b hb).1
  done := by
    rintro X rfl rfl rfl hc i pins s σ H E I hf ⟨⟨old, he⟩, hit, hne⟩ ⟨xs, hq, hx⟩
    obtain ⟨its, rv, hT, hz⟩ := I.tuple hq
    have hT' : s.heap.IsTuple a its.toArray := hT
    have hn : i = its.toArray.size := by rw [List.size_toArray, ← hx, rv.length]
    subst hn
    obtain ⟨f0, f1, f2, f3, f4, f5⟩ := hf it (by simp)
    exact wpAny_pyNext_enum_endD (Draws.tuple (A := X.A.in1) (I.ok.hd hc) it a hai its.toArray) he ⟨hit, hT'⟩ fun h' eb => ⟨rfl, I.turned (t' := s.toks) (fun b o hb q => eb b o hb q) f0 f1 f3 f4 f5⟩
  self := fun A i s Q E st h => let ⟨⟨_, he⟩, _⟩ := st; wpAny_pyIter_enum he h
def iEnumT (K : PySem.W.Frag) (ta : TA) : TI := fun σ H R => ta σ H fun vs H1 => ∃ a xs, vs = [.ref a] ∧ SqT K H1 a xs ∧ R (Iet K a) H1
theorem pi_enumT {X : Cx} {e : Expr} {ta : TA} {p pos tpos : Pos} {elts : List Expr} {kk : Nat} (hg : Gl X "enumerate") (hm : X.mg "enumerate" = none) (ha : PA X [e] ta) (hs : starEach [e] X.env = [(false, eval e X.env)] := by rfl) :
    PI X (.Tuple elts kk tpos) (.Call (.Name "enumerate" p) [e] [] pos) (iEnumT X.K ta) := by
  refine ⟨fun pins s σ H R I h => ?_⟩
  refine Call_ (ld_blt I hg hm boot_enumerate ?_)
  refine PyProof.Rows.callWith_type1 (thn (ha.run pos pins s σ H _ I h) fun us s1 ⟨vs, H1, I1, r1, q1⟩ => ?_) hs rfl
  obtain ⟨a, xs, rfl, hq, q⟩ := q1
  obtain ⟨u, rfl, ru⟩ := vals1 r1
  cases ru
  obtain ⟨its, rv, hT, hz⟩ := I1.tuple hq
  have hT' : s1.heap.IsTuple a its.toArray := hT
  have la : a < s1.heap.objs.size := by
    obtain ⟨o, ho, _⟩ := hT'
    exact Heap.lt_size ho
  refine call_enum1 (begins_tuple a its.toArray) hT' fun h' ie hit hsz hk => wpAny_pyIter_enum ie ?_
  have I2 : Inv X pins σ H1 { s1 with heap := h' } := I1.kept (t' := s1.toks) hk
  refine ⟨s1.heap.objs.size + 1, [s1.heap.objs.size + 1, s1.heap.objs.size], _, _, H1, rfl, I2, turn_enumT a (s1.heap.objs.size + 1) s1.heap.objs.size (Nat.ne_of_lt (Nat.lt_succ_of_lt la)) (Nat.ne_of_lt la), ⟨⟨.none, ie⟩, ⟨_, hit, rfl, rfl⟩, Nat.succ_ne_self _⟩, fun b hb => ?_, q⟩
  have lb : s1.heap.objs.size ≤ b := by
    rcases List.mem_cons.mp hb with z | z
    · rw [z]
      exact Nat.le_succ _
    · rw [List.mem_singleton.mp z]
      exact Nat.le_refl _
  exact I1.fpOk lb (I1.hok.fresh lb)
section
variable {K : PySem.W.Frag} {a : Addr} {xs : List V} {σ : L2.St}
/-- for i, x in enumerate(tuple) -/
theorem for_enumT {g : TG} {tb : TS} {D : Ends} {H : Hp} (Pv : Nat → L2.St → Hp → Prop) (h0 : Pv 0 σ H) (hl : ∀ i σ H, i ≤ xs.length → Pv i σ H → SqT K H a xs)
    (hs : ∀ i x σ H T, xs[i]? = some x → Pv i σ H → H T = none → g (.ref T) σ (upd H T (.tup [.int (i : Nat), x])) fun σ2 H2 => tb { D with nx := Pv (i + 1), ct := Pv (i + 1), bk := D.nx } σ2 H2) (hd : ∀ σ H, Pv xs.length σ H → D.nx σ H) :
    ∃ W : Nat → Nat → L2.St → Hp → Prop, (∃ m, W 0 m σ H) ∧ ∀ i m σ H, W i m σ H →
      ((Iet K a).stop i H ∧ D.nx σ H) ∨ ((Iet K a).go i H ∧ ∃ N : L2.St → Hp → Prop, (∀ σ' H', N σ' H' → ∃ m', m' < m ∧ W (i + 1) m' σ' H') ∧ ∀ x H', (Iet K a).yld i H x H' → g x σ H' fun σ2 H2 => tb { D with nx := N, ct := N, bk := D.nx } σ2 H2) := by
  refine ⟨fun i m σ H => i + m = xs.length ∧ Pv i σ H, ⟨xs.length, by omega, h0⟩, ?_⟩
  rintro i m σ H ⟨hm, p⟩
  have q := hl i σ H (by omega) p
  by_cases hlt : i < xs.length
  · refine .inr ⟨⟨xs, xs[i], q, List.getElem?_eq_getElem hlt⟩, Pv (i + 1), fun σ' H' p' => ⟨m - 1, by omega, by omega, p'⟩, fun v H' y => ?_⟩
    obtain ⟨T, x, rfl, hT, rfl, y⟩ := y
    exact hs i x σ H T (y xs q) p hT
  · have e : i = xs.length := by omega
    subst e
    exact .inl ⟨⟨xs, q, rfl⟩, hd σ H p⟩
/-- [.. for i, x in enumerate(tuple) ..] -/
theorem lc_enumT {g : TG} {tt : TT} {te : TE} {vs : List Nat} {H1 : Hp} {D : Addr} {Qd : Hp → Prop} (Pv : Nat → Hp → Prop) (h0 : Pv 0 (upd H1 D (.lst []))) (hl : ∀ i H, i ≤ xs.length → Pv i H → SqT K H a xs)
    (hs : ∀ i x H T, xs[i]? = some x → Pv i H → H T = none → g (.ref T) (wipe σ vs) (upd H T (.tup [.int (i : Nat), x])) fun σ2 H2 => wipe σ2 vs = wipe σ vs ∧ tt σ2 H2 fun b H3 =>
      if b = true then te σ2 H3 fun y H4 => ∃ acc, H4 D = some (.lst acc) ∧ acc.length < sizeLine ∧ Pv (i + 1) (upd H4 D (.lst (acc ++ [y]))) else Pv (i + 1) H3) (hd : ∀ H, Pv xs.length H → Qd H) :
    ∃ W : Nat → Nat → Hp → Prop, (∃ m, W 0 m (upd H1 D (.lst []))) ∧ ∀ i m H, W i m H →
      ((Iet K a).stop i H ∧ Qd H) ∨ ((Iet K a).go i H ∧ ∃ Nx : Hp → Prop, (∀ H', Nx H' → ∃ m', m' < m ∧ W (i + 1) m' H') ∧ ∀ x H', (Iet K a).yld i H x H' → g x (wipe σ vs) H' fun σ2 H2 => wipe σ2 vs = wipe σ vs ∧ tt σ2 H2 fun b H3 =>
        if b = true then te σ2 H3 fun y H4 => ∃ acc, H4 D = some (.lst acc) ∧ acc.length < sizeLine ∧ Nx (upd H4 D (.lst (acc ++ [y]))) else Nx H3) := by
  refine ⟨fun i m H => i + m = xs.length ∧ Pv i H, ⟨xs.length, by omega, h0⟩, ?_⟩
  rintro i m H ⟨hm, p⟩
  have q := hl i H (by omega) p
  by_cases hlt : i < xs.length
  · refine .inr ⟨⟨xs, xs[i], q, List.getElem?_eq_getElem hlt⟩, Pv (i + 1), fun H' p' => ⟨m - 1, by omega, by omega, p'⟩, fun v H' y => ?_⟩
    obtain ⟨T, x, rfl, hT, rfl, y⟩ := y
    exact hs i x H T (y xs q) p hT
  · have e : i = xs.length := by omega
    subst e
    exact .inl ⟨⟨xs, q, rfl⟩, hd H p⟩
end
def topS (i : Nat) : Stmt := PySem.Challenge.pw_limitrun_k06_texts_that_are_not_ordinals.main.body.getD i (.Pass ⟨0, 0, 0, 0⟩)
abbrev sScr : Stmt := topS 24
abbrev sDrw : Stmt := topS 25
abbrev sNxt : Stmt := topS 26
abbrev sCho : Stmt := topS 27
abbrev sIde : Stmt := topS 28
theorem scScr : FnScope ["number", "index", "modulus", "found", "turn"] ["number", "index"] (defScope sScr) := ⟨rfl, rfl, rfl, by decide +kernel, rfl, by decide +kernel, by decide +kernel⟩
section
variable {P : Program} {w : World} {K : PySem.W.Frag} {mg : Str → Option Value} {base : Heap}
/-- scramble: some number, not negative -/
def spScr : Sp := fun vs H Q _ => ∃ n i : Int, vs = [.int n, .int i] ∧ ∀ r : Int, 0 ≤ r → Q (.int r) H
theorem mod20 : (20 : Int) ≠ 0 := by decide
theorem modM : (2305843009213693951 : Int) ≠ 0 := by decide
theorem fmod_lo {a : Int} : 0 ≤ a.fmod 2305843009213693951 := Int.fmod_nonneg_of_pos _ (by decide)
theorem fmod_hi {a : Int} : a.fmod 2305843009213693951 < 2305843009213693951 := Int.fmod_lt_of_pos _ (by decide)
theorem ok_scr {f : Addr} {fd : FuncData} {k : Nat} (F : Fun K "_law_scramble" "_law_scramble" sScr f fd) (mr : mg "range" = none) : FnOk P w K mg base CX0 (k + 1) f fd ["number", "index"] spScr := by
  refine F.ok scScr (fun vs H Q E h => ?_) (fun cdv A outer s H vs Q E hr h => ?_)
  · obtain ⟨n, i, rfl, _⟩ := h
    rfl
  · obtain ⟨n, i, rfl, q⟩ := h
    refine ⟨_, pss_cons (ps_set (i := 2) scScr.nd rfl (.inl rfl) pe_int)
      (pss_cons (ps_set (i := 3) scScr.nd rfl (.inl rfl) (pe_op op_modN (pe_op op_add (pe_op op_add (pe_op op_mul (pv 0) pe_int) (pe_op op_mul (pv 1) pe_int)) pe_int) (pv 2)))
      (pss_cons (ps_for PassesOwn.never rfl (pi_range1 rfl mr (pa_cons pe_int pa_nil)) (pg_name (i := 4) scScr.nd rfl (.inl rfl))
        (pss_one (ps_set (i := 3) scScr.nd rfl (.inl rfl) (pe_op op_modN (pe_op op_add (pe_op op_add (pe_op op_add (pe_op op_mul (pv 3) (pv 3)) (pe_op op_mul pe_int (pv 3))) (pe_op op_mul pe_int (pv 4))) (pv 1)) (pv 2)))))
      (pss_one (ps_ret (pe_op op_add (pe_op op_mul (pv 3) (pv 2)) (pe_op op_modN (pe_op op_add (pe_op op_mul (pv 3) pe_int) (pv 1)) (pv 2))))))), ?_⟩
    refine ⟨_, rfl, _, _, rfl, rfl, .inr ⟨by decide, by decide⟩, _, rfl, _, _, rfl, rfl, .inr ⟨by decide, by decide⟩, _, _, rfl, rfl, _, _, rfl, rfl, _, rfl, _, _, rfl, rfl, modM, ?_⟩
    refine ⟨4, rfl, by decide, by decide, for_range (n := 4) (fun t σ H' => ∃ (z : Int) (y : Option V), σ = [some (.int n), some (.int i), some (.int 2305843009213693951), some (.int z), y] ∧ 0 ≤ z ∧ z < 2305843009213693951 ∧ H' = H) ⟨_, none, rfl, fmod_lo, fmod_hi, rfl⟩ ?_ ?_⟩
    · rintro t σ H' ht ⟨z, y, rfl, h0, h1, rfl⟩
      refine ⟨_, rfl, _, rfl, _, _, rfl, rfl, .inl ⟨by omega, by omega⟩, _, rfl, _, _, rfl, rfl, .inl ⟨by decide, by decide⟩, _, _, rfl, rfl, _, rfl, _, _, rfl, rfl, .inl ⟨by decide, by decide⟩, _, _, rfl, rfl, _, rfl, _, _, rfl, rfl, _, rfl, _, _, rfl, rfl, modM, ?_⟩
      exact ⟨_, _, rfl, fmod_lo, fmod_hi, rfl⟩
    · rintro σ H' ⟨z, y, rfl, h0, h1, rfl⟩
      refine ⟨_, rfl, _, rfl, _, _, rfl, rfl, .inl ⟨by omega, by omega⟩, _, rfl, _, _, rfl, rfl, .inr ⟨by decide, by decide⟩, _, rfl, _, _, rfl, rfl, _, rfl, _, _, rfl, rfl, modM, _, _, rfl, rfl, ?_⟩
      refine q _ ?_
      have := fmod_lo (a := z * 48271 + i)
      omega

/-! the source of draws: [numbers, i, x, y], all not negative -/
def Src (H : Hp) (a n : Addr) : Prop := ∃ (i x y : Int) (ns : List Int), H a = some (.lst [.ref n, .int i, .int x, .int y]) ∧ H n = some (.lst (ns.map V.int)) ∧ (∀ z ∈ ns, 0 ≤ z) ∧ 0 ≤ i ∧ 0 ≤ x ∧ 0 ≤ y ∧ ns.length ≤ 20
/-- the source stands at a still; all else that was tracked is as it was -/
def Stp (a n : Addr) (H H' : Hp) : Prop := Src H' a n ∧ ∀ c o, H c = some o → c ≠ a → H' c = some o
theorem Stp.trans {a n : Addr} {H H1 H2 : Hp} (h : Stp a n H H1) (h2 : Stp a n H1 H2) : Stp a n H H2 := ⟨h2.1, fun c o e z => h2.2 c o (h.2 c o e z) z⟩
theorem Stp.seq {a m l : Addr} {H H' : Hp} {xs : List V} (h : Stp a m H H') (n : l ≠ a) (q : SqL K H l xs) : SqL K H' l xs := by
  rcases q with (q | ⟨o, q⟩) | q
  · exact .inl (.inl (h.2 _ _ q n))
  · exact .inl (.inr ⟨o, h.2 _ _ q n⟩)
  · exact .inr q
theorem Src.ne {H : Hp} {a n : Addr} {i x y : Int} {ns : List Int} (h : H a = some (.lst [.ref n, .int i, .int x, .int y])) (h2 : H n = some (.lst (ns.map V.int))) : n ≠ a := fun e => by
  rw [e, h] at h2
  cases ns with
  | nil => cases h2
  | cons z r => cases h2
theorem same_upd {H : Hp} {p : Addr} {o : HO} (h : H p = none) : Same H (upd H p o) := fun b x e => by
  rw [upd_ne (ne_of_none e h)]
  exact e
theorem take_min (xs : List V) (n : Nat) : xs.take (min n xs.length) = xs.take n := by
  by_cases h : n ≤ xs.length
  · rw [Nat.min_eq_left h]
  · rw [Nat.min_eq_right (by omega), List.take_length, List.take_of_length_le (by omega)]
theorem cut_to (xs : List V) (n : Nat) : cutV xs none (some (n : Int)) = xs.take n := by
  unfold cutV
  rw [HT.sIx_none, HT.sIx_nat, List.drop_zero, Nat.sub_zero, take_min]
theorem cut_mid (xs : List V) (n m : Nat) (hnm : n ≤ m) : cutV xs (some (n : Int)) (some (m : Int)) = (xs.drop n).take (m - n) := by
  unfold cutV
  rw [HT.sIx_nat, HT.sIx_nat]
  by_cases h : n ≤ xs.length
  · rw [Nat.min_eq_left h]
    by_cases h2 : m ≤ xs.length
    · rw [Nat.min_eq_left h2]
    · rw [Nat.min_eq_right (by omega), List.take_of_length_le (by rw [List.length_drop]; omega), List.take_of_length_le (by rw [List.length_drop]; omega)]
  · rw [Nat.min_eq_right (show xs.length ≤ n by omega), List.drop_of_length_le (Nat.le_refl _), List.drop_of_length_le (show xs.length ≤ n by omega), List.take_nil, List.take_nil]
theorem cut_from (xs : List V) (n : Nat) : cutV xs (some (n : Int)) none = xs.drop n := by
  unfold cutV
  rw [HT.sIx_none, HT.sIx_nat]
  by_cases h : n ≤ xs.length
  · rw [Nat.min_eq_left h, List.take_of_length_le (by rw [List.length_drop]; omega)]
  · rw [Nat.min_eq_right (by omega), List.drop_of_length_le (by omega), List.drop_of_length_le (by omega), List.take_nil]
/-- for i, x in enumerate(list) -/
theorem for_enum {a : Addr} {xs : List V} {g : TG} {tb : TS} {D : Ends} {σ : L2.St} {H : Hp} (Pv : Nat → L2.St → Hp → Prop) (h0 : Pv 0 σ H) (hl : ∀ i σ H, i ≤ xs.length → Pv i σ H → SqL K H a xs)
    (hs : ∀ i x σ H T, xs[i]? = some x → Pv i σ H → H T = none → g (.ref T) σ (upd H T (.tup [.int (i : Nat), x])) fun σ2 H2 => tb { D with nx := Pv (i + 1), ct := Pv (i + 1), bk := D.nx } σ2 H2) (hd : ∀ σ H, Pv xs.length σ H → D.nx σ H) :
    ∃ W : Nat → Nat → L2.St → Hp → Prop, (∃ m, W 0 m σ H) ∧ ∀ i m σ H, W i m σ H →
      ((Ite K a).stop i H ∧ D.nx σ H) ∨ ((Ite K a).go i H ∧ ∃ N : L2.St → Hp → Prop, (∀ σ' H', N σ' H' → ∃ m', m' < m ∧ W (i + 1) m' σ' H') ∧ ∀ x H', (Ite K a).yld i H x H' → g x σ H' fun σ2 H2 => tb { D with nx := N, ct := N, bk := D.nx } σ2 H2) := by
  refine ⟨fun i m σ H => i + m = xs.length ∧ Pv i σ H, ⟨xs.length, by omega, h0⟩, ?_⟩
  rintro i m σ H ⟨hm, p⟩
  have q := hl i σ H (by omega) p
  by_cases hlt : i < xs.length
  · refine .inr ⟨⟨xs, xs[i], q, List.getElem?_eq_getElem hlt⟩, Pv (i + 1), fun σ' H' p' => ⟨m - 1, by omega, by omega, p'⟩, fun v H' y => ?_⟩
    obtain ⟨T, x, rfl, hT, rfl, y⟩ := y
    exact hs i x σ H T (y xs q) p hT
  · have e : i = xs.length := by omega
    subst e
    exact .inl ⟨⟨xs, q, Nat.le_refl _⟩, hd σ H p⟩
/-! ### draws -/
def absI (i : Int) : Int := if i < 0 then -i else i
theorem absI_nn (i : Int) : 0 ≤ absI i := by
  unfold absI
  split <;> omega
theorem scDrw : FnScope ["script", "number", "numbers", "index"] ["script"] (defScope sDrw) := ⟨rfl, rfl, rfl, by decide +kernel, rfl, by decide +kernel, by decide +kernel⟩
def spDrw (K : PySem.W.Frag) : Sp := fun vs H Q _ => ∃ (a : Addr) (ns : List Int), vs = [.ref a] ∧ SqL K H a (ns.map V.int) ∧ ns.length ≤ 63 ∧ ∀ H' p n, Same H H' → H p = none → H n = none → Src H' p n → Q (.ref p) H'
theorem map_get {ns : List Int} {i : Nat} {y : V} (h : (ns.map V.int)[i]? = some y) : ∃ z, ns[i]? = some z ∧ y = .int z := by
  rw [List.getElem?_map] at h
  cases e : ns[i]? with
  | none =>
    rw [e] at h
    cases h
  | some z =>
    rw [e] at h
    exact ⟨z, rfl, (Option.some.inj h).symm⟩
theorem ok_drw {f : Addr} {fd : FuncData} {k : Nat} (F : Fun K "_law_draws" "_law_draws" sDrw f fd) (me : mg "enumerate" = none) (ma : mg "abs" = none) : FnOk P w K mg base CX0 (k + 1) f fd ["script"] (spDrw K) := by
  refine F.ok scDrw (fun vs H Q E h => ?_) (fun cdv A outer s H vs Q E hr h => ?_)
  · obtain ⟨a, ns, rfl, _⟩ := h
    rfl
  · obtain ⟨a, ns, rfl, hS, hlen, q⟩ := h
    refine ⟨_, pss_cons (ps_setLc (i := 2) (own := [("number", 1)]) (g := gName 1) (tt := tYes) (by rfl) scDrw.nd rfl rfl (sw_true rfl rfl rfl (by decide +kernel)) (pi_list (pe_slice sl_list (pv 0) po_none (po_some pe_int))) (blkOk_by (N := ["script", "number", "numbers", "index"]) (sc := defScope sDrw) (by decide +kernel))
        (fun _ _ _ _ _ => pg_name (i := 1) scDrw.nd rfl (.inl rfl)) (fun _ _ _ _ _ => pts_nil) (fun _ _ _ _ _ => pe_callB call_abs (by rfl) ma (by decide +kernel) (pa_cons (pv 1) pa_nil)))
      (pss_cons (ps_for PassesOwn.never rfl (pi_enum (by rfl) me (pa_cons (pe_slice sl_list (pv 0) (po_some pe_int) (po_some pe_int)) pa_nil)) (pg_tup rfl (pgs_cons (pg_name (i := 3) scDrw.nd rfl (.inl rfl)) (pgs_cons (pg_name (i := 1) scDrw.nd rfl (.inl rfl)) pgs_nil)))
        (pss_one (ps_asg (pe_op op_add (pe_ix ix_list (pv 2) (pe_op op_modN (pv 3) pe_int) (fun _ _ => rfl)) (pe_callB call_abs (by rfl) ma (by decide +kernel) (pa_cons (pv 1) pa_nil))) (pg_sub (pv 2) (pe_op op_modN (pv 3) pe_int) set_list))))
      (pss_one (ps_ret (pe_lst (pa_cons (pv 2) (pa_cons pe_int (pa_cons pe_int (pa_cons pe_int pa_nil)))))))), ?_⟩
    have e1 : cutV (ns.map V.int) none (some 20) = (ns.take 20).map V.int := by
      rw [List.map_take]
      exact cut_to _ 20
    have e2 : cutV (ns.map V.int) (some 20) (some 60) = ((ns.drop 20).take 40).map V.int := by
      rw [List.map_take, List.map_drop]
      exact cut_mid _ 20 60 (by omega)
    refine ⟨.ref a, rfl, 20, rfl, a, ns.map V.int, rfl, hS, fun c nc => ⟨c, rfl, ⟨_, .inl (.inl upd_same)⟩, fun D nD => lc_list (K := K) (a := c) (xs := (ns.take 20).map V.int)
      (fun i H' => Same H H' ∧ H' c = some (.lst ((ns.take 20).map V.int)) ∧ H' D = some (.lst ((((ns.take 20).take i).map absI).map V.int))) ?_ ?_ ?_ ?_⟩⟩
    · have ncD : c ≠ D := fun e => by
        rw [← e, upd_same] at nD
        cases nD
      refine ⟨(same_upd nc).trans (same_upd nD), ?_, upd_same⟩
      rw [upd_ne ncD, upd_same, e1]
    · exact fun i H' _ h => .inl (.inl h.2.1)
    · rintro i y H1 hy ⟨sm, hc, hD⟩
      obtain ⟨z, hz, rfl⟩ := map_get hy
      refine ⟨rfl, _, rfl, z, rfl, _, hD, ?_, fun b o e => ?_, ?_, ?_⟩
      · rw [List.length_map, List.length_map]
        exact small1000 (by simp only [List.length_take]; omega)
      · rw [upd_ne (ne_of_none e ((same_upd nc).free nD))]
        exact sm _ _ e
      · have ncD : c ≠ D := fun e => by
          rw [← e, upd_same] at nD
          cases nD
        rw [upd_ne ncD]
        exact hc
      · rw [upd_same, List.take_add_one (l := List.take 20 ns), hz]
        simp only [Option.toList, List.map_append, List.map_cons, List.map_nil]
        rfl
    · rintro H1 ⟨sm, hc, hD⟩
      rw [List.length_map, List.take_length] at hD
      have hnD : H D = none := (same_upd nc).free nD
      generalize hms : (ns.take 20).map absI = ms at hD
      have hms0 : ∀ z ∈ ms, 0 ≤ z := fun z h => by
        rw [← hms] at h
        obtain ⟨u, _, rfl⟩ := List.mem_map.mp h
        exact absI_nn u
      have hml : ms.length = min 20 ns.length := by rw [← hms, List.length_map, List.length_take]
      refine ⟨.ref a, rfl, 20, rfl, 60, rfl, a, ns.map V.int, rfl, sm.seq hS, fun c2 nc2 => ⟨c2, _, rfl, .inl (.inl upd_same), ?_⟩⟩
      have nD2 : D ≠ c2 := ne_of_none hD nc2
      refine for_enum (K := K) (a := c2) (xs := ((ns.drop 20).take 40).map V.int) (fun i σ H' => ∃ (y1 y3 : Option V) (ks : List Int), σ = [some (.ref a), y1, some (.ref D), y3] ∧ Same H H' ∧ H' c2 = some (.lst (((ns.drop 20).take 40).map V.int)) ∧ H' D = some (.lst (ks.map V.int)) ∧ ks.length = ms.length ∧ ∀ z ∈ ks, 0 ≤ z) ?_ ?_ ?_ ?_
      · refine ⟨_, none, ms, rfl, sm.trans (same_upd nc2), ?_, ?_, rfl, hms0⟩
        · rw [upd_same, e2]
        · rw [upd_ne nD2]
          exact hD
      · rintro i σ H' _ ⟨_, _, _, _, _, hc2, _⟩
        exact .inl (.inl hc2)
      · rintro i x σ H' T hx ⟨y1, y3, ks, rfl, sm', hc2, hD', hl', hn'⟩ hT
        obtain ⟨z, hz, rfl⟩ := map_get hx
        have hi : i < ((ns.drop 20).take 40).length := (List.getElem?_eq_some_iff.mp hz).1
        rw [List.length_take, List.length_drop] at hi
        have hj : i % 20 < ks.length := by
          rw [hl', hml, Nat.min_eq_left (by omega)]
          exact Nat.mod_lt _ (by decide)
        have ej : ((i : Int)).fmod 20 = ((i % 20 : Nat) : Int) := by
          rw [Int.fmod_eq_emod_of_nonneg _ (by decide)]
          omega
        have hDT : D ≠ T := ne_of_none hD' hT
        have hD2 : (upd H' T (.tup [.int (i : Nat), .int z])) D = some (.lst (ks.map V.int)) := by
          rw [upd_ne hDT]
          exact hD'
        have gk : (ks.map V.int)[i % 20]? = some (.int ks[i % 20]) := by
          rw [List.getElem?_map, List.getElem?_eq_getElem hj]
          rfl
        refine ⟨T, _, rfl, .inl (.inl upd_same), rfl, _, _, rfl, _, _, rfl, rfl, ?_⟩
        refine ⟨_, rfl, _, rfl, _, _, rfl, rfl, mod20, D, ks.map V.int, _, _, rfl, rfl, .inl (.inl hD2), at_of ej gk, _, rfl, z, rfl, _, _, rfl, rfl, ?_⟩
        refine ⟨_, rfl, _, rfl, _, _, rfl, rfl, mod20, D, ks.map V.int, _, i % 20, rfl, rfl, hD2, ?_, ?_⟩
        · rw [ej, List.length_map]
          exact Evl.ixN_nat hj
        · refine ⟨_, _, ks.set (i % 20) (ks[i % 20] + absI z), rfl, fun b o e => ?_, ?_, ?_, by rw [List.length_set, hl'], ?_⟩
          · have nb : b ≠ D := ne_of_none e hnD
            rw [upd_ne nb, upd_ne (ne_of_none (sm' _ _ e) hT)]
            exact sm' _ _ e
          · have nc2D : c2 ≠ D := nD2.symm
            rw [upd_ne nc2D, upd_ne (ne_of_none hc2 hT)]
            exact hc2
          · rw [upd_same, List.map_set]
            rfl
          · intro u hu
            rcases List.mem_or_eq_of_mem_set hu with h | rfl
            · exact hn' _ h
            · have := hn' _ (List.getElem_mem hj)
              have := absI_nn z
              omega
      · rintro σ H' ⟨y1, y3, ks, rfl, sm', hc2, hD', hl', hn'⟩
        refine ⟨_, rfl, by show 4 ≤ sizeLine; decide, fun p np => ?_⟩
        refine q _ p D (sm'.trans (same_upd np)) (sm'.free np) hnD ⟨0, 0, 0, ks, upd_same, ?_, hn', by decide, by decide, by decide, by rw [hl', hml]; omega⟩
        rw [upd_ne (ne_of_none hD' np)]
        exact hD'
end
section
variable {P : Program} {w : World} {K : PySem.W.Frag} {mg : Str → Option Value} {base : Heap}
/-! ### next -/
theorem scNxt : FnScope ["source", "bound", "numbers", "index", "number", "found"] ["source", "bound"] (defScope sNxt) := ⟨rfl, rfl, rfl, by decide +kernel, rfl, by decide +kernel, by decide +kernel⟩
def spNxt : Sp := fun vs H Q _ => ∃ (a n : Addr) (b : Int), vs = [.ref a, .int b] ∧ Src H a n ∧ 0 < b ∧ b.natAbs < 2 ^ 200 ∧ ∀ (r : Int) H', 0 ≤ r → r < b → Stp a n H H' → Q (.int r) H'
theorem dp_ints {H : Hp} : ∀ ns : List Int, DpAll K H (ns.map V.int) (ns.map PyData.int)
  | [] => .nil
  | z :: r => .cons (.int z) (dp_ints r)
theorem lay_ints : ∀ ns : List Int, PyData.canLayAll0 (ns.map PyData.int) = true
  | [] => by simp [PyData.canLayAll0]
  | z :: r => by
    have ih := lay_ints r
    simp [PyData.canLayAll0, PyData.canLay0, ih]
theorem depth_ints : ∀ ns : List Int, PyData.depthAll (ns.map PyData.int) = 0
  | [] => by simp [PyData.depthAll]
  | z :: r => by
    have ih := depth_ints r
    simp [PyData.depthAll, PyData.depth, ih]
theorem shaped_ints (ns : List Int) : SeqAt.shaped (.list (ns.map PyData.int)) = true := by
  unfold SeqAt.shaped
  simp [PyData.canLay0, PyData.depth, lay_ints, depth_ints]
theorem mod1e9 : (1000000007 : Int) ≠ 0 := by decide
/-- the source's four places -/
abbrev src4 (n : Addr) (i x y : Int) : HO := .lst [.ref n, .int i, .int x, .int y]
theorem ok_nxt {f fS : Addr} {fd fdS : FuncData} {k : Nat} (F : Fun K "_law_next" "_law_next" sNxt f fd) (ml : mg "len" = none) (FS : Fun K "_law_scramble" "_law_scramble" sScr fS fdS) (bS : Binds K fdS ["number", "index"] []) (gS : mg "_law_scramble" = some (.ref fS)) (mr : mg "range" = none) :
    FnOk P w K mg base CX0 (k + 2) f fd ["source", "bound"] spNxt := by
  have GS : FnOk P w K mg base CX0 (k + 1) fS fdS ["number", "index"] spScr := ok_scr FS mr
  refine F.ok scNxt (fun vs H Q E h => ?_) (fun cdv A outer s H vs Q E hr h => ?_)
  · obtain ⟨a, n, b, rfl, _⟩ := h
    rfl
  · obtain ⟨a, n, b, rfl, ⟨i, x, y, ns, hA, hN, hpos, hi, hx, hy, hlen⟩, hb, hb2, q⟩ := h
    have nna : n ≠ a := Src.ne hA hN
    refine ⟨_, C8.pss_cut (ps_if (pt_cmpR op_lt (pe_ix ix_list (pv 0) pe_int (fun _ _ => rfl)) (pv 1) (nomark _))
        (pss_cons (ps_par (i := 2) (j := 3) (by rfl) scNxt.nd rfl rfl (by decide) rfl rfl (pa_cons (pe_ix ix_list (pv 0) pe_int (fun _ _ => rfl)) (pa_cons (pe_ix ix_list (pv 0) pe_int (fun _ _ => rfl)) pa_nil)) (by rfl))
        (C8.pss_cut (ps_set (i := 4) scNxt.nd rfl (.inl rfl) (pe_ifExp (pt_cmpR (op_neD hr.units) (pv 2) (pe_lst pa_nil) (nomark _)) (pe_ix ix_list (pv 2) (pe_op op_modN (pv 3) (pe_callB call_len_seq (by rfl) ml PySem.boot_len (pa_cons (pv 2) pa_nil))) (fun _ _ => rfl)) pe_int))
        (C8.pss_cut (ps_if (PW.pt (pw_or (pt_cmpR op_ge (pv 3) (pe_callB call_len_seq (by rfl) ml PySem.boot_len (pa_cons (pv 2) pa_nil)) (nomark _)) (pw_or1 (pt_cmpR op_lt (pv 4) pe_int (nomark _)))))
            (pss_one (ps_set (i := 4) scNxt.nd rfl (.inl rfl) (pe_call GS hr (by rfl) gS FS.kp bS .nil pass0 (pa_cons (pe_op op_modN (pv 4) pe_int) (pa_cons (pv 3) pa_nil))))) pss_nil)
        (pss_cons (ps_asg (pe_op op_add (pv 3) pe_int) (pg_sub (pv 0) pe_int set_list))
        (pss_cons (ps_asg (pv 4) (pg_sub (pv 0) pe_int set_list))
        (pss_one (ps_asg (pv 4) (pg_sub (pv 0) pe_int set_list)))))))) pss_nil)
      (pss_cons (ps_set (i := 5) scNxt.nd rfl (.inl rfl) (pe_op op_modN (pe_ix ix_list (pv 0) pe_int (fun _ _ => rfl)) (pv 1)))
      (pss_cons (ps_asg (pe_op op_fdivW (pe_ix ix_list (pv 0) pe_int (fun _ _ => rfl)) (pv 1)) (pg_sub (pv 0) pe_int set_list))
      (pss_cons (ps_asg (pe_op op_fdivW (pe_ix ix_list (pv 0) pe_int (fun _ _ => rfl)) (pv 1)) (pg_sub (pv 0) pe_int set_list))
      (pss_one (ps_ret (pv 5)))))), ?_⟩
    refine ⟨fun σ H' => ∃ (y2 y3 y4 : Option V) (i' x' y' : Int), σ = [some (.ref a), some (.int b), y2, y3, y4, none] ∧ H' a = some (src4 n i' x' y') ∧ 0 ≤ i' ∧ 0 ≤ x' ∧ 0 ≤ y' ∧ ∀ c o, H c = some o → c ≠ a → H' c = some o, ?_, ?_⟩
    · refine ⟨.ref a, rfl, a, _, 3, _, rfl, rfl, .inl (.inl hA), atI_nat (j := 3) rfl, _, rfl, y, b, rfl, rfl, _, rfl, ite2 (fun _ => ?_) (fun _ => ?_)⟩
      · refine ⟨.ref a, rfl, a, _, 0, _, rfl, rfl, .inl (.inl hA), atI_nat (j := 0) rfl, .ref a, rfl, a, _, 1, _, rfl, rfl, .inl (.inl hA), atI_nat (j := 1) rfl, _, _, rfl, ?_⟩
        refine ⟨fun σ H' => ∃ z : Int, σ = [some (.ref a), some (.int b), some (.ref n), some (.int i), some (.int z), none] ∧ 0 ≤ z ∧ Same H H', ?_, ?_⟩
        · refine ⟨.ref n, rfl, by show 0 ≤ sizeLine; decide, fun p np => ?_⟩
          have hN1 : (upd H p (.lst [])) n = some (.lst (ns.map V.int)) := same_upd np _ _ hN
          refine ⟨.list (ns.map PyData.int), .list [], .lst (.inl (.inl hN1)) (dp_ints ns), .lst (.inl (.inl upd_same)) .nil, shaped_ints ns, shaped_ints [], _, rfl, ite2 (fun hne => ?_) (fun he => ?_)⟩
          · have nz : ns ≠ [] := fun e => by
              subst e
              revert hne
              decide +kernel
            have hl0 : 0 < ns.length := List.length_pos_iff.mpr nz
            have hj : i.toNat % ns.length < ns.length := Nat.mod_lt _ hl0
            have ej : i.fmod (ns.length : Int) = ((i.toNat % ns.length : Nat) : Int) := by
              rw [Int.fmod_eq_emod_of_nonneg _ (by omega), Int.natCast_emod]
              congr 1
              omega
            have gk : (ns.map V.int)[i.toNat % ns.length]? = some (.int ns[i.toNat % ns.length]) := by
              rw [List.getElem?_map, List.getElem?_eq_getElem hj]
              rfl
            refine ⟨.ref n, rfl, _, rfl, .ref n, rfl, n, _, rfl, .inl (.inl (.inl hN1)), _, _, rfl, rfl, ?_, n, _, _, _, rfl, rfl, .inl (.inl hN1), at_of (by rw [List.length_map]; exact ej) gk, ?_⟩
            · rw [List.length_map]
              omega
            · exact ⟨_, rfl, hpos _ (List.getElem_mem hj), same_upd np⟩
          · exact ⟨0, rfl, by decide, same_upd np⟩
        · rintro σ H1 ⟨z, rfl, hz, sm⟩
          have hN1 := sm _ _ hN
          have hA1 := sm _ _ hA
          refine ⟨fun σ H' => ∃ z : Int, σ = [some (.ref a), some (.int b), some (.ref n), some (.int i), some (.int z), none] ∧ 0 ≤ z ∧ Same H H', ?_, ?_⟩
          · refine ⟨_, rfl, .ref n, rfl, n, _, rfl, .inl (.inl (.inl hN1)), _, _, rfl, rfl, _, rfl, ite2 (fun _ => ?_) (fun _ => ?_)⟩
            · exact ⟨_, rfl, _, _, rfl, rfl, mod1e9, _, rfl, _, _, rfl, fun r h0 => ⟨r, rfl, h0, sm⟩⟩
            · refine ⟨_, rfl, _, _, rfl, rfl, _, rfl, ite2 (fun _ => ?_) (fun _ => ?_)⟩
              · exact ⟨_, rfl, _, _, rfl, rfl, mod1e9, _, rfl, _, _, rfl, fun r h0 => ⟨r, rfl, h0, sm⟩⟩
              · exact ⟨z, rfl, hz, sm⟩
          · rintro σ H2 ⟨z2, rfl, hz2, sm2⟩
            have hA2 := sm2 _ _ hA
            refine ⟨_, rfl, _, _, rfl, rfl, .ref a, rfl, a, _, _, 1, rfl, rfl, hA2, rfl, ?_⟩
            refine ⟨_, rfl, .ref a, rfl, a, _, _, 2, rfl, rfl, upd_same, rfl, ?_⟩
            refine ⟨_, rfl, .ref a, rfl, a, _, _, 3, rfl, rfl, upd_same, rfl, ?_⟩
            refine ⟨_, _, _, i + 1, z2, z2, rfl, upd_same, by omega, hz2, hz2, fun c o e ne => ?_⟩
            rw [upd_ne ne, upd_ne ne, upd_ne ne]
            exact sm2 _ _ e
      · exact ⟨none, none, none, i, x, y, rfl, hA, hi, hx, hy, fun c o e _ => e⟩
    · rintro σ H' ⟨y2, y3, y4, i', x', y', rfl, hA', hi', hx', hy', kp⟩
      have bne : b ≠ 0 := by omega
      have wd : ∀ u : Int, CDivW u b := fun u => wide_div hb hb2 (by decide) (by decide)
      refine ⟨.ref a, rfl, a, _, 2, _, rfl, rfl, .inl (.inl hA'), atI_nat (j := 2) rfl, _, rfl, _, _, rfl, rfl, bne, ?_⟩
      refine ⟨.ref a, rfl, a, _, 2, _, rfl, rfl, .inl (.inl hA'), atI_nat (j := 2) rfl, _, rfl, _, _, rfl, rfl, wd _, .ref a, rfl, a, _, _, 2, rfl, rfl, hA', rfl, ?_⟩
      refine ⟨.ref a, rfl, a, _, 3, _, rfl, rfl, .inl (.inl upd_same), atI_nat (j := 3) rfl, _, rfl, _, _, rfl, rfl, wd _, .ref a, rfl, a, _, _, 3, rfl, rfl, upd_same, rfl, ?_⟩
      refine ⟨_, rfl, q _ _ (Int.fmod_nonneg_of_pos _ hb) (Int.fmod_lt_of_pos _ hb) ⟨⟨i', x' / b, y' / b, ns, upd_same, ?_, hpos, hi', Int.ediv_nonneg hx' (by omega), Int.ediv_nonneg hy' (by omega), hlen⟩, fun c o e ne => ?_⟩⟩
      · rw [upd_ne nna, upd_ne nna]
        exact kp _ _ hN nna
      · rw [upd_ne ne, upd_ne ne]
        exact kp _ _ e ne
/-! ### choose -/
theorem scCho : FnScope ["source", "items"] ["source", "items"] (defScope sCho) := ⟨rfl, rfl, rfl, by decide +kernel, rfl, by decide +kernel, by decide +kernel⟩
def spCho (K : PySem.W.Frag) : Sp := fun vs H Q _ => ∃ (a n l : Addr) (xs : List V), vs = [.ref a, .ref l] ∧ Src H a n ∧ SqL K H l xs ∧ l ≠ a ∧ xs ≠ [] ∧ xs.length ≤ 1000000 ∧ ∀ v H', v ∈ xs → Stp a n H H' → Q v H'
theorem ok_cho {f fN : Addr} {fd fdN : FuncData} {k : Nat} (F : Fun K "_law_choose" "_law_choose" sCho f fd) (ml : mg "len" = none) (GN : FnOk P w K mg base CX0 (k + 2) fN fdN ["source", "bound"] spNxt) (kN : PySem.W.keepIn K (.ref fN) = true) (bN : Binds K fdN ["source", "bound"] []) (gN : mg "_law_next" = some (.ref fN)) :
    FnOk P w K mg base CX0 (k + 3) f fd ["source", "items"] (spCho K) := by
  refine F.ok scCho (fun vs H Q E h => ?_) (fun cdv A outer s H vs Q E hr h => ?_)
  · obtain ⟨a, n, l, xs, rfl, _⟩ := h
    rfl
  · obtain ⟨a, n, l, xs, rfl, hs, hl, hne, hx, hz, q⟩ := h
    refine ⟨_, pss_one (ps_ret (pe_ix ix_list (pv 1) (pe_call GN hr (by rfl) gN kN bN .nil pass0 (pa_cons (pv 0) (pa_cons (pe_callB call_len_seq (by rfl) ml PySem.boot_len (pa_cons (pv 1) pa_nil)) pa_nil))) (fun _ _ => rfl))), ?_⟩
    have hlp : 0 < xs.length := List.length_pos_iff.mpr hx
    refine ⟨.ref l, rfl, .ref a, rfl, .ref l, rfl, l, xs, rfl, .inl hl, a, n, _, rfl, hs, by omega, ?_, fun r H' h0 h1 st => ?_⟩
    · rw [Int.natAbs_natCast]
      exact Nat.lt_of_le_of_lt hz (by decide)
    · obtain ⟨j, rfl⟩ := Int.eq_ofNat_of_zero_le h0
      have hj : j < xs.length := by omega
      exact ⟨l, xs, _, _, rfl, rfl, st.seq hne hl, atI_nat (List.getElem?_eq_getElem hj), q _ _ (List.getElem_mem hj) st⟩
/-! ### identical -/
theorem scIde : FnScope ["found", "expected"] ["found", "expected"] (defScope sIde) := ⟨rfl, rfl, rfl, by decide +kernel, rfl, by decide +kernel, by decide +kernel⟩
/-- data that is shown -/
structure Shn (d : PyData) : Prop where
  sh : d.showable = true
  nd : d.hasDict = false
  dp : d.depth ≤ 60
  sz : d.shown.length ≤ sizeLine
def spIde (K : PySem.W.Frag) : Sp := fun vs H Q _ => ∃ (x y : V) (d : PyData), vs = [x, y] ∧ Dp K H x d ∧ Dp K H y d ∧ Shn d ∧ Q (.bl true) H
theorem ok_ide {f : Addr} {fd : FuncData} {k : Nat} (F : Fun K "_law_identical" "_law_identical" sIde f fd) (mp : mg "repr" = none) : FnG P w K mg base (k + 1) f fd ["found", "expected"] (spIde K) := by
  refine Fun_okG F scIde (fun vs H Q E h => ?_) (fun cdv A outer s H vs Q E hg hr h => ?_)
  · obtain ⟨x, y, d, rfl, _⟩ := h
    rfl
  · obtain ⟨x, y, d, rfl, hx, hy, hd, q⟩ := h
    have hun : (cxOf CX0 P w K mg base ["found", "expected"] "_law_identical" (defScope sIde) f cdv A outer s H E).nox.A.units + 100 < cLine := by
      have := hr.un
      show (A.deeper _).units + 100 < cLine
      omega
    refine ⟨_, pss_one (ps_ret (pe_cmpR op_eq (pe_callB (call_reprD hg hun) (by rfl) mp (by decide +kernel) (pa_cons (pv 0) pa_nil)) (pe_callB (call_reprD hg hun) (by rfl) mp (by decide +kernel) (pa_cons (pv 1) pa_nil)) (nomark _))), ?_⟩
    refine ⟨x, rfl, x, d, rfl, hx, hd.sh, hd.nd, hd.dp, hd.sz, y, rfl, y, d, rfl, hy, hd.sh, hd.nd, hd.dp, hd.sz, rfl, ?_⟩
    rw [decide_eq_true rfl]
    exact q
end
section
variable {P : Program} {w : World} {K : PySem.W.Frag} {mg : Str → Option Value} {base : Heap}
theorem eqv_ints : ∀ as bs : List Int, PyData.eqvAll (as.map PyData.int) (bs.map PyData.int) = decide (as = bs)
  | [], [] => by simp [PyData.eqvAll]
  | [], b :: bs => by simp [PyData.eqvAll]
  | a :: as, [] => by simp [PyData.eqvAll]
  | a :: as, b :: bs => by
    have ih := eqv_ints as bs
    rw [List.map_cons, List.map_cons]
    show (PyData.eqvAll (.int a :: as.map PyData.int) (.int b :: bs.map PyData.int)) = _
    rw [PyData.eqvAll, ih, PyData.eqv]
    by_cases e1 : a = b <;> by_cases e2 : as = bs <;> simp [e1, e2]
theorem shaped_intsT (ns : List Int) : SeqAt.shaped (.tuple (ns.map PyData.int)) = true := by
  unfold SeqAt.shaped
  simp [PyData.canLay0, PyData.depth, lay_ints, depth_ints]
theorem dp_tup {H : Hp} {a : Addr} {ns : List Int} (h : SqT K H a (ns.map V.int)) : Dp K H (.ref a) (.tuple (ns.map PyData.int)) := .tup h (dp_ints ns)
theorem eqvT (as bs : List Int) : PyData.eqv (.tuple (as.map PyData.int)) (.tuple (bs.map PyData.int)) = decide (as = bs) := by
  rw [← eqv_ints]
  simp [PyData.eqv]
end
/-! tuples joined, repeated, cut: some tuple, all else as it was -/
theorem Same.seqT {K : PySem.W.Frag} {H H' : Hp} {a : Addr} {xs : List V} (e : Same H H') (h : SqT K H a xs) : SqT K H' a xs := by
  rcases h with (h | ⟨o, h⟩) | h
  · exact .inl (.inl (e _ _ h))
  · exact .inl (.inr ⟨o, e _ _ h⟩)
  · exact .inr h
theorem Stp.seqT {K : PySem.W.Frag} {a m l : Addr} {H H' : Hp} {xs : List V} (h : Stp a m H H') (n : SqT K H l xs → l ≠ a) (q : SqT K H l xs) : SqT K H' l xs := by
  have n := n q
  rcases q with (q | ⟨o, q⟩) | q
  · exact .inl (.inl (h.2 _ _ q n))
  · exact .inl (.inr ⟨o, h.2 _ _ q n⟩)
  · exact .inr q
theorem Src.same {H H' : Hp} {a n : Addr} (h : Src H a n) (e : Same H H') : Src H' a n := by
  obtain ⟨i, x, y, ns, h1, h2, h3⟩ := h
  exact ⟨i, x, y, ns, e _ _ h1, e _ _ h2, h3⟩
theorem Stp.of {H H' : Hp} {a n : Addr} (h : Src H a n) (e : Same H H') : Stp a n H H' := ⟨h.same e, fun c o z _ => e c o z⟩
theorem Stp.refl {H : Hp} {a n : Addr} (h : Src H a n) : Stp a n H H := .of h (Same.refl H)
theorem Stp.then {H H1 H2 : Hp} {a n : Addr} (h : Stp a n H H1) (e : Same H1 H2) : Stp a n H H2 := h.trans (.of h.1 e)
section
variable {X : Cx}
def rRepU (K : PySem.W.Frag) : R2 := fun x y H Q => ∃ l k xs, x = .ref l ∧ y = .int k ∧ SqT K H l xs ∧ xs.length = 1 ∧ -1000 ≤ k ∧ k ≤ 1000 ∧ ∀ p H', Same H H' → SqT K H' p (List.replicate k.toNat xs).flatten → Q (.ref p) H'
theorem op_repU : OpR X (binaryOp .Mult) (rRepU X.K) := by
  intro pins s σ H x y v u Q I rx ry h
  obtain ⟨l, k, xs, hx, hy, hT, hl, h1, h2, q⟩ := h
  refine op_repZ pins s σ H x y v u Q I rx ry ⟨l, k, xs, hx, hy, hT, ?_, h1, h2, by omega, fun h0 p np => ?_, fun h0 => ?_, fun h0 p np => ?_⟩
  · rintro rfl
    cases hl
  · refine q p _ (same_upd np) (.inl (.inl ?_))
    have e : k.toNat = 0 := by omega
    rw [e, upd_same]
    rfl
  · refine q l H (Same.refl H) ?_
    subst h0
    have e : (List.replicate (1 : Int).toNat xs).flatten = xs := by
      show (List.replicate 1 xs).flatten = xs
      simp
    rw [e]
    exact hT
  · exact q p _ (same_upd np) (.inl (.inl upd_same))
def rCatU (K : PySem.W.Frag) : R2 := fun x y H Q => ∃ a b xs ys, x = .ref a ∧ y = .ref b ∧ SqT K H a xs ∧ SqT K H b ys ∧ xs.length + ys.length ≤ sizeLine ∧ ∀ p H', Same H H' → SqT K H' p (xs ++ ys) → Q (.ref p) H'
theorem op_catU : OpR X (binaryOp .Add) (rCatU X.K) := by
  intro pins s σ H x y v u Q I rx ry h
  obtain ⟨a, b, xs, ys, hx, hy, ha, hb, hl, q⟩ := h
  refine op_catA pins s σ H x y v u Q I rx ry ⟨a, b, xs, ys, hx, hy, ha, hb, hl, fun e => ?_, fun _ e => ?_, fun _ _ p np => ?_⟩
  · subst e
    exact q b H (Same.refl H) hb
  · subst e
    exact q a H (Same.refl H) (by rw [List.append_nil]; exact ha)
  · exact q p _ (same_upd np) (.inl (.inl upd_same))
def rSlU (K : PySem.W.Frag) : V → Option Int → Option Int → Hp → VK → Prop := fun x lo hi H Q => ∃ a xs, x = .ref a ∧ SqT K H a xs ∧ ∀ p H', Same H H' → SqT K H' p (cutV xs lo hi) → Q (.ref p) H'
theorem sl_tupU : SlR X (rSlU X.K) := by
  intro pins s σ H x v vl vu lo hi sl Q I rx i1 i2 i3 hq
  obtain ⟨a, xs, hx, ha, q⟩ := hq
  refine sl_tupA pins s σ H x v vl vu lo hi sl Q I rx i1 i2 i3 ⟨a, xs, hx, ha, fun e => ?_, fun _ p np => ?_⟩
  · refine q a H (Same.refl H) ?_
    unfold cutV
    rw [e.1, e.2, List.drop_zero, Nat.sub_zero, List.take_length]
    exact ha
  · exact q p _ (same_upd np) (.inl (.inl upd_same))
end
theorem flat_one (n : Nat) (z : Int) : (List.replicate n [V.int z]).flatten = (List.replicate n z).map V.int := by
  induction n with
  | zero => rfl
  | succ n ih =>
    rw [List.replicate_succ, List.flatten_cons, ih, List.replicate_succ]
    rfl

abbrev sRnd : Stmt := topS 29
theorem Stp.tup {K : PySem.W.Frag} {a n l : Addr} {H H' : Hp} {xs : List V} (h : Stp a n H H') (hs : Src H a n) (q : SqT K H l xs) : SqT K H' l xs := by
  obtain ⟨i, x, y, ns, ha, _⟩ := hs
  rcases q with (q | ⟨o, q⟩) | q
  · exact .inl (.inl (h.2 _ _ q fun e => by rw [e, ha] at q; cases q))
  · exact .inl (.inr ⟨o, h.2 _ _ q fun e => by rw [e, ha] at q; cases q⟩)
  · exact .inr q
theorem Src.has {a n l : Addr} {H : Hp} (hs : Src H a n) (hl : H l = none) : l ≠ a := fun e => by
  obtain ⟨i, x, y, ns, ha, _⟩ := hs
  rw [e, ha] at hl
  cases hl
theorem Src.hasN {a n l : Addr} {H : Hp} (hs : Src H a n) (hl : H l = none) : l ≠ n := fun e => by
  obtain ⟨i, x, y, ns, _, hn, _⟩ := hs
  rw [e, hn] at hl
  cases hl
/-- an object beside the source and its numbers is changed -/
theorem Src.upd {a n l : Addr} {H : Hp} {o : HO} (hs : Src H a n) (h : l ≠ a) (h2 : l ≠ n) : Src (upd H l o) a n := by
  obtain ⟨i, x, y, ns, ha, hn, r⟩ := hs
  exact ⟨i, x, y, ns, by rw [upd_ne (Ne.symm h)]; exact ha, by rw [upd_ne (Ne.symm h2)]; exact hn, r⟩
/-- .. that was not there at the start -/
theorem Stp.upd {a n l : Addr} {H H' : Hp} {o : HO} (h : Stp a n H H') (hs : Src H a n) (hl : H l = none) : Stp a n H (upd H' l o) := by
  refine ⟨h.1.upd (hs.has hl) (hs.hasN hl), fun c o' e ne => ?_⟩
  rw [upd_ne (ne_of_none e hl)]
  exact h.2 c o' e ne
section
variable {P : Program} {w : World} {K : PySem.W.Frag} {mg : Str → Option Value} {base : Heap}
theorem scRnd : FnScope ["source", "degrees", "most", "coefficients", "index", "big"] ["source", "degrees", "most"] (defScope sRnd) := ⟨rfl, rfl, rfl, by decide +kernel, rfl, by decide +kernel, by decide +kernel⟩
structure Ordn (d m : Int) (zs : List Int) : Prop where
  len : (zs.length : Int) ≤ d
  nn : ∀ z ∈ zs, 0 ≤ z
  le : ∀ z ∈ zs, z ≤ max 2 m
  hd : zs.head? ≠ some 0
def spRnd (K : PySem.W.Frag) : Sp := fun vs H Q _ => ∃ (a n : Addr) (d m : Int), vs = [.ref a, .int d, .int m] ∧ Src H a n ∧ 0 ≤ d ∧ d ≤ 900 ∧ 0 ≤ m ∧ m.natAbs < 2 ^ 100 ∧ ∀ p H' zs, Stp a n H H' → SqT K H' p (zs.map V.int) → Ordn d m zs → Q (.ref p) H'
theorem ok_rnd {f fN fC : Addr} {fd fdN fdC : FuncData} {k : Nat} (F : Fun K "_law_random_ordinal" "_law_random_ordinal" sRnd f fd) (mr : mg "range" = none) (mt : mg "tuple" = none)
    (GN : FnOk P w K mg base CX0 (k + 3) fN fdN ["source", "bound"] spNxt) (kN : PySem.W.keepIn K (.ref fN) = true) (bN : Binds K fdN ["source", "bound"] []) (gN : mg "_law_next" = some (.ref fN))
    (GC : FnOk P w K mg base CX0 (k + 3) fC fdC ["source", "items"] (spCho K)) (kC : PySem.W.keepIn K (.ref fC) = true) (bC : Binds K fdC ["source", "items"] []) (gC : mg "_law_choose" = some (.ref fC)) :
    FnOk P w K mg base CX0 (k + 4) f fd ["source", "degrees", "most"] (spRnd K) := by
  refine F.ok scRnd (fun vs H Q E h => ?_) (fun cdv A outer s H vs Q E hr h => ?_)
  · obtain ⟨a, n, d, m, rfl, _⟩ := h
    rfl
  · obtain ⟨a, n, d, m, rfl, hs, hd0, hd1, hm0, hm1, q⟩ := h
    refine ⟨_, pss_cons (ps_set (i := 3) scRnd.nd rfl (.inl rfl) (pe_lst pa_nil))
      (C8.pss_cut (ps_for PassesOwn.never rfl (pi_range1 rfl mr (pa_cons (pe_call GN hr (by rfl) gN kN bN .nil pass0 (pa_cons (pv 0) (pa_cons (pe_op op_add (pv 1) pe_int) pa_nil))) pa_nil)) (pg_name (i := 4) scRnd.nd rfl (.inl rfl))
        (pss_cons (ps_set (i := 5) scRnd.nd rfl (.inl rfl) (pe_call GC hr (by rfl) gC kC bC .nil pass0 (pa_cons (pv 0) (pa_cons (pe_lst (pa_cons pe_int (pa_cons pe_int (pa_cons pe_int (pa_cons pe_int (pa_cons (pv 2) pa_nil)))))) pa_nil))))
        (pss_one (ps_expr (pe_bm PySem.F.plainAttrs_list PySem.F.slot_list_append PySem.F.type_list_append mt_append (pv 3) (pa_cons (pe_call GN hr (by rfl) gN kN bN .nil pass0 (pa_cons (pv 0) (pa_cons (pe_op op_add (pv 5) pe_int) pa_nil))) pa_nil))))))
      (pss_cons (ps_while PassesOwn.never (PW.pt (pw_and (pt_cmpR (op_neD hr.units) (pv 3) (pe_lst pa_nil) (nomark _)) (pw_and1 (pt_cmpR op_eq (pe_ix ix_list (pv 3) pe_int (fun _ _ => rfl)) pe_int (nomark _)))))
        (pss_one (ps_set (i := 3) scRnd.nd rfl (.inl rfl) (pe_slice sl_list (pv 3) (po_some pe_int) po_none))))
      (pss_one (ps_ret (pe_callTy call_tuple_of (by rfl) mt (by decide +kernel) (pa_cons (pv 3) pa_nil)))))), ?_⟩
    refine ⟨Nat.zero_le _, fun l hl => ?_⟩
    have hla : l ≠ a := hs.has hl
    have s0 : Stp a n H (upd H l (.lst [])) := .of hs (same_upd hl)
    refine ⟨fun σ H' => ∃ (y4 y5 : Option V) (ks : List Int), σ = [some (.ref a), some (.int d), some (.int m), some (.ref l), y4, y5] ∧ Stp a n H H' ∧ H' l = some (.lst (ks.map V.int)) ∧ (ks.length : Int) ≤ d ∧ (∀ z ∈ ks, 0 ≤ z) ∧ (∀ z ∈ ks, z ≤ max 2 m), ?_, ?_⟩
    · refine ⟨_, rfl, _, rfl, _, _, rfl, rfl, a, n, _, rfl, s0.1, by omega, by omega, fun r H1 r0 r1 s1 => ?_⟩
      have s01 := s0.trans s1
      refine ⟨r, rfl, by omega, by omega, for_range (n := r.toNat) (fun i σ H' => ∃ (y4 y5 : Option V) (ks : List Int), σ = [some (.ref a), some (.int d), some (.int m), some (.ref l), y4, y5] ∧ Stp a n H H' ∧ H' l = some (.lst (ks.map V.int)) ∧ ks.length = i ∧ (∀ z ∈ ks, 0 ≤ z) ∧ (∀ z ∈ ks, z ≤ max 2 m)) ?_ ?_ ?_⟩
      · exact ⟨none, none, [], rfl, s01, s1.2 _ _ upd_same hla, rfl, by simp, by simp⟩
      · rintro i σ H2 hi ⟨y4, y5, ks, rfl, s2, hl2, hk, hn, hm⟩
        refine ⟨_, rfl, _, rfl, by show 5 ≤ sizeLine; decide, fun p np => ⟨a, n, p, _, rfl, s2.1.same (same_upd np), .inl (.inl upd_same), s2.1.has np, by simp, by simp, fun v H3 hv s3 => ?_⟩⟩
        have s23 := (s2.then (same_upd (o := .lst [.int 0, .int 0, .int 1, .int 2, .int m]) np)).trans s3
        have hl3 : H3 l = some (.lst (ks.map V.int)) := s3.2 _ _ (same_upd np _ _ hl2) hla
        obtain ⟨bg, rfl, hb0, hb1⟩ : ∃ bg : Int, v = .int bg ∧ 0 ≤ bg ∧ bg ≤ max 2 m := by
          simp at hv
          rcases hv with rfl | rfl | rfl | rfl
          · exact ⟨0, rfl, by omega, by omega⟩
          · exact ⟨1, rfl, by omega, by omega⟩
          · exact ⟨2, rfl, by omega, by omega⟩
          · exact ⟨m, rfl, by omega, by omega⟩
        refine ⟨_, rfl, .inl ⟨rfl, _, .inl (.inl hl3)⟩, _, rfl, _, rfl, _, _, rfl, rfl, a, n, _, rfl, s3.1, by omega, by omega, fun z H4 z0 z1 s4 => ?_⟩
        have hl4 : H4 l = some (.lst (ks.map V.int)) := s4.2 _ _ hl3 hla
        refine ⟨l, _, _, rfl, rfl, hl4, ?_, ?_⟩
        · rw [List.length_map]
          exact small1000 (by omega)
        · refine ⟨_, _, ks ++ [z], rfl, (s23.trans s4).upd hs hl, ?_, by rw [List.length_append, hk]; rfl, fun u hu => ?_, fun u hu => ?_⟩
          · rw [upd_same, List.map_append]
            rfl
          · rcases List.mem_append.mp hu with h | h
            · exact hn _ h
            · rw [List.mem_singleton.mp h]
              exact z0
          · rcases List.mem_append.mp hu with h | h
            · exact hm _ h
            · rw [List.mem_singleton.mp h]
              omega
      · rintro σ H2 ⟨y4, y5, ks, rfl, s2, hl2, hk, hn, hm⟩
        exact ⟨y4, y5, ks, rfl, s2, hl2, by omega, hn, hm⟩
    · rintro σ H1 ⟨y4, y5, ks, rfl, s1, hl1, hk, hn, hm⟩
      refine ⟨fun j σ H' => ∃ (l : Addr) (ks : List Int), j = ks.length ∧ σ = [some (.ref a), some (.int d), some (.int m), some (.ref l), y4, y5] ∧ Stp a n H H' ∧ H' l = some (.lst (ks.map V.int)) ∧ (ks.length : Int) ≤ d ∧ (∀ z ∈ ks, 0 ≤ z) ∧ (∀ z ∈ ks, z ≤ max 2 m), ⟨_, l, ks, rfl, rfl, s1, hl1, hk, hn, hm⟩, ?_⟩
      rintro j σ H2 ⟨l2, ks, rfl, rfl, s2, hl2, hk, hn, hm⟩
      refine ⟨_, rfl, Nat.zero_le _, fun p np => ?_⟩
      have s3 := s2.then (same_upd (o := .lst []) np)
      have hl3 := same_upd (o := .lst []) np _ _ hl2
      have fin : ks.head? ≠ some 0 → ∀ H4, Stp a n H H4 → H4 l2 = some (.lst (ks.map V.int)) → (tRet (tCB (fun xs H_1 Q => ∃ p ys, xs = [V.ref p] ∧ (SqL K H_1 p ys ∧ (∀ (l : Addr), H_1 l = none → Q (V.ref l) (upd H_1 l (HO.tup ys))) ∨ SqT K H_1 p ys ∧ Q (V.ref p) H_1)) (tCons (tVar 3) tNil))) { nx := fun x H' => Q V.non H', rt := Q } [some (.ref a), some (.int d), some (.int m), some (.ref l2), y4, y5] H4 := by
        intro hh H4 s4 hl4
        refine ⟨_, rfl, l2, _, rfl, .inl ⟨.inl (.inl hl4), fun p np => ?_⟩⟩
        exact q p _ ks (s4.then (same_upd np)) (.inl (.inl upd_same)) ⟨hk, hn, hm, hh⟩
      refine ⟨.list (ks.map PyData.int), .list [], .lst (.inl (.inl hl3)) (dp_ints ks), .lst (.inl (.inl upd_same)) .nil, shaped_ints ks, shaped_ints [], _, rfl, ?_⟩
      have ee : PyData.eqv (.list (ks.map PyData.int)) (.list []) = decide (ks = []) := by
        rw [← eqv_ints]
        simp [PyData.eqv]
      rw [ee]
      refine ite2 (fun c => ?_) (fun c => ?_)
      · have ne : ks ≠ [] := by simpa using c
        obtain ⟨z, r, rfl⟩ : ∃ z r, ks = z :: r := by
          cases ks with
          | nil => exact absurd rfl ne
          | cons z r => exact ⟨z, r, rfl⟩
        refine ⟨_, rfl, l2, _, 0, _, rfl, rfl, .inl (.inl hl3), atI_nat (j := 0) rfl, rfl, _, rfl, ite2 (fun c2 => ?_) (fun c2 => ?_)⟩
        · refine ⟨fun σ H' => ∃ (l : Addr), σ = [some (.ref a), some (.int d), some (.int m), some (.ref l), y4, y5] ∧ Stp a n H H' ∧ H' l = some (.lst (r.map V.int)), ?_, ?_⟩
          · rintro σ' H' ⟨l3, rfl, s5, hl5⟩
            refine ⟨r.length, by simp, l3, r, rfl, rfl, s5, hl5, ?_, fun u hu => hn _ (List.mem_cons_of_mem _ hu), fun u hu => hm _ (List.mem_cons_of_mem _ hu)⟩
            rw [List.length_cons] at hk
            omega
          · refine ⟨_, rfl, 1, rfl, l2, _, rfl, .inl (.inl hl3), fun c nc => ?_⟩
            refine ⟨c, rfl, s3.then (same_upd nc), ?_⟩
            rw [upd_same]
            have e1 : cutV ((z :: r).map V.int) (some 1) none = r.map V.int := cut_from _ 1
            rw [e1]
        · refine fin (fun e => c2 ?_) _ s3 hl3
          have e' : z = 0 := Option.some.inj e
          rw [e']
          rfl
      · have e : ks = [] := by simpa using c
        exact fin (by rw [e]; simp) _ s3 hl3
end
abbrev sTrm : Stmt := topS 30
abbrev sFrm : Stmt := topS 31
abbrev sLes : Stmt := topS 34
/-- a pair of ints at a new tuple -/
def Pr (H : Hp) (v : V) (p : Int × Int) : Prop := ∃ a, v = .ref a ∧ H a = some (.tup [.int p.1, .int p.2])
def Prs (H : Hp) (vs : List V) (ps : List (Int × Int)) : Prop := Paired (Pr H) vs ps
theorem Paired.imp {α β : Type} {R S : α → β → Prop} (h : ∀ a b, R a b → S a b) : ∀ {xs : List α} {ys : List β}, Paired R xs ys → Paired S xs ys
  | _, _, .nil => .nil
  | _, _, .cons r rs => .cons (h _ _ r) (Paired.imp h rs)
theorem Paired.app {α β : Type} {R : α → β → Prop} : ∀ {xs xs' : List α} {ys ys' : List β}, Paired R xs ys → Paired R xs' ys' → Paired R (xs ++ xs') (ys ++ ys')
  | _, _, _, _, .nil, h => h
  | _, _, _, _, .cons r rs, h => .cons r (Paired.app rs h)
theorem Prs.same {H H' : Hp} {vs : List V} {ps : List (Int × Int)} (h : Prs H vs ps) (s : Same H H') : Prs H' vs ps :=
  Paired.imp (fun _ _ ⟨a, e, q⟩ => ⟨a, e, s _ _ q⟩) h
theorem Prs.stp {H H' : Hp} {a n : Addr} {vs : List V} {ps : List (Int × Int)} (h : Prs H vs ps) (hs : Src H a n) (s : Stp a n H H') : Prs H' vs ps :=
  Paired.imp (fun _ _ ⟨c, e, q⟩ => ⟨c, e, s.2 _ _ q fun z => by
    obtain ⟨i, x, y, ns, ha, _⟩ := hs
    rw [z, ha] at q
    cases q⟩) h
theorem Prs.upd {H : Hp} {l : Addr} {xs : List V} {o : HO} {vs : List V} {ps : List (Int × Int)} (h : Prs H vs ps) (hl : H l = some (.lst xs)) : Prs (upd H l o) vs ps :=
  Paired.imp (fun _ _ ⟨c, e, q⟩ => ⟨c, e, by
    have : c ≠ l := fun z => by
      rw [z, hl] at q
      cases q
    rw [upd_ne this]
    exact q⟩) h
/-- the terms: exponent and coefficient, the first i places gone through -/
def termsTo (n : Nat) : Nat → List Int → List (Int × Int)
  | _, [] => []
  | i, z :: r => if z = 0 then termsTo n (i + 1) r else ((n : Int) - 1 - i, z) :: termsTo n (i + 1) r
def terms (zs : List Int) : List (Int × Int) := termsTo zs.length 0 zs
theorem termsTo_app (n : Nat) : ∀ (xs ys : List Int) (i : Nat), termsTo n i (xs ++ ys) = termsTo n i xs ++ termsTo n (i + xs.length) ys
  | [], ys, i => rfl
  | x :: xs, ys, i => by
    show (if x = 0 then termsTo n (i + 1) (xs ++ ys) else _ :: termsTo n (i + 1) (xs ++ ys)) = _
    rw [termsTo_app n xs ys (i + 1)]
    have e : i + 1 + xs.length = i + (x :: xs).length := by
      rw [List.length_cons]
      omega
    rw [e]
    show _ = (if x = 0 then termsTo n (i + 1) xs else _ :: termsTo n (i + 1) xs) ++ _
    split <;> rfl
theorem termsTo_len (n : Nat) : ∀ (xs : List Int) (i : Nat), (termsTo n i xs).length ≤ xs.length
  | [], _ => Nat.le_refl _
  | x :: xs, i => by
    have ih := termsTo_len n xs (i + 1)
    unfold termsTo
    split
    · rw [List.length_cons]
      omega
    · rw [List.length_cons, List.length_cons]
      omega
section
variable {P : Program} {w : World} {K : PySem.W.Frag} {mg : Str → Option Value} {base : Heap}
theorem scTrm : FnScope ["ordinal", "last", "index", "number"] ["ordinal"] (defScope sTrm) := ⟨rfl, rfl, rfl, by decide +kernel, rfl, by decide +kernel, by decide +kernel⟩
def spTrm (K : PySem.W.Frag) : Sp := fun vs H Q _ => ∃ (a : Addr) (zs : List Int), vs = [.ref a] ∧ SqT K H a (zs.map V.int) ∧ zs.length ≤ 1000 ∧ ∀ D H' us, Same H H' → H D = none → H' D = some (.lst us) → Prs H' us (terms zs) → Q (.ref D) H'
theorem ok_trm {f : Addr} {fd : FuncData} {k : Nat} (F : Fun K "_law_term_list" "_law_term_list" sTrm f fd) (ml : mg "len" = none) (me : mg "enumerate" = none) : FnOk P w K mg base CX0 (k + 1) f fd ["ordinal"] (spTrm K) := by
  refine F.ok scTrm (fun vs H Q E h => ?_) (fun cdv A outer s H vs Q E hr h => ?_)
  · obtain ⟨a, zs, rfl, _⟩ := h
    rfl
  · obtain ⟨a, zs, rfl, hT, hlen, q⟩ := h
    refine ⟨_, pss_cons (ps_set (i := 1) scTrm.nd rfl (.inr rfl) (pe_op op_sub (pe_callB call_len_seq (by rfl) ml PySem.boot_len (pa_cons (pv 0) pa_nil)) pe_int))
      (pss_one (ps_ret (pe_lc (own := [("index", 2), ("number", 3)]) (g := gTup K 2 (gCons (gName 2) (gCons (gName 3) gNil))) (by rfl) scTrm.nd (pi_enumT (by rfl) me (pa_cons (pv 0) pa_nil)) (blkOk_by (N := ["ordinal", "last", "index", "number"]) (sc := defScope sTrm) (by decide +kernel))
        (fun _ _ _ _ _ => pg_tup rfl (pgs_cons (pg_name (i := 2) scTrm.nd rfl (.inl rfl)) (pgs_cons (pg_name (i := 3) scTrm.nd rfl (.inl rfl)) pgs_nil)))
        (fun _ _ _ _ _ => pts_one (pt_cmpR op_ne (pv 3) pe_int (nomark _)))
        (fun _ _ _ _ _ => pe_tup (pa_cons (pe_op op_sub (pv 1) (pv 2)) (pa_cons (pv 3) pa_nil)))))), ?_⟩
    refine ⟨_, rfl, a, _, rfl, .inr hT, _, _, rfl, rfl, ?_⟩
    rw [List.length_map]
    refine ⟨_, rfl, a, _, rfl, hT, fun D nD => lc_enumT (K := K) (a := a) (xs := zs.map V.int) (fun i H' => ∃ us, Same H H' ∧ H' D = some (.lst us) ∧ Prs H' us (termsTo zs.length 0 (zs.take i))) ?_ ?_ ?_ ?_⟩
    · exact ⟨[], same_upd nD, upd_same, .nil⟩
    · rintro i H' _ ⟨us, sm, _⟩
      exact Same.seqT sm hT
    · rintro i x H1 T hx ⟨us, sm, hD, hp⟩ nT
      obtain ⟨z, hz, rfl⟩ := map_get hx
      have hi : i < zs.length := (List.getElem?_eq_some_iff.mp hz).1
      have hDT : D ≠ T := ne_of_none hD nT
      have etk : termsTo zs.length 0 (zs.take (i + 1)) = termsTo zs.length 0 (zs.take i) ++ termsTo zs.length i [z] := by
        rw [List.take_add_one, hz, termsTo_app, List.length_take, Nat.min_eq_left (by omega), Nat.zero_add]
        rfl
      refine ⟨T, _, rfl, .inl (.inl upd_same), rfl, _, _, rfl, _, _, rfl, rfl, rfl, _, rfl, rfl, _, rfl, ?_⟩
      have sT : Same H1 (L2.upd H1 T (.tup [.int (i : Nat), .int z])) := same_upd nT
      have hD2 : (L2.upd H1 T (.tup [.int (i : Nat), .int z])) D = some (.lst us) := sT _ _ hD
      refine ite2 (fun c => ?_) (fun c => ?_)
      · have hz0 : z ≠ 0 := fun e => by
          rw [e] at c
          revert c
          decide +kernel
        refine ⟨_, rfl, _, rfl, _, _, rfl, rfl, _, rfl, by show 2 ≤ sizeLine; decide, fun p np => ?_⟩
        have sp := same_upd (o := .tup [.int ((zs.length : Int) - 1 - i), .int z]) np
        have hD3 := sp _ _ hD2
        refine ⟨us, hD3, ?_, us ++ [.ref p], fun b o e => ?_, upd_same, ?_⟩
        · have h1 := Paired.length hp
          have h2 := termsTo_len zs.length (zs.take i) 0
          rw [List.length_take] at h2
          exact small1000 (by omega)
        · rw [upd_ne (ne_of_none e nD)]
          exact sp _ _ (sT _ _ (sm _ _ e))
        · refine Prs.upd ?_ hD3
          rw [etk]
          refine Paired.app ((hp.same sT).same sp) ?_
          unfold termsTo
          rw [if_neg hz0]
          exact .cons ⟨p, rfl, upd_same⟩ .nil
      · have hz0 : z = 0 := by
          by_cases e : z = 0
          · exact e
          · exact absurd (by
              rw [decide_eq_false (fun q => e (V.int.inj q))]
              rfl) c
        refine ⟨us, sm.trans sT, hD2, ?_⟩
        rw [etk]
        have e0 : termsTo zs.length i [z] = [] := by
          unfold termsTo
          rw [if_pos hz0]
          rfl
        rw [e0, List.append_nil]
        exact hp.same sT
    · rintro H1 ⟨us, sm, hD, hp⟩
      rw [List.length_map, List.take_length] at hp
      exact q D H1 us sm nD hD hp
end
section
variable {P : Program} {w : World} {K : PySem.W.Frag} {mg : Str → Option Value} {base : Heap}
/-- the same rules with the written part said, for blocks of comprehensions -/
def rLenK (K : PySem.W.Frag) : List V → Hp → VK → Prop := fun xs H Q => ∃ p ys, xs = [.ref p] ∧ (SqL K H p ys ∨ SqT K H p ys) ∧ Q (.int ys.length) H
theorem len_K {X : Cx} (h : X.K = K) : CallR X (.builtin "len") (rLenK K) := by
  subst h
  exact call_len_seq
theorem cat_K {X : Cx} (h : X.K = K) : OpR X (binaryOp .Add) (rCatU K) := by
  subst h
  exact op_catU
theorem rep_K {X : Cx} (h : X.K = K) : OpR X (binaryOp .Mult) (rRepU K) := by
  subst h
  exact op_repU
end
/-! ### what is shown -/
theorem log_small {z : Int} (h : z.natAbs < 2 ^ 200) : z.natAbs.log2 < 1920 := by
  by_cases h0 : z.natAbs = 0
  · rw [h0]
    decide
  · have := (Nat.log2_lt h0).mpr h
    omega
theorem int_len {z : Int} (h : z.natAbs < 2 ^ 200) : (PyData.shown (.int z)).length ≤ 2000 := by
  have e : (PyData.shown (.int z)) = Str.ofString (toString z) := by simp [PyData.shown]
  rw [e]
  have h1 := int_text_length_le (a := z) (k := 1920) (by decide) (log_small h)
  rw [PySem.ofString_length]
  omega
theorem Shn.int {z : Int} (h : z.natAbs < 2 ^ 200) : Shn (.int z) := by
  refine ⟨?_, by simp [PyData.hasDict], by simp [PyData.depth], ?_⟩
  · simpa [PyData.showable] using log_small h
  · have := int_len h
    exact Nat.le_of_lt (Nat.lt_of_le_of_lt this (by decide))
theorem ints_sh : ∀ zs : List Int, (∀ z ∈ zs, z.natAbs < 2 ^ 200) → PyData.showableAll (zs.map PyData.int) = true ∧ PyData.hasDictAll (zs.map PyData.int) = false ∧ (PyData.shownAll (zs.map PyData.int)).length = zs.length ∧ piled (PyData.shownAll (zs.map PyData.int)) ≤ 2002 * zs.length
  | [], _ => by simp [PyData.showableAll, PyData.hasDictAll, PyData.shownAll, piled]
  | z :: r, h => by
    obtain ⟨h1, h2, h3, h4⟩ := ints_sh r fun y hy => h y (List.mem_cons_of_mem _ hy)
    have hz := h z (List.mem_cons_self ..)
    have h5 := int_len hz
    rw [List.map_cons]
    refine ⟨?_, ?_, ?_, ?_⟩
    · rw [PyData.showableAll, h1, (Shn.int hz).sh]
      rfl
    · rw [PyData.hasDictAll, h2, (Shn.int hz).nd]
      rfl
    · rw [PyData.shownAll, List.length_cons, List.length_cons, h3]
    · rw [PyData.shownAll, piled_cons, List.length_cons]
      omega
theorem Shn.tup {zs : List Int} (h : ∀ z ∈ zs, z.natAbs < 2 ^ 200) (hl : zs.length ≤ 1000) : Shn (.tuple (zs.map PyData.int)) := by
  obtain ⟨h1, h2, h3, h4⟩ := ints_sh zs h
  refine ⟨by rw [PyData.showable, h1], by rw [PyData.hasDict, h2], ?_, ?_⟩
  · rw [PyData.depth, depth_ints]
    decide
  · rw [PyData.shown]
    have h5 := PySem.fmt_text (PyData.shownAll (zs.map PyData.int))
    rw [sizeLine_eq]
    omega
/-! ### the order -/
structure NZ (zs : List Int) : Prop where
  nn : ∀ z ∈ zs, 0 ≤ z
  hd : zs.head? ≠ some 0

/-! what is shown, and how long it is -/
structure Sd (d : PyData) (k n : Nat) : Prop where
  sh : d.showable = true
  nd : d.hasDict = false
  dp : d.depth ≤ k
  sz : d.shown.length ≤ n
structure SdA (ds : List PyData) (k n : Nat) : Prop where
  sh : PyData.showableAll ds = true
  nd : PyData.hasDictAll ds = false
  dp : PyData.depthAll ds ≤ k
  sz : ((PyData.shownAll ds).map (·.length)).sum + 2 * (PyData.shownAll ds).length ≤ n
theorem Sd.shn {d : PyData} {k n : Nat} (h : Sd d k n) (hk : k ≤ 60) (hn : n ≤ 10000000) : Shn d := ⟨h.sh, h.nd, Nat.le_trans h.dp hk, Nat.le_trans h.sz (Nat.le_trans hn (by rw [sizeLine_eq]; decide))⟩
theorem Sd.mono {d : PyData} {k n k' n' : Nat} (h : Sd d k n) (hk : k ≤ k') (hn : n ≤ n') : Sd d k' n' := ⟨h.sh, h.nd, Nat.le_trans h.dp hk, Nat.le_trans h.sz hn⟩
theorem SdA.mono {d : List PyData} {k n k' n' : Nat} (h : SdA d k n) (hk : k ≤ k') (hn : n ≤ n') : SdA d k' n' := ⟨h.sh, h.nd, Nat.le_trans h.dp hk, Nat.le_trans h.sz hn⟩
theorem Sd.lst {ds : List PyData} {k n : Nat} (h : SdA ds k n) : Sd (.list ds) (k + 1) (n + 3) := by
  refine ⟨by rw [PyData.showable, h.sh], by rw [PyData.hasDict, h.nd], ?_, ?_⟩
  · rw [PyData.depth]
    have := h.dp
    omega
  · rw [PyData.shown]
    have h1 := listText_len_le (PyData.shownAll ds)
    have h2 := h.sz
    omega
theorem Sd.tup {ds : List PyData} {k n : Nat} (h : SdA ds k n) : Sd (.tuple ds) (k + 1) (n + 3) := by
  refine ⟨by rw [PyData.showable, h.sh], by rw [PyData.hasDict, h.nd], ?_, ?_⟩
  · rw [PyData.depth]
    have := h.dp
    omega
  · rw [PyData.shown]
    have h1 := tupleText_len_le (PyData.shownAll ds)
    have h2 := h.sz
    omega
theorem SdA.nil {k n : Nat} : SdA [] k n := ⟨rfl, rfl, Nat.zero_le _, Nat.zero_le _⟩
theorem SdA.cons {d : PyData} {ds : List PyData} {k a b : Nat} (h : Sd d k a) (r : SdA ds k b) : SdA (d :: ds) k (a + b + 2) := by
  refine ⟨by rw [PyData.showableAll, h.sh, r.sh]; rfl, by rw [PyData.hasDictAll, h.nd, r.nd]; rfl, ?_, ?_⟩
  · rw [PyData.depthAll]
    exact Nat.max_le.mpr ⟨h.dp, r.dp⟩
  · rw [PyData.shownAll, List.map_cons, List.sum_cons, List.length_cons]
    have h1 := h.sz
    have h2 := r.sz
    omega
theorem Sd.int {z : Int} {k : Nat} (h : z.natAbs < 2 ^ 200) : Sd (.int z) k 2000 := ⟨(Shn.int h).sh, rfl, Nat.zero_le _, int_len h⟩
theorem Sd.bool {b : Bool} {k : Nat} : Sd (.bool b) k 5 := ⟨rfl, rfl, Nat.zero_le _, by cases b <;> decide +kernel⟩
theorem Sd.none {k : Nat} : Sd .none k 4 := ⟨rfl, rfl, Nat.zero_le _, by decide +kernel⟩
theorem Sd.str {x : Str} {k n : Nat} (h : (reprText x).length ≤ n) : Sd (.str x) k n := ⟨rfl, rfl, Nat.zero_le _, h⟩

/-! ### the end of a law whose def leans on: no repr is under way -/
section
variable {P : Program} {w : World} {K : PySem.W.Frag} {mg mb : Str → Option Value} {k : Nat} {fa a : Addr} {fd : FuncData} {x : Str} {sp : Sp} {st : Shared} {us : List Value} {ns : List Int}
abbrev scrO (us : List Value) : Obj := { cls := .type "list", data := .seq us.toArray }
abbrev Good (st : Shared) (r : Result) (s' : Shared) : Prop := r = .ok (.ret (.bool true)) ∧ OldK st.heap s'.heap ∧ s'.os = st.os ∧ AllBare s'.gens
theorem law_at (KX : K.In st.heap) (n1 : st.heap.Ns mainGlobals mg) (n2 : st.heap.Ns builtinsNs mb) (n3 : ∀ x : Str, x ≠ "__name__" → mb x = bootBuiltins x) (n4 : st.heap.NoLimit) (hg : st.gens = #[])
    (ha : st.heap.get? a = some (scrO us)) (hr : Room k callerA) (F : ∀ b : Heap, K.In b → b.Ns mainGlobals mg → FnG P w K mg b k fa fd [x] sp) (hb : ∀ (s : Shared) (u : Value), BindsTo s fd ⟨[u], []⟩ [(x, u)])
    {H : Hp} (hO : Only H) (hsp : sp [.ref a] H (fun v _ => v = .bl true) fun _ _ _ => False) (hok : HOk P w H st.heap) (hA : ∀ b, H b ≠ none → b = a) (hK : H a ≠ none → K.lookup a = none) :
    codeAny (model P w) callerA (.call (.ref fa) ⟨[.ref a], []⟩) (Good st) st := by
  have hid : ∀ {b : Addr} {o : Obj}, st.heap.get? b = some o → H b = none → (hidT st.heap H).get? b = some o := fun e n => hidT_get e n
  have nodict : ∀ {b : Addr} {o : Obj} {es : Array DictEntry} {m : Nat}, st.heap.get? b = some o → o.data = .dict es m → H b = none := by
    intro b o es m e d
    by_cases q : H b = none
    · exact q
    · rw [hA b q, ha] at e
      cases e
      have d' : Data.seq us.toArray _ = Data.dict es m := d
      cases d'
  have nsOf : ∀ {b : Addr} {m : Str → Option Value}, st.heap.Ns b m → (hidT st.heap H).Ns b m := by
    rintro b m ⟨o, es, ep, e, d, r⟩
    exact ⟨o, es, ep, hid e (nodict e d), d, r⟩
  have KB : K.In (hidT st.heap H) := by
    intro b o e
    refine hid (KX b o e) ?_
    by_cases q : H b = none
    · exact q
    · have eb := hA b q
      rw [eb] at e q
      rw [hK q] at e
      cases e
  obtain ⟨mc, l1, l2⟩ := n4
  have MB : Mod K mg (hidT st.heap H) := ⟨KB, nsOf n1, ⟨mb, nsOf n2, n3⟩, ⟨mc, nsOf l1, l2⟩⟩
  have ev : Env0 P w K mg (hidT st.heap H) callerA [] st H := by
    refine ⟨rfl, MB, fun b o e => of_hidT e, Nat.le_of_eq (hidT_size _ _), trivial, fun b z => ?_, hok, .of_eq hg⟩
    exact absurd (show b ∈ ([] : List Addr) from z) List.not_mem_nil
  refine codeAny_mono ((F _ KB (nsOf n1)).go callerA [] st H ⟨[.ref a], []⟩ [.ref a] [.ref a] _ _ rfl hr ev (hb st (.ref a)) (.cons rfl .nil) hsp) fun r s' h => ?_
  match r, h with
  | .error _, h => exact False.elim h
  | .ok .next, h => exact False.elim h
  | .ok .brk, h => exact False.elim h
  | .ok .cont, h => exact False.elim h
  | .ok (.ret u), h =>
    obtain ⟨v, H', os, bare, un, hok', rv, qv⟩ := h
    have qv : v = .bl true := qv
    subst qv
    obtain rfl : u = Value.bool true := rv
    refine ⟨rfl, OldK.of_keep fun b o e => ?_, os, bare⟩
    rcases hO b with z | ⟨ob, xs, z⟩
    · exact un.keep b o e z (fun z => absurd (show b ∈ ([] : List Addr) from z) List.not_mem_nil) List.not_mem_nil
    · have e1 := (hok b _ z).1
      have e2 := (hok' b _ (un.frzs b ob _ z)).1
      rw [e] at e1
      cases e1
      exact e2
theorem law_g (KX : K.In st.heap) (n1 : st.heap.Ns mainGlobals mg) (n2 : st.heap.Ns builtinsNs mb) (n3 : ∀ x : Str, x ≠ "__name__" → mb x = bootBuiltins x) (n4 : st.heap.NoLimit) (hg : st.gens = #[])
    (ha : st.heap.get? a = some (scrO us)) (hi : IntsAre us ns) (hl : ns.length ≤ sizeLine) (hr : Room k callerA) (F : ∀ b : Heap, K.In b → b.Ns mainGlobals mg → FnG P w K mg b k fa fd [x] sp) (hb : ∀ (s : Shared) (u : Value), BindsTo s fd ⟨[u], []⟩ [(x, u)])
    (hsp : ∀ H : Hp, Only H → SqL K H a (ns.map V.int) → sp [.ref a] H (fun v _ => v = .bl true) fun _ _ _ => False) :
    codeAny (model P w) callerA (.call (.ref fa) ⟨[.ref a], []⟩) (Good st) st := by
  have vi := vals_ints hi
  cases hk : K.lookup a with
  | some o =>
    have e := KX a o hk
    rw [ha] at e
    cases e
    have hS : SqL K (fun _ => none) a (ns.map V.int) := .inr ⟨_, us.toArray, _, hk, rfl, rfl, rfl, by rw [List.size_toArray, hi.length]; exact hl, by simpa using vi⟩
    exact law_at KX n1 n2 n3 n4 hg ha hr F hb (H := fun _ => none) (fun _ => .inl rfl) (hsp _ (fun _ => .inl rfl) hS) (fun b u z => by cases (show (none : Option HO) = some u from z)) (fun b z => absurd rfl z) (fun z => absurd rfl z)
  | none =>
    let H : Hp := fun b => if b = a then some (.frz (scrO us) (.lst (ns.map V.int))) else none
    have h1 : H a = some (.frz (scrO us) (.lst (ns.map V.int))) := if_pos rfl
    have h2 : ∀ b, b ≠ a → H b = none := fun b z => if_neg z
    have hO : Only H := fun b => by
      by_cases z : b = a
      · exact .inr ⟨_, _, by rw [z]; exact h1⟩
      · exact .inl (h2 b z)
    refine law_at KX n1 n2 n3 n4 hg ha hr F hb hO (hsp H hO (.inl (.inr ⟨_, h1⟩))) (fun b u z => ?_) (fun b z => ?_) fun _ => hk
    · by_cases e : b = a
      · subst e
        rw [h1] at z
        cases z
        exact ⟨ha, by rw [List.length_map]; exact hl, us, _, vi, ha⟩
      · rw [h2 b e] at z
        cases z
    · by_cases e : b = a
      · exact e
      · exact absurd (h2 b e) z
end
theorem walk_g {l : PySem.W.OpenLaw} {n k : Nat} {q : Program} {loose : List Str} {XP : (Str → Option Value) → Heap → Prop} {YP : World → Heap → Prop} {d : DefRec} {K : Params → PySem.W.Frag} {sp : PySem.W.Frag → Sp} {x : Str}
    (hn : l.most = some n) (hz : n ≤ sizeLine) (hdf : d.params.defaults = []) (hr : Room k callerA) (hY : ∀ (w : World) (h : Heap), YP w h → (K w.params).In h)
    (F : ∀ (w : World) (mg : Str → Option Value) (fa : Addr) (h : Heap), (K w.params).In h → h.Ns mainGlobals mg → mg d.name = some (.ref fa) →
      ∃ fd : FuncData, (∀ (s : Shared) (u : Value), BindsTo s fd ⟨[u], []⟩ [(x, u)]) ∧ ∀ b : Heap, (K w.params).In b → b.Ns mainGlobals mg → FnG l.prog w (K w.params) mg b k fa fd [x] (sp (K w.params)))
    (hsp : ∀ (K : PySem.W.Frag) (H : Hp) (a : Addr) (ns : List Int), ns.length ≤ n → Only H → SqL K H a (ns.map V.int) → sp K [.ref a] H (fun v _ => v = .bl true) fun _ _ _ => False) :
    PySem.W.WalkO q loose XP YP l.row.toRowW d [] (fun f vs => PySem.call f vs) := by
  refine Att.attach_call hn hdf fun w s0 s1 mg mb fa o pm cd doc a vs ns G Y ho hd hcd hmg hobj hints hlen hg => ?_
  have KX := hY w _ Y
  obtain ⟨fd, hb, hF⟩ := F w mg fa _ KX G.T.g hmg
  exact law_g KX G.T.g G.T.b G.T.builtins G.T.nolimit hg hobj hints (Nat.le_trans hlen hz) hr hF hb fun H hO hS => hsp _ H a ns hlen hO hS
/-- a test, then a word between it and what follows -/
theorem pt_cut {X : Cx} {e : Expr} {t : TT} (h : PT X e t) : PT X e (fun σ H Q => ∃ R : Bool → Hp → Prop, t σ H R ∧ ∀ b H', R b H' → Q b H') := by
  refine ⟨fun pins s σ H Q I q => ?_⟩
  obtain ⟨R, hR, hQ⟩ := q
  exact thn (h.run pins s σ H R I hR) fun b s1 ⟨H1, I1, r⟩ => ⟨H1, I1, hQ b H1 r⟩

section
variable {P : Program} {w : World} {K : PySem.W.Frag} {mg : Str → Option Value} {base : Heap}
def prD (p : Int × Int) : PyData := .tuple [.int p.1, .int p.2]
theorem dp_prs {H : Hp} : ∀ {us : List V} {ps : List (Int × Int)}, Prs H us ps → DpAll K H us (ps.map prD)
  | _, _, .nil => .nil
  | _, _, .cons ⟨a, e, h⟩ rs => by
    subst e
    exact .cons (.tup (.inl (.inl h)) (.cons (.int _) (.cons (.int _) .nil))) (dp_prs rs)
theorem lay_prs : ∀ ps : List (Int × Int), PyData.canLayAll0 (ps.map prD) = true ∧ PyData.depthAll (ps.map prD) ≤ 1
  | [] => by simp [PyData.canLayAll0, PyData.depthAll]
  | p :: r => by
    have ih := lay_prs r
    have := ih.2
    simp [PyData.canLayAll0, PyData.canLay0, PyData.depthAll, PyData.depth, prD, ih.1]
    omega
theorem shaped_prs (ps : List (Int × Int)) : SeqAt.shaped (.list (ps.map prD)) = true := by
  have ⟨h1, h2⟩ := lay_prs ps
  unfold SeqAt.shaped
  simp [PyData.canLay0, PyData.depth, h1]
  omega
theorem eqv_nil (ds : List PyData) : PyData.eqv (.list ds) (.list []) = decide (ds = []) := by
  cases ds with
  | nil => simp [PyData.eqv, PyData.eqvAll]
  | cons d r => simp [PyData.eqv, PyData.eqvAll]
/-! ### from terms -/
def frStep (l : List Int) (p : Int × Int) : List Int := l.set (l.length - 1 - p.1.toNat) p.2
def frT (ps : List (Int × Int)) : List Int := match ps with
  | [] => []
  | p :: r => (p :: r).foldl frStep (List.replicate (p.1.toNat + 1) 0)
theorem fr_len : ∀ (ps : List (Int × Int)) (l : List Int), (ps.foldl frStep l).length = l.length
  | [], _ => rfl
  | p :: r, l => by
    rw [List.foldl_cons, fr_len r]
    exact List.length_set
theorem scFrm : FnScope ["terms", "found", "exponent", "number"] ["terms"] (defScope sFrm) := ⟨rfl, rfl, rfl, by decide +kernel, rfl, by decide +kernel, by decide +kernel⟩
structure FrOk (ps : List (Int × Int)) : Prop where
  lo : ∀ p ∈ ps, 0 ≤ p.1
  hi : ∀ p ∈ ps, ∀ e ∈ ps.head?, p.1 ≤ e.1
  mx : ∀ p ∈ ps, p.1 ≤ 900
def spFrm (K : PySem.W.Frag) : Sp := fun vs H Q _ => ∃ (a : Addr) (us : List V) (ps : List (Int × Int)), vs = [.ref a] ∧ H a = some (.lst us) ∧ Prs H us ps ∧ FrOk ps ∧ ∀ p H', Same H H' → SqT K H' p ((frT ps).map V.int) → Q (.ref p) H'
theorem Paired.at {α β : Type} {R : α → β → Prop} : ∀ {xs : List α} {ys : List β} {i : Nat} {x : α}, Paired R xs ys → xs[i]? = some x → ∃ y, ys[i]? = some y ∧ R x y
  | _, _, i, x, .nil, h => by simp at h
  | _, _, 0, x, .cons r rs, h => by
    have e := Option.some.inj h
    subst e
    exact ⟨_, rfl, r⟩
  | _, _, i + 1, x, .cons r rs, h => Paired.at (i := i) rs h
theorem ok_frm {f : Addr} {fd : FuncData} {k : Nat} (F : Fun K "_law_from_terms" "_law_from_terms" sFrm f fd) (ml : mg "len" = none) (mt : mg "tuple" = none) : FnOk P w K mg base CX0 (k + 1) f fd ["terms"] (spFrm K) := by
  refine F.ok scFrm (fun vs H Q E h => ?_) (fun cdv A outer s H vs Q E hr h => ?_)
  · obtain ⟨a, us, ps, rfl, _⟩ := h
    rfl
  · obtain ⟨a, us, ps, rfl, ha, hp, hok, q⟩ := h
    refine ⟨_, pss_cons (ps_if (pt_cmpR (op_eqD hr.units) (pv 0) (pe_lst pa_nil) (nomark _)) (pss_one (ps_ret (pe_tup pa_nil))) pss_nil)
      (pss_cons (ps_set (i := 1) scFrm.nd rfl (.inl rfl) (pe_op op_rep (pe_lst (pa_cons pe_int pa_nil)) (pe_op op_add (pe_ix ix_tup (pe_ix ix_list (pv 0) pe_int (fun _ _ => rfl)) pe_int (fun _ _ => rfl)) pe_int)))
      (pss_cons (ps_for PassesOwn.never rfl (pi_list (pv 0)) (pg_tup rfl (pgs_cons (pg_name (i := 2) scFrm.nd rfl (.inl rfl)) (pgs_cons (pg_name (i := 3) scFrm.nd rfl (.inl rfl)) pgs_nil)))
        (pss_one (ps_asg (pv 3) (pg_sub (pv 1) (pe_op op_sub (pe_op op_sub (pe_callB call_len_seq (by rfl) ml PySem.boot_len (pa_cons (pv 1) pa_nil)) pe_int) (pv 2)) set_list))))
      (pss_one (ps_ret (pe_callTy call_tuple_of (by rfl) mt (by decide +kernel) (pa_cons (pv 1) pa_nil)))))), ?_⟩
    refine ⟨_, rfl, Nat.zero_le _, fun p0 np0 => ?_⟩
    have s0 := same_upd (o := .lst []) np0
    have ha0 := s0 _ _ ha
    refine ⟨.list (ps.map prD), .list [], .lst (.inl (.inl ha0)) (dp_prs (hp.same s0)), .lst (.inl (.inl upd_same)) .nil, shaped_prs ps, shaped_prs [], _, rfl, ?_⟩
    rw [eqv_nil]
    refine ite2 (fun c => ?_) (fun c => ?_)
    · have e : ps = [] := by simpa using c
      subst e
      refine ⟨Nat.zero_le _, fun p np => q p _ (s0.trans (same_upd np)) (.inl (.inl ?_))⟩
      rw [upd_same]
      rfl
    · have e : ps ≠ [] := by simpa using c
      obtain ⟨⟨e0, c0⟩, r, rfl⟩ : ∃ p r, ps = p :: r := by
        cases ps with
        | nil => exact absurd rfl e
        | cons p r => exact ⟨p, r, rfl⟩
      obtain ⟨t0, us', hu, ht0⟩ : ∃ (t0 : Addr) (us' : List V), us = .ref t0 :: us' ∧ H t0 = some (.tup [.int e0, .int c0]) := by
        cases hp with
        | cons r1 _ =>
          obtain ⟨a', e', h'⟩ := r1
          exact ⟨a', _, by rw [e'], h'⟩
      have le0 : 0 ≤ e0 := hok.lo _ (List.mem_cons_self ..)
      have he0 : e0 ≤ 900 := hok.mx _ (List.mem_cons_self ..)
      subst hu
      refine ⟨by show 1 ≤ sizeLine; decide, fun p1 np1 => ?_⟩
      have s1 := s0.trans (same_upd (o := .lst [.int 0]) np1)
      have ha1 := s1 _ _ ha
      have ht1 := s1 _ _ ht0
      refine ⟨_, rfl, a, _, 0, _, rfl, rfl, .inl (.inl ha1), atI_nat (j := 0) rfl, t0, _, 0, _, rfl, rfl, .inl (.inl ht1), atI_nat (j := 0) rfl, _, _, rfl, rfl, ?_⟩
      have hsz : (1 : Nat) * (e0 + 1).toNat ≤ sizeLine := Nat.le_of_lt (small1000 (by omega))
      refine ⟨p1, e0 + 1, _, rfl, rfl, upd_same, by omega, by omega, hsz, fun l hl => ?_⟩
      have hlH : H l = none := s1.free hl
      have s2 := s1.trans (same_upd (o := .lst (List.replicate (e0 + 1).toNat [V.int 0]).flatten) hl)
      refine ⟨_, rfl, a, rfl, ⟨_, .inl (.inl (s2 _ _ ha))⟩, for_list (K := K) (a := a) (xs := .ref t0 :: us')
        (fun i σ H' => ∃ (y2 y3 : Option V) (zs : List Int), σ = [some (.ref a), some (.ref l), y2, y3] ∧ Same H H' ∧ H' l = some (.lst (zs.map V.int)) ∧ zs.length = e0.toNat + 1 ∧ zs = (((e0, c0) :: r).take i).foldl frStep (List.replicate (e0.toNat + 1) 0)) ?_ ?_ ?_ ?_⟩
      · refine ⟨none, none, List.replicate (e0.toNat + 1) 0, rfl, s2, ?_, List.length_replicate, rfl⟩
        rw [upd_same, flat_one, show (e0 + 1).toNat = e0.toNat + 1 by omega]
      · rintro i σ H' _ ⟨_, _, _, _, sm, _⟩
        exact .inl (.inl (sm _ _ ha))
      · rintro i x σ H' hx ⟨y2, y3, zs, rfl, sm, hl', hz, ez⟩
        obtain ⟨⟨e1, c1⟩, hy, T, rfl, hT⟩ := Paired.at hp hx
        have hm := List.mem_of_getElem? hy
        have l1 : 0 ≤ e1 := hok.lo _ hm
        have l2 : e1 ≤ e0 := hok.hi _ hm (e0, c0) rfl
        have ej : ((zs.length : Int) - 1 - e1) = ((zs.length - 1 - e1.toNat : Nat) : Int) := by omega
        refine ⟨T, _, rfl, .inl (.inl (sm _ _ hT)), rfl, _, _, rfl, _, _, rfl, rfl, ?_⟩
        refine ⟨_, rfl, _, rfl, _, rfl, l, _, rfl, .inl (.inl (.inl hl')), _, _, rfl, rfl, _, rfl, _, _, rfl, rfl, l, _, _, zs.length - 1 - e1.toNat, rfl, rfl, hl', ?_, ?_⟩
        · rw [List.length_map, ej]
          exact Evl.ixN_nat (by omega)
        · refine ⟨_, _, frStep zs (e1, c1), rfl, fun b o e => ?_, ?_, ?_, ?_⟩
          · rw [upd_ne (ne_of_none e hlH)]
            exact sm _ _ e
          · rw [upd_same]
            unfold frStep
            rw [List.map_set]
          · unfold frStep
            rw [List.length_set]
            exact hz
          · rw [List.take_add_one, hy, List.foldl_append, ← ez]
            rfl
      · rintro σ H' ⟨y2, y3, zs, rfl, sm, hl', hz, ez⟩
        have hlen : (V.ref t0 :: us').length = ((e0, c0) :: r).length := Paired.length hp
        rw [hlen, List.take_length] at ez
        refine ⟨_, rfl, l, _, rfl, .inl ⟨.inl (.inl hl'), fun p np => q p _ (sm.trans (same_upd np)) (.inl (.inl ?_))⟩⟩
        rw [upd_same, ez]
        rfl
end
/-! ### sums and products of coefficient lists -/
def zer (n : Nat) : List Int := List.replicate n 0
/-- the program's sum -/
def addP (xs ys : List Int) : List Int := if ys = [] then xs else if xs.length < ys.length then ys else xs.take (xs.length - ys.length) ++ (xs.getD (xs.length - ys.length) 0 + ys.headD 0) :: ys.tail
/-- the program's product -/
def mulP (xs ys : List Int) : List Int := if xs = [] ∨ ys = [] then [] else if ys.getLastD 0 = 0 then ys.dropLast ++ zer xs.length else ys.dropLast ++ (xs.headD 0 * ys.getLastD 0) :: xs.tail
/-- the law's sum: of terms -/
def addT (xs ys : List Int) : List Int := match terms ys with
  | [] => xs
  | (e, c) :: r => frT (((terms xs).filter fun p => decide (p.1 > e)) ++ [(e, c + (((terms xs).filter fun p => decide (p.1 = e)).map (·.2)).sum)] ++ r)
theorem set_mid (xs ys : List Int) (z u : Int) : (xs ++ u :: ys).set xs.length z = xs ++ z :: ys := by
  induction xs with
  | nil => rfl
  | cons x r ih =>
    show x :: (r ++ u :: ys).set r.length z = x :: (r ++ z :: ys)
    rw [ih]
/-- the terms of zs, at place i of n, laid over zeros -/
theorem fold_terms (n : Nat) : ∀ (zs pre post : List Int) (i : Nat), pre.length = i → i + zs.length + post.length = n → (termsTo n i zs).foldl frStep (pre ++ zer zs.length ++ post) = pre ++ zs ++ post
  | [], pre, post, i, _, _ => rfl
  | z :: r, pre, post, i, h1, h2 => by
    rw [List.length_cons] at h2
    have e0 : pre ++ zer (z :: r).length ++ post = (pre ++ [0]) ++ zer r.length ++ post := by
      show pre ++ (0 :: zer r.length) ++ post = _
      simp
    unfold termsTo
    by_cases hz : z = 0
    · rw [if_pos hz, e0, fold_terms n r (pre ++ [0]) post (i + 1) (by rw [List.length_append, h1]; rfl) (by omega), hz]
      simp
    · rw [if_neg hz, List.foldl_cons]
      have e1 : frStep (pre ++ zer (z :: r).length ++ post) ((n : Int) - 1 - i, z) = (pre ++ [z]) ++ zer r.length ++ post := by
        unfold frStep
        have hl : (pre ++ zer (z :: r).length ++ post).length = n := by
          rw [List.length_append, List.length_append, h1]
          unfold zer
          rw [List.length_replicate, List.length_cons]
          omega
        rw [hl]
        have e2 : n - 1 - ((n : Int) - 1 - i).toNat = pre.length := by omega
        show List.set _ (n - 1 - ((n : Int) - 1 - i).toNat) z = _
        rw [e2]
        have e3 : pre ++ zer (z :: r).length ++ post = pre ++ 0 :: (zer r.length ++ post) := by
          show pre ++ (0 :: zer r.length) ++ post = _
          simp
        rw [e3, set_mid]
        simp
      rw [e1, fold_terms n r (pre ++ [z]) post (i + 1) (by rw [List.length_append, h1]; rfl) (by omega)]
      simp
theorem terms_shift (n m i j : Nat) (h : (n : Int) - i = (m : Int) - j) : ∀ zs : List Int, ∀ k : Nat, termsTo n (i + k) zs = termsTo m (j + k) zs
  | [], k => rfl
  | z :: r, k => by
    unfold termsTo
    have e1 := terms_shift n m i j h r (k + 1)
    rw [show i + k + 1 = i + (k + 1) from rfl, show j + k + 1 = j + (k + 1) from rfl, e1]
    have e2 : (n : Int) - 1 - (i + k : Nat) = (m : Int) - 1 - (j + k : Nat) := by omega
    rw [e2]
theorem terms_fst (n : Nat) : ∀ (zs : List Int) (i : Nat) (p : Int × Int), p ∈ termsTo n i zs → (n : Int) - 1 - i ≥ p.1 ∧ p.1 > (n : Int) - 1 - i - zs.length ∧ p.2 ∈ zs ∧ p.2 ≠ 0
  | [], i, p, h => by cases h
  | z :: r, i, p, h => by
    unfold termsTo at h
    rw [List.length_cons]
    split at h
    · obtain ⟨h1, h2, h3, h4⟩ := terms_fst n r (i + 1) p h
      exact ⟨by omega, by omega, List.mem_cons_of_mem _ h3, h4⟩
    · rename_i hz
      rcases List.mem_cons.mp h with e | h
      · rw [e]
        exact ⟨Int.le_refl _, by show (n : Int) - 1 - i > _; omega, List.mem_cons_self .., hz⟩
      · obtain ⟨h1, h2, h3, h4⟩ := terms_fst n r (i + 1) p h
        exact ⟨by omega, by omega, List.mem_cons_of_mem _ h3, h4⟩
theorem filter_all {α : Type} {f : α → Bool} {l : List α} (h : ∀ x ∈ l, f x = true) : l.filter f = l := List.filter_eq_self.mpr h
theorem filter_none {α : Type} {f : α → Bool} {l : List α} (h : ∀ x ∈ l, f x = false) : l.filter f = [] := List.filter_eq_nil_iff.mpr fun x hx => by rw [h x hx]; decide
/-- a list with a first coefficient that is not 0: its first term -/
theorem terms_cons {z : Int} {r : List Int} (hz : z ≠ 0) : terms (z :: r) = ((r.length : Int), z) :: termsTo (r.length + 1) 1 r := by
  show (if z = 0 then termsTo (z :: r).length (0 + 1) r else (((z :: r).length : Int) - 1 - (0 : Nat), z) :: termsTo (z :: r).length (0 + 1) r) = _
  rw [if_neg hz, List.length_cons, show ((r.length + 1 : Nat) : Int) - 1 - (0 : Nat) = r.length by omega]
/-- terms laid out again: hi, one written place, the rest -/
theorem frT_join {n : Nat} {hi r : List Int} {c : Int} (hn : n = hi.length + 1 + r.length) (hh : hi = [] ∨ ∃ z t, hi = z :: t ∧ z ≠ 0) :
    frT (termsTo n 0 hi ++ [((r.length : Int), c)] ++ termsTo (r.length + 1) 1 r) = hi ++ c :: r := by
  have sh : termsTo (r.length + 1) 1 r = termsTo n (hi.length + 1) r := terms_shift (r.length + 1) n 1 (hi.length + 1) (by omega) r 0
  rw [sh]
  have key : (termsTo n 0 hi ++ [((r.length : Int), c)] ++ termsTo n (hi.length + 1) r).foldl frStep (zer n) = hi ++ c :: r := by
    rw [List.foldl_append, List.foldl_append]
    have z1 : zer n = [] ++ zer hi.length ++ zer (1 + r.length) := by
      unfold zer
      rw [List.nil_append, List.replicate_append_replicate]
      congr 1
      omega
    rw [z1, fold_terms n hi [] (zer (1 + r.length)) 0 rfl (by unfold zer; rw [List.length_replicate]; omega)]
    have z2 : zer (1 + r.length) = 0 :: zer r.length := by
      unfold zer
      rw [Nat.add_comm, List.replicate_succ]
    rw [List.nil_append, z2]
    show (termsTo n (hi.length + 1) r).foldl frStep (frStep (hi ++ 0 :: zer r.length) ((r.length : Int), c)) = _
    have e1 : frStep (hi ++ 0 :: zer r.length) ((r.length : Int), c) = (hi ++ [c]) ++ zer r.length ++ [] := by
      unfold frStep
      have hl : (hi ++ 0 :: zer r.length).length = n := by
        rw [List.length_append, List.length_cons]
        unfold zer
        rw [List.length_replicate]
        omega
      rw [hl]
      show List.set _ (n - 1 - ((r.length : Nat) : Int).toNat) c = _
      have e2 : n - 1 - ((r.length : Nat) : Int).toNat = hi.length := by omega
      rw [e2, set_mid]
      simp
    rw [e1, fold_terms n r (hi ++ [c]) [] (hi.length + 1) (by rw [List.length_append]; rfl) (by simp; omega)]
    simp
  rcases hh with e | ⟨z, t, e, hz⟩
  · subst e
    rw [List.length_nil] at hn
    rw [← key]
    show (((r.length : Int), c) :: termsTo n (0 + 1) r).foldl frStep (List.replicate (((r.length : Nat) : Int).toNat + 1) 0) = (((r.length : Int), c) :: termsTo n (0 + 1) r).foldl frStep (zer n)
    rw [show ((r.length : Nat) : Int).toNat + 1 = n by omega]
    rfl
  · subst e
    rw [← key]
    have e1 : termsTo n 0 (z :: t) = ((n : Int) - 1 - (0 : Nat), z) :: termsTo n 1 t := if_neg hz
    rw [e1]
    show (((n : Int) - 1 - (0 : Nat), z) :: (termsTo n 1 t ++ [((r.length : Int), c)] ++ termsTo n ((z :: t).length + 1) r)).foldl frStep (List.replicate (((n : Int) - 1 - (0 : Nat)).toNat + 1) 0) = (((n : Int) - 1 - (0 : Nat), z) :: (termsTo n 1 t ++ [((r.length : Int), c)] ++ termsTo n ((z :: t).length + 1) r)).foldl frStep (zer n)
    rw [List.length_cons] at hn
    rw [show ((n : Int) - 1 - (0 : Nat)).toNat + 1 = n by omega]
    rfl
theorem hd_cases {zs : List Int} (h : zs.head? ≠ some 0) : zs = [] ∨ ∃ z t, zs = z :: t ∧ z ≠ 0 := by
  cases zs with
  | nil => exact .inl rfl
  | cons z t => exact .inr ⟨z, t, rfl, fun e => h (by rw [e]; rfl)⟩
theorem frT_terms {zs : List Int} (h : zs.head? ≠ some 0) : frT (terms zs) = zs := by
  rcases hd_cases h with e | ⟨z, t, e, hz⟩
  · subst e
    rfl
  · subst e
    rw [terms_cons hz]
    exact frT_join (n := t.length + 1) (hi := []) (by rw [List.length_nil]; omega) (.inl rfl)
theorem add_same {xs ys : List Int} (hx : xs.head? ≠ some 0) (hy : ys.head? ≠ some 0) : addT xs ys = addP xs ys := by
  rcases hd_cases hy with e | ⟨z, t, e, hz⟩
  · subst e
    rfl
  · subst e
    unfold addT addP
    rw [if_neg (by simp), terms_cons hz]
    show frT (((terms xs).filter fun p => decide (p.1 > (t.length : Int))) ++ [((t.length : Int), z + (((terms xs).filter fun p => decide (p.1 = (t.length : Int))).map (·.2)).sum)] ++ termsTo (t.length + 1) 1 t) = _
    by_cases c : xs.length < (z :: t).length
    · rw [if_pos c]
      rw [List.length_cons] at c
      have f1 : (terms xs).filter (fun p => decide (p.1 > (t.length : Int))) = [] := filter_none fun p hp => by
        have := (terms_fst _ _ _ _ hp).1
        exact decide_eq_false (by omega)
      have f2 : (terms xs).filter (fun p => decide (p.1 = (t.length : Int))) = [] := filter_none fun p hp => by
        have := (terms_fst _ _ _ _ hp).1
        exact decide_eq_false (by omega)
      rw [f1, f2]
      have e0 : z + (List.map (fun x : Int × Int => x.2) []).sum = z := by simp
      rw [e0]
      exact frT_join (n := t.length + 1) (hi := []) (by rw [List.length_nil]; omega) (.inl rfl)
    · rw [if_neg c]
      rw [List.length_cons] at c
      have hlen : (z :: t).length = t.length + 1 := rfl
      rw [hlen]
      obtain ⟨hi, u, lo, hxs, hlo⟩ : ∃ hi u lo, xs = hi ++ u :: lo ∧ lo.length = t.length := by
        have h1 : xs.length - (t.length + 1) < xs.length := by omega
        refine ⟨xs.take (xs.length - (t.length + 1)), xs[xs.length - (t.length + 1)], xs.drop (xs.length - (t.length + 1) + 1), ?_, ?_⟩
        · rw [← List.drop_eq_getElem_cons h1, List.take_append_drop]
        · rw [List.length_drop]
          omega
      have hl : xs.length = hi.length + 1 + t.length := by
        rw [hxs, List.length_append, List.length_cons, hlo]
        omega
      have hsub : xs.length - (t.length + 1) = hi.length := by omega
      rw [hsub]
      have et : terms xs = termsTo xs.length 0 hi ++ (if u = 0 then [] else [((t.length : Int), u)]) ++ termsTo xs.length (hi.length + 1) lo := by
        show termsTo xs.length 0 xs = _
        conv => lhs; arg 3; rw [hxs]
        rw [termsTo_app, List.append_assoc]
        congr 1
        rw [Nat.zero_add]
        show (if u = 0 then _ else _) = _
        split
        · rfl
        · show _ :: _ = [_] ++ _
          rw [show (xs.length : Int) - 1 - hi.length = t.length by omega]
          rfl
      have f1 : (terms xs).filter (fun p => decide (p.1 > (t.length : Int))) = termsTo xs.length 0 hi := by
        rw [et, List.filter_append, List.filter_append, filter_all (fun p hp => ?_), filter_none (l := termsTo xs.length (hi.length + 1) lo) (fun p hp => ?_), filter_none (l := if u = 0 then [] else [((t.length : Int), u)]) (fun p hp => ?_)]
        · simp
        · split at hp
          · cases hp
          · rw [List.mem_singleton.mp hp]
            exact decide_eq_false (by show ¬ (t.length : Int) > t.length; omega)
        · have := (terms_fst _ _ _ _ hp).1
          exact decide_eq_false (by omega)
        · have := (terms_fst _ _ _ _ hp).2.1
          exact decide_eq_true (by omega)
      have f2 : (((terms xs).filter fun p => decide (p.1 = (t.length : Int))).map (·.2)).sum = u := by
        rw [et, List.filter_append, List.filter_append, filter_none (l := termsTo xs.length 0 hi) (fun p hp => ?_), filter_none (l := termsTo xs.length (hi.length + 1) lo) (fun p hp => ?_), filter_all (l := if u = 0 then [] else [((t.length : Int), u)]) (fun p hp => ?_)]
        · by_cases hu : u = 0
          · rw [if_pos hu, hu]
            rfl
          · rw [if_neg hu]
            simp
        · split at hp
          · cases hp
          · rw [List.mem_singleton.mp hp]
            exact decide_eq_true rfl
        · have := (terms_fst _ _ _ _ hp).1
          exact decide_eq_false (by omega)
        · have := (terms_fst _ _ _ _ hp).2.1
          exact decide_eq_false (by omega)
      rw [f1, f2]
      have g1 : xs.take hi.length = hi := by rw [hxs, List.take_left]
      have g2 : xs.getD hi.length 0 = u := by
        rw [hxs, List.getD_eq_getElem?_getD, List.getElem?_append_right (Nat.le_refl _), Nat.sub_self]
        rfl
      rw [g1, g2, Int.add_comm z u]
      refine frT_join hl ?_
      cases hi with
      | nil => exact .inl rfl
      | cons q s =>
        refine .inr ⟨q, s, rfl, fun e => hx ?_⟩
        rw [hxs, e]
        rfl
def stepP (a0 : Int) (tl : List Int) (found : List Int) (p : Int × Int) : List Int := addP found (if p.1 > 0 then p.2 :: zer (tl.length + p.1.toNat) else (a0 * p.2) :: tl)
def gP (d : Nat) (pre : List Int) (k : Nat) : List Int := if pre = [] then [] else pre ++ zer (k + d)
theorem addP_nil (z : Int) (t : List Int) : addP [] (z :: t) = z :: t := by
  unfold addP
  rw [if_neg (by simp), if_pos (by simp)]
theorem addP_zer {pre t : List Int} {z : Int} {k : Nat} (h : k = t.length + 1) : addP (pre ++ zer k) (z :: t) = pre ++ z :: t := by
  unfold addP
  have hl : (pre ++ zer k).length = pre.length + (t.length + 1) := by
    rw [List.length_append, h]
    unfold zer
    rw [List.length_replicate]
  rw [if_neg (by simp), hl, List.length_cons, if_neg (by omega), Nat.add_sub_cancel, List.take_left]
  have e : (pre ++ zer k).getD pre.length 0 = 0 := by
    rw [List.getD_eq_getElem?_getD, List.getElem?_append_right (Nat.le_refl _), Nat.sub_self, h]
    rfl
  rw [e]
  show pre ++ (0 + z) :: t = _
  rw [Int.zero_add]
theorem zer_succ (k : Nat) : zer (k + 1) = 0 :: zer k := rfl
theorem prod_at (a0 : Int) (tl : List Int) (f : Int) : ∀ (zs pre : List Int) (m : Nat), m = pre.length + zs.length + 1 → (pre = [] → (zs ++ [f]).head? ≠ some 0) →
    (termsTo m pre.length (zs ++ [f])).foldl (stepP a0 tl) (gP tl.length pre (zs.length + 1)) = pre ++ zs ++ (if f = 0 then zer (tl.length + 1) else (a0 * f) :: tl)
  | [], pre, m, hm, hh => by
    rw [List.length_nil] at hm
    show (if f = 0 then [] else [((m : Int) - 1 - pre.length, f)]).foldl (stepP a0 tl) (gP tl.length pre (0 + 1)) = _
    rw [List.append_nil]
    by_cases hf : f = 0
    · rw [if_pos hf, if_pos hf]
      have hp : pre ≠ [] := fun e => hh e (by rw [hf]; rfl)
      show gP tl.length pre (0 + 1) = _
      unfold gP
      rw [if_neg hp, show 0 + 1 + tl.length = tl.length + 1 by omega]
    · rw [if_neg hf, if_neg hf]
      show stepP a0 tl (gP tl.length pre (0 + 1)) ((m : Int) - 1 - pre.length, f) = _
      unfold stepP gP
      rw [if_neg (show ¬ (m : Int) - 1 - pre.length > 0 by omega)]
      by_cases hp : pre = []
      · rw [if_pos hp, hp]
        exact addP_nil _ _
      · rw [if_neg hp]
        exact addP_zer (by omega)
  | z :: zs, pre, m, hm, hh => by
    rw [List.length_cons] at hm
    have ih := prod_at a0 tl f zs (pre ++ [z]) m (by rw [List.length_append]; simp; omega) (fun e => by simp at e)
    have e0 : (pre ++ [z]).length = pre.length + 1 := by rw [List.length_append]; rfl
    rw [e0] at ih
    have er : pre ++ (z :: zs) = pre ++ [z] ++ zs := by simp
    rw [er, ← ih]
    show (if z = 0 then termsTo m (pre.length + 1) (zs ++ [f]) else ((m : Int) - 1 - pre.length, z) :: termsTo m (pre.length + 1) (zs ++ [f])).foldl (stepP a0 tl) (gP tl.length pre (zs.length + 1 + 1)) = _
    have g1 : gP tl.length (pre ++ [z]) (zs.length + 1) = (pre ++ [z]) ++ zer (zs.length + 1 + tl.length) := by
      unfold gP
      rw [if_neg (by simp)]
    by_cases hz : z = 0
    · rw [if_pos hz]
      have hp : pre ≠ [] := fun e => hh e (by rw [hz]; rfl)
      congr 1
      rw [g1, hz]
      unfold gP
      rw [if_neg hp, show zs.length + 1 + 1 + tl.length = (zs.length + 1 + tl.length) + 1 by omega, zer_succ]
      simp
    · rw [if_neg hz, List.foldl_cons]
      congr 1
      rw [g1]
      unfold stepP
      rw [if_pos (show (m : Int) - 1 - pre.length > 0 by omega)]
      show addP _ (z :: zer (tl.length + ((m : Int) - 1 - pre.length).toNat)) = _
      have e1 : tl.length + ((m : Int) - 1 - pre.length).toNat = zs.length + 1 + tl.length := by omega
      rw [e1]
      unfold gP
      by_cases hp : pre = []
      · rw [if_pos hp, hp]
        exact addP_nil _ _
      · rw [if_neg hp, addP_zer (by unfold zer; rw [List.length_replicate]; omega)]
        simp
theorem mul_same {a0 : Int} {tl ys : List Int} (hy : ys.head? ≠ some 0) : (terms ys).foldl (stepP a0 tl) [] = mulP (a0 :: tl) ys := by
  by_cases e : ys = []
  · subst e
    rfl
  · have e1 : ys.dropLast ++ [ys.getLast e] = ys := List.dropLast_concat_getLast e
    have hl : ys.length = ([] : List Int).length + ys.dropLast.length + 1 := by
      rw [List.length_nil, List.length_dropLast]
      have := List.length_pos_iff.mpr e
      omega
    have h := prod_at a0 tl (ys.getLast e) ys.dropLast [] ys.length hl (fun _ => by rw [e1]; exact hy)
    rw [e1] at h
    have e2 : ys.getLastD 0 = ys.getLast e := by
      rw [List.getLastD_eq_getLast?, List.getLast?_eq_getLast e]
      rfl
    show (termsTo ys.length 0 ys).foldl (stepP a0 tl) [] = _
    have h' : (termsTo ys.length 0 ys).foldl (stepP a0 tl) [] = [] ++ ys.dropLast ++ (if ys.getLast e = 0 then zer (tl.length + 1) else (a0 * ys.getLast e) :: tl) := h
    rw [h', List.nil_append]
    unfold mulP
    have hn : ¬ (a0 :: tl = [] ∨ ys = []) := by simp [e]
    rw [if_neg hn, e2]
    split <;> rfl
/-! what a sum keeps -/
theorem addP_len (xs ys : List Int) : (addP xs ys).length ≤ max xs.length ys.length := by
  unfold addP
  split
  · omega
  · split
    · omega
    · rename_i h1 h2
      rw [List.length_append, List.length_cons, List.length_take, List.length_tail]
      have := List.length_pos_iff.mpr h1
      omega
theorem addP_mem {xs ys : List Int} {z : Int} (h : z ∈ addP xs ys) : z ∈ xs ∨ z ∈ ys ∨ ∃ x y, x ∈ xs ∧ y ∈ ys ∧ z = x + y := by
  unfold addP at h
  split at h
  · exact .inl h
  · rename_i h1
    split at h
    · exact .inr (.inl h)
    · rename_i h2
      rcases List.mem_append.mp h with h | h
      · exact .inl (List.mem_of_mem_take h)
      · rcases List.mem_cons.mp h with h | h
        · refine .inr (.inr ?_)
          cases ys with
          | nil => exact absurd rfl h1
          | cons y r =>
            rw [List.length_cons] at h2 h
            have hlt : xs.length - (r.length + 1) < xs.length := by omega
            refine ⟨xs[xs.length - (r.length + 1)], y, List.getElem_mem _, List.mem_cons_self .., ?_⟩
            rw [h, List.getD_eq_getElem?_getD, List.getElem?_eq_getElem hlt]
            rfl
        · exact .inr (.inl (List.mem_of_mem_tail h))
theorem addP_nz {xs ys : List Int} (hx : NZ xs) (hy : NZ ys) : NZ (addP xs ys) := by
  refine ⟨fun z h => ?_, ?_⟩
  · rcases addP_mem h with h | h | ⟨x, y, h1, h2, rfl⟩
    · exact hx.nn z h
    · exact hy.nn z h
    · have := hx.nn x h1
      have := hy.nn y h2
      omega
  · unfold addP
    split
    · exact hx.hd
    · rename_i h1
      split
      · exact hy.hd
      · rename_i h2
        cases ys with
        | nil => exact absurd rfl h1
        | cons y r =>
          rcases hd_cases hx.hd with e | ⟨a, t, e, ha⟩
          · subst e
            simp at h2
          · subst e
            by_cases c : (a :: t).length - (y :: r).length = 0
            · rw [c, List.take_zero]
              show some (a + y) ≠ some 0
              have h3 := hx.nn a (List.mem_cons_self ..)
              have h4 := hy.nn y (List.mem_cons_self ..)
              intro q
              have := Option.some.inj q
              omega
            · obtain ⟨k, hk⟩ : ∃ k, (a :: t).length - (y :: r).length = k + 1 := ⟨_, (Nat.succ_pred c).symm⟩
              rw [hk]
              show some a ≠ some 0
              intro q
              exact ha (Option.some.inj q)
abbrev sPad : Stmt := topS 17
theorem cut_last (xs : List V) : cutV xs none (some (-1)) = xs.dropLast := by
  unfold cutV
  have e : HT.sIx xs.length xs.length (some (-1)) = xs.length - 1 := by
    show (if (-1 : Int) < 0 then ((-1 : Int) + (xs.length : Int)).toNat else min (-1 : Int).toNat xs.length) = _
    rw [if_pos (by decide)]
    omega
  rw [HT.sIx_none, e, List.drop_zero, Nat.sub_zero, List.dropLast_eq_take]
theorem size_ok {n : Nat} (h : n ≤ 1000) : n ≤ sizeLine := Nat.le_of_lt (small1000 h)
section
variable {P : Program} {w : World} {K : PySem.W.Frag} {mg : Str → Option Value} {base : Heap}
theorem ixt_K {X : Cx} (h : X.K = K) : IxR X (rIxT K) := by
  subst h
  exact ix_tup
theorem scPad : FnScope ["first", "second", "shared"] ["first", "second"] (defScope sPad) := ⟨rfl, rfl, rfl, by decide +kernel, rfl, by decide +kernel, by decide +kernel⟩
def spPad (K : PySem.W.Frag) : Sp := fun vs H Q _ => ∃ (a b : Addr) (as bs : List Int), vs = [.ref a, .ref b] ∧ SqT K H a (as.map V.int) ∧ SqT K H b (bs.map V.int) ∧ as.length ≤ 400 ∧ bs.length ≤ 400 ∧ ∀ p H', Same H H' → SqT K H' p ((addP as bs).map V.int) → Q (.ref p) H'

theorem ok_pad {f : Addr} {fd : FuncData} {k : Nat} (F : Fun K "add" "add" sPad f fd) (ml : mg "len" = none) : FnOk P w K mg base CX0 (k + 1) f fd ["first", "second"] (spPad K) := by
  refine F.ok scPad (fun vs H Q E h => ?_) (fun cdv A outer s H vs Q E hr h => ?_)
  · obtain ⟨a, b, as, bs, rfl, _⟩ := h
    rfl
  · obtain ⟨a, b, as, bs, rfl, ha, hb, la, lb, q⟩ := h
    refine ⟨_, (pss_cons (ps_if (pt_cmpR op_eq (pe_callB call_len_seq (by rfl) ml PySem.boot_len (pa_cons (pv 1) pa_nil)) (pe_int) (nomark _)) (pss_one (ps_ret (pv 0))) pss_nil)
        (pss_cons (ps_if (pt_cmpR op_lt (pe_callB call_len_seq (by rfl) ml PySem.boot_len (pa_cons (pv 0) pa_nil)) (pe_callB call_len_seq (by rfl) ml PySem.boot_len (pa_cons (pv 1) pa_nil)) (nomark _)) (pss_one (ps_ret (pv 1))) pss_nil)
        (pss_cons (ps_set (i := 2) scPad.nd rfl (.inl rfl) (pe_op op_sub (pe_callB call_len_seq (by rfl) ml PySem.boot_len (pa_cons (pv 0) pa_nil)) (pe_callB call_len_seq (by rfl) ml PySem.boot_len (pa_cons (pv 1) pa_nil))))
        (pss_one (ps_ret (pe_op op_catU (pe_op op_catU (pe_slice sl_tupU (pv 0) (po_none) (po_some (pv 2))) (pe_tup (pa_cons (pe_op op_add (pe_ix ix_tup (pv 0) (pv 2) (fun _ _ => rfl)) (pe_ix ix_tup (pv 1) (pe_int) (fun _ _ => rfl))) pa_nil))) (pe_slice sl_tupU (pv 1) (po_some (pe_int)) (po_none)))))))), ?_⟩
    refine ⟨_, rfl, b, _, rfl, .inr hb, rfl, _, rfl, ?_⟩
    rw [List.length_map]
    have fin : ∀ zs, addP as bs = zs → ∀ p H', Same H H' → SqT K H' p (zs.map V.int) → Q (.ref p) H' := by
      intro zs e p H' s t
      rw [← e] at t
      exact q p H' s t
    refine ite2 (fun c => ?_) (fun c => ?_)
    · have e : bs = [] := by
        have := V.int.inj (of_decide_eq_true c)
        exact List.eq_nil_of_length_eq_zero (by omega)
      refine ⟨_, rfl, fin as ?_ a H (Same.refl H) ha⟩
      unfold addP
      rw [if_pos e]
    · obtain ⟨y, r, rfl⟩ : ∃ y r, bs = y :: r := by
        cases bs with
        | nil => exact absurd (decide_eq_true rfl) c
        | cons y r => exact ⟨y, r, rfl⟩
      refine ⟨_, rfl, a, _, rfl, .inr ha, _, rfl, b, _, rfl, .inr hb, _, _, rfl, rfl, _, rfl, ?_⟩
      rw [List.length_map, List.length_map]
      refine ite2 (fun c2 => ?_) (fun c2 => ?_)
      · have c2' := of_decide_eq_true c2
        refine ⟨_, rfl, fin (y :: r) ?_ b H (Same.refl H) hb⟩
        unfold addP
        rw [if_neg (by simp), if_pos (by omega)]
      · have c2' : (y :: r).length ≤ as.length := by
          have h : ¬ ((as.length : Int) < ((y :: r).length : Int)) := fun z => c2 (decide_eq_true z)
          omega
        refine ⟨_, rfl, a, _, rfl, .inr ha, _, rfl, b, _, rfl, .inr hb, _, _, rfl, rfl, ?_⟩
        rw [List.length_map, List.length_map]
        obtain ⟨sh, hsh⟩ : ∃ sh : Nat, sh = as.length - (y :: r).length := ⟨_, rfl⟩
        have esh : ((as.length : Int) - ((y :: r).length : Int)) = (sh : Int) := by omega
        change gName 2 (V.int ((as.length : Int) - ((y :: r).length : Int))) _ _ _
        rw [esh]
        rw [List.length_cons] at c2' hsh
        have hlt : sh < as.length := by omega
        refine ⟨_, rfl, _, rfl, _, rfl, a, _, rfl, ha, fun p1 H1 s1 t1 => ?_⟩
        rw [cut_to, ← List.map_take] at t1
        refine ⟨_, rfl, _, rfl, a, _, _, _, rfl, rfl, Same.seqT s1 ha, atI_nat (v := .int as[sh]) (by rw [List.getElem?_map, List.getElem?_eq_getElem hlt]; rfl), _, rfl, b, _, 0, _, rfl, rfl, Same.seqT s1 hb, atI_nat (j := 0) rfl, _, _, rfl, rfl, by show 1 ≤ sizeLine; decide, fun p2 np2 => ?_⟩
        have e2 := same_upd (o := .tup [.int (as[sh] + y)]) np2
        refine ⟨p1, p2, _, _, rfl, rfl, Same.seqT e2 t1, .inl (.inl upd_same), size_ok ?_, fun p3 H3 s3 t3 => ?_⟩
        · rw [List.length_map, List.length_take, List.length_singleton]
          omega
        · have s13 := (s1.trans e2).trans s3
          refine ⟨_, rfl, 1, rfl, b, _, rfl, Same.seqT s13 hb, fun p4 H4 s4 t4 => ?_⟩
          have ec : cutV ((y :: r).map V.int) (some 1) none = r.map V.int := cut_from _ 1
          rw [ec] at t4
          refine ⟨p3, p4, _, _, rfl, rfl, Same.seqT s4 t3, t4, size_ok ?_, fun p5 H5 s5 t5 => ?_⟩
          · rw [List.length_append, List.length_map, List.length_map, List.length_take, List.length_singleton]
            rw [List.length_cons] at lb
            omega
          · refine fin (as.take sh ++ (as[sh] + y) :: r) ?_ p5 H5 ((s13.trans s4).trans s5) ?_
            · unfold addP
              rw [if_neg (by simp), List.length_cons, if_neg (by omega), ← hsh, List.getD_eq_getElem?_getD, List.getElem?_eq_getElem hlt]
              rfl
            · rw [List.map_append]
              have e3 : (as.take sh).map V.int ++ [V.int (as[sh] + y)] ++ r.map V.int = (as.take sh).map V.int ++ ((as[sh] + y) :: r).map V.int := by
                rw [List.append_assoc]
                rfl
              rw [← e3]
              exact t5

end
abbrev sPow : Stmt := topS 16
section
variable {P : Program} {w : World} {K : PySem.W.Frag} {mg : Str → Option Value} {base : Heap}
/-! ### power -/
def powL (e c : Int) : List Int := if c = 0 then [] else c :: List.replicate e.toNat 0
theorem scPow : FnScope ["exponent", "coefficient"] ["exponent", "coefficient"] (defScope sPow) := ⟨rfl, rfl, rfl, by decide +kernel, rfl, by decide +kernel, by decide +kernel⟩
def spPow (K : PySem.W.Frag) : Sp := fun vs H Q _ => ∃ (e c : Int), vs = [.int e, .int c] ∧ 0 ≤ e ∧ e ≤ 900 ∧ ∀ p H', Same H H' → SqT K H' p ((powL e c).map V.int) → Q (.ref p) H'
theorem ok_pow {f : Addr} {fd : FuncData} {k : Nat} {dvs : List V} (F : FunD K "power" "power" (defArgs sPow) (defBody sPow) (defScope sPow) dvs [] f fd) : FnOk P w K mg base CX0 (k + 1) f fd ["exponent", "coefficient"] (spPow K) := by
  refine F.ok scPow (fun vs H Q E h => ?_) (fun cdv A outer s H vs Q E hr h => ?_)
  · obtain ⟨e, c, rfl, _⟩ := h
    rfl
  · obtain ⟨e, c, rfl, h0, h1, q⟩ := h
    refine ⟨_, (show PSs (cxOf CX0 P w K mg base ["exponent", "coefficient"] "power" (defScope sPow) f cdv A outer s H E).nox (defBody sPow) _ from
      pss_cons (ps_if (pt_cmpR op_eq (pv 1) pe_int (nomark _)) (pss_one (ps_ret (pe_tup pa_nil))) pss_nil)
      (pss_one (ps_ret (pe_op op_catU (pe_tup (pa_cons (pv 1) pa_nil)) (pe_op op_repU (pe_tup (pa_cons pe_int pa_nil)) (pv 0)))))).nox, ?_⟩
    refine ⟨_, rfl, rfl, _, rfl, ite2 (fun ec => ?_) (fun ec => ?_)⟩
    · have ec' : c = 0 := V.int.inj (of_decide_eq_true ec)
      refine ⟨Nat.zero_le _, fun p np => q p _ (same_upd np) (.inl (.inl ?_))⟩
      rw [upd_same, powL, if_pos ec']
      rfl
    · have ec' : c ≠ 0 := fun z => ec (decide_eq_true (by rw [z]))
      refine ⟨_, rfl, by show 1 ≤ sizeLine; decide, fun p np => ⟨by show 1 ≤ sizeLine; decide, fun p2 np2 => ⟨_, rfl, p2, e, _, rfl, rfl, .inl (.inl upd_same), rfl, by omega, by omega, fun p3 H3 s3 t3 => ?_⟩⟩⟩
      rw [flat_one] at t3
      refine ⟨p, p3, [.int c], _, rfl, rfl, Same.seqT s3 (Same.seqT (same_upd np2) (.inl (.inl upd_same))), t3, ?_, fun p4 H4 s4 t4 => q p4 H4 ((((same_upd np).trans (same_upd np2)).trans s3).trans s4) ?_⟩
      · rw [List.length_map, List.length_replicate]
        exact Nat.le_of_lt (small1000 (by
          show 1 + e.toNat ≤ 1000
          omega))
      · rw [powL, if_neg ec']
        exact t4
end
end Lim
set_option maxHeartbeats 1000000
namespace Lim
open PySem PySem.Spec PyProof.Rows L2 TL
/-! ### the texts of terms -/
def mkS (l : List Nat) : Str := ⟨l.toArray⟩
theorem tl_mkS (l : List Nat) : tl (mkS l) = l := rfl
theorem eq_mkS {x : Str} {l : List Nat} (h : tl x = l) : x = mkS l := by
  rw [← h]
  exact (mk_tl x).symm
def baseL (e : Nat) : List Nat := if e = 1 then [119] else [119, 94] ++ numL e
def termL (e c : Nat) : List Nat := if e = 0 then numL c else if c = 1 then baseL e else baseL e ++ [42] ++ numL c
def termS (p : Int × Int) : Str := mkS (termL p.1.toNat p.2.toNat)
def termsOf (zs : List Int) : List (Int × Int) := if terms zs = [] then [(0, 0)] else terms zs
def textS (zs : List Int) : Str := Txt.join " + " ((termsOf zs).map termS)
theorem baseL_free {e s : Nat} (h : s < 48 ∨ 57 < s) (h1 : s ≠ 119) (h2 : s ≠ 94) : s ∉ baseL e := by
  unfold baseL
  split
  · simp [h1]
  · intro hm
    rcases List.mem_append.mp hm with q | q
    · simp [h1, h2] at q
    · exact numL_free h q
theorem termL_free {e c s : Nat} (h : s < 48 ∨ 57 < s) (h1 : s ≠ 119) (h2 : s ≠ 94) (h3 : s ≠ 42) : s ∉ termL e c := by
  unfold termL
  split
  · exact numL_free h
  · split
    · exact baseL_free h h1 h2
    · intro hm
      rcases List.mem_append.mp hm with q | q
      · rcases List.mem_append.mp q with q | q
        · exact baseL_free h h1 h2 q
        · simp [h3] at q
      · exact numL_free h q
theorem baseL_len {e : Nat} (h : e < 100) : (baseL e).length ≤ 4 := by
  unfold baseL
  split
  · decide
  · rw [List.length_append]
    have := numL_len (n := e) (k := 2) (by decide) (by omega)
    show 2 + (numL e).length ≤ 4
    omega
theorem termL_len {e c : Nat} (h : e < 100) (hc : c < 10 ^ 18) : (termL e c).length ≤ 30 := by
  have h1 := numL_len (n := c) (k := 18) (by decide) hc
  have h2 := baseL_len h
  unfold termL
  split
  · omega
  · split
    · omega
    · rw [List.length_append, List.length_append, List.length_singleton]
      omega
theorem sw_eq {x y : Str} (hy : tl y ≠ []) : Txt.startswith x y = pre (tl y) (tl x) := by
  have h := at_iff (x := x) hy 0
  rw [List.drop_zero] at h
  apply Bool.eq_iff_iff.mpr
  rw [← h]
  constructor
  · intro q
    have q' := Bool.and_eq_true_iff.mp q
    exact ⟨of_decide_eq_true q'.1, q'.2⟩
  · rintro ⟨q1, q2⟩
    exact Bool.and_eq_true_iff.mpr ⟨decide_eq_true q1, q2⟩
theorem sw_w_base (e : Nat) : Txt.startswith (mkS (baseL e)) "w" = true := by
  rw [sw_eq (by decide +kernel)]
  unfold baseL
  split
  · decide +kernel
  · show pre (tl "w") (119 :: 94 :: numL e) = true
    rfl
theorem sw_wp_base {e : Nat} (h : e ≠ 1) : Txt.startswith (mkS (baseL e)) "w^" = true := by
  rw [sw_eq (by decide +kernel)]
  unfold baseL
  rw [if_neg h]
  show pre (tl "w^") (119 :: 94 :: numL e) = true
  rfl
theorem sw_num (c : Nat) : Txt.startswith (mkS (numL c)) "w" = false := by
  rw [sw_eq (by decide +kernel), tl_mkS]
  cases h : numL c with
  | nil => exact absurd h (numL_ne c)
  | cons d r =>
    have hd := numL_digits c d (by rw [h]; exact List.mem_cons_self ..)
    show (List.take 1 (d :: r) == [119]) = false
    have : d ≠ 119 := by omega
    simp [this]
theorem split_text {zs : List Int} : Txt.split (textS zs) " + " = (termsOf zs).map termS := by
  unfold textS
  refine split_join (y := " + ") (s := 32) (S := [43, 32]) (by decide +kernel) (by decide +kernel) ?_ ?_
  · unfold termsOf
    split
    · simp
    · rename_i h
      simpa using h
  · intro p hp
    obtain ⟨q, _, rfl⟩ := List.mem_map.mp hp
    exact termL_free (by decide) (by decide) (by decide) (by decide)
theorem part_num (c : Nat) : Txt.partition (mkS (numL c)) "*" = (mkS (numL c), Str.empty, Str.empty) :=
  partition_none (y := "*") (s := 42) (S := []) (by decide +kernel) (numL_free (by decide))
theorem part_base (e : Nat) : Txt.partition (mkS (baseL e)) "*" = (mkS (baseL e), Str.empty, Str.empty) :=
  partition_none (y := "*") (s := 42) (S := []) (by decide +kernel) (baseL_free (by decide) (by decide) (by decide))
theorem part_both (e c : Nat) : Txt.partition (mkS (baseL e ++ [42] ++ numL c)) "*" = ((mkS (baseL e), ("*" : Str), mkS (numL c)) : Str × Str × Str) := by
  have h := partition_app (y := "*") (s := 42) (S := []) (a := mkS (baseL e)) (b := mkS (numL c)) (by decide +kernel) (baseL_free (by decide) (by decide) (by decide))
  have e1 : mkS (baseL e) ++ "*" ++ mkS (numL c) = mkS (baseL e ++ [42] ++ numL c) := eq_mkS (by
    rw [tl_append, tl_append]
    rfl)
  rw [e1] at h
  exact h
theorem num_str (n : Nat) : (Str.ofString (toString ((n : Nat) : Int))) = mkS (numL n) := eq_mkS (tl_num n)
/-- reading the terms back -/
theorem back_terms {zs : List Int} (h : zs.head? ≠ some 0) : (terms zs).foldl (stepP 1 []) [] = zs := by
  rw [mul_same h]
  by_cases e : zs = []
  · subst e
    rfl
  · have e1 := List.dropLast_concat_getLast e
    have e2 : zs.getLastD 0 = zs.getLast e := by
      rw [List.getLastD_eq_getLast?, List.getLast?_eq_getLast e]
      rfl
    have hn : ¬ (([1] : List Int) = [] ∨ zs = []) := by simp [e]
    unfold mulP
    rw [if_neg hn, e2]
    split
    · rename_i h0
      rw [h0] at e1
      exact e1
    · show zs.dropLast ++ [1 * zs.getLast e] = zs
      rw [Int.one_mul]
      exact e1
end Lim
set_option maxHeartbeats 1000000
namespace Lim
open PySem PySem.Spec PyProof.Rows L2 TL
abbrev sFmT : Stmt := topS 18
abbrev sFmO : Stmt := topS 19
abbrev sCan : Stmt := topS 35
section
variable {P : Program} {w : World} {K : PySem.W.Frag} {mg : Str → Option Value} {base : Heap}
theorem nat_small {n : Nat} (h : n < 10 ^ 18) : ((n : Int)).natAbs.log2 < 1920 := by
  refine log_small ?_
  rw [Int.natAbs_natCast]
  exact Nat.lt_of_lt_of_le h (by decide)
theorem scFmT : FnScope ["exponent", "coefficient", "base"] ["exponent", "coefficient"] (defScope sFmT) := ⟨rfl, rfl, rfl, by decide +kernel, rfl, by decide +kernel, by decide +kernel⟩
def spFmT : Sp := fun vs H Q _ => ∃ (e c : Nat), vs = [.int (e : Int), .int (c : Int)] ∧ e < 100 ∧ c < 10 ^ 18 ∧ c ≠ 0 ∧ Q (.str (mkS (termL e c))) H

theorem ok_fmT {f : Addr} {fd : FuncData} {k : Nat} (F : Fun K "format_term" "format_term" sFmT f fd) (ms : mg "str" = none) : FnOk P w K mg base CX0 (k + 1) f fd ["exponent", "coefficient"] spFmT := by
  refine F.ok scFmT (fun vs H Q E h => ?_) (fun cdv A outer s H vs Q E hr h => ?_)
  · obtain ⟨e, c, rfl, _⟩ := h
    rfl
  · obtain ⟨e, c, rfl, he, hc, hc0, q⟩ := h
    refine ⟨_, (pss_cons (ps_if (pt_cmpR op_eq (pv 0) (pe_int) (nomark _)) (pss_one (ps_ret (pe_callTy call_str_int (by rfl) ms (by decide +kernel) (pa_cons (pv 1) pa_nil)))) pss_nil)
        (C8.pss_cut (ps_set (i := 2) scFmT.nd rfl (.inl rfl) (pe_ifExp (pt_cmpR op_eq (pv 0) (pe_int) (nomark _)) (pe_str) (pe_joined (.cons (pe_str) (.cons (pe_fmt (pv 0)) .nil)))))
        (pss_one (ps_ret (pe_ifExp (pt_cmpR op_eq (pv 1) (pe_int) (nomark _)) (pv 2) (pe_joined (.cons (pe_fmt (pv 2)) (.cons (pe_str) (.cons (pe_fmt (pv 1)) .nil))))))))), ?_⟩
    have fin : ∀ x : Str, tl x = termL e c → Q (.str x) H := fun x hx => by
      rw [eq_mkS hx]
      exact q
    refine ⟨_, rfl, rfl, _, rfl, ite2 (fun c1 => ?_) (fun c1 => ?_)⟩
    · have e0 : e = 0 := by
        have := V.int.inj (of_decide_eq_true c1)
        omega
      refine ⟨_, rfl, _, rfl, nat_small hc, fin _ ?_⟩
      rw [tl_num]
      unfold termL
      rw [if_pos e0]
    · have e0 : e ≠ 0 := fun z => c1 (decide_eq_true (by rw [z]; rfl))
      have fl := baseL_len he
      refine ⟨fun σ H' => σ = [some (.int (e : Int)), some (.int (c : Int)), some (.str (mkS (baseL e)))] ∧ H' = H, ?_, ?_⟩
      · refine ⟨_, rfl, rfl, _, rfl, ite2 (fun c2 => ?_) (fun c2 => ?_)⟩
        · have e1 : e = 1 := by
            have := V.int.inj (of_decide_eq_true c2)
            omega
          subst e1
          exact ⟨rfl, rfl⟩
        · have e1 : e ≠ 1 := fun z => c2 (decide_eq_true (by rw [z]; rfl))
          have ex : ((Str.empty ++ ("w^" : Str)) ++ Str.ofString (toString (e : Int))) = mkS (baseL e) := eq_mkS (by
              rw [tl_append, tl_append, tl_num]
              unfold baseL
              rw [if_neg e1]
              rfl)
          refine ⟨_, rfl, by decide +kernel, _, rfl, .inr ⟨_, rfl, nat_small (Nat.lt_trans he (by decide)), _, rfl, ?_, ?_⟩⟩
          · rw [ex, len_tl, tl_mkS]
            exact Nat.le_trans fl (by decide +kernel)
          · refine ⟨?_, rfl⟩
            show _ = [some (V.int (e : Int)), some (.int (c : Int)), some (.str (mkS (baseL e)))]
            rw [← ex]
            rfl
      · rintro σ H' ⟨rfl, rfl⟩
        refine ⟨_, rfl, rfl, _, rfl, ite2 (fun c3 => ?_) (fun c3 => ?_)⟩
        · have e1 : c = 1 := by
            have := V.int.inj (of_decide_eq_true c3)
            omega
          refine ⟨_, rfl, fin _ ?_⟩
          rw [tl_mkS]
          unfold termL
          rw [if_neg e0, if_pos e1]
        · have e1 : c ≠ 1 := fun z => c3 (decide_eq_true (by rw [z]; rfl))
          have n1 := numL_len (n := c) (k := 18) (by decide) hc
          have l1 : (mkS (baseL e)).length ≤ sizeLine := by
            rw [len_tl, tl_mkS]
            exact Nat.le_trans fl (by decide +kernel)
          have x1 : (Str.empty ++ mkS (baseL e)) = mkS (baseL e) := eq_mkS (by rw [tl_append]; rfl)
          have x2 : (Str.empty ++ mkS (baseL e) ++ ("*" : Str)) = mkS (baseL e ++ [42]) := eq_mkS (by rw [x1, tl_append]; rfl)
          have x3 : (Str.empty ++ mkS (baseL e) ++ ("*" : Str) ++ Str.ofString (toString (c : Int))) = mkS (baseL e ++ [42] ++ numL c) := eq_mkS (by rw [x2, tl_append, tl_num]; rfl)
          refine ⟨_, rfl, .inl ⟨_, rfl, l1, _, rfl, ?_, _, rfl, ?_, _, rfl, .inr ⟨_, rfl, nat_small hc, _, rfl, ?_, ?_⟩⟩⟩
          · rw [x1]
            exact l1
          · rw [x2, len_tl, tl_mkS, List.length_append, List.length_singleton]
            exact Nat.le_trans (Nat.add_le_add_right fl 1) (by decide +kernel)
          · rw [x3, len_tl, tl_mkS, List.length_append, List.length_append, List.length_singleton]
            exact Nat.le_trans (Nat.add_le_add (Nat.add_le_add_right fl 1) n1) (by decide +kernel)
          · refine fin _ ?_
            show tl (Str.empty ++ mkS (baseL e) ++ ("*" : Str) ++ Str.ofString (toString (c : Int))) = _
            rw [x3, tl_mkS]
            unfold termL
            rw [if_neg e0, if_neg e1]
end
end Lim
set_option maxHeartbeats 1000000
namespace Lim
open PySem PySem.Spec PyProof.Rows L2 TL
section
variable {P : Program} {w : World} {K : PySem.W.Frag} {mg : Str → Option Value} {base : Heap}
theorem termS_nat (e c : Nat) : termS ((e : Int), (c : Int)) = mkS (termL e c) := rfl
theorem termS_len {e c : Nat} (h : e < 100) (hc : c < 10 ^ 18) : (termS ((e : Int), (c : Int))).length ≤ 30 := by
  rw [termS_nat, len_tl, tl_mkS]
  exact termL_len h hc
theorem textS_zero {zs : List Int} (h : terms zs = []) : textS zs = "0" := by
  unfold textS termsOf
  rw [if_pos h]
  decide +kernel
theorem termsTo_mem (n : Nat) : ∀ (zs : List Int) (i : Nat) (p : Int × Int), p ∈ termsTo n i zs → ∃ j, j < zs.length ∧ zs[j]? = some p.2 ∧ p.1 = (n : Int) - 1 - (i + j : Nat) ∧ p.2 ≠ 0
  | [], _, p, h => by cases h
  | z :: r, i, p, h => by
    have ih := termsTo_mem n r (i + 1) p
    have tail : p ∈ termsTo n (i + 1) r → ∃ j, j < (z :: r).length ∧ (z :: r)[j]? = some p.2 ∧ p.1 = (n : Int) - 1 - (i + j : Nat) ∧ p.2 ≠ 0 := fun h' => by
      obtain ⟨j, hj, hg, he, h0⟩ := ih h'
      refine ⟨j + 1, by rw [List.length_cons]; omega, hg, ?_, h0⟩
      rw [he]
      omega
    unfold termsTo at h
    split at h
    · exact tail h
    · rename_i hz
      rcases List.mem_cons.mp h with rfl | h'
      · exact ⟨0, by simp, rfl, by simp, hz⟩
      · exact tail h'
/-- the terms of an ordinal, as naturals -/
theorem terms_nat {zs : List Int} (h0 : ∀ z ∈ zs, 0 ≤ z) (h1 : ∀ z ∈ zs, z < 10 ^ 18) (hl : zs.length ≤ 100) : ∀ p ∈ terms zs, ∃ e c : Nat, p = ((e : Int), (c : Int)) ∧ e < 100 ∧ c < 10 ^ 18 ∧ c ≠ 0 := by
  rintro ⟨e, c⟩ hp
  obtain ⟨j, hj, hg, he, hc⟩ := termsTo_mem _ _ _ _ hp
  have hm : c ∈ zs := List.mem_of_getElem? hg
  have a0 := h0 _ hm
  have a1 := h1 _ hm
  have he : e = (zs.length : Int) - 1 - (0 + j : Nat) := he
  have hc : c ≠ 0 := hc
  refine ⟨e.toNat, c.toNat, ?_, by omega, by omega, by omega⟩
  rw [Int.toNat_of_nonneg a0, Int.toNat_of_nonneg (by omega)]
theorem sum_le {α : Type} (f : α → Nat) (m : Nat) : ∀ l : List α, (∀ p ∈ l, f p ≤ m) → (l.map f).sum ≤ l.length * m
  | [], _ => Nat.zero_le _
  | x :: r, h => by
    have h1 := h x (List.mem_cons_self ..)
    have h2 := sum_le f m r fun p hp => h p (List.mem_cons_of_mem _ hp)
    rw [List.map_cons, List.sum_cons, List.length_cons, Nat.add_mul]
    omega
theorem join_small {zs : List Int} (h0 : ∀ z ∈ zs, 0 ≤ z) (h1 : ∀ z ∈ zs, z < 10 ^ 18) (hl : zs.length ≤ 100) : (((terms zs).map termS).map (·.length)).sum + ((terms zs).map termS).length * (" + " : Str).length ≤ 16777216 := by
  have e1 := sum_le (fun s : Str => s.length) 30 ((terms zs).map termS) (by
    intro s hs
    obtain ⟨p, hp, rfl⟩ := List.mem_map.mp hs
    obtain ⟨e, c, rfl, he, hc, _⟩ := terms_nat h0 h1 hl p hp
    exact termS_len he hc)
  have e2 := termsTo_len zs.length zs 0
  have e2 : (terms zs).length ≤ zs.length := e2
  rw [List.length_map] at e1 ⊢
  have e3 : (" + " : Str).length = 3 := by decide +kernel
  rw [e3]
  have : (List.map (fun x => Str.length x) (List.map termS (terms zs))).sum ≤ (terms zs).length * 30 := e1
  omega
theorem scFmO : FnScope ["ordinal", "terms", "place", "coefficient"] ["ordinal"] (defScope sFmO) := ⟨rfl, rfl, rfl, by decide +kernel, rfl, by decide +kernel, by decide +kernel⟩
def Ord (zs : List Int) : Prop := zs.length ≤ 64 ∧ (∀ z ∈ zs, 0 ≤ z) ∧ (∀ z ∈ zs, z < 10 ^ 18) ∧ zs.head? ≠ some 0
def spFmO (K : PySem.W.Frag) : Sp := fun vs H Q _ => ∃ (a : Addr) (zs : List Int), vs = [.ref a] ∧ SqT K H a (zs.map V.int) ∧ Ord zs ∧ ∀ H', Same H H' → Q (.str (textS zs)) H'

theorem ok_fmO {f fT : Addr} {fd dT : FuncData} {k : Nat} (F : Fun K "format_ordinal" "format_ordinal" sFmO f fd) (ml : mg "len" = none) (me : mg "enumerate" = none)
    (GT : FnOk P w K mg base CX0 (k + 1) fT dT ["exponent", "coefficient"] spFmT) (kT : PySem.W.keepIn K (.ref fT) = true) (bT : Binds K dT ["exponent", "coefficient"] []) (gT : mg "format_term" = some (.ref fT)) :
    FnOk P w K mg base CX0 (k + 2) f fd ["ordinal"] (spFmO K) := by
  refine F.ok scFmO (fun vs H Q E h => ?_) (fun cdv A outer s H vs Q E hr h => ?_)
  · obtain ⟨a, zs, rfl, _⟩ := h
    rfl
  · obtain ⟨a, zs, rfl, hT, ⟨hlen, h0, h1, hh⟩, q⟩ := h
    refine ⟨_, (pss_cons (ps_set (i := 1) scFmO.nd rfl (.inl rfl) (pe_lst pa_nil))
        (C8.pss_cut (ps_for PassesOwn.never rfl (pi_enumT (by rfl) me (pa_cons (pv 0) pa_nil)) (pg_tup rfl (pgs_cons (pg_name (i := 2) scFmO.nd rfl (.inl rfl)) (pgs_cons (pg_name (i := 3) scFmO.nd rfl (.inl rfl)) pgs_nil))) (pss_one (ps_if (pt_cmpR op_ne (pv 3) (pe_int) (nomark _)) (pss_one (ps_expr (pe_bm PySem.F.plainAttrs_list PySem.F.slot_list_append PySem.F.type_list_append mt_append (pv 1) (pa_cons (pe_call GT hr (by rfl) gT kT bT .nil pass0 (pa_cons (pe_op op_sub (pe_op op_sub (pe_callB call_len_seq (by rfl) ml PySem.boot_len (pa_cons (pv 0) pa_nil)) (pe_int)) (pv 2)) (pa_cons (pv 3) pa_nil))) pa_nil)))) pss_nil)))
        (pss_one (ps_ret (pe_ifExp (pt_truth (pv 1) (fun _ => rfl)) (pe_join pe_str (pv 1)) (pe_str)))))), ?_⟩
    refine ⟨Nat.zero_le _, fun l nl => ?_⟩
    have sl0 := same_upd (o := .lst []) nl
    refine ⟨fun σ H' => ∃ y2 y3, σ = [some (.ref a), some (.ref l), y2, y3] ∧ Same H H' ∧ H' l = some (.lst (((terms zs).map termS).map V.str)), ?_, ?_⟩
    · refine ⟨_, rfl, a, _, rfl, Same.seqT sl0 hT, ?_⟩
      refine for_enumT (K := K) (a := a) (xs := zs.map V.int) (fun i σ H' => ∃ y2 y3, σ = [some (.ref a), some (.ref l), y2, y3] ∧ Same H H' ∧ H' l = some (.lst (((termsTo zs.length 0 (zs.take i)).map termS).map V.str))) ?_ ?_ ?_ ?_
      · exact ⟨none, none, rfl, sl0, upd_same⟩
      · rintro i σ H' _ ⟨_, _, _, sm, _⟩
        exact Same.seqT sm hT
      · rintro i x σ H1 T hx ⟨y2, y3, rfl, sm, hl⟩ nT
        obtain ⟨z, hz, rfl⟩ := map_get hx
        have hi : i < zs.length := (List.getElem?_eq_some_iff.mp hz).1
        have hm : z ∈ zs := List.mem_of_getElem? hz
        have z0 := h0 _ hm
        have z1 := h1 _ hm
        have etk : termsTo zs.length 0 (zs.take (i + 1)) = termsTo zs.length 0 (zs.take i) ++ termsTo zs.length i [z] := by
          rw [List.take_add_one, hz, termsTo_app, List.length_take, Nat.min_eq_left (by omega), Nat.zero_add]
          rfl
        have sT : Same H1 (L2.upd H1 T (.tup [.int (i : Nat), .int z])) := same_upd nT
        have hl2 := sT _ _ hl
        refine ⟨T, _, rfl, .inl (.inl upd_same), rfl, _, _, rfl, _, _, rfl, rfl, _, rfl, rfl, _, rfl, ite2 (fun c => ?_) (fun c => ?_)⟩
        · have hz0 : z ≠ 0 := fun e => by
            rw [e] at c
            revert c
            decide +kernel
          refine ⟨_, rfl, .inl ⟨rfl, _, .inl (.inl hl2)⟩, _, rfl, a, _, rfl, .inr (Same.seqT (sm.trans sT) hT), _, _, rfl, rfl, _, rfl, _, _, rfl, rfl, _, rfl, ?_⟩
          rw [List.length_map]
          refine ⟨zs.length - 1 - i, z.toNat, ?_, by omega, by omega, by omega, ?_⟩
          · rw [Int.toNat_of_nonneg z0]
            have : (zs.length : Int) - 1 - (i : Nat) = ((zs.length - 1 - i : Nat) : Int) := by omega
            rw [← this]
            rfl
          · refine ⟨l, _, _, rfl, rfl, hl2, ?_, _, _, rfl, ?_, ?_⟩
            · have h2 := termsTo_len zs.length (zs.take i) 0
              rw [List.length_take] at h2
              rw [List.length_map, List.length_map]
              exact small1000 (by omega)
            · exact fun b o e => by
                rw [upd_ne (ne_of_none e nl)]
                exact sT _ _ (sm _ _ e)
            · rw [upd_same, etk, List.map_append, List.map_append]
              unfold termsTo
              rw [if_neg hz0]
              have e1 : termS ((zs.length : Int) - 1 - (i : Nat), z) = mkS (termL (zs.length - 1 - i) z.toNat) := by
                unfold termS
                have : ((zs.length : Int) - 1 - (i : Nat)).toNat = zs.length - 1 - i := by omega
                rw [this]
              show _ = some (HO.lst (_ ++ [V.str (termS ((zs.length : Int) - 1 - (i : Nat), z))]))
              rw [e1]
        · have hz0 : z = 0 := by
            by_cases e : z = 0
            · exact e
            · exact absurd (by
                rw [decide_eq_false (fun q => e (V.int.inj q))]
                rfl) c
          refine ⟨_, _, rfl, sm.trans sT, ?_⟩
          rw [etk]
          have e0 : termsTo zs.length i [z] = [] := by
            unfold termsTo
            rw [if_pos hz0]
            rfl
          rw [e0, List.append_nil]
          exact hl2
      · rintro σ H1 ⟨y2, y3, rfl, sm, hl⟩
        rw [List.length_map, List.take_length] at hl
        exact ⟨y2, y3, rfl, sm, hl⟩
    · rintro σ H1 ⟨y2, y3, rfl, sm, hl⟩
      refine ⟨_, rfl, _, .inl ⟨_, .inl (.inl hl), rfl⟩, ?_⟩
      refine ite2 (fun c => ?_) (fun c => ?_)
      · have ne : terms zs ≠ [] := fun e => by
          rw [e] at c
          revert c
          decide +kernel
        refine ⟨⟨_, rfl⟩, _, rfl, _, l, _, rfl, rfl, .inl (.inl (.inl hl)), join_small h0 h1 (by omega), ?_⟩
        have := q H1 sm
        unfold textS termsOf at this
        rw [if_neg ne] at this
        exact this
      · have e : terms zs = [] := by
          cases h : terms zs with
          | nil => rfl
          | cons p r => exact absurd (by rw [h]; rfl) c
        have := q H1 sm
        rw [textS_zero e] at this
        exact this
end
end Lim
set_option maxHeartbeats 2000000
namespace Lim
open PySem PySem.Spec PyProof.Rows L2 TL
/-- for c in a text -/
theorem for_signs {x : Str} {g : TG} {tb : TS} {D : Ends} {σ : L2.St} {H : Hp} (Pv : Nat → L2.St → Hp → Prop) (h0 : Pv 0 σ H)
    (hs : ∀ i c σ H, x.cps[i]? = some c → Pv i σ H → g (.str ⟨#[c]⟩) σ H fun σ2 H2 => tb { D with nx := Pv (i + 1), ct := Pv (i + 1), bk := D.nx } σ2 H2) (hd : ∀ σ H, Pv x.cps.size σ H → D.nx σ H) :
    ∃ W : Nat → Nat → L2.St → Hp → Prop, (∃ m, W 0 m σ H) ∧ ∀ i m σ H, W i m σ H →
      ((Its x).stop i H ∧ D.nx σ H) ∨ ((Its x).go i H ∧ ∃ N : L2.St → Hp → Prop, (∀ σ' H', N σ' H' → ∃ m', m' < m ∧ W (i + 1) m' σ' H') ∧ ∀ y H', (Its x).yld i H y H' → g y σ H' fun σ2 H2 => tb { D with nx := N, ct := N, bk := D.nx } σ2 H2) := by
  refine ⟨fun i m σ H => i + m = x.cps.size ∧ Pv i σ H, ⟨x.cps.size, by omega, h0⟩, ?_⟩
  rintro i m σ H ⟨hm, p⟩
  by_cases hlt : i < x.cps.size
  · refine .inr ⟨hlt, Pv (i + 1), fun σ' H' p' => ⟨m - 1, by omega, by omega, p'⟩, fun v H' y => ?_⟩
    obtain ⟨rfl, c, hc, rfl⟩ := y
    exact hs i c σ H' hc p
  · have e : i = x.cps.size := by omega
    subst e
    exact .inl ⟨Nat.le_refl _, hd σ H p⟩
theorem ty_tupl {K : PySem.W.Frag} {H : Hp} {t : Addr} {xs : List V} (h : SqT K H t xs) : TyX K H (.ref t) (.type "tuple") := by
  rcases h with (h | ⟨o, h⟩) | ⟨o, its, n, hk, hc, _⟩
  · exact .base (.tup h)
  · exact .fTuple h
  · exact .kTuple hk hc

def stR (t : List Int) (p : Int × Int) : List Int := addP t (powL p.1 p.2)
theorem stR_len (n : Nat) : ∀ (ps : List (Int × Int)) (t : List Int), t.length ≤ n → (∀ p ∈ ps, p.1.toNat + 1 ≤ n) → (ps.foldl stR t).length ≤ n
  | [], t, h, _ => h
  | p :: r, t, h, hp => by
    refine stR_len n r _ (Nat.le_trans (addP_len _ _) (Nat.max_le.mpr ⟨h, ?_⟩)) fun q hq => hp q (List.mem_cons_of_mem _ hq)
    have := hp p (List.mem_cons_self ..)
    unfold powL
    split
    · exact Nat.zero_le _
    · rw [List.length_cons, List.length_replicate]
      exact this
theorem stR_step {t : List Int} {e c : Nat} (h : c ≠ 0) : stR t ((e : Int), (c : Int)) = stepP 1 [] t ((e : Int), (c : Int)) := by
  unfold stR stepP powL
  have h' : (c : Int) ≠ 0 := by omega
  show addP t (if (c : Int) = 0 then [] else (c : Int) :: List.replicate (e : Int).toNat 0) = addP t (if (e : Int) > 0 then (c : Int) :: zer (0 + (e : Int).toNat) else [1 * (c : Int)])
  rw [if_neg h']
  split
  · rw [Nat.zero_add]
    rfl
  · rename_i h0
    have : e = 0 := by omega
    subst this
    rw [Int.one_mul]
    rfl
theorem stR_fold : ∀ (ps : List (Int × Int)) (t : List Int), (∀ p ∈ ps, ∃ e c : Nat, p = ((e : Int), (c : Int)) ∧ e < 100 ∧ c < 10 ^ 18 ∧ c ≠ 0) → ps.foldl stR t = ps.foldl (stepP 1 []) t
  | [], _, _ => rfl
  | p :: r, t, h => by
    obtain ⟨e, c, rfl, _, _, hc⟩ := h p (List.mem_cons_self ..)
    show r.foldl stR (stR t _) = r.foldl (stepP 1 []) (stepP 1 [] t _)
    rw [stR_step hc]
    exact stR_fold r _ fun q hq => h q (List.mem_cons_of_mem _ hq)
theorem read_back {zs : List Int} (h : Ord zs) : (termsOf zs).foldl stR [] = zs := by
  obtain ⟨hl, h0, h1, hh⟩ := h
  unfold termsOf
  split
  · rename_i e
    have := back_terms hh
    rw [e] at this
    exact this
  · rw [stR_fold _ _ (terms_nat h0 h1 (by omega)), back_terms hh]
theorem termsOf_nat {zs : List Int} (h : Ord zs) : ∀ p ∈ termsOf zs, ∃ e c : Nat, p = ((e : Int), (c : Int)) ∧ e < 100 ∧ c < 10 ^ 18 := by
  obtain ⟨hl, h0, h1, hh⟩ := h
  unfold termsOf
  split
  · intro p hp
    rw [List.mem_singleton.mp hp]
    exact ⟨0, 0, rfl, by decide, by decide⟩
  · intro p hp
    obtain ⟨e, c, he, a, b, _⟩ := terms_nat h0 h1 (by omega) p hp
    exact ⟨e, c, he, a, b⟩
theorem joinL_len (S : List Nat) : ∀ ps : List (List Nat), (joinL S ps).length ≤ (ps.map (·.length)).sum + ps.length * S.length
  | [] => Nat.zero_le _
  | [p] => by
    show p.length ≤ _
    rw [List.map_cons, List.sum_cons]
    omega
  | p :: q :: r => by
    have ih := joinL_len S (q :: r)
    show (p ++ (S ++ joinL S (q :: r))).length ≤ _
    rw [List.length_append, List.length_append, List.map_cons, List.sum_cons, List.length_cons, Nat.add_mul]
    omega
theorem termsOf_len {zs : List Int} (h : Ord zs) : (termsOf zs).length ≤ 64 := by
  have e2 := termsTo_len zs.length zs 0
  have e2 : (terms zs).length ≤ zs.length := e2
  have := h.1
  unfold termsOf
  split
  · exact Nat.le_trans (Nat.le_refl 1) (by decide)
  · omega
theorem text_len {zs : List Int} (h : Ord zs) : (textS zs).length ≤ 10000 := by
  unfold textS
  rw [join_eq, len_tl, tl_join]
  have e1 := joinL_len (tl " + ") (((termsOf zs).map termS).map tl)
  have e2 := sum_le (fun l : List Nat => l.length) 30 (((termsOf zs).map termS).map tl) (by
    intro l hl
    obtain ⟨s, hs, rfl⟩ := List.mem_map.mp hl
    obtain ⟨p, hp, rfl⟩ := List.mem_map.mp hs
    obtain ⟨e, c, rfl, he, hc⟩ := termsOf_nat h p hp
    exact termL_len he hc)
  have e3 := termsOf_len h
  have e4 : (tl " + ").length = 3 := by decide +kernel
  rw [List.length_map, List.length_map] at e1 e2
  rw [e4] at e1
  have e2 : (List.map (fun x => List.length x) (List.map tl (List.map termS (termsOf zs)))).sum ≤ (termsOf zs).length * 30 := e2
  omega
end Lim
set_option maxHeartbeats 1000000
namespace Lim
open PySem PySem.Spec PyProof.Rows L2 TL
section
variable {P : Program} {w : World} {K : PySem.W.Frag} {mg : Str → Option Value} {base : Heap}
theorem dp_txts {H : Hp} : ∀ ys : List Str, DpAll K H (ys.map V.str) (ys.map PyData.str)
  | [] => .nil
  | z :: r => .cons (.str z) (dp_txts r)
theorem lay_txts : ∀ ys : List Str, (∀ z ∈ ys, PyData.strOk z = true) → PyData.canLayAll0 (ys.map PyData.str) = true ∧ PyData.depthAll (ys.map PyData.str) ≤ 1
  | [], _ => by simp [PyData.canLayAll0, PyData.depthAll]
  | z :: r, h => by
    have ⟨h1, h2⟩ := lay_txts r fun y hy => h y (List.mem_cons_of_mem _ hy)
    have h3 := h z (List.mem_cons_self ..)
    simp [PyData.canLayAll0, PyData.canLay0, PyData.depthAll, PyData.depth, h1, h3, h2]
theorem shaped_txts (ys : List Str) (h : ∀ z ∈ ys, PyData.strOk z = true) : SeqAt.shaped (.list (ys.map PyData.str)) = true := by
  have ⟨h1, h2⟩ := lay_txts ys h
  unfold SeqAt.shaped
  simp [PyData.canLay0, PyData.depth, h1]
  omega
theorem numL_lt128 (n : Nat) : ∀ s ∈ numL n, s < 128 := fun s hs => by
  have := numL_digits n s hs
  omega
theorem baseL_lt (e : Nat) : ∀ s ∈ baseL e, s < 128 := by
  intro s hs
  unfold baseL at hs
  split at hs
  · simp at hs
    omega
  · rcases List.mem_append.mp hs with h | h
    · simp at h
      omega
    · exact numL_lt128 e s h
theorem termL_lt (e c : Nat) : ∀ s ∈ termL e c, s < 128 := by
  intro s hs
  unfold termL at hs
  split at hs
  · exact numL_lt128 c s hs
  · split at hs
    · exact baseL_lt e s hs
    · rcases List.mem_append.mp hs with h | h
      · rcases List.mem_append.mp h with h | h
        · exact baseL_lt e s h
        · simp at h
          omega
      · exact numL_lt128 c s h
theorem ok_of_lt {x : Str} (h : ∀ s ∈ tl x, s < 128) : PyData.strOk x = true := by
  unfold PyData.strOk
  rw [Array.all_eq_true']
  intro s hs
  have := h s (Array.mem_toList_iff.mpr hs)
  exact decide_eq_true (by omega)
theorem termS_ok (p : Int × Int) : PyData.strOk (termS p) = true := ok_of_lt (termL_lt _ _)
/-- all but one place is kept -/
def KP (l : Addr) (H H' : Hp) : Prop := ∀ b o, H b = some o → b ≠ l → H' b = some o
theorem prs_kp {l : Addr} {H H' : Hp} {vs : List V} {ps : List (Int × Int)} {xs : List V} (h : Prs H vs ps) (hl : H l = some (.lst xs)) (k : KP l H H') : Prs H' vs ps :=
  Paired.imp (fun _ _ ⟨c, e, q⟩ => ⟨c, e, k _ _ q fun z => by
    rw [z, hl] at q
    cases q⟩) h
theorem scCan : FnScope ["ordinal", "parts", "exponent", "number", "base", "factor"] ["ordinal"] (defScope sCan) := ⟨rfl, rfl, rfl, by decide +kernel, rfl, by decide +kernel, by decide +kernel⟩
def spCan (K : PySem.W.Frag) : Sp := fun vs H Q _ => ∃ (a : Addr) (zs : List Int), vs = [.ref a] ∧ SqT K H a (zs.map V.int) ∧ Ord zs ∧ ∀ H', Same H H' → Q (.str (textS zs)) H'

theorem ok_can {f fT : Addr} {fd dT : FuncData} {k : Nat} (F : Fun K "_law_canonical_text" "_law_canonical_text" sCan f fd) (ms : mg "str" = none)
    (GT : FnOk P w K mg base CX0 (k + 1) fT dT ["ordinal"] (spTrm K)) (kT : PySem.W.keepIn K (.ref fT) = true) (bT : Binds K dT ["ordinal"] []) (gT : mg "_law_term_list" = some (.ref fT)) :
    FnOk P w K mg base CX0 (k + 2) f fd ["ordinal"] (spCan K) := by
  refine F.ok scCan (fun vs H Q E h => ?_) (fun cdv A outer s H vs Q E hr h => ?_)
  · obtain ⟨a, zs, rfl, _⟩ := h
    rfl
  · obtain ⟨a, zs, rfl, hT, ho, q⟩ := h
    refine ⟨_, (pss_cons (ps_set (i := 1) scCan.nd rfl (.inl rfl) (pe_lst pa_nil))
        (C8.pss_cut (ps_for PassesOwn.never rfl (pi_list (pe_call GT hr (by rfl) gT kT bT .nil pass0 (pa_cons (pv 0) pa_nil))) (pg_tup rfl (pgs_cons (pg_name (i := 2) scCan.nd rfl (.inl rfl)) (pgs_cons (pg_name (i := 3) scCan.nd rfl (.inl rfl)) pgs_nil))) (C8.pss_cut (ps_set (i := 4) scCan.nd rfl (.inl rfl) (pe_ifExp (pt_cmpR op_gt (pv 2) (pe_int) (nomark _)) (pe_op op_add_str (pe_str) (pe_callTy call_str_int (by rfl) ms (by decide +kernel) (pa_cons (pv 2) pa_nil))) (pe_str)))
        (C8.pss_cut (ps_set (i := 5) scCan.nd rfl (.inl rfl) (pe_ifExp (pt_cmpR op_gt (pv 3) (pe_int) (nomark _)) (pe_op op_add_str (pe_str) (pe_callTy call_str_int (by rfl) ms (by decide +kernel) (pa_cons (pv 3) pa_nil))) (pe_str)))
        (pss_one (ps_expr (pe_bm PySem.F.plainAttrs_list PySem.F.slot_list_append PySem.F.type_list_append mt_append (pv 1) (pa_cons (pe_ifExp (pt_cmpR op_eq (pv 2) (pe_int) (nomark _)) (pe_callTy call_str_int (by rfl) ms (by decide +kernel) (pa_cons (pv 3) pa_nil)) (pe_op op_add_str (pv 4) (pv 5))) pa_nil)))))))
        (pss_one (ps_ret (pe_ifExp (pt_cmpR (op_neD hr.units) (pv 1) (pe_lst pa_nil) (nomark _)) (pe_join pe_str (pv 1)) (pe_str)))))), ?_⟩
    obtain ⟨hlen, h0, h1, hh⟩ := id ho
    have htn := terms_nat h0 h1 (by omega)
    have htl : (terms zs).length ≤ 64 := Nat.le_trans (termsTo_len zs.length zs 0) hlen
    refine ⟨Nat.zero_le _, fun l nl => ?_⟩
    have sl0 := same_upd (o := .lst []) nl
    refine ⟨fun σ H' => ∃ y2 y3 y4 y5, σ = [some (.ref a), some (.ref l), y2, y3, y4, y5] ∧ Same H H' ∧ H' l = some (.lst (((terms zs).map termS).map V.str)), ?_, ?_⟩
    · refine ⟨_, rfl, a, zs, rfl, Same.seqT sl0 hT, by omega, fun D H1 us s1 nD hD hp => ⟨D, rfl, ⟨_, .inl (.inl hD)⟩, ?_⟩⟩
      have hl1 : H1 l = some (.lst []) := s1 _ _ upd_same
      have hDl : D ≠ l := fun e => by
        rw [e] at nD
        exact absurd (upd_same (H := H) (a := l) (o := .lst [])) (by rw [nD]; simp)
      refine for_list (K := K) (a := D) (xs := us) (fun i σ H' => ∃ y2 y3 y4 y5, σ = [some (.ref a), some (.ref l), y2, y3, y4, y5] ∧ KP l H1 H' ∧ H' l = some (.lst ((((terms zs).take i).map termS).map V.str))) ?_ ?_ ?_ ?_
      · exact ⟨none, none, none, none, rfl, fun _ _ h _ => h, hl1⟩
      · rintro i σ H' _ ⟨_, _, _, _, _, kp, _⟩
        exact .inl (.inl (kp _ _ hD hDl))
      · rintro i x σ H2 hx ⟨y2, y3, y4, y5, rfl, kp, hl⟩
        obtain ⟨⟨e0, c0⟩, hy, T, rfl, hTT⟩ := Paired.at (prs_kp hp hl1 kp) hx
        have hm := List.mem_of_getElem? hy
        obtain ⟨e, c, hec, he, hc, hc0⟩ := htn _ hm
        cases hec
        have etk : ((terms zs).take (i + 1)).map termS = ((terms zs).take i).map termS ++ [mkS (termL e c)] := by
          rw [List.take_add_one, hy, List.map_append]
          rfl
        have ne := numL_len (n := e) (k := 2) (by decide) he
        have nc := numL_len (n := c) (k := 18) (by decide) hc
        refine ⟨T, _, rfl, .inl (.inl hTT), rfl, _, _, rfl, _, _, rfl, rfl, ?_⟩
        -- base
        refine ⟨fun σ H' => ∃ b : Str, σ = [some (.ref a), some (.ref l), some (.int (e : Int)), some (.int (c : Int)), some (.str b), y5] ∧ H' = H2 ∧ (e ≠ 0 → b = mkS (baseL e)) ∧ b.length ≤ 10, ?_, ?_⟩
        · refine ⟨_, rfl, _, _, rfl, rfl, _, rfl, ite2 (fun c1 => ?_) (fun c1 => ?_)⟩
          · have e1 : e ≠ 1 := fun z => by
              have := of_decide_eq_true c1
              omega
            have tx : tl ("w^" ++ Str.ofString (toString (e : Int))) = 119 :: 94 :: numL e := by
              rw [tl_append, tl_num]
              rfl
            have lx : ("w^" ++ Str.ofString (toString (e : Int)) : Str).length ≤ 10 := by
              rw [len_tl, tx]
              show (numL e).length + 2 ≤ 10
              omega
            refine ⟨_, rfl, _, rfl, nat_small (Nat.lt_trans he (by decide)), _, _, rfl, rfl, ?_, _, rfl, rfl, fun _ => ?_, lx⟩
            · show ("w^" : Str).length + (Str.ofString (toString (e : Int))).length ≤ sizeLine
              rw [num_str, len_tl, len_tl, tl_mkS]
              exact Nat.le_trans (Nat.add_le_add_left ne _) (by decide +kernel)
            · refine eq_mkS ?_
              rw [tx]
              unfold baseL
              rw [if_neg e1]
              rfl
          · have e1 : ¬ (1 : Int) < (e : Int) := fun z => c1 (decide_eq_true z)
            refine ⟨_, rfl, rfl, fun h => ?_, by decide +kernel⟩
            have : e = 1 := by omega
            subst this
            rfl
        · rintro σ H' ⟨b, rfl, rfl, hb, lb⟩
          refine ⟨fun σ H'' => ∃ d : Str, σ = [some (.ref a), some (.ref l), some (.int (e : Int)), some (.int (c : Int)), some (.str b), some (.str d)] ∧ H'' = H' ∧ tl d = (if c = 1 then [] else 42 :: numL c) ∧ d.length ≤ 30, ?_, ?_⟩
          · refine ⟨_, rfl, _, _, rfl, rfl, _, rfl, ite2 (fun c1 => ?_) (fun c1 => ?_)⟩
            · have e1 : c ≠ 1 := fun z => by
                have := of_decide_eq_true c1
                omega
              have tx : tl ("*" ++ Str.ofString (toString (c : Int))) = 42 :: numL c := by
                rw [tl_append, tl_num]
                rfl
              have lx : ("*" ++ Str.ofString (toString (c : Int)) : Str).length ≤ 30 := by
                rw [len_tl, tx]
                show (numL c).length + 1 ≤ 30
                omega
              refine ⟨_, rfl, _, rfl, nat_small hc, _, _, rfl, rfl, ?_, _, rfl, rfl, ?_, lx⟩
              · show ("*" : Str).length + (Str.ofString (toString (c : Int))).length ≤ sizeLine
                rw [num_str, len_tl, len_tl, tl_mkS]
                exact Nat.le_trans (Nat.add_le_add_left nc _) (by decide +kernel)
              · rw [tx, if_neg e1]
            · have e1 : ¬ (1 : Int) < (c : Int) := fun z => c1 (decide_eq_true z)
              have : c = 1 := by omega
              refine ⟨_, rfl, rfl, ?_, by decide +kernel⟩
              rw [if_pos this]
              rfl
          · rintro σ H3 ⟨d, rfl, rfl, hd, ld⟩
            have app : ∀ x : Str, tl x = termL e c → ∃ (p : Addr) (xs : List V) (v : V), V.ref l = .ref p ∧ [V.str x] = [v] ∧ H3 p = some (.lst xs) ∧ xs.length < sizeLine ∧ ∃ y2 y3 y4 y5, [some (V.ref a), some (V.ref l), some (V.int (e : Int)), some (V.int (c : Int)), some (V.str b), some (V.str d)] = [some (.ref a), some (.ref l), y2, y3, y4, y5] ∧ KP l H1 (upd H3 p (.lst (xs ++ [v]))) ∧ (upd H3 p (.lst (xs ++ [v]))) l = some (.lst ((((terms zs).take (i + 1)).map termS).map V.str)) := by
              intro x hx
              refine ⟨l, _, _, rfl, rfl, hl, ?_, _, _, _, _, rfl, ?_, ?_⟩
              · rw [List.length_map, List.length_map, List.length_take]
                exact small1000 (by omega)
              · exact fun b' o hb' ne' => by
                  rw [upd_ne ne']
                  exact kp _ _ hb' ne'
              · rw [upd_same, etk, List.map_append, eq_mkS hx]
                rfl
            refine ⟨_, rfl, .inl ⟨rfl, _, .inl (.inl hl)⟩, _, rfl, rfl, _, rfl, ite2 (fun c2 => ?_) (fun c2 => ?_)⟩
            · have e1 : e = 0 := by
                have := V.int.inj (of_decide_eq_true c2)
                omega
              refine ⟨_, rfl, _, rfl, nat_small hc, app _ ?_⟩
              rw [tl_num]
              unfold termL
              rw [if_pos e1]
            · have e1 : e ≠ 0 := fun z => c2 (decide_eq_true (by rw [z]; rfl))
              refine ⟨_, rfl, _, rfl, _, _, rfl, rfl, ?_, app _ ?_⟩
              · exact Nat.le_trans (Nat.add_le_add lb ld) (by decide +kernel)
              · rw [tl_append, hb e1, tl_mkS, hd]
                unfold termL
                rw [if_neg e1]
                by_cases z : c = 1
                · rw [if_pos z, if_pos z, List.append_nil]
                · rw [if_neg z, if_neg z, List.append_assoc]
                  rfl
      · rintro σ H2 ⟨y2, y3, y4, y5, rfl, kp, hl⟩
        have hlu : us.length = (terms zs).length := Paired.length hp
        rw [hlu, List.take_length] at hl
        refine ⟨_, _, _, _, rfl, fun b o e => ?_, hl⟩
        exact kp _ _ (s1 _ _ (sl0 _ _ e)) (ne_of_none e nl)
    · rintro σ H1 ⟨y2, y3, y4, y5, rfl, sm, hl⟩
      refine ⟨_, rfl, Nat.zero_le _, fun p0 np0 => ?_⟩
      have s0 := same_upd (o := .lst []) np0
      have hl0 := s0 _ _ hl
      refine ⟨_, .list [], .lst (.inl (.inl hl0)) (dp_txts _), .lst (.inl (.inl upd_same)) .nil, shaped_txts _ (fun z hz => by
        obtain ⟨p, _, rfl⟩ := List.mem_map.mp hz
        exact termS_ok p), shaped_txts [] (by simp), _, rfl, ?_⟩
      rw [eqv_nil]
      have qq := q _ (sm.trans s0)
      refine ite2 (fun c => ?_) (fun c => ?_)
      · have ne : terms zs ≠ [] := fun e => by
          rw [e] at c
          revert c
          decide +kernel
        refine ⟨⟨_, rfl⟩, _, rfl, _, l, _, rfl, rfl, .inl (.inl (.inl hl0)), join_small h0 h1 (by omega), ?_⟩
        unfold textS termsOf at qq
        rw [if_neg ne] at qq
        exact qq
      · have e : terms zs = [] := by
          cases h : terms zs with
          | nil => rfl
          | cons p r => exact absurd (by rw [h]; rfl) c
        rw [textS_zero e] at qq
        exact qq
end
end Lim
set_option maxHeartbeats 2000000
namespace Lim
open PySem PySem.Spec PyProof.Rows L2 TL
/-! ### numbers, terms and texts read, on lists of codes -/
def digB (l : List Nat) : Bool := l.all fun c => decide (48 ≤ c) && decide (c ≤ 57)
theorem digB_iff {l : List Nat} : digB l = true ↔ NumText.AllDigits l := by
  unfold digB
  rw [List.all_eq_true]
  constructor
  · intro h c hc
    have := h c hc
    rw [Bool.and_eq_true] at this
    exact ⟨of_decide_eq_true this.1, of_decide_eq_true this.2⟩
  · intro h c hc
    have := h c hc
    rw [decide_eq_true this.1, decide_eq_true this.2]
    rfl
theorem dv_snoc (l : List Nat) (d : Nat) : NumText.digitsVal (l ++ [d]) = NumText.digitsVal l * 10 + (d - 48) := by
  unfold NumText.digitsVal
  rw [List.foldl_append]
  rfl
theorem rev_ind {P : List Nat → Prop} (h0 : P []) (hs : ∀ l d, P l → P (l ++ [d])) : ∀ l, P l := by
  intro l
  have key : ∀ m : List Nat, P m.reverse := by
    intro m
    induction m with
    | nil => exact h0
    | cons d r ih =>
      rw [List.reverse_cons]
      exact hs _ _ ih
  have := key l.reverse
  rwa [List.reverse_reverse] at this
theorem dv_lt : ∀ l : List Nat, NumText.AllDigits l → NumText.digitsVal l < 10 ^ l.length := by
  refine rev_ind (fun _ => by decide) fun l d ih h => ?_
  have h1 := ih fun c hc => h c (List.mem_append_left _ hc)
  have hd := h d (List.mem_append_right _ (List.mem_singleton.mpr rfl))
  rw [dv_snoc, List.length_append, List.length_singleton, Nat.pow_succ]
  omega
theorem dv_pos : ∀ l : List Nat, NumText.AllDigits l → l ≠ [] → l.head? ≠ some 48 → 1 ≤ NumText.digitsVal l := by
  refine rev_ind (fun _ h => absurd rfl h) fun l d ih h _ h3 => ?_
  rw [dv_snoc]
  by_cases e : l = []
  · subst e
    have hd := h d (List.mem_singleton.mpr rfl)
    have : d ≠ 48 := fun z => h3 (by rw [z]; rfl)
    omega
  · have := ih (fun c hc => h c (List.mem_append_left _ hc)) e (by
      intro z
      apply h3
      rw [List.head?_append, z]
      rfl)
    omega
/-- digits without a leading zero are the signs of their value -/
theorem num_back : ∀ l : List Nat, NumText.AllDigits l → l ≠ [] → l.head? ≠ some 48 → l = numL (NumText.digitsVal l) := by
  refine rev_ind (fun _ h => absurd rfl h) fun l d ih h _ h3 => ?_
  have hd := h d (List.mem_append_right _ (List.mem_singleton.mpr rfl))
  rw [dv_snoc]
  by_cases e : l = []
  · subst e
    show [d] = numL (0 * 10 + (d - 48))
    rw [Nat.zero_mul, Nat.zero_add, numL_lt (by omega)]
    congr 1
    omega
  · have hl : NumText.AllDigits l := fun c hc => h c (List.mem_append_left _ hc)
    have hh : l.head? ≠ some 48 := fun z => h3 (by rw [List.head?_append, z]; rfl)
    have h1 := dv_pos l hl e hh
    have h2 := ih hl e hh
    rw [numL_step (by omega)]
    have e1 : (NumText.digitsVal l * 10 + (d - 48)) / 10 = NumText.digitsVal l := by omega
    have e2 : (NumText.digitsVal l * 10 + (d - 48)) % 10 = d - 48 := by omega
    rw [e1, e2, ← h2]
    congr 2
    omega
theorem numL_head {n : Nat} (h : 1 ≤ n) : (numL n).head? ≠ some 48 := by
  intro z
  cases hl : numL n with
  | nil => exact numL_ne n hl
  | cons a r =>
    rw [hl] at z
    have ha : a = 48 := by simpa using z
    subst ha
    -- the value below the power of the rest
    have hd := numL_digits n
    rw [hl] at hd
    have hv := numL_val n
    rw [hl] at hv
    have e0 : NumText.digitsVal (48 :: r) = NumText.digitsVal r := rfl
    rw [e0] at hv
    have hr : NumText.AllDigits r := fun c hc => hd c (List.mem_cons_of_mem _ hc)
    have hlt := dv_lt r hr
    rw [hv] at hlt
    by_cases hk : r.length = 0
    · rw [hk] at hlt
      omega
    · have := numL_len (n := n) (k := r.length) (by omega) hlt
      rw [hl, List.length_cons] at this
      omega
/-- the program's numbers -/
def pNum (m : Nat) (l : List Nat) : Option Nat := if l ≠ [] ∧ l.length ≤ m ∧ digB l = true then some (NumText.digitsVal l) else none
theorem pNum_lt {m n : Nat} {l : List Nat} (h : pNum m l = some n) : n < 10 ^ m := by
  unfold pNum at h
  split at h
  · rename_i c
    cases h
    exact Nat.lt_of_lt_of_le (dv_lt l (digB_iff.mp c.2.2)) (Nat.pow_le_pow_right (by decide) c.2.1)
  · cases h
theorem pNum_num {m n : Nat} (h : (numL n).length ≤ m) : pNum m (numL n) = some n := by
  unfold pNum
  rw [if_pos ⟨numL_ne n, h, digB_iff.mpr (numL_digits n)⟩, numL_val]
/-- the law's numbers -/
def lNum (lo hi : Nat) (l : List Nat) : Option Nat := if l ≠ [] ∧ l.length < 20 ∧ digB l = true ∧ l.head? ≠ some 48 ∧ lo ≤ NumText.digitsVal l ∧ NumText.digitsVal l < hi then some (NumText.digitsVal l) else none
theorem lNum_some {lo hi n : Nat} {l : List Nat} (h : lNum lo hi l = some n) : l = numL n ∧ lo ≤ n ∧ n < hi := by
  unfold lNum at h
  split at h
  · rename_i c
    cases h
    exact ⟨num_back l (digB_iff.mp c.2.2.1) c.1 c.2.2.2.1, c.2.2.2.2⟩
  · cases h
theorem lNum_num {lo hi n : Nat} (h1 : 1 ≤ n) (h2 : lo ≤ n) (h3 : n < hi) (h4 : hi ≤ 10 ^ 19) : lNum lo hi (numL n) = some n := by
  unfold lNum
  have := numL_len (n := n) (k := 19) (by decide) (by omega)
  rw [numL_val, if_pos ⟨numL_ne n, by omega, digB_iff.mpr (numL_digits n), numL_head h1, h2, h3⟩]
/-! terms -/
theorem par_some {S : List Nat} : ∀ {l acc a b : List Nat}, par S acc l = some (a, b) → acc ++ l = a ++ S ++ b
  | [], acc, a, b, h => by cases h
  | c :: r, acc, a, b, h => by
    by_cases hp : pre S (c :: r) = true
    · rw [par_hit hp] at h
      cases h
      have e : (c :: r).take S.length = S := by
        unfold pre at hp
        exact eq_of_beq hp
      rw [List.append_assoc]
      congr 1
      have := List.take_append_drop S.length (c :: r)
      rw [e] at this
      exact this.symm
    · have hp : pre S (c :: r) = false := by simpa using hp
      rw [par_miss hp] at h
      have := par_some h
      rw [List.append_assoc] at this
      exact this
def part3 (l : List Nat) : List Nat × Bool × List Nat := match par [42] [] l with
  | some (a, b) => (a, true, b)
  | none => (l, false, [])
def pTerm (l : List Nat) : Option (Nat × Nat) :=
  if pre [119] (part3 l).1 = false then (pNum 18 l).map fun n => (0, n)
  else match (if (part3 l).2.1 = true then pNum 18 (part3 l).2.2 else some 1) with
    | none => none
    | some c => if (part3 l).1 = [119] then some (1, c) else if pre [119, 94] (part3 l).1 = false then none else (pNum 2 ((part3 l).1.drop 2)).map fun e => (e, c)
def lTerm (l : List Nat) : Option (Nat × Nat) :=
  if pre [119] l = false then (lNum 1 (10 ^ 18) l).map fun n => (0, n)
  else match (if (part3 l).2.1 = true then lNum 2 (10 ^ 18) (part3 l).2.2 else some 1), (if (part3 l).1 = [119] then some 1 else if pre [119, 94] (part3 l).1 = true then lNum 2 64 ((part3 l).1.drop 2) else none) with
    | some n, some e => some (e, n)
    | _, _ => none
theorem part_base3 (e : Nat) : part3 (baseL e) = (baseL e, false, []) := by
  unfold part3
  rw [par_none1 (baseL_free (by decide) (by decide) (by decide))]
theorem part_num3 (n : Nat) : part3 (numL n) = (numL n, false, []) := by
  unfold part3
  rw [par_none1 (numL_free (by decide))]
theorem part_both3 (e c : Nat) : part3 (baseL e ++ [42] ++ numL c) = (baseL e, true, numL c) := by
  unfold part3
  rw [List.append_assoc, par_part1 (S := []) (baseL_free (by decide) (by decide) (by decide))]
  rfl
theorem pre_base (e : Nat) : pre [119] (baseL e) = true := by
  unfold baseL
  split
  · rfl
  · rfl
theorem pre_base2 {e : Nat} (h : e ≠ 1) : pre [119, 94] (baseL e) = true := by
  unfold baseL
  rw [if_neg h]
  rfl
theorem pre_num (n : Nat) : pre [119] (numL n) = false := by
  cases h : numL n with
  | nil => exact absurd h (numL_ne n)
  | cons d r =>
    have hd := numL_digits n d (by rw [h]; exact List.mem_cons_self ..)
    exact pre_of_head _ _ (by omega)
theorem base_w {e : Nat} (h : e ≠ 1) : baseL e ≠ [119] := by
  unfold baseL
  rw [if_neg h]
  simp
theorem drop_base {e : Nat} (h : e ≠ 1) : (baseL e).drop 2 = numL e := by
  unfold baseL
  rw [if_neg h]
  rfl
theorem pTerm_term {e c : Nat} (he : e < 100) (hc : c < 10 ^ 18) : pTerm (termL e c) = some (e, c) := by
  have n1 := numL_len (n := c) (k := 18) (by decide) hc
  have n2 := numL_len (n := e) (k := 2) (by decide) he
  unfold termL
  by_cases e0 : e = 0
  · rw [if_pos e0]
    unfold pTerm
    rw [part_num3, if_pos (pre_num c), pNum_num n1, e0]
    rfl
  rw [if_neg e0]
  have fin : ∀ l : List Nat, (part3 l).1 = baseL e → (if (part3 l).2.1 = true then pNum 18 (part3 l).2.2 else some 1) = some c → pTerm l = some (e, c) := by
    intro l h1 h2
    unfold pTerm
    rw [h1, h2, if_neg (by rw [pre_base]; decide)]
    show (if baseL e = [119] then some (1, c) else if pre [119, 94] (baseL e) = false then none else (pNum 2 ((baseL e).drop 2)).map fun e => (e, c)) = some (e, c)
    by_cases e1 : e = 1
    · subst e1
      rw [if_pos (by unfold baseL; rw [if_pos rfl])]
    · rw [if_neg (base_w e1), if_neg (by rw [pre_base2 e1]; decide), drop_base e1, pNum_num n2]
      rfl
  by_cases c1 : c = 1
  · rw [if_pos c1]
    refine fin _ ?_ ?_
    · rw [part_base3]
    · rw [part_base3, c1]
      rfl
  · rw [if_neg c1]
    refine fin _ ?_ ?_
    · rw [part_both3]
    · rw [part_both3]
      show (if true = true then pNum 18 (numL c) else some 1) = some c
      rw [if_pos rfl, pNum_num n1]
theorem pTerm_lt {l : List Nat} {e c : Nat} (h : pTerm l = some (e, c)) : e < 100 ∧ c < 10 ^ 18 := by
  unfold pTerm at h
  split at h
  · cases hn : pNum 18 l with
    | none => rw [hn] at h; cases h
    | some n =>
      rw [hn] at h
      cases h
      exact ⟨by decide, pNum_lt hn⟩
  · have hc : ∀ m, (if (part3 l).2.1 = true then pNum 18 (part3 l).2.2 else some 1) = some m → m < 10 ^ 18 := by
      intro m hm
      split at hm
      · exact pNum_lt hm
      · cases hm
        decide
    generalize (if (part3 l).2.1 = true then pNum 18 (part3 l).2.2 else some 1) = o at h hc
    cases o with
    | none => cases h
    | some m =>
      have hm := hc m rfl
      simp only at h
      split at h
      · cases h
        exact ⟨by decide, hm⟩
      · split at h
        · cases h
        · cases hn : pNum 2 ((part3 l).1.drop 2) with
          | none => rw [hn] at h; cases h
          | some n =>
            rw [hn] at h
            cases h
            exact ⟨pNum_lt hn, hm⟩
theorem lTerm_term {e c : Nat} (he : e < 64) (h1 : 1 ≤ c) (hc : c < 10 ^ 18) : lTerm (termL e c) = some (e, c) := by
  unfold termL
  by_cases e0 : e = 0
  · rw [if_pos e0]
    unfold lTerm
    rw [if_pos (pre_num c), lNum_num h1 h1 hc (by decide), e0]
    rfl
  rw [if_neg e0]
  have fin : ∀ l : List Nat, pre [119] l = true → (part3 l).1 = baseL e → (if (part3 l).2.1 = true then lNum 2 (10 ^ 18) (part3 l).2.2 else some 1) = some c → lTerm l = some (e, c) := by
    intro l h0 h1 h2
    unfold lTerm
    rw [h1, h2, if_neg (by rw [h0]; decide)]
    have : (if baseL e = [119] then some 1 else if pre [119, 94] (baseL e) = true then lNum 2 64 ((baseL e).drop 2) else none) = some e := by
      by_cases e1 : e = 1
      · subst e1
        rw [if_pos (by unfold baseL; rw [if_pos rfl])]
      · rw [if_neg (base_w e1), if_pos (pre_base2 e1), drop_base e1]
        exact lNum_num (by omega) (by omega) he (by decide)
    rw [this]
  by_cases c1 : c = 1
  · rw [if_pos c1]
    refine fin _ (pre_base e) ?_ ?_
    · rw [part_base3]
    · rw [part_base3, c1]
      rfl
  · rw [if_neg c1]
    refine fin _ ?_ ?_ ?_
    · unfold baseL
      split
      · rfl
      · rfl
    · rw [part_both3]
    · rw [part_both3]
      show (if true = true then lNum 2 (10 ^ 18) (numL c) else some 1) = some c
      rw [if_pos rfl, lNum_num h1 (by omega) hc (by decide)]
theorem lTerm_some {l : List Nat} {e c : Nat} (h : lTerm l = some (e, c)) : l = termL e c ∧ e < 64 ∧ 1 ≤ c ∧ c < 10 ^ 18 := by
  unfold lTerm at h
  split at h
  · cases hn : lNum 1 (10 ^ 18) l with
    | none => rw [hn] at h; cases h
    | some n =>
      rw [hn] at h
      cases h
      obtain ⟨h1, h2, h3⟩ := lNum_some hn
      exact ⟨by rw [h1]; rfl, by decide, h2, h3⟩
  · -- the parts
    cases hp : par [42] [] l with
    | none =>
      have e3 : part3 l = (l, false, []) := by
        unfold part3
        rw [hp]
      rw [e3] at h
      simp only [Bool.false_eq_true, if_false] at h
      split at h
      · cases h
        rename_i x1 x2 hy hx
        cases hx
        split at hy
        · cases hy
          rename_i hl
          exact ⟨by rw [hl]; rfl, by decide, by decide, by decide⟩
        · split at hy
          · rename_i hl hpre
            obtain ⟨h1, h2, h3⟩ := lNum_some hy
            have hl2 : l = [119, 94] ++ l.drop 2 := by
              have e : l.take 2 = [119, 94] := eq_of_beq hpre
              rw [← e, List.take_append_drop]
            refine ⟨?_, h3, by decide, by decide⟩
            unfold termL baseL
            rw [if_neg (by omega), if_pos rfl, if_neg (by omega), ← h1]
            exact hl2
          · cases hy
      · cases h
    | some ab =>
      obtain ⟨a, b⟩ := ab
      have e3 : part3 l = (a, true, b) := by
        unfold part3
        rw [hp]
      have el : l = a ++ [42] ++ b := by
        have := par_some hp
        rwa [List.nil_append] at this
      rw [e3] at h
      simp only [if_true] at h
      split at h
      · cases h
        rename_i x1 x2 hy hx
        obtain ⟨h1, h2, h3⟩ := lNum_some hx
        have fin : a = baseL e → e < 64 → e ≠ 0 → l = termL e c ∧ e < 64 ∧ 1 ≤ c ∧ c < 10 ^ 18 := fun q1 q2 q3 => by
          refine ⟨?_, q2, by omega, h3⟩
          unfold termL
          rw [if_neg q3, if_neg (by omega), ← q1, ← h1]
          exact el
        split at hy
        · cases hy
          rename_i hl
          exact fin (by rw [hl]; rfl) (by decide) (by decide)
        · split at hy
          · rename_i hl hpre
            obtain ⟨g1, g2, g3⟩ := lNum_some hy
            have hl2 : a = [119, 94] ++ a.drop 2 := by
              have e : a.take 2 = [119, 94] := eq_of_beq hpre
              rw [← e, List.take_append_drop]
            refine fin ?_ g3 (by omega)
            unfold baseL
            rw [if_neg (by omega), ← g1]
            exact hl2
          · cases hy
      · cases h
end Lim
set_option maxHeartbeats 2000000
namespace Lim
open PySem PySem.Spec PyProof.Rows L2 TL
/-! ### a text, split and joined -/
theorem spl_ne (S : List Nat) : ∀ (l : List Nat) (k : Nat) (acc : List Nat), spl S k acc l ≠ []
  | [], k, acc => by rw [spl_nil]; simp
  | c :: r, 0, acc => by
    by_cases h : pre S (c :: r) = true
    · rw [spl_hit h]; simp
    · rw [spl_miss (by simpa using h)]
      exact spl_ne S r 0 _
  | c :: r, k + 1, acc => spl_ne S r k acc
theorem joinL_cons {S p : List Nat} {ps : List (List Nat)} (h : ps ≠ []) : joinL S (p :: ps) = p ++ (S ++ joinL S ps) := by
  cases ps with
  | nil => exact absurd rfl h
  | cons q r => rfl
theorem join_spl {S : List Nat} (hS : S ≠ []) : ∀ (n : Nat) (l acc : List Nat), l.length ≤ n → joinL S (spl S 0 acc l) = acc ++ l := by
  intro n
  induction n with
  | zero =>
    intro l acc h
    have : l = [] := List.length_eq_zero_iff.mp (by omega)
    subst this
    rw [spl_nil]
    show acc = acc ++ []
    rw [List.append_nil]
  | succ n ih =>
    intro l acc h
    cases l with
    | nil =>
      rw [spl_nil]
      show acc = acc ++ []
      rw [List.append_nil]
    | cons c r =>
      rw [List.length_cons] at h
      by_cases hp : pre S (c :: r) = true
      · rw [spl_hit hp, spl_pass, joinL_cons (spl_ne _ _ _ _), ih _ _ (by rw [List.length_drop]; omega), List.nil_append]
        congr 1
        have e : (c :: r).take S.length = S := eq_of_beq hp
        obtain ⟨m, hm⟩ : ∃ m, S.length = m + 1 := by
          cases S with
          | nil => exact absurd rfl hS
          | cons a t => exact ⟨t.length, rfl⟩
        rw [hm, Nat.add_sub_cancel]
        have := List.take_append_drop S.length (c :: r)
        rw [e, hm, List.drop_succ_cons] at this
        exact this
      · rw [spl_miss (by simpa using hp), ih _ _ (by omega), List.append_assoc]
        rfl
/-! ### decreasing exponents -/
/-- what stands at the exponents below n -/
def zsOf : Nat → List (Nat × Nat) → List Int
  | 0, _ => []
  | n + 1, [] => 0 :: zsOf n []
  | n + 1, (e, c) :: r => if e = n then (c : Int) :: zsOf n r else 0 :: zsOf n ((e, c) :: r)
theorem zsOf_len : ∀ (n : Nat) (ps : List (Nat × Nat)), (zsOf n ps).length = n
  | 0, _ => rfl
  | n + 1, [] => by
    show (0 :: zsOf n []).length = n + 1
    rw [List.length_cons, zsOf_len n []]
  | n + 1, (e, c) :: r => by
    show (if e = n then (c : Int) :: zsOf n r else 0 :: zsOf n ((e, c) :: r)).length = n + 1
    split
    · rw [List.length_cons, zsOf_len n r]
    · rw [List.length_cons, zsOf_len n _]
theorem zsOf_mem : ∀ (n : Nat) (ps : List (Nat × Nat)) (z : Int), z ∈ zsOf n ps → z = 0 ∨ ∃ p ∈ ps, z = (p.2 : Int)
  | 0, _, z, h => by cases h
  | n + 1, [], z, h => by
    rcases List.mem_cons.mp (show z ∈ 0 :: zsOf n [] from h) with h | h
    · exact .inl h
    · exact zsOf_mem n [] z h
  | n + 1, (e, c) :: r, z, h => by
    have h : z ∈ (if e = n then (c : Int) :: zsOf n r else 0 :: zsOf n ((e, c) :: r)) := h
    split at h
    · rcases List.mem_cons.mp h with h | h
      · exact .inr ⟨_, List.mem_cons_self .., h⟩
      · rcases zsOf_mem n r z h with h | ⟨p, hp, h⟩
        · exact .inl h
        · exact .inr ⟨p, List.mem_cons_of_mem _ hp, h⟩
    · rcases List.mem_cons.mp h with h | h
      · exact .inl h
      · exact zsOf_mem n _ z h
/-- the exponents fall, below n -/
def Dec : Nat → List (Nat × Nat) → Prop
  | _, [] => True
  | n, p :: r => p.1 < n ∧ Dec p.1 r
theorem Dec.mono : ∀ {ps : List (Nat × Nat)} {n m : Nat}, Dec n ps → n ≤ m → Dec m ps
  | [], _, _, _, _ => trivial
  | p :: r, n, m, h, hm => ⟨Nat.lt_of_lt_of_le h.1 hm, h.2⟩
theorem zsOf_terms : ∀ (n i : Nat) (ps : List (Nat × Nat)), Dec n ps → (∀ p ∈ ps, p.2 ≠ 0) → termsTo (i + n) i (zsOf n ps) = ps.map fun p => ((p.1 : Int), (p.2 : Int))
  | 0, i, ps, hd, _ => by
    cases ps with
    | nil => rfl
    | cons p r => exact absurd hd.1 (Nat.not_lt_zero _)
  | n + 1, i, [], hd, h0 => by
    have ih := zsOf_terms n (i + 1) [] trivial h0
    show termsTo (i + (n + 1)) i (0 :: zsOf n []) = _
    have e : i + (n + 1) = i + 1 + n := by omega
    rw [e]
    unfold termsTo
    rw [if_pos rfl]
    exact ih
  | n + 1, i, (e, c) :: r, hd, h0 => by
    have e1 : i + (n + 1) = i + 1 + n := by omega
    show termsTo (i + (n + 1)) i (if e = n then (c : Int) :: zsOf n r else 0 :: zsOf n ((e, c) :: r)) = _
    by_cases he : e = n
    · subst he
      rw [if_pos rfl]
      have hc : (c : Int) ≠ 0 := by
        have := h0 _ (List.mem_cons_self ..)
        simpa using this
      have ih := zsOf_terms e (i + 1) r hd.2 fun p hp => h0 p (List.mem_cons_of_mem _ hp)
      unfold termsTo
      rw [if_neg hc, e1, ih, List.map_cons]
      congr 1
      simp only [Prod.mk.injEq, and_true]
      omega
    · rw [if_neg he]
      have hlt : e < n := by
        have : e < n + 1 := hd.1
        omega
      have ih := zsOf_terms n (i + 1) ((e, c) :: r) ⟨hlt, hd.2⟩ h0
      rw [e1]
      unfold termsTo
      rw [if_pos rfl]
      exact ih
/-- the exponents of an ordinal's terms fall -/
theorem terms_dec (N : Nat) : ∀ (zs : List Int) (i : Nat), (∀ z ∈ zs, 0 ≤ z) → i + zs.length ≤ N → ∃ ps : List (Nat × Nat), termsTo N i zs = ps.map (fun p => ((p.1 : Int), (p.2 : Int))) ∧ Dec (N - i) ps ∧ (∀ p ∈ ps, p.2 ≠ 0 ∧ (p.2 : Int) ∈ zs)
  | [], i, _, _ => ⟨[], rfl, trivial, fun p hp => by cases hp⟩
  | z :: r, i, h0, hN => by
    rw [List.length_cons] at hN
    obtain ⟨ps, h1, h2, h3⟩ := terms_dec N r (i + 1) (fun y hy => h0 y (List.mem_cons_of_mem _ hy)) (by omega)
    unfold termsTo
    by_cases hz : z = 0
    · rw [if_pos hz]
      exact ⟨ps, h1, h2.mono (by omega), fun p hp => ⟨(h3 p hp).1, List.mem_cons_of_mem _ (h3 p hp).2⟩⟩
    · rw [if_neg hz]
      have hz0 := h0 z (List.mem_cons_self ..)
      refine ⟨(N - 1 - i, z.toNat) :: ps, ?_, ⟨by show N - 1 - i < N - i; omega, by rw [show N - 1 - i = N - (i + 1) by omega]; exact h2⟩, fun p hp => ?_⟩
      · rw [List.map_cons, h1]
        congr 1
        simp only [Prod.mk.injEq]
        omega
      · rcases List.mem_cons.mp hp with e | e
        · subst e
          refine ⟨?_, ?_⟩
          · show z.toNat ≠ 0
            omega
          · show ((z.toNat : Nat) : Int) ∈ z :: r
            rw [show ((z.toNat : Nat) : Int) = z by omega]
            exact List.mem_cons_self ..
        · exact ⟨(h3 p e).1, List.mem_cons_of_mem _ (h3 p e).2⟩
/-! ### what the law reads in a text -/
def fallB : List (Nat × Nat) → Bool
  | p :: q :: r => decide (q.1 < p.1) && fallB (q :: r)
  | _ => true
theorem fall_dec : ∀ {p : Nat × Nat} {r : List (Nat × Nat)}, fallB (p :: r) = true → Dec (p.1 + 1) (p :: r)
  | p, [], _ => ⟨Nat.lt_succ_self _, trivial⟩
  | p, q :: r, h => by
    have h : (decide (q.1 < p.1) && fallB (q :: r)) = true := h
    rw [Bool.and_eq_true] at h
    have ih := fall_dec h.2
    exact ⟨Nat.lt_succ_self _, of_decide_eq_true h.1, ih.2⟩
theorem dec_fall : ∀ {ps : List (Nat × Nat)} {n : Nat}, Dec n ps → fallB ps = true
  | [], _, _ => rfl
  | [p], _, _ => rfl
  | p :: q :: r, n, h => by
    show (decide (q.1 < p.1) && fallB (q :: r)) = true
    rw [decide_eq_true h.2.1, dec_fall h.2]
    rfl
def castP (p : Nat × Nat) : Int × Int := ((p.1 : Int), (p.2 : Int))
/-- all of them, or none -/
def allO : List (Option (Nat × Nat)) → Option (List (Nat × Nat))
  | [] => some []
  | none :: _ => none
  | some p :: r => (allO r).map fun ps => p :: ps
theorem allO_some : ∀ {os : List (Option (Nat × Nat))} {ps : List (Nat × Nat)}, allO os = some ps → os = ps.map some
  | [], ps, h => by
    cases h
    rfl
  | none :: r, ps, h => by cases h
  | some p :: r, ps, h => by
    cases hr : allO r with
    | none =>
      rw [show allO (some p :: r) = (allO r).map (fun ps => p :: ps) from rfl, hr] at h
      cases h
    | some qs =>
      rw [show allO (some p :: r) = (allO r).map (fun ps => p :: ps) from rfl, hr] at h
      cases h
      rw [allO_some hr]
      rfl
theorem allO_of : ∀ ps : List (Nat × Nat), allO (ps.map some) = some ps
  | [] => rfl
  | p :: r => by
    show (allO (r.map some)).map (fun ps => p :: ps) = _
    rw [allO_of r]
    rfl
theorem allO_none : ∀ {os : List (Option (Nat × Nat))}, allO os = none ↔ none ∈ os
  | [] => by simp [allO]
  | none :: r => by simp [allO]
  | some p :: r => by
    have ih := allO_none (os := r)
    show (allO r).map (fun ps => p :: ps) = none ↔ _
    rw [Option.map_eq_none_iff, ih]
    simp
abbrev sepL : List Nat := [32, 43, 32]
def lParse (l : List Nat) : Option (List Int) :=
  if l = [48] then some []
  else match allO ((spl sepL 0 [] l).map lTerm) with
    | none => none
    | some ps => if fallB ps = true then some (frT (ps.map castP)) else none
theorem sep_tl : tl (" + " : Str) = sepL := by decide +kernel
theorem text_tl (zs : List Int) : tl (textS zs) = joinL sepL ((termsOf zs).map fun p => termL p.1.toNat p.2.toNat) := by
  unfold textS
  rw [join_eq, tl_join, sep_tl, List.map_map]
  rfl
theorem spl_text (zs : List Int) : spl sepL 0 [] (tl (textS zs)) = (termsOf zs).map fun p => termL p.1.toNat p.2.toNat := by
  rw [text_tl]
  refine spl_join ?_ ?_
  · unfold termsOf
    split
    · simp
    · rename_i h
      simpa using h
  · intro p hp
    obtain ⟨q, _, rfl⟩ := List.mem_map.mp hp
    exact termL_free (by decide) (by decide) (by decide) (by decide)
theorem ord_terms {zs : List Int} (h : Ord zs) : ∃ ps : List (Nat × Nat), terms zs = ps.map castP ∧ Dec zs.length ps ∧ ∀ p ∈ ps, p.2 ≠ 0 ∧ p.2 < 10 ^ 18 := by
  obtain ⟨hl, h0, h1, hh⟩ := h
  obtain ⟨ps, e, d, m⟩ := terms_dec zs.length zs 0 h0 (by omega)
  refine ⟨ps, e, d, fun p hp => ⟨(m p hp).1, ?_⟩⟩
  have := h1 _ (m p hp).2
  omega
theorem dec_lt : ∀ {ps : List (Nat × Nat)} {n : Nat}, Dec n ps → ∀ p ∈ ps, p.1 < n
  | q :: r, n, h, p, hp => by
    rcases List.mem_cons.mp hp with e | e
    · rw [e]
      exact h.1
    · exact Nat.lt_trans (dec_lt h.2 p e) h.1
theorem one_zero {e c : Nat} (h1 : 1 ≤ c) : termL e c ≠ [48] := by
  intro z
  unfold termL at z
  split at z
  · have : numL c = numL 0 := z
    have := numL_inj this
    omega
  · have hb : ∀ (x : List Nat), baseL e ++ x ≠ [48] := by
      intro x q
      unfold baseL at q
      split at q
      · simp at q
      · simp at q
    split at z
    · exact hb [] (by rw [List.append_nil]; exact z)
    · rw [List.append_assoc] at z
      exact hb _ z
theorem parse_text {zs : List Int} (h : Ord zs) : lParse (tl (textS zs)) = some zs := by
  obtain ⟨ps, e, d, m⟩ := ord_terms h
  have hl := h.1
  by_cases hn : ps = []
  · subst hn
    have ez : zs = [] := by
      have := back_terms h.2.2.2
      rw [e] at this
      exact this.symm
    subst ez
    have : tl (textS []) = [48] := by
      rw [textS_zero rfl]
      decide +kernel
    unfold lParse
    rw [this, if_pos rfl]
  · have hne : terms zs ≠ [] := by
      rw [e]
      simpa using hn
    have et : termsOf zs = ps.map castP := by
      unfold termsOf
      rw [if_neg hne, e]
    have hs : spl sepL 0 [] (tl (textS zs)) = ps.map fun p => termL p.1 p.2 := by
      rw [spl_text, et, List.map_map]
      rfl
    have h48 : tl (textS zs) ≠ [48] := by
      intro q
      rw [q] at hs
      have h1 : spl sepL 0 [] [48] = [[48]] := by decide
      rw [h1] at hs
      cases ps with
      | nil => exact hn rfl
      | cons p r =>
        have q2 : [48] = termL p.1 p.2 := by
          rw [List.map_cons] at hs
          exact (List.cons.inj hs).1
        exact one_zero (by have := (m p (List.mem_cons_self ..)).1; omega) q2.symm
    have hm : (ps.map fun p => termL p.1 p.2).map lTerm = ps.map some := by
      rw [List.map_map]
      refine List.map_congr_left fun p hp => ?_
      have := m p hp
      have := dec_lt d p hp
      exact lTerm_term (by omega) (by omega) (by omega)
    unfold lParse
    rw [if_neg h48, hs, hm, allO_of]
    show (if fallB ps = true then some (frT (ps.map castP)) else none) = some zs
    rw [if_pos (dec_fall d), ← e, frT_terms h.2.2.2]
theorem parse_some {l : List Nat} {zs : List Int} (h : lParse l = some zs) : Ord zs ∧ l = tl (textS zs) := by
  unfold lParse at h
  split at h
  · cases h
    rename_i q
    refine ⟨⟨Nat.zero_le _, (fun z hz => by cases hz), (fun z hz => by cases hz), by simp⟩, ?_⟩
    rw [q, textS_zero rfl]
    decide +kernel
  · cases ho : allO ((spl sepL 0 [] l).map lTerm) with
    | none => rw [ho] at h; cases h
    | some ps =>
      rw [ho] at h
      simp only at h
      split at h
      · rename_i hf
        cases h
        have hos := allO_some ho
        have hne : ps ≠ [] := by
          intro q
          rw [q] at hos
          exact spl_ne sepL l 0 [] (List.map_eq_nil_iff.mp hos)
        have hall : ∀ p ∈ ps, p.1 < 64 ∧ 1 ≤ p.2 ∧ p.2 < 10 ^ 18 := by
          intro p hp
          have : some p ∈ (spl sepL 0 [] l).map lTerm := by
            rw [hos]
            exact List.mem_map.mpr ⟨p, hp, rfl⟩
          obtain ⟨x, _, hx⟩ := List.mem_map.mp this
          obtain ⟨_, h2, h3, h4⟩ := lTerm_some (e := p.1) (c := p.2) hx
          exact ⟨h2, h3, h4⟩
        have hparts : spl sepL 0 [] l = ps.map fun p => termL p.1 p.2 := by
          have key : ∀ (xs : List (List Nat)) (qs : List (Nat × Nat)), xs.map lTerm = qs.map some → xs = qs.map fun p => termL p.1 p.2 := by
            intro xs
            induction xs with
            | nil =>
              intro qs q
              cases qs with
              | nil => rfl
              | cons a b => cases q
            | cons x xs ih =>
              intro qs q
              cases qs with
              | nil => cases q
              | cons a b =>
                rw [List.map_cons, List.map_cons] at q
                obtain ⟨q1, q2⟩ := List.cons.inj q
                rw [List.map_cons, ih b q2, (lTerm_some (e := a.1) (c := a.2) q1).1]
          exact key _ _ hos
        obtain ⟨p, r, rfl⟩ : ∃ p r, ps = p :: r := by
          cases ps with
          | nil => exact absurd rfl hne
          | cons p r => exact ⟨p, r, rfl⟩
        have d := fall_dec hf
        have hp := hall p (List.mem_cons_self ..)
        have ht : terms (zsOf (p.1 + 1) (p :: r)) = (p :: r).map castP := by
          have := zsOf_terms (p.1 + 1) 0 (p :: r) d fun q hq => by have := hall q hq; omega
          unfold terms
          rw [zsOf_len]
          rw [Nat.zero_add] at this
          exact this
        have hhead : (zsOf (p.1 + 1) (p :: r)).head? ≠ some 0 := by
          obtain ⟨e, c⟩ := p
          show (if e = e then (c : Int) :: zsOf e r else 0 :: zsOf e ((e, c) :: r)).head? ≠ some 0
          rw [if_pos rfl]
          intro q
          have : (c : Int) = 0 := by simpa using q
          have h2 : 1 ≤ c := hp.2.1
          omega
        have hz : frT ((p :: r).map castP) = zsOf (p.1 + 1) (p :: r) := by
          rw [← ht, frT_terms hhead]
        rw [hz]
        have hO : Ord (zsOf (p.1 + 1) (p :: r)) := by
          refine ⟨?_, fun z hz => ?_, fun z hz => ?_, hhead⟩
          · rw [zsOf_len]
            omega
          · rcases zsOf_mem _ _ z hz with e | ⟨q, _, e⟩ <;> omega
          · rcases zsOf_mem _ _ z hz with e | ⟨q, hq, e⟩
            · omega
            · have := hall q hq
              omega
        refine ⟨hO, ?_⟩
        have hne2 : terms (zsOf (p.1 + 1) (p :: r)) ≠ [] := by
          rw [ht]
          simp
        rw [text_tl]
        have et : termsOf (zsOf (p.1 + 1) (p :: r)) = (p :: r).map castP := by
          unfold termsOf
          rw [if_neg hne2, ht]
        rw [et, List.map_map]
        have := join_spl (S := sepL) (by decide) l.length l [] (Nat.le_refl _)
        rw [List.nil_append, hparts] at this
        exact this.symm
      · cases h
end Lim
set_option maxHeartbeats 2000000
namespace Lim
open PySem PySem.Spec PyProof.Rows L2 TL
abbrev sPaN : Stmt := topS 20
abbrev sPaT : Stmt := topS 21
abbrev sIsC : Stmt := topS 14
abbrev sIsO : Stmt := topS 15
abbrev sPaO : Stmt := topS 22
/-- signs of the plain kind -/
def Asc (x : Str) : Prop := ∀ c ∈ tl x, c < 128
/-- what an own class of errors, directly or not under ValueError, must say to be raised -/
structure Err (K : PySem.W.Frag) (mg : Str → Option Value) (x : Str) (C : Addr) : Prop where
  g : mg x = some (.ref C)
  x : PySem.W.excIn K C [.type "ValueError", .type "Exception", .type "BaseException", .type "object"] "ValueError.__new__" = true
  k : PySem.W.keepIn K (.ref C) = true
  b : PySem.W.subIn K (.ref C) (.type "BaseException") = some true
  t : PySem.W.typeIn K (.ref C) = some (.type "type")
theorem dig_tl : tl ("0123456789" : Str) = [48, 49, 50, 51, 52, 53, 54, 55, 56, 57] := by decide +kernel
theorem in_dig {c : Nat} : decide (c ∈ ("0123456789" : Str).cps.toList) = (decide (48 ≤ c) && decide (c ≤ 57)) := by
  have e : ("0123456789" : Str).cps.toList = [48, 49, 50, 51, 52, 53, 54, 55, 56, 57] := dig_tl
  rw [e]
  by_cases h : 48 ≤ c ∧ c ≤ 57
  · rw [decide_eq_true h.1, decide_eq_true h.2]
    refine decide_eq_true ?_
    obtain ⟨h1, h2⟩ := h
    have : c = 48 ∨ c = 49 ∨ c = 50 ∨ c = 51 ∨ c = 52 ∨ c = 53 ∨ c = 54 ∨ c = 55 ∨ c = 56 ∨ c = 57 := by omega
    simpa using this
  · have e2 : (decide (48 ≤ c) && decide (c ≤ 57)) = false := by
      rw [← Bool.not_eq_true, Bool.and_eq_true]
      exact fun q => h ⟨of_decide_eq_true q.1, of_decide_eq_true q.2⟩
    rw [e2]
    refine decide_eq_false fun q => h ?_
    simp only [List.mem_cons, List.not_mem_nil, or_false] at q
    omega
section
variable {P : Program} {w : World} {K : PySem.W.Frag} {mg : Str → Option Value} {base : Heap}
theorem scPaN : FnScope ["text", "longest", "character"] ["text", "longest"] (defScope sPaN) := ⟨rfl, rfl, rfl, by decide +kernel, rfl, by decide +kernel, by decide +kernel⟩
def spPaN (C : Addr) : Sp := fun vs H Q E => ∃ (x : Str) (m : Nat), vs = [.str x, .int (m : Int)] ∧ x.length ≤ 100000 ∧ m ≤ 100 ∧ (∀ n : Nat, pNum m (tl x) = some n → Q (.int (n : Int)) H) ∧ (pNum m (tl x) = none → E (.ref C) none H)

theorem ok_paN {f C : Addr} {fd : FuncData} {k : Nat} {tk : Tok} (F : Fun K "parse_number" "parse_number" sPaN f fd) (T : Err K mg "InvalidOrdinal" C) (ml : mg "len" = none) (mi : mg "int" = none) (gD : mg "DIGITS" = some (.str "0123456789" tk)) :
    FnOk P w K mg base (L2.CX P w) (k + 1) f fd ["text", "longest"] (spPaN C) := by
  refine F.okX scPaN (fun vs H Q E h => ?_) (fun cdv A outer s H vs Q E hr h => ?_)
  · obtain ⟨x, m, rfl, _⟩ := h
    rfl
  obtain ⟨x, m, rfl, hl, hm, q, e⟩ := h
  have ls : x.length ≤ sizeLine := by rw [sizeLine_eq]; omega
  have lx : x.length = (tl x).length := len_tl x
  refine ⟨_, pss_cons (ps_if (PW.pt (pw_or (pt_cmpR op_eq (pe_callB call_len_str (by rfl) ml PySem.boot_len (pa_cons (pv 0) pa_nil)) (pe_int) (nomark _)) (pw_or1 (pt_cmpR op_gt (pe_callB call_len_str (by rfl) ml PySem.boot_len (pa_cons (pv 0) pa_nil)) (pv 1) (nomark _))))) (pss_one (ps_raise rfl (takes_of rfl rfl rfl rfl) (pmk_own PySem.F.excBase_ValueError T.x T.g T.k (raises_own T.b T.t) rfl))) pss_nil)
      (pss_cons (ps_for (passes_of rfl) rfl (pi_str (pv 0)) (pg_name (i := 2) scPaN.nd rfl (.inl rfl)) (pss_one (ps_if (pt_cmpR op_notIn_sign (pv 2) (pe_glob (v := .str "0123456789") (by rfl) gD ⟨_, rfl⟩) (by with_unfolding_all rfl)) (pss_one (ps_raise rfl (takes_of rfl rfl rfl rfl) (pmk_own PySem.F.excBase_ValueError T.x T.g T.k (raises_own T.b T.t) rfl))) pss_nil)))
      (show PSs _ _ _ from PSs.nox (pss_one (ps_ret (pe_callTy call_int_str (by rfl) mi (by decide +kernel) (pa_cons (pv 0) pa_nil)))))), ?_⟩
  refine ⟨_, rfl, _, rfl, ls, rfl, _, rfl, ite2 (fun c1 => ?_) (fun c1 => ?_)⟩
  · have h0 : (x.length : Int) = 0 := V.int.inj (of_decide_eq_true c1)
    refine e ?_
    unfold pNum
    rw [if_neg]
    rintro ⟨h1, _⟩
    exact h1 (List.length_eq_zero_iff.mp (by omega))
  have h0 : tl x ≠ [] := fun z => c1 (decide_eq_true (by rw [lx, z]; rfl))
  refine ⟨_, rfl, _, rfl, ls, _, rfl, _, _, rfl, rfl, _, rfl, ite2 (fun c2 => ?_) (fun c2 => ?_)⟩
  · have h2 := of_decide_eq_true c2
    refine e ?_
    unfold pNum
    rw [if_neg]
    rintro ⟨_, h3, _⟩
    omega
  have h2 : (tl x).length ≤ m := by
    have : ¬ ((x.length : Int) > (m : Int)) := fun z => c2 (decide_eq_true z)
    omega
  refine ⟨_, rfl, _, rfl, for_signs (fun i σ H' => ∃ y2 : Option V, σ = [some (.str x), some (.int (m : Int)), y2] ∧ H' = H ∧ digB ((tl x).take i) = true) ⟨none, rfl, rfl, rfl⟩ ?_ ?_⟩
  · rintro i d σ H' hd ⟨y2, rfl, rfl, hb⟩
    have hd' : (tl x)[i]? = some d := by
      show x.cps.toList[i]? = some d
      rw [Array.getElem?_toList]
      exact hd
    refine ⟨_, rfl, _, _, rfl, rfl, _, rfl, ?_⟩
    rw [in_dig]
    have tk : (tl x).take (i + 1) = (tl x).take i ++ [d] := by
      rw [List.take_add_one, hd']
      rfl
    by_cases hdg : (decide (48 ≤ d) && decide (d ≤ 57)) = true
    · rw [hdg]
      refine iteF ⟨_, rfl, rfl, ?_⟩
      rw [tk]
      unfold digB at hb ⊢
      rw [List.all_append, hb]
      show (true && ((decide (48 ≤ d) && decide (d ≤ 57)) && true)) = true
      rw [hdg]
      rfl
    · have hdg : (decide (48 ≤ d) && decide (d ≤ 57)) = false := by simpa using hdg
      rw [hdg]
      refine iteT (e ?_)
      unfold pNum
      rw [if_neg]
      rintro ⟨_, _, h5⟩
      unfold digB at h5
      rw [List.all_eq_true] at h5
      have := h5 d (List.mem_of_getElem? hd')
      rw [hdg] at this
      cases this
  · rintro σ H' ⟨y2, rfl, rfl, hb⟩
    have es : x.cps.size = (tl x).length := by show x.cps.size = x.cps.toList.length; simp
    rw [es, List.take_length] at hb
    have hp : pNum m (tl x) = some (NumText.digitsVal (tl x)) := by
      unfold pNum
      rw [if_pos ⟨h0, h2, hb⟩]
    exact ⟨_, rfl, _, _, rfl, intText_digits (digB_iff.mp hb) h0 (by omega), by omega, q _ hp⟩

theorem part_3 (x : Str) : Txt.partition x "*" = (mkS (part3 (tl x)).1, (if (part3 (tl x)).2.1 = true then ("*" : Str) else Str.empty), mkS (part3 (tl x)).2.2) := by
  rw [partition_par x "*" (by decide +kernel)]
  have e : tl ("*" : Str) = [42] := by decide +kernel
  rw [e]
  unfold part3
  cases par [42] [] (tl x) with
  | none =>
    show (x, Str.empty, Str.empty) = (mkS (tl x), (if false = true then ("*" : Str) else Str.empty), mkS [])
    rw [if_neg (by decide)]
    have : mkS (tl x) = x := mk_tl x
    rw [this]
    rfl
  | some ab => rfl
theorem mkS_len (l : List Nat) : (mkS l).length = l.length := by rw [len_tl, tl_mkS]
theorem cut_from2 (l : List Nat) : cutS (mkS l) (some 2) none = mkS (l.drop 2) := eq_mkS (by
  unfold cutS
  rw [HT.sIx_none, show (2 : Int) = ((2 : Nat) : Int) from rfl, HT.sIx_nat, mkS_len]
  show List.take (l.length - min 2 l.length) (l.drop (min 2 l.length)) = l.drop 2
  by_cases h : 2 ≤ l.length
  · rw [Nat.min_eq_left h]
    exact List.take_of_length_le (by rw [List.length_drop]; exact Nat.le_refl _)
  · rw [Nat.min_eq_right (by omega), List.drop_of_length_le (Nat.le_refl _), List.drop_of_length_le (by omega), List.take_nil])
theorem part_len (l : List Nat) : (part3 l).1.length ≤ l.length ∧ (part3 l).2.2.length ≤ l.length := by
  unfold part3
  cases h : par [42] [] l with
  | none => exact ⟨Nat.le_refl _, Nat.zero_le _⟩
  | some ab =>
    obtain ⟨a, b⟩ := ab
    have := par_some h
    rw [List.nil_append] at this
    rw [this, List.length_append, List.length_append]
    exact ⟨by show a.length ≤ _; omega, by show b.length ≤ _; omega⟩
theorem w_tl : tl ("w" : Str) = [119] := by decide +kernel
theorem wc_tl : tl ("w^" : Str) = [119, 94] := by decide +kernel
theorem sw1 (l : List Nat) : Txt.startswith (mkS l) "w" = pre [119] l := by
  rw [sw_eq (by decide +kernel), w_tl, tl_mkS]
theorem sw2 (l : List Nat) : Txt.startswith (mkS l) "w^" = pre [119, 94] l := by
  rw [sw_eq (by decide +kernel), wc_tl, tl_mkS]
theorem is_w (l : List Nat) : decide (V.str (mkS l) = V.str "w") = decide (l = [119]) := by
  by_cases h : l = [119]
  · rw [decide_eq_true h]
    refine decide_eq_true ?_
    rw [h]
    exact congrArg V.str (eq_mkS w_tl).symm
  · rw [decide_eq_false h]
    refine decide_eq_false fun q => h ?_
    have := congrArg tl (V.str.inj q)
    rwa [w_tl] at this
theorem scPaT : FnScope ["text", "base", "star", "factor", "coefficient"] ["text"] (defScope sPaT) := ⟨rfl, rfl, rfl, by decide +kernel, rfl, by decide +kernel, by decide +kernel⟩
def spPaT (C : Addr) : Sp := fun vs H Q E => ∃ x : Str, vs = [.str x] ∧ x.length ≤ 100000 ∧ (∀ e c : Nat, pTerm (tl x) = some (e, c) → ∀ p H', Same H H' → H' p = some (.tup [.int (e : Int), .int (c : Int)]) → Q (.ref p) H') ∧ (pTerm (tl x) = none → ∀ H', Same H H' → E (.ref C) none H')
theorem ok_paT {f fN C : Addr} {fd dN : FuncData} {k : Nat} {t1 t2 : Tok} (Fn : Fun K "parse_term" "parse_term" sPaT f fd) (T : Err K mg "InvalidOrdinal" C) (gC : mg "LONGEST_COEFFICIENT" = some (.int 18 t1)) (gE : mg "LONGEST_EXPONENT" = some (.int 2 t2))
    (GN : FnOk P w K mg base (L2.CX P w) (k + 1) fN dN ["text", "longest"] (spPaN C)) (kN : PySem.W.keepIn K (.ref fN) = true) (bN : Binds K dN ["text", "longest"] []) (gN : mg "parse_number" = some (.ref fN)) :
    FnOk P w K mg base (L2.CX P w) (k + 2) f fd ["text"] (spPaT C) := by
  refine Fn.okX scPaT (fun vs H Q E h => ?_) (fun cdv A outer s H vs Q E hr h => ?_)
  · obtain ⟨x, rfl, _⟩ := h
    rfl
  obtain ⟨x, rfl, hl, q, er⟩ := h
  have two : 2 ≤ sizeLine := by show 2 ≤ sizeLine; decide
  refine ⟨_, pss_cons (ps_asg (pe_partition (pv 0) pe_str) (pg_tup rfl (pgs_cons (pg_name (i := 1) scPaT.nd rfl (.inl rfl)) (pgs_cons (pg_name (i := 2) scPaT.nd rfl (.inl rfl)) (pgs_cons (pg_name (i := 3) scPaT.nd rfl (.inl rfl)) pgs_nil)))))
      (pss_cons (ps_if (pt_not (pt_val (pe_m1 F.slot_str_startswith F.type_str_startswith mt_startswith (pv 1) pe_str))) (pss_one (ps_ret (pe_tup (pa_cons (pe_int) (pa_cons (pe_callS GN hr (by rfl) gN kN bN (fun σ => passAt (takes_of rfl rfl rfl rfl) σ) (pa_cons (pv 0) (pa_cons (pe_glob (v := .int 18) (by rfl) gC ⟨_, rfl⟩) pa_nil))) pa_nil))))) pss_nil)
      (C8.pss_cut (ps_set (i := 4) scPaT.nd rfl (.inl rfl) (pe_ifExp (pt_truth (pv 2) (fun _ => rfl)) (pe_callS GN hr (by rfl) gN kN bN (fun σ => passAt (takes_of rfl rfl rfl rfl) σ) (pa_cons (pv 3) (pa_cons (pe_glob (v := .int 18) (by rfl) gC ⟨_, rfl⟩) pa_nil))) pe_int))
      (pss_cons (ps_if (pt_cmpR op_eq (pv 1) (pe_str) (nomark _)) (pss_one (ps_ret (pe_tup (pa_cons (pe_int) (pa_cons (pv 4) pa_nil))))) pss_nil)
      (pss_cons (ps_if (pt_not (pt_val (pe_m1 F.slot_str_startswith F.type_str_startswith mt_startswith (pv 1) pe_str))) (pss_one (ps_raise rfl (takes_of rfl rfl rfl rfl) (pmk_own PySem.F.excBase_ValueError T.x T.g T.k (raises_own T.b T.t) rfl))) pss_nil)
      (pss_one (ps_ret (pe_tup (pa_cons (pe_callS GN hr (by rfl) gN kN bN (fun σ => passAt (takes_of rfl rfl rfl rfl) σ) (pa_cons (pe_slice sl_str (pv 1) (po_some (pe_int)) (po_none)) (pa_cons (pe_glob (v := .int 2) (by rfl) gE ⟨_, rfl⟩) pa_nil))) (pa_cons (pv 4) pa_nil))))))))), ?_⟩
  have lx : x.length = (tl x).length := len_tl x
  obtain ⟨pl1, pl2⟩ := part_len (tl x)
  refine ⟨_, rfl, ⟨_, rfl⟩, _, _, rfl, rfl, rfl, by rw [sizeLine_eq]; omega, fun t nT => ?_⟩
  rw [part_3]
  have sT := same_upd (o := .tup [.str (mkS (part3 (tl x)).1), .str (if (part3 (tl x)).2.1 = true then ("*" : Str) else Str.empty), .str (mkS (part3 (tl x)).2.2)]) nT
  refine ⟨t, _, rfl, .inl (.inl upd_same), rfl, _, _, rfl, _, _, rfl, _, _, rfl, rfl, ?_⟩
  generalize hH1 : upd H t (.tup [.str (mkS (part3 (tl x)).1), .str (if (part3 (tl x)).2.1 = true then ("*" : Str) else Str.empty), .str (mkS (part3 (tl x)).2.2)]) = H1 at sT
  have q0 : ∀ e c : Nat, pTerm (tl x) = some (e, c) → ∀ p H', Same H1 H' → H' p = some (.tup [.int (e : Int), .int (c : Int)]) → Q (.ref p) H' := fun e c h p H' s => q e c h p H' (sT.trans s)
  have er0 : pTerm (tl x) = none → ∀ H', Same H1 H' → E (.ref C) none H' := fun h H' s => er h H' (sT.trans s)
  have unf : pTerm (tl x) = if pre [119] (part3 (tl x)).1 = false then (pNum 18 (tl x)).map fun n => (0, n)
      else match (if (part3 (tl x)).2.1 = true then pNum 18 (part3 (tl x)).2.2 else some 1) with
        | none => none
        | some c => if (part3 (tl x)).1 = [119] then some (1, c) else if pre [119, 94] (part3 (tl x)).1 = false then none else (pNum 2 ((part3 (tl x)).1.drop 2)).map fun e => (e, c) := rfl
  generalize (part3 (tl x)).1 = b at *
  generalize (part3 (tl x)).2.1 = st at *
  generalize (part3 (tl x)).2.2 = fa at *
  refine ⟨_, rfl, ⟨_, rfl⟩, _, _, rfl, rfl, _, rfl, ?_⟩
  rw [sw1]
  by_cases hw : pre [119] b = false
  · rw [hw]
    rw [if_pos hw] at unf
    refine iteT ⟨_, rfl, x, 18, rfl, hl, by decide, fun n hn => ⟨two, fun p np => ?_⟩, fun hn => ?_⟩
    · rw [hn] at unf
      exact q0 0 n unf p _ (same_upd np) upd_same
    · rw [hn] at unf
      exact er0 unf _ (Same.refl _)
  have hw : pre [119] b = true := by simpa using hw
  rw [hw]
  rw [if_neg (by rw [hw]; decide)] at unf
  refine iteF ?_
  refine ⟨fun σ H' => ∃ c : Nat, σ = [some (.str x), some (.str (mkS b)), some (.str (if st = true then ("*" : Str) else Str.empty)), some (.str (mkS fa)), some (.int (c : Int))] ∧ H' = H1 ∧ (if st = true then pNum 18 fa else some 1) = some c, ?_, ?_⟩
  · cases st with
    | true =>
      refine ⟨_, rfl, true, ⟨show ("*" : Str).length ≤ sizeLine by decide +kernel, show true = ((("*" : Str).length : Int) != 0) by decide +kernel⟩, iteT ⟨_, rfl, mkS fa, 18, rfl, by rw [mkS_len]; omega, by decide, fun n hn => ⟨n, rfl, rfl, ?_⟩, fun hn => ?_⟩⟩
      · rw [tl_mkS] at hn
        rw [if_pos rfl]
        exact hn
      · rw [tl_mkS] at hn
        rw [if_pos rfl, hn] at unf
        exact er0 unf _ (Same.refl _)
    | false =>
      exact ⟨_, rfl, false, ⟨show (Str.empty).length ≤ sizeLine by decide +kernel, show false = (((Str.empty).length : Int) != 0) by decide +kernel⟩, iteF ⟨1, rfl, rfl, rfl⟩⟩
  rintro σ H2 ⟨c, rfl, rfl, hc⟩
  rw [hc] at unf
  simp only at unf
  refine ⟨_, rfl, rfl, _, rfl, ?_⟩
  rw [is_w]
  by_cases hb : b = [119]
  · rw [decide_eq_true hb]
    rw [if_pos hb] at unf
    exact iteT ⟨_, rfl, two, fun p np => q0 1 c unf p _ (same_upd np) upd_same⟩
  rw [decide_eq_false hb]
  rw [if_neg hb] at unf
  refine iteF ⟨_, rfl, ⟨_, rfl⟩, _, _, rfl, rfl, _, rfl, ?_⟩
  rw [sw2]
  by_cases hw2 : pre [119, 94] b = false
  · rw [hw2]
    rw [if_pos hw2] at unf
    exact iteT (er0 unf _ (Same.refl _))
  have hw2 : pre [119, 94] b = true := by simpa using hw2
  rw [hw2]
  rw [if_neg (by rw [hw2]; decide)] at unf
  refine iteF ⟨_, rfl, _, rfl, _, rfl, by rw [mkS_len, sizeLine_eq]; omega, _, 2, rfl, ?_, by decide, fun n hn => ⟨_, rfl, two, fun p np => ?_⟩, fun hn => ?_⟩
  · exact Nat.le_trans (cutS_length _ _ _) (by rw [mkS_len]; omega)
  · rw [cut_from2, tl_mkS] at hn
    rw [hn] at unf
    exact q0 n c unf p _ (same_upd np) upd_same
  · rw [cut_from2, tl_mkS] at hn
    rw [hn] at unf
    exact er0 unf _ (Same.refl _)
end
end Lim
set_option maxHeartbeats 2000000
namespace Lim
open PySem PySem.Spec PyProof.Rows L2 TL
section
variable {P : Program} {w : World} {K : PySem.W.Frag} {mg : Str → Option Value} {base : Heap}
theorem scIsC : FnScope ["thing"] ["thing"] (defScope sIsC) := ⟨rfl, rfl, rfl, by decide +kernel, rfl, by decide +kernel, by decide +kernel⟩
def coB (i : Int) : Bool := decide (0 ≤ i) && decide (i < 1000000000000000000)
def spIsC : Sp := fun vs H Q _ => ∃ i : Int, vs = [.int i] ∧ Q (.bl (coB i)) H
theorem ok_isC {f : Addr} {fd : FuncData} {k : Nat} {tk : Tok} (F : Fun K "is_coefficient" "is_coefficient" sIsC f fd) (mis : mg "isinstance" = none) (mbo : mg "bool" = none) (mi : mg "int" = none) (gB : mg "COEFFICIENT_BOUND" = some (.int 1000000000000000000 tk)) : FnOk P w K mg base CX0 (k + 1) f fd ["thing"] spIsC := by
  refine F.ok scIsC (fun vs H Q E h => ?_) (fun cdv A outer s H vs Q E hr h => ?_)
  · obtain ⟨i, rfl, _⟩ := h
    rfl
  · obtain ⟨i, rfl, q⟩ := h
    refine ⟨_, (pss_cons (ps_if (PW.pt (pw_or (pt_val (pe_callB call_isi (by rfl) mis (by decide +kernel) (pa_cons (pv 0) (pa_cons (pe_bltn (v := .ty "bool") (by rfl) mbo (by decide +kernel) rfl) pa_nil)))) (pw_or1 (pt_not (pt_val (pe_callB call_isi (by rfl) mis (by decide +kernel) (pa_cons (pv 0) (pa_cons (pe_bltn (v := .ty "int") (by rfl) mi (by decide +kernel) rfl) pa_nil)))))))) (pss_one (ps_ret (pe_bl))) pss_nil)
        (pss_one (ps_ret (pe_chain op_le op_lt pe_int (pv 0) (pe_glob (v := .int 1000000000000000000) (by rfl) gB ⟨_, rfl⟩))))), ?_⟩
    refine ⟨_, rfl, _, _, _, _, _, rfl, .ty "bool", .base (.int i), kit_ty (a := "int") (b := "bool") (r := false) (by decide +kernel), _, rfl, ?_⟩
    refine ⟨_, rfl, _, _, _, _, _, rfl, .ty "int", .base (.int i), kit_ty (a := "int") (b := "int") (r := true) (by decide +kernel), _, rfl, ?_⟩
    refine ⟨_, rfl, _, _, rfl, rfl, _, rfl, ?_⟩
    unfold coB at q
    by_cases h0 : 0 ≤ i
    · rw [decide_eq_true h0, Bool.true_and] at q
      rw [decide_eq_true h0]
      exact iteT ⟨_, _, rfl, rfl, q⟩
    · rw [decide_eq_false h0, Bool.false_and] at q
      rw [decide_eq_false h0]
      exact iteF q
theorem scIsO : FnScope ["thing", "item"] ["thing"] (defScope sIsO) := ⟨rfl, rfl, rfl, by decide +kernel, rfl, by decide +kernel, by decide +kernel⟩
def spIsO (K : PySem.W.Frag) : Sp := fun vs H Q _ => ∃ (t : Addr) (zs : List Int), vs = [.ref t] ∧ SqT K H t (zs.map V.int) ∧ zs.length ≤ 1000 ∧ (Ord zs → Q (.bl true) H) ∧ (¬ Ord zs → Q (.bl false) H)
theorem ok_isO {f fC : Addr} {fd dC : FuncData} {k : Nat} {tk : Tok} (F : Fun K "is_ordinal" "is_ordinal" sIsO f fd) (mis : mg "isinstance" = none) (mt : mg "tuple" = none) (ml : mg "len" = none) (gM : mg "MOST_COEFFICIENTS" = some (.int 64 tk))
    (GC : FnOk P w K mg base CX0 (k + 1) fC dC ["thing"] spIsC) (kC : PySem.W.keepIn K (.ref fC) = true) (bC : Binds K dC ["thing"] []) (gC : mg "is_coefficient" = some (.ref fC)) : FnOk P w K mg base CX0 (k + 2) f fd ["thing"] (spIsO K) := by
  refine F.ok scIsO (fun vs H Q E h => ?_) (fun cdv A outer s H vs Q E hr h => ?_)
  · obtain ⟨t, zs, rfl, _⟩ := h
    rfl
  · obtain ⟨t, zs, rfl, ht, hlen, q, q'⟩ := h
    refine ⟨_, (pss_cons (ps_if (PW.pt (pw_or (pt_not (pt_val (pe_callB call_isi (by rfl) mis (by decide +kernel) (pa_cons (pv 0) (pa_cons (pe_bltn (v := .ty "tuple") (by rfl) mt (by decide +kernel) rfl) pa_nil))))) (pw_or1 (pt_cmpR op_gt (pe_callB call_len_seq (by rfl) ml PySem.boot_len (pa_cons (pv 0) pa_nil)) (pe_glob (v := .int 64) (by rfl) gM ⟨_, rfl⟩) (nomark _))))) (pss_one (ps_ret (pe_bl))) pss_nil)
        (pss_cons (ps_for PassesOwn.never rfl (pi_tup (pv 0)) (pg_name (i := 1) scIsO.nd rfl (.inl rfl)) (pss_one (ps_if (pt_not (pt_val (pe_call GC hr (by rfl) gC kC bC .nil pass0 (pa_cons (pv 1) pa_nil)))) (pss_one (ps_ret (pe_bl))) pss_nil)))
        (pss_one (ps_ret (pe_or (pe_cmpR op_eq (pe_callB call_len_seq (by rfl) ml PySem.boot_len (pa_cons (pv 0) pa_nil)) pe_int (nomark _)) (pe_one (pe_cmpR op_ne (pe_ix ix_tup (pv 0) (pe_int) (fun _ _ => rfl)) pe_int (nomark _)))))))), ?_⟩
    refine ⟨_, rfl, _, _, _, _, _, rfl, .ty "tuple", ty_tupl ht, kit_ty (a := "tuple") (b := "tuple") (r := true) (by decide +kernel), _, rfl, ?_⟩
    refine ⟨_, rfl, t, _, rfl, .inr ht, _, _, rfl, rfl, _, rfl, ite2 (fun c2 => ?_) (fun c2 => ?_)⟩
    · have c2' := of_decide_eq_true c2
      rw [List.length_map] at c2'
      exact q' fun o => by have := o.1; omega
    have h64 : zs.length ≤ 64 := by
      have : ¬ (((zs.map V.int).length : Int) > 64) := fun z => c2 (decide_eq_true z)
      rw [List.length_map] at this
      omega
    refine ⟨_, rfl, t, rfl, ⟨_, ht⟩, for_tup (K := K) (a := t) (xs := zs.map V.int) (fun i σ H' => ∃ y1 : Option V, σ = [some (.ref t), y1] ∧ H' = H ∧ ∀ z ∈ zs.take i, 0 ≤ z ∧ z < 1000000000000000000) ⟨none, rfl, rfl, fun z hz => by cases hz⟩ ?_ ?_ ?_⟩
    · rintro i σ H' _ ⟨_, _, rfl, _⟩
      exact ht
    · rintro i x σ H' hx ⟨y1, rfl, rfl, hb⟩
      obtain ⟨z, hz, rfl⟩ := map_get hx
      have hm : z ∈ zs := List.mem_of_getElem? hz
      refine ⟨_, rfl, z, rfl, _, rfl, ?_⟩
      by_cases hc : coB z = true
      · rw [hc]
        refine iteF ⟨some (.int z), rfl, rfl, fun y hy => ?_⟩
        rw [List.take_add_one, hz] at hy
        rcases List.mem_append.mp hy with h | h
        · exact hb y h
        · have : y = z := by simpa using h
          subst this
          unfold coB at hc
          rw [Bool.and_eq_true] at hc
          exact ⟨of_decide_eq_true hc.1, of_decide_eq_true hc.2⟩
      · have hc2 : coB z = false := by simpa using hc
        rw [hc2]
        refine iteT (q' fun o => hc ?_)
        unfold coB
        rw [decide_eq_true (o.2.1 z hm), decide_eq_true (show z < 1000000000000000000 from o.2.2.1 z hm)]
        rfl
    · rintro σ H' ⟨y1, rfl, rfl, hb⟩
      rw [List.length_map, List.take_length] at hb
      refine ⟨_, rfl, t, _, rfl, .inr ht, rfl, _, rfl, ?_⟩
      refine ite2 (fun c4 => q ?_) (fun c4 => ?_)
      · have : zs = [] := by
          have := V.int.inj (of_decide_eq_true c4)
          rw [List.length_map] at this
          exact List.length_eq_zero_iff.mp (by omega)
        subst this
        exact ⟨Nat.zero_le _, (fun z hz => by cases hz), (fun z hz => by cases hz), by simp⟩
      obtain ⟨z, r, rfl⟩ : ∃ z r, zs = z :: r := by
        cases zs with
        | nil => exact absurd (decide_eq_true rfl) c4
        | cons z r => exact ⟨z, r, rfl⟩
      refine ⟨_, rfl, t, _, 0, _, rfl, rfl, ht, atI_nat (j := 0) rfl, rfl, ?_⟩
      by_cases z0 : z = 0
      · subst z0
        rw [decide_eq_true rfl]
        exact q' fun o => o.2.2.2 rfl
      · rw [decide_eq_false (fun e => z0 (V.int.inj e))]
        refine q ⟨h64, fun y hy => (hb y hy).1, fun y hy => (hb y hy).2, ?_⟩
        intro e
        exact z0 (by simpa using e)

abbrev nPaO : List Str := ["text", "total", "part", "exponent", "coefficient"]
theorem scPaO : FnScope nPaO ["text"] (defScope sPaO) := ⟨rfl, rfl, rfl, by decide +kernel, rfl, by decide +kernel, by decide +kernel⟩
def spPaO (K : PySem.W.Frag) (C : Addr) : Sp := fun vs H Q E => ∃ x : Str, vs = [.str x] ∧ x.length ≤ 100000 ∧ (∀ zs, Ord zs → x = textS zs → ∀ p H', Same H H' → SqT K H' p (zs.map V.int) → Q (.ref p) H') ∧ ((¬ ∃ zs, Ord zs ∧ x = textS zs) → ∀ H', Same H H' → E (.ref C) none H')
theorem split_tl (x : Str) : (Txt.split x " + ").map tl = spl sepL 0 [] (tl x) := by
  have := split_spl x " + " (by rw [sep_tl]; decide) (kind_ok (by decide +kernel))
  rw [sep_tl] at this
  exact this
/-- each part of an ordinal's text is read as the term that it is -/
theorem parts_read {x : Str} {zs : List Int} (hz : Ord zs) (hx : x = textS zs) : (Txt.split x " + ").map (fun p => pTerm (tl p)) = (termsOf zs).map fun p => some (p.1.toNat, p.2.toNat) := by
  have h1 : (Txt.split x " + ").map (fun p => pTerm (tl p)) = ((Txt.split x " + ").map tl).map pTerm := by
    rw [List.map_map]
    rfl
  rw [h1, split_tl, hx, spl_text, List.map_map]
  refine List.map_congr_left fun p hp => ?_
  obtain ⟨e, c, rfl, he, hc⟩ := termsOf_nat hz p hp
  exact pTerm_term (e := (e : Int).toNat) (c := (c : Int).toNat) he hc
theorem split_part_len (x : Str) : ∀ p ∈ Txt.split x " + ", p.length ≤ x.length := by
  intro p hp
  have hm : tl p ∈ spl sepL 0 [] (tl x) := by
    rw [← split_tl]
    exact List.mem_map.mpr ⟨p, hp, rfl⟩
  have key : ∀ (ps : List (List Nat)) (q : List Nat), q ∈ ps → q.length ≤ (joinL sepL ps).length := by
    intro ps
    induction ps with
    | nil =>
      intro q h
      cases h
    | cons a r ih =>
      intro q h
      by_cases hr : r = []
      · subst hr
        rw [List.mem_singleton.mp h]
        exact Nat.le_refl _
      · rw [joinL_cons hr, List.length_append, List.length_append]
        rcases List.mem_cons.mp h with e | e
        · rw [e]
          omega
        · have := ih q e
          omega
  have := key _ _ hm
  rw [join_spl (by decide) _ _ _ (Nat.le_refl _), List.nil_append] at this
  rw [len_tl, len_tl]
  exact this
theorem ok_paO {f fT fA fW fI fF C : Addr} {fd dT dA dW dI dF : FuncData} {k : Nat} (F0 : Fun K "parse_ordinal" "parse_ordinal" sPaO f fd) (T : Err K mg "InvalidOrdinal" C)
    (GT : FnOk P w K mg base (L2.CX P w) (k + 4) fT dT ["text"] (spPaT C)) (kT : PySem.W.keepIn K (.ref fT) = true) (bT : Binds K dT ["text"] []) (gT : mg "parse_term" = some (.ref fT))
    (GA : FnOk P w K mg base CX0 (k + 4) fA dA ["first", "second"] (spPad K)) (kA : PySem.W.keepIn K (.ref fA) = true) (bA : Binds K dA ["first", "second"] []) (gA : mg "add" = some (.ref fA))
    (GW : FnOk P w K mg base CX0 (k + 4) fW dW ["exponent", "coefficient"] (spPow K)) (kW : PySem.W.keepIn K (.ref fW) = true) (bW : Binds K dW ["exponent", "coefficient"] []) (gW : mg "power" = some (.ref fW))
    (GI : FnOk P w K mg base CX0 (k + 4) fI dI ["thing"] (spIsO K)) (kI : PySem.W.keepIn K (.ref fI) = true) (bI : Binds K dI ["thing"] []) (gI : mg "is_ordinal" = some (.ref fI))
    (GF : FnOk P w K mg base CX0 (k + 4) fF dF ["ordinal"] (spFmO K)) (kF : PySem.W.keepIn K (.ref fF) = true) (bF : Binds K dF ["ordinal"] []) (gF : mg "format_ordinal" = some (.ref fF)) :
    FnOk P w K mg base (L2.CX P w) (k + 5) f fd ["text"] (spPaO K C) := by
  refine F0.okX scPaO (fun vs H Q E h => ?_) (fun cdv A outer s H vs Q E hr h => ?_)
  · obtain ⟨x, rfl, _⟩ := h
    rfl
  obtain ⟨x, rfl, hl, q, er⟩ := h
  refine ⟨_, pss_cons (ps_set (i := 1) scPaO.nd rfl (.inl rfl) (pe_tup pa_nil))
      (C8.pss_cut (ps_for (passes_of rfl) rfl (pi_list (pe_split (pv 0) pe_str)) (pg_name (i := 2) scPaO.nd rfl (.inl rfl)) (pss_cons (ps_asg (pe_callS GT hr (by rfl) gT kT bT (fun σ => passAt (takes_of rfl rfl rfl rfl) σ) (pa_cons (pv 2) pa_nil)) (pg_tup rfl (pgs_cons (pg_name (i := 3) scPaO.nd rfl (.inl rfl)) (pgs_cons (pg_name (i := 4) scPaO.nd rfl (.inl rfl)) pgs_nil)))) (pss_one (ps_set (i := 1) scPaO.nd rfl (.inl rfl) (pe_call GA hr (by rfl) gA kA bA .nil pass0 (pa_cons (pv 1) (pa_cons (pe_call GW hr (by rfl) gW kW bW .nil pass0 (pa_cons (pv 3) (pa_cons (pv 4) pa_nil))) pa_nil)))))))
      (pss_cons (ps_if (PW.pt (pw_or (pt_not (pt_val (pe_call GI hr (by rfl) gI kI bI .nil pass0 (pa_cons (pv 1) pa_nil)))) (pw_or1 (pt_cmpR op_ne (pe_call GF hr (by rfl) gF kF bF .nil pass0 (pa_cons (pv 1) pa_nil)) (pv 0) (nomark _))))) (pss_one (ps_raise rfl (takes_of rfl rfl rfl rfl) (pmk_own PySem.F.excBase_ValueError T.x T.g T.k (raises_own T.b T.t) rfl))) pss_nil)
      (pss_one (ps_ret (pv 1))))), ?_⟩
  refine ⟨Nat.zero_le _, fun p0 np0 => ?_⟩
  have s0 := same_upd (o := .tup []) np0
  -- the terms so far
  refine ⟨fun σ H' => ∃ (y2 y3 y4 : Option V) (t : Addr) (ps : List (Nat × Nat)), σ = [some (.str x), some (.ref t), y2, y3, y4] ∧ Same H H' ∧ SqT K H' t (((ps.map castP).foldl stR []).map V.int) ∧ (Txt.split x " + ").map (fun p => pTerm (tl p)) = ps.map some ∧ ∀ p ∈ ps, p.1 < 100, ?_, ?_⟩
  · refine ⟨_, rfl, ⟨_, rfl⟩, _, _, rfl, rfl, rfl, by rw [sizeLine_eq]; omega, fun D nD => ⟨D, rfl, ⟨_, .inl (.inl upd_same)⟩, ?_⟩⟩
    have sD := same_upd (o := .lst ((Txt.split x " + ").map V.str)) nD
    have hD : (upd (upd H p0 (.tup [])) D (.lst ((Txt.split x " + ").map V.str))) D = some (.lst ((Txt.split x " + ").map V.str)) := upd_same
    generalize upd (upd H p0 (.tup [])) D (.lst ((Txt.split x " + ").map V.str)) = H1 at sD hD ⊢
    have s1 := s0.trans sD
    refine for_list (K := K) (a := D) (xs := (Txt.split x " + ").map V.str) (fun i σ H' => ∃ (y2 y3 y4 : Option V) (t : Addr) (ps : List (Nat × Nat)), σ = [some (.str x), some (.ref t), y2, y3, y4] ∧ Same H1 H' ∧ SqT K H' t (((ps.map castP).foldl stR []).map V.int) ∧ ((Txt.split x " + ").take i).map (fun p => pTerm (tl p)) = ps.map some ∧ ∀ p ∈ ps, p.1 < 100) ?_ ?_ ?_ ?_
    · exact ⟨none, none, none, p0, [], rfl, Same.refl _, .inl (.inl (sD _ _ upd_same)), rfl, fun p hp => by cases hp⟩
    · rintro i σ H' _ ⟨_, _, _, _, _, _, sm, _⟩
      exact .inl (.inl (sm _ _ hD))
    · rintro i y σ H2 hy ⟨y2, y3, y4, t, ps, rfl, sm, ht, hps, hlt⟩
      obtain ⟨p, hp, rfl⟩ : ∃ p, (Txt.split x " + ")[i]? = some p ∧ y = V.str p := by
        rw [List.getElem?_map] at hy
        obtain ⟨p, h1, h2⟩ := Option.map_eq_some_iff.mp hy
        exact ⟨p, h1, h2.symm⟩
      have hm := List.mem_of_getElem? hp
      have hpl := split_part_len x p hm
      have lt : ((ps.map castP).foldl stR []).length ≤ 100 := stR_len 100 _ _ (Nat.zero_le _) fun p' hp' => by
        obtain ⟨z, hz, rfl⟩ := List.mem_map.mp hp'
        have := hlt z hz
        show ((z.1 : Nat) : Int).toNat + 1 ≤ 100
        omega
      refine ⟨_, rfl, p, rfl, by omega, fun e c hec T0 H3 s3 hT => ⟨T0, _, rfl, .inl (.inl hT), rfl, _, _, rfl, _, _, rfl, rfl, ?_⟩, fun hno H3 s3 => ?_⟩
      · obtain ⟨he, hc⟩ := pTerm_lt hec
        refine ⟨_, rfl, _, rfl, _, rfl, _, _, rfl, by omega, by omega, fun pw H4 s4 tw => ?_⟩
        have lw : (powL (e : Int) (c : Int)).length ≤ 100 := by
          unfold powL
          split
          · exact Nat.zero_le _
          · rw [List.length_cons, List.length_replicate]
            omega
        refine ⟨t, pw, _, _, rfl, Same.seqT (s3.trans s4) ht, tw, by omega, by omega, fun pa H5 s5 ta => ?_⟩
        refine ⟨_, _, _, pa, ps ++ [(e, c)], rfl, sm.trans (s3.trans (s4.trans s5)), ?_, ?_, ?_⟩
        · rw [List.map_append, List.foldl_append]
          exact ta
        · rw [List.take_add_one, hp, List.map_append, hps, List.map_append]
          show _ ++ [pTerm (tl p)] = _
          rw [hec]
          rfl
        · intro z hz
          rcases List.mem_append.mp hz with h | h
          · exact hlt z h
          · rw [List.mem_singleton.mp h]
            exact he
      · refine er ?_ _ ((s1.trans sm).trans s3)
        rintro ⟨zs, hz, hx⟩
        have := parts_read hz hx
        have hmem : none ∈ (Txt.split x " + ").map (fun p => pTerm (tl p)) := List.mem_map.mpr ⟨p, hm, hno⟩
        rw [this] at hmem
        obtain ⟨_, _, h⟩ := List.mem_map.mp hmem
        cases h
    · rintro σ H2 ⟨y2, y3, y4, t, ps, rfl, sm, ht, hps, hlt⟩
      rw [List.length_map, List.take_length] at hps
      exact ⟨_, _, _, t, ps, rfl, s1.trans sm, ht, hps, hlt⟩
  rintro σ H1 ⟨y2, y3, y4, t, ps, rfl, s1, ht, hps, hlt⟩
  generalize hzs : (ps.map castP).foldl stR [] = tot at ht
  have lt : tot.length ≤ 100 := by
    rw [← hzs]
    exact stR_len 100 _ _ (Nat.zero_le _) fun p' hp' => by
      obtain ⟨z, hz, rfl⟩ := List.mem_map.mp hp'
      have := hlt z hz
      show ((z.1 : Nat) : Int).toNat + 1 ≤ 100
      omega
  have only : ∀ zs, Ord zs → x = textS zs → tot = zs := by
    intro zs hz hx
    have h1 := parts_read hz hx
    rw [hps] at h1
    have h2 : ps = (termsOf zs).map fun p => (p.1.toNat, p.2.toNat) := by
      have h3 : ps.map some = ((termsOf zs).map fun p => (p.1.toNat, p.2.toNat)).map some := by
        rw [h1, List.map_map]
        rfl
      have inj : ∀ (a b : List (Nat × Nat)), a.map some = b.map some → a = b := by
        intro a
        induction a with
        | nil =>
          intro b h
          cases b with
          | nil => rfl
          | cons _ _ => cases h
        | cons u r ih =>
          intro b h
          cases b with
          | nil => cases h
          | cons v' r' =>
            rw [List.map_cons, List.map_cons] at h
            obtain ⟨g1, g2⟩ := List.cons.inj h
            rw [Option.some.inj g1, ih _ g2]
      exact inj _ _ h3
    have h4 : ps.map castP = termsOf zs := by
      rw [h2, List.map_map]
      refine (List.map_congr_left fun p hp => ?_).trans (List.map_id _)
      obtain ⟨e, c, rfl, _, _⟩ := termsOf_nat hz p hp
      rfl
    rw [← hzs, h4, read_back hz]
  refine ⟨_, rfl, t, tot, rfl, ht, by omega, fun hO => ?_, fun hO => ?_⟩
  · refine ⟨_, rfl, iteF ⟨_, rfl, t, tot, rfl, ht, hO, fun H2 s2 => ⟨_, rfl, rfl, _, rfl, ?_⟩⟩⟩
    by_cases hx : textS tot = x
    · rw [decide_eq_true (congrArg V.str hx)]
      exact iteF ⟨_, rfl, q tot hO hx.symm t H2 (s1.trans s2) (Same.seqT s2 ht)⟩
    · rw [decide_eq_false fun z => hx (V.str.inj z)]
      refine iteT (er ?_ _ (s1.trans s2))
      rintro ⟨zs, hz, h2⟩
      rw [only zs hz h2] at hx
      exact hx h2.symm
  · refine ⟨_, rfl, iteT (er ?_ _ s1)⟩
    rintro ⟨zs, hz, h2⟩
    rw [only zs hz h2] at hO
    exact hO hz
end
end Lim
set_option maxHeartbeats 2000000
namespace Lim
open PySem PySem.Spec PyProof.Rows L2 TL
abbrev sPla : Stmt := topS 36
abbrev sTof : Stmt := topS 37
abbrev sPar : Stmt := topS 38
theorem same_updN {H H' : Hp} {D : Addr} {o : HO} (s : Same H H') (n : H D = none) : Same H (upd H' D o) := fun c u h => by
  rw [upd_ne (ne_of_none h n)]
  exact s c u h
theorem get_tl {x : Str} {i : Nat} {c : Nat} (h : x.cps[i]? = some c) : (tl x)[i]? = some c := by
  show x.cps.toList[i]? = some c
  rw [Array.getElem?_toList]
  exact h
theorem txt_eq' {c : Nat} : decide (V.str ⟨#[c]⟩ = V.str "0") = decide (c = 48) := by
  have e0 : tl ("0" : Str) = [48] := by decide +kernel
  by_cases h : c = 48
  · subst h
    rw [decide_eq_true rfl]
    exact decide_eq_true (congrArg V.str (ext_tl (x := ⟨#[48]⟩) (y := "0") e0.symm))
  · rw [decide_eq_false h]
    refine decide_eq_false fun q => h ?_
    have := congrArg tl (V.str.inj q)
    rw [e0] at this
    simpa [tl] using this
theorem one_ok {c : Nat} (h : c < 128) : PyData.strOk ⟨#[c]⟩ = true := ok_of_lt fun s hs => by
  have : s = c := by simpa [tl] using hs
  omega
/-- the signs that are no digits -/
def oddS (l : List Nat) : List Str := (l.filter fun c => !(decide (48 ≤ c) && decide (c ≤ 57))).map fun c => ⟨#[c]⟩
theorem oddS_nil {l : List Nat} : oddS l = [] ↔ digB l = true := by
  unfold oddS digB
  rw [List.map_eq_nil_iff, List.filter_eq_nil_iff, List.all_eq_true]
  constructor
  · intro h c hc
    have := h c hc
    simpa using this
  · intro h c hc
    rw [h c hc]
    decide
section
variable {P : Program} {w : World} {K : PySem.W.Frag} {mg : Str → Option Value} {base : Heap}
abbrev nPla : List Str := ["text", "least", "bound", "sign"]
theorem scPla : FnScope nPla ["text", "least", "bound"] (defScope sPla) := ⟨rfl, rfl, rfl, by decide +kernel, rfl, by decide +kernel, by decide +kernel⟩
def oInt : Option Nat → V
  | none => .non
  | some n => .int (n : Int)
def spPla : Sp := fun vs H Q _ => ∃ (x : Str) (lo hi : Nat), vs = [.str x, .int (lo : Int), .int (hi : Int)] ∧ x.length ≤ 100000 ∧ Asc x ∧ ∀ H', Same H H' → Q (oInt (lNum lo hi (tl x))) H'

theorem ok_pla {f : Addr} {fd : FuncData} {k : Nat} (F : Fun K "_law_plain_number" "_law_plain_number" sPla f fd) (ml : mg "len" = none) (mi : mg "int" = none) :
    FnOk P w K mg base CX0 (k + 1) f fd ["text", "least", "bound"] spPla := by
  refine F.ok scPla (fun vs H Q E h => ?_) (fun cdv A outer s H vs Q E hr h => ?_)
  · obtain ⟨x, lo, hi, rfl, _⟩ := h
    rfl
  obtain ⟨x, lo, hi, rfl, hl, ha, q⟩ := h
  have ls : x.length ≤ sizeLine := by rw [sizeLine_eq]; omega
  have lx : x.length = (tl x).length := len_tl x
  refine ⟨_, (C8.pss_cut (ps_if (PW.pt (pw_or (pt_not (pt_chain op_lt op_lt pe_int (pe_callB call_len_str (by rfl) ml PySem.boot_len (pa_cons (pv 0) pa_nil)) pe_int)) (pw_or (pt_cmpR (op_neD hr.units) (pe_lc (own := [("sign", 3)]) (g := gName 3) (by rfl) scPla.nd (pi_str (pv 0)) (blkOk_by (N := nPla) (sc := defScope sPla) (by decide +kernel)) (fun _ _ _ _ _ => pg_name (i := 3) scPla.nd rfl (.inl rfl)) (fun _ _ _ _ _ => pts_one (pt_cmpR op_notIn_sign (pv 3) pe_str (by with_unfolding_all rfl))) (fun _ _ _ _ _ => pv 3)) (pe_lst pa_nil) (nomark _)) (pw_or1 (pt_cmpR op_eq (pe_item_str (pv 0) pe_int (fun _ _ => rfl)) (pe_str) (nomark _)))))) (pss_one (ps_ret (pe_non))) pss_nil)
        (pss_one (ps_ret (pe_ifExp (pt_chain op_le op_lt (pv 1) (pe_callTy call_int_str (by rfl) mi (by decide +kernel) (pa_cons (pv 0) pa_nil)) (pv 2)) (pe_callTy call_int_str (by rfl) mi (by decide +kernel) (pa_cons (pv 0) pa_nil)) pe_non)))), ?_⟩
  refine ⟨fun σ H' => σ = [some (.str x), some (.int (lo : Int)), some (.int (hi : Int)), none] ∧ Same H H' ∧ tl x ≠ [] ∧ (tl x).length < 20 ∧ digB (tl x) = true ∧ (tl x).head? ≠ some 48, ?_, ?_⟩
  · refine ⟨_, rfl, _, rfl, ls, _, _, rfl, rfl, _, rfl, ?_⟩
    by_cases c1 : (0 : Int) < (x.length : Int)
    case neg =>
      rw [decide_eq_false c1]
      have e : lNum lo hi (tl x) = none := by
        unfold lNum
        rw [if_neg]
        rintro ⟨h1, _⟩
        have := List.length_pos_iff.mpr h1
        omega
      refine iteF ⟨_, rfl, iteT ?_⟩
      have := q H (Same.refl _)
      rw [e] at this
      exact this
    rw [decide_eq_true c1]
    refine iteT ⟨_, _, rfl, rfl, _, rfl, ?_⟩
    by_cases c2 : (x.length : Int) < 20
    case neg =>
      rw [decide_eq_false c2]
      have e : lNum lo hi (tl x) = none := by
        unfold lNum
        rw [if_neg]
        rintro ⟨_, h2, _⟩
        omega
      refine iteT ?_
      have := q H (Same.refl _)
      rw [e] at this
      exact this
    rw [decide_eq_true c2]
    refine iteF ⟨_, rfl, _, rfl, fun D nD => ?_⟩
    have es : x.cps.size = (tl x).length := by show x.cps.size = x.cps.toList.length; simp
    have hne : tl x ≠ [] := fun e => by
      rw [lx, e] at c1
      exact absurd c1 (by decide)
    refine lc_it walk_str (fun i H' => Same H H' ∧ H' D = some (.lst ((oddS ((tl x).take i)).map V.str))) ⟨same_upd nD, upd_same⟩ (fun _ _ _ _ => trivial) ?_ ?_
    · rintro i y H1 H1' hi ⟨s1, hD⟩ ⟨rfl, c, hc, rfl⟩
      have hc' := get_tl hc
      have tk : (tl x).take (i + 1) = (tl x).take i ++ [c] := by
        rw [List.take_add_one, hc']
        rfl
      refine ⟨rfl, _, rfl, _, _, rfl, rfl, _, rfl, ?_⟩
      rw [in_dig]
      by_cases hd : (decide (48 ≤ c) && decide (c ≤ 57)) = true
      · rw [hd]
        refine iteF ⟨s1, ?_⟩
        rw [hD, tk]
        unfold oddS
        rw [List.filter_append]
        have : [c].filter (fun c => !(decide (48 ≤ c) && decide (c ≤ 57))) = [] := by
          rw [List.filter_cons_of_neg (by rw [hd]; decide)]
          rfl
        rw [this, List.append_nil]
      · have hd : (decide (48 ≤ c) && decide (c ≤ 57)) = false := by simpa using hd
        rw [hd]
        refine iteT ⟨_, rfl, _, hD, ?_, same_updN s1 nD, ?_⟩
        · rw [List.length_map]
          unfold oddS
          rw [List.length_map]
          have h1 := List.length_filter_le (fun c => !(decide (48 ≤ c) && decide (c ≤ 57))) ((tl x).take i)
          rw [List.length_take] at h1
          exact small1000 (by omega)
        · rw [upd_same, tk]
          unfold oddS
          rw [List.filter_append]
          have : [c].filter (fun c => !(decide (48 ≤ c) && decide (c ≤ 57))) = [c] := by
            rw [List.filter_cons_of_pos (by rw [hd]; decide)]
            rfl
          rw [this, List.map_append, List.map_append]
          rfl
    rintro H1 ⟨s1, hD⟩
    rw [es, List.take_length] at hD
    refine ⟨by show 0 ≤ sizeLine; decide, fun p np => ?_⟩
    have s2 := same_upd (o := .lst []) np
    have hok : ∀ z ∈ oddS (tl x), PyData.strOk z = true := by
      intro z hz
      unfold oddS at hz
      obtain ⟨c, hc, rfl⟩ := List.mem_map.mp hz
      exact one_ok (ha c (List.mem_filter.mp hc).1)
    refine ⟨.list ((oddS (tl x)).map PyData.str), .list [], .lst (.inl (.inl (s2 _ _ hD))) (dp_txts _), .lst (.inl (.inl upd_same)) .nil, shaped_txts _ hok, shaped_ints [], _, rfl, ?_⟩
    rw [eqv_nil]
    by_cases hod : digB (tl x) = true
    case neg =>
      have h1 : (oddS (tl x)).map PyData.str ≠ [] := fun z => hod (oddS_nil.mp (List.map_eq_nil_iff.mp z))
      rw [decide_eq_false h1]
      refine iteT ?_
      have e : lNum lo hi (tl x) = none := by
        unfold lNum
        rw [if_neg]
        rintro ⟨_, _, h3, _⟩
        exact hod h3
      have := q _ (s1.trans s2)
      rw [e] at this
      exact this
    have h1 : (oddS (tl x)).map PyData.str = [] := by rw [oddS_nil.mpr hod]; rfl
    rw [decide_eq_true h1]
    obtain ⟨c0, r0, e0⟩ : ∃ c r, tl x = c :: r := by
      cases h : tl x with
      | nil => exact absurd h hne
      | cons c r => exact ⟨c, r, rfl⟩
    have h0 : x.cps[(0 : Int).toNat]? = some c0 := by
      show x.cps[0]? = some c0
      rw [← Array.getElem?_toList]
      show (tl x)[0]? = some c0
      rw [e0]
      rfl
    refine iteF ⟨_, rfl, _, _, c0, rfl, rfl, Int.le_refl _, by decide, c1, h0, rfl, _, rfl, ?_⟩
    rw [txt_eq']
    by_cases h48 : c0 = 48
    · rw [decide_eq_true h48]
      refine iteT ?_
      have e : lNum lo hi (tl x) = none := by
        unfold lNum
        rw [if_neg]
        rintro ⟨_, _, _, h4, _⟩
        rw [e0, h48] at h4
        exact h4 rfl
      have := q _ (s1.trans s2)
      rw [e] at this
      exact this
    · rw [decide_eq_false h48]
      refine iteF ⟨rfl, s1.trans s2, hne, by omega, hod, ?_⟩
      rw [e0]
      intro z
      exact h48 (by simpa using z)
  rintro σ H1 ⟨rfl, s1, h1, h2, h3, h4⟩
  have hv := intText_digits (x := x) (digB_iff.mp h3) h1 (by omega)
  have hl6 : x.length ≤ 640 := by omega
  refine ⟨_, rfl, _, rfl, _, _, rfl, hv, hl6, _, _, rfl, rfl, _, rfl, ?_⟩
  have ev : x.cps.toList = tl x := rfl
  rw [ev]
  by_cases c1 : lo ≤ NumText.digitsVal (tl x)
  case neg =>
    rw [decide_eq_false (show ¬ ((lo : Int) ≤ ((NumText.digitsVal (tl x) : Nat) : Int)) by omega)]
    refine iteF ⟨_, rfl, iteF ?_⟩
    have e : lNum lo hi (tl x) = none := by
      unfold lNum
      rw [if_neg]
      rintro ⟨_, _, _, _, h5, _⟩
      exact c1 h5
    have := q _ s1
    rw [e] at this
    exact this
  rw [decide_eq_true (show ((lo : Int) ≤ ((NumText.digitsVal (tl x) : Nat) : Int)) by omega)]
  refine iteT ⟨_, rfl, _, _, rfl, rfl, _, rfl, ?_⟩
  by_cases c2 : NumText.digitsVal (tl x) < hi
  case neg =>
    rw [decide_eq_false (show ¬ (((NumText.digitsVal (tl x) : Nat) : Int) < (hi : Int)) by omega)]
    refine iteF ?_
    have e : lNum lo hi (tl x) = none := by
      unfold lNum
      rw [if_neg]
      rintro ⟨_, _, _, _, _, h6⟩
      exact c2 h6
    have := q _ s1
    rw [e] at this
    exact this
  rw [decide_eq_true (show (((NumText.digitsVal (tl x) : Nat) : Int) < (hi : Int)) by omega)]
  refine iteT ⟨_, rfl, _, _, rfl, hv, hl6, ?_⟩
  have e : lNum lo hi (tl x) = some (NumText.digitsVal (tl x)) := by
    unfold lNum
    rw [if_pos ⟨h1, h2, h3, h4, c1, c2⟩]
  have := q _ s1
  rw [e] at this
  exact this
end
end Lim
set_option maxHeartbeats 2000000
namespace Lim
open PySem PySem.Spec PyProof.Rows L2 TL
theorem mkS_of (x : Str) : mkS (tl x) = x := mk_tl x
theorem cut_pre (l : List Nat) (n : Nat) : cutS (mkS l) none (some (n : Int)) = mkS (l.take n) := eq_mkS (by
  unfold cutS
  rw [HT.sIx_none, HT.sIx_nat, mkS_len]
  show List.take (min n l.length - 0) (l.drop 0) = l.take n
  rw [Nat.sub_zero, List.drop_zero]
  by_cases h : n ≤ l.length
  · rw [Nat.min_eq_left h]
  · rw [Nat.min_eq_right (by omega), List.take_of_length_le (Nat.le_refl _), List.take_of_length_le (by omega)])
theorem pre_w (l : List Nat) : decide (V.str (mkS (l.take 1)) = V.str "w") = pre [119] l := by
  rw [is_w]
  unfold pre
  show decide (l.take 1 = [119]) = (l.take 1 == [119])
  by_cases h : l.take 1 = [119]
  · rw [decide_eq_true h, h]
    rfl
  · rw [decide_eq_false h]
    exact (beq_eq_false_iff_ne.mpr h).symm
theorem pre_wc (l : List Nat) : decide (V.str (mkS (l.take 2)) = V.str "w^") = pre [119, 94] l := by
  unfold pre
  show _ = (l.take 2 == [119, 94])
  by_cases h : l.take 2 = [119, 94]
  · rw [h]
    refine (decide_eq_true ?_).trans (by rfl)
    exact congrArg V.str (eq_mkS wc_tl).symm
  · rw [beq_eq_false_iff_ne.mpr h]
    refine decide_eq_false fun q => h ?_
    have := congrArg tl (V.str.inj q)
    rwa [wc_tl] at this
theorem is_star (b : Bool) : decide (V.str (if b = true then ("*" : Str) else Str.empty) = V.str "*") = b := by
  cases b <;> decide +kernel
theorem part_asc {l : List Nat} (h : ∀ c ∈ l, c < 128) : (∀ c ∈ (part3 l).1, c < 128) ∧ ∀ c ∈ (part3 l).2.2, c < 128 := by
  unfold part3
  cases hp : par [42] [] l with
  | none => exact ⟨h, fun c hc => by cases hc⟩
  | some ab =>
    obtain ⟨a, b⟩ := ab
    have := par_some hp
    rw [List.nil_append] at this
    rw [this] at h
    exact ⟨fun c hc => h c (List.mem_append_left _ (List.mem_append_left _ hc)), fun c hc => h c (List.mem_append_right _ hc)⟩
/-- a term that was read, or None -/
def TofV (H : Hp) (v : V) (o : Option (Nat × Nat)) : Prop := match o with
  | none => v = .non
  | some p => Pr H v (castP p)
theorem TofV.same {H H' : Hp} {v : V} {o : Option (Nat × Nat)} (h : TofV H v o) (s : Same H H') : TofV H' v o := by
  cases o with
  | none => exact h
  | some p =>
    obtain ⟨a, e, h2⟩ := h
    exact ⟨a, e, s _ _ h2⟩
theorem TofV.updL {H : Hp} {l : Addr} {xs : List V} {y : HO} {v : V} {o : Option (Nat × Nat)} (h : TofV H v o) (hl : H l = some (.lst xs)) : TofV (upd H l y) v o := by
  cases o with
  | none => exact h
  | some p =>
    obtain ⟨a, e, h2⟩ := h
    refine ⟨a, e, ?_⟩
    rw [upd_ne]
    · exact h2
    · intro z
      rw [z, hl] at h2
      cases h2
def oD : Option (Nat × Nat) → PyData
  | none => .none
  | some p => prD (castP p)
theorem dp_tof {K : PySem.W.Frag} {H : Hp} : ∀ {vs : List V} {os : List (Option (Nat × Nat))}, Paired (TofV H) vs os → DpAll K H vs (os.map oD)
  | _, _, .nil => .nil
  | _, _, .cons (b := o) h t => by
    refine .cons ?_ (dp_tof t)
    cases o with
    | none =>
      cases (show _ = V.non from h)
      exact .non
    | some p =>
      obtain ⟨a, rfl, h2⟩ := h
      exact .tup (.inl (.inl h2)) (.cons (.int _) (.cons (.int _) .nil))
theorem lay_os : ∀ os : List (Option (Nat × Nat)), PyData.canLayAll0 (os.map oD) = true ∧ PyData.depthAll (os.map oD) ≤ 1
  | [] => ⟨rfl, Nat.zero_le _⟩
  | none :: r => by
    obtain ⟨h1, h2⟩ := lay_os r
    rw [List.map_cons]
    exact ⟨by rw [PyData.canLayAll0, h1]; rfl, by rw [PyData.depthAll]; exact Nat.max_le.mpr ⟨Nat.zero_le _, h2⟩⟩
  | some p :: r => by
    obtain ⟨h1, h2⟩ := lay_os r
    rw [List.map_cons]
    exact ⟨by rw [PyData.canLayAll0, h1]; rfl, by rw [PyData.depthAll]; exact Nat.max_le.mpr ⟨by
      have := (lay_prs [castP p]).2
      rw [List.map_cons, PyData.depthAll] at this
      exact Nat.le_trans (Nat.le_max_left _ _) this, h2⟩⟩
theorem any_none : ∀ os : List (Option (Nat × Nat)), ((os.map oD).any fun z => PyData.eqv z .none) = decide (none ∈ os)
  | [] => rfl
  | none :: r => by
    show (PyData.eqv .none .none || _) = _
    rw [show PyData.eqv .none .none = true from rfl, Bool.true_or, decide_eq_true (List.mem_cons_self ..)]
  | some p :: r => by
    have ih := any_none r
    show (PyData.eqv (prD (castP p)) .none || _) = _
    rw [show PyData.eqv (prD (castP p)) .none = false from rfl, Bool.false_or, ih]
    by_cases h : none ∈ r
    · rw [decide_eq_true h, decide_eq_true (List.mem_cons_of_mem _ h)]
    · rw [decide_eq_false h, decide_eq_false (by simp [h])]
section
variable {P : Program} {w : World} {K : PySem.W.Frag} {mg : Str → Option Value} {base : Heap}
abbrev nTof : List Str := ["text", "number", "base", "star", "factor", "exponent"]
theorem scTof : FnScope nTof ["text"] (defScope sTof) := ⟨rfl, rfl, rfl, by decide +kernel, rfl, by decide +kernel, by decide +kernel⟩
def spTof : Sp := fun vs H Q _ => ∃ x : Str, vs = [.str x] ∧ x.length ≤ 100000 ∧ Asc x ∧ ∀ v H', Same H H' → TofV H' v (lTerm (tl x)) → Q v H'

theorem ok_tof {f fN : Addr} {fd dN : FuncData} {k : Nat} (F : Fun K "_law_term_of" "_law_term_of" sTof f fd)
    (GN : FnOk P w K mg base CX0 k fN dN ["text", "least", "bound"] spPla) (kN : PySem.W.keepIn K (.ref fN) = true) (bN : Binds K dN ["text", "least", "bound"] []) (gN : mg "_law_plain_number" = some (.ref fN)) :
    FnOk P w K mg base CX0 (k + 1) f fd ["text"] spTof := by
  refine F.ok scTof (fun vs H Q E h => ?_) (fun cdv A outer s H vs Q E hr h => ?_)
  · obtain ⟨x, rfl, _⟩ := h
    rfl
  obtain ⟨x, rfl, hl, ha, q⟩ := h
  have two : 2 ≤ sizeLine := by show 2 ≤ sizeLine; decide
  have ls : ∀ n, n ≤ 100000 → n ≤ sizeLine := fun n h => by rw [sizeLine_eq]; omega
  have lx : x.length = (tl x).length := len_tl x
  have pw : ((10 : Int) ^ (18 : Int).toNat) = ((10 ^ 18 : Nat) : Int) := by decide
  have pok : (0 : Int) ≤ 18 ∧ (18 : Int) ≤ 1000000 ∧ (10 : Int).natAbs < 2 ^ 64 := ⟨by decide, by decide, by decide⟩
  obtain ⟨pl1, pl2⟩ := part_len (tl x)
  obtain ⟨pa1, pa2⟩ := part_asc ha
  have unf : lTerm (tl x) = if pre [119] (tl x) = false then (lNum 1 (10 ^ 18) (tl x)).map fun n => (0, n)
      else match (if (part3 (tl x)).2.1 = true then lNum 2 (10 ^ 18) (part3 (tl x)).2.2 else some 1), (if (part3 (tl x)).1 = [119] then some 1 else if pre [119, 94] (part3 (tl x)).1 = true then lNum 2 64 ((part3 (tl x)).1.drop 2) else none) with
        | some n, some e => some (e, n)
        | _, _ => none := rfl
  refine ⟨_, (pss_cons (ps_if (pt_cmpR op_ne (pe_slice sl_str (pv 0) (po_none) (po_some (pe_int))) (pe_str) (nomark _)) (C8.pss_cut (ps_set (i := 1) scTof.nd rfl (.inl rfl) (pe_call GN hr (by rfl) gN kN bN .nil pass0 (pa_cons (pv 0) (pa_cons (pe_int) (pa_cons (pe_op op_pow (pe_int) (pe_int)) pa_nil)))))
        (pss_one (ps_ret (pe_ifExp (pt_cmpR op_isN (pv 1) pe_non (nomark _)) pe_non (pe_tup (pa_cons (pe_int) (pa_cons (pv 1) pa_nil))))))) pss_nil)
        (pss_cons (ps_asg (pe_partition (pv 0) pe_str) (pg_tup rfl (pgs_cons (pg_name (i := 2) scTof.nd rfl (.inl rfl)) (pgs_cons (pg_name (i := 3) scTof.nd rfl (.inl rfl)) (pgs_cons (pg_name (i := 4) scTof.nd rfl (.inl rfl)) pgs_nil)))))
        (C8.pss_cut (ps_set (i := 1) scTof.nd rfl (.inl rfl) (pe_ifExp (pt_cmpR op_eq (pv 3) (pe_str) (nomark _)) (pe_call GN hr (by rfl) gN kN bN .nil pass0 (pa_cons (pv 4) (pa_cons (pe_int) (pa_cons (pe_op op_pow (pe_int) (pe_int)) pa_nil)))) (pe_int)))
        (C8.pss_cut (ps_set (i := 5) scTof.nd rfl (.inl rfl) (pe_ifExp (pt_cmpR op_eq (pv 2) (pe_str) (nomark _)) (pe_int) (pe_ifExp (pt_cmpR op_eq (pe_slice sl_str (pv 2) (po_none) (po_some (pe_int))) (pe_str) (nomark _)) (pe_call GN hr (by rfl) gN kN bN .nil pass0 (pa_cons (pe_slice sl_str (pv 2) (po_some (pe_int)) (po_none)) (pa_cons (pe_int) (pa_cons (pe_int) pa_nil)))) (pe_non))))
        (pss_one (ps_ret (pe_ifExp (PW.pt (pw_or (pt_cmpR op_isN (pv 1) pe_non (nomark _)) (pw_or1 (pt_cmpR op_isN (pv 5) pe_non (nomark _))))) pe_non (pe_tup (pa_cons (pv 5) (pa_cons (pv 1) pa_nil)))))))))), ?_⟩
  refine ⟨_, rfl, _, rfl, _, rfl, ls _ hl, rfl, _, rfl, ?_⟩
  have e1 : cutS x none (some 1) = mkS ((tl x).take 1) := by
    have := cut_pre (tl x) 1
    rwa [mkS_of] at this
  rw [e1, pre_w]
  by_cases hw : pre [119] (tl x) = false
  · rw [hw]
    rw [if_pos hw] at unf
    refine iteT ?_
    refine ⟨fun σ H' => σ = [some (.str x), some (oInt (lNum 1 (10 ^ 18) (tl x))), none, none, none, none] ∧ Same H H', ?_, ?_⟩
    · refine ⟨_, rfl, _, _, rfl, rfl, pok, x, 1, 10 ^ 18, congrArg (fun z => [V.str x, V.int 1, V.int z]) pw, hl, ha, fun H1 s1 => ⟨rfl, s1⟩⟩
    rintro σ H1 ⟨rfl, s1⟩
    cases hn : lNum 1 (10 ^ 18) (tl x) with
    | none =>
      rw [hn] at unf
      refine ⟨_, rfl, rfl, _, rfl, iteT (q _ _ s1 ?_)⟩
      rw [unf]
      rfl
    | some n =>
      rw [hn] at unf
      refine ⟨_, rfl, rfl, _, rfl, iteF ⟨_, rfl, two, fun p np => q _ _ (s1.trans (same_upd np)) ?_⟩⟩
      rw [unf]
      exact ⟨p, rfl, upd_same⟩
  have hw : pre [119] (tl x) = true := by simpa using hw
  rw [hw]
  rw [if_neg (by rw [hw]; decide)] at unf
  refine iteF ⟨_, rfl, ⟨_, rfl⟩, _, _, rfl, rfl, rfl, ls _ hl, fun t nT => ?_⟩
  rw [part_3]
  have sT := same_upd (o := .tup [.str (mkS (part3 (tl x)).1), .str (if (part3 (tl x)).2.1 = true then ("*" : Str) else Str.empty), .str (mkS (part3 (tl x)).2.2)]) nT
  refine ⟨t, _, rfl, .inl (.inl upd_same), rfl, _, _, rfl, _, _, rfl, _, _, rfl, rfl, ?_⟩
  generalize hH1 : upd H t (.tup [.str (mkS (part3 (tl x)).1), .str (if (part3 (tl x)).2.1 = true then ("*" : Str) else Str.empty), .str (mkS (part3 (tl x)).2.2)]) = H1 at sT
  have q0 : ∀ v H', Same H1 H' → TofV H' v (lTerm (tl x)) → Q v H' := fun v H' s => q v H' (sT.trans s)
  generalize (part3 (tl x)).1 = b at *
  generalize (part3 (tl x)).2.1 = st at *
  generalize (part3 (tl x)).2.2 = fa at *
  have hfa : Asc (mkS fa) := pa2
  have hb : Asc (mkS b) := pa1
  refine ⟨fun σ H' => σ = [some (.str x), some (oInt (if st = true then lNum 2 (10 ^ 18) fa else some 1)), some (.str (mkS b)), some (.str (if st = true then ("*" : Str) else Str.empty)), some (.str (mkS fa)), none] ∧ Same H1 H', ?_, ?_⟩
  · refine ⟨_, rfl, rfl, _, rfl, ?_⟩
    rw [is_star]
    cases st with
    | true =>
      refine iteT ⟨_, rfl, _, _, rfl, rfl, pok, mkS fa, 2, 10 ^ 18, congrArg (fun z => [V.str (mkS fa), V.int 2, V.int z]) pw, by rw [mkS_len]; omega, hfa, fun H2 s2 => ⟨?_, s2⟩⟩
      rw [tl_mkS, if_pos rfl]
      rfl
    | false => exact iteF ⟨rfl, Same.refl _⟩
  rintro σ H2 ⟨rfl, s2⟩
  generalize (if st = true then lNum 2 (10 ^ 18) fa else some 1) = on at *
  refine ⟨fun σ H' => σ = [some (.str x), some (oInt on), some (.str (mkS b)), some (.str (if st = true then ("*" : Str) else Str.empty)), some (.str (mkS fa)), some (oInt (if b = [119] then some 1 else if pre [119, 94] b = true then lNum 2 64 (b.drop 2) else none))] ∧ Same H2 H', ?_, ?_⟩
  · refine ⟨_, rfl, rfl, _, rfl, ?_⟩
    rw [is_w]
    by_cases hb1 : b = [119]
    · rw [decide_eq_true hb1, if_pos hb1]
      exact iteT ⟨rfl, Same.refl _⟩
    rw [decide_eq_false hb1, if_neg hb1]
    refine iteF ⟨_, rfl, _, rfl, _, rfl, ls _ (by rw [mkS_len]; omega), rfl, _, rfl, ?_⟩
    rw [show (2 : Int) = ((2 : Nat) : Int) from rfl, cut_pre, pre_wc]
    by_cases hw2 : pre [119, 94] b = true
    · rw [hw2, if_pos rfl]
      refine iteT ⟨_, rfl, _, rfl, _, rfl, ls _ (by rw [mkS_len]; omega), _, 2, 64, rfl, ?_, ?_, fun H3 s3 => ⟨?_, s3⟩⟩
      · exact Nat.le_trans (cutS_length _ _ _) (by rw [mkS_len]; omega)
      · rw [show ((2 : Nat) : Int) = 2 from rfl, cut_from2]
        exact fun c hc => hb c (List.mem_of_mem_drop hc)
      · rw [show ((2 : Nat) : Int) = 2 from rfl, cut_from2, tl_mkS]
        rfl
    · rw [if_neg hw2]
      have hw2 : pre [119, 94] b = false := by simpa using hw2
      rw [hw2]
      exact iteF ⟨rfl, Same.refl _⟩
  rintro σ H3 ⟨rfl, s3⟩
  generalize (if b = [119] then some 1 else if pre [119, 94] b = true then lNum 2 64 (b.drop 2) else none) = oe at *
  have s23 := s2.trans s3
  cases on with
  | none =>
    refine ⟨_, rfl, rfl, _, rfl, iteT (iteT (q0 _ _ s23 ?_))⟩
    rw [unf]
    rfl
  | some n =>
    refine ⟨_, rfl, rfl, _, rfl, iteF ⟨_, rfl, rfl, _, rfl, ?_⟩⟩
    cases oe with
    | none =>
      refine iteT (q0 _ _ s23 ?_)
      rw [unf]
      rfl
    | some e =>
      refine iteF ⟨_, rfl, _, rfl, two, fun p np => q0 _ _ (s23.trans (same_upd np)) ?_⟩
      rw [unf]
      exact ⟨p, rfl, upd_same⟩
abbrev nPar : List Str := ["text", "terms", "part", "one", "other"]
theorem scPar : FnScope nPar ["text"] (defScope sPar) := ⟨rfl, rfl, rfl, by decide +kernel, rfl, by decide +kernel, by decide +kernel⟩
def spPar (K : PySem.W.Frag) : Sp := fun vs H Q _ => ∃ x : Str, vs = [.str x] ∧ x.length ≤ 100000 ∧ Asc x ∧ (lParse (tl x) = none → ∀ H', Same H H' → Q .non H') ∧ (∀ zs, lParse (tl x) = some zs → ∀ p H', Same H H' → SqT K H' p (zs.map V.int) → Q (.ref p) H')
theorem is_zero (x : Str) : decide (V.str x = V.str "0") = decide (tl x = [48]) := by
  have e0 : tl ("0" : Str) = [48] := by decide +kernel
  by_cases h : tl x = [48]
  · rw [decide_eq_true h]
    exact decide_eq_true (congrArg V.str (ext_tl (h.trans e0.symm)))
  · rw [decide_eq_false h]
    refine decide_eq_false fun q => h ?_
    rw [V.str.inj q, e0]
/-- the places at which the exponents do not fall -/
def notFall : List (Nat × Nat) → List Int
  | p :: q :: r => (if p.1 ≤ q.1 then [1] else []) ++ notFall (q :: r)
  | _ => []
theorem notFall_nil : ∀ ps : List (Nat × Nat), notFall ps = [] ↔ fallB ps = true
  | [] => by simp [notFall, fallB]
  | [p] => by simp [notFall, fallB]
  | p :: q :: r => by
    have ih := notFall_nil (q :: r)
    show (if p.1 ≤ q.1 then [1] else []) ++ notFall (q :: r) = [] ↔ (decide (q.1 < p.1) && fallB (q :: r)) = true
    rw [List.append_eq_nil_iff, ih, Bool.and_eq_true]
    refine and_congr ?_ Iff.rfl
    by_cases h : p.1 ≤ q.1
    · simp [h]
    · have h2 : q.1 < p.1 := by omega
      simp [h, h2]
theorem notFall_take (ps : List (Nat × Nat)) : ∀ (i : Nat) {p q : Nat × Nat}, ps[i]? = some p → ps[i + 1]? = some q → notFall (ps.take (i + 2)) = notFall (ps.take (i + 1)) ++ (if p.1 ≤ q.1 then [1] else []) := by
  induction ps with
  | nil =>
    intro i p q h
    simp at h
  | cons a r ih =>
    intro i p q hp hq
    cases i with
    | zero =>
      cases r with
      | nil => simp at hq
      | cons b r' =>
        have h1 : a = p := by simpa using hp
        have h2 : b = q := by simpa using hq
        subst h1 h2
        show (if a.1 ≤ b.1 then [1] else []) ++ notFall (b :: List.take 0 r') = notFall [a] ++ _
        simp [notFall]
    | succ i =>
      have hp' : r[i]? = some p := by simpa using hp
      have hq' : r[i + 1]? = some q := by simpa using hq
      cases r with
      | nil => simp at hp'
      | cons b r' =>
        have := ih i hp' hq'
        show (if a.1 ≤ b.1 then [1] else []) ++ notFall ((b :: r').take (i + 2)) = ((if a.1 ≤ b.1 then [1] else []) ++ notFall ((b :: r').take (i + 1))) ++ _
        rw [this, List.append_assoc]
theorem notFall_one (ps : List (Nat × Nat)) : notFall (ps.take 1) = [] := by
  cases ps <;> rfl

theorem spl_len (S : List Nat) : ∀ (l : List Nat) (k : Nat) (acc : List Nat), (spl S k acc l).length ≤ l.length + 1
  | [], k, acc => by rw [spl_nil]; exact Nat.le_refl _
  | c :: r, 0, acc => by
    by_cases h : pre S (c :: r) = true
    · rw [spl_hit h, List.length_cons, List.length_cons]
      have := spl_len S r (S.length - 1) []
      omega
    · rw [spl_miss (by simpa using h), List.length_cons]
      have := spl_len S r 0 (acc ++ [c])
      omega
  | c :: r, k + 1, acc => by
    have := spl_len S r k acc
    rw [List.length_cons]
    show (spl S k acc r).length ≤ _
    omega
theorem split_len (x : Str) : (Txt.split x " + ").length ≤ x.length + 1 := by
  have := spl_len sepL (tl x) 0 []
  rw [← split_tl, List.length_map] at this
  rw [len_tl]
  exact this
theorem split_asc {x : Str} (h : Asc x) : ∀ p ∈ Txt.split x " + ", Asc p := by
  intro p hp
  have hm : tl p ∈ spl sepL 0 [] (tl x) := by
    rw [← split_tl]
    exact List.mem_map.mpr ⟨p, hp, rfl⟩
  have key : ∀ (ps : List (List Nat)) (q : List Nat), q ∈ ps → ∀ c ∈ q, c ∈ joinL sepL ps := by
    intro ps
    induction ps with
    | nil =>
      intro q h
      cases h
    | cons a r ih =>
      intro q h c hc
      by_cases hr : r = []
      · subst hr
        rw [List.mem_singleton.mp h] at hc
        exact hc
      · rw [joinL_cons hr]
        rcases List.mem_cons.mp h with e | e
        · rw [e] at hc
          exact List.mem_append_left _ hc
        · exact List.mem_append_right _ (List.mem_append_right _ (ih q e c hc))
  intro c hc
  have := key _ _ hm c hc
  rw [join_spl (by decide) _ _ _ (Nat.le_refl _), List.nil_append] at this
  exact h c this
theorem ok_par {f fT fR : Addr} {fd dT dR : FuncData} {k : Nat} (F : Fun K "_law_parsed" "_law_parsed" sPar f fd) (mz : mg "zip" = none)
    (GT : FnOk P w K mg base CX0 k fT dT ["text"] spTof) (kT : PySem.W.keepIn K (.ref fT) = true) (bT : Binds K dT ["text"] []) (gT : mg "_law_term_of" = some (.ref fT))
    (GR : FnOk P w K mg base CX0 k fR dR ["terms"] (spFrm K)) (kR : PySem.W.keepIn K (.ref fR) = true) (bR : Binds K dR ["terms"] []) (gR : mg "_law_from_terms" = some (.ref fR)) :
    FnOk P w K mg base CX0 (k + 1) f fd ["text"] (spPar K) := by
  refine F.ok scPar (fun vs H Q E h => ?_) (fun cdv A outer s H vs Q E hr h => ?_)
  · obtain ⟨x, rfl, _⟩ := h
    rfl
  obtain ⟨x, rfl, hl, ha, qn, qs⟩ := h
  have hu65 : (cxOf CX0 P w K mg base nPar "_law_parsed" (defScope sPar) f cdv A outer s H E).nox.A.units + 65 < cLine := by
    have := hr.un
    show (A.deeper _).units + 65 < cLine
    omega
  have ls : ∀ n, n ≤ 100001 → n ≤ sizeLine := fun n h => by rw [sizeLine_eq]; omega
  have sl := split_len x
  refine ⟨_, (pss_cons (ps_if (pt_cmpR op_eq (pv 0) (pe_str) (nomark _)) (pss_one (ps_ret (pe_tup pa_nil))) pss_nil)
        (C8.pss_cut (ps_setLc (i := 1) (own := [("part", 2)]) (g := gName 2) (tt := tYes) (by rfl) scPar.nd rfl rfl (sw_true rfl rfl rfl (by decide +kernel)) (pi_list (pe_split (pv 0) pe_str)) (blkOk_by (N := nPar) (sc := defScope sPar) (by decide +kernel)) (fun _ _ _ _ _ => pg_name (i := 2) scPar.nd rfl (.inl rfl)) (fun _ _ _ _ _ => pts_nil) (fun _ _ _ _ _ => pe_call GT hr (by rfl) gT kT bT .nil pass0 (pa_cons (pv 2) pa_nil)))
        (C8.pss_cut (ps_if (PW.pt (pw_or (pt_cmpR (op_inD hu65) pe_non (pv 1) (by with_unfolding_all rfl)) (pw_or1 (pt_cmpR (op_neD hr.units) (pe_lc (own := [("one", 3), ("other", 4)]) (g := gTup K 2 (gCons (gName 3) (gCons (gName 4) gNil))) (by rfl) scPar.nd (pi_zip (by rfl) mz (pa_cons (pv 1) (pa_cons (pe_slice sl_list (pv 1) (po_some (pe_int)) (po_none)) pa_nil))) (blkOk_by (N := nPar) (sc := defScope sPar) (by decide +kernel)) (fun _ _ _ _ _ => pg_tup rfl (pgs_cons (pg_name (i := 3) scPar.nd rfl (.inl rfl)) (pgs_cons (pg_name (i := 4) scPar.nd rfl (.inl rfl)) pgs_nil))) (fun _ _ _ _ _ => pts_one (pt_cmpR op_le (pe_ix (ixt_K (K := K) rfl) (pv 3) pe_int (fun _ _ => rfl)) (pe_ix (ixt_K (K := K) rfl) (pv 4) pe_int (fun _ _ => rfl)) (nomark _))) (fun _ _ _ _ _ => pe_int)) (pe_lst pa_nil) (nomark _))))) (pss_one (ps_ret (pe_non))) pss_nil)
        (pss_one (ps_ret (pe_call GR hr (by rfl) gR kR bR .nil pass0 (pa_cons (pv 1) pa_nil))))))), ?_⟩
  refine ⟨_, rfl, rfl, _, rfl, ?_⟩
  rw [is_zero]
  have unf : lParse (tl x) = if tl x = [48] then some [] else match allO ((spl sepL 0 [] (tl x)).map lTerm) with
    | none => none
    | some ps => if fallB ps = true then some (frT (ps.map castP)) else none := rfl
  by_cases h48 : tl x = [48]
  · rw [decide_eq_true h48]
    rw [if_pos h48] at unf
    exact iteT ⟨Nat.zero_le _, fun p np => qs [] unf p _ (same_upd np) (.inl (.inl upd_same))⟩
  rw [decide_eq_false h48]
  rw [if_neg h48, ← split_tl, List.map_map] at unf
  refine iteF ?_
  refine ⟨fun σ H' => ∃ (T : Addr) (vs : List V), σ = [some (.str x), some (.ref T), none, none, none] ∧ Same H H' ∧ H' T = some (.lst vs) ∧ Paired (TofV H') vs ((Txt.split x " + ").map (lTerm ∘ tl)), ?_, ?_⟩
  · refine ⟨_, rfl, ⟨_, rfl⟩, _, _, rfl, rfl, rfl, by rw [sizeLine_eq]; omega, fun D nD => ⟨D, rfl, ⟨_, .inl (.inl upd_same)⟩, fun B nB => ?_⟩⟩
    have sD := same_upd (o := .lst ((Txt.split x " + ").map V.str)) nD
    have hD : (upd H D (.lst ((Txt.split x " + ").map V.str))) D = some (.lst ((Txt.split x " + ").map V.str)) := upd_same
    generalize upd H D (.lst ((Txt.split x " + ").map V.str)) = H1 at sD hD nB ⊢
    have hDB : D ≠ B := ne_of_none hD nB
    refine lc_list (K := K) (a := D) (xs := (Txt.split x " + ").map V.str) (fun i H' => Same H1 H' ∧ ∃ vs, H' B = some (.lst vs) ∧ Paired (TofV H') vs (((Txt.split x " + ").take i).map (lTerm ∘ tl))) ?_ ?_ ?_ ?_
    · exact ⟨same_upd nB, [], upd_same, .nil⟩
    · rintro i H2 _ ⟨s2, _⟩
      exact .inl (.inl (s2 _ _ hD))
    · rintro i y H2 hy ⟨s2, vs, hB, hP⟩
      obtain ⟨p, hp, rfl⟩ : ∃ p, (Txt.split x " + ")[i]? = some p ∧ y = V.str p := by
        rw [List.getElem?_map] at hy
        obtain ⟨p, h1, h2⟩ := Option.map_eq_some_iff.mp hy
        exact ⟨p, h1, h2.symm⟩
      have hm := List.mem_of_getElem? hp
      have hpl := split_part_len x p hm
      have hil := (List.getElem?_eq_some_iff.mp hp).1
      have hvl : vs.length = i := by
        have := Paired.length hP
        rw [this, List.length_map, List.length_take]
        omega
      refine ⟨rfl, _, rfl, p, rfl, by omega, split_asc ha p hm, fun v H3 s3 hv => ⟨_, s3 _ _ hB, by rw [sizeLine_eq]; omega, same_updN (s2.trans s3) nB, vs ++ [v], upd_same, ?_⟩⟩
      rw [List.take_add_one, hp, List.map_append]
      have hB3 := s3 _ _ hB
      exact Paired.app (Paired.imp (fun _ _ z => z.updL hB3) (Paired.imp (fun _ _ z => TofV.same z s3) hP)) (.cons (hv.updL hB3) .nil)
    · rintro H2 ⟨s2, vs, hB, hP⟩
      rw [List.length_map, List.take_length] at hP
      exact ⟨B, vs, rfl, sD.trans s2, hB, hP⟩
  rintro σ H1 ⟨T, vs, rfl, s1, hT, hP⟩
  generalize ho : (Txt.split x " + ").map (lTerm ∘ tl) = os at hP unf
  have hvs : vs.length = os.length := Paired.length hP
  have hol : os.length ≤ 100001 := by
    rw [← ho, List.length_map]
    omega
  refine ⟨fun σ H' => ∃ ps : List (Nat × Nat), σ = [some (.str x), some (.ref T), none, none, none] ∧ Same H1 H' ∧ os = ps.map some ∧ fallB ps = true, ?_, ?_⟩
  · refine ⟨_, rfl, .none, os.map oD, .non, .lst (.inl (.inl hT)) (dp_tof hP), rfl, ?_, _, rfl, ?_⟩
    · obtain ⟨h1, h2⟩ := lay_os os
      unfold SeqAt.shaped
      simp [PyData.canLay0, PyData.depth, h1]
      omega
    rw [any_none]
    by_cases hno : none ∈ os
    · rw [decide_eq_true hno]
      rw [allO_none.mpr hno] at unf
      exact iteT (iteT (qn unf _ s1))
    rw [decide_eq_false hno]
    obtain ⟨ps, hps⟩ : ∃ ps, allO os = some ps := by
      cases h : allO os with
      | none => exact absurd (allO_none.mp h) hno
      | some ps => exact ⟨ps, rfl⟩
    have hos := allO_some hps
    rw [hps] at unf
    simp only at unf
    have hpl : ps.length = os.length := by rw [hos, List.length_map]
    refine iteF ⟨_, rfl, _, rfl, _, rfl, T, _, rfl, .inl (.inl hT), fun p2 np2 => ?_⟩
    have e2 := same_upd (o := .lst (cutV vs (some 1) none)) np2
    have hT2 := e2 _ _ hT
    have hcut : cutV vs (some 1) none = vs.drop 1 := cut_from vs 1
    have hP2 : Paired (TofV (upd H1 p2 (.lst (cutV vs (some 1) none)))) vs os := Paired.imp (fun _ _ z => TofV.same z e2) hP
    have hq2 : (upd H1 p2 (.lst (cutV vs (some 1) none))) p2 = some (.lst (vs.drop 1)) := by rw [upd_same, hcut]
    generalize upd H1 p2 (.lst (cutV vs (some 1) none)) = H2 at e2 hT2 hP2 hq2 ⊢
    refine ⟨T, p2, vs, vs.drop 1, rfl, .inl (.inl hT2), .inl (.inl hq2), fun D nD => ?_⟩
    refine lc_it (walk_zip (K := K) (n := min vs.length (vs.drop 1).length) rfl) (fun i H' => Same H2 H' ∧ H' D = some (.lst ((notFall (ps.take (i + 1))).map V.int))) ?_ ?_ ?_ ?_
    · refine ⟨same_upd nD, ?_⟩
      rw [upd_same, notFall_one]
      rfl
    · rintro i H3 _ ⟨s3, _⟩
      exact ⟨.inl (.inl (s3 _ _ hT2)), .inl (.inl (s3 _ _ hq2))⟩
    · rintro i z H3 H3' hi ⟨s3, hD⟩ ⟨T3, u1, u2, rfl, n3, rfl, h1, h2⟩
      have h2 : (vs.drop 1)[i]? = some u2 := h2
      rw [List.getElem?_drop, Nat.add_comm] at h2
      have e3 := same_upd (o := .tup [u1, u2]) n3
      obtain ⟨o1, ho1, hv1⟩ := Paired.at hP2 h1
      obtain ⟨o2, ho2, hv2⟩ := Paired.at hP2 h2
      rw [hos, List.getElem?_map] at ho1 ho2
      obtain ⟨q1, hq1, rfl⟩ := Option.map_eq_some_iff.mp ho1
      obtain ⟨q2', hq2', rfl⟩ := Option.map_eq_some_iff.mp ho2
      obtain ⟨a1, rfl, ha1⟩ := hv1.same (s3.trans e3)
      obtain ⟨a2, rfl, ha2⟩ := hv2.same (s3.trans e3)
      have tk := notFall_take ps i hq1 hq2'
      refine ⟨T3, _, rfl, .inl (.inl upd_same), rfl, _, _, rfl, _, _, rfl, rfl, rfl, ?_⟩
      refine ⟨_, rfl, a1, _, 0, _, rfl, rfl, .inl (.inl ha1), atI_nat (j := 0) rfl, _, rfl, a2, _, 0, _, rfl, rfl, .inl (.inl ha2), atI_nat (j := 0) rfl, _, _, rfl, rfl, _, rfl, ?_⟩
      have hD3 := e3 _ _ hD
      by_cases hle : q1.1 ≤ q2'.1
      · rw [decide_eq_true (show ((castP q1).1 ≤ (castP q2').1) from Int.ofNat_le.mpr hle)]
        refine iteT ⟨_, hD3, ?_, same_updN (s3.trans e3) nD, ?_⟩
        · rw [List.length_map]
          have : (notFall (ps.take (i + 1))).length ≤ i + 1 := by
            have key : ∀ l : List (Nat × Nat), (notFall l).length ≤ l.length := by
              intro l
              induction l with
              | nil => exact Nat.le_refl _
              | cons a r ih =>
                cases r with
                | nil => exact Nat.zero_le _
                | cons b r' =>
                  show ((if a.1 ≤ b.1 then [1] else []) ++ notFall (b :: r')).length ≤ _
                  rw [List.length_append, List.length_cons]
                  split
                  · rw [List.length_singleton]
                    omega
                  · rw [List.length_nil]
                    omega
            have := key (ps.take (i + 1))
            rw [List.length_take] at this
            omega
          rw [sizeLine_eq]
          omega
        · rw [upd_same, tk, if_pos hle, List.map_append]
          rfl
      · rw [decide_eq_false (show ¬ ((castP q1).1 ≤ (castP q2').1) from fun z => hle (Int.ofNat_le.mp z))]
        refine iteF ⟨s3.trans e3, ?_⟩
        rw [tk, if_neg hle, List.append_nil]
        exact hD3
    · rintro H3 ⟨s3, hD⟩
      have etk : ps.take (min vs.length (vs.drop 1).length + 1) = ps := by
        refine List.take_of_length_le ?_
        rw [List.length_drop]
        omega
      rw [etk] at hD
      refine ⟨by show 0 ≤ sizeLine; decide, fun p4 n4 => ?_⟩
      have e4 := same_upd (o := .lst []) n4
      refine ⟨.list ((notFall ps).map PyData.int), .list [], .lst (.inl (.inl (e4 _ _ hD))) (dp_ints _), .lst (.inl (.inl upd_same)) .nil, shaped_ints _, shaped_ints [], _, rfl, ?_⟩
      rw [eqv_nil]
      by_cases hf : fallB ps = true
      · have h1 : (notFall ps).map PyData.int = [] := by rw [(notFall_nil ps).mpr hf]; rfl
        rw [decide_eq_true h1]
        exact iteF ⟨ps, rfl, (e2.trans s3).trans e4, hos, hf⟩
      · have h1 : (notFall ps).map PyData.int ≠ [] := fun z => hf ((notFall_nil ps).mp (List.map_eq_nil_iff.mp z))
        rw [decide_eq_false h1]
        rw [if_neg hf] at unf
        exact iteT (qn unf _ (((s1.trans e2).trans s3).trans e4))
  rintro σ H2 ⟨ps, rfl, s2, hos, hf⟩
  rw [hos, allO_of] at unf
  simp only at unf
  rw [if_pos hf] at unf
  have hPp : Prs H2 vs (ps.map castP) := by
    have h1 := Paired.imp (fun _ _ z => TofV.same z s2) hP
    rw [hos] at h1
    have key : ∀ (us : List V) (qs : List (Nat × Nat)), Paired (TofV H2) us (qs.map some) → Prs H2 us (qs.map castP) := by
      intro us qs
      induction qs generalizing us with
      | nil =>
        intro h
        cases h
        exact .nil
      | cons a r ih =>
        intro h
        cases h with
        | cons h1 h2 => exact .cons h1 (ih _ h2)
    exact key _ _ h1
  have hlt : ∀ p ∈ ps, p.1 < 64 := by
    intro p hp
    have : some p ∈ os := by
      rw [hos]
      exact List.mem_map.mpr ⟨p, hp, rfl⟩
    rw [← ho] at this
    obtain ⟨y, _, hy⟩ := List.mem_map.mp this
    exact (lTerm_some (e := p.1) (c := p.2) hy).2.1
  refine ⟨_, rfl, T, vs, ps.map castP, rfl, s2 _ _ hT, hPp, ⟨fun p hp => ?_, fun p hp e he => ?_, fun p hp => ?_⟩, fun p H3 s3 t3 => qs _ unf p H3 ((s1.trans s2).trans s3) t3⟩
  · obtain ⟨y, _, rfl⟩ := List.mem_map.mp hp
    exact Int.natCast_nonneg _
  · obtain ⟨y, hy, rfl⟩ := List.mem_map.mp hp
    cases ps with
    | nil => cases hy
    | cons a r =>
      have : e = castP a := by simpa using he.symm
      rw [this]
      have d := fall_dec hf
      have := dec_lt d y hy
      show ((y.1 : Nat) : Int) ≤ ((a.1 : Nat) : Int)
      omega
  · obtain ⟨y, hy, rfl⟩ := List.mem_map.mp hp
    have := hlt y hy
    show ((y.1 : Nat) : Int) ≤ 900
    omega
end
end Lim
set_option maxHeartbeats 2000000
namespace Lim
open PySem PySem.Spec PyProof.Rows L2 TL
abbrev sOut : Stmt := topS 39
abbrev sChg : Stmt := topS 40
/-- what a class of the fifteen says -/
structure KitV (K : PySem.W.Frag) (cL : Addr) (cs : List Addr) (i : Nat) (C : Addr) : Prop where
  ec : ExcC K C
  lr : PySem.W.kitOne K (.ref C) (.ref cL) = some true
  ve : PySem.W.kitOne K (.ref C) (.type "ValueError") = some true
  ks : ∀ j D, cs[j]? = some D → PySem.W.kitOne K (.ref C) (.ref D) = some (decide (i = j))
/-- what the text of a class directly under LimitRunError says -/
structure ClsF (K : PySem.W.Frag) (cL C : Addr) : Prop where
  lk : ∃ (nm q : Str) (N : Addr) (bs : List Value) (sn : List Str) (sub : List Value) (ab : Bool) (col : Option Bool) (dd : Option Addr) (k0 k1 k2 k3 k5 : Option Value), K.lookup C = some (excClassObj nm q C N bs [.ref cL, .type "ValueError", .type "Exception", .type "BaseException", .type "object"] true sn sub ab col dd k0 k1 k2 k3 k5 "ValueError.__new__")
  ga : PySem.W.findIn K (.ref C) "__getattribute__" = some (some (.builtin "BaseException.__getattribute__"))
  gg : PySem.W.findIn K (.ref C) "__getattr__" = some none
  gc : PySem.W.findIn K (.ref C) "__class__" = some (some (.builtin "object.__class__"))
section
variable {K : PySem.W.Frag} {cL C D : Addr}
theorem ClsF.ty (F : ClsF K cL C) : PySem.W.typeIn K (.ref C) = some (.type "type") := by
  obtain ⟨nm, q, N, bs, sn, sub, ab, col, dd, k0, k1, k2, k3, k5, h⟩ := F.lk
  show (K.lookup C).map (·.cls) = _
  rw [h]
  rfl
theorem ClsF.hd (F : ClsF K cL C) : PySem.W.hasDictIn K C = true := by
  obtain ⟨nm, q, N, bs, sn, sub, ab, col, dd, k0, k1, k2, k3, k5, h⟩ := F.lk
  unfold PySem.W.hasDictIn PySem.W.clsIn
  rw [h]
  rfl
theorem ClsF.mro (F : ClsF K cL C) (v : Value) : PySem.W.mroIn K C v = some ((Value.ref C :: [.ref cL, .type "ValueError", .type "Exception", .type "BaseException", .type "object"]).contains v) := by
  obtain ⟨nm, q, N, bs, sn, sub, ab, col, dd, k0, k1, k2, k3, k5, h⟩ := F.lk
  unfold PySem.W.mroIn PySem.W.clsIn
  rw [h]
  rfl
theorem ClsF.sub (F : ClsF K cL C) (v : Value) : PySem.W.subIn K (.ref C) v = some ((Value.ref C :: [.ref cL, .type "ValueError", .type "Exception", .type "BaseException", .type "object"]).contains v) := F.mro v
theorem ClsF.no (F : ClsF K cL C) (h1 : C ≠ D) (h2 : cL ≠ D) : PySem.W.subIn K (.ref C) (.ref D) = some false := by
  rw [F.sub]
  have e1 : ¬ D = C := Ne.symm h1
  have e2 : ¬ D = cL := Ne.symm h2
  simp [e1, e2]
theorem ClsF.ec (F : ClsF K cL C) (wn : PySem.W.specialIn K (.builtin "object.__class__") "__get__" = some (some (.builtin "getset_descriptor.__get__"))) (wt : PySem.W.takesIn K (.builtin "object.__class__") = some true) : ExcC K C :=
  ⟨F.ga, F.gg, (F.sub _).trans (by simp), F.hd, F.gc, wn, wt, (F.mro _).trans (by simp)⟩
theorem ClsF.oex (F : ClsF K cL C) (sa : PySem.W.findIn K (.ref C) "__setattr__" = some (some (.builtin "object.__setattr__"))) (kC : PySem.W.keepIn K (.ref C) = true) : OexC K C := by
  refine ⟨?_, sa, (F.sub _).trans (by simp), F.ty, kC⟩
  obtain ⟨nm, q, N, bs, sn, sub, ab, col, dd, k0, k1, k2, k3, k5, h⟩ := F.lk
  exact ⟨nm, q, N, bs, _, sn, sub, ab, col, dd, k0, k1, k2, k3, k5, h, rfl⟩
theorem ClsF.xf (F : ClsF K cL C) : XfC K C := ⟨F.ga, F.gg, (F.sub _).trans (by simp), F.hd⟩
theorem nodup_ne {l : List Addr} (h : l.Nodup) {i j : Nat} {a b : Addr} (hi : l[i]? = some a) (hj : l[j]? = some b) (n : i ≠ j) : a ≠ b := fun e => by
  subst e
  obtain ⟨h1, e1⟩ := List.getElem?_eq_some_iff.mp hi
  obtain ⟨h2, e2⟩ := List.getElem?_eq_some_iff.mp hj
  have P := List.pairwise_iff_getElem.mp h
  rcases Nat.lt_or_gt_of_ne n with g | g
  · exact P i j h1 h2 g (e1.trans e2.symm)
  · exact P j i h2 h1 g (e2.trans e1.symm)
theorem kv_of {cs : List Addr} (A : ∀ D ∈ cs, ClsF K cL D) (TL : PySem.W.typeIn K (.ref cL) = some (.type "type")) (DL : PySem.W.hasDictIn K cL = true) (nd : (cL :: cs).Nodup) (wn : PySem.W.specialIn K (.builtin "object.__class__") "__get__" = some (some (.builtin "getset_descriptor.__get__"))) (wt : PySem.W.takesIn K (.builtin "object.__class__") = some true)
    (i : Nat) (C : Addr) (h : cs[i]? = some C) : KitV K cL cs i C := by
  have F := A C (List.mem_of_getElem? h)
  have nC : cL ≠ C := nodup_ne nd (i := 0) (j := i + 1) rfl (by simpa using h) (by omega)
  refine ⟨F.ec wn wt, kit_ref (Ne.symm nC) DL TL ((F.sub _).trans (by simp)), kit_type (by decide +kernel) ((F.sub _).trans (by simp)), fun j D hj => ?_⟩
  have nD : cL ≠ D := nodup_ne nd (i := 0) (j := j + 1) rfl (by simpa using hj) (by omega)
  by_cases e : i = j
  · subst e
    rw [h] at hj
    cases hj
    rw [decide_eq_true rfl]
    exact kit_same
  · rw [decide_eq_false e]
    have G := A D (List.mem_of_getElem? hj)
    have ne : C ≠ D := nodup_ne nd (i := i + 1) (j := j + 1) (by simpa using h) (by simpa using hj) (by omega)
    exact kit_ref ne G.hd G.ty (F.no ne nD)
end

section
variable {X : Cx}
theorem op_mulS : OpR X (binaryOp .Mult) (fun x y H Q => ∃ (z : Str) (k : Int), x = .str z ∧ y = .int k ∧ MulOk z k ∧ Q (.str (Txt.mul z k)) H) := by
  intro pins s σ H x y v u Q I rx ry h
  obtain ⟨z, k, rfl, rfl, hm, q⟩ := h
  obtain ⟨t, rfl⟩ := rx
  obtain ⟨t', rfl⟩ := ry
  exact SB.mul hm fun t2 m => ⟨.str (Txt.mul z k), H, I.tok m, ⟨_, rfl⟩, q⟩
end
theorem asc_app {x y : Str} (hx : Asc x) (hy : Asc y) : Asc (x ++ y) := by
  intro c hc
  rw [tl_append] at hc
  rcases List.mem_append.mp hc with h | h
  · exact hx c h
  · exact hy c h
theorem asc_cut {x : Str} (hx : Asc x) (lo hi : Option Int) : Asc (cutS x lo hi) := by
  intro c hc
  have : c ∈ ((x.cps.toList.drop (HT.sIx x.length 0 lo)).take (HT.sIx x.length x.length hi - HT.sIx x.length 0 lo)) := hc
  exact hx c (List.mem_of_mem_drop (List.mem_of_mem_take this))
theorem asc_join {y : Str} {ps : List Str} (hy : Asc y) (hp : ∀ p ∈ ps, Asc p) : Asc (Txt.join y ps) := by
  intro c hc
  rw [join_eq, tl_join] at hc
  have key : ∀ (S : List Nat) (ls : List (List Nat)), (∀ c ∈ S, c < 128) → (∀ l ∈ ls, ∀ c ∈ l, c < 128) → ∀ c ∈ joinL S ls, c < 128 := by
    intro S ls hS
    induction ls with
    | nil =>
      intro _ c h
      cases h
    | cons a r ih =>
      intro hl c h
      by_cases hr : r = []
      · subst hr
        exact hl a (List.mem_singleton.mpr rfl) c h
      · rw [joinL_cons hr] at h
        rcases List.mem_append.mp h with h | h
        · exact hl a (List.mem_cons_self ..) c h
        · rcases List.mem_append.mp h with h | h
          · exact hS c h
          · exact ih (fun l hl' => hl l (List.mem_cons_of_mem _ hl')) c h
  refine key (tl y) (ps.map tl) hy (fun l hl => ?_) c hc
  obtain ⟨p, h1, rfl⟩ := List.mem_map.mp hl
  exact hp p h1
/-- how long parts are when they are joined -/
def wgt (ps : List Str) : Nat := (ps.map (·.length)).sum + ps.length * 3
theorem wgt_app (a b : List Str) : wgt (a ++ b) = wgt a + wgt b := by
  unfold wgt
  rw [List.map_append, List.sum_append, List.length_append, Nat.add_mul]
  omega
theorem wgt_sub {a b : List Str} (h : a.Sublist b) : wgt a ≤ wgt b := by
  induction h with
  | slnil => exact Nat.le_refl _
  | cons x _ ih =>
    unfold wgt at *
    rw [List.map_cons, List.sum_cons, List.length_cons, Nat.add_mul]
    omega
  | cons_cons x _ ih =>
    unfold wgt at *
    rw [List.map_cons, List.sum_cons, List.length_cons, Nat.add_mul, List.map_cons, List.sum_cons, List.length_cons, Nat.add_mul]
    omega
theorem wgt_rev (a : List Str) : wgt a.reverse = wgt a := by
  unfold wgt
  rw [List.map_reverse, List.sum_reverse, List.length_reverse]
theorem joinL_wgt : ∀ ls : List (List Nat), ls ≠ [] → (joinL sepL ls).length + 3 = (ls.map (·.length)).sum + ls.length * 3
  | [], h => absurd rfl h
  | [p], _ => by
    show p.length + 3 = _
    rw [List.map_cons, List.sum_cons]
    simp
  | p :: q :: r, _ => by
    have ih := joinL_wgt (q :: r) (by simp)
    rw [joinL_cons (by simp), List.length_append, List.length_append]
    show p.length + (3 + (joinL sepL (q :: r)).length) + 3 = (p.length + ((q :: r).map (·.length)).sum) + ((q :: r).length + 1) * 3
    omega
theorem wgt_tl (ps : List Str) : wgt ps = ((ps.map tl).map (·.length)).sum + (ps.map tl).length * 3 := by
  unfold wgt
  rw [List.map_map, List.length_map]
  congr 2
theorem wgt_split (x : Str) : wgt (Txt.split x " + ") = x.length + 3 := by
  rw [wgt_tl, split_tl, ← joinL_wgt _ (spl_ne _ _ _ _), join_spl (by decide) _ _ _ (Nat.le_refl _), List.nil_append, len_tl]
theorem join_wgt (ps : List Str) : (Txt.join " + " ps).length ≤ wgt ps := by
  rw [len_tl, join_eq, tl_join, sep_tl, wgt_tl]
  by_cases h : ps.map tl = []
  · rw [h]
    exact Nat.zero_le _
  · have := joinL_wgt _ h
    omega
theorem cut_strs (ys : List Str) (lo hi : Option Int) : ∃ zs : List Str, cutV (ys.map V.str) lo hi = zs.map V.str ∧ zs.Sublist ys := by
  unfold cutV
  rw [← List.map_drop, ← List.map_take]
  exact ⟨_, rfl, (List.take_sublist _ _).trans (List.drop_sublist _ _)⟩
theorem sepS_len : (" + " : Str).length = 3 := by decide +kernel
section
variable {P : Program} {w : World} {K : PySem.W.Frag} {mg : Str → Option Value} {base : Heap}

abbrev nOut : List Str := ["text", "result", "caught", "error"]
theorem scOut : FnScope nOut ["text"] (defScope sOut) := ⟨rfl, rfl, rfl, by decide +kernel, rfl, by decide +kernel, by decide +kernel⟩
def spOut (K : PySem.W.Frag) : Sp := fun vs H Q _ => ∃ x : Str, vs = [.str x] ∧ x.length ≤ 100000 ∧ (∀ zs, Ord zs → x = textS zs → ∀ p H', Same H H' → SqT K H' p (zs.map V.int) → Q (.ref p) H') ∧ ((¬ ∃ zs, Ord zs ∧ x = textS zs) → ∀ H', Same H H' → Q .non H')
theorem ok_out {f fW cL c1 c2 c3 c4 c5 c6 : Addr} {fd dW : FuncData} {k : Nat} (F : Fun K "_law_outcome" "_law_outcome" sOut f fd) (gL : mg "LimitRunError" = some (.ref cL)) (mis : mg "isinstance" = none) (mtu : mg "tuple" = none) (mVE : mg "ValueError" = none) (g1 : mg "SyntaxProblem" = some (.ref c1)) (g2 : mg "BadClaim" = some (.ref c2)) (g3 : mg "BadPath" = some (.ref c3)) (g4 : mg "InvalidOrdinal" = some (.ref c4)) (g5 : mg "NotLater" = some (.ref c5)) (g6 : mg "ZeroDivisor" = some (.ref c6))
    (KV : ∀ i C, [c1, c2, c3, c4, c5, c6][i]? = some C → KitV K cL [c1, c2, c3, c4, c5, c6] i C) (exI : PySem.W.exmOne K (.ref c4) (.ref cL) = some true)
    (GW : FnOk P w K mg base (L2.CX P w) k fW dW ["text"] (spPaO K c4)) (kW : PySem.W.keepIn K (.ref fW) = true) (bW : Binds K dW ["text"] []) (gW : mg "parse_ordinal" = some (.ref fW)) :
    FnOk P w K mg base CX0 (k + 1) f fd ["text"] (spOut K) := by
  refine F.ok scOut (fun vs H Q E h => ?_) (fun cdv A outer s H vs Q E hr h => ?_)
  · obtain ⟨_, rfl, _⟩ := h
    rfl
  obtain ⟨x, rfl, hl, q1, q2⟩ := h
  have KI := KV 3 c4 rfl
  refine ⟨_, (pss_cons (ps_asg (pe_tup (pa_cons pe_non (pa_cons pe_non pa_nil))) (pg_tup rfl (pgs_cons (pg_name (i := 1) scOut.nd rfl (.inl rfl)) (pgs_cons (pg_name (i := 2) scOut.nd rfl (.inl rfl)) pgs_nil))))
        (C8.pss_cut (ps_try_keep (i := 3) rfl rfl rfl scOut.nd rfl rfl ⟨rfl, by decide, .inl gL⟩ takes0 (fun W pn xe tk _ => pss_one (ps_set (i := 1) scOut.nd rfl (.inl rfl) (pe_callS GW hr rfl gW kW bW (fun σ => passAt tk σ) (pa_cons (pv 0) pa_nil)))) (fun a oe cls d pn _ _ => pss_one (ps_set (i := 2) scOut.nd rfl (.inl rfl) (pv 3))))
        (pss_cons (ps_if (pt_cmpR op_isN (pv 2) pe_non (nomark _)) (pss_one (ps_ret (pe_ifExp (pt_val (pe_callB call_isi (by rfl) mis (by decide +kernel) (pa_cons (pv 1) (pa_cons (pe_bltn (v := .ty "tuple") (by rfl) mtu (by decide +kernel) rfl) pa_nil)))) (pv 1) (pe_str)))) pss_nil)
        (pss_cons (ps_if (pt_val (pe_callB call_isWT (by rfl) mis (by decide +kernel) (pa_cons (pv 2) (pa_cons (pe_tup (pa_cons (pe_glob (v := .ref c2) (by rfl) g2 rfl) (pa_cons (pe_glob (v := .ref c3) (by rfl) g3 rfl) (pa_cons (pe_glob (v := .ref c5) (by rfl) g5 rfl) (pa_cons (pe_glob (v := .ref c1) (by rfl) g1 rfl) (pa_cons (pe_glob (v := .ref c6) (by rfl) g6 rfl) pa_nil)))))) pa_nil)))) (pss_one (ps_ret (pe_str))) pss_nil)
        (pss_one (ps_ret (pe_ifExp (PW.pt (pw_and (pt_val (pe_callB call_isW (by rfl) mis (by decide +kernel) (pa_cons (pv 2) (pa_cons (pe_glob (v := .ref c4) (by rfl) g4 rfl) pa_nil)))) (pw_and1 (pt_val (pe_callB call_isW (by rfl) mis (by decide +kernel) (pa_cons (pv 2) (pa_cons (pe_bltn (v := .ty "ValueError") (by rfl) mVE (by decide +kernel) rfl) pa_nil))))))) pe_non pe_str))))))), ?_⟩
  refine ⟨by show 2 ≤ sizeLine; decide, fun p0 np0 => ⟨p0, _, rfl, .inl (.inl upd_same), rfl, _, _, rfl, _, _, rfl, rfl, ?_⟩⟩
  have s0 := same_upd (o := .tup [.non, .non]) np0
  have q1 := fun zs hz hx p H' s => q1 zs hz hx p H' (s0.trans s)
  have q2 := fun hn H' s => q2 hn H' (s0.trans s)
  generalize upd H p0 (.tup [.non, .non]) = H0 at *
  refine ⟨fun σ H' => ∃ (r c : V), σ = [some (.str x), some r, some c, none] ∧ Same H0 H' ∧ ((c = .non ∧ ∃ p zs, r = .ref p ∧ SqT K H' p (zs.map V.int) ∧ Ord zs ∧ x = textS zs) ∨ ∃ e, c = .ref e ∧ H' e = some (Kept (.ref c4) none e) ∧ ¬ ∃ zs, Ord zs ∧ x = textS zs), ?_, ?_⟩
  · refine ⟨_, rfl, x, rfl, hl, fun zs hz hx p H1 s1 t1 => ?_, fun hn H1 s1 => ?_⟩
    · exact ⟨_, _, rfl, s1, .inl ⟨rfl, p, zs, rfl, t1, hz, hx⟩⟩
    · refine ⟨true, exI, fun _ e he => ⟨_, rfl, fun he2 => ?_⟩, fun z => nomatch z⟩
      exact ⟨_, _, rfl, s1.trans (same_upd he2), .inr ⟨e, rfl, upd_same, hn⟩⟩
  rintro σ H1 ⟨r, c, rfl, s1, h⟩
  rcases h with ⟨rfl, p, zs, rfl, ht, hz, hx⟩ | ⟨e, rfl, hK, hn⟩
  · refine ⟨_, rfl, rfl, _, rfl, iteT ⟨_, rfl, _, _, _, _, true, rfl, .ty "tuple", ty_tupl ht, kit_ty (by decide +kernel), _, rfl, iteT ⟨_, rfl, q1 zs hz hx p H1 s1 ht⟩⟩⟩
  · refine ⟨_, rfl, rfl, _, rfl, iteF ⟨_, rfl, by show 5 ≤ sizeLine; decide, fun t1 n1 => ?_⟩⟩
    have e1 := same_upd (o := .tup [.ref c2, .ref c3, .ref c5, .ref c1, .ref c6]) n1
    have K1 : KeptE H1 e c4 := .inl hK
    refine ⟨e, c4, t1, _, _, false, rfl, K1.same e1, KI.ec, upd_same, .cons (.own c2) (.cons (.own c3) (.cons (.own c5) (.cons (.own c1) (.cons (.own c6) (.nil))))), ?_, _, rfl, iteF ?_⟩
    · exact kitAny_no (us := [.ref c2, .ref c3, .ref c5, .ref c1, .ref c6]) fun c hc => by
        simp only [List.mem_cons, List.not_mem_nil, or_false] at hc
        rcases hc with rfl | rfl | rfl | rfl | rfl
        · exact KI.ks 1 _ rfl
        · exact KI.ks 2 _ rfl
        · exact KI.ks 4 _ rfl
        · exact KI.ks 0 _ rfl
        · exact KI.ks 5 _ rfl
    refine ⟨_, rfl, e, c4, _, _, true, rfl, K1.same e1, KI.ec, .own c4, KI.ks 3 _ rfl, _, rfl, iteT ?_⟩
    exact ⟨_, rfl, e, c4, _, _, true, rfl, K1.same e1, KI.ec, .ty "ValueError", KI.ve, _, rfl, iteT (q2 hn _ (s1.trans e1))⟩

def spChS : Sp := fun vs H Q _ => ∃ (a n : Addr) (z : Str), vs = [.ref a, .str z] ∧ Src H a n ∧ tl z ≠ [] ∧ z.length ≤ 1000 ∧ ∀ c H', c ∈ tl z → Stp a n H H' → Q (.str ⟨#[c]⟩) H'
theorem ok_chS {f fN : Addr} {fd fdN : FuncData} {k : Nat} (F : Fun K "_law_choose" "_law_choose" sCho f fd) (ml : mg "len" = none) (GN : FnOk P w K mg base CX0 k fN fdN ["source", "bound"] spNxt) (kN : PySem.W.keepIn K (.ref fN) = true) (bN : Binds K fdN ["source", "bound"] []) (gN : mg "_law_next" = some (.ref fN)) :
    FnOk P w K mg base CX0 (k + 1) f fd ["source", "items"] spChS := by
  refine F.ok scCho (fun vs H Q E h => ?_) (fun cdv A outer s H vs Q E hr h => ?_)
  · obtain ⟨_, _, _, rfl, _⟩ := h
    rfl
  obtain ⟨a, n, z, rfl, hs, hne, hl, q⟩ := h
  have lz : z.length = (tl z).length := len_tl z
  have lp : 0 < (tl z).length := List.length_pos_iff.mpr hne
  have ls : z.length ≤ sizeLine := by rw [sizeLine_eq]; omega
  refine ⟨_, (pss_one (ps_ret (pe_ix ix_str (pv 1) (pe_call GN hr (by rfl) gN kN bN .nil pass0 (pa_cons (pv 0) (pa_cons (pe_callB call_len_str (by rfl) ml PySem.boot_len (pa_cons (pv 1) pa_nil)) pa_nil))) (fun _ _ => rfl)))), ?_⟩
  refine ⟨_, rfl, _, rfl, _, rfl, _, rfl, ls, a, n, _, rfl, hs, by omega, by omega, fun r H1 h0 h1 s1 => ?_⟩
  obtain ⟨j, rfl⟩ : ∃ j : Nat, r = (j : Int) := ⟨r.toNat, by omega⟩
  have hj : j < (tl z).length := by omega
  refine ⟨z, _, (tl z)[j], rfl, rfl, ls, ?_, q _ _ (List.getElem_mem hj) s1⟩
  exact atI_nat (j := j) (by
    show (tl z)[j]? = _
    exact List.getElem?_eq_getElem hj)

abbrev nChg : List Str := ["source", "text", "place", "way", "parts", "index", "turned"]
theorem scChg : FnScope nChg ["source", "text"] (defScope sChg) := ⟨rfl, rfl, rfl, by decide +kernel, rfl, by decide +kernel, by decide +kernel⟩
def spChg : Sp := fun vs H Q _ => ∃ (a n : Addr) (x : Str), vs = [.ref a, .str x] ∧ Src H a n ∧ Asc x ∧ x.length ≤ 31000 ∧ ∀ y H', Stp a n H H' → Asc y → y.length ≤ 3 * x.length + 9 → Q (.str y) H'
theorem ok_chg {f fN fC : Addr} {fd dN dC : FuncData} {k : Nat} (F : Fun K "_law_changed" "_law_changed" sChg f fd) (ml : mg "len" = none)
    (GN : FnOk P w K mg base CX0 k fN dN ["source", "bound"] spNxt) (kN : PySem.W.keepIn K (.ref fN) = true) (bN : Binds K dN ["source", "bound"] []) (gN : mg "_law_next" = some (.ref fN))
    (GC : FnOk P w K mg base CX0 k fC dC ["source", "items"] spChS) (kC : PySem.W.keepIn K (.ref fC) = true) (bC : Binds K dC ["source", "items"] []) (gC : mg "_law_choose" = some (.ref fC)) :
    FnOk P w K mg base CX0 (k + 1) f fd ["source", "text"] spChg := by
  refine F.ok scChg (fun vs H Q E h => ?_) (fun cdv A outer s H vs Q E hr h => ?_)
  · obtain ⟨_, _, _, rfl, _⟩ := h
    rfl
  obtain ⟨a, n, x, rfl, hs, hx, hl, q⟩ := h
  have ls : ∀ m, m ≤ 400000 → m ≤ sizeLine := fun m h => by rw [sizeLine_eq]; omega
  have cl : ∀ lo hi, (cutS x lo hi).length ≤ x.length := fun lo hi => cutS_length x lo hi
  have ac : ∀ lo hi, Asc (cutS x lo hi) := fun lo hi => asc_cut hx lo hi
  refine ⟨_, (pss_cons (ps_set (i := 2) scChg.nd rfl (.inl rfl) (pe_call GN hr (by rfl) gN kN bN .nil pass0 (pa_cons (pv 0) (pa_cons (pe_op op_add (pe_callB call_len_str (by rfl) ml PySem.boot_len (pa_cons (pv 1) pa_nil)) (pe_int)) pa_nil))))
        (pss_cons (ps_set (i := 3) scChg.nd rfl (.inl rfl) (pe_call GN hr (by rfl) gN kN bN .nil pass0 (pa_cons (pv 0) (pa_cons (pe_int) pa_nil))))
        (pss_cons (ps_if (pt_cmpR op_lt (pv 3) (pe_int) (nomark _)) (pss_one (ps_ret (pe_op op_add_str (pe_op op_add_str (pe_slice sl_str (pv 1) (po_none) (po_some (pv 2))) (pe_call GC hr (by rfl) gC kC bC .nil pass0 (pa_cons (pv 0) (pa_cons (pe_str) pa_nil)))) (pe_slice sl_str (pv 1) (po_some (pe_op op_add (pv 2) (pv 3))) (po_none))))) pss_nil)
        (pss_cons (ps_if (pt_cmpR op_eq (pv 3) (pe_int) (nomark _)) (pss_one (ps_ret (pe_op op_add_str (pe_slice sl_str (pv 1) (po_none) (po_some (pv 2))) (pe_slice sl_str (pv 1) (po_some (pe_op op_add (pv 2) (pe_int))) (po_none))))) pss_nil)
        (pss_cons (ps_set (i := 4) scChg.nd rfl (.inl rfl) (pe_split (pv 1) pe_str))
        (pss_cons (ps_set (i := 5) scChg.nd rfl (.inl rfl) (pe_call GN hr (by rfl) gN kN bN .nil pass0 (pa_cons (pv 0) (pa_cons (pe_callB call_len_seq (by rfl) ml PySem.boot_len (pa_cons (pv 4) pa_nil)) pa_nil))))
        (pss_cons (ps_if (pt_cmpR op_eq (pv 3) (pe_int) (nomark _)) (pss_one (ps_ret (pe_join pe_str (pe_op op_cat (pe_slice sl_list (pv 4) (po_none) (po_some (pv 5))) (pe_slice sl_list (pv 4) (po_some (pe_op op_add (pv 5) (pe_int))) (po_none)))))) pss_nil)
        (pss_cons (ps_if (pt_cmpR op_eq (pv 3) (pe_int) (nomark _)) (pss_one (ps_ret (pe_join pe_str (pe_op op_cat (pe_slice sl_list (pv 4) (po_none) (po_some (pe_op op_add (pv 5) (pe_int)))) (pe_slice sl_list (pv 4) (po_some (pv 5)) (po_none)))))) pss_nil)
        (pss_cons (ps_set (i := 6) scChg.nd rfl (.inl rfl) (pe_revL (pe_slice sl_list (pv 4) (po_some (pv 5)) (po_some (pe_op op_add (pv 5) (pe_int))))))
        (pss_one (ps_ret (pe_join pe_str (pe_op op_cat (pe_op op_cat (pe_slice sl_list (pv 4) (po_none) (po_some (pv 5))) (pv 6)) (pe_slice sl_list (pv 4) (po_some (pe_op op_add (pv 5) (pe_int))) (po_none))))))))))))))), ?_⟩
  refine ⟨_, rfl, _, rfl, _, rfl, ls _ (by omega), _, _, rfl, rfl, a, n, _, rfl, hs, by omega, by omega, fun pl H1 p0 p1 s1 => ?_⟩
  refine ⟨_, rfl, a, n, _, rfl, s1.1, by decide, by decide, fun wy H2 w0 w1 s2 => ?_⟩
  have s12 := s1.trans s2
  refine ⟨_, rfl, _, _, rfl, rfl, _, rfl, ite2 (fun _ => ?_) (fun _ => ?_)⟩
  · refine ⟨_, rfl, _, rfl, _, rfl, _, rfl, ls _ (by omega), ?_⟩
    refine ⟨_, rfl, a, n, ("w^*+ 019W-x." : Str), rfl, s12.1, by decide +kernel, by decide +kernel, fun c H3 hc s3 => ?_⟩
    have hc1 : c < 128 := by
      have e : tl ("w^*+ 019W-x." : Str) = [119, 94, 42, 43, 32, 48, 49, 57, 87, 45, 120, 46] := by decide +kernel
      rw [e] at hc
      simp only [List.mem_cons, List.not_mem_nil, or_false] at hc
      omega
    have hA1 : Asc ⟨#[c]⟩ := fun d hd => by
      have : d = c := by simpa [tl] using hd
      omega
    have l1 : ((⟨#[c]⟩ : Str)).length = 1 := rfl
    refine ⟨_, _, rfl, rfl, ls _ (by rw [l1]; have := cl none (some pl); omega), ?_⟩
    refine ⟨_, rfl, _, rfl, _, rfl, _, _, rfl, rfl, _, rfl, _, rfl, ls _ (by omega), _, _, rfl, rfl, ?_, ?_⟩
    · rw [strLen_append, l1]
      have := cl none (some pl)
      have := cl (some (pl + wy)) none
      exact ls _ (by omega)
    · refine q _ _ (s12.trans s3) (asc_app (asc_app (ac _ _) hA1) (ac _ _)) ?_
      rw [strLen_append, strLen_append, l1]
      have := cl none (some pl)
      have := cl (some (pl + wy)) none
      omega
  refine ⟨_, rfl, rfl, _, rfl, ite2 (fun _ => ?_) (fun _ => ?_)⟩
  · refine ⟨_, rfl, _, rfl, _, rfl, _, rfl, ls _ (by omega), ?_⟩
    refine ⟨_, rfl, _, rfl, _, _, rfl, rfl, _, rfl, _, rfl, ls _ (by omega), _, _, rfl, rfl, ?_, ?_⟩
    · have := cl none (some pl)
      have := cl (some (pl + 1)) none
      exact ls _ (by omega)
    · refine q _ _ s12 (asc_app (ac _ _) (ac _ _)) ?_
      rw [strLen_append]
      have := cl none (some pl)
      have := cl (some (pl + 1)) none
      omega
  have W := wgt_split x
  have pa := split_asc hx
  have pn : Txt.split x " + " ≠ [] := fun e => by
    rw [e] at W
    have : wgt [] = 0 := rfl
    omega
  have pl0 : 0 < (Txt.split x " + ").length := List.length_pos_iff.mpr pn
  have pls := split_len x
  refine ⟨_, rfl, ⟨_, rfl⟩, _, _, rfl, rfl, rfl, ls _ (by omega), fun D nD => ?_⟩
  have eD := same_upd (o := .lst ((Txt.split x " + ").map V.str)) nD
  have hD : (upd H2 D (.lst ((Txt.split x " + ").map V.str))) D = some (.lst ((Txt.split x " + ").map V.str)) := upd_same
  have hDa : D ≠ a := s12.1.has nD
  have s3 := s12.then eD
  generalize upd H2 D (.lst ((Txt.split x " + ").map V.str)) = H3 at hD s3
  generalize hps : Txt.split x " + " = ps at *
  refine ⟨_, rfl, _, rfl, D, _, rfl, .inl (.inl (.inl hD)), a, n, _, rfl, s3.1, by rw [List.length_map]; omega, by rw [List.length_map]; omega, fun ix H4 i0 i1 s4 => ?_⟩
  have S4 := s3.trans s4
  have hD4 := s4.2 _ _ hD hDa
  have seq4 : ∀ {H' : Hp}, Same H4 H' → SqL K H' D (ps.map V.str) := fun s => .inl (.inl (s _ _ hD4))
  -- two pieces joined
  have two : ∀ (H5 : Hp) (y1 y2 : List Str) (p1 p2 : Addr), Stp a n H H5 → H5 p1 = some (.lst (y1.map V.str)) → H5 p2 = some (.lst (y2.map V.str)) → (∀ y ∈ y1 ++ y2, Asc y) → wgt (y1 ++ y2) ≤ 3 * (x.length + 3) →
      (y1.map V.str).length + (y2.map V.str).length ≤ sizeLine ∧ ∀ p, H5 p = none → ∃ (a' : Str) (p' : Addr) (ys : List Str), V.str " + " = .str a' ∧ [V.ref p] = [.ref p'] ∧ (SqL K (upd H5 p (.lst (y1.map V.str ++ y2.map V.str))) p' (ys.map V.str) ∨ SqT K (upd H5 p (.lst (y1.map V.str ++ y2.map V.str))) p' (ys.map V.str)) ∧ (ys.map (·.length)).sum + ys.length * a'.length ≤ 16777216 ∧ Q (.str (Txt.join a' ys)) (upd H5 p (.lst (y1.map V.str ++ y2.map V.str))) := by
    intro H5 y1 y2 p1 p2 st h1 h2 hy hw
    refine ⟨?_, fun p np => ⟨" + ", p, y1 ++ y2, rfl, rfl, .inl (.inl (.inl ?_)), ?_, ?_⟩⟩
    · rw [List.length_map, List.length_map]
      have : wgt (y1 ++ y2) = ((y1 ++ y2).map (·.length)).sum + (y1 ++ y2).length * 3 := rfl
      rw [List.length_append] at this
      exact ls _ (by omega)
    · rw [upd_same, List.map_append]
    · rw [sepS_len]
      have : wgt (y1 ++ y2) = ((y1 ++ y2).map (·.length)).sum + (y1 ++ y2).length * 3 := rfl
      omega
    · refine q _ _ (st.then (same_upd np)) (asc_join (fun c hc => by rw [sep_tl] at hc; simp only [List.mem_cons, List.not_mem_nil, or_false] at hc; omega) hy) (Nat.le_trans (join_wgt _) (by omega))
  obtain ⟨za, ea, ha⟩ := cut_strs ps none (some ix)
  obtain ⟨zb, eb, hb⟩ := cut_strs ps (some (ix + 1)) none
  obtain ⟨zc, ec, hc⟩ := cut_strs ps none (some (ix + 1))
  obtain ⟨zd, ed, hd⟩ := cut_strs ps (some ix) none
  obtain ⟨ze, ee, he⟩ := cut_strs ps (some ix) (some (ix + 2))
  obtain ⟨zf, ef, hf⟩ := cut_strs ps (some (ix + 2)) none
  have wa := wgt_sub ha
  have wb := wgt_sub hb
  have wc := wgt_sub hc
  have wd := wgt_sub hd
  have we := wgt_sub he
  have wf := wgt_sub hf
  refine ⟨_, rfl, rfl, _, rfl, ite2 (fun _ => ?_) (fun _ => ?_)⟩
  · refine ⟨⟨_, rfl⟩, _, rfl, _, rfl, _, rfl, D, _, rfl, seq4 (Same.refl _), fun p1 n1 => ?_⟩
    have f1 := same_upd (o := .lst (cutV (ps.map V.str) none (some ix))) n1
    refine ⟨_, rfl, _, rfl, _, _, rfl, rfl, _, rfl, D, _, rfl, seq4 f1, fun p2 n2 => ?_⟩
    have f2 := same_upd (o := .lst (cutV (ps.map V.str) (some (ix + 1)) none)) n2
    have g1 := f2 _ _ (upd_same (H := H4) (a := p1) (o := .lst (cutV (ps.map V.str) none (some ix))))
    rw [ea] at g1
    have t := two _ za zb p1 p2 (S4.then (f1.trans f2)) (by rw [ea]; exact g1) (by rw [upd_same, eb]) (fun y hy => ?_) (by rw [wgt_app]; omega)
    · rw [ea, eb] at t ⊢
      rw [eb] at g1
      exact ⟨p1, p2, _, _, rfl, rfl, g1, upd_same, t.1, t.2⟩
    · rcases List.mem_append.mp hy with h | h
      · exact pa y (ha.subset h)
      · exact pa y (hb.subset h)
  refine ⟨_, rfl, rfl, _, rfl, ite2 (fun _ => ?_) (fun _ => ?_)⟩
  · refine ⟨⟨_, rfl⟩, _, rfl, _, rfl, _, _, rfl, rfl, _, rfl, D, _, rfl, seq4 (Same.refl _), fun p1 n1 => ?_⟩
    have f1 := same_upd (o := .lst (cutV (ps.map V.str) none (some (ix + 1)))) n1
    refine ⟨_, rfl, _, rfl, _, rfl, D, _, rfl, seq4 f1, fun p2 n2 => ?_⟩
    have f2 := same_upd (o := .lst (cutV (ps.map V.str) (some ix) none)) n2
    have g1 := f2 _ _ (upd_same (H := H4) (a := p1) (o := .lst (cutV (ps.map V.str) none (some (ix + 1)))))
    rw [ec] at g1
    have t := two _ zc zd p1 p2 (S4.then (f1.trans f2)) (by rw [ec]; exact g1) (by rw [upd_same, ed]) (fun y hy => ?_) (by rw [wgt_app]; omega)
    · rw [ec, ed] at t ⊢
      rw [ed] at g1
      exact ⟨p1, p2, _, _, rfl, rfl, g1, upd_same, t.1, t.2⟩
    · rcases List.mem_append.mp hy with h | h
      · exact pa y (hc.subset h)
      · exact pa y (hd.subset h)
  refine ⟨_, rfl, _, rfl, _, rfl, _, rfl, _, _, rfl, rfl, _, rfl, D, _, rfl, seq4 (Same.refl _), fun p1 n1 => ?_⟩
  have f1 := same_upd (o := .lst (cutV (ps.map V.str) (some ix) (some (ix + 2)))) n1
  refine ⟨p1, _, rfl, .inl (.inl upd_same), fun p2 n2 => ?_⟩
  have f2 := same_upd (o := .lst (cutV (ps.map V.str) (some ix) (some (ix + 2))).reverse) n2
  have f12 := f1.trans f2
  refine ⟨⟨_, rfl⟩, _, rfl, _, rfl, _, rfl, D, _, rfl, seq4 f12, fun p3 n3 => ?_⟩
  have f3 := same_upd (o := .lst (cutV (ps.map V.str) none (some ix))) n3
  have g2 := f3 _ _ (upd_same (H := upd H4 p1 (.lst (cutV (ps.map V.str) (some ix) (some (ix + 2))))) (a := p2) (o := .lst (cutV (ps.map V.str) (some ix) (some (ix + 2))).reverse))
  have lz : ∀ z : List Str, z.Sublist ps → z.length ≤ 32000 := fun z hz => by
    have := hz.length_le
    omega
  refine ⟨_, rfl, p3, p2, _, _, rfl, rfl, upd_same, g2, ?_, fun p4 n4 => ?_⟩
  · rw [ea, ee, List.length_map, List.length_reverse, List.length_map]
    have := lz _ ha
    have := lz _ he
    exact ls _ (by omega)
  have f4 := same_upd (o := .lst (cutV (ps.map V.str) none (some ix) ++ (cutV (ps.map V.str) (some ix) (some (ix + 2))).reverse)) n4
  refine ⟨_, rfl, _, rfl, _, _, rfl, rfl, _, rfl, D, _, rfl, seq4 ((f12.trans f3).trans f4), fun p5 n5 => ?_⟩
  have f5 := same_upd (o := .lst (cutV (ps.map V.str) (some (ix + 2)) none)) n5
  have g4 := f5 _ _ (upd_same (H := upd (upd (upd H4 p1 (.lst (cutV (ps.map V.str) (some ix) (some (ix + 2))))) p2 (.lst (cutV (ps.map V.str) (some ix) (some (ix + 2))).reverse)) p3 (.lst (cutV (ps.map V.str) none (some ix)))) (a := p4) (o := .lst (cutV (ps.map V.str) none (some ix) ++ (cutV (ps.map V.str) (some ix) (some (ix + 2))).reverse)))
  have em : cutV (ps.map V.str) none (some ix) ++ (cutV (ps.map V.str) (some ix) (some (ix + 2))).reverse = (za ++ ze.reverse).map V.str := by
    rw [ea, ee, List.map_append, List.map_reverse]
  have t := two _ (za ++ ze.reverse) zf p4 p5 (S4.then (((f12.trans f3).trans f4).trans f5)) (by rw [← em]; exact g4) (by rw [upd_same, ef]) (fun y hy => ?_) (by rw [wgt_app, wgt_app, wgt_rev]; omega)
  · rw [← em, ← ef] at t
    exact ⟨p4, p5, _, _, rfl, rfl, g4, upd_same, t.1, t.2⟩
  · rcases List.mem_append.mp hy with h | h
    · rcases List.mem_append.mp h with h | h
      · exact pa y (ha.subset h)
      · exact pa y (he.subset (List.mem_reverse.mp h))
    · exact pa y (hf.subset h)
end
end Lim
set_option maxHeartbeats 4000000
namespace Lim
open PySem PySem.Spec PyProof.Rows L2 TL
abbrev sLaw : Stmt := topS 41
def Txg (x : Str) : Prop := Asc x ∧ x.length ≤ 100000
theorem good_of {x : Str} (h : ((tl x).all fun c => decide (c < 128)) = true) (hl : x.length ≤ 100000) : Txg x := ⟨fun c hc => of_decide_eq_true (List.all_eq_true.mp h c hc), hl⟩
theorem good_list {l : List Str} (h : (l.all fun x => ((tl x).all fun c => decide (c < 128)) && decide (x.length ≤ 100)) = true) : ∀ y ∈ l, Txg y := fun y hy => by
  have := List.all_eq_true.mp h y hy
  rw [Bool.and_eq_true] at this
  exact good_of this.1 (Nat.le_trans (of_decide_eq_true this.2) (by decide))
def TA1 : List Str := ["", " ", "0 + 1", "1 + 0", "w^0", "w^1", "w^01", "w^64", "w^63", "w*1", "w*0", "w*01"]
def TB1 : List Str := ["w  + 1", "w+1", "w + ", " + w", "+", "w^2*3*4", "w^", "w*", "w^2 + w^2"]
def TC1 : List Str := ["W", "w ", " w", "1 + w", "00", "-1", "+1", "1.0", "1_0", "ww", "w^w", "w^2w"]
theorem good_TA1 : ∀ y ∈ TA1, Txg y := good_list (by decide +kernel)
theorem good_TB1 : ∀ y ∈ TB1, Txg y := good_list (by decide +kernel)
theorem good_TC1 : ∀ y ∈ TC1, Txg y := good_list (by decide +kernel)
theorem fold_app : ∀ (l : List (Array Nat)) (acc : Array Nat), (l.foldl (· ++ ·) acc).toList = acc.toList ++ (l.map (·.toList)).flatten
  | [], acc => by simp
  | x :: r, acc => by
    rw [List.foldl_cons, fold_app r]
    simp
theorem mul_tl {x : Str} {n : Int} : (∀ c ∈ tl (Txt.mul x n), c ∈ tl x) ∧ (Txt.mul x n).length ≤ n.toNat * x.length := by
  unfold Txt.mul
  split
  · exact ⟨(fun c hc => by cases hc), Nat.zero_le _⟩
  · rename_i h1
    split
    · refine ⟨fun c hc => hc, ?_⟩
      exact Nat.le_mul_of_pos_left _ (by omega)
    · have e : tl ⟨(List.replicate n.toNat x.cps).foldl (· ++ ·) #[]⟩ = (List.replicate n.toNat (tl x)).flatten := by
        show ((List.replicate n.toNat x.cps).foldl (· ++ ·) #[]).toList = _
        rw [fold_app, List.map_replicate]
        rfl
      refine ⟨fun c hc => ?_, ?_⟩
      · rw [e] at hc
        obtain ⟨l, hl, hc⟩ := List.mem_flatten.mp hc
        rw [(List.mem_replicate.mp hl).2] at hc
        exact hc
      · rw [len_tl, e, len_tl x]
        simp
theorem good_mul {x : Str} {n : Int} (h : Asc x) (hl : n.toNat * x.length ≤ 90000) : Txg (Txt.mul x n) := ⟨fun c hc => h c (mul_tl.1 c hc), Nat.le_trans mul_tl.2 (by omega)⟩
theorem good_app {x y : Str} (hx : Txg x) (hy : Txg y) (h : x.length + y.length ≤ 100000) : Txg (x ++ y) := ⟨asc_app hx.1 hy.1, by rw [strLen_append]; exact h⟩
theorem good_num {n : Nat} (h : n < 10 ^ 19) : Txg (Str.ofString (toString ((n : Nat) : Int))) ∧ (Str.ofString (toString ((n : Nat) : Int))).length ≤ 19 := by
  rw [num_str]
  have h1 := numL_len (n := n) (k := 19) (by decide) h
  exact ⟨⟨numL_lt128 n, by rw [mkS_len]; omega⟩, by rw [mkS_len]; exact h1⟩
section
variable {P : Program} {w : World} {K : PySem.W.Frag} {mg : Str → Option Value} {base : Heap}
abbrev nLaw : List Str := ["script", "source", "texts", "turn", "size", "most", "text"]
theorem scLaw : FnScope nLaw ["script"] (defScope sLaw) := ⟨rfl, rfl, rfl, by decide +kernel, rfl, by decide +kernel, by decide +kernel⟩
def spLaw (K : PySem.W.Frag) : Sp := fun vs H Q _ => ∃ (a : Addr) (ns : List Int), vs = [.ref a] ∧ SqL K H a (ns.map V.int) ∧ ns.length ≤ 63 ∧ ∀ H', Q (.bl true) H'
structure Calls (P : Program) (w : World) (K : PySem.W.Frag) (mg : Str → Option Value) (base : Heap) (k : Nat) : Prop where
  drw : ∃ f fd, FnOk P w K mg base CX0 k f fd ["script"] (spDrw K) ∧ mg "_law_draws" = some (.ref f) ∧ PySem.W.keepIn K (.ref f) = true ∧ Binds K fd ["script"] []
  cho : ∃ f fd, FnOk P w K mg base CX0 k f fd ["source", "items"] (spCho K) ∧ mg "_law_choose" = some (.ref f) ∧ PySem.W.keepIn K (.ref f) = true ∧ Binds K fd ["source", "items"] []
  rnd : ∃ f fd, FnOk P w K mg base CX0 k f fd ["source", "degrees", "most"] (spRnd K) ∧ mg "_law_random_ordinal" = some (.ref f) ∧ PySem.W.keepIn K (.ref f) = true ∧ Binds K fd ["source", "degrees", "most"] []
  can : ∃ f fd, FnOk P w K mg base CX0 k f fd ["ordinal"] (spCan K) ∧ mg "_law_canonical_text" = some (.ref f) ∧ PySem.W.keepIn K (.ref f) = true ∧ Binds K fd ["ordinal"] []
  chg : ∃ f fd, FnOk P w K mg base CX0 k f fd ["source", "text"] spChg ∧ mg "_law_changed" = some (.ref f) ∧ PySem.W.keepIn K (.ref f) = true ∧ Binds K fd ["source", "text"] []
  outc : ∃ f fd, FnOk P w K mg base CX0 k f fd ["text"] (spOut K) ∧ mg "_law_outcome" = some (.ref f) ∧ PySem.W.keepIn K (.ref f) = true ∧ Binds K fd ["text"] []
  pars : ∃ f fd, FnOk P w K mg base CX0 k f fd ["text"] (spPar K) ∧ mg "_law_parsed" = some (.ref f) ∧ PySem.W.keepIn K (.ref f) = true ∧ Binds K fd ["text"] []
  ide : ∃ f fd, FnG P w K mg base k f fd ["found", "expected"] (spIde K) ∧ mg "_law_identical" = some (.ref f) ∧ PySem.W.keepIn K (.ref f) = true ∧ Binds K fd ["found", "expected"] []
  range : mg "range" = none
  str : mg "str" = none
theorem ord_of {d m : Int} {zs : List Int} (h : Ordn d m zs) (hd : d ≤ 64) (hm : m ≤ 12) : Ord zs := by
  refine ⟨by have := h.len; omega, h.nn, fun z hz => ?_, h.hd⟩
  have := h.le z hz
  omega
theorem good_text {zs : List Int} (h : Ord zs) : Txg (textS zs) ∧ (textS zs).length ≤ 10000 := by
  refine ⟨⟨?_, ?_⟩, text_len h⟩
  · refine asc_join (fun c hc => by rw [sep_tl] at hc; simp only [List.mem_cons, List.not_mem_nil, or_false] at hc; omega) fun p hp => ?_
    obtain ⟨q, _, rfl⟩ := List.mem_map.mp hp
    exact termL_lt _ _
  · have := text_len h
    omega
theorem ok_law {f : Addr} {fd : FuncData} {k : Nat} (F : Fun K "law" "law" sLaw f fd) (C : Calls P w K mg base k) : FnG P w K mg base (k + 1) f fd ["script"] (spLaw K) := by
  obtain ⟨fD, dD, GD, gD, kD, bD⟩ := C.drw
  obtain ⟨fC, dC, GC, gC, kC, bC⟩ := C.cho
  obtain ⟨fR, dR, GR, gR, kR, bR⟩ := C.rnd
  obtain ⟨fK, dK, GK, gK, kK, bK⟩ := C.can
  obtain ⟨fX, dX, GX, gX, kX, bX⟩ := C.chg
  obtain ⟨fO, dO, GO, gO, kO, bO⟩ := C.outc
  obtain ⟨fP, dP, GP, gP, kP, bP⟩ := C.pars
  obtain ⟨fI, dI, GI, gI, kI, bI⟩ := C.ide
  have mr := C.range
  have ms := C.str
  refine Fun_okG F scLaw (fun vs H Q E h => ?_) (fun cdv B below s H vs Q E hg hr h => ?_)
  · obtain ⟨a, ns, rfl, _⟩ := h
    rfl
  obtain ⟨a, ns, rfl, hS, hlen, q⟩ := h
  have ls : ∀ m, m ≤ 400000 → m ≤ sizeLine := fun m h => by rw [sizeLine_eq]; omega
  refine ⟨_, (pss_cons (ps_set (i := 1) scLaw.nd rfl (.inl rfl) (pe_call GD hr (by rfl) gD kD bD .nil pass0 (pa_cons (pv 0) pa_nil)))
        (C8.pss_cut (ps_set (i := 2) scLaw.nd rfl (.inl rfl) (pe_lst (pa_cons (pe_str) (pa_cons (pe_str) (pa_cons (pe_str) (pa_cons (pe_str) (pa_cons (pe_str) (pa_cons (pe_str) (pa_cons (pe_str) (pa_cons (pe_str) (pa_cons (pe_str) (pa_cons (pe_str) (pa_cons (pe_str) (pa_cons (pe_str) pa_nil))))))))))))))
        (C8.pss_cut (ps_set (i := 2) scLaw.nd rfl (.inl rfl) (pe_op op_cat (pv 2) (pe_lst (pa_cons (pe_str) (pa_cons (pe_str) (pa_cons (pe_str) (pa_cons (pe_str) (pa_cons (pe_str) (pa_cons (pe_str) (pa_cons (pe_str) (pa_cons (pe_str) (pa_cons (pe_str) pa_nil))))))))))))
        (C8.pss_cut (ps_set (i := 2) scLaw.nd rfl (.inl rfl) (pe_op op_cat (pv 2) (pe_lst (pa_cons (pe_str) (pa_cons (pe_str) (pa_cons (pe_str) (pa_cons (pe_str) (pa_cons (pe_str) (pa_cons (pe_str) (pa_cons (pe_str) (pa_cons (pe_str) (pa_cons (pe_str) (pa_cons (pe_str) (pa_cons (pe_str) (pa_cons (pe_str) pa_nil)))))))))))))))
        (C8.pss_cut (ps_set (i := 2) scLaw.nd rfl (.inl rfl) (pe_op op_cat (pv 2) (pe_lst (pa_cons (pe_str) (pa_cons (pe_str) (pa_cons (pe_str) (pa_cons (pe_op op_mulS (pe_str) (pe_int)) (pa_cons (pe_op op_add_str (pe_str) (pe_op op_mulS (pe_str) (pe_int))) (pa_cons (pe_op op_add_str (pe_str) (pe_op op_mulS (pe_str) (pe_int))) pa_nil)))))))))
        (C8.pss_cut (ps_set (i := 2) scLaw.nd rfl (.inl rfl) (pe_op op_cat (pv 2) (pe_lst (pa_cons (pe_callTy call_str_int (by rfl) ms (by decide +kernel) (pa_cons (pe_op op_pow (pe_int) (pe_int)) pa_nil)) (pa_cons (pe_callTy call_str_int (by rfl) ms (by decide +kernel) (pa_cons (pe_op op_sub (pe_op op_pow (pe_int) (pe_int)) (pe_int)) pa_nil)) (pa_cons (pe_op op_add_str (pe_str) (pe_callTy call_str_int (by rfl) ms (by decide +kernel) (pa_cons (pe_op op_pow (pe_int) (pe_int)) pa_nil))) (pa_cons (pe_op op_add_str (pe_str) (pe_callTy call_str_int (by rfl) ms (by decide +kernel) (pa_cons (pe_op op_sub (pe_op op_pow (pe_int) (pe_int)) (pe_int)) pa_nil))) pa_nil)))))))
        (C8.pss_cut (ps_for PassesOwn.never rfl (pi_range1 rfl mr (pa_cons pe_int pa_nil)) (pg_name (i := 3) scLaw.nd rfl (.inl rfl)) (pss_cons (ps_par (i := 4) (j := 5) (by rfl) scLaw.nd rfl rfl (by decide) rfl rfl (pa_cons (pe_call GC hr (by rfl) gC kC bC .nil pass0 (pa_cons (pv 1) (pa_cons (pe_lst (pa_cons (pe_int) (pa_cons (pe_int) (pa_cons (pe_int) (pa_cons (pe_int) pa_nil))))) pa_nil))) (pa_cons (pe_call GC hr (by rfl) gC kC bC .nil pass0 (pa_cons (pv 1) (pa_cons (pe_lst (pa_cons (pe_int) (pa_cons (pe_int) (pa_cons (pe_int) pa_nil)))) pa_nil))) pa_nil)) (by rfl))
        (C8.pss_cut (ps_set (i := 6) scLaw.nd rfl (.inl rfl) (pe_call GK hr (by rfl) gK kK bK .nil pass0 (pa_cons (pe_call GR hr (by rfl) gR kR bR .nil pass0 (pa_cons (pv 1) (pa_cons (pv 4) (pa_cons (pv 5) pa_nil)))) pa_nil)))
        (pss_cons (ps_expr (pe_bm PySem.F.plainAttrs_list PySem.F.slot_list_append PySem.F.type_list_append mt_append (pv 2) (pa_cons (pe_call GX hr (by rfl) gX kX bX .nil pass0 (pa_cons (pv 1) (pa_cons (pv 6) pa_nil))) pa_nil)))
        (pss_cons (ps_expr (pe_bm PySem.F.plainAttrs_list PySem.F.slot_list_append PySem.F.type_list_append mt_append (pv 2) (pa_cons (pe_call GX hr (by rfl) gX kX bX .nil pass0 (pa_cons (pv 1) (pa_cons (pe_ix ix_list (pv 2) (pe_un un_neg pe_int) (fun _ _ => rfl)) pa_nil))) pa_nil)))
        (pss_one (ps_expr (pe_bm PySem.F.plainAttrs_list PySem.F.slot_list_append PySem.F.type_list_append mt_append (pv 2) (pa_cons (pe_op op_add_str (pv 6) (pv 6)) pa_nil)))))))))
        (pss_cons (ps_for PassesOwn.never rfl (pi_list (pv 2)) (pg_name (i := 6) scLaw.nd rfl (.inl rfl)) (pss_one (ps_if (pt_not (pt_val (pe_g GI hg hr (by rfl) gI kI bI (pa_cons (pe_call GO hr (by rfl) gO kO bO .nil pass0 (pa_cons (pv 6) pa_nil)) (pa_cons (pe_call GP hr (by rfl) gP kP bP .nil pass0 (pa_cons (pv 6) pa_nil)) pa_nil))))) (pss_one (ps_ret (pe_bl))) pss_nil)))
        (pss_one (ps_ret (pe_bl))))))))))), ?_⟩
  refine ⟨_, rfl, a, ns, rfl, hS, hlen, fun H0 src n sm0 nsrc nn hsrc => ?_⟩
  clear hg
  refine ⟨fun σ H' => ∃ (T : Addr) (ys : List Str), σ = [some (.ref a), some (.ref src), some (.ref T), none, none, none, none] ∧ Src H' src n ∧ T ≠ src ∧ T ≠ n ∧ H' T = some (.lst (ys.map V.str)) ∧ (∀ y ∈ ys, Txg y) ∧ ys.length ≤ 12, ?_, ?_⟩
  · refine ⟨by show 12 ≤ sizeLine; decide, fun p np => ?_⟩
    exact ⟨p, TA1, rfl, hsrc.same (same_upd np), hsrc.has np, hsrc.hasN np, upd_same, good_TA1, by decide⟩
  rintro σ H1 ⟨T, ys, rfl, hs, hTs, hTn, hT, hg, hyl⟩
  refine ⟨fun σ H' => ∃ (T : Addr) (ys : List Str), σ = [some (.ref a), some (.ref src), some (.ref T), none, none, none, none] ∧ Src H' src n ∧ T ≠ src ∧ T ≠ n ∧ H' T = some (.lst (ys.map V.str)) ∧ (∀ y ∈ ys, Txg y) ∧ ys.length ≤ 21, ?_, ?_⟩
  · refine ⟨_, rfl, by show 9 ≤ sizeLine; decide, fun p np => ?_⟩
    have e1 := same_upd (o := .lst (TB1.map V.str)) np
    refine ⟨T, p, _, _, rfl, rfl, e1 _ _ hT, upd_same, ?_, fun p2 np2 => ?_⟩
    · rw [List.length_map]
      exact ls (ys.length + 9) (by omega)
    have e2 := same_upd (o := .lst (ys.map V.str ++ TB1.map V.str)) np2
    refine ⟨p2, ys ++ TB1, rfl, hs.same (e1.trans e2), (hs.same e1).has np2, (hs.same e1).hasN np2, by rw [upd_same, List.map_append]; rfl, fun y hy => ?_, ?_⟩
    · rcases List.mem_append.mp hy with h | h
      · exact hg y h
      · exact good_TB1 y h
    · rw [List.length_append]
      have : TB1.length = 9 := rfl
      omega
  clear hs hTs hTn hT hg hyl
  clear T ys
  rintro σ H1 ⟨T, ys, rfl, hs, hTs, hTn, hT, hg, hyl⟩
  refine ⟨fun σ H' => ∃ (T : Addr) (ys : List Str), σ = [some (.ref a), some (.ref src), some (.ref T), none, none, none, none] ∧ Src H' src n ∧ T ≠ src ∧ T ≠ n ∧ H' T = some (.lst (ys.map V.str)) ∧ (∀ y ∈ ys, Txg y) ∧ ys.length ≤ 33, ?_, ?_⟩
  · refine ⟨_, rfl, by show 12 ≤ sizeLine; decide, fun p np => ?_⟩
    have e1 := same_upd (o := .lst (TC1.map V.str)) np
    refine ⟨T, p, _, _, rfl, rfl, e1 _ _ hT, upd_same, ?_, fun p2 np2 => ?_⟩
    · rw [List.length_map]
      exact ls (ys.length + 12) (by omega)
    have e2 := same_upd (o := .lst (ys.map V.str ++ TC1.map V.str)) np2
    refine ⟨p2, ys ++ TC1, rfl, hs.same (e1.trans e2), (hs.same e1).has np2, (hs.same e1).hasN np2, by rw [upd_same, List.map_append]; rfl, fun y hy => ?_, ?_⟩
    · rcases List.mem_append.mp hy with h | h
      · exact hg y h
      · exact good_TC1 y h
    · rw [List.length_append]
      have : TC1.length = 12 := rfl
      omega
  clear hs hTs hTn hT hg hyl
  clear T ys
  rintro σ H1 ⟨T, ys, rfl, hs, hTs, hTn, hT, hg, hyl⟩
  -- the long ones
  have p18 : ((10 : Int) ^ (18 : Int).toNat) = ((10 ^ 18 : Nat) : Int) := by decide
  have p18' : ((10 : Int) ^ (18 : Int).toNat) - 1 = ((10 ^ 18 - 1 : Nat) : Int) := by decide
  have pok : (0 : Int) ≤ 18 ∧ (18 : Int) ≤ 1000000 ∧ (10 : Int).natAbs < 2 ^ 64 := ⟨by decide, by decide, by decide⟩
  have gs : ∀ y ∈ (["w\n", "1\n", "\n", "w*", "w^", "w^2*", "1", "2"] : List Str), Txg y := good_list (by decide +kernel)
  have gm1 : Txg (Txt.mul "1" 5000) := good_mul (gs "1" (by decide +kernel)).1 (by decide +kernel)
  have gm2 : Txg (Txt.mul "2" 5000) := good_mul (gs "2" (by decide +kernel)).1 (by decide +kernel)
  have lm2 : (Txt.mul "2" 5000).length ≤ 5000 := Nat.le_trans mul_tl.2 (by decide +kernel)
  have mo : ∀ c : Str, c.length = 1 → MulOk c 5000 := fun c hc => ⟨by decide, fun _ _ => by rw [hc]; decide, fun _ _ => by rw [hc]; decide +kernel⟩
  have l2 : ("w*" : Str).length = 2 := by decide +kernel
  have l3 : ("w^" : Str).length = 2 := by decide +kernel
  have l4 : ("w^2*" : Str).length = 4 := by decide +kernel
  refine ⟨fun σ H' => ∃ (T : Addr) (ys : List Str), σ = [some (.ref a), some (.ref src), some (.ref T), none, none, none, none] ∧ Src H' src n ∧ T ≠ src ∧ T ≠ n ∧ H' T = some (.lst (ys.map V.str)) ∧ (∀ y ∈ ys, Txg y) ∧ ys.length ≤ 39, ?_, ?_⟩
  · refine ⟨_, rfl, _, _, rfl, rfl, mo "1" (by decide +kernel), _, _, rfl, rfl, mo "2" (by decide +kernel), _, _, rfl, rfl, ls _ (by rw [l2]; omega), _, _, rfl, rfl, mo "2" (by decide +kernel), _, _, rfl, rfl, ls _ (by rw [l3]; omega), by show 6 ≤ sizeLine; decide, fun p np => ?_⟩
    have eM : ([V.str "w\n", .str "1\n", .str "\n", .str (Txt.mul "1" 5000), .str ("w*" ++ Txt.mul "2" 5000), .str ("w^" ++ Txt.mul "2" 5000)] : List V) = ((["w\n", "1\n", "\n", Txt.mul "1" 5000, "w*" ++ Txt.mul "2" 5000, "w^" ++ Txt.mul "2" 5000] : List Str).map V.str) := rfl
    have e1 := same_upd (o := .lst [V.str "w\n", .str "1\n", .str "\n", .str (Txt.mul "1" 5000), .str ("w*" ++ Txt.mul "2" 5000), .str ("w^" ++ Txt.mul "2" 5000)]) np
    refine ⟨T, p, _, _, rfl, rfl, e1 _ _ hT, upd_same, ?_, fun p2 np2 => ?_⟩
    · rw [List.length_map]
      exact ls _ (by have : ([V.str "w\n", .str "1\n", .str "\n", .str (Txt.mul "1" 5000), .str ("w*" ++ Txt.mul "2" 5000), .str ("w^" ++ Txt.mul "2" 5000)] : List V).length = 6 := rfl; omega)
    have e2 := same_upd (o := .lst (ys.map V.str ++ [V.str "w\n", .str "1\n", .str "\n", .str (Txt.mul "1" 5000), .str ("w*" ++ Txt.mul "2" 5000), .str ("w^" ++ Txt.mul "2" 5000)])) np2
    refine ⟨p2, ys ++ (["w\n", "1\n", "\n", Txt.mul "1" 5000, "w*" ++ Txt.mul "2" 5000, "w^" ++ Txt.mul "2" 5000] : List Str), rfl, hs.same (e1.trans e2), (hs.same e1).has np2, (hs.same e1).hasN np2, by rw [upd_same, List.map_append]; rfl, fun y hy => ?_, ?_⟩
    · rcases List.mem_append.mp hy with h | h
      · exact hg y h
      · simp only [List.mem_cons, List.not_mem_nil, or_false] at h
        rcases h with rfl | rfl | rfl | rfl | rfl | rfl
        · exact gs _ (by decide +kernel)
        · exact gs _ (by decide +kernel)
        · exact gs _ (by decide +kernel)
        · exact gm1
        · exact good_app (gs _ (by decide +kernel)) gm2 (by rw [l2]; omega)
        · exact good_app (gs _ (by decide +kernel)) gm2 (by rw [l3]; omega)
    · rw [List.length_append]
      show ys.length + 6 ≤ 39
      omega
  clear hs hTs hTn hT hg hyl
  clear T ys
  rintro σ H1 ⟨T, ys, rfl, hs, hTs, hTn, hT, hg, hyl⟩
  obtain ⟨gn1, ln1⟩ := good_num (n := 10 ^ 18) (by decide)
  obtain ⟨gn2, ln2⟩ := good_num (n := 10 ^ 18 - 1) (by decide)
  have lg1 : ((10 : Int) ^ (18 : Int).toNat).natAbs.log2 < 1920 := by decide +kernel
  have lg2 : ((10 : Int) ^ (18 : Int).toNat - 1).natAbs.log2 < 1920 := by decide +kernel
  rw [← p18] at gn1 ln1
  rw [← p18'] at gn2 ln2
  generalize hn1 : Str.ofString (toString ((10 : Int) ^ (18 : Int).toNat)) = n1 at gn1 ln1
  generalize hn2 : Str.ofString (toString ((10 : Int) ^ (18 : Int).toNat - 1)) = n2 at gn2 ln2
  refine ⟨fun σ H' => ∃ (T : Addr) (ys : List Str), σ = [some (.ref a), some (.ref src), some (.ref T), none, none, none, none] ∧ Src H' src n ∧ T ≠ src ∧ T ≠ n ∧ H' T = some (.lst (ys.map V.str)) ∧ (∀ y ∈ ys, Txg y) ∧ ys.length ≤ 43, ?_, ?_⟩
  · refine ⟨_, rfl, _, _, rfl, rfl, pok, _, rfl, lg1, _, _, rfl, rfl, pok, _, _, rfl, rfl, _, rfl, lg2, _, _, rfl, rfl, pok, _, rfl, lg1, _, _, rfl, rfl, ls _ (by rw [l2, hn1]; omega), _, _, rfl, rfl, pok, _, _, rfl, rfl, _, rfl, lg2, _, _, rfl, rfl, ls _ (by rw [l4, hn2]; omega), by show 4 ≤ sizeLine; decide, fun p np => ?_⟩
    rw [hn1, hn2]
    have e1 := same_upd (o := .lst [V.str n1, .str n2, .str ("w*" ++ n1), .str ("w^2*" ++ n2)]) np
    refine ⟨T, p, _, _, rfl, rfl, e1 _ _ hT, upd_same, ?_, fun p2 np2 => ?_⟩
    · rw [List.length_map]
      exact ls _ (by show ys.length + 4 ≤ _; omega)
    have e2 := same_upd (o := .lst (ys.map V.str ++ [V.str n1, .str n2, .str ("w*" ++ n1), .str ("w^2*" ++ n2)])) np2
    refine ⟨p2, ys ++ [n1, n2, "w*" ++ n1, "w^2*" ++ n2], rfl, hs.same (e1.trans e2), (hs.same e1).has np2, (hs.same e1).hasN np2, by rw [upd_same, List.map_append]; rfl, fun y hy => ?_, ?_⟩
    · rcases List.mem_append.mp hy with h | h
      · exact hg y h
      · simp only [List.mem_cons, List.not_mem_nil, or_false] at h
        rcases h with rfl | rfl | rfl | rfl
        · exact gn1
        · exact gn2
        · exact good_app (gs _ (by decide +kernel)) gn1 (by rw [l2]; omega)
        · exact good_app (gs _ (by decide +kernel)) gn2 (by rw [l4]; omega)
    · rw [List.length_append]
      show ys.length + 4 ≤ 43
      omega
  clear hs hTs hTn hT hg hyl
  clear T ys
  rintro σ H1 ⟨T, ys, rfl, hs, hTs, hTn, hT, hg, hyl⟩
  -- the drawn ones
  refine ⟨fun σ H' => ∃ (ys : List Str) (y3 y4 y5 y6 : Option V), σ = [some (.ref a), some (.ref src), some (.ref T), y3, y4, y5, y6] ∧ Src H' src n ∧ H' T = some (.lst (ys.map V.str)) ∧ (∀ y ∈ ys, Txg y) ∧ ys.length ≤ 100, ?_, ?_⟩
  · refine ⟨6, rfl, by decide, by decide, for_range (n := 6) (fun t σ H' => ∃ (ys : List Str) (y3 y4 y5 y6 : Option V), σ = [some (.ref a), some (.ref src), some (.ref T), y3, y4, y5, y6] ∧ Src H' src n ∧ H' T = some (.lst (ys.map V.str)) ∧ (∀ y ∈ ys, Txg y) ∧ ys.length ≤ 43 + 3 * t) ⟨ys, _, _, _, _, rfl, hs, hT, hg, hyl⟩ ?_ ?_⟩
    · clear hs hT hg hyl
      clear ys
      rintro t σ H2 ht ⟨ys, y3, y4, y5, y6, rfl, hs, hT, hg, hyl⟩
      refine ⟨_, rfl, by show 4 ≤ sizeLine; decide, fun p1 np1 => ⟨src, n, p1, _, rfl, hs.same (same_upd np1), .inl (.inl upd_same), hs.has np1, by simp, by simp, fun v1 H3 hv1 s3 => ?_⟩⟩
      obtain ⟨d, rfl, d1, d2⟩ : ∃ d : Int, v1 = .int d ∧ 0 ≤ d ∧ d ≤ 64 := by
        simp at hv1
        rcases hv1 with rfl | rfl | rfl | rfl
        all_goals exact ⟨_, rfl, by decide, by decide⟩
      have S3 := (Stp.of hs (same_upd (o := .lst [.int 1, .int 2, .int 4, .int 64]) np1)).trans s3
      refine ⟨_, rfl, by show 3 ≤ sizeLine; decide, fun p2 np2 => ⟨src, n, p2, _, rfl, S3.1.same (same_upd np2), .inl (.inl upd_same), S3.1.has np2, by simp, by simp, fun v2 H4 hv2 s4 => ?_⟩⟩
      obtain ⟨m, rfl, m1, m2⟩ : ∃ m : Int, v2 = .int m ∧ 0 ≤ m ∧ m ≤ 12 := by
        simp at hv2
        rcases hv2 with rfl | rfl | rfl
        all_goals exact ⟨_, rfl, by decide, by decide⟩
      have S4 := S3.trans ((Stp.of S3.1 (same_upd (o := .lst [.int 1, .int 2, .int 12]) np2)).trans s4)
      refine ⟨_, _, rfl, ?_⟩
      refine ⟨fun σ H' => ∃ zs : List Int, σ = [some (.ref a), some (.ref src), some (.ref T), some (.int (0 + (t : Int))), some (.int d), some (.int m), some (.str (textS zs))] ∧ Stp src n H4 H' ∧ Ord zs, ?_, ?_⟩
      · refine ⟨_, rfl, _, rfl, _, rfl, src, n, d, m, rfl, S4.1, d1, by omega, m1, by omega, fun p H5 zs s5 t5 o5 => ?_⟩
        have oz := ord_of o5 d2 m2
        exact ⟨p, zs, rfl, t5, oz, fun H6 s6 => ⟨zs, rfl, s5.then s6, oz⟩⟩
      rintro σ H5 ⟨zs, rfl, s5, oz⟩
      have S5 := S4.trans s5
      obtain ⟨gt, lt⟩ := good_text oz
      generalize textS zs = x at gt lt
      refine ⟨_, rfl, .inl ⟨rfl, _, .inl (.inl (S5.2 _ _ hT hTs))⟩, _, rfl, _, rfl, src, n, x, rfl, S5.1, gt.1, by omega, fun y1 H6 s6 ha1 hl1 => ?_⟩
      have S6 := S5.trans s6
      have hT6 := S6.2 _ _ hT hTs
      refine ⟨T, _, _, rfl, rfl, hT6, by rw [List.length_map]; exact small1000 (by omega), ?_⟩
      have r6 := S6.1.upd (o := .lst (ys.map V.str ++ [.str y1])) hTs hTn
      have hT7 : (upd H6 T (.lst (ys.map V.str ++ [.str y1]))) T = some (.lst ((ys ++ [y1]).map V.str)) := by rw [upd_same, List.map_append]; rfl
      generalize upd H6 T (.lst (ys.map V.str ++ [.str y1])) = H7 at r6 hT7 ⊢
      refine ⟨_, rfl, .inl ⟨rfl, _, .inl (.inl hT7)⟩, _, rfl, _, rfl, _, rfl, T, _, -1, _, rfl, rfl, .inl (.inl hT7), by rw [List.map_append]; exact atI_last _ _, ?_⟩
      refine ⟨src, n, y1, rfl, r6, ha1, by omega, fun y2 H8 s8 ha2 hl2 => ?_⟩
      have hT8 := s8.2 _ _ hT7 hTs
      refine ⟨T, _, _, rfl, rfl, hT8, by rw [List.length_map, List.length_append]; exact small1000 (by show ys.length + 1 ≤ 1000; omega), ?_⟩
      have r8 := s8.1.upd (o := .lst ((ys ++ [y1]).map V.str ++ [.str y2])) hTs hTn
      have hT9 : (upd H8 T (.lst ((ys ++ [y1]).map V.str ++ [.str y2]))) T = some (.lst ((ys ++ [y1] ++ [y2]).map V.str)) := by rw [upd_same, List.map_append (l₁ := ys ++ [y1])]; rfl
      generalize upd H8 T (.lst ((ys ++ [y1]).map V.str ++ [.str y2])) = H9 at r8 hT9 ⊢
      refine ⟨_, rfl, .inl ⟨rfl, _, .inl (.inl hT9)⟩, _, rfl, _, rfl, _, _, rfl, rfl, ls _ (by omega), T, _, _, rfl, rfl, hT9, by rw [List.length_map, List.length_append, List.length_append]; exact small1000 (by show ys.length + 1 + 1 ≤ 1000; omega), ?_⟩
      refine ⟨ys ++ [y1] ++ [y2] ++ [x ++ x], _, _, _, _, rfl, r8.upd hTs hTn, by rw [upd_same, List.map_append (l₁ := ys ++ [y1] ++ [y2])]; rfl, fun y hy => ?_, ?_⟩
      · simp only [List.mem_append, List.mem_singleton] at hy
        rcases hy with ((h | h) | h) | h
        · exact hg y h
        · rw [h]
          exact ⟨ha1, by omega⟩
        · rw [h]
          exact ⟨ha2, by omega⟩
        · rw [h]
          exact good_app gt gt (by omega)
      · rw [List.length_append, List.length_append, List.length_append]
        show ys.length + 1 + 1 + 1 ≤ 43 + 3 * (t + 1)
        omega
    · rintro σ H2 ⟨ys, y3, y4, y5, y6, rfl, hs, hT, hg, hyl⟩
      exact ⟨ys, y3, y4, y5, y6, rfl, hs, hT, hg, by omega⟩
  clear hs hT hg hyl
  clear ys
  rintro σ H2 ⟨ys, y3, y4, y5, y6, rfl, hs, hT, hg, hyl⟩
  refine ⟨_, rfl, T, rfl, ⟨_, .inl (.inl hT)⟩, for_list (K := K) (a := T) (xs := ys.map V.str) (fun c σ H' => ∃ y6 : Option V, σ = [some (.ref a), some (.ref src), some (.ref T), y3, y4, y5, y6] ∧ Same H2 H') ⟨_, rfl, Same.refl _⟩ ?_ ?_ ?_⟩
  · rintro c σ H' _ ⟨y6, rfl, sm⟩
    exact .inl (.inl (sm _ _ hT))
  · rintro c x' σ H3 hx' ⟨y6, rfl, s3⟩
    obtain ⟨x, hx, rfl⟩ := List.mem_map.mp (List.mem_of_getElem? hx')
    obtain ⟨hA, hL⟩ := hg x hx
    by_cases hz : ∃ zs, Ord zs ∧ x = textS zs
    · obtain ⟨zs, oz, hxz⟩ := hz
      have lp : lParse (tl x) = some zs := by rw [hxz]; exact parse_text oz
      have only : ∀ zs', Ord zs' → x = textS zs' → zs' = zs := fun zs' o' h' => by
        have := parse_text o'
        rw [← h', lp] at this
        exact (Option.some.inj this).symm
      refine ⟨_, rfl, x, rfl, hL, fun zs' o' h' p1 H4 s4 t4 => ?_, fun hn => absurd ⟨zs, oz, hxz⟩ hn⟩
      rw [only zs' o' h'] at t4
      refine ⟨_, rfl, x, rfl, hL, hA, fun hn => ?_, fun zs2 h2 p2 H5 s5 t5 => ?_⟩
      · rw [lp] at hn
        cases hn
      · rw [lp] at h2
        cases h2
        refine ⟨_, _, _, rfl, dp_tup (Same.seqT s5 t4), dp_tup t5, Shn.tup (fun z hz => ?_) (by have := oz.1; omega), true, rfl, iteF ⟨_, rfl, (s3.trans s4).trans s5⟩⟩
        have h1 := oz.2.1 z hz
        have h2 := oz.2.2.1 z hz
        omega
    · have lp : lParse (tl x) = none := by
        cases h : lParse (tl x) with
        | none => rfl
        | some zs =>
          obtain ⟨o, e⟩ := parse_some h
          exact absurd ⟨zs, o, ext_tl e⟩ hz
      refine ⟨_, rfl, x, rfl, hL, fun zs' o' h' => absurd ⟨zs', o', h'⟩ hz, fun _ H4 s4 => ?_⟩
      refine ⟨_, rfl, x, rfl, hL, hA, fun _ H5 s5 => ?_, fun zs2 h2 => ?_⟩
      · exact ⟨_, _, .none, rfl, .non, .non, Sd.none.shn (k := 0) (by decide) (by decide), true, rfl, iteF ⟨_, rfl, (s3.trans s4).trans s5⟩⟩
      · rw [lp] at h2
        cases h2
  · rintro σ H3 ⟨_, rfl, _⟩
    exact q _
end
end Lim
set_option maxHeartbeats 8000000
namespace Lim
open PySem PySem.Spec PyProof.Rows L2
theorem all_mk {P : Program} {w : World} {K : PySem.W.Frag} {h : Heap} {mg : Str → Option Value} {fa f1 f2 f3 f4 f5 f6 f7 f8 f9 f10 f11 f12 f13 f14 f15 f16 f17 f18 f19 f20 f21 f22 f23 : Addr} {od1 an1 od2 an2 od3 an3 od4 an4 od5 an5 od6 an6 od7 an7 od8 an8 od9 an9 od10 an10 od11 an11 od12 an12 od13 an13 od14 an14 od15 an15 od16 an16 od17 an17 od18 an18 od19 an19 od20 an20 od21 an21 od22 an22 od23 an23 : Option Addr} {sl1 sl2 sl3 sl4 sl5 sl6 sl7 sl8 sl9 sl10 sl11 sl12 sl13 sl14 sl15 sl16 sl17 sl18 sl19 sl20 sl21 sl22 sl23 : Array (Option Value)} {oc1 kV1 dc1 pm1 cd1 ct1 oc2 kV2 dc2 pm2 cd2 ct2 oc3 kV3 dc3 pm3 cd3 ct3 oc4 kV4 dc4 pm4 cd4 ct4 oc5 kV5 dc5 pm5 cd5 ct5 oc6 kV6 dc6 pm6 cd6 ct6 oc7 kV7 dc7 pm7 cd7 ct7 oc8 kV8 dc8 pm8 cd8 ct8 oc9 kV9 dc9 pm9 cd9 ct9 oc10 kV10 dc10 pm10 cd10 ct10 oc11 kV11 dc11 pm11 cd11 ct11 oc12 kV12 dc12 pm12 cd12 ct12 oc13 kV13 dc13 pm13 cd13 ct13 oc14 kV14 dc14 pm14 cd14 ct14 oc15 kV15 dc15 pm15 cd15 ct15 oc16 kV16 dc16 pm16 cd16 ct16 oc17 kV17 dc17 pm17 cd17 ct17 oc18 kV18 dc18 pm18 cd18 ct18 oc19 kV19 dc19 pm19 cd19 ct19 oc20 kV20 dc20 pm20 cd20 ct20 oc21 kV21 dc21 pm21 cd21 ct21 oc22 kV22 dc22 pm22 cd22 ct22 oc23 kV23 dc23 pm23 cd23 ct23 : Value} {cL zc1 zc2 zc3 zc4 zc5 zc6 : Addr} {nm1 qq1 : Str} {N1 : Addr} {bs1 : List Value} {sn1 : List Str} {sb1 : List Value} {ab1 : Bool} {co1 : Option Bool} {dd1 : Option Addr} {uu1 uv1 uw1 uy1 uz1 : Option Value} {nm2 qq2 : Str} {N2 : Addr} {bs2 : List Value} {sn2 : List Str} {sb2 : List Value} {ab2 : Bool} {co2 : Option Bool} {dd2 : Option Addr} {uu2 uv2 uw2 uy2 uz2 : Option Value} {nm3 qq3 : Str} {N3 : Addr} {bs3 : List Value} {sn3 : List Str} {sb3 : List Value} {ab3 : Bool} {co3 : Option Bool} {dd3 : Option Addr} {uu3 uv3 uw3 uy3 uz3 : Option Value} {nm4 qq4 : Str} {N4 : Addr} {bs4 : List Value} {sn4 : List Str} {sb4 : List Value} {ab4 : Bool} {co4 : Option Bool} {dd4 : Option Addr} {uu4 uv4 uw4 uy4 uz4 : Option Value} {nm5 qq5 : Str} {N5 : Addr} {bs5 : List Value} {sn5 : List Str} {sb5 : List Value} {ab5 : Bool} {co5 : Option Bool} {dd5 : Option Addr} {uu5 uv5 uw5 uy5 uz5 : Option Value} {nm6 qq6 : Str} {N6 : Addr} {bs6 : List Value} {sn6 : List Str} {sb6 : List Value} {ab6 : Bool} {co6 : Option Bool} {dd6 : Option Addr} {uu6 uv6 uw6 uy6 uz6 : Option Value} {fP fT : Addr} {odP anP dT : Option Addr} {slP slT : Array (Option Value)} {ocP kVP dcP pmP cdP ctP : Value} {tk : Tok} {mT : Nat} {tB tM tC tE tD : Tok} (X : K.In h) (G : h.Ns mainGlobals mg) (hfa : mg "law" = some (.ref fa))
    (a1 : PySem.W.nsIn K mainGlobals "is_coefficient" = some (some (.ref f1))) (l1 : K.lookup f1 = some ⟨oc1, od1, .func (PySem.W.fnOf "is_coefficient" "is_coefficient" (defArgs sIsC) (defBody sIsC) (defScope sIsC) .none kV1 dc1 pm1 an1 cd1 ct1), sl1⟩) (c1 : PySem.W.codeIn K cd1 "is_coefficient" = true) (k1 : PySem.W.keepIn K (.ref f1) = true)
    (a2 : PySem.W.nsIn K mainGlobals "is_ordinal" = some (some (.ref f2))) (l2 : K.lookup f2 = some ⟨oc2, od2, .func (PySem.W.fnOf "is_ordinal" "is_ordinal" (defArgs sIsO) (defBody sIsO) (defScope sIsO) .none kV2 dc2 pm2 an2 cd2 ct2), sl2⟩) (c2 : PySem.W.codeIn K cd2 "is_ordinal" = true) (k2 : PySem.W.keepIn K (.ref f2) = true)
    (a3 : PySem.W.nsIn K mainGlobals "add" = some (some (.ref f3))) (l3 : K.lookup f3 = some ⟨oc3, od3, .func (PySem.W.fnOf "add" "add" (defArgs sPad) (defBody sPad) (defScope sPad) .none kV3 dc3 pm3 an3 cd3 ct3), sl3⟩) (c3 : PySem.W.codeIn K cd3 "add" = true) (k3 : PySem.W.keepIn K (.ref f3) = true)
    (a4 : PySem.W.nsIn K mainGlobals "format_term" = some (some (.ref f4))) (l4 : K.lookup f4 = some ⟨oc4, od4, .func (PySem.W.fnOf "format_term" "format_term" (defArgs sFmT) (defBody sFmT) (defScope sFmT) .none kV4 dc4 pm4 an4 cd4 ct4), sl4⟩) (c4 : PySem.W.codeIn K cd4 "format_term" = true) (k4 : PySem.W.keepIn K (.ref f4) = true)
    (a5 : PySem.W.nsIn K mainGlobals "format_ordinal" = some (some (.ref f5))) (l5 : K.lookup f5 = some ⟨oc5, od5, .func (PySem.W.fnOf "format_ordinal" "format_ordinal" (defArgs sFmO) (defBody sFmO) (defScope sFmO) .none kV5 dc5 pm5 an5 cd5 ct5), sl5⟩) (c5 : PySem.W.codeIn K cd5 "format_ordinal" = true) (k5 : PySem.W.keepIn K (.ref f5) = true)
    (a6 : PySem.W.nsIn K mainGlobals "parse_number" = some (some (.ref f6))) (l6 : K.lookup f6 = some ⟨oc6, od6, .func (PySem.W.fnOf "parse_number" "parse_number" (defArgs sPaN) (defBody sPaN) (defScope sPaN) .none kV6 dc6 pm6 an6 cd6 ct6), sl6⟩) (c6 : PySem.W.codeIn K cd6 "parse_number" = true) (k6 : PySem.W.keepIn K (.ref f6) = true)
    (a7 : PySem.W.nsIn K mainGlobals "parse_term" = some (some (.ref f7))) (l7 : K.lookup f7 = some ⟨oc7, od7, .func (PySem.W.fnOf "parse_term" "parse_term" (defArgs sPaT) (defBody sPaT) (defScope sPaT) .none kV7 dc7 pm7 an7 cd7 ct7), sl7⟩) (c7 : PySem.W.codeIn K cd7 "parse_term" = true) (k7 : PySem.W.keepIn K (.ref f7) = true)
    (a8 : PySem.W.nsIn K mainGlobals "parse_ordinal" = some (some (.ref f8))) (l8 : K.lookup f8 = some ⟨oc8, od8, .func (PySem.W.fnOf "parse_ordinal" "parse_ordinal" (defArgs sPaO) (defBody sPaO) (defScope sPaO) .none kV8 dc8 pm8 an8 cd8 ct8), sl8⟩) (c8 : PySem.W.codeIn K cd8 "parse_ordinal" = true) (k8 : PySem.W.keepIn K (.ref f8) = true)
    (a9 : PySem.W.nsIn K mainGlobals "_law_scramble" = some (some (.ref f9))) (l9 : K.lookup f9 = some ⟨oc9, od9, .func (PySem.W.fnOf "_law_scramble" "_law_scramble" (defArgs sScr) (defBody sScr) (defScope sScr) .none kV9 dc9 pm9 an9 cd9 ct9), sl9⟩) (c9 : PySem.W.codeIn K cd9 "_law_scramble" = true) (k9 : PySem.W.keepIn K (.ref f9) = true)
    (a10 : PySem.W.nsIn K mainGlobals "_law_draws" = some (some (.ref f10))) (l10 : K.lookup f10 = some ⟨oc10, od10, .func (PySem.W.fnOf "_law_draws" "_law_draws" (defArgs sDrw) (defBody sDrw) (defScope sDrw) .none kV10 dc10 pm10 an10 cd10 ct10), sl10⟩) (c10 : PySem.W.codeIn K cd10 "_law_draws" = true) (k10 : PySem.W.keepIn K (.ref f10) = true)
    (a11 : PySem.W.nsIn K mainGlobals "_law_next" = some (some (.ref f11))) (l11 : K.lookup f11 = some ⟨oc11, od11, .func (PySem.W.fnOf "_law_next" "_law_next" (defArgs sNxt) (defBody sNxt) (defScope sNxt) .none kV11 dc11 pm11 an11 cd11 ct11), sl11⟩) (c11 : PySem.W.codeIn K cd11 "_law_next" = true) (k11 : PySem.W.keepIn K (.ref f11) = true)
    (a12 : PySem.W.nsIn K mainGlobals "_law_choose" = some (some (.ref f12))) (l12 : K.lookup f12 = some ⟨oc12, od12, .func (PySem.W.fnOf "_law_choose" "_law_choose" (defArgs sCho) (defBody sCho) (defScope sCho) .none kV12 dc12 pm12 an12 cd12 ct12), sl12⟩) (c12 : PySem.W.codeIn K cd12 "_law_choose" = true) (k12 : PySem.W.keepIn K (.ref f12) = true)
    (a13 : PySem.W.nsIn K mainGlobals "_law_identical" = some (some (.ref f13))) (l13 : K.lookup f13 = some ⟨oc13, od13, .func (PySem.W.fnOf "_law_identical" "_law_identical" (defArgs sIde) (defBody sIde) (defScope sIde) .none kV13 dc13 pm13 an13 cd13 ct13), sl13⟩) (c13 : PySem.W.codeIn K cd13 "_law_identical" = true) (k13 : PySem.W.keepIn K (.ref f13) = true)
    (a14 : PySem.W.nsIn K mainGlobals "_law_random_ordinal" = some (some (.ref f14))) (l14 : K.lookup f14 = some ⟨oc14, od14, .func (PySem.W.fnOf "_law_random_ordinal" "_law_random_ordinal" (defArgs sRnd) (defBody sRnd) (defScope sRnd) .none kV14 dc14 pm14 an14 cd14 ct14), sl14⟩) (c14 : PySem.W.codeIn K cd14 "_law_random_ordinal" = true) (k14 : PySem.W.keepIn K (.ref f14) = true)
    (a15 : PySem.W.nsIn K mainGlobals "_law_term_list" = some (some (.ref f15))) (l15 : K.lookup f15 = some ⟨oc15, od15, .func (PySem.W.fnOf "_law_term_list" "_law_term_list" (defArgs sTrm) (defBody sTrm) (defScope sTrm) .none kV15 dc15 pm15 an15 cd15 ct15), sl15⟩) (c15 : PySem.W.codeIn K cd15 "_law_term_list" = true) (k15 : PySem.W.keepIn K (.ref f15) = true)
    (a16 : PySem.W.nsIn K mainGlobals "_law_from_terms" = some (some (.ref f16))) (l16 : K.lookup f16 = some ⟨oc16, od16, .func (PySem.W.fnOf "_law_from_terms" "_law_from_terms" (defArgs sFrm) (defBody sFrm) (defScope sFrm) .none kV16 dc16 pm16 an16 cd16 ct16), sl16⟩) (c16 : PySem.W.codeIn K cd16 "_law_from_terms" = true) (k16 : PySem.W.keepIn K (.ref f16) = true)
    (a17 : PySem.W.nsIn K mainGlobals "_law_canonical_text" = some (some (.ref f17))) (l17 : K.lookup f17 = some ⟨oc17, od17, .func (PySem.W.fnOf "_law_canonical_text" "_law_canonical_text" (defArgs sCan) (defBody sCan) (defScope sCan) .none kV17 dc17 pm17 an17 cd17 ct17), sl17⟩) (c17 : PySem.W.codeIn K cd17 "_law_canonical_text" = true) (k17 : PySem.W.keepIn K (.ref f17) = true)
    (a18 : PySem.W.nsIn K mainGlobals "_law_plain_number" = some (some (.ref f18))) (l18 : K.lookup f18 = some ⟨oc18, od18, .func (PySem.W.fnOf "_law_plain_number" "_law_plain_number" (defArgs sPla) (defBody sPla) (defScope sPla) .none kV18 dc18 pm18 an18 cd18 ct18), sl18⟩) (c18 : PySem.W.codeIn K cd18 "_law_plain_number" = true) (k18 : PySem.W.keepIn K (.ref f18) = true)
    (a19 : PySem.W.nsIn K mainGlobals "_law_term_of" = some (some (.ref f19))) (l19 : K.lookup f19 = some ⟨oc19, od19, .func (PySem.W.fnOf "_law_term_of" "_law_term_of" (defArgs sTof) (defBody sTof) (defScope sTof) .none kV19 dc19 pm19 an19 cd19 ct19), sl19⟩) (c19 : PySem.W.codeIn K cd19 "_law_term_of" = true) (k19 : PySem.W.keepIn K (.ref f19) = true)
    (a20 : PySem.W.nsIn K mainGlobals "_law_parsed" = some (some (.ref f20))) (l20 : K.lookup f20 = some ⟨oc20, od20, .func (PySem.W.fnOf "_law_parsed" "_law_parsed" (defArgs sPar) (defBody sPar) (defScope sPar) .none kV20 dc20 pm20 an20 cd20 ct20), sl20⟩) (c20 : PySem.W.codeIn K cd20 "_law_parsed" = true) (k20 : PySem.W.keepIn K (.ref f20) = true)
    (a21 : PySem.W.nsIn K mainGlobals "_law_outcome" = some (some (.ref f21))) (l21 : K.lookup f21 = some ⟨oc21, od21, .func (PySem.W.fnOf "_law_outcome" "_law_outcome" (defArgs sOut) (defBody sOut) (defScope sOut) .none kV21 dc21 pm21 an21 cd21 ct21), sl21⟩) (c21 : PySem.W.codeIn K cd21 "_law_outcome" = true) (k21 : PySem.W.keepIn K (.ref f21) = true)
    (a22 : PySem.W.nsIn K mainGlobals "_law_changed" = some (some (.ref f22))) (l22 : K.lookup f22 = some ⟨oc22, od22, .func (PySem.W.fnOf "_law_changed" "_law_changed" (defArgs sChg) (defBody sChg) (defScope sChg) .none kV22 dc22 pm22 an22 cd22 ct22), sl22⟩) (c22 : PySem.W.codeIn K cd22 "_law_changed" = true) (k22 : PySem.W.keepIn K (.ref f22) = true)
    (a23 : PySem.W.nsIn K mainGlobals "law" = some (some (.ref f23))) (l23 : K.lookup f23 = some ⟨oc23, od23, .func (PySem.W.fnOf "law" "law" (defArgs sLaw) (defBody sLaw) (defScope sLaw) .none kV23 dc23 pm23 an23 cd23 ct23), sl23⟩) (c23 : PySem.W.codeIn K cd23 "law" = true) (k23 : PySem.W.keepIn K (.ref f23) = true)
    (z0 : PySem.W.nsIn K mainGlobals "range" = some none)
    (z1 : PySem.W.nsIn K mainGlobals "len" = some none)
    (z2 : PySem.W.nsIn K mainGlobals "isinstance" = some none)
    (z3 : PySem.W.nsIn K mainGlobals "enumerate" = some none)
    (z4 : PySem.W.nsIn K mainGlobals "abs" = some none)
    (z5 : PySem.W.nsIn K mainGlobals "tuple" = some none)
    (z6 : PySem.W.nsIn K mainGlobals "bool" = some none)
    (z7 : PySem.W.nsIn K mainGlobals "int" = some none)
    (z8 : PySem.W.nsIn K mainGlobals "str" = some none)
    (z9 : PySem.W.nsIn K mainGlobals "repr" = some none)
    (z10 : PySem.W.nsIn K mainGlobals "zip" = some none)
    (z11 : PySem.W.nsIn K mainGlobals "ValueError" = some none)
    (lG : PySem.W.nsIn K mainGlobals "LimitRunError" = some (some (.ref cL)))
    (lT : PySem.W.typeIn K (.ref cL) = some (.type "type"))
    (lD : PySem.W.hasDictIn K cL = true)
    (lB : PySem.W.subIn K (.ref cL) (.type "BaseException") = some true)
    (wn : PySem.W.specialIn K (.builtin "object.__class__") "__get__" = some (some (.builtin "getset_descriptor.__get__")))
    (wt : PySem.W.takesIn K (.builtin "object.__class__") = some true)
    (aC1 : PySem.W.nsIn K mainGlobals "SyntaxProblem" = some (some (.ref zc1)))
    (x1 : K.lookup zc1 = some (excClassObj nm1 qq1 zc1 N1 bs1 [.ref cL, .type "ValueError", .type "Exception", .type "BaseException", .type "object"] true sn1 sb1 ab1 co1 dd1 uu1 uv1 uw1 uy1 uz1 "ValueError.__new__"))
    (ga1 : PySem.W.findIn K (.ref zc1) "__getattribute__" = some (some (.builtin "BaseException.__getattribute__")))
    (gg1 : PySem.W.findIn K (.ref zc1) "__getattr__" = some none)
    (gc1 : PySem.W.findIn K (.ref zc1) "__class__" = some (some (.builtin "object.__class__")))
    (aC2 : PySem.W.nsIn K mainGlobals "BadClaim" = some (some (.ref zc2)))
    (x2 : K.lookup zc2 = some (excClassObj nm2 qq2 zc2 N2 bs2 [.ref cL, .type "ValueError", .type "Exception", .type "BaseException", .type "object"] true sn2 sb2 ab2 co2 dd2 uu2 uv2 uw2 uy2 uz2 "ValueError.__new__"))
    (ga2 : PySem.W.findIn K (.ref zc2) "__getattribute__" = some (some (.builtin "BaseException.__getattribute__")))
    (gg2 : PySem.W.findIn K (.ref zc2) "__getattr__" = some none)
    (gc2 : PySem.W.findIn K (.ref zc2) "__class__" = some (some (.builtin "object.__class__")))
    (aC3 : PySem.W.nsIn K mainGlobals "BadPath" = some (some (.ref zc3)))
    (x3 : K.lookup zc3 = some (excClassObj nm3 qq3 zc3 N3 bs3 [.ref cL, .type "ValueError", .type "Exception", .type "BaseException", .type "object"] true sn3 sb3 ab3 co3 dd3 uu3 uv3 uw3 uy3 uz3 "ValueError.__new__"))
    (ga3 : PySem.W.findIn K (.ref zc3) "__getattribute__" = some (some (.builtin "BaseException.__getattribute__")))
    (gg3 : PySem.W.findIn K (.ref zc3) "__getattr__" = some none)
    (gc3 : PySem.W.findIn K (.ref zc3) "__class__" = some (some (.builtin "object.__class__")))
    (aC4 : PySem.W.nsIn K mainGlobals "InvalidOrdinal" = some (some (.ref zc4)))
    (x4 : K.lookup zc4 = some (excClassObj nm4 qq4 zc4 N4 bs4 [.ref cL, .type "ValueError", .type "Exception", .type "BaseException", .type "object"] true sn4 sb4 ab4 co4 dd4 uu4 uv4 uw4 uy4 uz4 "ValueError.__new__"))
    (ga4 : PySem.W.findIn K (.ref zc4) "__getattribute__" = some (some (.builtin "BaseException.__getattribute__")))
    (gg4 : PySem.W.findIn K (.ref zc4) "__getattr__" = some none)
    (gc4 : PySem.W.findIn K (.ref zc4) "__class__" = some (some (.builtin "object.__class__")))
    (aC5 : PySem.W.nsIn K mainGlobals "NotLater" = some (some (.ref zc5)))
    (x5 : K.lookup zc5 = some (excClassObj nm5 qq5 zc5 N5 bs5 [.ref cL, .type "ValueError", .type "Exception", .type "BaseException", .type "object"] true sn5 sb5 ab5 co5 dd5 uu5 uv5 uw5 uy5 uz5 "ValueError.__new__"))
    (ga5 : PySem.W.findIn K (.ref zc5) "__getattribute__" = some (some (.builtin "BaseException.__getattribute__")))
    (gg5 : PySem.W.findIn K (.ref zc5) "__getattr__" = some none)
    (gc5 : PySem.W.findIn K (.ref zc5) "__class__" = some (some (.builtin "object.__class__")))
    (aC6 : PySem.W.nsIn K mainGlobals "ZeroDivisor" = some (some (.ref zc6)))
    (x6 : K.lookup zc6 = some (excClassObj nm6 qq6 zc6 N6 bs6 [.ref cL, .type "ValueError", .type "Exception", .type "BaseException", .type "object"] true sn6 sb6 ab6 co6 dd6 uu6 uv6 uw6 uy6 uz6 "ValueError.__new__"))
    (ga6 : PySem.W.findIn K (.ref zc6) "__getattribute__" = some (some (.builtin "BaseException.__getattribute__")))
    (gg6 : PySem.W.findIn K (.ref zc6) "__getattr__" = some none)
    (gc6 : PySem.W.findIn K (.ref zc6) "__class__" = some (some (.builtin "object.__class__")))
    (kC4 : PySem.W.keepIn K (.ref zc4) = true)
    (e4 : PySem.W.excIn K zc4 [.type "ValueError", .type "Exception", .type "BaseException", .type "object"] "ValueError.__new__" = true)
    (nd : (cL :: [zc1, zc2, zc3, zc4, zc5, zc6]).Nodup)
    (aP : PySem.W.nsIn K mainGlobals "power" = some (some (.ref fP)))
    (lP : K.lookup fP = some ⟨ocP, odP, .func (PySem.W.fnOf "power" "power" (defArgs sPow) (defBody sPow) (defScope sPow) (.ref fT) kVP dcP pmP anP cdP ctP), slP⟩)
    (cP : PySem.W.codeIn K cdP "power" = true)
    (kP : PySem.W.keepIn K (.ref fP) = true)
    (tP : K.lookup fT = some ⟨.type "tuple", dT, .seq #[.int 1 tk] mT, slT⟩)
    (vB : PySem.W.nsIn K mainGlobals "COEFFICIENT_BOUND" = some (some (.int 1000000000000000000 tB)))
    (vM : PySem.W.nsIn K mainGlobals "MOST_COEFFICIENTS" = some (some (.int 64 tM)))
    (vC : PySem.W.nsIn K mainGlobals "LONGEST_COEFFICIENT" = some (some (.int 18 tC)))
    (vE : PySem.W.nsIn K mainGlobals "LONGEST_EXPONENT" = some (some (.int 2 tE)))
    (vD : PySem.W.nsIn K mainGlobals "DIGITS" = some (some (.str "0123456789" tD))) :
    ∃ fd : FuncData, (∀ (s : Shared) (u : Value), BindsTo s fd ⟨[u], []⟩ [("script", u)]) ∧ ∀ base : Heap, K.In base → base.Ns mainGlobals mg → FnG P w K mg base 7 fa fd ["script"] (spLaw K) := by
  have e := hfa.symm.trans (PySem.W.mg_of X G a23)
  cases e
  have F1 := fun_mk (st := sIsC) l1 c1 k1
  have b1 := F1.binds (ps := ["thing"]) fun _ _ _ _ _ _ us hl => match us, hl with | [_], _ => rfl
  have g1 := PySem.W.mg_of X G a1
  have F2 := fun_mk (st := sIsO) l2 c2 k2
  have b2 := F2.binds (ps := ["thing"]) fun _ _ _ _ _ _ us hl => match us, hl with | [_], _ => rfl
  have g2 := PySem.W.mg_of X G a2
  have F3 := fun_mk (st := sPad) l3 c3 k3
  have b3 := F3.binds (ps := ["first", "second"]) fun _ _ _ _ _ _ us hl => match us, hl with | [_, _], _ => rfl
  have g3 := PySem.W.mg_of X G a3
  have F4 := fun_mk (st := sFmT) l4 c4 k4
  have b4 := F4.binds (ps := ["exponent", "coefficient"]) fun _ _ _ _ _ _ us hl => match us, hl with | [_, _], _ => rfl
  have g4 := PySem.W.mg_of X G a4
  have F5 := fun_mk (st := sFmO) l5 c5 k5
  have b5 := F5.binds (ps := ["ordinal"]) fun _ _ _ _ _ _ us hl => match us, hl with | [_], _ => rfl
  have g5 := PySem.W.mg_of X G a5
  have F6 := fun_mk (st := sPaN) l6 c6 k6
  have b6 := F6.binds (ps := ["text", "longest"]) fun _ _ _ _ _ _ us hl => match us, hl with | [_, _], _ => rfl
  have g6 := PySem.W.mg_of X G a6
  have F7 := fun_mk (st := sPaT) l7 c7 k7
  have b7 := F7.binds (ps := ["text"]) fun _ _ _ _ _ _ us hl => match us, hl with | [_], _ => rfl
  have g7 := PySem.W.mg_of X G a7
  have F8 := fun_mk (st := sPaO) l8 c8 k8
  have b8 := F8.binds (ps := ["text"]) fun _ _ _ _ _ _ us hl => match us, hl with | [_], _ => rfl
  have g8 := PySem.W.mg_of X G a8
  have F9 := fun_mk (st := sScr) l9 c9 k9
  have b9 := F9.binds (ps := ["number", "index"]) fun _ _ _ _ _ _ us hl => match us, hl with | [_, _], _ => rfl
  have g9 := PySem.W.mg_of X G a9
  have F10 := fun_mk (st := sDrw) l10 c10 k10
  have b10 := F10.binds (ps := ["script"]) fun _ _ _ _ _ _ us hl => match us, hl with | [_], _ => rfl
  have g10 := PySem.W.mg_of X G a10
  have F11 := fun_mk (st := sNxt) l11 c11 k11
  have b11 := F11.binds (ps := ["source", "bound"]) fun _ _ _ _ _ _ us hl => match us, hl with | [_, _], _ => rfl
  have g11 := PySem.W.mg_of X G a11
  have F12 := fun_mk (st := sCho) l12 c12 k12
  have b12 := F12.binds (ps := ["source", "items"]) fun _ _ _ _ _ _ us hl => match us, hl with | [_, _], _ => rfl
  have g12 := PySem.W.mg_of X G a12
  have F13 := fun_mk (st := sIde) l13 c13 k13
  have b13 := F13.binds (ps := ["found", "expected"]) fun _ _ _ _ _ _ us hl => match us, hl with | [_, _], _ => rfl
  have g13 := PySem.W.mg_of X G a13
  have F14 := fun_mk (st := sRnd) l14 c14 k14
  have b14 := F14.binds (ps := ["source", "degrees", "most"]) fun _ _ _ _ _ _ us hl => match us, hl with | [_, _, _], _ => rfl
  have g14 := PySem.W.mg_of X G a14
  have F15 := fun_mk (st := sTrm) l15 c15 k15
  have b15 := F15.binds (ps := ["ordinal"]) fun _ _ _ _ _ _ us hl => match us, hl with | [_], _ => rfl
  have g15 := PySem.W.mg_of X G a15
  have F16 := fun_mk (st := sFrm) l16 c16 k16
  have b16 := F16.binds (ps := ["terms"]) fun _ _ _ _ _ _ us hl => match us, hl with | [_], _ => rfl
  have g16 := PySem.W.mg_of X G a16
  have F17 := fun_mk (st := sCan) l17 c17 k17
  have b17 := F17.binds (ps := ["ordinal"]) fun _ _ _ _ _ _ us hl => match us, hl with | [_], _ => rfl
  have g17 := PySem.W.mg_of X G a17
  have F18 := fun_mk (st := sPla) l18 c18 k18
  have b18 := F18.binds (ps := ["text", "least", "bound"]) fun _ _ _ _ _ _ us hl => match us, hl with | [_, _, _], _ => rfl
  have g18 := PySem.W.mg_of X G a18
  have F19 := fun_mk (st := sTof) l19 c19 k19
  have b19 := F19.binds (ps := ["text"]) fun _ _ _ _ _ _ us hl => match us, hl with | [_], _ => rfl
  have g19 := PySem.W.mg_of X G a19
  have F20 := fun_mk (st := sPar) l20 c20 k20
  have b20 := F20.binds (ps := ["text"]) fun _ _ _ _ _ _ us hl => match us, hl with | [_], _ => rfl
  have g20 := PySem.W.mg_of X G a20
  have F21 := fun_mk (st := sOut) l21 c21 k21
  have b21 := F21.binds (ps := ["text"]) fun _ _ _ _ _ _ us hl => match us, hl with | [_], _ => rfl
  have g21 := PySem.W.mg_of X G a21
  have F22 := fun_mk (st := sChg) l22 c22 k22
  have b22 := F22.binds (ps := ["source", "text"]) fun _ _ _ _ _ _ us hl => match us, hl with | [_, _], _ => rfl
  have g22 := PySem.W.mg_of X G a22
  have F23 := fun_mk (st := sLaw) l23 c23 k23
  have b23 := F23.binds (ps := ["script"]) fun _ _ _ _ _ _ us hl => match us, hl with | [_], _ => rfl
  have g23 := PySem.W.mg_of X G a23
  have m_range := PySem.W.mg_none_of X G z0
  have m_len := PySem.W.mg_none_of X G z1
  have m_isinstance := PySem.W.mg_none_of X G z2
  have m_enumerate := PySem.W.mg_none_of X G z3
  have m_abs := PySem.W.mg_none_of X G z4
  have m_tuple := PySem.W.mg_none_of X G z5
  have m_bool := PySem.W.mg_none_of X G z6
  have m_int := PySem.W.mg_none_of X G z7
  have m_str := PySem.W.mg_none_of X G z8
  have m_repr := PySem.W.mg_none_of X G z9
  have m_zip := PySem.W.mg_none_of X G z10
  have m_ValueError := PySem.W.mg_none_of X G z11
  refine ⟨PySem.W.fnOf "law" "law" (defArgs sLaw) (defBody sLaw) (defScope sLaw) .none kV23 dc23 pm23 an23 cd23 ct23, fun s u => .of_eq rfl, fun base _ _ => ?_⟩
  have gL := PySem.W.mg_of X G lG
  have h1 := PySem.W.mg_of X G aC1
  have Q1 : ClsF K cL zc1 := ⟨⟨_, _, _, _, _, _, _, _, _, _, _, _, _, _, x1⟩, ga1, gg1, gc1⟩
  have h2 := PySem.W.mg_of X G aC2
  have Q2 : ClsF K cL zc2 := ⟨⟨_, _, _, _, _, _, _, _, _, _, _, _, _, _, x2⟩, ga2, gg2, gc2⟩
  have h3 := PySem.W.mg_of X G aC3
  have Q3 : ClsF K cL zc3 := ⟨⟨_, _, _, _, _, _, _, _, _, _, _, _, _, _, x3⟩, ga3, gg3, gc3⟩
  have h4 := PySem.W.mg_of X G aC4
  have Q4 : ClsF K cL zc4 := ⟨⟨_, _, _, _, _, _, _, _, _, _, _, _, _, _, x4⟩, ga4, gg4, gc4⟩
  have h5 := PySem.W.mg_of X G aC5
  have Q5 : ClsF K cL zc5 := ⟨⟨_, _, _, _, _, _, _, _, _, _, _, _, _, _, x5⟩, ga5, gg5, gc5⟩
  have h6 := PySem.W.mg_of X G aC6
  have Q6 : ClsF K cL zc6 := ⟨⟨_, _, _, _, _, _, _, _, _, _, _, _, _, _, x6⟩, ga6, gg6, gc6⟩
  have AQ : ∀ D ∈ [zc1, zc2, zc3, zc4, zc5, zc6], ClsF K cL D := by
    intro D hD
    simp at hD
    rcases hD with rfl | rfl | rfl | rfl | rfl | rfl
    · exact Q1
    · exact Q2
    · exact Q3
    · exact Q4
    · exact Q5
    · exact Q6
  have KV := kv_of AQ lT lD nd wn wt
  have exI : PySem.W.exmOne K (.ref zc4) (.ref cL) = some true := PySem.W.exm_ref lB lD lT ((Q4.sub (.ref cL)).trans (by simp))
  have TR : Err K mg "InvalidOrdinal" zc4 := ⟨h4, e4, kC4, (Q4.sub _).trans (by simp), Q4.ty⟩
  have FP : FunD K "power" "power" (defArgs sPow) (defBody sPow) (defScope sPow) [.int 1] [] fP _ := ⟨⟨ocP, odP, .ref fT, kVP, dcP, pmP, anP, cdP, ctP, slP, rfl, lP, cP, .inr ⟨by simp, fT, _, [.int 1 tk], mT, rfl, tP, rfl, .cons ⟨tk, rfl⟩ .nil⟩, .inl rfl⟩, kP⟩
  have gP := PySem.W.mg_of X G aP
  obtain ⟨d2, v2, bP⟩ := FP.binds1 (ps := ["exponent", "coefficient"]) 2 1 (by simp) rfl fun T kV doc pm an cdv ct us its h1 h2 => match us, its, h1, h2 with | [_, _], [_], _, _ => ⟨_, rfl, rfl⟩
  cases v2
  have GB := PySem.W.mg_of X G vB
  have GM := PySem.W.mg_of X G vM
  have GV := PySem.W.mg_of X G vC
  have GE := PySem.W.mg_of X G vE
  have GD := PySem.W.mg_of X G vD
  have GN : FnOk P w K mg base CX0 2 f11 _ ["source", "bound"] spNxt := ok_nxt (k := 0) F11 m_len F9 b9 g9 m_range
  have GC : FnOk P w K mg base CX0 3 f12 _ ["source", "items"] (spCho K) := ok_cho (k := 0) F12 m_len GN k11 b11 g11
  have GCS : FnOk P w K mg base CX0 3 f12 _ ["source", "items"] spChS := ok_chS (k := 2) F12 m_len GN k11 b11 g11
  have GR : FnOk P w K mg base CX0 4 f14 _ ["source", "degrees", "most"] (spRnd K) := ok_rnd (k := 0) F14 m_range m_tuple (GN.mono (by decide)) k11 b11 g11 GC k12 b12 g12
  have GT : FnOk P w K mg base CX0 1 f15 _ ["ordinal"] (spTrm K) := ok_trm (k := 0) F15 m_len m_enumerate
  have GF : FnOk P w K mg base CX0 1 f16 _ ["terms"] (spFrm K) := ok_frm (k := 0) F16 m_len m_tuple
  have GK : FnOk P w K mg base CX0 2 f17 _ ["ordinal"] (spCan K) := ok_can (k := 0) F17 m_str GT k15 b15 g15
  have GX : FnOk P w K mg base CX0 4 f22 _ ["source", "text"] spChg := ok_chg (k := 3) F22 m_len (GN.mono (by decide)) k11 b11 g11 GCS k12 b12 g12
  have HC : FnOk P w K mg base CX0 1 f1 _ ["thing"] spIsC := ok_isC (k := 0) F1 m_isinstance m_bool m_int GB
  have HO : FnOk P w K mg base CX0 2 f2 _ ["thing"] (spIsO K) := ok_isO (k := 0) F2 m_isinstance m_tuple m_len GM HC k1 b1 g1
  have JA : FnOk P w K mg base CX0 1 f3 _ ["first", "second"] (spPad K) := ok_pad (k := 0) F3 m_len
  have JP : FnOk P w K mg base CX0 1 fP _ ["exponent", "coefficient"] (spPow K) := ok_pow (k := 0) FP
  have HT : FnOk P w K mg base CX0 1 f4 _ ["exponent", "coefficient"] spFmT := ok_fmT (k := 0) F4 m_str
  have HF : FnOk P w K mg base CX0 2 f5 _ ["ordinal"] (spFmO K) := ok_fmO (k := 0) F5 m_len m_enumerate HT k4 b4 g4
  have HN : FnOk P w K mg base (L2.CX P w) 1 f6 _ ["text", "longest"] (spPaN zc4) := ok_paN (k := 0) F6 TR m_len m_int GD
  have HP : FnOk P w K mg base (L2.CX P w) 2 f7 _ ["text"] (spPaT zc4) := ok_paT (k := 0) F7 TR GV GE HN k6 b6 g6
  have HW : FnOk P w K mg base (L2.CX P w) 5 f8 _ ["text"] (spPaO K zc4) := ok_paO (k := 0) F8 TR (HP.mono (by decide)) k7 b7 g7 (JA.mono (by decide)) k3 b3 g3 (JP.mono (by decide)) kP bP gP (HO.mono (by decide)) k2 b2 g2 (HF.mono (by decide)) k5 b5 g5
  have LO : FnOk P w K mg base CX0 6 f21 _ ["text"] (spOut K) := ok_out (k := 5) F21 gL m_isinstance m_tuple m_ValueError h1 h2 h3 h4 h5 h6 KV exI HW k8 b8 g8
  have LP : FnOk P w K mg base CX0 1 f18 _ ["text", "least", "bound"] spPla := ok_pla (k := 0) F18 m_len m_int
  have LT : FnOk P w K mg base CX0 2 f19 _ ["text"] spTof := ok_tof (k := 1) F19 LP k18 b18 g18
  have LR : FnOk P w K mg base CX0 3 f20 _ ["text"] (spPar K) := ok_par (k := 2) F20 m_zip LT k19 b19 g19 (GF.mono (by decide)) k16 b16 g16
  refine ok_law (k := 6) F23 ?_
  exact {
    drw := ⟨f10, _, (ok_drw (k := 0) F10 m_enumerate m_abs).mono (by decide), g10, k10, b10⟩
    cho := ⟨f12, _, GC.mono (by decide), g12, k12, b12⟩
    rnd := ⟨f14, _, GR.mono (by decide), g14, k14, b14⟩
    can := ⟨f17, _, GK.mono (by decide), g17, k17, b17⟩
    chg := ⟨f22, _, GX.mono (by decide), g22, k22, b22⟩
    outc := ⟨f21, _, LO, g21, k21, b21⟩
    pars := ⟨f20, _, LR.mono (by decide), g20, k20, b20⟩
    ide := ⟨f13, _, (ok_ide (k := 0) F13 m_repr).up (by decide), g13, k13, b13⟩
    range := m_range
    str := m_str }
end Lim
open PySem PySem.W PyProof.Rows
set_option maxHeartbeats 0 in
theorem PySem.Challenge.cw_limitrun_k06_texts_that_are_not_ordinals_holds : PySem.Challenge.rw_limitrun_k06_texts_that_are_not_ordinals.Holds := by
  w_on; o_law; k_head; (case hw => w_witness2)
  k_fill
  refine Lim.walk_g (l := PySem.Challenge.rw_limitrun_k06_texts_that_are_not_ordinals) (n := 63) (k := 7) (x := "script") (sp := Lim.spLaw) rfl (by decide) rfl ⟨rfl, by decide, by decide⟩ (fun w h Y => PySem.W.kIn_of Y) ?F (fun _ _ a ns hl _ hS => ⟨a, ns, rfl, hS, hl, fun _ => rfl⟩)
  case F =>
    intro w mg fa h KX G hmg
    refine' Lim.all_mk KX G hmg ?a1 ?l1 ?c1 ?k1 ?a2 ?l2 ?c2 ?k2 ?a3 ?l3 ?c3 ?k3 ?a4 ?l4 ?c4 ?k4 ?a5 ?l5 ?c5 ?k5 ?a6 ?l6 ?c6 ?k6 ?a7 ?l7 ?c7 ?k7 ?a8 ?l8 ?c8 ?k8 ?a9 ?l9 ?c9 ?k9 ?a10 ?l10 ?c10 ?k10 ?a11 ?l11 ?c11 ?k11 ?a12 ?l12 ?c12 ?k12 ?a13 ?l13 ?c13 ?k13 ?a14 ?l14 ?c14 ?k14 ?a15 ?l15 ?c15 ?k15 ?a16 ?l16 ?c16 ?k16 ?a17 ?l17 ?c17 ?k17 ?a18 ?l18 ?c18 ?k18 ?a19 ?l19 ?c19 ?k19 ?a20 ?l20 ?c20 ?k20 ?a21 ?l21 ?c21 ?k21 ?a22 ?l22 ?c22 ?k22 ?a23 ?l23 ?c23 ?k23 ?z0 ?z1 ?z2 ?z3 ?z4 ?z5 ?z6 ?z7 ?z8 ?z9 ?z10 ?z11 ?lG ?lT ?lD ?lB ?wn ?wt ?aC1 ?x1 ?ga1 ?gg1 ?gc1 ?aC2 ?x2 ?ga2 ?gg2 ?gc2 ?aC3 ?x3 ?ga3 ?gg3 ?gc3 ?aC4 ?x4 ?ga4 ?gg4 ?gc4 ?aC5 ?x5 ?ga5 ?gg5 ?gc5 ?aC6 ?x6 ?ga6 ?gg6 ?gc6 ?kC4 ?e4 ?nd ?aP ?lP ?cP ?kP ?tP ?vB ?vM ?vC ?vE ?vD
    (case a1 => k_is)
    (case l1 => k_is)
    (case c1 => k_is)
    (case k1 => k_is)
    (case a2 => k_is)
    (case l2 => k_is)
    (case c2 => k_is)
    (case k2 => k_is)
    (case a3 => k_is)
    (case l3 => k_is)
    (case c3 => k_is)
    (case k3 => k_is)
    (case a4 => k_is)
    (case l4 => k_is)
    (case c4 => k_is)
    (case k4 => k_is)
    (case a5 => k_is)
    (case l5 => k_is)
    (case c5 => k_is)
    (case k5 => k_is)
    (case a6 => k_is)
    (case l6 => k_is)
    (case c6 => k_is)
    (case k6 => k_is)
    (case a7 => k_is)
    (case l7 => k_is)
    (case c7 => k_is)
    (case k7 => k_is)
    (case a8 => k_is)
    (case l8 => k_is)
    (case c8 => k_is)
    (case k8 => k_is)
    (case a9 => k_is)
    (case l9 => k_is)
    (case c9 => k_is)
    (case k9 => k_is)
    (case a10 => k_is)
    (case l10 => k_is)
    (case c10 => k_is)
    (case k10 => k_is)
    (case a11 => k_is)
    (case l11 => k_is)
    (case c11 => k_is)
    (case k11 => k_is)
    (case a12 => k_is)
    (case l12 => k_is)
    (case c12 => k_is)
    (case k12 => k_is)
    (case a13 => k_is)
    (case l13 => k_is)
    (case c13 => k_is)
    (case k13 => k_is)
    (case a14 => k_is)
    (case l14 => k_is)
    (case c14 => k_is)
    (case k14 => k_is)
    (case a15 => k_is)
    (case l15 => k_is)
    (case c15 => k_is)
    (case k15 => k_is)
    (case a16 => k_is)
    (case l16 => k_is)
    (case c16 => k_is)
    (case k16 => k_is)
    (case a17 => k_is)
    (case l17 => k_is)
    (case c17 => k_is)
    (case k17 => k_is)
    (case a18 => k_is)
    (case l18 => k_is)
    (case c18 => k_is)
    (case k18 => k_is)
    (case a19 => k_is)
    (case l19 => k_is)
    (case c19 => k_is)
    (case k19 => k_is)
    (case a20 => k_is)
    (case l20 => k_is)
    (case c20 => k_is)
    (case k20 => k_is)
    (case a21 => k_is)
    (case l21 => k_is)
    (case c21 => k_is)
    (case k21 => k_is)
    (case a22 => k_is)
    (case l22 => k_is)
    (case c22 => k_is)
    (case k22 => k_is)
    (case a23 => k_is)
    (case l23 => k_is)
    (case c23 => k_is)
    (case k23 => k_is)
    (case z0 => k_is)
    (case z1 => k_is)
    (case z2 => k_is)
    (case z3 => k_is)
    (case z4 => k_is)
    (case z5 => k_is)
    (case z6 => k_is)
    (case z7 => k_is)
    (case z8 => k_is)
    (case z9 => k_is)
    (case z10 => k_is)
    (case z11 => k_is)
    (case lG => k_is)
    (case lT => k_is)
    (case lD => k_is)
    (case lB => k_is)
    (case wn => k_is)
    (case wt => k_is)
    (case aC1 => k_is)
    (case x1 => k_is)
    (case ga1 => k_is)
    (case gg1 => k_is)
    (case gc1 => k_is)
    (case aC2 => k_is)
    (case x2 => k_is)
    (case ga2 => k_is)
    (case gg2 => k_is)
    (case gc2 => k_is)
    (case aC3 => k_is)
    (case x3 => k_is)
    (case ga3 => k_is)
    (case gg3 => k_is)
    (case gc3 => k_is)
    (case aC4 => k_is)
    (case x4 => k_is)
    (case ga4 => k_is)
    (case gg4 => k_is)
    (case gc4 => k_is)
    (case aC5 => k_is)
    (case x5 => k_is)
    (case ga5 => k_is)
    (case gg5 => k_is)
    (case gc5 => k_is)
    (case aC6 => k_is)
    (case x6 => k_is)
    (case ga6 => k_is)
    (case gg6 => k_is)
    (case gc6 => k_is)
    (case kC4 => k_is)
    (case e4 => k_exc)
    (case nd => decide)
    (case aP => k_is)
    (case lP => k_is)
    (case cP => k_is)
    (case kP => k_is)
    (case tP => k_is)
    (case vB => k_is)
    (case vM => k_is)
    (case vC => k_is)
    (case vE => k_is)
    (case vD => k_is)
#print axioms PySem.Challenge.cw_limitrun_k06_texts_that_are_not_ordinals_holds
