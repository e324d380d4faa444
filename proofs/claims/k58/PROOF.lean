import PyProof.Rows.All
import Wide.All
import OpenK.AllK
import Wide.FinOn
import HandS.Exc
import HandS.List
import HandS.ExcIs
import HandS.IsInst
import PyProof.EqKinds
import KE.KExcIs
import HandS.Words
import HandS.ExcInit
import HandS.ExcValue
import HandS.ExcField
import HandS.ForMost
import HandS.Wide
import HandS.RaiseMore
import PyProof.ReprRoads
import PyProof.ReprLen
import HandS.Evl
import HandS.Codes
import HandS.TupMul
import HandS.TupAny
import KE.GoesEnum
import HandS.Defaults
import HandS.FStrTup
import HandS.More
import HandS.Dict
import PyProof.DictKinds
import KE.KDictZip
import HandS.FStr
import HandS.WordsExc
import HandS.TryOnly
import HandS.Conv
import PySem.Challenge.RW_limitrun_k58_limit_rules_exchanged
set_option Elab.async false
set_option linter.all false
set_option maxRecDepth 100000
set_option maxHeartbeats 2000000
namespace Lim
open PySem PySem.Spec PyProof.Rows L2
/-- an error that a name still holds behind its suite -/
def Kept (cls : Value) (d : Option Addr) (a : Addr) : HO := .ext fun h => ∃ oe vs, h.get? a = some oe ∧ Zc cls d oe ∧ oe.data = .fields vs
theorem kept_ok {P : Program} {w : World} {H : Hp} {h : Heap} {a : Addr} {cls : Value} {d : Option Addr} {oe : Obj} {vs : Array Value} (e : h.get? a = some oe) (z : Zc cls d oe) (f : oe.data = .fields vs) : ObjOk P w H h a (Kept cls d a) :=
  ⟨⟨oe, vs, e, z, f⟩, ⟨oe, e⟩, fun _ _ ⟨o, v, q, r⟩ k => ⟨o, v, k o q, r⟩⟩
section
variable {X : Cx} {pins : List (Addr × Obj)} {σ : L2.St} {H : Hp} {s : Shared} {a : Addr} {cls : Value} {d : Option Addr}
theorem Inv_track {oe : Obj} {vs : Array Value} (I : Inv X pins σ H s) (e : s.heap.get? a = some oe) (z : Zc cls d oe) (f : oe.data = .fields vs) (n : H a = none) (h0 : X.s_0.heap.get? a = none)
    (nL : a ≠ X.env.locals) (nc : ∀ x c, X.env.cells.lookup x = some c → c ≠ a) (np : ∀ p ∈ X.pn ++ pins, p.1 ≠ a) : Inv X pins σ (upd H a (Kept cls d a)) s := by
  have oth : ∀ {b : Addr} {o : HO}, H b = some o → b ≠ a := fun {b o} q y => by
    rw [y, n] at q
    cases q
  refine ⟨I.ok, I.os, I.bare, ⟨I.base.keep, I.base.slot, fun b o q m hx => ?_, I.base.there, fun b xs q => ?_, fun b o u q => ?_, fun b ps q => ?_⟩, I.loc, I.cell, ?_, fun x c q => ?_, fun p hp => ?_, fun b u q => ?_, I.len⟩
  · rw [upd_ne (fun y => by rw [y, h0] at q; cases q)]
    exact I.base.free b o q m hx
  · have r := I.base.tups b xs q
    rw [upd_ne (oth r)]
    exact r
  · have r := I.base.frzs b o u q
    rw [upd_ne (oth r)]
    exact r
  · obtain ⟨more, r⟩ := I.base.tbls b ps q
    exact ⟨more, by rw [upd_ne (oth r)]; exact r⟩
  · rw [upd_ne (Ne.symm nL)]
    exact I.free
  · rw [upd_ne (nc x c q)]
    exact I.freeC x c q
  · obtain ⟨p1, p2, p3⟩ := I.pin p hp
    exact ⟨p1, by rw [upd_ne (np p hp)]; exact p2, p3⟩
  · by_cases hb : b = a
    · subst hb
      rw [upd_same] at q
      cases q
      exact kept_ok e z f
    · rw [upd_ne hb] at q
      refine (I.hok b u q).stay (fun _ _ _ r => r) (fun c r => ?_) fun c xs r => ?_
      · rw [upd_ne (oth r)]
        exact r
      · rw [upd_ne (oth r)]
        exact r
end
/-- what 'except x as n' wishes, its error tracked behind the suite -/
def wKeep (K : PySem.W.Frag) (c : Value) (i : Nat) (ts : Addr → Value → Option Addr → TS) (W0 : WX) (D : Ends) : WX := fun cls d σ H =>
  ∃ b, PySem.W.exmOne K cls c = some b ∧
    (b = true → ∀ a, H a = none → ts a cls d { nx := fun σ1 H1 => H1 a = none → D.nx (σ1.set i none) (upd H1 a (Kept cls d a)), rt := D.rt, bk := fun σ1 H1 => D.bk (σ1.set i none) H1, ct := fun σ1 H1 => D.ct (σ1.set i none) H1 } (σ.set i (some (.ref a))) H) ∧
    (b = false → W0 cls d σ H)
section
variable {X : Cx} {x n : Str} {c : Value} {i : Nat} {body suite : List Stmt} {b₀ : Stmt} {np pos pos' : Pos} {tb : WX → TS} {ts : Addr → Value → Option Addr → TS} {W0 : WX}
theorem ps_try_keep (hx : X.ex = []) (hs : X.stack = X.env :: X.outer) (hf : X.env.frame = some X.env.locals) (hN : X.N.Nodup) (hi : X.N[i]? = some n) (hl : X.env.kindOf n = some .local) (hc : Names X x c) (tk : Takes X W0)
    (hb : ∀ (W : WX) (pn : List (Addr × Obj)) (xe : Value → Shared → Prop), Takes (X.tr pn xe) W → PassesOwn (model X.prog X.w) X.A X.env xe → PSs (X.tr pn xe) body (tb W))
    (hu : ∀ (a : Addr) (oe : Obj) (cls : Value) (d : Option Addr) (pn : List (Addr × Obj)), Zc cls d oe → (∃ vs, oe.data = .fields vs) → PSs (X.suite a ((a, oe) :: pn)) (b₀ :: suite) (ts a cls d)) :
    PS X (.Try body [.ExceptHandler (some (.Name x np)) (some n) (b₀ :: suite) pos'] [] [] pos) (fun D σ H => tb (wKeep X.K c i ts W0 D) D σ H) := by
  refine ⟨fun pins s σ H D I h => ?_⟩
  have ok := I.ok
  have afr : X.A.frames = some (X.env :: X.outer) := ok.frames.trans (by rw [hs])
  let hand : ExceptHandler := .ExceptHandler (some (.Name x np)) (some n) (b₀ :: suite) pos'
  let xe : Value → Shared → Prop := fun e t => wpAny (model X.prog X.w) X.A (noteFrame e X.env) (fun _ t => wpAny (model X.prog X.w) X.A (setFlight e none) (fun _ t => wpAny (model X.prog X.w) X.A (handleBy e X.env [hand]) (SP X pins D) X.xe t) X.xe t) X.xe t
  have catch_ : ∀ u t, XE (X.tr (X.pn ++ pins) xe) (wKeep X.K c i ts W0 D) u t → xe u t := by
    rintro u t ⟨a, B, sI, pi, τ, G, cls, d, rfl, J0, nb, up, sky, na, os, ag, b, hb1, hyes, hno⟩
    have J : Inv X pins τ G sI := J0.ofTry ok
    have sk : Sky B (X.env :: X.outer) a (Zc cls d) X.env.locals t.heap := hs ▸ sky
    refine Sky.land Zc.steady afr hf sk fun h3 fl up3 => ?_
    have stB : B.StaysIn h3 := fl.1
    have nB : B.get? a = none := fl.2.1
    have J3 : Inv X pins τ G { t with heap := h3 } := J.landed nb stB (up.trans up3) os ag
    obtain ⟨o3, v3, g3, z3, f3⟩ := fl.there
    have nfr : a ∉ frs (X.env :: X.outer) := fun hm => by
      obtain ⟨_, o', q, hnf⟩ := fl.2.2.1.mem hm
      rw [g3] at q
      cases q
      exact hnf _ f3
    have nL : a ≠ X.env.locals := fun z => nfr (List.mem_filterMap.mpr ⟨X.env, List.mem_cons_self, by rw [hf, z]⟩)
    have nF : a ∉ X.fs := fun hm => by
      obtain ⟨e, he, q⟩ := List.mem_filterMap.mp hm
      exact nfr (List.mem_filterMap.mpr ⟨e, List.mem_cons_of_mem _ he, q⟩)
    -- a stood nowhere before
    have nI : sI.heap.get? a = none := by
      cases q : sI.heap.get? a with
      | none => rfl
      | some o =>
        have := nb a o q (by rw [show (X.tr (X.pn ++ pins) xe).stack = X.env :: X.outer from hs]; exact nfr)
        rw [nB] at this
        cases this
    have n0 : X.s_0.heap.get? a = none := by
      cases q : X.s_0.heap.get? a with
      | none => rfl
      | some o =>
        obtain ⟨o', r⟩ := J.base.there a o q (by rw [hx]; exact List.not_mem_nil)
        rw [nI] at r
        cases r
    have nC : ∀ y k, X.env.cells.lookup y = some k → k ≠ a := fun y k q z => by
      obtain ⟨v, o, r, _⟩ := J.cell y k q
      rw [z, nI] at r
      cases r
    have nP : ∀ p ∈ X.pn ++ pins, p.1 ≠ a := fun p hp z => by
      have := (J.pin p hp).1
      rw [z, nI] at this
      cases this
    have S3 := J3.suite g3 f3 na nL nF
    refine wpAny_handleBy_cons (codeAny_handlers_test ?_) (fun q => by cases q)
    have LT : PySem.W.Looks (model X.prog X.w) h3 (typeOf (.ref a)) cls := fun A Q E s k q => wpAny_typeOf_ref (k _ _ g3) (z3.1.symm ▸ q)
    have LM := PySem.W.exm_one (M := model X.prog X.w) J3.kIn LT hb1
    have test : ∀ {Q : Value → Shared → Prop} {E : Value → Shared → Prop}, Q c { t with heap := h3 } → wpAny (model X.prog X.w) (X.A.mark (some (.ref a))) (eval (.Name x np) X.env) Q E { t with heap := h3 } := fun {Q E} q => by
      rcases hc with ⟨hg, hdb, hm | ⟨hm, hv, hnn⟩⟩
      · exact ld_glob (X := X.suite a ((a, o3) :: (X.pn ++ pins))) S3 hg hm q hdb
      · exact ld_blt (X := X.suite a ((a, o3) :: (X.pn ++ pins))) S3 hg hm hv q hnn hdb
    refine test (LM.here ?_)
    cases b with
    | false =>
      show wpAny _ X.A (handleBy (.ref a) X.env []) _ _ _
      refine wpAny_handleBy_nil ?_
      obtain ⟨_, _, _, oe, vs, T, oT, ts', he, hz, hd, h1, hr⟩ := id fl
      unfold PySem.passOn
      refine wpAny_bind (wpAny_field he hd h1 ?_)
      rw [if_neg (show ¬ ((Value.ref T == Value.none) = true) by simp)]
      have fin : wpAny (model X.prog X.w) X.A (setFlight (.ref a) X.env.frame) (fun _ t4 => wpAny (model X.prog X.w) X.A (throw (.ref a) : Sem Flow) (SP X pins D) X.xe t4) X.xe { t with heap := h3 } := by
        rw [hf]
        refine HandSPX.setFlight_upZ fl fun h4 hh4 up4 => wpAny_throw (tk _ _ ?_)
        exact ⟨a, B, sI, pins, τ, G, cls, d, rfl, J, nb, (up.trans up3).trans up4, .inr (.inr (hs ▸ hh4)), na, os, ag, hno rfl⟩
      first
        | exact wpAny_bind fin
        | exact wpAny_bind (wpAny_pure (wpAny_bind fin))
    | true =>
      refine codeAny_handlers_suite_as ?_
      refine HandSPX.lands_againZ fl fun h4 fl4 up4 => ?_
      have J4 : Inv X pins τ G { t with heap := h4 } := J.landed nb fl4.1 ((up.trans up3).trans up4) os ag
      obtain ⟨o4, v4, g4, z4, f4⟩ := fl4.there
      have S4 := J4.suite g4 f4 na nL nF
      refine store_ok (X := X.suite a ((a, o4) :: (X.pn ++ pins))) (v := .ref a) S4 hN hi (.inl hl) rfl (fun s5 S5 => ?_) (.inr hl)
      refine wpAny_mono ((hu a o4 cls d (X.pn ++ pins) z4 ⟨_, f4⟩).run [] s5 _ G _ S5 (hyes rfl a na)) (fun f s6 hsp => ?_) fun _ _ z => z.elim
      have off : ∀ {σ6 : L2.St} {H6 : Hp} {Q : Shared → Prop}, Inv (X.suite a ((a, o4) :: (X.pn ++ pins))) [] σ6 H6 s6 → (∀ s7, Inv (X.suite a ((a, o4) :: (X.pn ++ pins))) [] (σ6.set i none) H6 s7 → Q s7) →
          wpAny (model X.prog X.w) X.A (do bindName X.env n .none; unbindBehindTheSuite X.env n pos') (fun _ s7 => Q s7) X.xe s6 := fun S6 hq => gone_ok (X := X.suite a ((a, o4) :: (X.pn ++ pins))) S6 hN hi hl hq
      cases f with
      | next =>
        obtain ⟨σ6, H6, S6, q6⟩ := hsp
        refine off S6 fun s7 S7 => ?_
        obtain ⟨p1, p2, _⟩ := S7.pin (a, o4) (List.mem_append_left _ List.mem_cons_self)
        exact ⟨_, _, Inv_track (S7.unsuite ok) p1 z4 f4 p2 n0 nL nC nP, q6 p2⟩
      | brk =>
        obtain ⟨σ6, H6, S6, q6⟩ := hsp
        exact off S6 fun s7 S7 => ⟨_, _, S7.unsuite ok, q6⟩
      | cont =>
        obtain ⟨σ6, H6, S6, q6⟩ := hsp
        exact off S6 fun s7 S7 => ⟨_, _, S7.unsuite ok, q6⟩
      | ret u =>
        obtain ⟨v6, σ6, H6, S6, r6, q6⟩ := hsp
        exact off S6 fun s7 S7 => ⟨_, _, _, S7.unsuite ok, r6, q6⟩
  refine wpAny_Try_except (wpAny_mono ((hb _ (X.pn ++ pins) xe catch_ PassesOwn.looking).run [] s σ H D (I.toTry _) h) (fun f s1 hsp => ?_) fun e s1 he => he)
  cases f with
  | next =>
    obtain ⟨σ', H', J', q⟩ := hsp
    exact wpAny_execs_nil ⟨σ', H', J'.ofTry ok, q⟩
  | ret u =>
    obtain ⟨v, σ', H', J', r, q⟩ := hsp
    exact ⟨v, σ', H', J'.ofTry ok, r, q⟩
  | brk =>
    obtain ⟨σ', H', J', q⟩ := hsp
    exact ⟨σ', H', J'.ofTry ok, q⟩
  | cont =>
    obtain ⟨σ', H', J', q⟩ := hsp
    exact ⟨σ', H', J'.ofTry ok, q⟩
end
end Lim
set_option maxHeartbeats 2000000
namespace Lim
open PySem PySem.Spec PyProof.Rows L2
/-! isinstance of an error that a name holds, and a list of bools counted -/
def rIsK (K : PySem.W.Frag) : List V → Hp → VK → Prop := fun xs H Q => ∃ (a D : Addr) (c : V) (cv : Value) (b : Bool), xs = [.ref a, c] ∧ H a = some (Kept (.ref D) none a) ∧ ExcC K D ∧ ClsV c cv ∧ PySem.W.kitOne K (.ref D) cv = some b ∧ Q (.bl b) H
def rIsKT (K : PySem.W.Frag) : List V → Hp → VK → Prop := fun xs H Q => ∃ (a D tp : Addr) (cs : List V) (us : List Value) (b : Bool), xs = [.ref a, .ref tp] ∧ H a = some (Kept (.ref D) none a) ∧ ExcC K D ∧ H tp = some (.tup cs) ∧ Paired ClsV cs us ∧
  PySem.W.kitAny K (.ref D) us = some b ∧ Q (.bl b) H
section
variable {X : Cx} {pins : List (Addr × Obj)} {σ : L2.St} {H : Hp} {s : Shared} {a D : Addr}
theorem kept_at (I : Inv X pins σ H s) (h : H a = some (Kept (.ref D) none a)) : ∃ oe, PySem.W.InstAt s.heap a oe D none := by
  obtain ⟨⟨oe, vs, e, z, f⟩, _, _⟩ := (show ObjOk X.prog X.w H s.heap a (Kept (.ref D) none a) from I.hok a _ h)
  obtain ⟨oc, od, oda, osl⟩ := oe
  obtain ⟨z1, z2⟩ := z
  dsimp only at z1 z2 f
  subst z1 z2 f
  exact ⟨_, e, rfl, rfl, trivial⟩
theorem call_isK : CallR X (.builtin "isinstance") (rIsK X.K) := by
  intro pins s σ H xs us Q I r h
  obtain ⟨a, D, c, cv, b, rfl, hH, C, hc, e, q⟩ := h
  obtain ⟨u1, u2, rfl, r1, r2⟩ := vals2 r
  cases (show u1 = Value.ref a from r1)
  obtain rfl := hc.eq r2
  obtain ⟨oe, J⟩ := kept_at I hH
  exact PySem.W.kia_one (PySem.W.handS_kitx_exc C.hg C.hk C.hs C.hd C.ha C.hn C.ht C.hm) I.kIn J e (fun z => nomatch z) fun tk => ⟨.bl b, H, I.tok tk, rfl, q⟩
theorem call_isKT : CallR X (.builtin "isinstance") (rIsKT X.K) := by
  intro pins s σ H xs us Q I r h
  obtain ⟨a, D, tp, cs, ws, b, rfl, hH, C, hT, k, e, q⟩ := h
  obtain ⟨u1, u2, rfl, r1, r2⟩ := vals2 r
  cases (show u1 = Value.ref a from r1)
  cases (show u2 = Value.ref tp from r2)
  obtain ⟨oe, J⟩ := kept_at I hH
  obtain ⟨_, its, rv, o, h1, h2, n, h3⟩ := (show ObjOk X.prog X.w H s.heap tp (.tup cs) from I.hok tp _ hT)
  obtain rfl := ClsV.all k rv
  obtain ⟨oc, od, dt, sl⟩ := o
  simp only at h2 h3
  subst h2 h3
  exact PySem.W.kia_tup (PySem.W.handS_kitx_exc C.hg C.hk C.hs C.hd C.ha C.hn C.ht C.hm) I.kIn J h1 e (fun z => nomatch z) fun tk => ⟨.bl b, H, I.tok tk, rfl, q⟩
end
section
variable {K : PySem.W.Frag} {D C : Addr} {b : Bool}
theorem kit_same : PySem.W.kitOne K (.ref D) (.ref D) = some true := by
  unfold PySem.W.kitOne
  rw [if_pos (beq_self_eq_true _)]
theorem kit_ref (ne : D ≠ C) (hd : PySem.W.hasDictIn K C = true) (ht : PySem.W.typeIn K (.ref C) = some (.type "type")) (h4 : PySem.W.subIn K (.ref D) (.ref C) = some b) : PySem.W.kitOne K (.ref D) (.ref C) = some b := by
  obtain ⟨cd, hc, _⟩ := PySem.W.any_some hd
  unfold PySem.W.kitOne
  rw [if_neg (fun z => ne (by simpa using z))]
  show (if ((PySem.W.clsIn K C).isSome && PySem.W.typeIn K (.ref C) == some (.type "type")) = true then PySem.W.subIn K (.ref D) (.ref C) else none) = some b
  rw [if_pos (by rw [hc, ht]; rfl)]
  exact h4
theorem kit_type {T : String} (hm : PySem.W.kitMeta T = true) (h4 : PySem.W.subIn K (.ref D) (.type T) = some b) : PySem.W.kitOne K (.ref D) (.type T) = some b := by
  unfold PySem.W.kitOne
  rw [if_neg (by simp)]
  show (if PySem.W.kitMeta T = true then PySem.W.subIn K (.ref D) (.type T) else none) = some b
  rw [if_pos hm]
  exact h4
end
/-! bools counted -/
open PySem.SeqAt (EqAt)
def isBl (k : Bool) : Value → Bool
  | .bool b => b == k
  | _ => false
theorem bl_vals {bs : List Bool} {us : List Value} (h : Vals (bs.map V.bl) us) : us = bs.map Value.bool := by
  induction bs generalizing us with
  | nil =>
    cases h
    rfl
  | cons b r ih =>
    cases h with
    | cons rb rr =>
      rw [ih rr, show _ = Value.bool b from rb]
      rfl
theorem bl_gives {A : Around} {s : Shared} {k : Bool} {bs : List Bool} {us : List Value} (h : Vals (bs.map V.bl) us) : ∀ y ∈ us, EqAt A s y (.bool k) (isBl k y) := by
  rw [bl_vals h]
  intro y hy
  obtain ⟨b, _, rfl⟩ := List.mem_map.mp hy
  exact PySem.SeqAt.EqAt.bool_bool b k
theorem bl_count {k : Bool} {bs : List Bool} {us : List Value} (h : Vals (bs.map V.bl) us) : us.countP (isBl k) = bs.count k := by
  rw [bl_vals h, List.countP_map]
  rfl
def rCntB (K : PySem.W.Frag) : V → List V → Hp → VK → Prop := fun x xs H Q => ∃ (p : Addr) (bs : List Bool) (k : Bool), x = .ref p ∧ xs = [.bl k] ∧ SqL K H p (bs.map V.bl) ∧ Q (.int (bs.count k : Nat)) H
theorem mt_bcount {X : Cx} : MtR X "list.count" (rCntB X.K) := by
  intro pins s σ H x xs v us Q I rx rxs h
  obtain ⟨p, bs, k, rfl, rfl, hs, q⟩ := h
  cases rx
  obtain ⟨u, rfl, ru⟩ := rxs.one
  cases (show u = Value.bool k from ru)
  obtain ⟨its, rv, ⟨⟨cls, dd, data, sl⟩, n, ho, hc, hdn, hd⟩, hlen⟩ := I.list hs
  simp only at hc hd
  subst hc hd
  have ec : its.toArray.toList.countP (isBl k) = bs.count k := bl_count rv
  refine call_meets PySem.F.slot_list_count ⟨_, ho, rfl⟩ PySem.F.entry_list_count (PySem.F.args_list_count_2 _ _) (SeqAt.list_countAt p its.toArray n dd sl (.bool k) (isBl k)) ⟨ho, fun y hy => ?_, ?_⟩
  · exact bl_gives rv y (by simpa using hy)
  · refine ⟨.int (bs.count k : Nat), H, I.tok _, ⟨s.toks, ?_⟩, q⟩
    show Value.int ((its.toArray.toList.countP (isBl k) : Nat) : Int) s.toks = Value.int ((bs.count k : Nat) : Int) s.toks
    rw [ec]
end Lim
set_option maxHeartbeats 2000000
namespace Lim
open PySem PySem.Spec PyProof.Rows L2
/-! errors held as values: made by their class, asked for their class, read -/
section
variable {X : Cx} {x f : Str} {L C fI : Addr} {e : Expr} {es : List Expr} {ta : TA} {te : TE} {p p1 p2 pos : Pos} {pl : Sem Bool}
/-- what a class over ValueError says when its __init__ is called by its name -/
structure BaseC (K : PySem.W.Frag) (L : Addr) : Prop where
  sp : PySem.W.specialIn K (.ref L) "__getattribute__" = some (some (.builtin "type.__getattribute__"))
  rd : PySem.W.readsIn K L (.type "type") = true
  fc : PySem.W.findCls K (.ref L) (.type "type") "__init__" = some (.val (.builtin "ValueError.__init__"))
theorem pe_vebase (hg : Gl X x) (hm : X.mg x = some (.ref L)) (B : BaseC X.K L) (ha : PA X (e :: es) ta)
    (hc : eval (.Call (.Attribute (.Name x p1) "__init__" p2) (e :: es) [] pos) X.env = (do
      let v ← eval (.Name x p1) X.env
      standAt p2.atName
      let (g, first) ← holding [v] (getMethod v "__init__" pl)
      callWith pos g first (backTo pos (starEach (e :: es) X.env)) (backToKw pos (keywordEach [] X.env))) := by rfl)
    (hdb : (x == ("__debug__" : Str)) = false := by decide) (he : starEach (e :: es) X.env = (false, eval e X.env) :: starEach es X.env := by rfl) (hpl : (backTo pos (starEach es X.env)).any (·.1) = false := by rfl) :
    PE X (.Call (.Attribute (.Name x p1) "__init__" p2) (e :: es) [] pos) (tVeI X.K ta) := by
  refine ⟨fun pins s σ H Q I h => PySem.W.methodCall_KW (ld_glob I hg hm ?_ hdb) hc⟩
  refine PySem.W.method_cls I.kIn B.sp (PySem.W.cls_value I.kIn B.rd B.fc (by decide +kernel) ?_)
  show wpAny _ _ (callWith pos (Value.builtin "ValueError.__init__") [] (backTo pos (starEach (e :: es) X.env)) []) _ _ _
  refine callWith_method1 (thn (ha.run pos pins _ σ H _ (I.tok _) h) fun us s1 ⟨vs, H1, I1, r1, a, D, ws, ev, hl, T, ea, q⟩ => ?_) he hpl
  subst ev
  cases r1 with
  | @cons _ u0 _ ur ra rw' =>
    cases (show u0 = Value.ref a from ra)
    exact oinit_ok T I1 ea (by rw [← Paired.length rw', sizeLine_eq]; omega) fun t J => ⟨.non, H1, J, rfl, q⟩
/-- C(e, ..) as a value, C's own __init__ keeping sp -/
def tMkV (C : Addr) (sp : Sp) (ta : TA) : TE := fun σ H Q => ta σ H fun vs H1 => vs.length ≤ 1000 ∧ ∀ a, H1 a = none → sp (.ref a :: vs) (upd H1 a (exo a C none)) (fun v H2 => v = .non ∧ Q (.ref a) H2) (fun _ _ _ => False)
theorem pe_mkErr {k : Nat} {fd : FuncData} {ps : List Str} {sp : Sp} (T : OexC X.K C) (iC : PySem.W.findIn X.K (.ref C) "__init__" = some (some (.ref fI))) (tI : PySem.W.typeIn X.K (.ref fI) = some (.type "function"))
    (F1 : FnOk X.prog X.w X.K X.mg X.base CX0 k fI fd ps sp) (hr : Room (k + 1) X.A) (hb : Binds X.K fd ps []) (hg : Gl X x) (hm : X.mg x = some (.ref C)) (ha : PA X (e :: es) ta)
    (hdb : (x == ("__debug__" : Str)) = false := by decide) (he : starEach (e :: es) X.env = (false, eval e X.env) :: starEach es X.env := by rfl) (hpl : (backTo pos (starEach es X.env)).any (·.1) = false := by rfl) :
    PE X (.Call (.Name x p) (e :: es) [] pos) (tMkV C sp ta) := by
  refine ⟨fun pins s σ H Q I h => ?_⟩
  obtain ⟨nm, q, N, bs, bm, sn, sub, ab, col, dd, k0, k1, k2, k3, k5, hC, hbm⟩ := T.cls
  refine wpAny_Call_Name_kw (ld_glob I hg hm ?_ hdb)
  refine PySem.W.callWith_K (h₀ := X.base) I.ok.mod.kin T.kC (thn (ha.run pos pins s σ H _ I h) fun us s1 ⟨vs, H1, I1, r1, hz, q1⟩ => ⟨I1.kIn, ?_⟩) he hpl
  show wpAny _ _ (call (.ref C) us) _ _ _
  obtain ⟨hp, g, dr, tk, os⟩ := s1
  have hle : hp.objs.size ≤ hp.objs.size + 1 := Nat.le_succ _
  have hq := q1 _ (I1.hok.fresh hle)
  have kp : ∀ b o, hp.get? b = some o → ((hp.push (PySem.W.kdv_tup us)).push (PySem.HandSPX.excO C hp.objs.size)).get? b = some o := fun b o z => Heap.get?_push_of_some _ (Heap.get?_push_of_some _ z)
  have hget : ((hp.push (PySem.W.kdv_tup us)).push (PySem.HandSPX.excO C hp.objs.size)).get? (hp.objs.size + 1) = some (PySem.HandSPX.excO C hp.objs.size) := by heap_get
  have J := I1.laid (t' := tk) (a := hp.objs.size + 1) (o := exo (hp.objs.size + 1) C none) (h' := (hp.push (PySem.W.kdv_tup us)).push (PySem.HandSPX.excO C hp.objs.size)) kp hle (exo_ok hget)
  have r2 : Vals (V.ref (hp.objs.size + 1) :: vs) (Value.ref (hp.objs.size + 1) :: us) := .cons rfl r1
  have hl : ((Value.ref (hp.objs.size + 1) :: us) ++ []).length = ps.length := by
    rw [List.append_nil, ← r2.length, F1.len _ _ _ _ hq]
  have hbt := hb ⟨(hp.push (PySem.W.kdv_tup us)).push (PySem.HandSPX.excO C hp.objs.size), g, dr, tk, os⟩ (Value.ref (hp.objs.size + 1) :: us) J.kIn hl
  rw [List.append_nil] at hbt
  refine wpAny_call (PySem.HandSPX.call_own F.excBase_ValueError (fun Y => PySem.HandSPX.refsVE_contains Y bm hbm) (I1.kIn _ _ hC) (PySem.W.looks_findIn I1.kIn iC) (fun self => PySem.W.bind_fn I1.kIn self tI)
    (by rw [← Paired.length r1, sizeLine_eq]; omega) (codeAny_mono (F1.run _ X.stack _ _ ⟨Value.ref (hp.objs.size + 1) :: us, []⟩ (Value.ref (hp.objs.size + 1) :: us) _ _ (fun _ _ _ => False) (hr.make C us []) (J.env0.make C us []) hbt r2 hq) fun r s' z => ?_))
  match r, z with
  | .error er, z => exact pass0 pins σ _ _ er s' J z
  | .ok .next, z => exact False.elim z
  | .ok .brk, z => exact False.elim z
  | .ok .cont, z => exact False.elim z
  | .ok (.ret u), z =>
    obtain ⟨v, H2, J2, rv, ev, q2⟩ := J.after z
    subst ev
    exact ⟨rv, .ref (hp.objs.size + 1), H2, J2, rfl, q2⟩
/-! isinstance -/
/-- at a: an error of the class at C -/
def ErrAt (H : Hp) (a C : Addr) : Prop := H a = some (ExO (.ref C) a) ∨ ∃ d fs, H a = some (exo a C (some d)) ∧ H d = some (exd d fs)
theorem err_inst {pins : List (Addr × Obj)} {σ : L2.St} {H : Hp} {s : Shared} {a : Addr} (I : Inv X pins σ H s) (h : ErrAt H a C) : ∃ oe od, PySem.W.InstAt s.heap a oe C od := by
  rcases h with h | ⟨d, fs, h, hd⟩
  · obtain ⟨⟨oe, vs, e, z, f, _⟩, _, _⟩ := (show ObjOk X.prog X.w H s.heap a (ExO (.ref C) a) from I.hok a _ h)
    obtain ⟨oc, od, oda, osl⟩ := oe
    obtain ⟨z1, z2⟩ := z
    dsimp only at z1 z2 f
    subst z1 z2 f
    exact ⟨_, none, e, rfl, rfl, trivial⟩
  · obtain ⟨t1, ho⟩ := exo_at I.hok h
    obtain ⟨mA, hns, _⟩ := exd_at I.hok hd
    obtain ⟨o, _, _, hod, _⟩ := hns
    exact ⟨_, some o, ho, rfl, rfl, hod⟩
def rIsV (K : PySem.W.Frag) : List V → Hp → VK → Prop := fun xs H Q => ∃ (a D : Addr) (c : V) (cv : Value) (b : Bool), xs = [.ref a, c] ∧ ErrAt H a D ∧ ExcC K D ∧ ClsV c cv ∧ PySem.W.kitOne K (.ref D) cv = some b ∧ Q (.bl b) H
theorem call_isV : CallR X (.builtin "isinstance") (rIsV X.K) := by
  intro pins s σ H xs us Q I r h
  obtain ⟨a, D, c, cv, b, rfl, hH, E, hc, k, q⟩ := h
  obtain ⟨u1, u2, rfl, r1, r2⟩ := vals2 r
  cases (show u1 = Value.ref a from r1)
  obtain rfl := hc.eq r2
  obtain ⟨oe, od, J⟩ := err_inst I hH
  obtain ⟨cd, hcd, _⟩ := PySem.W.any_some E.hd
  exact PySem.W.kia_one (PySem.W.kitx_exc (by rw [hcd]; rfl) E.hg E.hk E.hs E.ha E.hn E.ht E.hm) I.kIn J k (fun z => nomatch z) fun tk => ⟨.bl b, H, I.tok tk, rfl, q⟩
/-! err.f -/
def tFldE (K : PySem.W.Frag) (f : Str) (te : TE) : TE := fun σ H Q => te σ H fun x H1 => ∃ (a D d : Addr) (fs : List (Str × V)) (v : V), x = .ref a ∧ H1 a = some (exo a D (some d)) ∧ H1 d = some (exd d fs) ∧ XfC K D ∧ PySem.W.findIn K (.ref D) f = some none ∧ fs.lookup f = some v ∧ Q v H1
theorem pe_fldE (he : PE X e te) (hb : attributeBase e f X.env (eval e X.env) = eval e X.env := by rfl) : PE X (.Attribute e f pos) (tFldE X.K f te) := by
  refine ⟨fun pins s σ H Q I h => attr_of hb (thn (he.run pins s σ H _ I h) fun u s1 hh => ?_)⟩
  obtain ⟨x, H1, I1, rx, a, D, d, fs, v, ex, ha, hd, T, hno, l, q⟩ := hh
  subst ex
  cases (show u = Value.ref a from rx)
  obtain ⟨t1, ho⟩ := exo_at I1.hok ha
  obtain ⟨mA, hns, hr⟩ := exd_at I1.hok hd
  obtain ⟨od, ho2, hl⟩ := lookIn_ns hns
  obtain ⟨w1, hw, rw'⟩ := RelO.some_of (v := v) (o := mA f) (by rw [← l]; exact hr f)
  have J : PySem.W.InstAt s1.heap a _ D (some od) := ⟨ho, rfl, rfl, ho2⟩
  exact HandSPX.exc_get I1.kIn J T.ga T.gg T.exC (PySem.W.findObj_own T.hdC hno rfl (by rw [hl, hw])) (handed_of rw') ⟨v, H1, I1.tok _, rw', q⟩
end
end Lim
set_option maxHeartbeats 2000000
namespace Lim
open PySem PySem.Spec PyProof.Rows L2
/-! an error that a name still holds, with its fields or without: isinstance, its fields -/
def KeptE (H : Hp) (a D : Addr) : Prop := H a = some (Kept (.ref D) none a) ∨ ∃ d fs, H a = some (Kept (.ref D) (some d) a) ∧ H d = some (.xd fs)
theorem KeptE.same {H H' : Hp} {a D : Addr} (h : KeptE H a D) (s : Same H H') : KeptE H' a D := by
  rcases h with h | ⟨d, fs, h1, h2⟩
  · exact .inl (s _ _ h)
  · exact .inr ⟨d, fs, s _ _ h1, s _ _ h2⟩
def rIsW (K : PySem.W.Frag) : List V → Hp → VK → Prop := fun xs H Q => ∃ (a D : Addr) (c : V) (cv : Value) (b : Bool), xs = [.ref a, c] ∧ KeptE H a D ∧ ExcC K D ∧ ClsV c cv ∧ PySem.W.kitOne K (.ref D) cv = some b ∧ Q (.bl b) H
def rIsWT (K : PySem.W.Frag) : List V → Hp → VK → Prop := fun xs H Q => ∃ (a D tp : Addr) (cs : List V) (us : List Value) (b : Bool), xs = [.ref a, .ref tp] ∧ KeptE H a D ∧ ExcC K D ∧ H tp = some (.tup cs) ∧ Paired ClsV cs us ∧
  PySem.W.kitAny K (.ref D) us = some b ∧ Q (.bl b) H
section
variable {X : Cx} {pins : List (Addr × Obj)} {σ : L2.St} {H : Hp} {s : Shared} {a D : Addr} {f : Str} {e : Expr} {te : TE} {pos : Pos}
theorem kept_inst (I : Inv X pins σ H s) (h : KeptE H a D) : ∃ oe od, PySem.W.InstAt s.heap a oe D od := by
  rcases h with h | ⟨d, fs, h, hd⟩
  · obtain ⟨oe, J⟩ := kept_at I h
    exact ⟨oe, none, J⟩
  · obtain ⟨⟨oe, vs, e, z, f⟩, _, _⟩ := (show ObjOk X.prog X.w H s.heap a (Kept (.ref D) (some d) a) from I.hok a _ h)
    obtain ⟨oc, od, oda, osl⟩ := oe
    obtain ⟨z1, z2⟩ := z
    dsimp only at z1 z2 f
    subst z1 z2 f
    obtain ⟨mA, hns, _⟩ := (show ∃ mA, s.heap.Ns1 d mA ∧ ∀ f, RelO (fs.lookup f) (mA f) from I.hok d _ hd)
    obtain ⟨o, _, _, hod, _⟩ := hns
    exact ⟨_, some o, e, rfl, rfl, hod⟩
theorem call_isW : CallR X (.builtin "isinstance") (rIsW X.K) := by
  intro pins s σ H xs us Q I r h
  obtain ⟨a, D, c, cv, b, rfl, hH, E, hc, k, q⟩ := h
  obtain ⟨u1, u2, rfl, r1, r2⟩ := vals2 r
  cases (show u1 = Value.ref a from r1)
  obtain rfl := hc.eq r2
  obtain ⟨oe, od, J⟩ := kept_inst I hH
  obtain ⟨cd, hcd, _⟩ := PySem.W.any_some E.hd
  exact PySem.W.kia_one (PySem.W.kitx_exc (by rw [hcd]; rfl) E.hg E.hk E.hs E.ha E.hn E.ht E.hm) I.kIn J k (fun z => nomatch z) fun tk => ⟨.bl b, H, I.tok tk, rfl, q⟩
theorem call_isWT : CallR X (.builtin "isinstance") (rIsWT X.K) := by
  intro pins s σ H xs us Q I r h
  obtain ⟨a, D, tp, cs, ws, b, rfl, hH, E, hT, k, e, q⟩ := h
  obtain ⟨u1, u2, rfl, r1, r2⟩ := vals2 r
  cases (show u1 = Value.ref a from r1)
  cases (show u2 = Value.ref tp from r2)
  obtain ⟨oe, od, J⟩ := kept_inst I hH
  obtain ⟨_, its, rv, o, h1, h2, n, h3⟩ := (show ObjOk X.prog X.w H s.heap tp (.tup cs) from I.hok tp _ hT)
  obtain rfl := ClsV.all k rv
  obtain ⟨oc, od', dt, sl⟩ := o
  simp only at h2 h3
  subst h2 h3
  obtain ⟨cd, hcd, _⟩ := PySem.W.any_some E.hd
  exact PySem.W.kia_tup (PySem.W.kitx_exc (by rw [hcd]; rfl) E.hg E.hk E.hs E.ha E.hn E.ht E.hm) I.kIn J h1 e (fun z => nomatch z) fun tk => ⟨.bl b, H, I.tok tk, rfl, q⟩
/-- n.f, n holding an error behind its suite -/
def tFldW (K : PySem.W.Frag) (f : Str) (te : TE) : TE := fun σ H Q => te σ H fun x H1 => ∃ (a D d : Addr) (fs : List (Str × V)) (v : V), x = .ref a ∧ H1 a = some (Kept (.ref D) (some d) a) ∧ H1 d = some (.xd fs) ∧ XfC K D ∧ PySem.W.findIn K (.ref D) f = some none ∧ fs.lookup f = some v ∧ Q v H1
theorem pe_fldW (he : PE X e te) (hb : attributeBase e f X.env (eval e X.env) = eval e X.env := by rfl) : PE X (.Attribute e f pos) (tFldW X.K f te) := by
  refine ⟨fun pins s σ H Q I h => attr_of hb (thn (he.run pins s σ H _ I h) fun u s1 hh => ?_)⟩
  obtain ⟨x, H1, I1, rx, a, D, d, fs, v, ex, ha, hd, T, hno, l, q⟩ := hh
  subst ex
  cases (show u = Value.ref a from rx)
  obtain ⟨⟨oe, vs, e1, z, f1⟩, _, _⟩ := (show ObjOk X.prog X.w H1 s1.heap a (Kept (.ref D) (some d) a) from I1.hok a _ ha)
  obtain ⟨oc, od, oda, osl⟩ := oe
  obtain ⟨z1, z2⟩ := z
  dsimp only at z1 z2 f1
  subst z1 z2 f1
  obtain ⟨mA, hns, hr⟩ := (show ∃ mA, s1.heap.Ns1 d mA ∧ ∀ f, RelO (fs.lookup f) (mA f) from I1.hok d _ hd)
  obtain ⟨od, ho2, hl⟩ := lookIn_ns hns
  obtain ⟨w1, hw, rw'⟩ := RelO.some_of (v := v) (o := mA f) (by rw [← l]; exact hr f)
  have J : PySem.W.InstAt s1.heap a _ D (some od) := ⟨e1, rfl, rfl, ho2⟩
  exact HandSPX.exc_get I1.kIn J T.ga T.gg T.exC (PySem.W.findObj_own T.hdC hno rfl (by rw [hl, hw])) (handed_of rw') ⟨v, H1, I1.tok _, rw', q⟩
end
/-! a class among many -/
theorem kitAny_no {K : PySem.W.Frag} {t : Value} : ∀ {us : List Value}, (∀ c ∈ us, PySem.W.kitOne K t c = some false) → PySem.W.kitAny K t us = some false
  | [], _ => rfl
  | c :: r, h => by
    show (match PySem.W.kitOne K t c with | some true => some true | some false => PySem.W.kitAny K t r | none => none) = _
    rw [h c (List.mem_cons_self ..)]
    exact kitAny_no fun x hx => h x (List.mem_cons_of_mem _ hx)
theorem kitAny_yes {K : PySem.W.Frag} {t c : Value} : ∀ {us : List Value}, (∀ x ∈ us, ∃ b, PySem.W.kitOne K t x = some b) → c ∈ us → PySem.W.kitOne K t c = some true → PySem.W.kitAny K t us = some true
  | [], _, h, _ => by cases h
  | x :: r, h, hm, ht => by
    show (match PySem.W.kitOne K t x with | some true => some true | some false => PySem.W.kitAny K t r | none => none) = _
    obtain ⟨b, hb⟩ := h x (List.mem_cons_self ..)
    rw [hb]
    cases b with
    | true => rfl
    | false =>
      rcases List.mem_cons.mp hm with e | e
      · rw [← e, ht] at hb
        cases hb
      · exact kitAny_yes (fun y hy => h y (List.mem_cons_of_mem _ hy)) e ht
end Lim
set_option maxHeartbeats 4000000
namespace Lim
open PySem PySem.Spec PyProof.Rows L2

/-! a def whose promise may lean on: no repr is under way around it -/
structure FnG (P : Program) (w : World) (K : PySem.W.Frag) (mg : Str → Option Value) (base : Heap) (k : Nat) (f : Addr) (fd : FuncData) (ps : List Str) (sp : Sp) : Prop where
  len : ∀ vs H Q E, sp vs H Q E → vs.length = ps.length
  go : ∀ (B : Around) (below : List Env) (s : Shared) (H : Hp) (ar : Args) (us : List Value) (vs : List V) (Q : VK) (E : XK),
    B.guards = some [] → Room k B → Env0 P w K mg base B below s H → BindsTo s fd ar (ps.zip us) → Vals vs us → sp vs H Q E →
    codeAny (model P w) B (.call (.ref f) ar) (CR CX0 below P w H s Q E) s
section
variable {P : Program} {w : World} {K : PySem.W.Frag} {mg : Str → Option Value} {base : Heap} {k : Nat} {f : Addr} {fd : FuncData} {ps : List Str} {sp : Sp}
theorem FnG.of (F : FnOk P w K mg base CX0 k f fd ps sp) : FnG P w K mg base k f fd ps sp :=
  ⟨F.len, fun B below s H ar us vs Q E _ r e b v q => F.run B below s H ar us vs Q E r e b v q⟩
theorem FnG.up {j : Nat} (F : FnG P w K mg base j f fd ps sp) (h : j ≤ k) : FnG P w K mg base k f fd ps sp :=
  ⟨F.len, fun B below s H ar us vs Q E g r e b v q => F.go B below s H ar us vs Q E g (r.mono h) e b v q⟩
theorem FnG.imp {sp' : Sp} (F : FnG P w K mg base k f fd ps sp) (h : ∀ vs H Q E, sp' vs H Q E → sp vs H Q E) : FnG P w K mg base k f fd ps sp' :=
  ⟨fun vs H Q E q => F.len _ _ _ _ (h _ _ _ _ q), fun B below s H ar us vs Q E g r e b v q => F.go B below s H ar us vs Q E g r e b v (h _ _ _ _ q)⟩

theorem deeper_guards {B : Around} {env : Env} : (B.deeper env).guards = B.guards := rfl

/-- the def's own rule -/
theorem Fun_okG {x qual : Str} {st : Stmt} {N : List Str} (F : Fun K x qual st f fd) (S : FnScope N ps (defScope st)) (len : ∀ vs H Q E, sp vs H Q E → vs.length = ps.length)
    (hb : ∀ (cdv : Value) (B : Around) (below : List Env) (s : Shared) (H : Hp) (vs : List V) (Q : VK) (E : XK), B.guards = some [] → Room k (B.deeper (envOfC qual (defScope st) s.heap.objs.size f cdv)) → sp vs H Q E →
      ∃ t, PSs (cxOf CX0 P w K mg base N qual (defScope st) f cdv B below s H E).nox (defBody st) t ∧ t { nx := fun _ H' => Q .non H', rt := Q } (start N vs) H) :
    FnG P w K mg base (k + 1) f fd ps sp := by
  obtain ⟨oc, od, kV, doc, pm, an, cdv, ct, osl, rfl, lk, hcd⟩ := F.ex
  refine ⟨len, fun B below s H ar us vs Q E hg hr ev bt va hq => ?_⟩
  have hn := len _ _ _ _ hq
  have KH : K.In s.heap := ev.mod.kin.keeps fun a o z => (ev.bs a o z).1
  have noLim : s.heap.NoLimit := ev.mod.nolimit.keeps fun a o z => (ev.bs a o z).1
  refine codeAny_call_function hr.depth (KH _ _ lk) rfl S.co S.gen rfl (PySem.W.codeRec_of KH hcd) (bt _ _ _ _ ?_)
  refine wpAny_newFunctionEnv_cells S.kind (fun ⟨y, v⟩ hy => ?_) fun env he s1 hx => ?_
  · rcases S.par y (List.of_mem_zip hy).1 with q | q
    · exact Or.inl q
    · exact Or.inr ⟨q, PySem.W.cellsFrom_some _ _ _ (Or.inl q)⟩
  · subst he
    refine ⟨noLim.keeps hx.toInCall.keep, codeAny_func ?_⟩
    obtain ⟨t, ht, hrun⟩ := hb cdv B below s H vs Q E hg (hr.deeper _) hq
    have J0 := inv_start (CX := CX0) (E := E) S hr.hd ev hn va hx
    refine wpAny_mono (ht.nox.run [] s1 (start N vs) H _ J0 hrun) (fun fl s2 hs => ?_) fun _ _ z => z
    cases fl with
    | brk =>
      obtain ⟨_, _, _, z⟩ := hs
      exact z.elim
    | cont =>
      obtain ⟨_, _, _, z⟩ := hs
      exact z.elim
    | next =>
      obtain ⟨σ1, H1, J, z⟩ := hs
      exact ⟨V.non, H1, J.os, J.bare, J.base, J.hok, rfl, z⟩
    | ret u =>
      obtain ⟨v, σ1, H1, J, rv, z⟩ := hs
      exact ⟨v, H1, J.os, J.bare, J.base, J.hok, rv, z⟩
end
section
variable {X : Cx} {k : Nat} {f : Addr} {fd : FuncData} {ps : List Str} {sp : Sp} {x : Str} {p pos : Pos} {e : Expr} {es : List Expr} {t : TA}
/-- the callee runs -/
theorem run_g {pins : List (Addr × Obj)} {σ : L2.St} {H : Hp} {s : Shared} {Q : VK} {us : List Value} {vs : List V} (F : FnG X.prog X.w X.K X.mg X.base k f fd ps sp) (hg : X.A.guards = some []) (hr : Room k X.A) (hb : Binds X.K fd ps [])
    (I : Inv X pins σ H s) (r : Vals vs us) (h : sp vs H Q E0) : wpAny (model X.prog X.w) X.A (call (.ref f) us) (EP X pins σ Q) X.xe s := by
  have hl : us.length = ps.length := r.length ▸ F.len _ _ _ _ h
  have hbt := hb s us I.kIn (by rw [List.append_nil]; exact hl)
  rw [List.append_nil] at hbt
  refine wpAny_call (codeAny_mono (F.go X.A X.stack s H ⟨us, []⟩ us vs Q E0 hg hr I.env0 hbt r h) fun res s1 z => ?_)
  match res, z with
  | .error _, z => exact False.elim z
  | .ok (.ret u), z => exact I.after z
  | .ok .next, z => exact False.elim z
  | .ok .brk, z => exact False.elim z
  | .ok .cont, z => exact False.elim z
theorem pe_g (F : FnG X.prog X.w X.K X.mg X.base k f fd ps sp) (hgd : X.A.guards = some []) (hr : Room k X.A) (hg : Gl X x) (hm : X.mg x = some (.ref f)) (hk : PySem.W.keepIn X.K (.ref f) = true) (hb : Binds X.K fd ps [])
    (ha : PA X (e :: es) t) (hdb : (x == ("__debug__" : Str)) = false := by decide) (he : starEach (e :: es) X.env = (false, eval e X.env) :: starEach es X.env := by rfl) (hpl : (backTo pos (starEach es X.env)).any (·.1) = false := by rfl) :
    PE X (.Call (.Name x p) (e :: es) [] pos) (fun σ H Q => t σ H fun vs H1 => sp vs H1 Q E0) := by
  refine ⟨fun pins s σ H Q I h => ?_⟩
  refine wpAny_Call_Name_kw (ld_glob I hg hm ?_ hdb)
  refine PySem.W.callWith_K (h₀ := X.base) I.ok.mod.kin hk ?_ he hpl
  exact thn (ha.run pos pins s σ H _ I h) fun us s1 ⟨vs, H1, I1, r, q⟩ => ⟨I1.kIn, run_g F hgd hr hb I1 r q⟩
/-- repr(x), x data -/
theorem call_reprD (hgd : X.A.guards = some []) (hu : X.A.units + 100 < cLine) : CallR X (.builtin "repr") (fun xs H Q => ∃ v d, xs = [v] ∧ Dp X.K H v d ∧ d.showable = true ∧ d.hasDict = false ∧ d.depth ≤ 60 ∧ d.shown.length ≤ sizeLine ∧ Q (.str d.shown) H) := by
  intro pins s σ H xs us Q I r h
  obtain ⟨v, d, rfl, hd, h1, h2, h3, h4, q⟩ := h
  obtain ⟨u, rfl, r1⟩ := vals1 r
  cases hd with
  | non =>
    cases r1
    exact PySem.P.repr_of_none ⟨.str _, H, I.tok _, ⟨_, rfl⟩, q⟩
  | bl b =>
    cases r1
    refine PySem.P.repr_of_bool ⟨.str _, H, I.tok _, ⟨_, rfl⟩, ?_⟩
    cases b <;> exact q
  | int i =>
    obtain ⟨t, rfl⟩ := r1
    refine PySem.P.repr_of_int ?_ ⟨.str _, H, I.tok _, ⟨_, rfl⟩, q⟩
    simpa [PyData.showable] using h1
  | str y =>
    obtain ⟨t, rfl⟩ := r1
    exact PySem.P.repr_of_str ⟨.str _, H, I.tok _, ⟨_, rfl⟩, q⟩ h4
  | lst hs ha =>
    obtain ⟨as, rd⟩ := Dp.reads I _ _ _ (.lst hs ha) r1
    cases r1
    exact PySem.repr_of_reads' rd h1 (fun z => by rw [h2] at z; cases z) hgd (by omega) (fun _ _ z => z) (fun h' u tk hk => ⟨.str _, H, I.kept hk, ⟨_, rfl⟩, q⟩) h4
  | tup hs ha =>
    obtain ⟨as, rd⟩ := Dp.reads I _ _ _ (.tup hs ha) r1
    cases r1
    exact PySem.repr_of_reads' rd h1 (fun z => by rw [h2] at z; cases z) hgd (by omega) (fun _ _ z => z) (fun h' u tk hk => ⟨.str _, H, I.kept hk, ⟨_, rfl⟩, q⟩) h4
end
/-! tuple * k for k below 2 -/
section
variable (l : Addr) (its : Array Value) (n : Nat) (dd : Option Addr) (sl : Array (Option Value)) (u : Tok)
abbrev tupO (its : Array Value) (n : Nat) (dd : Option Addr) (sl : Array (Option Value)) : Obj := { cls := .type "tuple", dict := dd, data := .seq its n, slots := sl }
theorem tmul_none (x : Int) (b0 : (decide (x < -(2 ^ 63)) || decide (x ≥ 2 ^ 63)) = false) (b1 : (its.isEmpty || x == 1) = false) (b2 : (decide (x ≤ 0) || its.isEmpty) = true) :
    Meets (Builtin.«tuple.__mul__» ⟨[.ref l, .int x u], []⟩) (fun _ R s => s.heap.get? l = some (tupO its n dd sl) ∧ R (.ok (.ret (Value.ref s.heap.objs.size))) { s with heap := s.heap.push { cls := Value.type "tuple", data := Data.seq #[] }, toks := s.toks }) := by
  refine .of_wp fun pg ww AA RR ss hh => ?_
  obtain ⟨h1, h2, h3, h4, h5⟩ := ss
  obtain ⟨hl, hh⟩ := hh
  have ix := AutoSeq1.idx_int
  have n0 := decide_eq_false (p := (decide (x < -(2 ^ 63)) || decide (x ≥ 2 ^ 63)) = true) (by rw [b0]; decide)
  have n1 := decide_eq_false (p := (its.isEmpty || x == 1) = true) (by rw [b1]; decide)
  wp_walk using wpAny_loadPart' hl
  repeat (first
    | (refine wpAny_ite_false n0 ?_; wp_walk using wpAny_loadPart' hl)
    | (refine wpAny_ite_false n1 ?_; wp_walk using wpAny_loadPart' hl)
    | (refine wpAny_ite_true (decide_eq_true b2) ?_; wp_walk using wpAny_loadPart' hl))
  exact ⟨_, rfl, hh⟩
theorem tmul_one : Meets (Builtin.«tuple.__mul__» ⟨[.ref l, .int 1 u], []⟩) (fun _ R s => s.heap.get? l = some (tupO its n dd sl) ∧ R (.ok (.ret (Value.ref l))) s) := by
  refine .of_wp fun pg ww AA RR ss hh => ?_
  obtain ⟨h1, h2, h3, h4, h5⟩ := ss
  obtain ⟨hl, hh⟩ := hh
  have ix := AutoSeq1.idx_int
  have b1 : (its.isEmpty || (1 : Int) == 1) = true := by simp
  wp_walk using wpAny_loadPart' hl
  repeat (first
    | (refine wpAny_ite_false (decide_eq_false (by decide)) ?_; wp_walk using wpAny_loadPart' hl)
    | (refine wpAny_ite_true (decide_eq_true b1) ?_; wp_walk using wpAny_loadPart' hl))
  exact ⟨_, rfl, hh⟩
end
def rRepZ (K : PySem.W.Frag) : R2 := fun x y H Q => ∃ l k xs, x = .ref l ∧ y = .int k ∧ SqT K H l xs ∧ xs ≠ [] ∧ -1000 ≤ k ∧ k ≤ 1000 ∧ xs.length ≤ 1000 ∧
  (k ≤ 0 → ∀ p, H p = none → Q (.ref p) (upd H p (.tup []))) ∧ (k = 1 → Q (.ref l) H) ∧ (2 ≤ k → ∀ p, H p = none → Q (.ref p) (upd H p (.tup (List.replicate k.toNat xs).flatten)))
section
variable {X : Cx}
theorem op_repZ : OpR X (binaryOp .Mult) (rRepZ X.K) := by
  intro pins s σ H x y v u Q I rx ry h
  obtain ⟨l, k, xs, rfl, rfl, hT, hne, h1, h2, hz, q0, q1, q2⟩ := h
  by_cases c2 : 2 ≤ k
  · exact op_repT pins s σ H _ _ v u Q I rx ry ⟨l, k, xs, rfl, rfl, hT, hne, c2, h2, hz, q2 c2⟩
  · cases rx
    obtain ⟨t, rfl⟩ := ry
    obtain ⟨its, r, ⟨⟨cls, dd, data, sl⟩, ho, hc, n, hd⟩, hs⟩ := I.tuple hT
    simp only at hc hd
    subst hc hd
    have hie : its.toArray.isEmpty = false := by
      cases its with
      | nil =>
        cases r
        exact absurd rfl hne
      | cons a b => rfl
    by_cases c1 : k = 1
    · subst c1
      refine wpAny_binaryOp_repeat_ref (T := "tuple") (U := "int") (by decide) ⟨_, ho, rfl⟩ (fun s' => typeIs_int s' 1 t) noFill_tuple_mul F.fills_int_mul F.slot_int_rmul repeat_tuple F.slot_int_index.lookup ?_
      refine call_meets F.slot_int_rmul (typeIs_int s 1 t) F.entry_int_rmul (F.args_int_rmul_2 _ _) (int_rmul_tuple 1 t l its.toArray n dd sl) ⟨ho, rfl, ⟨_, ho, rfl⟩, ?_⟩
      exact call_meets F.slot_tuple_mul ⟨_, ho, rfl⟩ F.entry_tuple_mul (F.args_tuple_mul_2 _ _) (tmul_one l its.toArray n dd sl t) ⟨ho, .ref l, H, I, rfl, q1 rfl⟩
    · have k0 : k ≤ 0 := by omega
      have b0 : (decide (k < -(2 ^ 63)) || decide (k ≥ 2 ^ 63)) = false := by
        rw [decide_eq_false (by omega), decide_eq_false (by omega)] <;> rfl
      have b1 : (its.toArray.isEmpty || k == 1) = false := by
        rw [hie, Bool.false_or]
        exact beq_eq_false_iff_ne.mpr c1
      have b2 : (decide (k ≤ 0) || its.toArray.isEmpty) = true := by
        rw [decide_eq_true k0] <;> rfl
      refine wpAny_binaryOp_repeat_ref (T := "tuple") (U := "int") (by decide) ⟨_, ho, rfl⟩ (fun s' => typeIs_int s' k t) noFill_tuple_mul F.fills_int_mul F.slot_int_rmul repeat_tuple F.slot_int_index.lookup ?_
      refine call_meets F.slot_int_rmul (typeIs_int s k t) F.entry_int_rmul (F.args_int_rmul_2 _ _) (int_rmul_tuple k t l its.toArray n dd sl) ⟨ho, rfl, ⟨_, ho, rfl⟩, ?_⟩
      refine call_meets F.slot_tuple_mul ⟨_, ho, rfl⟩ F.entry_tuple_mul (F.args_tuple_mul_2 _ _) (tmul_none l its.toArray n dd sl t k b0 b1 b2) ⟨ho, ?_⟩
      refine ⟨.ref s.heap.objs.size, _, I.laid (t' := s.toks) (o := .tup []) (fun b ob z => Heap.get?_push_of_some _ z) (Nat.le_refl _) ?_, rfl, q0 k0 _ (I.hok.fresh (Nat.le_refl _))⟩
      exact ⟨Nat.zero_le _, [], .nil, IsTup.new _ _⟩
end
/-! enumerate of a tuple -/
def Iet (K : PySem.W.Frag) (a : Addr) : It where
  go := fun i H => ∃ (xs : List V) (x : V), SqT K H a xs ∧ xs[i]? = some x
  yld := fun i H v H' => ∃ T x, v = .ref T ∧ H T = none ∧ H' = upd H T (.tup [.int (i : Nat), x]) ∧ ∀ xs, SqT K H a xs → xs[i]? = some x
  stop := fun i H => ∃ xs : List V, SqT K H a xs ∧ xs.length = i
theorem enum_new1 {v : Value} {o : Obj} {Hh : Heap → Prop} (B : Begins v o Hh) : Meets (Builtin.«enumerate.__new__» ⟨[.type "enumerate", v], []⟩) (fun _ R s => Hh s.heap ∧
      R (.ok (.ret (.ref (s.heap.push o).objs.size))) { s with heap := (s.heap.push o).push { cls := .type "enumerate", data := .fields #[.none, .bool false, .ref s.heap.objs.size, rawInt 0, .none, .none] } }) := by
  refine .of_wp fun pg ww AA RR ss hh => ?_
  obtain ⟨h1, h2, h3, h4, h5⟩ := ss
  obtain ⟨b1, hh⟩ := hh
  have sube := sub_enumerate
  have qi : ∀ {A' : Around} {E' : Value → Shared → Prop} {Q' : Value → Shared → Prop}, Q' (.ref h1.objs.size) ⟨h1.push o, h2, h3, h4, h5⟩ → wpAny (model pg ww) A' (pyIter v) Q' E' ⟨h1, h2, h3, h4, h5⟩ :=
    fun z => B.iter pg ww _ _ ⟨h1, h2, h3, h4, h5⟩ _ b1 z
  wp_walk
  refine wpAny_stack_any fun st => wpAny_pure ?_
  split
  · rename_i cc _ _ _ _ _
    cases (cc == Value.type "enumerate") <;>
      (wp_walk using qi
       exact ⟨_, rfl, hh⟩)
  · wp_walk using qi
    exact ⟨_, rfl, hh⟩
section
variable {prog : Program} {w : World} {A : Around} {E : Value → Shared → Prop} {s : Shared}
theorem call_enum1 {v : Value} {o : Obj} {Hh : Heap → Prop} {Q : Value → Shared → Prop} (B : Begins v o Hh) (b1 : Hh s.heap)
    (h : ∀ h', IsEnum h' (s.heap.objs.size + 1) s.heap.objs.size 0 .none → h'.get? s.heap.objs.size = some o → h'.objs.size = s.heap.objs.size + 2 → (∀ b o, s.heap.get? b = some o → h'.get? b = some o) → Q (.ref (s.heap.objs.size + 1)) { s with heap := h' }) :
    wpAny (model prog w) A (call (.type "enumerate") [v]) Q E s := by
  refine callType_new F.called_enumerate (by decide) (F.typeCall_enumerate_1 _) (F.newCall_enumerate_1 _) (fun obj => F.args_object_init_2 obj _) F.entry_enumerate_new (enum_new1 B) ⟨b1, ?_⟩
  have z1 : (s.heap.push o).objs.size = s.heap.objs.size + 1 := Heap.size_push ..
  show _ ∧ _
  rw [z1]
  have ie : IsEnum ((s.heap.push o).push { cls := .type "enumerate", data := .fields #[.none, .bool false, .ref s.heap.objs.size, rawInt 0, .none, .none] }) (s.heap.objs.size + 1) s.heap.objs.size 0 .none := by
    have q := Heap.get?_push_size (s.heap.push o) (o := { cls := .type "enumerate", data := .fields #[.none, .bool false, .ref s.heap.objs.size, rawInt 0, .none, .none] }) rfl
    rw [z1] at q
    exact q
  exact ⟨⟨_, ie, rfl⟩, h _ ie (Heap.get?_push_of_some _ (Heap.get?_push_size _ B.free)) (by rw [Heap.size_push, z1]) fun b o' x => Heap.get?_push_of_some _ (Heap.get?_push_of_some _ x)⟩
end
theorem turn_enumT {P : Program} {w : World} {K : PySem.W.Frag} {elts : List Expr} {kk : Nat} {tpos : Pos} (a e it : Addr) (hae : a ≠ e) (hai : a ≠ it) :
    Turn P w K (.Tuple elts kk tpos) (Iet K a) [e, it] e (fun i h => (∃ old, IsEnum h e it ((i : Nat) : Int) old) ∧ h.IsTupleIter it a i ∧ e ≠ it) where
  mem := List.mem_cons_self ..
  obj := by
    rintro i h ⟨⟨old, he⟩, ⟨o, ho, hc, hd⟩, _⟩ b hb
    rcases List.mem_cons.mp hb with rfl | hb
    · exact ⟨_, he, fun v q => nomatch q⟩
    · rw [List.mem_singleton.mp hb]
      exact ⟨o, ho, fun v q => by rw [hd] at q; cases q⟩
  keep := by
    rintro i h h' ⟨⟨old, he⟩, hi, ne⟩ k
    exact ⟨⟨old, k e (by simp) _ he⟩, hi.at fun o q => k it (by simp) o q, ne⟩
  item := by
    rintro X rfl rfl rfl hc i pins s σ H E I hf ⟨⟨old, he⟩, hit, hne⟩ ⟨xs, x, hq, hx⟩
    obtain ⟨its, rv, hT, hz⟩ := I.tuple hq
    have hT' : s.heap.IsTuple a its.toArray := hT
    obtain ⟨u, hu, ru⟩ := rv.get hx
    have le : e < s.heap.objs.size := Heap.lt_size he
    have li : it < s.heap.objs.size := by
      obtain ⟨_, q, _⟩ := hit
      exact Heap.lt_size q
    have hlt : i < its.toArray.size := by
      have := (List.getElem?_eq_some_iff.mp hu).1
      simpa using this
    refine wpAny_pyNext_enum_itemD (Draws.tuple (A := X.A.in1) (I.ok.hd hc) it a hai its.toArray) he ⟨hit, hT'⟩ hlt hne ?_ fun y h' tk hy ho hit' hnew hsz hk => ?_
    · intro hb
      rcases List.mem_cons.mp hb with q | q
      · exact hne q
      · exact hae (List.mem_singleton.mp q).symm
    · have hyu : y = u := by
        have e1 : its.toArray[i]? = some y := hy
        rw [List.getElem?_toArray, hu] at e1
        exact (Option.some.inj e1).symm
      subst hyu
      refine ⟨_, rfl, wpAny_letOwnedTupleGo_enum (s := { s with heap := h', toks := tk + 1 }) ho fun h2 he2 sb => ?_⟩
      have hT2 : h2.get? s.heap.objs.size = some { cls := .type "tuple", data := .seq #[.int i tk, y] } := (sb.2 _ (Nat.ne_of_gt le)).trans hnew
      have nob : ObjOk X.prog X.w (upd H s.heap.objs.size (.tup [.int (i : Nat), x])) h2 s.heap.objs.size (.tup [.int (i : Nat), x]) :=
        ⟨by show 2 ≤ sizeLine; decide, [.int i tk, y], .cons ⟨_, rfl⟩ (.cons ru .nil), ⟨_, hT2, rfl, _, rfl⟩⟩
      have J : Inv X pins σ (upd H s.heap.objs.size (.tup [.int (i : Nat), x])) { s with heap := h2, toks := tk + 1 } :=
        I.turnedNew (ch := [e, it]) (fun b ob hb q => (sb.2 b (fun z => hb (by simp [z]))).trans (hk b ob (fun z => hb (by simp [z])) (fun z => hb (by simp [z])) q)) hf (Nat.le_refl _) nob
      refine ⟨.ref s.heap.objs.size, _, J, rfl, ⟨_, x, rfl, I.hok.fresh (Nat.le_refl _), rfl, fun ys hy => by rw [I.tuple_inj hy hq]; exact hx⟩, ⟨⟨y, ?_⟩, hit'.1.at fun o q => (sb.2 it (Ne.symm hne)).trans q, hne⟩, fun b hb => ?_⟩
      · have e1 : ((i + 1 : Nat) : Int) = (i : Int) + 1 := by omega
        rw [e1]
        exact he2
      · have lb : b < s.heap.objs.size := by
          rcases List.mem_cons.mp hb with z | z
          · rw [z]
            exact le
          · rw [List.mem_singleton.mp z]
            exact li
        rw [upd_ne (Nat.ne_of_lt lb)]
        exact (hf b hb).1
  done := by
    rintro X rfl rfl rfl hc i pins s σ H E I hf ⟨⟨old, he⟩, hit, hne⟩ ⟨xs, hq, hx⟩
    obtain ⟨its, rv, hT, hz⟩ := I.tuple hq
    have hT' : s.heap.IsTuple a its.toArray := hT
    have hn : i = its.toArray.size := by rw [List.size_toArray, ← hx, rv.length]
    subst hn
    obtain ⟨f0, f1, f2, f3, f4, f5⟩ := hf it (by simp)
    exact wpAny_pyNext_enum_endD (Draws.tuple (A := X.A.in1) (I.ok.hd hc) it a hai its.toArray) he ⟨hit, hT'⟩ fun h' eb => ⟨rfl, I.turned (t' := s.toks) (fun b o hb q => eb b o hb q) f0 f1 f3 f4 f5⟩
  self := fun A i s Q E st h => let ⟨⟨_, he⟩, _⟩ := st; wpAny_pyIter_enum he h
def iEnumT (K : PySem.W.Frag) (ta : TA) : TI := fun σ H R => ta σ H fun vs H1 => ∃ a xs, vs = [.ref a] ∧ SqT K H1 a xs ∧ R (Iet K a) H1
theorem pi_enumT {X : Cx} {e : Expr} {ta : TA} {p pos tpos : Pos} {elts : List Expr} {kk : Nat} (hg : Gl X "enumerate") (hm : X.mg "enumerate" = none) (ha : PA X [e] ta) (hs : starEach [e] X.env = [(false, eval e X.env)] := by rfl) :
    PI X (.Tuple elts kk tpos) (.Call (.Name "enumerate" p) [e] [] pos) (iEnumT X.K ta) := by
  refine ⟨fun pins s σ H R I h => ?_⟩
  refine Call_ (ld_blt I hg hm boot_enumerate ?_)
  refine PyProof.Rows.callWith_type1 (thn (ha.run pos pins s σ H _ I h) fun us s1 ⟨vs, H1, I1, r1, q1⟩ => ?_) hs rfl
  obtain ⟨a, xs, rfl, hq, q⟩ := q1
  obtain ⟨u, rfl, ru⟩ := vals1 r1
  cases ru
  obtain ⟨its, rv, hT, hz⟩ := I1.tuple hq
  have hT' : s1.heap.IsTuple a its.toArray := hT
  have la : a < s1.heap.objs.size := by
    obtain ⟨o, ho, _⟩ := hT'
    exact Heap.lt_size ho
  refine call_enum1 (begins_tuple a its.toArray) hT' fun h' ie hit hsz hk => wpAny_pyIter_enum ie ?_
  have I2 : Inv X pins σ H1 { s1 with heap := h' } := I1.kept (t' := s1.toks) hk
  refine ⟨s1.heap.objs.size + 1, [s1.heap.objs.size + 1, s1.heap.objs.size], _, _, H1, rfl, I2, turn_enumT a (s1.heap.objs.size + 1) s1.heap.objs.size (Nat.ne_of_lt (Nat.lt_succ_of_lt la)) (Nat.ne_of_lt la), ⟨⟨.none, ie⟩, ⟨_, hit, rfl, rfl⟩, Nat.succ_ne_self _⟩, fun b hb => ?_, q⟩
  have lb : s1.heap.objs.size ≤ b := by
    rcases List.mem_cons.mp hb with z | z
    · rw [z]
      exact Nat.le_succ _
    · rw [List.mem_singleton.mp z]
      exact Nat.le_refl _
  exact I1.fpOk lb (I1.hok.fresh lb)
section
variable {K : PySem.W.Frag} {a : Addr} {xs : List V} {σ : L2.St}
/-- for i, x in enumerate(tuple) -/
theorem for_enumT {g : TG} {tb : TS} {D : Ends} {H : Hp} (Pv : Nat → L2.St → Hp → Prop) (h0 : Pv 0 σ H) (hl : ∀ i σ H, i ≤ xs.length → Pv i σ H → SqT K H a xs)
    (hs : ∀ i x σ H T, xs[i]? = some x → Pv i σ H → H T = none → g (.ref T) σ (upd H T (.tup [.int (i : Nat), x])) fun σ2 H2 => tb { D with nx := Pv (i + 1), ct := Pv (i + 1), bk := D.nx } σ2 H2) (hd : ∀ σ H, Pv xs.length σ H → D.nx σ H) :
    ∃ W : Nat → Nat → L2.St → Hp → Prop, (∃ m, W 0 m σ H) ∧ ∀ i m σ H, W i m σ H →
      ((Iet K a).stop i H ∧ D.nx σ H) ∨ ((Iet K a).go i H ∧ ∃ N : L2.St → Hp → Prop, (∀ σ' H', N σ' H' → ∃ m', m' < m ∧ W (i + 1) m' σ' H') ∧ ∀ x H', (Iet K a).yld i H x H' → g x σ H' fun σ2 H2 => tb { D with nx := N, ct := N, bk := D.nx } σ2 H2) := by
  refine ⟨fun i m σ H => i + m = xs.length ∧ Pv i σ H, ⟨xs.length, by omega, h0⟩, ?_⟩
  rintro i m σ H ⟨hm, p⟩
  have q := hl i σ H (by omega) p
  by_cases hlt : i < xs.length
  · refine .inr ⟨⟨xs, xs[i], q, List.getElem?_eq_getElem hlt⟩, Pv (i + 1), fun σ' H' p' => ⟨m - 1, by omega, by omega, p'⟩, fun v H' y => ?_⟩
    obtain ⟨T, x, rfl, hT, rfl, y⟩ := y
    exact hs i x σ H T (y xs q) p hT
  · have e : i = xs.length := by omega
    subst e
    exact .inl ⟨⟨xs, q, rfl⟩, hd σ H p⟩
/-- [.. for i, x in enumerate(tuple) ..] -/
theorem lc_enumT {g : TG} {tt : TT} {te : TE} {vs : List Nat} {H1 : Hp} {D : Addr} {Qd : Hp → Prop} (Pv : Nat → Hp → Prop) (h0 : Pv 0 (upd H1 D (.lst []))) (hl : ∀ i H, i ≤ xs.length → Pv i H → SqT K H a xs)
    (hs : ∀ i x H T, xs[i]? = some x → Pv i H → H T = none → g (.ref T) (wipe σ vs) (upd H T (.tup [.int (i : Nat), x])) fun σ2 H2 => wipe σ2 vs = wipe σ vs ∧ tt σ2 H2 fun b H3 =>
      if b = true then te σ2 H3 fun y H4 => ∃ acc, H4 D = some (.lst acc) ∧ acc.length < sizeLine ∧ Pv (i + 1) (upd H4 D (.lst (acc ++ [y]))) else Pv (i + 1) H3) (hd : ∀ H, Pv xs.length H → Qd H) :
    ∃ W : Nat → Nat → Hp → Prop, (∃ m, W 0 m (upd H1 D (.lst []))) ∧ ∀ i m H, W i m H →
      ((Iet K a).stop i H ∧ Qd H) ∨ ((Iet K a).go i H ∧ ∃ Nx : Hp → Prop, (∀ H', Nx H' → ∃ m', m' < m ∧ W (i + 1) m' H') ∧ ∀ x H', (Iet K a).yld i H x H' → g x (wipe σ vs) H' fun σ2 H2 => wipe σ2 vs = wipe σ vs ∧ tt σ2 H2 fun b H3 =>
        if b = true then te σ2 H3 fun y H4 => ∃ acc, H4 D = some (.lst acc) ∧ acc.length < sizeLine ∧ Nx (upd H4 D (.lst (acc ++ [y]))) else Nx H3) := by
  refine ⟨fun i m H => i + m = xs.length ∧ Pv i H, ⟨xs.length, by omega, h0⟩, ?_⟩
  rintro i m H ⟨hm, p⟩
  have q := hl i H (by omega) p
  by_cases hlt : i < xs.length
  · refine .inr ⟨⟨xs, xs[i], q, List.getElem?_eq_getElem hlt⟩, Pv (i + 1), fun H' p' => ⟨m - 1, by omega, by omega, p'⟩, fun v H' y => ?_⟩
    obtain ⟨T, x, rfl, hT, rfl, y⟩ := y
    exact hs i x H T (y xs q) p hT
  · have e : i = xs.length := by omega
    subst e
    exact .inl ⟨⟨xs, q, rfl⟩, hd H p⟩
end
def topS (i : Nat) : Stmt := PySem.Challenge.pw_limitrun_k58_limit_rules_exchanged.main.body.getD i (.Pass ⟨0, 0, 0, 0⟩)
abbrev sMix : Stmt := topS 22
abbrev sSou : Stmt := topS 23
abbrev sPic : Stmt := topS 24
abbrev sCho : Stmt := topS 25
abbrev sIde : Stmt := topS 26
theorem scMix : FnScope ["number", "place", "prime", "value", "turn"] ["number", "place"] (defScope sMix) := ⟨rfl, rfl, rfl, by decide +kernel, rfl, by decide +kernel, by decide +kernel⟩
section
variable {P : Program} {w : World} {K : PySem.W.Frag} {mg : Str → Option Value} {base : Heap}
/-- mixed: some number, not negative -/
def spMix : Sp := fun vs H Q _ => ∃ n i : Int, vs = [.int n, .int i] ∧ ∀ r : Int, 0 ≤ r → Q (.int r) H
theorem mod14 : (14 : Int) ≠ 0 := by decide
theorem modM : (2305843009213693951 : Int) ≠ 0 := by decide
theorem fmod_lo {a : Int} : 0 ≤ a.fmod 2305843009213693951 := Int.fmod_nonneg_of_pos _ (by decide)
theorem fmod_hi {a : Int} : a.fmod 2305843009213693951 < 2305843009213693951 := Int.fmod_lt_of_pos _ (by decide)
theorem ok_mix {f : Addr} {fd : FuncData} {k : Nat} (F : Fun K "_law_mixed" "_law_mixed" sMix f fd) (mr : mg "range" = none) : FnOk P w K mg base CX0 (k + 1) f fd ["number", "place"] spMix := by
  refine F.ok scMix (fun vs H Q E h => ?_) (fun cdv A outer s H vs Q E hr h => ?_)
  · obtain ⟨n, i, rfl, _⟩ := h
    rfl
  · obtain ⟨n, i, rfl, q⟩ := h
    refine ⟨_, (pss_cons (ps_set (i := 2) scMix.nd rfl (.inl rfl) (pe_int))
        (pss_cons (ps_set (i := 3) scMix.nd rfl (.inl rfl) (pe_op op_modN (pe_op op_add (pe_op op_add (pe_op op_mul (pe_op op_modN (pv 0) (pv 2)) (pe_op op_add (pe_op op_mul (pe_int) (pv 1)) (pe_int))) (pe_op op_mul (pe_int) (pv 1))) (pe_int)) (pv 2)))
        (pss_cons (ps_for PassesOwn.never rfl (pi_range1 rfl mr (pa_cons pe_int pa_nil)) (pg_name (i := 4) scMix.nd rfl (.inl rfl)) (pss_one (ps_set (i := 3) scMix.nd rfl (.inl rfl) (pe_op op_modN (pe_op op_add (pe_op op_add (pe_op op_add (pe_op op_mul (pv 3) (pv 3)) (pe_op op_mul (pe_op op_add (pv 4) (pe_int)) (pv 3))) (pe_op op_mul (pe_int) (pv 1))) (pe_int)) (pv 2)))))
        (pss_one (ps_ret (pe_op op_add (pe_op op_mul (pv 3) (pv 2)) (pe_op op_modN (pe_op op_add (pe_op op_mul (pv 3) (pe_int)) (pv 1)) (pv 2)))))))), ?_⟩
    have l1 := fmod_lo (a := n)
    have l2 := fmod_hi (a := n)
    refine ⟨_, rfl, _, rfl, _, _, rfl, rfl, modM, _, rfl, _, _, rfl, rfl, .inl ⟨by decide, by decide⟩, _, _, rfl, rfl, _, _, rfl, rfl, .inl ⟨by omega, by omega⟩, _, rfl, _, _, rfl, rfl, .inl ⟨by decide, by decide⟩, _, _, rfl, rfl, _, _, rfl, rfl, _, rfl, _, _, rfl, rfl, modM, ?_⟩
    refine ⟨4, rfl, by decide, by decide, for_range (n := 4) (fun t σ H' => ∃ (z : Int) (y : Option V), σ = [some (.int n), some (.int i), some (.int 2305843009213693951), some (.int z), y] ∧ 0 ≤ z ∧ z < 2305843009213693951 ∧ H' = H) ⟨_, none, rfl, fmod_lo, fmod_hi, rfl⟩ ?_ ?_⟩
    · rintro t σ H' ht ⟨z, y, rfl, h0, h1, rfl⟩
      refine ⟨_, rfl, _, rfl, _, _, rfl, rfl, .inl ⟨by omega, by omega⟩, _, rfl, _, _, rfl, rfl, _, rfl, _, _, rfl, rfl, .inr ⟨by omega, by omega⟩, _, _, rfl, rfl, _, rfl, _, _, rfl, rfl, .inl ⟨by decide, by decide⟩, _, _, rfl, rfl, _, _, rfl, rfl, _, rfl, _, _, rfl, rfl, modM, ?_⟩
      exact ⟨_, _, rfl, fmod_lo, fmod_hi, rfl⟩
    · rintro σ H' ⟨z, y, rfl, h0, h1, rfl⟩
      refine ⟨_, rfl, _, rfl, _, _, rfl, rfl, .inl ⟨by omega, by omega⟩, _, rfl, _, _, rfl, rfl, .inr ⟨by decide, by decide⟩, _, rfl, _, _, rfl, rfl, _, rfl, _, _, rfl, rfl, modM, _, _, rfl, rfl, ?_⟩
      refine q _ ?_
      have := fmod_lo (a := z * 69621 + i)
      omega

/-! the source of draws: [numbers, i, x], all not negative -/
def Src (H : Hp) (a n : Addr) : Prop := ∃ (i x : Int) (ns : List Int), H a = some (.lst [.ref n, .int i, .int x]) ∧ H n = some (.lst (ns.map V.int)) ∧ (∀ z ∈ ns, 0 ≤ z) ∧ 0 ≤ i ∧ 0 ≤ x ∧ ns.length ≤ 14
/-- the source stands at a still; all else that was tracked is as it was -/
def Stp (a n : Addr) (H H' : Hp) : Prop := Src H' a n ∧ ∀ c o, H c = some o → c ≠ a → H' c = some o
theorem Stp.trans {a n : Addr} {H H1 H2 : Hp} (h : Stp a n H H1) (h2 : Stp a n H1 H2) : Stp a n H H2 := ⟨h2.1, fun c o e z => h2.2 c o (h.2 c o e z) z⟩
theorem Stp.seq {a m l : Addr} {H H' : Hp} {xs : List V} (h : Stp a m H H') (n : l ≠ a) (q : SqL K H l xs) : SqL K H' l xs := by
  rcases q with (q | ⟨o, q⟩) | q
  · exact .inl (.inl (h.2 _ _ q n))
  · exact .inl (.inr ⟨o, h.2 _ _ q n⟩)
  · exact .inr q
theorem Src.ne {H : Hp} {a n : Addr} {i x : Int} {ns : List Int} (h : H a = some (.lst [.ref n, .int i, .int x])) (h2 : H n = some (.lst (ns.map V.int))) : n ≠ a := fun e => by
  rw [e, h] at h2
  cases ns with
  | nil => cases h2
  | cons z r => cases h2
theorem same_upd {H : Hp} {p : Addr} {o : HO} (h : H p = none) : Same H (upd H p o) := fun b x e => by
  rw [upd_ne (ne_of_none e h)]
  exact e
theorem take_min (xs : List V) (n : Nat) : xs.take (min n xs.length) = xs.take n := by
  by_cases h : n ≤ xs.length
  · rw [Nat.min_eq_left h]
  · rw [Nat.min_eq_right (by omega), List.take_length, List.take_of_length_le (by omega)]
theorem cut_to (xs : List V) (n : Nat) : cutV xs none (some (n : Int)) = xs.take n := by
  unfold cutV
  rw [HT.sIx_none, HT.sIx_nat, List.drop_zero, Nat.sub_zero, take_min]
theorem cut_mid (xs : List V) (n m : Nat) (hnm : n ≤ m) : cutV xs (some (n : Int)) (some (m : Int)) = (xs.drop n).take (m - n) := by
  unfold cutV
  rw [HT.sIx_nat, HT.sIx_nat]
  by_cases h : n ≤ xs.length
  · rw [Nat.min_eq_left h]
    by_cases h2 : m ≤ xs.length
    · rw [Nat.min_eq_left h2]
    · rw [Nat.min_eq_right (by omega), List.take_of_length_le (by rw [List.length_drop]; omega), List.take_of_length_le (by rw [List.length_drop]; omega)]
  · rw [Nat.min_eq_right (show xs.length ≤ n by omega), List.drop_of_length_le (Nat.le_refl _), List.drop_of_length_le (show xs.length ≤ n by omega), List.take_nil, List.take_nil]
theorem cut_from (xs : List V) (n : Nat) : cutV xs (some (n : Int)) none = xs.drop n := by
  unfold cutV
  rw [HT.sIx_none, HT.sIx_nat]
  by_cases h : n ≤ xs.length
  · rw [Nat.min_eq_left h, List.take_of_length_le (by rw [List.length_drop]; omega)]
  · rw [Nat.min_eq_right (by omega), List.drop_of_length_le (by omega), List.drop_of_length_le (by omega), List.take_nil]
/-- for i, x in enumerate(list) -/
theorem for_enum {a : Addr} {xs : List V} {g : TG} {tb : TS} {D : Ends} {σ : L2.St} {H : Hp} (Pv : Nat → L2.St → Hp → Prop) (h0 : Pv 0 σ H) (hl : ∀ i σ H, i ≤ xs.length → Pv i σ H → SqL K H a xs)
    (hs : ∀ i x σ H T, xs[i]? = some x → Pv i σ H → H T = none → g (.ref T) σ (upd H T (.tup [.int (i : Nat), x])) fun σ2 H2 => tb { D with nx := Pv (i + 1), ct := Pv (i + 1), bk := D.nx } σ2 H2) (hd : ∀ σ H, Pv xs.length σ H → D.nx σ H) :
    ∃ W : Nat → Nat → L2.St → Hp → Prop, (∃ m, W 0 m σ H) ∧ ∀ i m σ H, W i m σ H →
      ((Ite K a).stop i H ∧ D.nx σ H) ∨ ((Ite K a).go i H ∧ ∃ N : L2.St → Hp → Prop, (∀ σ' H', N σ' H' → ∃ m', m' < m ∧ W (i + 1) m' σ' H') ∧ ∀ x H', (Ite K a).yld i H x H' → g x σ H' fun σ2 H2 => tb { D with nx := N, ct := N, bk := D.nx } σ2 H2) := by
  refine ⟨fun i m σ H => i + m = xs.length ∧ Pv i σ H, ⟨xs.length, by omega, h0⟩, ?_⟩
  rintro i m σ H ⟨hm, p⟩
  have q := hl i σ H (by omega) p
  by_cases hlt : i < xs.length
  · refine .inr ⟨⟨xs, xs[i], q, List.getElem?_eq_getElem hlt⟩, Pv (i + 1), fun σ' H' p' => ⟨m - 1, by omega, by omega, p'⟩, fun v H' y => ?_⟩
    obtain ⟨T, x, rfl, hT, rfl, y⟩ := y
    exact hs i x σ H T (y xs q) p hT
  · have e : i = xs.length := by omega
    subst e
    exact .inl ⟨⟨xs, q, Nat.le_refl _⟩, hd σ H p⟩
/-! ### draws -/
def absI (i : Int) : Int := if i < 0 then -i else i
theorem absI_nn (i : Int) : 0 ≤ absI i := by
  unfold absI
  split <;> omega
theorem scSou : FnScope ["script", "number", "numbers", "place"] ["script"] (defScope sSou) := ⟨rfl, rfl, rfl, by decide +kernel, rfl, by decide +kernel, by decide +kernel⟩
def spSou (K : PySem.W.Frag) : Sp := fun vs H Q _ => ∃ (a : Addr) (ns : List Int), vs = [.ref a] ∧ SqL K H a (ns.map V.int) ∧ ns.length ≤ 63 ∧ ∀ H' p n, Same H H' → H p = none → H n = none → Src H' p n → Q (.ref p) H'
theorem map_get {ns : List Int} {i : Nat} {y : V} (h : (ns.map V.int)[i]? = some y) : ∃ z, ns[i]? = some z ∧ y = .int z := by
  rw [List.getElem?_map] at h
  cases e : ns[i]? with
  | none =>
    rw [e] at h
    cases h
  | some z =>
    rw [e] at h
    exact ⟨z, rfl, (Option.some.inj h).symm⟩
theorem ok_sou {f : Addr} {fd : FuncData} {k : Nat} (F : Fun K "_law_source" "_law_source" sSou f fd) (me : mg "enumerate" = none) (ma : mg "abs" = none) : FnOk P w K mg base CX0 (k + 1) f fd ["script"] (spSou K) := by
  refine F.ok scSou (fun vs H Q E h => ?_) (fun cdv A outer s H vs Q E hr h => ?_)
  · obtain ⟨a, ns, rfl, _⟩ := h
    rfl
  · obtain ⟨a, ns, rfl, hS, hlen, q⟩ := h
    refine ⟨_, pss_cons (ps_setLc (i := 2) (own := [("number", 1)]) (g := gName 1) (tt := tYes) (by rfl) scSou.nd rfl rfl (sw_true rfl rfl rfl (by decide +kernel)) (pi_list (pe_slice sl_list (pv 0) po_none (po_some pe_int))) (blkOk_by (N := ["script", "number", "numbers", "place"]) (sc := defScope sSou) (by decide +kernel))
        (fun _ _ _ _ _ => pg_name (i := 1) scSou.nd rfl (.inl rfl)) (fun _ _ _ _ _ => pts_nil) (fun _ _ _ _ _ => pe_callB call_abs (by rfl) ma (by decide +kernel) (pa_cons (pv 1) pa_nil)))
      (pss_cons (ps_for PassesOwn.never rfl (pi_enum (by rfl) me (pa_cons (pe_slice sl_list (pv 0) (po_some pe_int) (po_some pe_int)) pa_nil)) (pg_tup rfl (pgs_cons (pg_name (i := 3) scSou.nd rfl (.inl rfl)) (pgs_cons (pg_name (i := 1) scSou.nd rfl (.inl rfl)) pgs_nil)))
        (pss_one (ps_asg (pe_op op_add (pe_ix ix_list (pv 2) (pe_op op_modN (pv 3) pe_int) (fun _ _ => rfl)) (pe_callB call_abs (by rfl) ma (by decide +kernel) (pa_cons (pv 1) pa_nil))) (pg_sub (pv 2) (pe_op op_modN (pv 3) pe_int) set_list))))
      (pss_one (ps_ret (pe_lst (pa_cons (pv 2) (pa_cons pe_int (pa_cons pe_int pa_nil))))))), ?_⟩
    have e1 : cutV (ns.map V.int) none (some 14) = (ns.take 14).map V.int := by
      rw [List.map_take]
      exact cut_to _ 14
    have e2 : cutV (ns.map V.int) (some 14) (some 63) = ((ns.drop 14).take 49).map V.int := by
      rw [List.map_take, List.map_drop]
      exact cut_mid _ 14 63 (by omega)
    refine ⟨.ref a, rfl, 14, rfl, a, ns.map V.int, rfl, hS, fun c nc => ⟨c, rfl, ⟨_, .inl (.inl upd_same)⟩, fun D nD => lc_list (K := K) (a := c) (xs := (ns.take 14).map V.int)
      (fun i H' => Same H H' ∧ H' c = some (.lst ((ns.take 14).map V.int)) ∧ H' D = some (.lst ((((ns.take 14).take i).map absI).map V.int))) ?_ ?_ ?_ ?_⟩⟩
    · have ncD : c ≠ D := fun e => by
        rw [← e, upd_same] at nD
        cases nD
      refine ⟨(same_upd nc).trans (same_upd nD), ?_, upd_same⟩
      rw [upd_ne ncD, upd_same, e1]
    · exact fun i H' _ h => .inl (.inl h.2.1)
    · rintro i y H1 hy ⟨sm, hc, hD⟩
      obtain ⟨z, hz, rfl⟩ := map_get hy
      refine ⟨rfl, _, rfl, z, rfl, _, hD, ?_, fun b o e => ?_, ?_, ?_⟩
      · rw [List.length_map, List.length_map]
        exact small1000 (by simp only [List.length_take]; omega)
      · rw [upd_ne (ne_of_none e ((same_upd nc).free nD))]
        exact sm _ _ e
      · have ncD : c ≠ D := fun e => by
          rw [← e, upd_same] at nD
          cases nD
        rw [upd_ne ncD]
        exact hc
      · rw [upd_same, List.take_add_one (l := List.take 14 ns), hz]
        simp only [Option.toList, List.map_append, List.map_cons, List.map_nil]
        rfl
    · rintro H1 ⟨sm, hc, hD⟩
      rw [List.length_map, List.take_length] at hD
      have hnD : H D = none := (same_upd nc).free nD
      generalize hms : (ns.take 14).map absI = ms at hD
      have hms0 : ∀ z ∈ ms, 0 ≤ z := fun z h => by
        rw [← hms] at h
        obtain ⟨u, _, rfl⟩ := List.mem_map.mp h
        exact absI_nn u
      have hml : ms.length = min 14 ns.length := by rw [← hms, List.length_map, List.length_take]
      refine ⟨.ref a, rfl, 14, rfl, 63, rfl, a, ns.map V.int, rfl, sm.seq hS, fun c2 nc2 => ⟨c2, _, rfl, .inl (.inl upd_same), ?_⟩⟩
      have nD2 : D ≠ c2 := ne_of_none hD nc2
      refine for_enum (K := K) (a := c2) (xs := ((ns.drop 14).take 49).map V.int) (fun i σ H' => ∃ (y1 y3 : Option V) (ks : List Int), σ = [some (.ref a), y1, some (.ref D), y3] ∧ Same H H' ∧ H' c2 = some (.lst (((ns.drop 14).take 49).map V.int)) ∧ H' D = some (.lst (ks.map V.int)) ∧ ks.length = ms.length ∧ ∀ z ∈ ks, 0 ≤ z) ?_ ?_ ?_ ?_
      · refine ⟨_, none, ms, rfl, sm.trans (same_upd nc2), ?_, ?_, rfl, hms0⟩
        · rw [upd_same, e2]
        · rw [upd_ne nD2]
          exact hD
      · rintro i σ H' _ ⟨_, _, _, _, _, hc2, _⟩
        exact .inl (.inl hc2)
      · rintro i x σ H' T hx ⟨y1, y3, ks, rfl, sm', hc2, hD', hl', hn'⟩ hT
        obtain ⟨z, hz, rfl⟩ := map_get hx
        have hi : i < ((ns.drop 14).take 49).length := (List.getElem?_eq_some_iff.mp hz).1
        rw [List.length_take, List.length_drop] at hi
        have hj : i % 14 < ks.length := by
          rw [hl', hml, Nat.min_eq_left (by omega)]
          exact Nat.mod_lt _ (by decide)
        have ej : ((i : Int)).fmod 14 = ((i % 14 : Nat) : Int) := by
          rw [Int.fmod_eq_emod_of_nonneg _ (by decide)]
          omega
        have hDT : D ≠ T := ne_of_none hD' hT
        have hD2 : (upd H' T (.tup [.int (i : Nat), .int z])) D = some (.lst (ks.map V.int)) := by
          rw [upd_ne hDT]
          exact hD'
        have gk : (ks.map V.int)[i % 14]? = some (.int ks[i % 14]) := by
          rw [List.getElem?_map, List.getElem?_eq_getElem hj]
          rfl
        refine ⟨T, _, rfl, .inl (.inl upd_same), rfl, _, _, rfl, _, _, rfl, rfl, ?_⟩
        refine ⟨_, rfl, _, rfl, _, _, rfl, rfl, mod14, D, ks.map V.int, _, _, rfl, rfl, .inl (.inl hD2), at_of ej gk, _, rfl, z, rfl, _, _, rfl, rfl, ?_⟩
        refine ⟨_, rfl, _, rfl, _, _, rfl, rfl, mod14, D, ks.map V.int, _, i % 14, rfl, rfl, hD2, ?_, ?_⟩
        · rw [ej, List.length_map]
          exact Evl.ixN_nat hj
        · refine ⟨_, _, ks.set (i % 14) (ks[i % 14] + absI z), rfl, fun b o e => ?_, ?_, ?_, by rw [List.length_set, hl'], ?_⟩
          · have nb : b ≠ D := ne_of_none e hnD
            rw [upd_ne nb, upd_ne (ne_of_none (sm' _ _ e) hT)]
            exact sm' _ _ e
          · have nc2D : c2 ≠ D := nD2.symm
            rw [upd_ne nc2D, upd_ne (ne_of_none hc2 hT)]
            exact hc2
          · rw [upd_same, List.map_set]
            rfl
          · intro u hu
            rcases List.mem_or_eq_of_mem_set hu with h | rfl
            · exact hn' _ h
            · have := hn' _ (List.getElem_mem hj)
              have := absI_nn z
              omega
      · rintro σ H' ⟨y1, y3, ks, rfl, sm', hc2, hD', hl', hn'⟩
        refine ⟨_, rfl, by show 3 ≤ sizeLine; decide, fun p np => ?_⟩
        refine q _ p D (sm'.trans (same_upd np)) (sm'.free np) hnD ⟨0, 0, ks, upd_same, ?_, hn', by decide, by decide, by rw [hl', hml]; omega⟩
        rw [upd_ne (ne_of_none hD' np)]
        exact hD'
end

section
variable {P : Program} {w : World} {K : PySem.W.Frag} {mg : Str → Option Value} {base : Heap}
/-! ### pick -/
theorem scPic : FnScope ["source", "many", "numbers", "place", "number", "found"] ["source", "many"] (defScope sPic) := ⟨rfl, rfl, rfl, by decide +kernel, rfl, by decide +kernel, by decide +kernel⟩
def spPic : Sp := fun vs H Q _ => ∃ (a n : Addr) (b : Int), vs = [.ref a, .int b] ∧ Src H a n ∧ 0 < b ∧ b.natAbs < 2 ^ 200 ∧ ∀ (r : Int) H', 0 ≤ r → r < b → Stp a n H H' → Q (.int r) H'
theorem dp_ints {H : Hp} : ∀ ns : List Int, DpAll K H (ns.map V.int) (ns.map PyData.int)
  | [] => .nil
  | z :: r => .cons (.int z) (dp_ints r)
theorem lay_ints : ∀ ns : List Int, PyData.canLayAll0 (ns.map PyData.int) = true
  | [] => by simp [PyData.canLayAll0]
  | z :: r => by
    have ih := lay_ints r
    simp [PyData.canLayAll0, PyData.canLay0, ih]
theorem depth_ints : ∀ ns : List Int, PyData.depthAll (ns.map PyData.int) = 0
  | [] => by simp [PyData.depthAll]
  | z :: r => by
    have ih := depth_ints r
    simp [PyData.depthAll, PyData.depth, ih]
theorem shaped_ints (ns : List Int) : SeqAt.shaped (.list (ns.map PyData.int)) = true := by
  unfold SeqAt.shaped
  simp [PyData.canLay0, PyData.depth, lay_ints, depth_ints]
/-- the source's three places -/
abbrev src3 (n : Addr) (i x : Int) : HO := .lst [.ref n, .int i, .int x]
theorem d15 : ((10 : Int) ^ (15 : Int).toNat) ≠ 0 := by decide
theorem ok_pic {f fM : Addr} {fd fdM : FuncData} {k : Nat} (F : Fun K "_law_pick" "_law_pick" sPic f fd) (ml : mg "len" = none) (FM : Fun K "_law_mixed" "_law_mixed" sMix fM fdM) (bM : Binds K fdM ["number", "place"] []) (gM : mg "_law_mixed" = some (.ref fM)) (mr : mg "range" = none) :
    FnOk P w K mg base CX0 (k + 2) f fd ["source", "many"] spPic := by
  have GM : FnOk P w K mg base CX0 (k + 1) fM fdM ["number", "place"] spMix := ok_mix FM mr
  have kM := FM.kp
  refine F.ok scPic (fun vs H Q E h => ?_) (fun cdv A outer s H vs Q E hr h => ?_)
  · obtain ⟨a, n, b, rfl, _⟩ := h
    rfl
  · obtain ⟨a, n, b, rfl, ⟨i, x, ns, hA, hN, hpos, hi, hx, hlen⟩, hb, hb2, q⟩ := h
    have nna : n ≠ a := Src.ne hA hN
    refine ⟨_, (C8.pss_cut (ps_if (pt_cmpR op_lt (pe_ix ix_list (pv 0) (pe_int) (fun _ _ => rfl)) (pv 1) (nomark _)) (pss_cons (ps_par (i := 2) (j := 3) (by rfl) scPic.nd rfl rfl (by decide) rfl rfl (pa_cons (pe_ix ix_list (pv 0) (pe_int) (fun _ _ => rfl)) (pa_cons (pe_ix ix_list (pv 0) (pe_int) (fun _ _ => rfl)) pa_nil)) (by rfl))
        (C8.pss_cut (ps_set (i := 4) scPic.nd rfl (.inl rfl) (pe_ifExp (pt_cmpR (op_neD hr.units) (pv 2) (pe_lst pa_nil) (nomark _)) (pe_ix ix_list (pv 2) (pe_op op_modN (pv 3) (pe_callB call_len_seq (by rfl) ml PySem.boot_len (pa_cons (pv 2) pa_nil))) (fun _ _ => rfl)) (pe_int)))
        (C8.pss_cut (ps_if (PW.pt (pw_or (pt_cmpR op_lt (pv 4) (pe_op op_pow (pe_int) (pe_int)) (nomark _)) (pw_or1 (pt_cmpR op_ge (pv 3) (pe_callB call_len_seq (by rfl) ml PySem.boot_len (pa_cons (pv 2) pa_nil)) (nomark _))))) (pss_one (ps_set (i := 4) scPic.nd rfl (.inl rfl) (pe_call GM hr (by rfl) gM kM bM .nil pass0 (pa_cons (pe_op op_add (pe_op op_modN (pv 4) (pe_op op_pow (pe_int) (pe_int))) (pe_op op_fdivW (pv 3) (pe_op op_add (pe_callB call_len_seq (by rfl) ml PySem.boot_len (pa_cons (pv 2) pa_nil)) (pe_int)))) (pa_cons (pv 3) pa_nil))))) pss_nil)
        (pss_cons (ps_asg (pe_op op_add (pv 3) pe_int) (pg_sub (pv 0) pe_int set_list))
        (pss_one (ps_asg (pv 4) (pg_sub (pv 0) pe_int set_list))))))) pss_nil)
        (pss_cons (ps_set (i := 5) scPic.nd rfl (.inl rfl) (pe_op op_modN (pe_ix ix_list (pv 0) (pe_int) (fun _ _ => rfl)) (pv 1)))
        (pss_cons (ps_asg (pe_op op_fdivW (pe_ix ix_list (pv 0) (pe_int) (fun _ _ => rfl)) (pv 1)) (pg_sub (pv 0) pe_int set_list))
        (pss_one (ps_ret (pv 5)))))), ?_⟩
    refine ⟨fun σ H' => ∃ (y2 y3 y4 : Option V) (i' x' : Int), σ = [some (.ref a), some (.int b), y2, y3, y4, none] ∧ H' a = some (src3 n i' x') ∧ 0 ≤ i' ∧ 0 ≤ x' ∧ ∀ c o, H c = some o → c ≠ a → H' c = some o, ?_, ?_⟩
    · refine ⟨.ref a, rfl, a, _, 2, _, rfl, rfl, .inl (.inl hA), atI_nat (j := 2) rfl, _, rfl, x, b, rfl, rfl, _, rfl, ite2 (fun _ => ?_) (fun _ => ?_)⟩
      · refine ⟨.ref a, rfl, a, _, 0, _, rfl, rfl, .inl (.inl hA), atI_nat (j := 0) rfl, .ref a, rfl, a, _, 1, _, rfl, rfl, .inl (.inl hA), atI_nat (j := 1) rfl, _, _, rfl, ?_⟩
        refine ⟨fun σ H' => ∃ z : Int, σ = [some (.ref a), some (.int b), some (.ref n), some (.int i), some (.int z), none] ∧ 0 ≤ z ∧ Same H H', ?_, ?_⟩
        · refine ⟨.ref n, rfl, by show 0 ≤ sizeLine; decide, fun p np => ?_⟩
          have hN1 : (upd H p (.lst [])) n = some (.lst (ns.map V.int)) := same_upd np _ _ hN
          refine ⟨.list (ns.map PyData.int), .list [], .lst (.inl (.inl hN1)) (dp_ints ns), .lst (.inl (.inl upd_same)) .nil, shaped_ints ns, shaped_ints [], _, rfl, ite2 (fun hne => ?_) (fun he => ?_)⟩
          · have nz : ns ≠ [] := fun e => by
              subst e
              revert hne
              decide +kernel
            have hl0 : 0 < ns.length := List.length_pos_iff.mpr nz
            have hj : i.toNat % ns.length < ns.length := Nat.mod_lt _ hl0
            have ej : i.fmod (ns.length : Int) = ((i.toNat % ns.length : Nat) : Int) := by
              rw [Int.fmod_eq_emod_of_nonneg _ (by omega), Int.natCast_emod]
              congr 1
              omega
            have gk : (ns.map V.int)[i.toNat % ns.length]? = some (.int ns[i.toNat % ns.length]) := by
              rw [List.getElem?_map, List.getElem?_eq_getElem hj]
              rfl
            refine ⟨.ref n, rfl, _, rfl, .ref n, rfl, n, _, rfl, .inl (.inl (.inl hN1)), _, _, rfl, rfl, ?_, n, _, _, _, rfl, rfl, .inl (.inl hN1), at_of (by rw [List.length_map]; exact ej) gk, ?_⟩
            · rw [List.length_map]
              omega
            · exact ⟨_, rfl, hpos _ (List.getElem_mem hj), same_upd np⟩
          · exact ⟨0, rfl, by decide, same_upd np⟩
        · rintro σ H1 ⟨z, rfl, hz, sm⟩
          have hN1 := sm _ _ hN
          have hA1 := sm _ _ hA
          refine ⟨fun σ H' => ∃ z : Int, σ = [some (.ref a), some (.int b), some (.ref n), some (.int i), some (.int z), none] ∧ 0 ≤ z ∧ Same H H', ?_, ?_⟩
          · have wq : CDivW i ((ns.length : Int) + 1) := wide_div (b := 64) (by omega) (by omega) (by decide) (by decide)
            refine ⟨_, rfl, _, _, rfl, rfl, ⟨by decide, by decide, by decide⟩, _, _, rfl, rfl, _, rfl, ite2 (fun _ => ?_) (fun _ => ?_)⟩
            · refine ⟨_, rfl, _, _, rfl, rfl, ⟨by decide, by decide, by decide⟩, _, _, rfl, rfl, d15, _, rfl, .ref n, rfl, n, _, rfl, .inl (.inl (.inl hN1)), _, _, rfl, rfl, ?_⟩
              rw [List.length_map]
              exact ⟨_, _, rfl, rfl, wq, _, _, rfl, rfl, _, rfl, _, _, rfl, fun r h0 => ⟨r, rfl, h0, sm⟩⟩
            · refine ⟨_, rfl, .ref n, rfl, n, _, rfl, .inl (.inl (.inl hN1)), _, _, rfl, rfl, _, rfl, ite2 (fun _ => ?_) (fun _ => ?_)⟩
              · refine ⟨_, rfl, _, _, rfl, rfl, ⟨by decide, by decide, by decide⟩, _, _, rfl, rfl, d15, _, rfl, .ref n, rfl, n, _, rfl, .inl (.inl (.inl hN1)), _, _, rfl, rfl, ?_⟩
                rw [List.length_map]
                exact ⟨_, _, rfl, rfl, wq, _, _, rfl, rfl, _, rfl, _, _, rfl, fun r h0 => ⟨r, rfl, h0, sm⟩⟩
              · exact ⟨z, rfl, hz, sm⟩
          · rintro σ H2 ⟨z2, rfl, hz2, sm2⟩
            have hA2 := sm2 _ _ hA
            refine ⟨_, rfl, _, _, rfl, rfl, .ref a, rfl, a, _, _, 1, rfl, rfl, hA2, rfl, ?_⟩
            refine ⟨_, rfl, .ref a, rfl, a, _, _, 2, rfl, rfl, upd_same, rfl, ?_⟩
            refine ⟨_, _, _, i + 1, z2, rfl, upd_same, by omega, hz2, fun c o e ne => ?_⟩
            rw [upd_ne ne, upd_ne ne]
            exact sm2 _ _ e
      · exact ⟨none, none, none, i, x, rfl, hA, hi, hx, fun c o e _ => e⟩
    · rintro σ H' ⟨y2, y3, y4, i', x', rfl, hA', hi', hx', kp⟩
      have bne : b ≠ 0 := by omega
      have wd : ∀ u : Int, CDivW u b := fun u => wide_div hb hb2 (by decide) (by decide)
      refine ⟨.ref a, rfl, a, _, 2, _, rfl, rfl, .inl (.inl hA'), atI_nat (j := 2) rfl, _, rfl, _, _, rfl, rfl, bne, ?_⟩
      refine ⟨.ref a, rfl, a, _, 2, _, rfl, rfl, .inl (.inl hA'), atI_nat (j := 2) rfl, _, rfl, _, _, rfl, rfl, wd _, .ref a, rfl, a, _, _, 2, rfl, rfl, hA', rfl, ?_⟩
      refine ⟨_, rfl, q _ _ (Int.fmod_nonneg_of_pos _ hb) (Int.fmod_lt_of_pos _ hb) ⟨⟨i', x' / b, ns, upd_same, ?_, hpos, hi', Int.ediv_nonneg hx' (by omega), hlen⟩, fun c o e ne => ?_⟩⟩
      · rw [upd_ne nna]
        exact kp _ _ hN nna
      · rw [upd_ne ne]
        exact kp _ _ e ne
/-! ### choose -/
theorem scCho : FnScope ["source", "options"] ["source", "options"] (defScope sCho) := ⟨rfl, rfl, rfl, by decide +kernel, rfl, by decide +kernel, by decide +kernel⟩
def spCho (K : PySem.W.Frag) : Sp := fun vs H Q _ => ∃ (a n l : Addr) (xs : List V), vs = [.ref a, .ref l] ∧ Src H a n ∧ SqL K H l xs ∧ l ≠ a ∧ xs ≠ [] ∧ xs.length ≤ 1000000 ∧ ∀ v H', v ∈ xs → Stp a n H H' → Q v H'
theorem ok_cho {f fN : Addr} {fd fdN : FuncData} {k : Nat} (F : Fun K "_law_choose" "_law_choose" sCho f fd) (ml : mg "len" = none) (GN : FnOk P w K mg base CX0 (k + 2) fN fdN ["source", "many"] spPic) (kN : PySem.W.keepIn K (.ref fN) = true) (bN : Binds K fdN ["source", "many"] []) (gN : mg "_law_pick" = some (.ref fN)) :
    FnOk P w K mg base CX0 (k + 3) f fd ["source", "options"] (spCho K) := by
  refine F.ok scCho (fun vs H Q E h => ?_) (fun cdv A outer s H vs Q E hr h => ?_)
  · obtain ⟨a, n, l, xs, rfl, _⟩ := h
    rfl
  · obtain ⟨a, n, l, xs, rfl, hs, hl, hne, hx, hz, q⟩ := h
    refine ⟨_, pss_one (ps_ret (pe_ix ix_list (pv 1) (pe_call GN hr (by rfl) gN kN bN .nil pass0 (pa_cons (pv 0) (pa_cons (pe_callB call_len_seq (by rfl) ml PySem.boot_len (pa_cons (pv 1) pa_nil)) pa_nil))) (fun _ _ => rfl))), ?_⟩
    have hlp : 0 < xs.length := List.length_pos_iff.mpr hx
    refine ⟨.ref l, rfl, .ref a, rfl, .ref l, rfl, l, xs, rfl, .inl hl, a, n, _, rfl, hs, by omega, ?_, fun r H' h0 h1 st => ?_⟩
    · rw [Int.natAbs_natCast]
      exact Nat.lt_of_le_of_lt hz (by decide)
    · obtain ⟨j, rfl⟩ := Int.eq_ofNat_of_zero_le h0
      have hj : j < xs.length := by omega
      exact ⟨l, xs, _, _, rfl, rfl, st.seq hne hl, atI_nat (List.getElem?_eq_getElem hj), q _ _ (List.getElem_mem hj) st⟩
/-! ### identical -/
theorem scIde : FnScope ["found", "expected"] ["found", "expected"] (defScope sIde) := ⟨rfl, rfl, rfl, by decide +kernel, rfl, by decide +kernel, by decide +kernel⟩
/-- data that is shown -/
structure Shn (d : PyData) : Prop where
  sh : d.showable = true
  nd : d.hasDict = false
  dp : d.depth ≤ 60
  sz : d.shown.length ≤ sizeLine
def spIde (K : PySem.W.Frag) : Sp := fun vs H Q _ => ∃ (x y : V) (d : PyData), vs = [x, y] ∧ Dp K H x d ∧ Dp K H y d ∧ Shn d ∧ Q (.bl true) H
theorem ok_ide {f : Addr} {fd : FuncData} {k : Nat} (F : Fun K "_law_equal" "_law_equal" sIde f fd) (mp : mg "repr" = none) : FnG P w K mg base (k + 1) f fd ["found", "expected"] (spIde K) := by
  refine Fun_okG F scIde (fun vs H Q E h => ?_) (fun cdv A outer s H vs Q E hg hr h => ?_)
  · obtain ⟨x, y, d, rfl, _⟩ := h
    rfl
  · obtain ⟨x, y, d, rfl, hx, hy, hd, q⟩ := h
    have hun : (cxOf CX0 P w K mg base ["found", "expected"] "_law_equal" (defScope sIde) f cdv A outer s H E).nox.A.units + 100 < cLine := by
      have := hr.un
      show (A.deeper _).units + 100 < cLine
      omega
    refine ⟨_, pss_one (ps_ret (pe_cmpR op_eq (pe_callB (call_reprD hg hun) (by rfl) mp (by decide +kernel) (pa_cons (pv 0) pa_nil)) (pe_callB (call_reprD hg hun) (by rfl) mp (by decide +kernel) (pa_cons (pv 1) pa_nil)) (nomark _))), ?_⟩
    refine ⟨x, rfl, x, d, rfl, hx, hd.sh, hd.nd, hd.dp, hd.sz, y, rfl, y, d, rfl, hy, hd.sh, hd.nd, hd.dp, hd.sz, rfl, ?_⟩
    rw [decide_eq_true rfl]
    exact q
end
section
variable {P : Program} {w : World} {K : PySem.W.Frag} {mg : Str → Option Value} {base : Heap}
theorem eqv_ints : ∀ as bs : List Int, PyData.eqvAll (as.map PyData.int) (bs.map PyData.int) = decide (as = bs)
  | [], [] => by simp [PyData.eqvAll]
  | [], b :: bs => by simp [PyData.eqvAll]
  | a :: as, [] => by simp [PyData.eqvAll]
  | a :: as, b :: bs => by
    have ih := eqv_ints as bs
    rw [List.map_cons, List.map_cons]
    show (PyData.eqvAll (.int a :: as.map PyData.int) (.int b :: bs.map PyData.int)) = _
    rw [PyData.eqvAll, ih, PyData.eqv]
    by_cases e1 : a = b <;> by_cases e2 : as = bs <;> simp [e1, e2]
theorem shaped_intsT (ns : List Int) : SeqAt.shaped (.tuple (ns.map PyData.int)) = true := by
  unfold SeqAt.shaped
  simp [PyData.canLay0, PyData.depth, lay_ints, depth_ints]
theorem dp_tup {H : Hp} {a : Addr} {ns : List Int} (h : SqT K H a (ns.map V.int)) : Dp K H (.ref a) (.tuple (ns.map PyData.int)) := .tup h (dp_ints ns)
theorem eqvT (as bs : List Int) : PyData.eqv (.tuple (as.map PyData.int)) (.tuple (bs.map PyData.int)) = decide (as = bs) := by
  rw [← eqv_ints]
  simp [PyData.eqv]
end
/-! tuples joined, repeated, cut: some tuple, all else as it was -/
theorem Same.seqT {K : PySem.W.Frag} {H H' : Hp} {a : Addr} {xs : List V} (e : Same H H') (h : SqT K H a xs) : SqT K H' a xs := by
  rcases h with (h | ⟨o, h⟩) | h
  · exact .inl (.inl (e _ _ h))
  · exact .inl (.inr ⟨o, e _ _ h⟩)
  · exact .inr h
theorem Stp.seqT {K : PySem.W.Frag} {a m l : Addr} {H H' : Hp} {xs : List V} (h : Stp a m H H') (n : SqT K H l xs → l ≠ a) (q : SqT K H l xs) : SqT K H' l xs := by
  have n := n q
  rcases q with (q | ⟨o, q⟩) | q
  · exact .inl (.inl (h.2 _ _ q n))
  · exact .inl (.inr ⟨o, h.2 _ _ q n⟩)
  · exact .inr q
theorem Src.same {H H' : Hp} {a n : Addr} (h : Src H a n) (e : Same H H') : Src H' a n := by
  obtain ⟨i, x, ns, h1, h2, h3⟩ := h
  exact ⟨i, x, ns, e _ _ h1, e _ _ h2, h3⟩
theorem Stp.of {H H' : Hp} {a n : Addr} (h : Src H a n) (e : Same H H') : Stp a n H H' := ⟨h.same e, fun c o z _ => e c o z⟩
theorem Stp.refl {H : Hp} {a n : Addr} (h : Src H a n) : Stp a n H H := .of h (Same.refl H)
theorem Stp.then {H H1 H2 : Hp} {a n : Addr} (h : Stp a n H H1) (e : Same H1 H2) : Stp a n H H2 := h.trans (.of h.1 e)
section
variable {X : Cx}
def rRepU (K : PySem.W.Frag) : R2 := fun x y H Q => ∃ l k xs, x = .ref l ∧ y = .int k ∧ SqT K H l xs ∧ xs.length = 1 ∧ -1000 ≤ k ∧ k ≤ 1000 ∧ ∀ p H', Same H H' → SqT K H' p (List.replicate k.toNat xs).flatten → Q (.ref p) H'
theorem op_repU : OpR X (binaryOp .Mult) (rRepU X.K) := by
  intro pins s σ H x y v u Q I rx ry h
  obtain ⟨l, k, xs, hx, hy, hT, hl, h1, h2, q⟩ := h
  refine op_repZ pins s σ H x y v u Q I rx ry ⟨l, k, xs, hx, hy, hT, ?_, h1, h2, by omega, fun h0 p np => ?_, fun h0 => ?_, fun h0 p np => ?_⟩
  · rintro rfl
    cases hl
  · refine q p _ (same_upd np) (.inl (.inl ?_))
    have e : k.toNat = 0 := by omega
    rw [e, upd_same]
    rfl
  · refine q l H (Same.refl H) ?_
    subst h0
    have e : (List.replicate (1 : Int).toNat xs).flatten = xs := by
      show (List.replicate 1 xs).flatten = xs
      simp
    rw [e]
    exact hT
  · exact q p _ (same_upd np) (.inl (.inl upd_same))
def rCatU (K : PySem.W.Frag) : R2 := fun x y H Q => ∃ a b xs ys, x = .ref a ∧ y = .ref b ∧ SqT K H a xs ∧ SqT K H b ys ∧ xs.length + ys.length ≤ sizeLine ∧ ∀ p H', Same H H' → SqT K H' p (xs ++ ys) → Q (.ref p) H'
theorem op_catU : OpR X (binaryOp .Add) (rCatU X.K) := by
  intro pins s σ H x y v u Q I rx ry h
  obtain ⟨a, b, xs, ys, hx, hy, ha, hb, hl, q⟩ := h
  refine op_catA pins s σ H x y v u Q I rx ry ⟨a, b, xs, ys, hx, hy, ha, hb, hl, fun e => ?_, fun _ e => ?_, fun _ _ p np => ?_⟩
  · subst e
    exact q b H (Same.refl H) hb
  · subst e
    exact q a H (Same.refl H) (by rw [List.append_nil]; exact ha)
  · exact q p _ (same_upd np) (.inl (.inl upd_same))
def rSlU (K : PySem.W.Frag) : V → Option Int → Option Int → Hp → VK → Prop := fun x lo hi H Q => ∃ a xs, x = .ref a ∧ SqT K H a xs ∧ ∀ p H', Same H H' → SqT K H' p (cutV xs lo hi) → Q (.ref p) H'
theorem sl_tupU : SlR X (rSlU X.K) := by
  intro pins s σ H x v vl vu lo hi sl Q I rx i1 i2 i3 hq
  obtain ⟨a, xs, hx, ha, q⟩ := hq
  refine sl_tupA pins s σ H x v vl vu lo hi sl Q I rx i1 i2 i3 ⟨a, xs, hx, ha, fun e => ?_, fun _ p np => ?_⟩
  · refine q a H (Same.refl H) ?_
    unfold cutV
    rw [e.1, e.2, List.drop_zero, Nat.sub_zero, List.take_length]
    exact ha
  · exact q p _ (same_upd np) (.inl (.inl upd_same))
end
theorem flat_one (n : Nat) (z : Int) : (List.replicate n [V.int z]).flatten = (List.replicate n z).map V.int := by
  induction n with
  | zero => rfl
  | succ n ih =>
    rw [List.replicate_succ, List.flatten_cons, ih, List.replicate_succ]
    rfl

theorem Stp.tup {K : PySem.W.Frag} {a n l : Addr} {H H' : Hp} {xs : List V} (h : Stp a n H H') (hs : Src H a n) (q : SqT K H l xs) : SqT K H' l xs := by
  obtain ⟨i, x, ns, ha, _⟩ := hs
  rcases q with (q | ⟨o, q⟩) | q
  · exact .inl (.inl (h.2 _ _ q fun e => by rw [e, ha] at q; cases q))
  · exact .inl (.inr ⟨o, h.2 _ _ q fun e => by rw [e, ha] at q; cases q⟩)
  · exact .inr q
theorem Src.has {a n l : Addr} {H : Hp} (hs : Src H a n) (hl : H l = none) : l ≠ a := fun e => by
  obtain ⟨i, x, ns, ha, _⟩ := hs
  rw [e, ha] at hl
  cases hl
theorem Src.hasN {a n l : Addr} {H : Hp} (hs : Src H a n) (hl : H l = none) : l ≠ n := fun e => by
  obtain ⟨i, x, ns, _, hn, _⟩ := hs
  rw [e, hn] at hl
  cases hl
/-- an object beside the source and its numbers is changed -/
theorem Src.upd {a n l : Addr} {H : Hp} {o : HO} (hs : Src H a n) (h : l ≠ a) (h2 : l ≠ n) : Src (upd H l o) a n := by
  obtain ⟨i, x, ns, ha, hn, r⟩ := hs
  exact ⟨i, x, ns, by rw [upd_ne (Ne.symm h)]; exact ha, by rw [upd_ne (Ne.symm h2)]; exact hn, r⟩
/-- .. that was not there at the start -/
theorem Stp.upd {a n l : Addr} {H H' : Hp} {o : HO} (h : Stp a n H H') (hs : Src H a n) (hl : H l = none) : Stp a n H (upd H' l o) := by
  refine ⟨h.1.upd (hs.has hl) (hs.hasN hl), fun c o' e ne => ?_⟩
  rw [upd_ne (ne_of_none e hl)]
  exact h.2 c o' e ne

/-! ### what is shown -/
theorem log_small {z : Int} (h : z.natAbs < 2 ^ 200) : z.natAbs.log2 < 1920 := by
  by_cases h0 : z.natAbs = 0
  · rw [h0]
    decide
  · have := (Nat.log2_lt h0).mpr h
    omega
theorem int_len {z : Int} (h : z.natAbs < 2 ^ 200) : (PyData.shown (.int z)).length ≤ 2000 := by
  have e : (PyData.shown (.int z)) = Str.ofString (toString z) := by simp [PyData.shown]
  rw [e]
  have h1 := int_text_length_le (a := z) (k := 1920) (by decide) (log_small h)
  rw [PySem.ofString_length]
  omega
theorem Shn.int {z : Int} (h : z.natAbs < 2 ^ 200) : Shn (.int z) := by
  refine ⟨?_, by simp [PyData.hasDict], by simp [PyData.depth], ?_⟩
  · simpa [PyData.showable] using log_small h
  · have := int_len h
    exact Nat.le_of_lt (Nat.lt_of_le_of_lt this (by decide))
theorem ints_sh : ∀ zs : List Int, (∀ z ∈ zs, z.natAbs < 2 ^ 200) → PyData.showableAll (zs.map PyData.int) = true ∧ PyData.hasDictAll (zs.map PyData.int) = false ∧ (PyData.shownAll (zs.map PyData.int)).length = zs.length ∧ piled (PyData.shownAll (zs.map PyData.int)) ≤ 2002 * zs.length
  | [], _ => by simp [PyData.showableAll, PyData.hasDictAll, PyData.shownAll, piled]
  | z :: r, h => by
    obtain ⟨h1, h2, h3, h4⟩ := ints_sh r fun y hy => h y (List.mem_cons_of_mem _ hy)
    have hz := h z (List.mem_cons_self ..)
    have h5 := int_len hz
    rw [List.map_cons]
    refine ⟨?_, ?_, ?_, ?_⟩
    · rw [PyData.showableAll, h1, (Shn.int hz).sh]
      rfl
    · rw [PyData.hasDictAll, h2, (Shn.int hz).nd]
      rfl
    · rw [PyData.shownAll, List.length_cons, List.length_cons, h3]
    · rw [PyData.shownAll, piled_cons, List.length_cons]
      omega
theorem Shn.tup {zs : List Int} (h : ∀ z ∈ zs, z.natAbs < 2 ^ 200) (hl : zs.length ≤ 1000) : Shn (.tuple (zs.map PyData.int)) := by
  obtain ⟨h1, h2, h3, h4⟩ := ints_sh zs h
  refine ⟨by rw [PyData.showable, h1], by rw [PyData.hasDict, h2], ?_, ?_⟩
  · rw [PyData.depth, depth_ints]
    decide
  · rw [PyData.shown]
    have h5 := PySem.fmt_text (PyData.shownAll (zs.map PyData.int))
    rw [sizeLine_eq]
    omega
/-! ### the order -/
structure NZ (zs : List Int) : Prop where
  nn : ∀ z ∈ zs, 0 ≤ z
  hd : zs.head? ≠ some 0

/-! what is shown, and how long it is -/
structure Sd (d : PyData) (k n : Nat) : Prop where
  sh : d.showable = true
  nd : d.hasDict = false
  dp : d.depth ≤ k
  sz : d.shown.length ≤ n
structure SdA (ds : List PyData) (k n : Nat) : Prop where
  sh : PyData.showableAll ds = true
  nd : PyData.hasDictAll ds = false
  dp : PyData.depthAll ds ≤ k
  sz : ((PyData.shownAll ds).map (·.length)).sum + 2 * (PyData.shownAll ds).length ≤ n
theorem Sd.shn {d : PyData} {k n : Nat} (h : Sd d k n) (hk : k ≤ 60) (hn : n ≤ 10000000) : Shn d := ⟨h.sh, h.nd, Nat.le_trans h.dp hk, Nat.le_trans h.sz (Nat.le_trans hn (by rw [sizeLine_eq]; decide))⟩
theorem Sd.mono {d : PyData} {k n k' n' : Nat} (h : Sd d k n) (hk : k ≤ k') (hn : n ≤ n') : Sd d k' n' := ⟨h.sh, h.nd, Nat.le_trans h.dp hk, Nat.le_trans h.sz hn⟩
theorem SdA.mono {d : List PyData} {k n k' n' : Nat} (h : SdA d k n) (hk : k ≤ k') (hn : n ≤ n') : SdA d k' n' := ⟨h.sh, h.nd, Nat.le_trans h.dp hk, Nat.le_trans h.sz hn⟩
theorem Sd.lst {ds : List PyData} {k n : Nat} (h : SdA ds k n) : Sd (.list ds) (k + 1) (n + 3) := by
  refine ⟨by rw [PyData.showable, h.sh], by rw [PyData.hasDict, h.nd], ?_, ?_⟩
  · rw [PyData.depth]
    have := h.dp
    omega
  · rw [PyData.shown]
    have h1 := listText_len_le (PyData.shownAll ds)
    have h2 := h.sz
    omega
theorem Sd.tup {ds : List PyData} {k n : Nat} (h : SdA ds k n) : Sd (.tuple ds) (k + 1) (n + 3) := by
  refine ⟨by rw [PyData.showable, h.sh], by rw [PyData.hasDict, h.nd], ?_, ?_⟩
  · rw [PyData.depth]
    have := h.dp
    omega
  · rw [PyData.shown]
    have h1 := tupleText_len_le (PyData.shownAll ds)
    have h2 := h.sz
    omega
theorem SdA.nil {k n : Nat} : SdA [] k n := ⟨rfl, rfl, Nat.zero_le _, Nat.zero_le _⟩
theorem SdA.cons {d : PyData} {ds : List PyData} {k a b : Nat} (h : Sd d k a) (r : SdA ds k b) : SdA (d :: ds) k (a + b + 2) := by
  refine ⟨by rw [PyData.showableAll, h.sh, r.sh]; rfl, by rw [PyData.hasDictAll, h.nd, r.nd]; rfl, ?_, ?_⟩
  · rw [PyData.depthAll]
    exact Nat.max_le.mpr ⟨h.dp, r.dp⟩
  · rw [PyData.shownAll, List.map_cons, List.sum_cons, List.length_cons]
    have h1 := h.sz
    have h2 := r.sz
    omega
theorem Sd.int {z : Int} {k : Nat} (h : z.natAbs < 2 ^ 200) : Sd (.int z) k 2000 := ⟨(Shn.int h).sh, rfl, Nat.zero_le _, int_len h⟩
theorem Sd.bool {b : Bool} {k : Nat} : Sd (.bool b) k 5 := ⟨rfl, rfl, Nat.zero_le _, by cases b <;> decide +kernel⟩
theorem Sd.none {k : Nat} : Sd .none k 4 := ⟨rfl, rfl, Nat.zero_le _, by decide +kernel⟩
theorem Sd.str {x : Str} {k n : Nat} (h : (reprText x).length ≤ n) : Sd (.str x) k n := ⟨rfl, rfl, Nat.zero_le _, h⟩

/-! ### the end of a law whose def leans on: no repr is under way -/
section
variable {P : Program} {w : World} {K : PySem.W.Frag} {mg mb : Str → Option Value} {k : Nat} {fa a : Addr} {fd : FuncData} {x : Str} {sp : Sp} {st : Shared} {us : List Value} {ns : List Int}
abbrev scrO (us : List Value) : Obj := { cls := .type "list", data := .seq us.toArray }
abbrev Good (st : Shared) (r : Result) (s' : Shared) : Prop := r = .ok (.ret (.bool true)) ∧ OldK st.heap s'.heap ∧ s'.os = st.os ∧ AllBare s'.gens
theorem law_at (KX : K.In st.heap) (n1 : st.heap.Ns mainGlobals mg) (n2 : st.heap.Ns builtinsNs mb) (n3 : ∀ x : Str, x ≠ "__name__" → mb x = bootBuiltins x) (n4 : st.heap.NoLimit) (hg : st.gens = #[])
    (ha : st.heap.get? a = some (scrO us)) (hr : Room k callerA) (F : ∀ b : Heap, K.In b → b.Ns mainGlobals mg → FnG P w K mg b k fa fd [x] sp) (hb : ∀ (s : Shared) (u : Value), BindsTo s fd ⟨[u], []⟩ [(x, u)])
    {H : Hp} (hO : Only H) (hsp : sp [.ref a] H (fun v _ => v = .bl true) fun _ _ _ => False) (hok : HOk P w H st.heap) (hA : ∀ b, H b ≠ none → b = a) (hK : H a ≠ none → K.lookup a = none) :
    codeAny (model P w) callerA (.call (.ref fa) ⟨[.ref a], []⟩) (Good st) st := by
  have hid : ∀ {b : Addr} {o : Obj}, st.heap.get? b = some o → H b = none → (hidT st.heap H).get? b = some o := fun e n => hidT_get e n
  have nodict : ∀ {b : Addr} {o : Obj} {es : Array DictEntry} {m : Nat}, st.heap.get? b = some o → o.data = .dict es m → H b = none := by
    intro b o es m e d
    by_cases q : H b = none
    · exact q
    · rw [hA b q, ha] at e
      cases e
      have d' : Data.seq us.toArray _ = Data.dict es m := d
      cases d'
  have nsOf : ∀ {b : Addr} {m : Str → Option Value}, st.heap.Ns b m → (hidT st.heap H).Ns b m := by
    rintro b m ⟨o, es, ep, e, d, r⟩
    exact ⟨o, es, ep, hid e (nodict e d), d, r⟩
  have KB : K.In (hidT st.heap H) := by
    intro b o e
    refine hid (KX b o e) ?_
    by_cases q : H b = none
    · exact q
    · have eb := hA b q
      rw [eb] at e q
      rw [hK q] at e
      cases e
  obtain ⟨mc, l1, l2⟩ := n4
  have MB : Mod K mg (hidT st.heap H) := ⟨KB, nsOf n1, ⟨mb, nsOf n2, n3⟩, ⟨mc, nsOf l1, l2⟩⟩
  have ev : Env0 P w K mg (hidT st.heap H) callerA [] st H := by
    refine ⟨rfl, MB, fun b o e => of_hidT e, Nat.le_of_eq (hidT_size _ _), trivial, fun b z => ?_, hok, .of_eq hg⟩
    exact absurd (show b ∈ ([] : List Addr) from z) List.not_mem_nil
  refine codeAny_mono ((F _ KB (nsOf n1)).go callerA [] st H ⟨[.ref a], []⟩ [.ref a] [.ref a] _ _ rfl hr ev (hb st (.ref a)) (.cons rfl .nil) hsp) fun r s' h => ?_
  match r, h with
  | .error _, h => exact False.elim h
  | .ok .next, h => exact False.elim h
  | .ok .brk, h => exact False.elim h
  | .ok .cont, h => exact False.elim h
  | .ok (.ret u), h =>
    obtain ⟨v, H', os, bare, un, hok', rv, qv⟩ := h
    have qv : v = .bl true := qv
    subst qv
    obtain rfl : u = Value.bool true := rv
    refine ⟨rfl, OldK.of_keep fun b o e => ?_, os, bare⟩
    rcases hO b with z | ⟨ob, xs, z⟩
    · exact un.keep b o e z (fun z => absurd (show b ∈ ([] : List Addr) from z) List.not_mem_nil) List.not_mem_nil
    · have e1 := (hok b _ z).1
      have e2 := (hok' b _ (un.frzs b ob _ z)).1
      rw [e] at e1
      cases e1
      exact e2
theorem law_g (KX : K.In st.heap) (n1 : st.heap.Ns mainGlobals mg) (n2 : st.heap.Ns builtinsNs mb) (n3 : ∀ x : Str, x ≠ "__name__" → mb x = bootBuiltins x) (n4 : st.heap.NoLimit) (hg : st.gens = #[])
    (ha : st.heap.get? a = some (scrO us)) (hi : IntsAre us ns) (hl : ns.length ≤ sizeLine) (hr : Room k callerA) (F : ∀ b : Heap, K.In b → b.Ns mainGlobals mg → FnG P w K mg b k fa fd [x] sp) (hb : ∀ (s : Shared) (u : Value), BindsTo s fd ⟨[u], []⟩ [(x, u)])
    (hsp : ∀ H : Hp, Only H → SqL K H a (ns.map V.int) → sp [.ref a] H (fun v _ => v = .bl true) fun _ _ _ => False) :
    codeAny (model P w) callerA (.call (.ref fa) ⟨[.ref a], []⟩) (Good st) st := by
  have vi := vals_ints hi
  cases hk : K.lookup a with
  | some o =>
    have e := KX a o hk
    rw [ha] at e
    cases e
    have hS : SqL K (fun _ => none) a (ns.map V.int) := .inr ⟨_, us.toArray, _, hk, rfl, rfl, rfl, by rw [List.size_toArray, hi.length]; exact hl, by simpa using vi⟩
    exact law_at KX n1 n2 n3 n4 hg ha hr F hb (H := fun _ => none) (fun _ => .inl rfl) (hsp _ (fun _ => .inl rfl) hS) (fun b u z => by cases (show (none : Option HO) = some u from z)) (fun b z => absurd rfl z) (fun z => absurd rfl z)
  | none =>
    let H : Hp := fun b => if b = a then some (.frz (scrO us) (.lst (ns.map V.int))) else none
    have h1 : H a = some (.frz (scrO us) (.lst (ns.map V.int))) := if_pos rfl
    have h2 : ∀ b, b ≠ a → H b = none := fun b z => if_neg z
    have hO : Only H := fun b => by
      by_cases z : b = a
      · exact .inr ⟨_, _, by rw [z]; exact h1⟩
      · exact .inl (h2 b z)
    refine law_at KX n1 n2 n3 n4 hg ha hr F hb hO (hsp H hO (.inl (.inr ⟨_, h1⟩))) (fun b u z => ?_) (fun b z => ?_) fun _ => hk
    · by_cases e : b = a
      · subst e
        rw [h1] at z
        cases z
        exact ⟨ha, by rw [List.length_map]; exact hl, us, _, vi, ha⟩
      · rw [h2 b e] at z
        cases z
    · by_cases e : b = a
      · exact e
      · exact absurd (h2 b e) z
end
theorem walk_g {l : PySem.W.OpenLaw} {n k : Nat} {q : Program} {loose : List Str} {XP : (Str → Option Value) → Heap → Prop} {YP : World → Heap → Prop} {d : DefRec} {K : Params → PySem.W.Frag} {sp : PySem.W.Frag → Sp} {x : Str}
    (hn : l.most = some n) (hz : n ≤ sizeLine) (hdf : d.params.defaults = []) (hr : Room k callerA) (hY : ∀ (w : World) (h : Heap), YP w h → (K w.params).In h)
    (F : ∀ (w : World) (mg : Str → Option Value) (fa : Addr) (h : Heap), (K w.params).In h → h.Ns mainGlobals mg → mg d.name = some (.ref fa) →
      ∃ fd : FuncData, (∀ (s : Shared) (u : Value), BindsTo s fd ⟨[u], []⟩ [(x, u)]) ∧ ∀ b : Heap, (K w.params).In b → b.Ns mainGlobals mg → FnG l.prog w (K w.params) mg b k fa fd [x] (sp (K w.params)))
    (hsp : ∀ (K : PySem.W.Frag) (H : Hp) (a : Addr) (ns : List Int), ns.length ≤ n → Only H → SqL K H a (ns.map V.int) → sp K [.ref a] H (fun v _ => v = .bl true) fun _ _ _ => False) :
    PySem.W.WalkO q loose XP YP l.row.toRowW d [] (fun f vs => PySem.call f vs) := by
  refine Att.attach_call hn hdf fun w s0 s1 mg mb fa o pm cd doc a vs ns G Y ho hd hcd hmg hobj hints hlen hg => ?_
  have KX := hY w _ Y
  obtain ⟨fd, hb, hF⟩ := F w mg fa _ KX G.T.g hmg
  exact law_g KX G.T.g G.T.b G.T.builtins G.T.nolimit hg hobj hints (Nat.le_trans hlen hz) hr hF hb fun H hO hS => hsp _ H a ns hlen hO hS
/-- a test, then a word between it and what follows -/
theorem pt_cut {X : Cx} {e : Expr} {t : TT} (h : PT X e t) : PT X e (fun σ H Q => ∃ R : Bool → Hp → Prop, t σ H R ∧ ∀ b H', R b H' → Q b H') := by
  refine ⟨fun pins s σ H Q I q => ?_⟩
  obtain ⟨R, hR, hQ⟩ := q
  exact thn (h.run pins s σ H R I hR) fun b s1 ⟨H1, I1, r⟩ => ⟨H1, I1, hQ b H1 r⟩

section
variable {P : Program} {w : World} {K : PySem.W.Frag} {mg : Str → Option Value} {base : Heap}
/-- the same rules with the written part said, for blocks of comprehensions -/
def rLenK (K : PySem.W.Frag) : List V → Hp → VK → Prop := fun xs H Q => ∃ p ys, xs = [.ref p] ∧ (SqL K H p ys ∨ SqT K H p ys) ∧ Q (.int ys.length) H
theorem len_K {X : Cx} (h : X.K = K) : CallR X (.builtin "len") (rLenK K) := by
  subst h
  exact call_len_seq
theorem cat_K {X : Cx} (h : X.K = K) : OpR X (binaryOp .Add) (rCatU K) := by
  subst h
  exact op_catU
theorem rep_K {X : Cx} (h : X.K = K) : OpR X (binaryOp .Mult) (rRepU K) := by
  subst h
  exact op_repU
end
end Lim
set_option maxHeartbeats 2000000
namespace Lim
open PySem PySem.Spec PyProof.Rows L2
/-! ### expressions -/
inductive Ex where
  | int (n : Int) | name (x : Str) | un (w : Str) (a : Ex) | bin (w : Str) (a b : Ex) | ite (a b c : Ex)
def Ex.dep : Ex → Nat
  | .int _ | .name _ => 0
  | .un _ a => a.dep + 1
  | .bin _ a b => max a.dep b.dep + 1
  | .ite a b c => max a.dep (max b.dep c.dep) + 1
/-- v is the parsed form of the expression -/
def At (K : PySem.W.Frag) (H : Hp) : Ex → V → Prop
  | .int n, v => ∃ p, v = .ref p ∧ SqT K H p [.str "int", .int n]
  | .name x, v => ∃ p, v = .ref p ∧ SqT K H p [.str "name", .str x]
  | .un w a, v => ∃ p x, v = .ref p ∧ SqT K H p [.str w, x] ∧ At K H a x
  | .bin w a b, v => ∃ p x y, v = .ref p ∧ SqT K H p [.str w, x, y] ∧ At K H a x ∧ At K H b y
  | .ite a b c, v => ∃ p x y z, v = .ref p ∧ SqT K H p [.str "if", x, y, z] ∧ At K H a x ∧ At K H b y ∧ At K H c z
theorem At.mono {K : PySem.W.Frag} {H H' : Hp} (k : ∀ p xs, SqT K H p xs → SqT K H' p xs) : ∀ {e : Ex} {v : V}, At K H e v → At K H' e v
  | .int n, v, ⟨p, e, t⟩ => ⟨p, e, k _ _ t⟩
  | .name n, v, ⟨p, e, t⟩ => ⟨p, e, k _ _ t⟩
  | .un w a, v, ⟨p, x, e, t, h⟩ => ⟨p, x, e, k _ _ t, At.mono k h⟩
  | .bin w a b, v, ⟨p, x, y, e, t, h1, h2⟩ => ⟨p, x, y, e, k _ _ t, At.mono k h1, At.mono k h2⟩
  | .ite a b c, v, ⟨p, x, y, z, e, t, h1, h2, h3⟩ => ⟨p, x, y, z, e, k _ _ t, At.mono k h1, At.mono k h2, At.mono k h3⟩
theorem At.same {K : PySem.W.Frag} {H H' : Hp} {e : Ex} {v : V} (h : At K H e v) (s : Same H H') : At K H' e v := h.mono fun _ _ t => Same.seqT s t
theorem At.stp {K : PySem.W.Frag} {H H' : Hp} {a n : Addr} {e : Ex} {v : V} (h : At K H e v) (hs : Src H a n) (s : Stp a n H H') : At K H' e v := h.mono fun _ _ t => s.tup hs t
theorem seqT_updL {K : PySem.W.Frag} {H : Hp} {p : Addr} {ys : List V} {D : Addr} {xs : List V} {o : HO} (t : SqT K H p ys) (hD : H D = some (.lst xs)) : SqT K (upd H D o) p ys := by
  rcases t with (t | ⟨o', t⟩) | t
  · have np : p ≠ D := fun e => by
      rw [e, hD] at t
      cases t
    exact .inl (.inl (by rw [upd_ne np]; exact t))
  · have np : p ≠ D := fun e => by
      rw [e, hD] at t
      cases t
    exact .inl (.inr ⟨o', by rw [upd_ne np]; exact t⟩)
  · exact .inr t
theorem At.updL {K : PySem.W.Frag} {H : Hp} {D : Addr} {xs : List V} {o : HO} {e : Ex} {v : V} (h : At K H e v) (hD : H D = some (.lst xs)) : At K (upd H D o) e v := h.mono fun _ _ t => seqT_updL t hD
def binW : List Str := ["or", "and", "=", "!=", "<", "<=", ">", ">=", "+", "-", "*", "mod", "min", "max"]
def logW : List Str := ["or", "and", "=", "!=", "<", "<=", ">", ">="]
def unW : List Str := ["neg", "not"]
def Wf (ns : List Str) : Ex → Prop
  | .int n => 0 ≤ n ∧ n ≤ 999999
  | .name x => x ∈ ns
  | .un w a => w ∈ unW ∧ Wf ns a
  | .bin w a b => w ∈ binW ∧ Wf ns a ∧ Wf ns b
  | .ite a b c => Wf ns a ∧ Wf ns b ∧ Wf ns c
def b2i (b : Bool) : Int := if b then 1 else 0
/-- whether a connection or a comparison holds -/
def hoE (w : Str) (x y : Int) : Bool :=
  if w = "or" then decide (x ≠ 0) || decide (y ≠ 0) else if w = "and" then decide (x ≠ 0) && decide (y ≠ 0) else if w = "=" then decide (x = y) else if w = "!=" then decide (x ≠ y)
  else if w = "<" then decide (x < y) else if w = "<=" then decide (x ≤ y) else if w = ">" then decide (x > y) else decide (x ≥ y)
def caE (w : Str) (x y : Int) : Int :=
  if w = "+" then x + y else if w = "-" then x - y else if w = "*" then x * y else if w = "min" then (if y < x then y else x) else if w = "max" then (if y > x then y else x) else if y ≠ 0 then x.fmod y else 0
def opE (w : Str) (x y : Int) : Int := if w ∈ logW then b2i (hoE w x y) else caE w x y
def evE (ρ : Str → Int) : Ex → Int
  | .int n => n
  | .name x => ρ x
  | .un w a => if w = "neg" then -evE ρ a else b2i (decide (evE ρ a = 0))
  | .bin w a b => opE w (evE ρ a) (evE ρ b)
  | .ite a b c => if evE ρ a ≠ 0 then evE ρ b else evE ρ c
theorem pow_sq {x : Int} {m : Nat} (h : x.natAbs < 2 ^ m) (k : m ≤ n) : x.natAbs < 2 ^ n := Nat.lt_of_lt_of_le h (Nat.pow_le_pow_right (by decide) k)
theorem b2i_lt {b : Bool} {m : Nat} (h : 0 < m) : (b2i b).natAbs < 2 ^ m := by
  have : 2 ≤ 2 ^ m := by
    have := Nat.pow_le_pow_right (n := 2) (by decide) h
    simpa using this
  cases b <;> simp [b2i] <;> omega
theorem opE_lt {w : Str} {x y : Int} {m : Nat} (hm : 0 < m) (hx : x.natAbs < 2 ^ m) (hy : y.natAbs < 2 ^ m) : (opE w x y).natAbs < 2 ^ (m + m) := by
  have h1 : 2 ^ m ≤ 2 ^ (m + m) := Nat.pow_le_pow_right (by decide) (by omega)
  have h2 : 2 ^ m + 2 ^ m ≤ 2 ^ (m + m) := by
    rw [Nat.pow_add]
    have h3 : 2 ≤ 2 ^ m := by
      have := Nat.pow_le_pow_right (n := 2) (by decide) hm
      simpa using this
    have h4 := Nat.mul_le_mul_right (2 ^ m) h3
    omega
  unfold opE
  split
  · exact b2i_lt (by omega)
  · unfold caE
    split
    · omega
    · split
      · omega
      · split
        · exact wide_lt hx hy
        · split
          · split <;> omega
          · split
            · split <;> omega
            · split
              · rename_i hy0
                have h5 : (x.fmod y).natAbs < y.natAbs := by
                  rcases Int.lt_or_gt_of_ne hy0 with g | g
                  · have e : x.fmod y = -((-x).fmod (-y)) := by rw [Int.neg_fmod_neg, Int.neg_neg]
                    have a1 := Int.fmod_nonneg_of_pos (-x) (show 0 < -y by omega)
                    have a2 := Int.fmod_lt_of_pos (-x) (show 0 < -y by omega)
                    rw [e]
                    omega
                  · have a1 := Int.fmod_lt_of_pos x g
                    have a2 := Int.fmod_nonneg_of_pos x g
                    omega
                omega
              · omega
/-- how large a value may be -/
def bnd (d : Nat) : Nat := 21 * 2 ^ d
theorem bnd_pos (d : Nat) : 0 < bnd d := Nat.mul_pos (by decide) (Nat.pow_pos (by decide))
theorem bnd_succ (d : Nat) : bnd (d + 1) = bnd d + bnd d := by
  unfold bnd
  rw [Nat.pow_succ]
  omega
theorem bnd_mono {a b : Nat} (h : a ≤ b) : bnd a ≤ bnd b := Nat.mul_le_mul_left _ (Nat.pow_le_pow_right (by decide) h)
theorem evE_lt {ρ : Str → Int} {ns : List Str} (hρ : ∀ x ∈ ns, (ρ x).natAbs ≤ 1000) : ∀ {e : Ex}, Wf ns e → (evE ρ e).natAbs < 2 ^ bnd e.dep
  | .int n, h => by
    have h1 : n.natAbs < 2 ^ 21 := by
      have := h.1
      have := h.2
      omega
    exact h1
  | .name x, h => by
    have h1 : (ρ x).natAbs < 2 ^ 21 := by
      have := hρ x h
      omega
    exact h1
  | .un w a, h => by
    have ih := evE_lt hρ h.2
    unfold evE
    show _ < 2 ^ bnd (a.dep + 1)
    split
    · rw [Int.natAbs_neg]
      exact pow_sq ih (bnd_mono (by omega))
    · exact b2i_lt (bnd_pos _)
  | .bin w a b, h => by
    have ia := pow_sq (evE_lt hρ h.2.1) (bnd_mono (Nat.le_max_left a.dep b.dep))
    have ib := pow_sq (evE_lt hρ h.2.2) (bnd_mono (Nat.le_max_right a.dep b.dep))
    show (opE w (evE ρ a) (evE ρ b)).natAbs < 2 ^ bnd (max a.dep b.dep + 1)
    rw [bnd_succ]
    exact opE_lt (bnd_pos _) ia ib
  | .ite a b c, h => by
    have ib := evE_lt hρ h.2.1
    have ic := evE_lt hρ h.2.2
    unfold evE
    show _ < 2 ^ bnd (max a.dep (max b.dep c.dep) + 1)
    split
    · exact pow_sq ib (bnd_mono (by omega))
    · exact pow_sq ic (bnd_mono (by omega))
theorem bnd_log {z : Int} {d : Nat} (h : z.natAbs < 2 ^ bnd d) (hd : d ≤ 6) : z.natAbs.log2 < 1500 := by
  have hb : bnd d ≤ 1344 := Nat.le_trans (bnd_mono hd) (by decide)
  by_cases h0 : z.natAbs = 0
  · rw [h0]
    decide
  · have := (Nat.log2_lt h0).mpr h
    omega
/-! ### tests of texts -/
theorem txt_eq {x y : Str} : decide (V.str x = V.str y) = decide (x = y) := by
  by_cases e : x = y
  · rw [e, decide_eq_true rfl, decide_eq_true rfl]
  · rw [decide_eq_false e, decide_eq_false fun z => e (V.str.inj z)]
theorem iteN {x y : Str} {p q : Prop} (h : x ≠ y) (hq : q) : if decide (V.str x = V.str y) = true then p else q := by
  rw [txt_eq, decide_eq_false h]
  exact hq
theorem iteY {x : Str} {p q : Prop} (hp : p) : if decide (V.str x = V.str x) = true then p else q := by
  rw [decide_eq_true rfl]
  exact hp
theorem ite3 {x y : Str} {p q : Prop} (hp : x = y → p) (hq : x ≠ y → q) : if decide (V.str x = V.str y) = true then p else q := by
  rw [txt_eq]
  by_cases e : x = y
  · rw [decide_eq_true e]
    exact hp e
  · rw [decide_eq_false e]
    exact hq e
theorem int_ne {x y : Int} : (!decide (V.int x = V.int y)) = decide (x ≠ y) := by
  by_cases e : x = y
  · rw [e]
    simp
  · rw [decide_eq_true e, decide_eq_false fun z => e (V.int.inj z)]
    rfl
theorem int_eq {x y : Int} : decide (V.int x = V.int y) = decide (x = y) := by
  by_cases e : x = y
  · rw [e, decide_eq_true rfl, decide_eq_true rfl]
  · rw [decide_eq_false e, decide_eq_false fun z => e (V.int.inj z)]
theorem ifF {b : Bool} {p q : Prop} (h : b = false) (hq : q) : if b = true then p else q := by
  rw [h]
  exact hq
theorem ifT {b : Bool} {p q : Prop} (h : b = true) (hp : p) : if b = true then p else q := by
  rw [h]
  exact hp

end Lim
set_option maxHeartbeats 2000000
namespace Lim
open PySem PySem.Spec PyProof.Rows L2
section
variable {P : Program} {w : World} {K : PySem.W.Frag} {mg : Str → Option Value} {base : Heap}
abbrev sXpr : Stmt := topS 27
abbrev nXpr : List Str := ["source", "names", "depth", "way", "parts", "operators", "k"]
theorem scXpr : FnScope nXpr ["source", "names", "depth"] (defScope sXpr) := ⟨rfl, rfl, rfl, by decide +kernel, rfl, by decide +kernel, by decide +kernel⟩
def spXpr (K : PySem.W.Frag) (d : Nat) : Sp := fun vs H Q _ => ∃ (a n l : Addr) (ns : List Str) (dp : Nat), vs = [.ref a, .ref l, .int (dp : Int)] ∧ Src H a n ∧ H l = some (.lst (ns.map V.str)) ∧ l ≠ a ∧ ns ≠ [] ∧ ns.length ≤ 1000 ∧ dp < d ∧ ∀ v e H', Stp a n H H' → At K H' e v → Wf ns e → e.dep ≤ dp → Q v H'
/-- what the parts are -/
def Parts (K : PySem.W.Frag) (H : Hp) (ns : List Str) (dp : Nat) (us : List V) : Prop := ∀ v ∈ us, ∃ e, At K H e v ∧ Wf ns e ∧ e.dep ≤ dp
theorem Parts.mono {H H' : Hp} {ns : List Str} {dp : Nat} {us : List V} (h : Parts K H ns dp us) (k : ∀ p xs, SqT K H p xs → SqT K H' p xs) : Parts K H' ns dp us := fun v hv => by
  obtain ⟨e, h1, h2, h3⟩ := h v hv
  exact ⟨e, h1.mono k, h2, h3⟩
theorem ops_in : ∀ z ∈ (["=", "!=", "<", "<=", ">", ">=", "+", "-", "*", "mod", "and", "or", "min", "max", "+", "-"] : List Str), z ∈ binW := by decide +kernel
theorem ok_xpr {f fP fC : Addr} {fd dP dC : FuncData} {k : Nat} (F : Fun K "_law_expression" "_law_expression" sXpr f fd) (gE : mg "_law_expression" = some (.ref f)) (kE : PySem.W.keepIn K (.ref f) = true) (bE : Binds K fd ["source", "names", "depth"] []) (mr : mg "range" = none)
    (GP : FnOk P w K mg base CX0 (k + 1) fP dP ["source", "many"] spPic) (kP : PySem.W.keepIn K (.ref fP) = true) (bP : Binds K dP ["source", "many"] []) (gP : mg "_law_pick" = some (.ref fP))
    (GC : FnOk P w K mg base CX0 (k + 1) fC dC ["source", "options"] (spCho K)) (kC : PySem.W.keepIn K (.ref fC) = true) (bC : Binds K dC ["source", "options"] []) (gC : mg "_law_choose" = some (.ref fC)) :
    ∀ d : Nat, FnOk P w K mg base CX0 (k + 1 + d) f fd ["source", "names", "depth"] (spXpr K d) := by
  intro d
  induction d with
  | zero =>
    exact ⟨fun vs H Q E h => by obtain ⟨_, _, _, _, _, rfl, _⟩ := h; rfl, fun A outer s H ar us vs Q E hr e0 b va h => by
      obtain ⟨_, _, _, _, _, _, _, _, _, _, _, hd, _⟩ := h
      exact absurd hd (Nat.not_lt_zero _)⟩
  | succ d ih =>
    have GE := ih
    have GP : FnOk P w K mg base CX0 (k + 1 + d) fP dP ["source", "many"] spPic := GP.mono (by omega)
    have GC : FnOk P w K mg base CX0 (k + 1 + d) fC dC ["source", "options"] (spCho K) := GC.mono (by omega)
    refine F.ok scXpr (fun vs H Q E h => ?_) (fun cdv A outer s H vs Q E hr h => ?_)
    · obtain ⟨_, _, _, _, _, rfl, _⟩ := h
      rfl
    · obtain ⟨a, n, l, ns, dp, rfl, hs, hl, hla, hne, hns, hd, q⟩ := h
      have two : 2 ≤ sizeLine := by show 2 ≤ sizeLine; decide
      have three : 3 ≤ sizeLine := by show 3 ≤ sizeLine; decide
      have four : 4 ≤ sizeLine := by show 4 ≤ sizeLine; decide
      refine ⟨_, (C8.pss_cut (ps_set (i := 3) scXpr.nd rfl (.inl rfl) (pe_ifExp (pt_cmpR op_gt (pv 2) (pe_int) (nomark _)) (pe_call GP hr (by rfl) gP kP bP .nil pass0 (pa_cons (pv 0) (pa_cons (pe_int) pa_nil))) (pe_call GP hr (by rfl) gP kP bP .nil pass0 (pa_cons (pv 0) (pa_cons (pe_int) pa_nil)))))
        (pss_cons (ps_if (pt_cmpR op_eq (pv 3) (pe_int) (nomark _)) (pss_one (ps_ret (pe_tup (pa_cons (pe_str) (pa_cons (pe_call GC hr (by rfl) gC kC bC .nil pass0 (pa_cons (pv 0) (pa_cons (pe_lst (pa_cons (pe_int) (pa_cons (pe_int) (pa_cons (pe_int) (pa_cons (pe_int) (pa_cons (pe_int) (pa_cons (pe_int) (pa_cons (pe_int) pa_nil)))))))) pa_nil))) pa_nil))))) pss_nil)
        (pss_cons (ps_if (pt_cmpR op_lt (pv 3) (pe_int) (nomark _)) (pss_one (ps_ret (pe_tup (pa_cons (pe_str) (pa_cons (pe_call GC hr (by rfl) gC kC bC .nil pass0 (pa_cons (pv 0) (pa_cons (pv 1) pa_nil))) pa_nil))))) pss_nil)
        (C8.pss_cut (ps_setLc (i := 4) (own := [("k", 6)]) (g := gName 6) (tt := tYes) (by rfl) scXpr.nd rfl rfl (sw_true rfl rfl rfl (by decide +kernel)) (pi_range1 rfl mr (pa_cons (pe_ifExp (pt_cmpR op_eq (pv 3) (pe_int) (nomark _)) (pe_int) (pe_int)) pa_nil)) (blkOk_by (N := nXpr) (sc := defScope sXpr) (by decide +kernel)) (fun _ _ _ _ _ => pg_name (i := 6) scXpr.nd rfl (.inl rfl)) (fun _ _ _ _ _ => pts_nil) (fun _ _ _ _ _ => pe_call GE hr (by rfl) gE kE bE .nil pass0 (pa_cons (pv 0) (pa_cons (pv 1) (pa_cons (pe_op op_sub (pv 2) (pe_int)) pa_nil)))))
        (pss_cons (ps_if (pt_cmpR op_eq (pv 3) (pe_int) (nomark _)) (pss_one (ps_ret (pe_tup (pa_cons (pe_str) (pa_cons (pe_ix ix_list (pv 4) (pe_int) (fun _ _ => rfl)) (pa_cons (pe_ix ix_list (pv 4) (pe_int) (fun _ _ => rfl)) (pa_cons (pe_ix ix_list (pv 4) (pe_int) (fun _ _ => rfl)) pa_nil))))))) pss_nil)
        (pss_cons (ps_if (pt_cmpR op_eq (pv 3) (pe_int) (nomark _)) (pss_one (ps_ret (pe_tup (pa_cons (pe_call GC hr (by rfl) gC kC bC .nil pass0 (pa_cons (pv 0) (pa_cons (pe_lst (pa_cons (pe_str) (pa_cons (pe_str) pa_nil))) pa_nil))) (pa_cons (pe_ix ix_list (pv 4) (pe_int) (fun _ _ => rfl)) pa_nil))))) pss_nil)
        (pss_cons (ps_set (i := 5) scXpr.nd rfl (.inl rfl) (pe_lst (pa_cons (pe_str) (pa_cons (pe_str) (pa_cons (pe_str) (pa_cons (pe_str) (pa_cons (pe_str) (pa_cons (pe_str) (pa_cons (pe_str) (pa_cons (pe_str) (pa_cons (pe_str) (pa_cons (pe_str) (pa_cons (pe_str) (pa_cons (pe_str) (pa_cons (pe_str) (pa_cons (pe_str) (pa_cons (pe_str) (pa_cons (pe_str) pa_nil))))))))))))))))))
        (pss_one (ps_ret (pe_tup (pa_cons (pe_call GC hr (by rfl) gC kC bC .nil pass0 (pa_cons (pv 0) (pa_cons (pv 5) pa_nil))) (pa_cons (pe_ix ix_list (pv 4) (pe_int) (fun _ _ => rfl)) (pa_cons (pe_ix ix_list (pv 4) (pe_int) (fun _ _ => rfl)) pa_nil))))))))))))), ?_⟩
      refine ⟨fun σ H' => ∃ r : Int, σ = [some (.ref a), some (.ref l), some (.int (dp : Int)), some (.int r), none, none, none] ∧ Stp a n H H' ∧ 0 ≤ r ∧ r < 12 ∧ (dp = 0 → r < 3), ?_, ?_⟩
      · refine ⟨_, rfl, _, _, rfl, rfl, _, rfl, ite2 (fun c => ?_) (fun c => ?_)⟩
        · exact ⟨_, rfl, a, n, _, rfl, hs, by decide, by decide, fun r H1 h0 h1 s1 => ⟨r, rfl, s1, h0, h1, fun z => by
            have c2 := of_decide_eq_true c
            omega⟩⟩
        · exact ⟨_, rfl, a, n, _, rfl, hs, by decide, by decide, fun r H1 h0 h1 s1 => ⟨r, rfl, s1, h0, by
            have h2 : r < 2 := h1
            omega, fun _ => by
            have h2 : r < 2 := h1
            omega⟩⟩
      · rintro σ H1 ⟨r, rfl, s1, hr0, hr1, hr2⟩
        have hl1 := s1.2 _ _ hl hla
        refine ⟨_, rfl, rfl, _, rfl, ?_⟩
        rw [int_eq]
        by_cases c0 : r = 0
        · rw [decide_eq_true c0]
          refine iteT ⟨_, rfl, by show 7 ≤ sizeLine; decide, fun p1 np1 => ⟨a, n, p1, _, rfl, s1.1.same (same_upd np1), .inl (.inl upd_same), s1.1.has np1, by simp, by simp, fun v H2 hv s2 => ⟨two, fun p2 np2 => ?_⟩⟩⟩
          obtain ⟨z, rfl, hz0, hz1⟩ : ∃ z : Int, v = .int z ∧ 0 ≤ z ∧ z ≤ 999999 := by
            simp at hv
            rcases hv with rfl | rfl | rfl | rfl | rfl | rfl | rfl
            all_goals exact ⟨_, rfl, by decide, by decide⟩
          exact q (.ref p2) (.int z) _ (((s1.then (same_upd np1)).trans s2).then (same_upd np2)) ⟨p2, rfl, .inl (.inl upd_same)⟩ ⟨hz0, hz1⟩ (Nat.zero_le _)
        · rw [decide_eq_false c0]
          refine iteF ⟨_, rfl, _, _, rfl, rfl, _, rfl, ite2 (fun c => ?_) (fun c => ?_)⟩
          · refine ⟨_, rfl, _, rfl, a, n, l, _, rfl, s1.1, .inl (.inl hl1), hla, by simpa using hne, by rw [List.length_map]; omega, fun v H2 hv s2 => ⟨two, fun p2 np2 => ?_⟩⟩
            obtain ⟨x, hx, rfl⟩ := List.mem_map.mp hv
            exact q (.ref p2) (.name x) _ ((s1.trans s2).then (same_upd np2)) ⟨p2, rfl, .inl (.inl upd_same)⟩ hx (Nat.zero_le _)
          · have hr3 : 3 ≤ r := by
              have : ¬ r < 3 := fun z => c (decide_eq_true z)
              omega
            have hdp : dp ≠ 0 := fun z => by
              have := hr2 z
              omega
            obtain ⟨e, rfl⟩ : ∃ e, dp = e + 1 := ⟨dp - 1, by omega⟩
            -- the parts
            refine ⟨fun σ H' => ∃ (D : Addr) (us : List V), σ = [some (.ref a), some (.ref l), some (.int ((e + 1 : Nat) : Int)), some (.int r), some (.ref D), none, none] ∧ Stp a n H H' ∧ H' D = some (.lst us) ∧ us.length = (if r = 3 then 3 else 2) ∧ Parts K H' ns e us, ?_, ?_⟩
            · refine ⟨_, rfl, rfl, _, rfl, ?_⟩
              rw [int_eq]
              by_cases c3 : r = 3
              · rw [decide_eq_true c3]
                refine iteT ⟨3, rfl, by decide, by decide, fun D nD => ?_⟩
                have hDa : D ≠ a := s1.1.has nD
                refine lc_range (n := 3) (fun i H' => ∃ us : List V, Stp a n H1 H' ∧ H' D = some (.lst us) ∧ us.length = i ∧ Parts K H' ns e us) ?_ ?_ ?_
                · exact ⟨[], .of s1.1 (same_upd nD), upd_same, rfl, fun v hv => by cases hv⟩
                · rintro i H3 hi ⟨us, s3, hD, hl', hu⟩
                  refine ⟨rfl, _, rfl, _, rfl, _, rfl, _, _, rfl, rfl, a, n, l, ns, e, congrArg (fun z => [V.ref a, V.ref l, V.int z]) (show (((e + 1 : Nat) : Int) - 1) = (e : Int) by omega), s3.1, (s1.trans s3).2 _ _ hl hla, hla, hne, hns, by omega, fun v x H4 s4 hA hW hdp2 => ?_⟩
                  have hD4 := s4.2 _ _ hD hDa
                  refine ⟨us, hD4, by rw [hl']; exact small1000 (by omega), us ++ [v], (s3.trans s4).upd s1.1 nD, upd_same, by rw [List.length_append, hl']; rfl, fun u hv' => ?_⟩
                  rcases List.mem_append.mp hv' with h | h
                  · exact ((hu.mono fun _ _ z => s4.tup s3.1 z).mono fun _ _ z => seqT_updL z hD4) u h
                  · rw [List.mem_singleton.mp h]
                    exact ⟨x, hA.updL hD4, hW, hdp2⟩
                · rintro H3 ⟨us, s3, hD, hul, hu⟩
                  exact ⟨D, us, rfl, s1.trans s3, hD, by rw [hul, if_pos c3], hu⟩
              · rw [decide_eq_false c3]
                refine iteF ⟨2, rfl, by decide, by decide, fun D nD => ?_⟩
                have hDa : D ≠ a := s1.1.has nD
                refine lc_range (n := 2) (fun i H' => ∃ us : List V, Stp a n H1 H' ∧ H' D = some (.lst us) ∧ us.length = i ∧ Parts K H' ns e us) ?_ ?_ ?_
                · exact ⟨[], .of s1.1 (same_upd nD), upd_same, rfl, fun v hv => by cases hv⟩
                · rintro i H3 hi ⟨us, s3, hD, hl', hu⟩
                  refine ⟨rfl, _, rfl, _, rfl, _, rfl, _, _, rfl, rfl, a, n, l, ns, e, congrArg (fun z => [V.ref a, V.ref l, V.int z]) (show (((e + 1 : Nat) : Int) - 1) = (e : Int) by omega), s3.1, (s1.trans s3).2 _ _ hl hla, hla, hne, hns, by omega, fun v x H4 s4 hA hW hdp2 => ?_⟩
                  have hD4 := s4.2 _ _ hD hDa
                  refine ⟨us, hD4, by rw [hl']; exact small1000 (by omega), us ++ [v], (s3.trans s4).upd s1.1 nD, upd_same, by rw [List.length_append, hl']; rfl, fun u hv' => ?_⟩
                  rcases List.mem_append.mp hv' with h | h
                  · exact ((hu.mono fun _ _ z => s4.tup s3.1 z).mono fun _ _ z => seqT_updL z hD4) u h
                  · rw [List.mem_singleton.mp h]
                    exact ⟨x, hA.updL hD4, hW, hdp2⟩
                · rintro H3 ⟨us, s3, hD, hul, hu⟩
                  exact ⟨D, us, rfl, s1.trans s3, hD, by rw [hul, if_neg c3], hu⟩
            · rintro σ H2 ⟨D, us, rfl, s2, hD, hul, hus⟩
              have hDa : D ≠ a := fun z => by
                obtain ⟨i, x, ms, e1, _⟩ := s2.1
                rw [z, e1] at hD
                cases hD
                obtain ⟨y, hy, _⟩ := hus (.int i) (by simp)
                cases y <;> (obtain ⟨p, hy⟩ := hy; first | (cases hy.1; done) | (obtain ⟨x1, hy⟩ := hy; first | (cases hy.1; done) | (obtain ⟨x2, hy⟩ := hy; first | (cases hy.1; done) | (obtain ⟨x3, hy⟩ := hy; cases hy.1))))
              refine ⟨_, rfl, rfl, _, rfl, ?_⟩
              rw [int_eq]
              by_cases c3 : r = 3
              · rw [decide_eq_true c3]
                rw [if_pos c3] at hul
                obtain ⟨v0, v1, v2, rfl⟩ : ∃ v0 v1 v2, us = [v0, v1, v2] := by
                  match us, hul with
                  | [v0, v1, v2], _ => exact ⟨v0, v1, v2, rfl⟩
                obtain ⟨e0, A0, W0, D0⟩ := hus v0 (by simp)
                obtain ⟨e1, A1, W1, D1⟩ := hus v1 (by simp)
                obtain ⟨e2, A2, W2, D2⟩ := hus v2 (by simp)
                refine iteT ⟨_, rfl, D, _, 0, _, rfl, rfl, .inl (.inl hD), atI_nat (j := 0) rfl, _, rfl, D, _, 1, _, rfl, rfl, .inl (.inl hD), atI_nat (j := 1) rfl, _, rfl, D, _, 2, _, rfl, rfl, .inl (.inl hD), atI_nat (j := 2) rfl, four, fun p np => ?_⟩
                have sp := same_upd (o := .tup [.str "if", v0, v1, v2]) np
                exact q (.ref p) (.ite e0 e1 e2) _ (s2.then sp) ⟨p, v0, v1, v2, rfl, .inl (.inl upd_same), A0.same sp, A1.same sp, A2.same sp⟩ ⟨W0, W1, W2⟩ (by show max e0.dep (max e1.dep e2.dep) + 1 ≤ e + 1; omega)
              · rw [decide_eq_false c3]
                rw [if_neg c3] at hul
                obtain ⟨v0, v1, rfl⟩ : ∃ v0 v1, us = [v0, v1] := by
                  match us, hul with
                  | [v0, v1], _ => exact ⟨v0, v1, rfl⟩
                obtain ⟨e0, A0, W0, D0⟩ := hus v0 (by simp)
                obtain ⟨e1, A1, W1, D1⟩ := hus v1 (by simp)
                refine iteF ⟨_, rfl, rfl, _, rfl, ?_⟩
                rw [int_eq]
                by_cases c4 : r = 4
                · rw [decide_eq_true c4]
                  refine iteT ⟨_, rfl, two, fun p1 np1 => ⟨a, n, p1, _, rfl, s2.1.same (same_upd np1), .inl (.inl upd_same), s2.1.has np1, by simp, by simp, fun v H3 hv s3 => ?_⟩⟩
                  have s23 := (Stp.of s2.1 (same_upd (o := .lst [.str "not", .str "neg"]) np1)).trans s3
                  have hD3 := s23.2 _ _ hD hDa
                  refine ⟨_, rfl, D, _, 0, _, rfl, rfl, .inl (.inl hD3), atI_nat (j := 0) rfl, two, fun p2 np2 => ?_⟩
                  obtain ⟨u, rfl, hu⟩ : ∃ u : Str, v = .str u ∧ u ∈ unW := by
                    simp at hv
                    rcases hv with rfl | rfl
                    · exact ⟨_, rfl, by decide +kernel⟩
                    · exact ⟨_, rfl, by decide +kernel⟩
                  have sp := same_upd (o := .tup [.str u, v0]) np2
                  exact q (.ref p2) (.un u e0) _ ((s2.trans s23).then sp) ⟨p2, v0, rfl, .inl (.inl upd_same), (A0.stp s2.1 s23).same sp⟩ ⟨hu, W0⟩ (by show e0.dep + 1 ≤ e + 1; omega)
                · rw [decide_eq_false c4]
                  refine iteF ⟨by show 16 ≤ sizeLine; decide, fun lo nlo => ?_⟩
                  have so := same_upd (o := .lst [.str "=", .str "!=", .str "<", .str "<=", .str ">", .str ">=", .str "+", .str "-", .str "*", .str "mod", .str "and", .str "or", .str "min", .str "max", .str "+", .str "-"]) nlo
                  refine ⟨_, rfl, _, rfl, a, n, lo, _, rfl, s2.1.same so, .inl (.inl upd_same), s2.1.has nlo, by simp, by simp, fun v H3 hv s3 => ?_⟩
                  have s23 := (Stp.of s2.1 so).trans s3
                  have hD3 := s23.2 _ _ hD hDa
                  refine ⟨_, rfl, D, _, 0, _, rfl, rfl, .inl (.inl hD3), atI_nat (j := 0) rfl, _, rfl, D, _, 1, _, rfl, rfl, .inl (.inl hD3), atI_nat (j := 1) rfl, three, fun p2 np2 => ?_⟩
                  obtain ⟨u, rfl, hu⟩ : ∃ u : Str, v = .str u ∧ u ∈ binW := by
                    obtain ⟨u, hu, e⟩ : ∃ u ∈ (["=", "!=", "<", "<=", ">", ">=", "+", "-", "*", "mod", "and", "or", "min", "max", "+", "-"] : List Str), V.str u = v := List.mem_map.mp hv
                    exact ⟨u, e.symm, ops_in u hu⟩
                  have sp := same_upd (o := .tup [.str u, v0, v1]) np2
                  exact q (.ref p2) (.bin u e0 e1) _ ((s2.trans s23).then sp) ⟨p2, v0, v1, rfl, .inl (.inl upd_same), (A0.stp s2.1 s23).same sp, (A1.stp s2.1 s23).same sp⟩ ⟨hu, W0, W1⟩ (by show max e0.dep e1.dep + 1 ≤ e + 1; omega)
end
end Lim
set_option maxHeartbeats 2000000
namespace Lim
open PySem PySem.Spec PyProof.Rows L2
/-! a tuple of which it is known that it is a bare one; dict(such a tuple of pairs) -/
def bareT (its : List Value) : Obj := { cls := .type "tuple", data := .seq its.toArray }
def FzT (H : Hp) (a : Addr) (xs : List V) : Prop := ∃ its, H a = some (.frz (bareT its) (.tup xs))
theorem FzT.seq {K : PySem.W.Frag} {H : Hp} {a : Addr} {xs : List V} (h : FzT H a xs) : SqT K H a xs := by
  obtain ⟨its, h⟩ := h
  exact .inl (.inr ⟨_, h⟩)
section
variable {X : Cx}
theorem call_tupleF : CallR X (.type "tuple") (fun xs H Q => ∃ p ys, xs = [.ref p] ∧ SqL X.K H p ys ∧ ∀ l its, H l = none → Q (.ref l) (upd H l (.frz (bareT its) (.tup ys)))) := by
  intro pins s σ H xs us Q I r h
  obtain ⟨p, ys, rfl, hq, q⟩ := h
  obtain ⟨u, rfl, rx⟩ := vals1 r
  cases rx
  obtain ⟨its, rv, pl, hz⟩ := I.list hq
  have hlen := rv.length
  refine call_tuple_list pl.isList (fun h2 kp => ?_) (by rw [List.size_toArray, ← hlen]; exact hz)
  have Ia : Inv X pins σ H { s with heap := h2 } := I.kept (t' := s.toks) kp
  have Ib : Inv X pins σ (upd H h2.objs.size (.frz (bareT its) (.tup ys))) { s with heap := h2.push (bareT its) } :=
    Ia.laid (t' := s.toks) (fun b o e => Heap.get?_push_of_some _ e) (Nat.le_refl _) (show ObjOk X.prog X.w _ _ _ (.frz (bareT its) (.tup ys)) from ⟨Heap.get?_push_size _ rfl, hz, its, rv, IsTup.new _ _⟩)
  exact ⟨.ref h2.objs.size, _, Ib, rfl, q _ its (Ia.hok.fresh (Nat.le_refl _))⟩
theorem pairs_rel {pins : List (Addr × Obj)} {σ : L2.St} {H : Hp} {s : Shared} (I : Inv X pins σ H s) : ∀ {kvs : List (Key × V)} {ps : List Addr}, Paired (fun kv p => SqT X.K H p [kV kv.1, kv.2]) kvs ps →
    ∃ prs : List (Value × Value), prs.length = kvs.length ∧ ps.length = prs.length ∧ (∀ (j : Nat) kk vv, prs[j]? = some (kk, vv) → ∃ b, ps[j]? = some b ∧ PairAt s.heap b kk vv) ∧
      ∃ kws : List (Key × Value), KV kvs kws ∧ ∀ (i : Nat) (kk vv : Value), prs[i]? = some (kk, vv) → ∃ kx : Key, kws[i]? = some (kx, vv) ∧ (mixKind X.prog X.w).is kx kk = true
  | _, _, .nil => ⟨[], rfl, rfl, fun j kk vv e => by simp at e, [], .nil, fun i kk vv e => by simp at e⟩
  | _, _, .cons (a := kv) (b := p) h t => by
    obtain ⟨prs, e1, e2, e3, kws, e4, e5⟩ := pairs_rel I t
    obtain ⟨its, rv, ⟨ot, h1, h2, n, h3⟩, _⟩ := I.tuple h
    obtain ⟨u, y, ei, ru, ry⟩ := vals2 rv
    subst ei
    refine ⟨(u, y) :: prs, by rw [List.length_cons, List.length_cons, e1], by rw [List.length_cons, List.length_cons, e2], fun j kk vv e => ?_, (kv.1, y) :: kws, .cons ⟨rfl, ry⟩ e4, fun i kk vv e => ?_⟩
    · cases j with
      | zero =>
        have e' : (u, y) = (kk, vv) := Option.some.inj e
        cases e'
        exact ⟨p, rfl, .inl ⟨ot, h1, h2, n, h3⟩⟩
      | succ j => exact e3 j kk vv (by simpa using e)
    · cases i with
      | zero =>
        have e' : (u, y) = (kk, vv) := Option.some.inj e
        cases e'
        exact ⟨kv.1, rfl, kV_is (P := X.prog) (w := X.w) ru⟩
      | succ i => exact e5 i kk vv (by simpa using e)
/-- dict(t) of a bare tuple of pairs -/
theorem call_dictF (hcalm : X.calm = true) : CallR X (.type "dict") (fun xs H Q => ∃ (a : Addr) (ps : List Addr) (kvs : List (Key × V)), xs = [.ref a] ∧ FzT H a (ps.map V.ref) ∧ Paired (fun kv p => SqT X.K H p [kV kv.1, kv.2]) kvs ps ∧ ∀ p, H p = none → Q (.ref p) (upd H p (.dK (mergeK [] kvs)))) := by
  intro pins s σ H xs us Q I r h
  obtain ⟨a, ps, kvs, rfl, ⟨its, hf⟩, hp, q⟩ := h
  obtain ⟨u, rfl, rx⟩ := vals1 r
  cases rx
  obtain ⟨hat, hz, its2, rv, ⟨ot, g1, g2, n, g3⟩⟩ := (show ObjOk X.prog X.w H s.heap a (.frz (bareT its) (.tup (ps.map V.ref))) from I.hok a _ hf)
  rw [hat] at g1
  cases g1
  have ei : its = its2 := by
    have e0 : (bareT its).data = .seq its2.toArray n := g3
    unfold bareT at e0
    injection e0 with e1 e2
    simpa using e1
  subst ei
  have er := refs_at rv
  subst er
  rw [List.length_map] at hz
  obtain ⟨prs, e1, e2, e3, kws, e4, e5⟩ := pairs_rel I hp
  have l4 : kws.length = prs.length := by rw [e1]; exact (Paired.length e4).symm
  refine PySem.call_dict_pairs (knd := mixKind X.prog X.w) (kvs := kws) (PairArg.tuple a (ps.map Value.ref).toArray (fun j => (ps[j]?).getD 0) prs) (I.ok.hd hcalm)
    ⟨⟨_, _, hat, rfl, rfl, rfl⟩, by simp [e2], fun j kk vv e => ?_⟩ ⟨l4, fun i kk vv hr => e5 i kk vv hr⟩ (by omega) fun h2 tk hd2 hk2 => ?_
  · obtain ⟨b, hb, hpa⟩ := e3 j kk vv e
    show _ ∧ PairAt s.heap ((ps[j]?).getD 0) kk vv
    rw [hb]
    exact ⟨by simp [hb], hpa⟩
  · have hm : (s.heap.objs.size == sysModules) = false := beq_eq_false_iff_ne.mpr (Nat.ne_of_gt I.big)
    have hlen : (mergeK [] kvs).length ≤ sizeLine := by
      refine Nat.le_trans (length_mergeK kvs []) ?_
      rw [List.length_nil, Nat.zero_add]
      omega
    exact ⟨.ref s.heap.objs.size, upd H s.heap.objs.size (.dK (mergeK [] kvs)), I.laid (t' := tk) (fun b o e => hk2 b o (by simp) e) (Nat.le_refl _) (show ObjOk X.prog X.w _ _ _ (.dK (mergeK [] kvs)) from ⟨hlen, hm, merged [] kws, KV.merge e4 .nil, hd2⟩), rfl, q _ (I.hok.fresh (Nat.le_refl _))⟩
end
/-- a limit rule -/
inductive Ru where
  | low | high | keep (n : Int) | set (n : Int)
def Ru.parts : Ru → List V
  | .low => [.str "low"]
  | .high => [.str "high"]
  | .keep n => [.str "keep", .int n]
  | .set n => [.str "set", .int n]
def Ru.ok (lo hi : Int) : Ru → Prop
  | .keep n | .set n => lo ≤ n ∧ n ≤ hi
  | _ => True
structure Va where
  name : Str
  lo : Int
  hi : Int
  st : Int
  ru : Ru
structure Pg where
  vs : List Va
  halt : Option Ex
  asg : List (Str × Ex)
def Pg.names (p : Pg) : List Str := p.vs.map (·.name)
def VaAt (K : PySem.W.Frag) (H : Hp) (x : Va) (p : Addr) : Prop := ∃ r, SqT K H p [.str x.name, .int x.lo, .int x.hi, .int x.st, .ref r] ∧ SqT K H r x.ru.parts
def AsAt (K : PySem.W.Frag) (H : Hp) (q : Str × Ex) (p : Addr) : Prop := ∃ v, SqT K H p [.str q.1, v] ∧ At K H q.2 v
def HaAt (K : PySem.W.Frag) (H : Hp) : Option Ex → V → Prop
  | none, v => v = .non
  | some e, v => At K H e v
def PgAt (K : PySem.W.Frag) (H : Hp) (g : Pg) (v : V) : Prop := ∃ (p pv pa : Addr) (h : V) (pvs pas : List Addr), v = .ref p ∧ SqT K H p [.ref pv, h, .ref pa] ∧ SqT K H pv (pvs.map V.ref) ∧ Paired (VaAt K H) g.vs pvs ∧ HaAt K H g.halt h ∧ FzT H pa (pas.map V.ref) ∧ Paired (AsAt K H) g.asg pas
theorem VaAt.mono {K : PySem.W.Frag} {H H' : Hp} (kp : ∀ p xs, SqT K H p xs → SqT K H' p xs) {x : Va} {p : Addr} (h : VaAt K H x p) : VaAt K H' x p := by
  obtain ⟨r, h1, h2⟩ := h
  exact ⟨r, kp _ _ h1, kp _ _ h2⟩
theorem AsAt.mono {K : PySem.W.Frag} {H H' : Hp} (kp : ∀ p xs, SqT K H p xs → SqT K H' p xs) {x : Str × Ex} {p : Addr} (h : AsAt K H x p) : AsAt K H' x p := by
  obtain ⟨v, h1, h2⟩ := h
  exact ⟨v, kp _ _ h1, h2.mono kp⟩
theorem HaAt.mono {K : PySem.W.Frag} {H H' : Hp} (kp : ∀ p xs, SqT K H p xs → SqT K H' p xs) {x : Option Ex} {v : V} (h : HaAt K H x v) : HaAt K H' x v := by
  cases x with
  | none => exact h
  | some e => exact At.mono kp h
theorem PgAt.mono {K : PySem.W.Frag} {H H' : Hp} (kp : ∀ p xs, SqT K H p xs → SqT K H' p xs) (kz : ∀ p xs, FzT H p xs → FzT H' p xs) {g : Pg} {v : V} (h : PgAt K H g v) : PgAt K H' g v := by
  obtain ⟨p, pv, pa, hh, pvs, pas, e, h1, h2, h3, h4, h5, h6⟩ := h
  exact ⟨p, pv, pa, hh, pvs, pas, e, kp _ _ h1, kp _ _ h2, Paired.mapP h3 (fun _ _ z => z.mono kp), h4.mono kp, kz _ _ h5, Paired.mapP h6 (fun _ _ z => z.mono kp)⟩
theorem FzT.same {H H' : Hp} {a : Addr} {xs : List V} (h : FzT H a xs) (s : Same H H') : FzT H' a xs := by
  obtain ⟨its, h⟩ := h
  exact ⟨its, s _ _ h⟩
theorem FzT.stp {H H' : Hp} {a n p : Addr} {xs : List V} (h : FzT H p xs) (hs : Src H a n) (s : Stp a n H H') : FzT H' p xs := by
  obtain ⟨its, h⟩ := h
  refine ⟨its, s.2 _ _ h fun e => ?_⟩
  obtain ⟨i, x, ns, h1, _⟩ := hs
  rw [e, h1] at h
  cases h
theorem FzT.updL {H : Hp} {p D : Addr} {ys xs : List V} {o : HO} (h : FzT H p ys) (hD : H D = some (.lst xs)) : FzT (upd H D o) p ys := by
  obtain ⟨its, h⟩ := h
  refine ⟨its, ?_⟩
  rw [upd_ne]
  · exact h
  · intro e
    rw [e, hD] at h
    cases h
theorem PgAt.same {K : PySem.W.Frag} {H H' : Hp} {g : Pg} {v : V} (h : PgAt K H g v) (s : Same H H') : PgAt K H' g v := h.mono (fun _ _ t => Same.seqT s t) fun _ _ t => t.same s
theorem PgAt.stp {K : PySem.W.Frag} {H H' : Hp} {a n : Addr} {g : Pg} {v : V} (h : PgAt K H g v) (hs : Src H a n) (s : Stp a n H H') : PgAt K H' g v := h.mono (fun _ _ t => s.tup hs t) fun _ _ t => t.stp hs s
theorem PgAt.updL {K : PySem.W.Frag} {H : Hp} {D : Addr} {xs : List V} {o : HO} {g : Pg} {v : V} (h : PgAt K H g v) (hD : H D = some (.lst xs)) : PgAt K (upd H D o) g v := h.mono (fun _ _ t => seqT_updL t hD) fun _ _ t => t.updL hD
theorem pget {α β : Type} {R : α → β → Prop} {l : List α} {m : List β} (h : Paired R l m) : ∀ {i : Nat} {y : β}, m[i]? = some y → ∃ x, l[i]? = some x ∧ R x y := by
  induction h with
  | nil =>
    intro i y e
    simp at e
  | cons h t ih =>
    intro i y e
    cases i with
    | zero =>
      cases (Option.some.inj e)
      exact ⟨_, rfl, h⟩
    | succ i =>
      obtain ⟨x, h1, h2⟩ := ih (by simpa using e)
      exact ⟨x, by simpa using h1, h2⟩
theorem same_upd2 {H : Hp} {p : Addr} {o o' : HO} (n : H p = none) : Same H (upd (upd H p o) p o') := fun c u h => by
  rw [upd_ne (ne_of_none h n), upd_ne (ne_of_none h n)]
  exact h
theorem same_updN {H H' : Hp} {D : Addr} {o : HO} (s : Same H H') (n : H D = none) : Same H (upd H' D o) := fun c u h => by
  rw [upd_ne (ne_of_none h n)]
  exact s c u h
theorem ixt_K {X : Cx} {K : PySem.W.Frag} (hk : X.K = K) : IxR X (rIxT K) := by
  subst hk
  exact ix_tup
theorem Paired.snoc {α β : Type} {R : α → β → Prop} {x : α} {y : β} : ∀ {l : List α} {m : List β}, Paired R l m → R x y → Paired R (l ++ [x]) (m ++ [y])
  | _, _, .nil, h => .cons h .nil
  | _, _, .cons h1 t, h => .cons h1 (Paired.snoc t h)
end Lim
set_option maxHeartbeats 4000000
namespace Lim
open PySem PySem.Spec PyProof.Rows L2
abbrev sSmp : Stmt := topS 28
def N2 : List Str := ["x", "y"]
structure VaOk (x : Va) : Prop where
  l1 : -2 ≤ x.lo
  l2 : x.lo ≤ 1
  le : x.lo + 1 ≤ x.hi
  h2 : x.hi ≤ x.lo + 3
  s1 : x.lo ≤ x.st
  s2 : x.st ≤ x.hi
  ru : x.ru.ok x.lo x.hi
structure PgOk (g : Pg) : Prop where
  nm : ∃ j, 1 ≤ j ∧ j ≤ 2 ∧ g.names = N2.take j
  va : ∀ x ∈ g.vs, VaOk x
  ha : ∀ e, g.halt = some e → Wf g.names e ∧ e.dep ≤ 1
  as : ∀ q ∈ g.asg, Wf g.names q.2 ∧ q.2.dep ≤ 2
  an : g.asg.map (·.1) = g.names
section
variable {P : Program} {w : World} {K : PySem.W.Frag} {mg : Str → Option Value} {base : Heap}
abbrev nSmp : List Str := ["source", "names", "variables", "name", "low", "size", "way", "rule", "assignments", "halt"]
theorem scSmp : FnScope nSmp ["source"] (defScope sSmp) := ⟨rfl, rfl, rfl, by decide +kernel, rfl, by decide +kernel, by decide +kernel⟩
def spSmp (K : PySem.W.Frag) : Sp := fun vs H Q _ => ∃ (a n : Addr), vs = [.ref a] ∧ Src H a n ∧ ∀ v g H', Stp a n H H' → PgAt K H' g v → PgOk g → Q v H'
/-- the variables so far -/
structure Vss (K : PySem.W.Frag) (H : Hp) (ns : List Str) (i : Nat) (vs : List Va) (ps : List Addr) : Prop where
  at_ : Paired (VaAt K H) vs ps
  nm : vs.map (·.name) = ns.take i
  ok : ∀ x ∈ vs, VaOk x
theorem Vss.mono {H H' : Hp} {ns : List Str} {i : Nat} {vs : List Va} {ps : List Addr} (h : Vss K H ns i vs ps) (kp : ∀ p xs, SqT K H p xs → SqT K H' p xs) : Vss K H' ns i vs ps := ⟨Paired.mapP h.at_ fun _ _ z => z.mono kp, h.nm, h.ok⟩
theorem ok_smp {f fP fC fX : Addr} {fd dP dC dX : FuncData} {k : Nat} (F : Fun K "_law_small_program" "_law_small_program" sSmp f fd) (mtu : mg "tuple" = none)
    (GP : FnOk P w K mg base CX0 k fP dP ["source", "many"] spPic) (kP : PySem.W.keepIn K (.ref fP) = true) (bP : Binds K dP ["source", "many"] []) (gP : mg "_law_pick" = some (.ref fP))
    (GC : FnOk P w K mg base CX0 k fC dC ["source", "options"] (spCho K)) (kC : PySem.W.keepIn K (.ref fC) = true) (bC : Binds K dC ["source", "options"] []) (gC : mg "_law_choose" = some (.ref fC))
    (GX : FnOk P w K mg base CX0 k fX dX ["source", "names", "depth"] (spXpr K 4)) (kX : PySem.W.keepIn K (.ref fX) = true) (bX : Binds K dX ["source", "names", "depth"] []) (gX : mg "_law_expression" = some (.ref fX)) :
    FnOk P w K mg base CX0 (k + 1) f fd ["source"] (spSmp K) := by
  refine F.ok scSmp (fun vs H Q E h => ?_) (fun cdv A outer s H vs Q E hr h => ?_)
  · obtain ⟨_, _, rfl, _⟩ := h
    rfl
  obtain ⟨a, n, rfl, hs, q⟩ := h
  have one : 1 ≤ sizeLine := by show 1 ≤ sizeLine; decide
  have two : 2 ≤ sizeLine := by show 2 ≤ sizeLine; decide
  have three : 3 ≤ sizeLine := by show 3 ≤ sizeLine; decide
  have four : 4 ≤ sizeLine := by show 4 ≤ sizeLine; decide
  have five : 5 ≤ sizeLine := by show 5 ≤ sizeLine; decide
  refine ⟨_, (C8.pss_cut (ps_set (i := 1) scSmp.nd rfl (.inr rfl) (pe_slice sl_list (pe_lst (pa_cons (pe_str) (pa_cons (pe_str) pa_nil))) (po_none) (po_some (pe_op op_add (pe_int) (pe_call GP hr (by rfl) gP kP bP .nil pass0 (pa_cons (pv 0) (pa_cons (pe_int) pa_nil)))))))
        (pss_cons (ps_set (i := 2) scSmp.nd rfl (.inl rfl) (pe_lst pa_nil))
        (C8.pss_cut (ps_for PassesOwn.never rfl (pi_list (pv 1)) (pg_name (i := 3) scSmp.nd rfl (.inl rfl)) (C8.pss_cut (ps_set (i := 4) scSmp.nd rfl (.inl rfl) (pe_call GC hr (by rfl) gC kC bC .nil pass0 (pa_cons (pv 0) (pa_cons (pe_lst (pa_cons (pe_int) (pa_cons (pe_int) (pa_cons (pe_int) (pa_cons (pe_op op_sub (pe_int) (pe_int)) (pa_cons (pe_op op_sub (pe_int) (pe_int)) pa_nil)))))) pa_nil))))
        (C8.pss_cut (ps_set (i := 5) scSmp.nd rfl (.inl rfl) (pe_op op_add (pe_int) (pe_call GP hr (by rfl) gP kP bP .nil pass0 (pa_cons (pv 0) (pa_cons (pe_ifExp (pt_cmpR op_eq (pv 3) (pe_str) (nomark _)) (pe_int) (pe_int)) pa_nil)))))
        (C8.pss_cut (ps_set (i := 6) scSmp.nd rfl (.inl rfl) (pe_call GC hr (by rfl) gC kC bC .nil pass0 (pa_cons (pv 0) (pa_cons (pe_lst (pa_cons (pe_str) (pa_cons (pe_str) (pa_cons (pe_str) (pa_cons (pe_str) pa_nil))))) pa_nil))))
        (C8.pss_cut (ps_set (i := 7) scSmp.nd rfl (.inl rfl) (pe_ifExp (pt_cmpR op_in_seq (pv 6) (pe_tup (pa_cons pe_str (pa_cons pe_str pa_nil))) (by with_unfolding_all rfl)) (pe_tup (pa_cons (pv 6) pa_nil)) (pe_tup (pa_cons (pv 6) (pa_cons (pe_op op_add (pv 4) (pe_call GP hr (by rfl) gP kP bP .nil pass0 (pa_cons (pv 0) (pa_cons (pv 5) pa_nil)))) pa_nil)))))
        (pss_one (ps_expr (pe_bm PySem.F.plainAttrs_list PySem.F.slot_list_append PySem.F.type_list_append mt_append (pv 2) (pa_cons (pe_tup (pa_cons (pv 3) (pa_cons (pv 4) (pa_cons (pe_op op_sub (pe_op op_add (pv 4) (pv 5)) (pe_int)) (pa_cons (pe_op op_add (pv 4) (pe_call GP hr (by rfl) gP kP bP .nil pass0 (pa_cons (pv 0) (pa_cons (pv 5) pa_nil)))) (pa_cons (pv 7) pa_nil)))))) pa_nil)))))))))
        (C8.pss_cut (ps_setLc (i := 8) (own := [("name", 3)]) (g := gName 3) (tt := tYes) (by rfl) scSmp.nd rfl rfl (sw_true rfl rfl rfl (by decide +kernel)) (pi_list (pv 1)) (blkOk_by (N := nSmp) (sc := defScope sSmp) (by decide +kernel)) (fun _ _ _ _ _ => pg_name (i := 3) scSmp.nd rfl (.inl rfl)) (fun _ _ _ _ _ => pts_nil) (fun _ _ _ _ _ => pe_tup (pa_cons (pv 3) (pa_cons (pe_call GX hr (by rfl) gX kX bX .nil pass0 (pa_cons (pv 0) (pa_cons (pv 1) (pa_cons (pe_op op_add (pe_int) (pe_call GP hr (by rfl) gP kP bP .nil pass0 (pa_cons (pv 0) (pa_cons (pe_int) pa_nil)))) pa_nil)))) pa_nil))))
        (C8.pss_cut (ps_set (i := 9) scSmp.nd rfl (.inl rfl) (pe_ifExp (pt_cmpR op_eq (pe_call GP hr (by rfl) gP kP bP .nil pass0 (pa_cons (pv 0) (pa_cons (pe_int) pa_nil))) (pe_int) (nomark _)) (pe_call GX hr (by rfl) gX kX bX .nil pass0 (pa_cons (pv 0) (pa_cons (pv 1) (pa_cons (pe_int) pa_nil)))) (pe_non)))
        (pss_one (ps_ret (pe_tup (pa_cons (pe_callTy call_tupleF (by rfl) mtu (by decide +kernel) (pa_cons (pv 2) pa_nil)) (pa_cons (pv 9) (pa_cons (pe_callTy call_tupleF (by rfl) mtu (by decide +kernel) (pa_cons (pv 8) pa_nil)) pa_nil))))))))))), ?_⟩
  -- the names
  refine ⟨fun σ H' => ∃ (l : Addr) (j : Nat), σ = [some (.ref a), some (.ref l), none, none, none, none, none, none, none, none] ∧ Stp a n H H' ∧ H' l = some (.lst ((N2.take j).map V.str)) ∧ l ≠ a ∧ 1 ≤ j ∧ j ≤ 2, ?_, ?_⟩
  · refine ⟨two, fun l0 nl0 => ?_⟩
    have so0 := same_upd (o := .lst [.str "x", .str "y"]) nl0
    refine ⟨_, rfl, a, n, _, rfl, hs.same so0, by decide, by decide, fun r H2 h0 h1 s2 => ⟨_, _, rfl, rfl, _, rfl, l0, [.str "x", .str "y"], rfl, .inl (.inl (s2.2 _ _ upd_same (hs.has nl0))), fun l nl => ?_⟩⟩
    have h1' : r < 2 := h1
    have S2 := (Stp.of hs so0).trans s2
    obtain ⟨j, hj, j1, j2⟩ : ∃ j : Nat, (1 : Int) + r = (j : Int) ∧ 1 ≤ j ∧ j ≤ 2 := ⟨(1 + r).toNat, by omega, by omega, by omega⟩
    refine ⟨l, j, rfl, S2.then (same_upd nl), ?_, S2.1.has nl, j1, j2⟩
    rw [upd_same, show (1 : Int) + r = (j : Int) from hj, cut_to, List.map_take]
    rfl
  rintro σ H1 ⟨l, j, rfl, s1, hl, hla, j1, j2⟩
  have nel : (N2.take j).length = j := by
    rw [List.length_take]
    exact Nat.min_eq_left j2
  have nne : N2.take j ≠ [] := fun e => by
    rw [e] at nel
    simp at nel
    omega
  -- the variables
  refine ⟨by show 0 ≤ sizeLine; decide, fun D nD => ?_⟩
  have hDa : D ≠ a := s1.1.has nD
  refine ⟨fun σ H' => ∃ (vs : List Va) (ps : List Addr) (y3 y4 y5 y6 y7 : Option V), σ = [some (.ref a), some (.ref l), some (.ref D), y3, y4, y5, y6, y7, none, none] ∧ Stp a n H1 H' ∧ H' D = some (.lst (ps.map V.ref)) ∧ Vss K H' (N2.take j) j vs ps, ?_, ?_⟩
  · refine ⟨_, rfl, l, rfl, ⟨_, .inl (.inl ((same_upd nD) _ _ hl))⟩, for_list (K := K) (a := l) (xs := (N2.take j).map V.str)
      (fun i σ H' => ∃ (vs : List Va) (ps : List Addr) (y3 y4 y5 y6 y7 : Option V), σ = [some (.ref a), some (.ref l), some (.ref D), y3, y4, y5, y6, y7, none, none] ∧ Stp a n H1 H' ∧ H' D = some (.lst (ps.map V.ref)) ∧ Vss K H' (N2.take j) i vs ps) ?_ ?_ ?_ ?_⟩
    · exact ⟨[], [], _, _, _, _, _, rfl, .of s1.1 (same_upd nD), upd_same, .nil, rfl, fun x hx => by cases hx⟩
    · rintro i σ H2 _ ⟨vs, ps, y3, y4, y5, y6, y7, rfl, s2, _⟩
      exact .inl (.inl (s2.2 _ _ hl hla))
    · rintro i xn σ H2 hxn ⟨vs, ps, y3, y4, y5, y6, y7, rfl, s2, hD, VS⟩
      obtain ⟨x, hx, rfl⟩ : ∃ x, (N2.take j)[i]? = some x ∧ xn = .str x := by
        rw [List.getElem?_map] at hxn
        obtain ⟨x, h1, h2⟩ := Option.map_eq_some_iff.mp hxn
        exact ⟨x, h1, h2.symm⟩
      have hij : i < j := by
        have := (List.getElem?_eq_some_iff.mp hx).1
        omega
      have hvl : vs.length = i := by
        have e := congrArg List.length VS.nm
        rw [List.length_map, List.length_take, nel] at e
        omega
      have hpl : ps.length = i := by rw [← Paired.length VS.at_, hvl]
      -- low
      refine ⟨fun σ H' => ∃ lo : Int, σ = [some (.ref a), some (.ref l), some (.ref D), some (.str x), some (.int lo), y5, y6, y7, none, none] ∧ Stp a n H2 H' ∧ -2 ≤ lo ∧ lo ≤ 1, ?_, ?_⟩
      · refine ⟨_, rfl, _, _, rfl, rfl, _, _, rfl, rfl, five, fun p1 np1 => ⟨a, n, p1, _, rfl, s2.1.same (same_upd np1), .inl (.inl upd_same), s2.1.has np1, by simp, by simp, fun vb H4 hvb s4 => ?_⟩⟩
        have S4 := (Stp.of s2.1 (same_upd (o := .lst [.int 0, .int 0, .int 1, .int (0 - 1), .int (0 - 2)]) np1)).trans s4
        simp at hvb
        rcases hvb with rfl | rfl | rfl | rfl
        all_goals exact ⟨_, rfl, S4, by decide, by decide⟩
      rintro σ H4 ⟨lo, rfl, s4, lo1, lo2⟩
      -- size
      refine ⟨fun σ H' => ∃ sz : Int, σ = [some (.ref a), some (.ref l), some (.ref D), some (.str x), some (.int lo), some (.int sz), y6, y7, none, none] ∧ Stp a n H4 H' ∧ 2 ≤ sz ∧ sz ≤ 4, ?_, ?_⟩
      · refine ⟨_, rfl, _, rfl, rfl, _, rfl, ite2 (fun _ => ?_) (fun _ => ?_)⟩
        · exact ⟨a, n, _, rfl, s4.1, by decide, by decide, fun r H5 h0 h1 s5 => ⟨_, _, rfl, rfl, 2 + r, rfl, s5, by omega, by have h1' : r < 3 := h1; omega⟩⟩
        · exact ⟨a, n, _, rfl, s4.1, by decide, by decide, fun r H5 h0 h1 s5 => ⟨_, _, rfl, rfl, 2 + r, rfl, s5, by omega, by have h1' : r < 2 := h1; omega⟩⟩
      rintro σ H5 ⟨sz, rfl, s5, z1, z2⟩
      -- way
      refine ⟨fun σ H' => ∃ u : Str, σ = [some (.ref a), some (.ref l), some (.ref D), some (.str x), some (.int lo), some (.int sz), some (.str u), y7, none, none] ∧ Stp a n H5 H' ∧ (u = "low" ∨ u = "high" ∨ u = "keep" ∨ u = "set"), ?_, ?_⟩
      · refine ⟨_, rfl, four, fun p1 np1 => ⟨a, n, p1, _, rfl, s5.1.same (same_upd np1), .inl (.inl upd_same), s5.1.has np1, by simp, by simp, fun vb H6 hvb s6 => ?_⟩⟩
        have S6 := (Stp.of s5.1 (same_upd (o := .lst [.str "low", .str "high", .str "keep", .str "set"]) np1)).trans s6
        simp at hvb
        rcases hvb with rfl | rfl | rfl | rfl
        · exact ⟨_, rfl, S6, .inl rfl⟩
        · exact ⟨_, rfl, S6, .inr (.inl rfl)⟩
        · exact ⟨_, rfl, S6, .inr (.inr (.inl rfl))⟩
        · exact ⟨_, rfl, S6, .inr (.inr (.inr rfl))⟩
      rintro σ H6 ⟨u, rfl, s6, hu⟩
      -- rule
      refine ⟨fun σ H' => ∃ (ru : Ru) (p : Addr), σ = [some (.ref a), some (.ref l), some (.ref D), some (.str x), some (.int lo), some (.int sz), some (.str u), some (.ref p), none, none] ∧ Stp a n H6 H' ∧ SqT K H' p ru.parts ∧ ru.ok lo (lo + sz - 1), ?_, ?_⟩
      · rcases hu with rfl | rfl | rfl | rfl
        · refine ⟨_, rfl, two, fun t0 n0 => ⟨t0, _, rfl, .inr (.inl (.inl upd_same)), rfl, rfl, _, rfl, ifT (by decide +kernel) ?_⟩⟩
          exact ⟨_, rfl, one, fun p np => ⟨.low, p, rfl, (Stp.of s6.1 (same_upd n0)).then (same_upd np), .inl (.inl upd_same), trivial⟩⟩
        · refine ⟨_, rfl, two, fun t0 n0 => ⟨t0, _, rfl, .inr (.inl (.inl upd_same)), rfl, rfl, _, rfl, ifT (by decide +kernel) ?_⟩⟩
          exact ⟨_, rfl, one, fun p np => ⟨.high, p, rfl, (Stp.of s6.1 (same_upd n0)).then (same_upd np), .inl (.inl upd_same), trivial⟩⟩
        · refine ⟨_, rfl, two, fun t0 n0 => ⟨t0, _, rfl, .inr (.inl (.inl upd_same)), rfl, rfl, _, rfl, ifF (by decide +kernel) ?_⟩⟩
          refine ⟨_, rfl, _, rfl, _, rfl, _, rfl, a, n, _, rfl, s6.1.same (same_upd n0), by omega, by omega, fun m H7 h0 h1 s7 => ⟨_, _, rfl, rfl, two, fun p np => ?_⟩⟩
          exact ⟨.keep (lo + m), p, rfl, ((Stp.of s6.1 (same_upd n0)).trans s7).then (same_upd np), .inl (.inl upd_same), by omega, by omega⟩
        · refine ⟨_, rfl, two, fun t0 n0 => ⟨t0, _, rfl, .inr (.inl (.inl upd_same)), rfl, rfl, _, rfl, ifF (by decide +kernel) ?_⟩⟩
          refine ⟨_, rfl, _, rfl, _, rfl, _, rfl, a, n, _, rfl, s6.1.same (same_upd n0), by omega, by omega, fun m H7 h0 h1 s7 => ⟨_, _, rfl, rfl, two, fun p np => ?_⟩⟩
          exact ⟨.set (lo + m), p, rfl, ((Stp.of s6.1 (same_upd n0)).trans s7).then (same_upd np), .inl (.inl upd_same), by omega, by omega⟩
      rintro σ H7 ⟨ru, p, rfl, s7, hru, hok⟩
      have S7 := ((s4.trans s5).trans s6).trans s7
      refine ⟨_, rfl, .inl ⟨rfl, _, .inl (.inl (S7.2 _ _ hD hDa))⟩, _, rfl, _, rfl, _, rfl, _, rfl, _, _, rfl, rfl, _, _, rfl, rfl, _, rfl, _, rfl, _, rfl, a, n, _, rfl, s7.1, by omega, by omega, fun r3 H8 d0 d1 s8 => ⟨_, _, rfl, rfl, _, rfl, five, fun pt npt => ?_⟩⟩
      have sp := same_upd (o := .tup [.str x, .int lo, .int (lo + sz - 1), .int (lo + r3), .ref p]) npt
      have S8 := (S7.trans s8).then sp
      have hD8 := S8.2 _ _ hD hDa
      refine ⟨D, _, _, rfl, rfl, hD8, by rw [List.length_map, hpl]; exact small1000 (by omega), ?_⟩
      have mv : ∀ q xs, SqT K H2 q xs → SqT K (upd (upd H8 pt (.tup [.str x, .int lo, .int (lo + sz - 1), .int (lo + r3), .ref p])) D (.lst (ps.map V.ref ++ [.ref pt]))) q xs := fun q xs t => seqT_updL (S8.tup s2.1 t) hD8
      refine ⟨vs ++ [⟨x, lo, lo + sz - 1, lo + r3, ru⟩], ps ++ [pt], _, _, _, _, _, rfl, ?_, ?_, ?_, ?_, ?_⟩
      · exact (s2.trans S8).upd s1.1 nD
      · rw [upd_same, List.map_append]
        rfl
      · exact Paired.snoc (Paired.mapP VS.at_ fun _ _ z => z.mono mv) ⟨p, seqT_updL (.inl (.inl upd_same)) hD8, seqT_updL (Same.seqT sp (s8.tup s7.1 hru)) hD8⟩
      · rw [List.map_append, VS.nm, List.take_add_one, hx]
        rfl
      · intro y hy
        rcases List.mem_append.mp hy with hy | hy
        · exact VS.ok y hy
        · rw [List.mem_singleton.mp hy]
          exact ⟨lo1, lo2, by show lo + 1 ≤ lo + sz - 1; omega, by show lo + sz - 1 ≤ lo + 3; omega, by show lo ≤ lo + r3; omega, by show lo + r3 ≤ lo + sz - 1; omega, hok⟩
    · rintro σ H2 ⟨vs, ps, y3, y4, y5, y6, y7, rfl, s2, hD, VS⟩
      rw [List.length_map, nel] at VS
      exact ⟨vs, ps, y3, y4, y5, y6, y7, rfl, s2, hD, VS⟩
  rintro σ H2 ⟨vs, ps, y3, y4, y5, y6, y7, rfl, s2, hD, VS⟩
  have hl2 := s2.2 _ _ hl hla
  have hlD : l ≠ D := ne_of_none hl nD
  -- the assignments
  refine ⟨fun σ H' => ∃ (B : Addr) (as : List (Str × Ex)) (pas : List Addr), σ = [some (.ref a), some (.ref l), some (.ref D), y3, y4, y5, y6, y7, some (.ref B), none] ∧ Stp a n H2 H' ∧ H' B = some (.lst (pas.map V.ref)) ∧ B ≠ a ∧ Paired (AsAt K H') as pas ∧ as.map (·.1) = N2.take j ∧ (∀ z ∈ as, Wf (N2.take j) z.2 ∧ z.2.dep ≤ 2), ?_, ?_⟩
  · refine ⟨_, rfl, l, rfl, ⟨_, .inl (.inl hl2)⟩, fun B nB => ?_⟩
    have hBa : B ≠ a := s2.1.has nB
    have hlB : l ≠ B := ne_of_none hl2 nB
    refine lc_list (K := K) (a := l) (xs := (N2.take j).map V.str) (fun i H' => Stp a n H2 H' ∧ ∃ (as : List (Str × Ex)) (pas : List Addr), H' B = some (.lst (pas.map V.ref)) ∧ Paired (AsAt K H') as pas ∧ as.map (·.1) = (N2.take j).take i ∧ (∀ z ∈ as, Wf (N2.take j) z.2 ∧ z.2.dep ≤ 2)) ?_ ?_ ?_ ?_
    · exact ⟨.of s2.1 (same_upd nB), [], [], upd_same, .nil, rfl, fun z hz => by cases hz⟩
    · rintro i H3 _ ⟨s3, _⟩
      exact .inl (.inl (s3.2 _ _ hl2 hla))
    · rintro i xn H3 hxn ⟨s3, as, pas, hB, hP, hm, hw⟩
      obtain ⟨x, hx, rfl⟩ : ∃ x, (N2.take j)[i]? = some x ∧ xn = .str x := by
        rw [List.getElem?_map] at hxn
        obtain ⟨x, h1, h2⟩ := Option.map_eq_some_iff.mp hxn
        exact ⟨x, h1, h2.symm⟩
      have hpl : pas.length ≤ 2 := by
        have e := congrArg List.length hm
        rw [List.length_map, List.length_take, nel] at e
        rw [← Paired.length hP]
        omega
      refine ⟨rfl, _, rfl, _, rfl, _, rfl, _, rfl, a, n, _, rfl, s3.1, by decide, by decide, fun r H4 h0 h1 s4 => ⟨_, _, rfl, rfl, ?_⟩⟩
      have h1' : r < 2 := h1
      obtain ⟨dp, hdp, hd2⟩ : ∃ dp : Nat, (1 : Int) + r = (dp : Int) ∧ dp ≤ 2 := ⟨(1 + r).toNat, by omega, by omega⟩
      refine ⟨a, n, l, N2.take j, dp, congrArg (fun z => [V.ref a, V.ref l, V.int z]) hdp, s4.1, s4.2 _ _ (s3.2 _ _ hl2 hla) hla, hla, nne, by rw [nel]; omega, by omega, fun v e H5 s5 hA hW hd => ⟨two, fun pt npt => ?_⟩⟩
      have S5 := (s4.trans s5).then (same_upd (o := .tup [.str x, v]) npt)
      have hB5 := S5.2 _ _ hB hBa
      have mv : ∀ q xs, SqT K H3 q xs → SqT K (upd (upd H5 pt (.tup [.str x, v])) B (.lst (pas.map V.ref ++ [.ref pt]))) q xs := fun q xs t => seqT_updL (S5.tup s3.1 t) hB5
      refine ⟨_, hB5, by rw [List.length_map]; exact small1000 (by omega), (s3.trans S5).upd s2.1 nB, as ++ [(x, e)], pas ++ [pt], ?_, ?_, ?_, ?_⟩
      · rw [upd_same, List.map_append]
        rfl
      · exact Paired.snoc (Paired.mapP hP fun _ _ z => z.mono mv) ⟨v, seqT_updL (.inl (.inl upd_same)) hB5, (hA.same (same_upd npt)).updL hB5⟩
      · rw [List.map_append, hm, List.take_add_one, hx]
        rfl
      · intro z hz
        rcases List.mem_append.mp hz with hz | hz
        · exact hw z hz
        · rw [List.mem_singleton.mp hz]
          exact ⟨hW, Nat.le_trans hd hd2⟩
    · rintro H3 ⟨s3, as, pas, hB, hP, hm, hw⟩
      refine ⟨B, as, pas, rfl, s3, hB, hBa, hP, ?_, hw⟩
      rw [hm, List.length_map, List.take_length]
  rintro σ H3 ⟨B, as, pas, rfl, s3, hB, hBa, hP, hm, hw⟩
  have hl3 := s3.2 _ _ hl2 hla
  -- the halt expression
  refine ⟨fun σ H' => ∃ (ho : Option Ex) (hv : V), σ = [some (.ref a), some (.ref l), some (.ref D), y3, y4, y5, y6, y7, some (.ref B), some hv] ∧ Stp a n H3 H' ∧ HaAt K H' ho hv ∧ ∀ e, ho = some e → Wf (N2.take j) e ∧ e.dep ≤ 1, ?_, ?_⟩
  · refine ⟨_, rfl, a, n, _, rfl, s3.1, by decide, by decide, fun r H4 h0 h1 s4 => ⟨rfl, _, rfl, ?_⟩⟩
    rw [int_eq]
    by_cases c : r = 0
    · rw [decide_eq_true c]
      refine iteT ⟨_, rfl, _, rfl, a, n, l, N2.take j, 1, rfl, s4.1, s4.2 _ _ hl3 hla, hla, nne, by rw [nel]; omega, by omega, fun v e H5 s5 hA hW hd => ?_⟩
      exact ⟨some e, v, rfl, s4.trans s5, hA, fun e' he => by cases he; exact ⟨hW, hd⟩⟩
    · rw [decide_eq_false c]
      exact iteF ⟨none, _, rfl, s4, rfl, fun e he => by cases he⟩
  rintro σ H4 ⟨ho, hv, rfl, s4, hH, hHw⟩
  have hD4 := s4.2 _ _ (s3.2 _ _ hD hDa) hDa
  have hB4 := s4.2 _ _ hB hBa
  refine ⟨_, rfl, D, _, rfl, .inl (.inl hD4), fun t1 i1 n1 => ⟨_, rfl, _, rfl, B, _, rfl, .inl (.inl ((same_upd n1) _ _ hB4)), fun t2 i2 n2 => ⟨three, fun t3 n3 => ?_⟩⟩⟩
  have e1 := same_upd (o := .frz (bareT i1) (.tup (ps.map V.ref))) n1
  have e2 := same_upd (o := .frz (bareT i2) (.tup (pas.map V.ref))) n2
  have e3 := same_upd (o := .tup [.ref t1, hv, .ref t2]) n3
  have SS := ((((s1.trans s2).trans s3).trans s4).then e1).then (e2.trans e3)
  have m24 : ∀ q xs, SqT K H2 q xs → SqT K H4 q xs := fun q xs t => (s3.trans s4).tup s2.1 t
  have mE : Same H4 _ := (e1.trans e2).trans e3
  refine q (.ref t3) ⟨vs, ho, as⟩ _ SS ⟨t3, t1, t2, hv, ps, pas, rfl, .inl (.inl upd_same), Same.seqT (e2.trans e3) (.inl (.inr ⟨_, upd_same⟩)), ?_, ?_, ?_, ?_⟩ ⟨⟨j, j1, j2, ?_⟩, VS.ok, ?_, ?_, ?_⟩
  · exact Paired.mapP (Paired.mapP VS.at_ fun _ _ z => z.mono m24) fun _ _ z => z.mono fun _ _ t => Same.seqT mE t
  · exact hH.mono fun _ _ t => Same.seqT mE t
  · exact FzT.same ⟨_, upd_same⟩ e3
  · exact Paired.mapP (Paired.mapP hP fun _ _ z => z.mono fun _ _ t => s4.tup s3.1 t) fun _ _ z => z.mono fun _ _ t => Same.seqT mE t
  · show vs.map (·.name) = _
    rw [VS.nm]
    exact List.take_of_length_le (by rw [nel]; exact Nat.le_refl _)
  · intro e he
    have : (⟨vs, ho, as⟩ : Pg).names = N2.take j := VS.nm.trans (List.take_of_length_le (by rw [nel]; exact Nat.le_refl _))
    rw [this]
    exact hHw e he
  · intro z hz
    have : (⟨vs, ho, as⟩ : Pg).names = N2.take j := VS.nm.trans (List.take_of_length_le (by rw [nel]; exact Nat.le_refl _))
    rw [this]
    exact hw z hz
  · have : (⟨vs, ho, as⟩ : Pg).names = N2.take j := VS.nm.trans (List.take_of_length_le (by rw [nel]; exact Nat.le_refl _))
    rw [this]
    exact hm
end
end Lim
set_option maxHeartbeats 4000000
namespace Lim
open PySem PySem.Spec PyProof.Rows L2
/-- what a class of the fifteen says -/
structure KitV (K : PySem.W.Frag) (cL : Addr) (cs : List Addr) (i : Nat) (C : Addr) : Prop where
  ec : ExcC K C
  lr : PySem.W.kitOne K (.ref C) (.ref cL) = some true
  ve : PySem.W.kitOne K (.ref C) (.type "ValueError") = some true
  ks : ∀ j D, cs[j]? = some D → PySem.W.kitOne K (.ref C) (.ref D) = some (decide (i = j))
/-- what the text of a class directly under LimitRunError says -/
structure ClsF (K : PySem.W.Frag) (cL C : Addr) : Prop where
  lk : ∃ (nm q : Str) (N : Addr) (bs : List Value) (sn : List Str) (sub : List Value) (ab : Bool) (col : Option Bool) (dd : Option Addr) (k0 k1 k2 k3 k5 : Option Value), K.lookup C = some (excClassObj nm q C N bs [.ref cL, .type "ValueError", .type "Exception", .type "BaseException", .type "object"] true sn sub ab col dd k0 k1 k2 k3 k5 "ValueError.__new__")
  ga : PySem.W.findIn K (.ref C) "__getattribute__" = some (some (.builtin "BaseException.__getattribute__"))
  gg : PySem.W.findIn K (.ref C) "__getattr__" = some none
  gc : PySem.W.findIn K (.ref C) "__class__" = some (some (.builtin "object.__class__"))
section
variable {K : PySem.W.Frag} {cL C D : Addr}
theorem ClsF.ty (F : ClsF K cL C) : PySem.W.typeIn K (.ref C) = some (.type "type") := by
  obtain ⟨nm, q, N, bs, sn, sub, ab, col, dd, k0, k1, k2, k3, k5, h⟩ := F.lk
  show (K.lookup C).map (·.cls) = _
  rw [h]
  rfl
theorem ClsF.hd (F : ClsF K cL C) : PySem.W.hasDictIn K C = true := by
  obtain ⟨nm, q, N, bs, sn, sub, ab, col, dd, k0, k1, k2, k3, k5, h⟩ := F.lk
  unfold PySem.W.hasDictIn PySem.W.clsIn
  rw [h]
  rfl
theorem ClsF.mro (F : ClsF K cL C) (v : Value) : PySem.W.mroIn K C v = some ((Value.ref C :: [.ref cL, .type "ValueError", .type "Exception", .type "BaseException", .type "object"]).contains v) := by
  obtain ⟨nm, q, N, bs, sn, sub, ab, col, dd, k0, k1, k2, k3, k5, h⟩ := F.lk
  unfold PySem.W.mroIn PySem.W.clsIn
  rw [h]
  rfl
theorem ClsF.sub (F : ClsF K cL C) (v : Value) : PySem.W.subIn K (.ref C) v = some ((Value.ref C :: [.ref cL, .type "ValueError", .type "Exception", .type "BaseException", .type "object"]).contains v) := F.mro v
theorem ClsF.no (F : ClsF K cL C) (h1 : C ≠ D) (h2 : cL ≠ D) : PySem.W.subIn K (.ref C) (.ref D) = some false := by
  rw [F.sub]
  have e1 : ¬ D = C := Ne.symm h1
  have e2 : ¬ D = cL := Ne.symm h2
  simp [e1, e2]
theorem ClsF.ec (F : ClsF K cL C) (wn : PySem.W.specialIn K (.builtin "object.__class__") "__get__" = some (some (.builtin "getset_descriptor.__get__"))) (wt : PySem.W.takesIn K (.builtin "object.__class__") = some true) : ExcC K C :=
  ⟨F.ga, F.gg, (F.sub _).trans (by simp), F.hd, F.gc, wn, wt, (F.mro _).trans (by simp)⟩
theorem ClsF.oex (F : ClsF K cL C) (sa : PySem.W.findIn K (.ref C) "__setattr__" = some (some (.builtin "object.__setattr__"))) (kC : PySem.W.keepIn K (.ref C) = true) : OexC K C := by
  refine ⟨?_, sa, (F.sub _).trans (by simp), F.ty, kC⟩
  obtain ⟨nm, q, N, bs, sn, sub, ab, col, dd, k0, k1, k2, k3, k5, h⟩ := F.lk
  exact ⟨nm, q, N, bs, _, sn, sub, ab, col, dd, k0, k1, k2, k3, k5, h, rfl⟩
theorem ClsF.xf (F : ClsF K cL C) : XfC K C := ⟨F.ga, F.gg, (F.sub _).trans (by simp), F.hd⟩
theorem nodup_ne {l : List Addr} (h : l.Nodup) {i j : Nat} {a b : Addr} (hi : l[i]? = some a) (hj : l[j]? = some b) (n : i ≠ j) : a ≠ b := fun e => by
  subst e
  obtain ⟨h1, e1⟩ := List.getElem?_eq_some_iff.mp hi
  obtain ⟨h2, e2⟩ := List.getElem?_eq_some_iff.mp hj
  have P := List.pairwise_iff_getElem.mp h
  rcases Nat.lt_or_gt_of_ne n with g | g
  · exact P i j h1 h2 g (e1.trans e2.symm)
  · exact P j i h2 h1 g (e2.trans e1.symm)
theorem kv_of {cs : List Addr} (A : ∀ D ∈ cs, ClsF K cL D) (TL : PySem.W.typeIn K (.ref cL) = some (.type "type")) (DL : PySem.W.hasDictIn K cL = true) (nd : (cL :: cs).Nodup) (wn : PySem.W.specialIn K (.builtin "object.__class__") "__get__" = some (some (.builtin "getset_descriptor.__get__"))) (wt : PySem.W.takesIn K (.builtin "object.__class__") = some true)
    (i : Nat) (C : Addr) (h : cs[i]? = some C) : KitV K cL cs i C := by
  have F := A C (List.mem_of_getElem? h)
  have nC : cL ≠ C := nodup_ne nd (i := 0) (j := i + 1) rfl (by simpa using h) (by omega)
  refine ⟨F.ec wn wt, kit_ref (Ne.symm nC) DL TL ((F.sub _).trans (by simp)), kit_type (by decide +kernel) ((F.sub _).trans (by simp)), fun j D hj => ?_⟩
  have nD : cL ≠ D := nodup_ne nd (i := 0) (j := j + 1) rfl (by simpa using hj) (by omega)
  by_cases e : i = j
  · subst e
    rw [h] at hj
    cases hj
    rw [decide_eq_true rfl]
    exact kit_same
  · rw [decide_eq_false e]
    have G := A D (List.mem_of_getElem? hj)
    have ne : C ≠ D := nodup_ne nd (i := i + 1) (j := j + 1) (by simpa using h) (by simpa using hj) (by omega)
    exact kit_ref ne G.hd G.ty (F.no ne nD)
end

section
variable {P : Program} {w : World} {K : PySem.W.Frag} {mg : Str → Option Value} {base : Heap}
/-- a field that a message may show -/
def Fld (v : V) : Prop := (∃ i : Int, v = .int i ∧ i.natAbs < 2 ^ 200) ∨ ∃ x : Str, v = .str x ∧ x.length ≤ 100
theorem log_small' {z : Int} (h : z.natAbs < 2 ^ 200) : z.natAbs.log2 < 1920 := log_small h
theorem int_txt {z : Int} (h : z.natAbs < 2 ^ 200) : (Str.ofString (toString z)).length ≤ 2000 := by
  have e : (PyData.shown (.int z)) = Str.ofString (toString z) := by simp [PyData.shown]
  rw [← e]
  exact int_len h
/-- the promise of an __init__ that calls its base's and stores its arguments -/
def spErr (K : PySem.W.Frag) (C : Addr) (fs : List V → List (Str × V)) (n : Nat) : Sp := fun vs H Q _ => ∃ (a : Addr) (ws : List V), vs = .ref a :: ws ∧ ws.length = n ∧ (∀ v ∈ ws, Fld v) ∧ H a = some (exo a C none) ∧
  ∀ H' d, (∀ b o, H b = some o → b ≠ a → H' b = some o) → H d = none → H' a = some (exo a C (some d)) → H' d = some (exd d (fs ws)) → Q .non H'
/-- the message of one shown field -/
theorem fmt_one {X : Cx} {t : Str} {i : Nat} {v : V} {σ : L2.St} {H : Hp} {R : Str → Hp → Prop} (hv : Fld v) (hs : σ[i]? = some (some v)) (ht : t.length ≤ 100) (q : ∀ out, out.length ≤ 4000 → R out H) :
    tJs [tC (.str t), tFmt (tVar i)] Str.empty σ H R := by
  have e0 : (Str.empty ++ t).length = t.length := by
    rw [strLen_append]
    exact Nat.zero_add _
  refine ⟨t, rfl, by rw [e0]; exact Nat.le_of_lt (small1000 (by omega)), ?_⟩
  rcases hv with ⟨z, rfl, hz⟩ | ⟨y, rfl, hy⟩
  · have h1 := int_txt hz
    refine ⟨_, hs, .inr ⟨z, rfl, log_small hz, _, rfl, ?_, q _ ?_⟩⟩
    · rw [strLen_append, e0, sizeLine_eq]
      omega
    · rw [strLen_append, e0]
      omega
  · refine ⟨_, hs, .inl ⟨y, rfl, Nat.le_of_lt (small1000 (by omega)), _, rfl, ?_, q _ ?_⟩⟩
    · rw [strLen_append, e0, sizeLine_eq]
      omega
    · rw [strLen_append, e0]
      omega

abbrev sNV : Stmt := inClass (topS 6) 0
theorem scNV : FnScope ["self", "name"] ["self", "name"] (defScope sNV) := ⟨rfl, rfl, rfl, by decide +kernel, rfl, by decide +kernel, by decide +kernel⟩
def fsNV : List V → List (Str × V) := fun ws => [("name", ws.headD .non)]
theorem ok_NV {f C cL : Addr} {fd : FuncData} {k : Nat} (F : Fun K "__init__" "NoVariable.__init__" sNV f fd) (gL : mg "LimitRunError" = some (.ref cL)) (B : BaseC K cL) (T : OexC K C) (no : PySem.W.findIn K (.ref C) "name" = some none) :
    FnOk P w K mg base CX0 (k + 1) f fd ["self", "name"] (spErr K C fsNV 1) := by
  refine F.ok scNV (fun vs H Q E h => ?_) (fun cdv A outer s H vs Q E hr h => ?_)
  · obtain ⟨a, ws, rfl, hl, _⟩ := h
    simp [hl]
  · obtain ⟨a, ws, rfl, hl, hf, ha, q⟩ := h
    obtain ⟨v, rfl⟩ : ∃ v, ws = [v] := by
      match ws, hl with
      | [v], _ => exact ⟨v, rfl⟩
    refine ⟨_, (pss_cons (ps_expr (pe_vebase (by rfl) gL B (pa_cons (pv 0) (pa_cons (pe_joined (.cons pe_str (.cons (pe_fmt (pv 1)) .nil))) pa_nil))))
        (pss_one (ps_ost (pv 0) (pv 1)))), ?_⟩
    refine ⟨_, rfl, fmt_one (X := cxOf CX0 P w K mg base ["self", "name"] "NoVariable.__init__" (defScope sNV) f cdv A outer s H E) (hf v (List.mem_singleton.mpr rfl)) rfl (by decide +kernel) fun txt ht => ⟨a, C, _, rfl, by simp, T, ha, ?_⟩⟩
    refine ⟨_, rfl, _, rfl, a, C, rfl, T, no, .inl ⟨ha, fun dx nd ne => ?_⟩⟩
    refine q _ dx (fun b o hb hn => ?_) nd upd_same ?_
    · rw [upd_ne hn, upd_ne (ne_of_none hb nd)]
      exact hb
    · rw [upd_ne ne, upd_same]
      rfl


/-- what an own class of errors, directly or not under ValueError, must say to be raised -/
structure Err (K : PySem.W.Frag) (mg : Str → Option Value) (x : Str) (C : Addr) : Prop where
  g : mg x = some (.ref C)
  x : PySem.W.excIn K C [.type "ValueError", .type "Exception", .type "BaseException", .type "object"] "ValueError.__new__" = true
  k : PySem.W.keepIn K (.ref C) = true
  b : PySem.W.subIn K (.ref C) (.type "BaseException") = some true
  t : PySem.W.typeIn K (.ref C) = some (.type "type")
end
/-! a rule put in the place of another one -/
def Ru.num : Ru → Option Int
  | .keep n | .set n => some n
  | _ => none
/-- the integer of the rule is out of the range -/
def badB (r : Ru) (lo hi : Int) : Bool := match r.num with
  | some n => !(decide (lo ≤ n) && decide (n ≤ hi))
  | none => false
def Va.wr (nm : Str) (r : Ru) (x : Va) : Va := if x.name = nm then { x with ru := r } else x
def Pg.wr (g : Pg) (nm : Str) (r : Ru) : Pg := { g with vs := g.vs.map (Va.wr nm r) }
theorem inV_str (x : Str) : ∀ xs : List Str, inV (.str x) (xs.map V.str) = decide (x ∈ xs)
  | [] => rfl
  | y :: r => by
    show (eqV (.str y) (.str x) || inV (.str x) (r.map V.str)) = _
    rw [inV_str x r]
    show ((y == x) || decide (x ∈ r)) = _
    by_cases e : y = x
    · subst e
      simp
    · have e2 : ¬ x = y := Ne.symm e
      simp [e, e2]
theorem flat_strs : ∀ xs : List Str, (xs.map V.str).all flatV = true
  | [] => rfl
  | y :: r => by
    show (flatV (.str y) && (r.map V.str).all flatV) = true
    rw [flat_strs r]
    rfl
theorem wr_names (g : Pg) (nm : Str) (r : Ru) : (g.wr nm r).names = g.names := by
  show (g.vs.map (Va.wr nm r)).map (·.name) = g.vs.map (·.name)
  rw [List.map_map]
  refine List.map_congr_left fun x _ => ?_
  show (Va.wr nm r x).name = x.name
  unfold Va.wr
  split <;> rfl
theorem wr_off {nm : Str} {r : Ru} : ∀ {vs : List Va}, nm ∉ vs.map (·.name) → vs.map (Va.wr nm r) = vs
  | [], _ => rfl
  | x :: t, h => by
    rw [List.map_cons, List.mem_cons, not_or] at h
    rw [List.map_cons, wr_off h.2]
    unfold Va.wr
    rw [if_neg (fun e => h.1 e.symm)]
theorem wr_at {nm : Str} {r : Ru} {vs : List Va} (hd : (vs.map (·.name)).Nodup) {i : Nat} {x : Va} (hx : vs[i]? = some x) (hn : x.name = nm) : vs.map (Va.wr nm r) = vs.take i ++ { x with ru := r } :: vs.drop (i + 1) := by
  obtain ⟨hi, e⟩ := List.getElem?_eq_some_iff.mp hx
  have ex : vs = vs.take i ++ x :: vs.drop (i + 1) := by
    rw [← e, ← List.drop_eq_getElem_cons hi, List.take_append_drop]
  rw [ex] at hd
  rw [List.map_append, List.map_cons, List.nodup_append, List.nodup_cons] at hd
  obtain ⟨h1, ⟨h2, h3⟩, h4⟩ := hd
  have a1 : nm ∉ (vs.take i).map (·.name) := fun z => h4 _ z _ (List.mem_cons_self ..) hn.symm
  have a2 : nm ∉ (vs.drop (i + 1)).map (·.name) := fun z => h2 (hn ▸ z)
  have e3 : Va.wr nm r x = { x with ru := r } := if_pos hn
  have key : (vs.take i ++ x :: vs.drop (i + 1)).map (Va.wr nm r) = vs.take i ++ { x with ru := r } :: vs.drop (i + 1) := by
    rw [List.map_append, List.map_cons, wr_off a1, wr_off a2, e3]
  rw [← ex] at key
  exact key
theorem N2_nd : N2.Nodup := by decide +kernel
theorem PgOk.nd {g : Pg} (h : PgOk g) : g.names.Nodup := by
  obtain ⟨j, _, _, e⟩ := h.nm
  rw [e]
  exact N2_nd.sublist (List.take_sublist _ _)
theorem PgOk.le2 {g : Pg} (h : PgOk g) : g.vs.length ≤ 2 := by
  obtain ⟨j, _, h8, e⟩ := h.nm
  have := congrArg List.length e
  rw [List.length_take] at this
  have e2 : g.names.length = g.vs.length := List.length_map _
  omega
section
variable {P : Program} {w : World} {K : PySem.W.Frag} {mg : Str → Option Value} {base : Heap}
abbrev sNam : Stmt := topS 18
theorem scNam : FnScope ["program", "variable"] ["program"] (defScope sNam) := ⟨rfl, rfl, rfl, by decide +kernel, rfl, by decide +kernel, by decide +kernel⟩
def spNam (K : PySem.W.Frag) : Sp := fun vs H Q _ => ∃ (v : V) (g : Pg), vs = [v] ∧ PgAt K H g v ∧ g.vs.length ≤ 900 ∧ ∀ p H', Same H H' → H' p = some (.lst (g.names.map V.str)) → Q (.ref p) H'
theorem ok_nam {f : Addr} {fd : FuncData} {k : Nat} (F : Fun K "names_of" "names_of" sNam f fd) : FnOk P w K mg base CX0 (k + 1) f fd ["program"] (spNam K) := by
  refine F.ok scNam (fun vs H Q E h => ?_) (fun cdv A outer s H vs Q E hr h => ?_)
  · obtain ⟨_, _, rfl, _⟩ := h
    rfl
  obtain ⟨v, g, rfl, hA, hG, q⟩ := h
  obtain ⟨p, vA, aA, hh, pvs, pas, rfl, hT, hTv, hPv, hHa, hFz, hPa⟩ := hA
  refine ⟨_, (pss_one (ps_ret (pe_lc (own := [("variable", 1)]) (g := gName 1) (tt := tYes) (by rfl) scNam.nd (pi_tup (pe_ix ix_tup (pv 0) (pe_int) (fun _ _ => rfl))) (blkOk_by (N := ["program", "variable"]) (sc := defScope sNam) (by decide +kernel)) (fun _ _ _ _ _ => pg_name (i := 1) scNam.nd rfl (.inl rfl)) (fun _ _ _ _ _ => pts_nil) (fun _ _ _ _ _ => pe_ix (ixt_K (K := K) rfl) (pv 1) (pe_int) (fun _ _ => rfl))))), ?_⟩
  refine ⟨_, rfl, p, _, 0, _, rfl, rfl, hT, atI_nat (j := 0) rfl, vA, rfl, ⟨_, hTv⟩, fun D nD => ?_⟩
  · refine lc_tup (K := K) (a := vA) (xs := pvs.map V.ref) (fun i H' => Same H H' ∧ H' D = some (.lst ((g.vs.take i).map fun z => V.str z.name))) ?_ ?_ ?_ ?_
    · exact ⟨same_upd nD, upd_same⟩
    · rintro i H2 _ ⟨s2, _⟩
      exact Same.seqT s2 hTv
    · rintro i x' H2 hx ⟨s2, hD⟩
      rw [List.getElem?_map] at hx
      obtain ⟨q', hq', rfl⟩ := Option.map_eq_some_iff.mp hx
      obtain ⟨z, hz, r', hzA, _⟩ := pget hPv hq'
      refine ⟨rfl, _, rfl, q', _, 0, _, rfl, rfl, Same.seqT (s2) hzA, atI_nat (j := 0) rfl, _, hD, by rw [List.length_map, List.length_take]; exact small1000 (by omega), same_updN s2 nD, ?_⟩
      rw [upd_same, List.take_add_one, hz, List.map_append]
      rfl
    rintro H2 ⟨s2, hD⟩
    refine q D H2 s2 ?_
    rw [hD, List.length_map, ← Paired.length hPv, List.take_length]
    show some (HO.lst _) = some (HO.lst ((g.vs.map (·.name)).map V.str))
    rw [List.map_map]
    rfl


abbrev sWru : Stmt := topS 20
abbrev nWru : List Str := ["program", "name", "rule", "variables", "halt", "assignments", "at", "low", "high", "start", "changed"]
theorem scWru : FnScope nWru ["program", "name", "rule"] (defScope sWru) := ⟨rfl, rfl, rfl, by decide +kernel, rfl, by decide +kernel, by decide +kernel⟩
def spWru (K : PySem.W.Frag) (cN cO : Addr) : Sp := fun vs H Q E => ∃ (v : V) (g : Pg) (x : Str) (r : Addr) (ru : Ru), vs = [v, .str x, .ref r] ∧ PgAt K H g v ∧ PgOk g ∧ SqT K H r ru.parts ∧ x.length ≤ 100 ∧
  (x ∉ g.names → ∀ d H', Same H H' → H' d = some (.xd [("name", .str x)]) → E (.ref cN) (some d) H') ∧
  ((∃ y ∈ g.vs, y.name = x ∧ badB ru y.lo y.hi = true) → ∀ H', Same H H' → E (.ref cO) none H') ∧
  ((∃ y ∈ g.vs, y.name = x ∧ badB ru y.lo y.hi = false) → ∀ v' H', Same H H' → PgAt K H' (g.wr x ru) v' → Q v' H')
theorem fz_seqT {H : Hp} {r : Addr} {xs : List V} (h : SqT K H r xs) : SqT K H r xs := h
theorem ru_len (r : Ru) : r.parts.length = 1 ∧ r.num = none ∨ ∃ n, r.parts.length = 2 ∧ r.num = some n ∧ r.parts[1]? = some (.int n) := by
  cases r with
  | low => exact .inl ⟨rfl, rfl⟩
  | high => exact .inl ⟨rfl, rfl⟩
  | keep n => exact .inr ⟨n, rfl, rfl, rfl⟩
  | set n => exact .inr ⟨n, rfl, rfl, rfl⟩
theorem paired_take {α β : Type} {R : α → β → Prop} : ∀ (i : Nat) {l : List α} {m : List β}, Paired R l m → Paired R (l.take i) (m.take i)
  | 0, _, _, _ => .nil
  | _ + 1, _, _, .nil => .nil
  | i + 1, _, _, .cons h t => .cons h (paired_take i t)
theorem paired_drop {α β : Type} {R : α → β → Prop} : ∀ (i : Nat) {l : List α} {m : List β}, Paired R l m → Paired R (l.drop i) (m.drop i)
  | 0, _, _, h => h
  | _ + 1, _, _, .nil => .nil
  | i + 1, _, _, .cons h t => paired_drop i t
theorem paired_app {α β : Type} {R : α → β → Prop} : ∀ {l l' : List α} {m m' : List β}, Paired R l m → Paired R l' m' → Paired R (l ++ l') (m ++ m')
  | _, _, _, _, .nil, h => h
  | _, _, _, _, .cons h1 t, h => .cons h1 (paired_app t h)
theorem first_at {x : Str} : ∀ {xs : List Str}, x ∈ xs → ∃ j : Nat, xs[j]? = some x ∧ ∀ (m : Nat) y, m < j → xs[m]? = some y → y ≠ x
  | y :: r, h => by
    by_cases e : y = x
    · exact ⟨0, by rw [e]; rfl, fun m z hm => absurd hm (Nat.not_lt_zero _)⟩
    · obtain ⟨j, h1, h2⟩ := first_at ((List.mem_cons.mp h).resolve_left (Ne.symm e))
      refine ⟨j + 1, by simpa using h1, fun m z hm hz => ?_⟩
      cases m with
      | zero =>
        cases (Option.some.inj hz)
        exact e
      | succ m => exact h2 m z (by omega) (by simpa using hz)
theorem ok_wru {f fA fI cN cO cL : Addr} {fd dA dI : FuncData} {k : Nat} (F : Fun K "with_rule" "with_rule" sWru f fd) (T : Err K mg "OutOfRange" cO) (ml : mg "len" = none)
    (gN : mg "NoVariable" = some (.ref cN)) (TO : OexC K cN) (iN : PySem.W.findIn K (.ref cN) "__init__" = some (some (.ref fI))) (tI : PySem.W.typeIn K (.ref fI) = some (.type "function")) (GI : FnOk P w K mg base CX0 (k + 1) fI dI ["self", "name"] (spErr K cN fsNV 1)) (bI : Binds K dI ["self", "name"] [])
    (GA : FnOk P w K mg base CX0 (k + 1) fA dA ["program"] (spNam K)) (kA : PySem.W.keepIn K (.ref fA) = true) (bA : Binds K dA ["program"] []) (gA : mg "names_of" = some (.ref fA)) :
    FnOk P w K mg base (L2.CX P w) (k + 3) f fd ["program", "name", "rule"] (spWru K cN cO) := by
  have GA := GA.mono (show k + 1 ≤ k + 2 by omega)
  refine F.okX scWru (fun vs H Q E h => ?_) (fun cdv A outer s H vs Q E hr h => ?_)
  · obtain ⟨_, _, _, _, _, rfl, _⟩ := h
    rfl
  obtain ⟨v, g, x, r, ru, rfl, hA, hG, hR, hx, e1, e2, q⟩ := h
  have two : 2 ≤ sizeLine := by show 2 ≤ sizeLine; decide
  have three : 3 ≤ sizeLine := by show 3 ≤ sizeLine; decide
  have five : 5 ≤ sizeLine := by show 5 ≤ sizeLine; decide
  have one : 1 ≤ sizeLine := by show 1 ≤ sizeLine; decide
  have hA' := hA
  have l2 := hG.le2
  obtain ⟨p, vA, aA, hh, pvs, pas, rfl, hT, hTv, hPv, hHa, hFz, hPa⟩ := hA
  refine ⟨_, pss_cons (ps_asg (pv 0) (pg_tup rfl (pgs_cons (pg_name (i := 3) scWru.nd rfl (.inl rfl)) (pgs_cons (pg_name (i := 4) scWru.nd rfl (.inl rfl)) (pgs_cons (pg_name (i := 5) scWru.nd rfl (.inl rfl)) pgs_nil)))))
      (pss_cons (ps_if (pt_cmpR op_notIn_seq (pv 1) (pe_call GA hr (by rfl) gA kA bA .nil pass0 (pa_cons (pv 0) pa_nil)) (by with_unfolding_all rfl)) (pss_one (ps_raise rfl (takes_of rfl rfl rfl rfl) (pmk_oex TO iN tI GI hr bI .nil pass0 (by rfl) gN (pa_cons (pv 1) pa_nil)))) pss_nil)
      (pss_cons (ps_set (i := 6) scWru.nd rfl (.inl rfl) (pe_bm PySem.F.plainAttrs_list PySem.F.slot_list_index PySem.F.type_list_index mt_index (pe_call GA hr (by rfl) gA kA bA .nil pass0 (pa_cons (pv 0) pa_nil)) (pa_cons (pv 1) pa_nil)))
      (pss_cons (ps_asg (pe_slice sl_tupU (pe_ix ix_tup (pv 3) (pv 6) (fun _ _ => rfl)) (po_some pe_int) (po_some pe_int)) (pg_tup rfl (pgs_cons (pg_name (i := 7) scWru.nd rfl (.inl rfl)) (pgs_cons (pg_name (i := 8) scWru.nd rfl (.inl rfl)) (pgs_cons (pg_name (i := 9) scWru.nd rfl (.inl rfl)) pgs_nil)))))
      (C8.pss_cut (ps_if (PW.pt (pw_and (pt_cmpR op_eq (pe_callB call_len_seq (by rfl) ml PySem.boot_len (pa_cons (pv 2) pa_nil)) (pe_int) (nomark _)) (pw_and1 (pt_not (pt_chain op_le op_le (pv 7) (pe_ix ix_tup (pv 2) (pe_int) (fun _ _ => rfl)) (pv 8)))))) (pss_one (ps_raise rfl (takes_of rfl rfl rfl rfl) (pmk_own PySem.F.excBase_ValueError T.x T.g T.k (raises_own T.b T.t) rfl))) pss_nil)
      (show PSs _ _ _ from PSs.nox ((pss_cons (ps_set (i := 10) scWru.nd rfl (.inl rfl) (pe_tup (pa_cons (pv 1) (pa_cons (pv 7) (pa_cons (pv 8) (pa_cons (pv 9) (pa_cons (pv 2) pa_nil)))))))
        (pss_one (ps_ret (pe_tup (pa_cons (pe_op op_catU (pe_op op_catU (pe_slice sl_tupU (pv 3) (po_none) (po_some (pv 6))) (pe_tup (pa_cons (pv 10) pa_nil))) (pe_slice sl_tupU (pv 3) (po_some (pe_op op_add (pv 6) (pe_int))) (po_none))) (pa_cons (pv 4) (pa_cons (pv 5) pa_nil))))))))))))), ?_⟩
  refine ⟨_, rfl, p, _, rfl, hT, rfl, _, _, rfl, _, _, rfl, _, _, rfl, rfl, ?_⟩
  refine ⟨_, rfl, _, rfl, .ref p, g, rfl, hA', by omega, fun nl H1 s1 hn1 => ?_⟩
  refine ⟨nl, _, rfl, .inl (.inl (.inl hn1)), rfl, flat_strs _, _, rfl, ?_⟩
  rw [inV_str]
  by_cases hx0 : x ∈ g.names
  case neg =>
    rw [decide_eq_false hx0]
    refine iteT ⟨_, rfl, by show 1 ≤ 1000; decide, fun z nz => ⟨z, [.str x], rfl, rfl, fun y hy => ?_, upd_same, fun H2 d kp nd h3 h4 => ⟨rfl, d, _, h3, h4, ?_, ?_⟩⟩⟩
    · rw [List.mem_singleton.mp hy]
      exact .inr ⟨x, rfl, hx⟩
    · by_cases hdz : d = z
      · rw [hdz, upd_same] at nd
        cases nd
      · rwa [upd_ne hdz] at nd
    · refine e1 hx0 d _ (fun b o hb => ?_) (by rw [upd_same]; rfl)
      have hb1 := s1 _ _ hb
      have nbz : b ≠ z := ne_of_none hb1 nz
      have nbd : b ≠ d := fun e => by
        rw [e] at hb1 nbz
        rw [upd_ne nbz] at nd
        rw [nd] at hb1
        cases hb1
      rw [upd_ne nbd, del_ne nbz]
      exact kp b o (by rw [upd_ne nbz]; exact hb1) nbz
  rw [decide_eq_true hx0]
  refine iteF ?_
  obtain ⟨j, hj, hfirst⟩ := first_at hx0
  obtain ⟨y, hy, hyn⟩ : ∃ y, g.vs[j]? = some y ∧ y.name = x := by
    rw [show g.names = g.vs.map (·.name) from rfl, List.getElem?_map] at hj
    obtain ⟨y, h1, h2⟩ := Option.map_eq_some_iff.mp hj
    exact ⟨y, h1, h2⟩
  have hA1 := hA'.same s1
  refine ⟨.ref p, rfl, .ref p, g, rfl, hA1, by omega, fun nl2 H2 s2 hn2 => ⟨.inl ⟨rfl, _, .inl (.inl hn2)⟩, _, rfl, nl2, _, _, j, .str x, rfl, rfl, .inl (.inl hn2), rfl, flat_strs _, ?_, ?_, fun m z hm hz => ?_, ?_⟩⟩
  · rw [List.getElem?_map, hj]
    rfl
  · show (x == x) = true
    exact beq_self_eq_true _
  · rw [List.getElem?_map] at hz
    obtain ⟨y', h1, rfl⟩ := Option.map_eq_some_iff.mp hz
    show (y' == x) = false
    exact beq_eq_false_iff_ne.mpr (hfirst m y' hm h1)
  have s12 := s1.trans s2
  obtain ⟨qv, hqv, ryv, hyT, hyR⟩ : ∃ qv, pvs[j]? = some qv ∧ ∃ ry, SqT K H qv [.str y.name, .int y.lo, .int y.hi, .int y.st, .ref ry] ∧ SqT K H ry y.ru.parts := by
    have hjl := (List.getElem?_eq_some_iff.mp hy).1
    have hj2 : j < pvs.length := by rw [← Paired.length hPv]; exact hjl
    obtain ⟨y', h1, r', h2, h3⟩ := pget hPv (List.getElem?_eq_getElem hj2)
    rw [hy] at h1
    cases h1
    exact ⟨_, List.getElem?_eq_getElem hj2, r', h2, h3⟩
  have hTv2 := Same.seqT s12 hTv
  have hyT2 := Same.seqT s12 hyT
  refine ⟨_, rfl, _, rfl, vA, _, (j : Int), .ref qv, rfl, rfl, hTv2, atI_nat (by rw [List.getElem?_map, hqv]; rfl), ?_⟩
  refine ⟨_, rfl, _, rfl, qv, _, rfl, hyT2, fun ps H3 s3 hs3 => ?_⟩
  have hs3 : SqT K H3 ps [.int y.lo, .int y.hi, .int y.st] := hs3
  refine ⟨ps, _, rfl, hs3, rfl, _, _, rfl, _, _, rfl, _, _, rfl, rfl, ?_⟩
  have s13 := s12.trans s3
  have hR3 := Same.seqT s13 hR
  have hmem : y ∈ g.vs := List.mem_of_getElem? hy
  -- the test of the range
  refine ⟨fun σ H' => σ = [some (.ref p), some (.str x), some (.ref r), some (.ref vA), some hh, some (.ref aA), some (.int (j : Int)), some (.int y.lo), some (.int y.hi), some (.int y.st), none] ∧ badB ru y.lo y.hi = false ∧ H' = H3, ?_, ?_⟩
  · refine ⟨_, rfl, r, _, rfl, .inr hR3, rfl, _, rfl, ?_⟩
    rcases ru_len ru with ⟨l1, hn⟩ | ⟨n, l1, hn, h1⟩
    · rw [l1]
      refine iteF (iteF ⟨rfl, ?_, rfl⟩)
      unfold badB
      rw [hn]
    · rw [l1]
      have hbad : badB ru y.lo y.hi = !(decide (y.lo ≤ n) && decide (n ≤ y.hi)) := by
        unfold badB
        rw [hn]
      refine iteT ⟨_, rfl, _, rfl, r, _, 1, _, rfl, rfl, hR3, atI_nat (j := 1) h1, _, _, rfl, rfl, _, rfl, ?_⟩
      by_cases c1 : y.lo ≤ n
      · rw [decide_eq_true c1] at hbad ⊢
        refine iteT ⟨_, rfl, _, _, rfl, rfl, _, rfl, ?_⟩
        by_cases c2 : n ≤ y.hi
        · rw [decide_eq_true c2] at hbad ⊢
          exact iteF ⟨rfl, hbad, rfl⟩
        · rw [decide_eq_false c2] at hbad ⊢
          exact iteT (e2 ⟨y, hmem, hyn, hbad⟩ _ s13)
      · rw [decide_eq_false c1] at hbad ⊢
        exact iteF ⟨_, rfl, iteT (e2 ⟨y, hmem, hyn, hbad⟩ _ s13)⟩
  rintro σ H4 ⟨rfl, hb, rfl⟩
  refine ⟨_, rfl, _, rfl, _, rfl, _, rfl, _, rfl, five, fun pc npc => ?_⟩
  have sc := same_upd (o := .tup [.str x, .int y.lo, .int y.hi, .int y.st, .ref r]) npc
  have S4 := s13.trans sc
  refine ⟨_, rfl, _, rfl, _, rfl, vA, _, rfl, Same.seqT S4 hTv, fun p1 H5 s5 t1 => ?_⟩
  rw [cut_to, ← List.map_take] at t1
  refine ⟨_, rfl, one, fun p2 np2 => ?_⟩
  have s6 := same_upd (o := .tup [.ref pc]) np2
  have lp : pvs.length ≤ 2 := by rw [← Paired.length hPv]; exact l2
  refine ⟨p1, p2, _, _, rfl, rfl, Same.seqT s6 t1, .inl (.inl upd_same), by rw [List.length_map, List.length_take]; exact Nat.le_of_lt (small1000 (by simp; omega)), fun p3 H7 s7 t3 => ?_⟩
  have S7 := ((S4.trans s5).trans s6).trans s7
  refine ⟨_, rfl, _, rfl, _, _, rfl, rfl, _, rfl, vA, _, rfl, Same.seqT S7 hTv, fun p4 H8 s8 t4 => ?_⟩
  rw [show ((j : Int) + 1) = ((j + 1 : Nat) : Int) from rfl, cut_from, ← List.map_drop] at t4
  refine ⟨p3, p4, _, _, rfl, rfl, Same.seqT s8 t3, t4, by rw [List.length_append, List.length_map, List.length_map, List.length_take, List.length_drop]; exact Nat.le_of_lt (small1000 (by simp; omega)), fun p5 H9 s9 t5 => ?_⟩
  refine ⟨_, rfl, _, rfl, three, fun pt npt => ?_⟩
  have s10 := same_upd (o := .tup [.ref p5, hh, .ref aA]) npt
  have SS := ((S7.trans s8).trans s9).trans s10
  have S5T := (((s5.trans s6).trans s7).trans s8).trans (s9.trans s10)
  refine q ⟨y, hmem, hyn, hb⟩ (.ref pt) _ SS ⟨pt, p5, aA, hh, pvs.take j ++ pc :: pvs.drop (j + 1), pas, rfl, .inl (.inl upd_same), ?_, ?_, ?_, FzT.same hFz SS, ?_⟩
  · have e : (pvs.take j ++ pc :: pvs.drop (j + 1)).map V.ref = ((pvs.take j).map V.ref ++ [.ref pc]) ++ (pvs.drop (j + 1)).map V.ref := by simp
    rw [e]
    exact Same.seqT s10 t5
  · show Paired _ (g.vs.map (Va.wr x ru)) _
    rw [wr_at hG.nd hy hyn]
    have mP := Paired.mapP hPv fun _ _ z => VaAt.mono (fun _ _ t => Same.seqT SS t) z
    refine paired_app (paired_take j mP) (.cons ?_ (paired_drop (j + 1) mP))
    refine ⟨r, ?_, Same.seqT SS hR⟩
    rw [show ({ y with ru := ru } : Va).name = x from hyn]
    exact Same.seqT S5T (.inl (.inl upd_same))
  · exact hHa.mono fun _ _ t => Same.seqT SS t
  · exact Paired.mapP hPa fun _ _ z => AsAt.mono (fun _ _ t => Same.seqT SS t) z
end
end Lim
set_option maxHeartbeats 4000000
namespace Lim
open PySem PySem.Spec PyProof.Rows L2
/-! what is shown of a program -/
def exD : Ex → PyData
  | .int n => .tuple [.str "int", .int n]
  | .name x => .tuple [.str "name", .str x]
  | .un w a => .tuple [.str w, exD a]
  | .bin w a b => .tuple [.str w, exD a, exD b]
  | .ite a b c => .tuple [.str "if", exD a, exD b, exD c]
def ruD : Ru → PyData
  | .low => .tuple [.str "low"]
  | .high => .tuple [.str "high"]
  | .keep n => .tuple [.str "keep", .int n]
  | .set n => .tuple [.str "set", .int n]
def vaD (x : Va) : PyData := .tuple [.str x.name, .int x.lo, .int x.hi, .int x.st, ruD x.ru]
def asD (q : Str × Ex) : PyData := .tuple [.str q.1, exD q.2]
def haD : Option Ex → PyData
  | none => .none
  | some e => exD e
def pgD (g : Pg) : PyData := .tuple [.tuple (g.vs.map vaD), haD g.halt, .tuple (g.asg.map asD)]
section
variable {K : PySem.W.Frag} {H : Hp}
theorem dp_ex : ∀ {e : Ex} {v : V}, At K H e v → Dp K H v (exD e)
  | .int n, v, ⟨p, e, t⟩ => by
    subst e
    exact .tup t (.cons (.str _) (.cons (.int _) .nil))
  | .name x, v, ⟨p, e, t⟩ => by
    subst e
    exact .tup t (.cons (.str _) (.cons (.str _) .nil))
  | .un w a, v, ⟨p, x, e, t, h⟩ => by
    subst e
    exact .tup t (.cons (.str _) (.cons (dp_ex h) .nil))
  | .bin w a b, v, ⟨p, x, y, e, t, h1, h2⟩ => by
    subst e
    exact .tup t (.cons (.str _) (.cons (dp_ex h1) (.cons (dp_ex h2) .nil)))
  | .ite a b c, v, ⟨p, x, y, z, e, t, h1, h2, h3⟩ => by
    subst e
    exact .tup t (.cons (.str _) (.cons (dp_ex h1) (.cons (dp_ex h2) (.cons (dp_ex h3) .nil))))
theorem dp_ru {r : Ru} {p : Addr} (h : SqT K H p r.parts) : Dp K H (.ref p) (ruD r) := by
  cases r with
  | low => exact .tup h (.cons (.str _) .nil)
  | high => exact .tup h (.cons (.str _) .nil)
  | keep n => exact .tup h (.cons (.str _) (.cons (.int _) .nil))
  | set n => exact .tup h (.cons (.str _) (.cons (.int _) .nil))
theorem dp_va {x : Va} {p : Addr} (h : VaAt K H x p) : Dp K H (.ref p) (vaD x) := by
  obtain ⟨r, h1, h2⟩ := h
  exact .tup h1 (.cons (.str _) (.cons (.int _) (.cons (.int _) (.cons (.int _) (.cons (dp_ru h2) .nil)))))
theorem dp_as {q : Str × Ex} {p : Addr} (h : AsAt K H q p) : Dp K H (.ref p) (asD q) := by
  obtain ⟨v, h1, h2⟩ := h
  exact .tup h1 (.cons (.str _) (.cons (dp_ex h2) .nil))
theorem dp_all {α : Type} {R : α → Addr → Prop} {f : α → PyData} (h : ∀ a p, R a p → Dp K H (.ref p) (f a)) : ∀ {l : List α} {ps : List Addr}, Paired R l ps → DpAll K H (ps.map V.ref) (l.map f)
  | _, _, .nil => .nil
  | _, _, .cons r t => .cons (h _ _ r) (dp_all h t)
theorem dp_pg {g : Pg} {v : V} (h : PgAt K H g v) : Dp K H v (pgD g) := by
  obtain ⟨p, pv, pa, hh, pvs, pas, rfl, h1, h2, h3, h4, h5, h6⟩ := h
  refine .tup h1 (.cons (.tup h2 (dp_all (fun _ _ z => dp_va z) h3)) (.cons ?_ (.cons (.tup h5.seq (dp_all (fun _ _ z => dp_as z) h6)) .nil)))
  cases hg : g.halt with
  | none =>
    rw [hg] at h4
    cases (show hh = .non from h4)
    exact .non
  | some e =>
    rw [hg] at h4
    exact dp_ex h4
end
/-! sizes -/
theorem nil0 {k : Nat} : SdA [] k 0 := .nil
theorem sda_map {α : Type} {f : α → PyData} {k a : Nat} : ∀ {l : List α}, (∀ x ∈ l, Sd (f x) k a) → SdA (l.map f) k ((a + 2) * l.length)
  | [], _ => .nil
  | x :: r, h => by
    have h1 := SdA.cons (h x (List.mem_cons_self ..)) (sda_map fun y hy => h y (List.mem_cons_of_mem _ hy))
    refine h1.mono (Nat.le_refl _) ?_
    rw [List.length_cons, Nat.mul_add]
    omega
theorem sd_strs : ∀ x ∈ (["int", "name", "if", "low", "high", "keep", "set", "neg", "not", "or", "and", "=", "!=", "<", "<=", ">", ">=", "+", "-", "*", "mod", "min", "max", "x", "y", "z2", "w", "a", "count", "q9", "longname"] : List Str), (reprText x).length ≤ 10 := by decide +kernel
theorem bin_len : ∀ x ∈ binW, (reprText x).length ≤ 10 := by decide +kernel
theorem un_len : ∀ x ∈ unW, (reprText x).length ≤ 10 := by decide +kernel
theorem sd_ex {ns : List Str} (hn : ∀ x ∈ ns, (reprText x).length ≤ 10) : ∀ {e : Ex}, Wf ns e → Sd (exD e) (e.dep + 1) (2400 * 4 ^ e.dep)
  | .int n, h => by
    have h1 : n.natAbs < 2 ^ 200 := by
      have := h.1
      have := h.2
      omega
    exact (Sd.tup (SdA.cons (Sd.str (sd_strs "int" (by decide +kernel))) (SdA.cons (k := 0) (Sd.int h1) nil0))).mono (Nat.le_refl _) (by show _ ≤ 2400 * 1; omega)
  | .name x, h => (Sd.tup (SdA.cons (Sd.str (sd_strs "name" (by decide +kernel))) (SdA.cons (k := 0) (Sd.str (hn x h)) nil0))).mono (Nat.le_refl _) (by show _ ≤ 2400 * 1; omega)
  | .un w a, h => by
    have ha := sd_ex hn h.2
    have hp : 1 ≤ 4 ^ a.dep := Nat.pow_pos (by decide)
    exact (Sd.tup (SdA.cons (Sd.str (un_len w h.1)) (SdA.cons ha nil0))).mono (Nat.le_refl _) (by show _ ≤ 2400 * 4 ^ (a.dep + 1); rw [Nat.pow_succ]; omega)
  | .bin w a b, h => by
    have ha := (sd_ex hn h.2.1).mono (k' := max a.dep b.dep + 1) (n' := 2400 * 4 ^ (max a.dep b.dep)) (by omega) (Nat.mul_le_mul_left _ (Nat.pow_le_pow_right (by decide) (by omega)))
    have hb := (sd_ex hn h.2.2).mono (k' := max a.dep b.dep + 1) (n' := 2400 * 4 ^ (max a.dep b.dep)) (by omega) (Nat.mul_le_mul_left _ (Nat.pow_le_pow_right (by decide) (by omega)))
    have hp : 1 ≤ 4 ^ max a.dep b.dep := Nat.pow_pos (by decide)
    exact (Sd.tup (SdA.cons (Sd.str (bin_len w h.1)) (SdA.cons ha (SdA.cons hb nil0)))).mono (Nat.le_refl _) (by show _ ≤ 2400 * 4 ^ (max a.dep b.dep + 1); rw [Nat.pow_succ]; omega)
  | .ite a b c, h => by
    have ha := (sd_ex hn h.1).mono (k' := max a.dep (max b.dep c.dep) + 1) (n' := 2400 * 4 ^ (max a.dep (max b.dep c.dep))) (by omega) (Nat.mul_le_mul_left _ (Nat.pow_le_pow_right (by decide) (by omega)))
    have hb := (sd_ex hn h.2.1).mono (k' := max a.dep (max b.dep c.dep) + 1) (n' := 2400 * 4 ^ (max a.dep (max b.dep c.dep))) (by omega) (Nat.mul_le_mul_left _ (Nat.pow_le_pow_right (by decide) (by omega)))
    have hc := (sd_ex hn h.2.2).mono (k' := max a.dep (max b.dep c.dep) + 1) (n' := 2400 * 4 ^ (max a.dep (max b.dep c.dep))) (by omega) (Nat.mul_le_mul_left _ (Nat.pow_le_pow_right (by decide) (by omega)))
    have hp : 1 ≤ 4 ^ max a.dep (max b.dep c.dep) := Nat.pow_pos (by decide)
    exact (Sd.tup (SdA.cons (Sd.str (sd_strs "if" (by decide +kernel))) (SdA.cons ha (SdA.cons hb (SdA.cons hc nil0))))).mono (Nat.le_refl _) (by show _ ≤ 2400 * 4 ^ (max a.dep (max b.dep c.dep) + 1); rw [Nat.pow_succ]; omega)
theorem n2_len : ∀ x ∈ N2, (reprText x).length ≤ 10 := by decide +kernel
/-- the integer of a rule is small -/
def Ru.small (r : Ru) : Prop := ∀ n, r.num = some n → n.natAbs ≤ 1000
theorem sd_ru {r : Ru} (h : r.small) : Sd (ruD r) 1 2100 := by
  cases r with
  | low => exact (Sd.tup (k := 0) (SdA.cons (Sd.str (sd_strs "low" (by decide +kernel))) nil0)).mono (Nat.le_refl _) (by decide)
  | high => exact (Sd.tup (k := 0) (SdA.cons (Sd.str (sd_strs "high" (by decide +kernel))) nil0)).mono (Nat.le_refl _) (by decide)
  | keep n =>
    have := h n rfl
    exact (Sd.tup (k := 0) (SdA.cons (Sd.str (sd_strs "keep" (by decide +kernel))) (SdA.cons (Sd.int (by omega)) nil0))).mono (Nat.le_refl _) (by decide)
  | set n =>
    have := h n rfl
    exact (Sd.tup (k := 0) (SdA.cons (Sd.str (sd_strs "set" (by decide +kernel))) (SdA.cons (Sd.int (by omega)) nil0))).mono (Nat.le_refl _) (by decide)
/-- a program that is not too large to be shown -/
structure PgSz (g : Pg) : Prop where
  le : g.vs.length ≤ 2
  nm : ∀ x ∈ g.names, x ∈ N2
  va : ∀ x ∈ g.vs, x.lo.natAbs ≤ 1000 ∧ x.hi.natAbs ≤ 1000 ∧ x.st.natAbs ≤ 1000 ∧ x.ru.small
  ha : ∀ e, g.halt = some e → Wf g.names e ∧ e.dep ≤ 1
  as : ∀ q ∈ g.asg, q.1 ∈ g.names ∧ Wf g.names q.2 ∧ q.2.dep ≤ 2
  al : g.asg.length ≤ 2
theorem PgOk.sz {g : Pg} (h : PgOk g) : PgSz g := by
  have l2 := h.le2
  refine ⟨l2, fun x hx => ?_, fun x hx => ?_, h.ha, fun q hq => ?_, ?_⟩
  · obtain ⟨j, _, _, e⟩ := h.nm
    rw [e] at hx
    exact List.mem_of_mem_take hx
  · have o := h.va x hx
    have h1 := o.l1
    have h2 := o.l2
    have h3 := o.le
    have h4 := o.h2
    have h5 := o.s1
    have h6 := o.s2
    refine ⟨by omega, by omega, by omega, fun n hn => ?_⟩
    have h7 := o.ru
    cases hr : x.ru with
    | low => rw [hr] at hn; cases hn
    | high => rw [hr] at hn; cases hn
    | keep m =>
      rw [hr] at hn h7
      have e : m = n := Option.some.inj hn
      have : x.lo ≤ m ∧ m ≤ x.hi := h7
      omega
    | set m =>
      rw [hr] at hn h7
      have e : m = n := Option.some.inj hn
      have : x.lo ≤ m ∧ m ≤ x.hi := h7
      omega
  · have := h.an
    exact ⟨by rw [← this]; exact List.mem_map.mpr ⟨q, hq, rfl⟩, h.as q hq⟩
  · have := congrArg List.length h.an
    rw [List.length_map] at this
    have e2 : g.names.length = g.vs.length := List.length_map _
    omega
theorem PgSz.wr {g : Pg} (h : PgSz g) {x : Str} {r : Ru} (hr : r.small) : PgSz (g.wr x r) := by
  refine ⟨?_, ?_, fun y hy => ?_, ?_, ?_, h.al⟩
  · show (g.vs.map _).length ≤ 2
    rw [List.length_map]
    exact h.le
  · rw [wr_names]
    exact h.nm
  · obtain ⟨z, hz, rfl⟩ := List.mem_map.mp hy
    obtain ⟨h1, h2, h3, h4⟩ := h.va z hz
    unfold Va.wr
    split
    · exact ⟨h1, h2, h3, hr⟩
    · exact ⟨h1, h2, h3, h4⟩
  · rw [wr_names]
    exact h.ha
  · rw [wr_names]
    exact h.as
theorem sd_pg {g : Pg} (h : PgSz g) : Sd (pgD g) 8 3000000 := by
  have n2 : ∀ x ∈ g.names, (reprText x).length ≤ 10 := fun x hx => n2_len x (h.nm x hx)
  have hv : ∀ x ∈ g.vs, Sd (vaD x) 2 9000 := fun x hx => by
    obtain ⟨h1, h2, h3, h4⟩ := h.va x hx
    exact (Sd.tup (k := 1) (SdA.cons (Sd.str (n2 _ (List.mem_map.mpr ⟨x, hx, rfl⟩))) (SdA.cons (Sd.int (by omega)) (SdA.cons (Sd.int (by omega)) (SdA.cons (Sd.int (by omega)) (SdA.cons (sd_ru h4) nil0)))))).mono (Nat.le_refl _) (by decide)
  have ha : ∀ q ∈ g.asg, Sd (asD q) 6 620000 := fun q hq => by
    obtain ⟨hx, h1, h2⟩ := h.as q hq
    have he := (sd_ex n2 h1).mono (k' := 5) (n' := 2400 * 4 ^ 4) (by omega) (Nat.mul_le_mul_left _ (Nat.pow_le_pow_right (by decide) (by omega)))
    exact (Sd.tup (k := 5) (SdA.cons (Sd.str (n2 _ hx)) (SdA.cons he nil0))).mono (Nat.le_refl _) (by decide)
  have hh : Sd (haD g.halt) 7 40000 := by
    cases hg : g.halt with
    | none => exact Sd.none.mono (Nat.zero_le _) (by decide)
    | some e =>
      obtain ⟨h1, h2⟩ := h.ha e hg
      exact (sd_ex n2 h1).mono (by omega) (Nat.le_trans (Nat.mul_le_mul_left _ (Nat.pow_le_pow_right (by decide) h2)) (by decide))
  have s1 : Sd (.tuple (g.vs.map vaD)) 7 73000 := (Sd.tup (sda_map hv)).mono (by decide) (by
    have := Nat.mul_le_mul_left (9000 + 2) h.le
    omega)
  have s3 : Sd (.tuple (g.asg.map asD)) 7 1300000 := (Sd.tup (sda_map ha)).mono (by decide) (by
    have := Nat.mul_le_mul_left (620000 + 2) h.al
    omega)
  exact (Sd.tup (SdA.cons s1 (SdA.cons hh (SdA.cons s3 nil0)))).mono (by decide) (by decide)
/-! what with_rule does, as it is told -/
def badAt (g : Pg) (x : Str) (r : Ru) : Bool := g.vs.any fun y => decide (y.name = x) && badB r y.lo y.hi
def outD (g : Pg) (x : Str) (r : Ru) : PyData := if x ∈ g.names then (if badAt g x r = true then .str "range" else pgD (g.wr x r)) else .str "name"
theorem out_shn {g : Pg} (h : PgSz g) {x : Str} {r : Ru} (hr : r.small) : Shn (outD g x r) := by
  unfold outD
  split
  · split
    · exact (Sd.str (k := 0) (n := 10) (by decide +kernel)).shn (by decide) (by decide)
    · exact (sd_pg (h.wr hr)).shn (by decide) (by decide)
  · exact (Sd.str (k := 0) (n := 10) (by decide +kernel)).shn (by decide) (by decide)
theorem out_name {g : Pg} {x : Str} {r : Ru} (h : x ∉ g.names) : outD g x r = .str "name" := if_neg h
theorem names_mem {g : Pg} {y : Va} (h : y ∈ g.vs) : y.name ∈ g.names := List.mem_map.mpr ⟨y, h, rfl⟩
theorem out_range {g : Pg} {x : Str} {r : Ru} (h : ∃ y ∈ g.vs, y.name = x ∧ badB r y.lo y.hi = true) : outD g x r = .str "range" := by
  obtain ⟨y, hy, hn, hb⟩ := h
  unfold outD
  rw [if_pos (hn ▸ names_mem hy), if_pos]
  exact List.any_eq_true.mpr ⟨y, hy, by rw [hb, hn]; simp⟩
theorem nodup_name {g : Pg} (h : g.names.Nodup) {y z : Va} (hy : y ∈ g.vs) (hz : z ∈ g.vs) (e : y.name = z.name) : y = z := by
  obtain ⟨i, hi, rfl⟩ := List.getElem_of_mem hy
  obtain ⟨j, hj, rfl⟩ := List.getElem_of_mem hz
  have P := List.pairwise_iff_getElem.mp h
  have e2 : g.names.length = g.vs.length := List.length_map _
  rcases Nat.lt_trichotomy i j with q | q | q
  · exact absurd (by simpa [Pg.names] using e) (P i j (by omega) (by omega) q)
  · subst q
    rfl
  · exact absurd (by simpa [Pg.names] using e.symm) (P j i (by omega) (by omega) q)
theorem out_prog {g : Pg} {x : Str} {r : Ru} (h : x ∈ g.names) (hb : ∀ y ∈ g.vs, y.name = x → badB r y.lo y.hi = false) : outD g x r = pgD (g.wr x r) := by
  unfold outD
  rw [if_pos h, if_neg]
  intro z
  obtain ⟨y, hy, h2⟩ := List.any_eq_true.mp z
  rw [Bool.and_eq_true] at h2
  have := hb y hy (of_decide_eq_true h2.1)
  rw [this] at h2
  cases h2.2
section
variable {P : Program} {w : World} {K : PySem.W.Frag} {mg : Str → Option Value} {base : Heap}

abbrev sOut : Stmt := topS 29
abbrev nOut : List Str := ["program", "name", "rule", "caught", "found", "e"]
theorem scOut : FnScope nOut ["program", "name", "rule"] (defScope sOut) := ⟨rfl, rfl, rfl, by decide +kernel, rfl, by decide +kernel, by decide +kernel⟩
def spOut (K : PySem.W.Frag) : Sp := fun vs H Q _ => ∃ (v : V) (g : Pg) (x : Str) (r : Addr) (ru : Ru), vs = [v, .str x, .ref r] ∧ PgAt K H g v ∧ PgOk g ∧ SqT K H r ru.parts ∧ x.length ≤ 100 ∧ ∀ v' H', Same H H' → Dp K H' v' (outD g x ru) → Q v' H'
theorem ok_out {f fW cL c1 c2 c3 c4 c5 c6 c7 c8 c9 c10 c11 c12 c13 c14 c15 : Addr} {fd dW : FuncData} {k : Nat} (F : Fun K "_law_outcome" "_law_outcome" sOut f fd) (gL : mg "LimitRunError" = some (.ref cL)) (mis : mg "isinstance" = none) (g1 : mg "SyntaxProblem" = some (.ref c1)) (g2 : mg "BadClaim" = some (.ref c2)) (g3 : mg "BadPath" = some (.ref c3)) (g4 : mg "TooLong" = some (.ref c4)) (g5 : mg "NoVariable" = some (.ref c5)) (g6 : mg "InvalidOrdinal" = some (.ref c6)) (g7 : mg "NotLater" = some (.ref c7)) (g8 : mg "ZeroDivisor" = some (.ref c8)) (g9 : mg "NoEvent" = some (.ref c9)) (g10 : mg "OutOfRange" = some (.ref c10)) (g11 : mg "Incompatible" = some (.ref c11)) (g12 : mg "NotReached" = some (.ref c12)) (g13 : mg "NoBreakpoint" = some (.ref c13)) (g14 : mg "NoMark" = some (.ref c14)) (g15 : mg "InvalidCommand" = some (.ref c15))
    (KV : ∀ i C, [c1, c2, c3, c4, c5, c6, c7, c8, c9, c10, c11, c12, c13, c14, c15][i]? = some C → KitV K cL [c1, c2, c3, c4, c5, c6, c7, c8, c9, c10, c11, c12, c13, c14, c15] i C) (exN : PySem.W.exmOne K (.ref c5) (.ref cL) = some true) (exO : PySem.W.exmOne K (.ref c10) (.ref cL) = some true) (XF : XfC K c5) (nf : PySem.W.findIn K (.ref c5) "name" = some none)
    (GW : FnOk P w K mg base (L2.CX P w) k fW dW ["program", "name", "rule"] (spWru K c5 c10)) (kW : PySem.W.keepIn K (.ref fW) = true) (bW : Binds K dW ["program", "name", "rule"] []) (gW : mg "with_rule" = some (.ref fW)) :
    FnOk P w K mg base CX0 (k + 1) f fd ["program", "name", "rule"] (spOut K) := by
  refine F.ok scOut (fun vs H Q E h => ?_) (fun cdv A outer s H vs Q E hr h => ?_)
  · obtain ⟨_, _, _, _, _, rfl, _⟩ := h
    rfl
  obtain ⟨v, g, x, r, ru, rfl, hA, hG, hR, hx, q⟩ := h
  have KN := KV 4 c5 rfl
  have KO := KV 9 c10 rfl
  refine ⟨_, (pss_cons (ps_set (i := 3) scOut.nd rfl (.inl rfl) (pe_non))
        (pss_cons (ps_set (i := 4) scOut.nd rfl (.inl rfl) (pe_non))
        (C8.pss_cut (ps_try_keep (i := 5) rfl rfl rfl scOut.nd rfl rfl ⟨rfl, by decide, .inl gL⟩ takes0 (fun W pn xe tk _ => pss_one (ps_set (i := 4) scOut.nd rfl (.inl rfl) (pe_callS GW hr rfl gW kW bW (fun σ => passAt tk σ) (pa_cons (pv 0) (pa_cons (pv 1) (pa_cons (pv 2) pa_nil)))))) (fun a oe cls d pn _ _ => pss_one (ps_set (i := 3) scOut.nd rfl (.inl rfl) (pv 5))))
        (pss_cons (ps_if (pt_cmpR op_isN (pv 3) pe_non (nomark _)) (pss_one (ps_ret (pv 4))) pss_nil)
        (pss_cons (ps_if (pt_val (pe_callB call_isWT (by rfl) mis (by decide +kernel) (pa_cons (pv 3) (pa_cons (pe_tup (pa_cons (pe_glob (v := .ref c2) (by rfl) g2 rfl) (pa_cons (pe_glob (v := .ref c3) (by rfl) g3 rfl) (pa_cons (pe_glob (v := .ref c11) (by rfl) g11 rfl) (pa_cons (pe_glob (v := .ref c15) (by rfl) g15 rfl) (pa_cons (pe_glob (v := .ref c6) (by rfl) g6 rfl) (pa_cons (pe_glob (v := .ref c13) (by rfl) g13 rfl) (pa_cons (pe_glob (v := .ref c9) (by rfl) g9 rfl) pa_nil)))))))) pa_nil)))) (pss_one (ps_ret (pe_str))) pss_nil)
        (pss_cons (ps_if (pt_val (pe_callB call_isWT (by rfl) mis (by decide +kernel) (pa_cons (pv 3) (pa_cons (pe_tup (pa_cons (pe_glob (v := .ref c14) (by rfl) g14 rfl) (pa_cons (pe_glob (v := .ref c7) (by rfl) g7 rfl) (pa_cons (pe_glob (v := .ref c12) (by rfl) g12 rfl) (pa_cons (pe_glob (v := .ref c1) (by rfl) g1 rfl) (pa_cons (pe_glob (v := .ref c4) (by rfl) g4 rfl) (pa_cons (pe_glob (v := .ref c8) (by rfl) g8 rfl) pa_nil))))))) pa_nil)))) (pss_one (ps_ret (pe_str))) pss_nil)
        (pss_cons (ps_if (pt_val (pe_callB call_isW (by rfl) mis (by decide +kernel) (pa_cons (pv 3) (pa_cons (pe_glob (v := .ref c5) (by rfl) g5 rfl) pa_nil)))) (pss_one (ps_ret (pe_ifExp (PW.pt (pw_or (pt_val (pe_callB call_isW (by rfl) mis (by decide +kernel) (pa_cons (pv 3) (pa_cons (pe_glob (v := .ref c10) (by rfl) g10 rfl) pa_nil)))) (pw_or1 (pt_cmpR op_ne (pe_fldW (pv 3)) (pv 1) (nomark _))))) (pe_str) (pe_str)))) pss_nil)
        (pss_one (ps_ret (pe_ifExp (pt_val (pe_callB call_isW (by rfl) mis (by decide +kernel) (pa_cons (pv 3) (pa_cons (pe_glob (v := .ref c10) (by rfl) g10 rfl) pa_nil)))) (pe_str) (pe_str))))))))))), ?_⟩
  refine ⟨fun σ H' => ∃ (c y : V) , σ = [some v, some (.str x), some (.ref r), some c, some y, none] ∧ Same H H' ∧ ((c = .non ∧ Dp K H' y (outD g x ru)) ∨ (∃ e d, c = .ref e ∧ H' e = some (Kept (.ref c5) (some d) e) ∧ H' d = some (.xd [("name", .str x)]) ∧ outD g x ru = .str "name") ∨ ∃ e, c = .ref e ∧ H' e = some (Kept (.ref c10) none e) ∧ outD g x ru = .str "range"), ?_, ?_⟩
  · refine ⟨_, rfl, _, rfl, _, rfl, v, g, x, r, ru, rfl, hA, hG, hR, hx, fun hn d H1 s1 hd => ?_, fun hb H1 s1 => ?_, fun hb v' H1 s1 h1 => ?_⟩
    · refine ⟨true, exN, fun _ e he => ⟨_, rfl, fun he2 => ?_⟩, fun z => nomatch z⟩
      refine ⟨_, _, rfl, s1.trans (same_upd he2), .inr (.inl ⟨e, d, rfl, upd_same, ?_, out_name hn⟩)⟩
      rw [upd_ne (ne_of_none hd he)]
      exact hd
    · refine ⟨true, exO, fun _ e he => ⟨_, rfl, fun he2 => ?_⟩, fun z => nomatch z⟩
      exact ⟨_, _, rfl, s1.trans (same_upd he2), .inr (.inr ⟨e, rfl, upd_same, out_range hb⟩)⟩
    · refine ⟨_, _, rfl, s1, .inl ⟨rfl, ?_⟩⟩
      obtain ⟨y, hy, hyn, hyb⟩ := hb
      rw [out_prog (hyn ▸ names_mem hy) fun z hz hzn => by rw [nodup_name hG.nd hz hy (hzn.trans hyn.symm)]; exact hyb]
      exact dp_pg h1
  rintro σ H1 ⟨c, y, rfl, s1, h⟩
  have l7 : 7 ≤ sizeLine := by show 7 ≤ sizeLine; decide
  have l6 : 6 ≤ sizeLine := by show 6 ≤ sizeLine; decide
  rcases h with ⟨rfl, hD⟩ | ⟨e, d, rfl, hK, hd, ho⟩ | ⟨e, rfl, hK, ho⟩
  · exact ⟨_, rfl, rfl, _, rfl, iteT ⟨_, rfl, q _ _ s1 hD⟩⟩
  · refine ⟨_, rfl, rfl, _, rfl, iteF ⟨_, rfl, l7, fun t1 n1 => ?_⟩⟩
    have e1 := same_upd (o := .tup [.ref c2, .ref c3, .ref c11, .ref c15, .ref c6, .ref c13, .ref c9]) n1
    have K1 : KeptE H1 e c5 := .inr ⟨d, _, hK, hd⟩
    refine ⟨e, c5, t1, _, _, false, rfl, K1.same e1, KN.ec, upd_same, .cons (.own c2) (.cons (.own c3) (.cons (.own c11) (.cons (.own c15) (.cons (.own c6) (.cons (.own c13) (.cons (.own c9) (.nil))))))), ?_, _, rfl, iteF ⟨_, rfl, l6, fun t2 n2 => ?_⟩⟩
    · exact kitAny_no (us := [.ref c2, .ref c3, .ref c11, .ref c15, .ref c6, .ref c13, .ref c9]) fun c hc => by
            simp only [List.mem_cons, List.not_mem_nil, or_false] at hc
            rcases hc with rfl | rfl | rfl | rfl | rfl | rfl | rfl
            · exact KN.ks 1 _ rfl
            · exact KN.ks 2 _ rfl
            · exact KN.ks 10 _ rfl
            · exact KN.ks 14 _ rfl
            · exact KN.ks 5 _ rfl
            · exact KN.ks 12 _ rfl
            · exact KN.ks 8 _ rfl
    have e2 := same_upd (o := .tup [.ref c14, .ref c7, .ref c12, .ref c1, .ref c4, .ref c8]) n2
    have e12 := e1.trans e2
    refine ⟨e, c5, t2, _, _, false, rfl, K1.same e12, KN.ec, upd_same, .cons (.own c14) (.cons (.own c7) (.cons (.own c12) (.cons (.own c1) (.cons (.own c4) (.cons (.own c8) (.nil)))))), ?_, _, rfl, iteF ?_⟩
    · exact kitAny_no (us := [.ref c14, .ref c7, .ref c12, .ref c1, .ref c4, .ref c8]) fun c hc => by
            simp only [List.mem_cons, List.not_mem_nil, or_false] at hc
            rcases hc with rfl | rfl | rfl | rfl | rfl | rfl
            · exact KN.ks 13 _ rfl
            · exact KN.ks 6 _ rfl
            · exact KN.ks 11 _ rfl
            · exact KN.ks 0 _ rfl
            · exact KN.ks 3 _ rfl
            · exact KN.ks 7 _ rfl
    refine ⟨_, rfl, e, c5, _, _, true, rfl, K1.same e12, KN.ec, .own c5, KN.ks 4 _ rfl, _, rfl, iteT ?_⟩
    refine ⟨_, rfl, e, c5, _, _, false, rfl, K1.same e12, KN.ec, .own c10, KN.ks 9 _ rfl, _, rfl, iteF ?_⟩
    refine ⟨_, rfl, e, c5, d, _, .str x, rfl, e12 _ _ hK, e12 _ _ hd, XF, nf, rfl, _, rfl, rfl, _, rfl, ?_⟩
    rw [decide_eq_true rfl]
    refine iteF (q _ _ (s1.trans e12) ?_)
    rw [ho]
    exact .str _
  · refine ⟨_, rfl, rfl, _, rfl, iteF ⟨_, rfl, l7, fun t1 n1 => ?_⟩⟩
    have e1 := same_upd (o := .tup [.ref c2, .ref c3, .ref c11, .ref c15, .ref c6, .ref c13, .ref c9]) n1
    have K1 : KeptE H1 e c10 := .inl hK
    refine ⟨e, c10, t1, _, _, false, rfl, K1.same e1, KO.ec, upd_same, .cons (.own c2) (.cons (.own c3) (.cons (.own c11) (.cons (.own c15) (.cons (.own c6) (.cons (.own c13) (.cons (.own c9) (.nil))))))), ?_, _, rfl, iteF ⟨_, rfl, l6, fun t2 n2 => ?_⟩⟩
    · exact kitAny_no (us := [.ref c2, .ref c3, .ref c11, .ref c15, .ref c6, .ref c13, .ref c9]) fun c hc => by
            simp only [List.mem_cons, List.not_mem_nil, or_false] at hc
            rcases hc with rfl | rfl | rfl | rfl | rfl | rfl | rfl
            · exact KO.ks 1 _ rfl
            · exact KO.ks 2 _ rfl
            · exact KO.ks 10 _ rfl
            · exact KO.ks 14 _ rfl
            · exact KO.ks 5 _ rfl
            · exact KO.ks 12 _ rfl
            · exact KO.ks 8 _ rfl
    have e2 := same_upd (o := .tup [.ref c14, .ref c7, .ref c12, .ref c1, .ref c4, .ref c8]) n2
    have e12 := e1.trans e2
    refine ⟨e, c10, t2, _, _, false, rfl, K1.same e12, KO.ec, upd_same, .cons (.own c14) (.cons (.own c7) (.cons (.own c12) (.cons (.own c1) (.cons (.own c4) (.cons (.own c8) (.nil)))))), ?_, _, rfl, iteF ?_⟩
    · exact kitAny_no (us := [.ref c14, .ref c7, .ref c12, .ref c1, .ref c4, .ref c8]) fun c hc => by
            simp only [List.mem_cons, List.not_mem_nil, or_false] at hc
            rcases hc with rfl | rfl | rfl | rfl | rfl | rfl
            · exact KO.ks 13 _ rfl
            · exact KO.ks 6 _ rfl
            · exact KO.ks 11 _ rfl
            · exact KO.ks 0 _ rfl
            · exact KO.ks 3 _ rfl
            · exact KO.ks 7 _ rfl
    refine ⟨_, rfl, e, c10, _, _, false, rfl, K1.same e12, KO.ec, .own c5, KO.ks 4 _ rfl, _, rfl, iteF ?_⟩
    refine ⟨_, rfl, e, c10, _, _, true, rfl, K1.same e12, KO.ec, .own c10, KO.ks 9 _ rfl, _, rfl, iteT (q _ _ (s1.trans e12) ?_)⟩
    rw [ho]
    exact .str _

abbrev sExp : Stmt := topS 30
abbrev nExp : List Str := ["program", "name", "rule", "variables", "halt", "assignments", "found", "one", "low", "high", "start", "old", "variable"]
theorem scExp : FnScope nExp ["program", "name", "rule"] (defScope sExp) := ⟨rfl, rfl, rfl, by decide +kernel, rfl, by decide +kernel, by decide +kernel⟩
theorem ok_exp {f : Addr} {fd : FuncData} {k : Nat} (F : Fun K "_law_expected" "_law_expected" sExp f fd) (ml : mg "len" = none) (mtu : mg "tuple" = none) :
    FnOk P w K mg base CX0 (k + 1) f fd ["program", "name", "rule"] (spOut K) := by
  refine F.ok scExp (fun vs H Q E h => ?_) (fun cdv A outer s H vs Q E hr h => ?_)
  · obtain ⟨_, _, _, _, _, rfl, _⟩ := h
    rfl
  obtain ⟨v, g, x, r, ru, rfl, hA, hG, hR, hx, q⟩ := h
  have l2 := hG.le2
  have three : 3 ≤ sizeLine := by show 3 ≤ sizeLine; decide
  have five : 5 ≤ sizeLine := by show 5 ≤ sizeLine; decide
  have hA' := hA
  obtain ⟨p, vA, aA, hh, pvs, pas, rfl, hT, hTv, hPv, hHa, hFz, hPa⟩ := hA
  refine ⟨_, (pss_cons (ps_asg (pv 0) (pg_tup rfl (pgs_cons (pg_name (i := 3) scExp.nd rfl (.inl rfl)) (pgs_cons (pg_name (i := 4) scExp.nd rfl (.inl rfl)) (pgs_cons (pg_name (i := 5) scExp.nd rfl (.inl rfl)) pgs_nil)))))
        (pss_cons (ps_set (i := 6) scExp.nd rfl (.inl rfl) (pe_lst pa_nil))
        (C8.pss_cut (ps_for PassesOwn.never rfl (pi_tup (pv 3)) (pg_tup rfl (pgs_cons (pg_name (i := 7) scExp.nd rfl (.inl rfl)) (pgs_cons (pg_name (i := 8) scExp.nd rfl (.inl rfl)) (pgs_cons (pg_name (i := 9) scExp.nd rfl (.inl rfl)) (pgs_cons (pg_name (i := 10) scExp.nd rfl (.inl rfl)) (pgs_cons (pg_name (i := 11) scExp.nd rfl (.inl rfl)) pgs_nil)))))) (C8.pss_cut (ps_if (PW.pt (pw_and (pt_cmpR op_eq (pv 7) (pv 1) (nomark _)) (pw_and (pt_cmpR op_gt (pe_callB call_len_seq (by rfl) ml PySem.boot_len (pa_cons (pv 2) pa_nil)) (pe_int) (nomark _)) (pw_and1 (pt_not (pt_chain op_le op_le (pv 8) (pe_ix ix_tup (pv 2) pe_int (fun _ _ => rfl)) (pv 9))))))) (pss_one (ps_ret (pe_str))) pss_nil)
        (pss_one (ps_expr (pe_bm PySem.F.plainAttrs_list PySem.F.slot_list_append PySem.F.type_list_append mt_append (pv 6) (pa_cons (pe_tup (pa_cons (pv 7) (pa_cons (pv 8) (pa_cons (pv 9) (pa_cons (pv 10) (pa_cons (pe_ifExp (pt_cmpR op_eq (pv 7) (pv 1) (nomark _)) (pv 2) (pv 11)) pa_nil)))))) pa_nil))))))
        (pss_one (ps_ret (pe_ifExp (pt_cmpR op_in_seq (pv 1) (pe_lc (own := [("variable", 12)]) (g := gName 12) (tt := tYes) (by rfl) scExp.nd (pi_tup (pv 3)) (blkOk_by (N := nExp) (sc := defScope sExp) (by decide +kernel)) (fun _ _ _ _ _ => (pg_name (i := 12) scExp.nd rfl (.inl rfl))) (fun _ _ _ _ _ => pts_nil) (fun _ _ _ _ _ => pe_ix (ixt_K (K := K) rfl) (pv 12) (pe_int) (fun _ _ => rfl))) (by with_unfolding_all rfl)) (pe_tup (pa_cons (pe_callTy call_tuple_of (by rfl) mtu (by decide +kernel) (pa_cons (pv 6) pa_nil)) (pa_cons (pv 4) (pa_cons (pv 5) pa_nil)))) pe_str)))))), ?_⟩
  refine ⟨_, rfl, p, _, rfl, hT, rfl, _, _, rfl, _, _, rfl, _, _, rfl, rfl, ?_⟩
  refine ⟨by show 0 ≤ sizeLine; decide, fun D nD => ?_⟩
  have lp : pvs.length ≤ 2 := by rw [← Paired.length hPv]; exact l2
  refine ⟨fun σ H' => ∃ (y7 y8 y9 y10 y11 : Option V) (qs : List Addr), σ = [some (.ref p), some (.str x), some (.ref r), some (.ref vA), some hh, some (.ref aA), some (.ref D), y7, y8, y9, y10, y11, none] ∧ Same H H' ∧ H' D = some (.lst (qs.map V.ref)) ∧ Paired (VaAt K H') (g.vs.map (Va.wr x ru)) qs ∧ ∀ y ∈ g.vs, y.name = x → badB ru y.lo y.hi = false, ?_, ?_⟩
  · refine ⟨_, rfl, vA, rfl, ⟨_, Same.seqT (same_upd nD) hTv⟩, for_tup (K := K) (a := vA) (xs := pvs.map V.ref) (fun i σ H' => ∃ (y7 y8 y9 y10 y11 : Option V) (qs : List Addr), σ = [some (.ref p), some (.str x), some (.ref r), some (.ref vA), some hh, some (.ref aA), some (.ref D), y7, y8, y9, y10, y11, none] ∧ Same H H' ∧ H' D = some (.lst (qs.map V.ref)) ∧ Paired (VaAt K H') ((g.vs.take i).map (Va.wr x ru)) qs ∧ ∀ y ∈ g.vs.take i, y.name = x → badB ru y.lo y.hi = false) ?_ ?_ ?_ ?_⟩
    · exact ⟨_, _, _, _, _, [], rfl, same_upd nD, upd_same, .nil, fun y hy => by cases hy⟩
    · rintro i σ H1 _ ⟨y7, y8, y9, y10, y11, qs, rfl, s1, _⟩
      exact Same.seqT s1 hTv
    · rintro i x' σ H1 hx' ⟨y7, y8, y9, y10, y11, qs, rfl, s1, hD, hP, hb⟩
      rw [List.getElem?_map] at hx'
      obtain ⟨q', hq', rfl⟩ := Option.map_eq_some_iff.mp hx'
      obtain ⟨z, hz, ro, hzT, hzR⟩ := pget hPv hq'
      have hi : i < pvs.length := (List.getElem?_eq_some_iff.mp hq').1
      have hzT1 := Same.seqT s1 hzT
      have hR1 := Same.seqT s1 hR
      have hmem : z ∈ g.vs := List.mem_of_getElem? hz
      have tk : g.vs.take (i + 1) = g.vs.take i ++ [z] := by
        rw [List.take_add_one, hz]
        rfl
      refine ⟨q', _, rfl, hzT1, rfl, _, _, rfl, _, _, rfl, _, _, rfl, _, _, rfl, _, _, rfl, rfl, ?_⟩
      refine ⟨fun σ H' => σ = [some (.ref p), some (.str x), some (.ref r), some (.ref vA), some hh, some (.ref aA), some (.ref D), some (.str z.name), some (.int z.lo), some (.int z.hi), some (.int z.st), some (.ref ro), none] ∧ (z.name = x → badB ru z.lo z.hi = false) ∧ H' = H1, ?_, ?_⟩
      · refine ⟨_, rfl, _, rfl, rfl, _, rfl, ?_⟩
        rw [txt_eq]
        by_cases hzn : z.name = x
        case neg =>
          rw [decide_eq_false hzn]
          exact iteF (iteF ⟨rfl, fun e => absurd e hzn, rfl⟩)
        rw [decide_eq_true hzn]
        refine iteT ⟨_, rfl, r, _, rfl, .inr hR1, _, _, rfl, rfl, _, rfl, ?_⟩
        rcases ru_len ru with ⟨l1, hn⟩ | ⟨n, l1, hn, h1⟩
        · rw [l1]
          refine iteF (iteF ⟨rfl, fun _ => ?_, rfl⟩)
          unfold badB
          rw [hn]
        · rw [l1]
          have hbad : badB ru z.lo z.hi = !(decide (z.lo ≤ n) && decide (n ≤ z.hi)) := by
            unfold badB
            rw [hn]
          have fin : badB ru z.lo z.hi = true → Q (.str "range") H1 := fun hb => q _ _ s1 (by
            rw [out_range ⟨z, hmem, hzn, hb⟩]
            exact .str _)
          refine iteT ⟨_, rfl, _, rfl, r, _, 1, _, rfl, rfl, hR1, atI_nat (j := 1) h1, _, _, rfl, rfl, _, rfl, ?_⟩
          by_cases c1 : z.lo ≤ n
          · rw [decide_eq_true c1] at hbad ⊢
            refine iteT ⟨_, rfl, _, _, rfl, rfl, _, rfl, ?_⟩
            by_cases c2 : n ≤ z.hi
            · rw [decide_eq_true c2] at hbad ⊢
              exact iteF ⟨rfl, fun _ => hbad, rfl⟩
            · rw [decide_eq_false c2] at hbad ⊢
              exact iteT (fin hbad)
          · rw [decide_eq_false c1] at hbad ⊢
            exact iteF ⟨_, rfl, iteT (fin hbad)⟩
      rintro σ H2 ⟨rfl, hzb, rfl⟩
      have hql : qs.length = i := by
        rw [← Paired.length hP, List.length_map, List.length_take, Paired.length hPv]
        omega
      have step : ∀ (rr : Addr) (ru' : Ru), SqT K H2 rr ru'.parts → Va.wr x ru z = { z with ru := ru' } → ∀ pt, H2 pt = none →
          ∃ (y7 y8 y9 y10 y11 : Option V) (qs' : List Addr), [some (V.ref p), some (.str x), some (.ref r), some (.ref vA), some hh, some (.ref aA), some (.ref D), some (.str z.name), some (.int z.lo), some (.int z.hi), some (.int z.st), some (.ref ro), none] = [some (.ref p), some (.str x), some (.ref r), some (.ref vA), some hh, some (.ref aA), some (.ref D), y7, y8, y9, y10, y11, none] ∧
            Same H (upd (upd H2 pt (.tup [.str z.name, .int z.lo, .int z.hi, .int z.st, .ref rr])) D (.lst (qs.map V.ref ++ [.ref pt]))) ∧ (upd (upd H2 pt (.tup [.str z.name, .int z.lo, .int z.hi, .int z.st, .ref rr])) D (.lst (qs.map V.ref ++ [.ref pt]))) D = some (.lst (qs'.map V.ref)) ∧ Paired (VaAt K (upd (upd H2 pt (.tup [.str z.name, .int z.lo, .int z.hi, .int z.st, .ref rr])) D (.lst (qs.map V.ref ++ [.ref pt])))) ((g.vs.take (i + 1)).map (Va.wr x ru)) qs' ∧ ∀ y ∈ g.vs.take (i + 1), y.name = x → badB ru y.lo y.hi = false := by
        intro rr ru' hrr hw pt npt
        have sp := same_upd (o := .tup [.str z.name, .int z.lo, .int z.hi, .int z.st, .ref rr]) npt
        have hD2 := sp _ _ hD
        refine ⟨_, _, _, _, _, qs ++ [pt], rfl, same_updN (s1.trans sp) nD, by rw [upd_same, List.map_append]; rfl, ?_, fun y hy => ?_⟩
        · rw [tk, List.map_append, List.map_cons, hw]
          refine Paired.snoc (Paired.mapP hP fun _ _ y => y.mono fun _ _ t => seqT_updL (Same.seqT sp t) hD2) ⟨rr, seqT_updL (.inl (.inl upd_same)) hD2, seqT_updL (Same.seqT sp hrr) hD2⟩
        · rw [tk] at hy
          rcases List.mem_append.mp hy with h | h
          · exact hb y h
          · rw [List.mem_singleton.mp h]
            exact hzb
      refine ⟨_, rfl, .inl ⟨rfl, _, .inl (.inl hD)⟩, _, rfl, _, rfl, _, rfl, _, rfl, _, rfl, _, rfl, rfl, _, rfl, ?_⟩
      rw [txt_eq]
      by_cases hzn : z.name = x
      · rw [decide_eq_true hzn]
        refine iteT ⟨_, rfl, five, fun pt npt => ⟨D, _, _, rfl, rfl, same_upd npt _ _ hD, by rw [List.length_map, hql]; exact small1000 (by omega), ?_⟩⟩
        exact step r ru hR1 (if_pos hzn) pt npt
      · rw [decide_eq_false hzn]
        refine iteF ⟨_, rfl, five, fun pt npt => ⟨D, _, _, rfl, rfl, same_upd npt _ _ hD, by rw [List.length_map, hql]; exact small1000 (by omega), ?_⟩⟩
        exact step ro z.ru (Same.seqT s1 hzR) (if_neg hzn) pt npt
    · rintro σ H1 ⟨y7, y8, y9, y10, y11, qs, rfl, s1, hD, hP, hb⟩
      rw [List.length_map, ← Paired.length hPv, List.take_length] at hP hb
      exact ⟨y7, y8, y9, y10, y11, qs, rfl, s1, hD, hP, hb⟩
  rintro σ H1 ⟨y7, y8, y9, y10, y11, qs, rfl, s1, hD, hP, hb⟩
  refine ⟨_, rfl, _, rfl, vA, rfl, ⟨_, Same.seqT s1 hTv⟩, fun B nB => ?_⟩
  refine lc_tup (K := K) (a := vA) (xs := pvs.map V.ref) (fun i H' => Same H1 H' ∧ H' B = some (.lst ((g.vs.take i).map fun z => V.str z.name))) ?_ ?_ ?_ ?_
  · exact ⟨same_upd nB, upd_same⟩
  · rintro i H2 _ ⟨s2, _⟩
    exact Same.seqT (s1.trans s2) hTv
  · rintro i x' H2 hx' ⟨s2, hB⟩
    rw [List.getElem?_map] at hx'
    obtain ⟨q', hq', rfl⟩ := Option.map_eq_some_iff.mp hx'
    obtain ⟨z, hz, ro, hzT, _⟩ := pget hPv hq'
    refine ⟨rfl, _, rfl, q', _, 0, _, rfl, rfl, Same.seqT (s1.trans s2) hzT, atI_nat (j := 0) rfl, _, hB, by rw [List.length_map, List.length_take]; exact small1000 (by omega), same_updN s2 nB, ?_⟩
    rw [upd_same, List.take_add_one, hz, List.map_append]
    rfl
  rintro H2 ⟨s2, hB⟩
  have eB : ((g.vs.take (pvs.map V.ref).length).map fun z => V.str z.name) = g.names.map V.str := by
    rw [List.length_map, ← Paired.length hPv, List.take_length]
    show _ = (g.vs.map (·.name)).map V.str
    rw [List.map_map]
    rfl
  rw [eB] at hB
  have s12 := s1.trans s2
  refine ⟨B, _, rfl, .inl (.inl (.inl hB)), rfl, flat_strs _, _, rfl, ?_⟩
  rw [inV_str]
  by_cases hx0 : x ∈ g.names
  · rw [decide_eq_true hx0]
    refine iteT ⟨_, rfl, D, _, rfl, .inl ⟨.inl (.inl (s2 _ _ hD)), fun l nl => ⟨_, rfl, _, rfl, three, fun pt npt => ?_⟩⟩⟩
    have e1 := same_upd (o := .tup (qs.map V.ref)) nl
    have e2 := same_upd (o := .tup [.ref l, hh, .ref aA]) npt
    have SS := (s12.trans e1).trans e2
    refine q (.ref pt) _ SS ?_
    rw [out_prog hx0 hb]
    refine dp_pg (g := g.wr x ru) ⟨pt, l, aA, hh, qs, pas, rfl, .inl (.inl upd_same), Same.seqT e2 (.inl (.inl upd_same)), ?_, ?_, FzT.same hFz SS, ?_⟩
    · exact Paired.mapP hP fun _ _ z => z.mono fun _ _ t => Same.seqT ((s2.trans e1).trans e2) t
    · exact hHa.mono fun _ _ t => Same.seqT SS t
    · exact Paired.mapP hPa fun _ _ z => AsAt.mono (fun _ _ t => Same.seqT SS t) z
  · rw [decide_eq_false hx0]
    refine iteF (q _ _ s12 ?_)
    rw [out_name hx0]
    exact .str _
end
end Lim
set_option maxHeartbeats 4000000
namespace Lim
open PySem PySem.Spec PyProof.Rows L2
abbrev sLaw : Stmt := topS 31
section
variable {P : Program} {w : World} {K : PySem.W.Frag} {mg : Str → Option Value} {base : Heap}
abbrev nLaw : List Str := ["script", "source", "turn", "program", "before", "name", "value", "rule"]
theorem scLaw : FnScope nLaw ["script"] (defScope sLaw) := ⟨rfl, rfl, rfl, by decide +kernel, rfl, by decide +kernel, by decide +kernel⟩
def spLaw (K : PySem.W.Frag) : Sp := fun vs H Q _ => ∃ (a : Addr) (ns : List Int), vs = [.ref a] ∧ SqL K H a (ns.map V.int) ∧ ns.length ≤ 63 ∧ ∀ H', Q (.bl true) H'
mutual
theorem dp_same {H H' : Hp} (s : Same H H') : ∀ {v : V} {d : PyData}, Dp K H v d → Dp K H' v d
  | _, _, .non => .non
  | _, _, .bl b => .bl b
  | _, _, .int i => .int i
  | _, _, .str z => .str z
  | _, _, .lst h a => .lst (Same.seq s h) (dpa_same s a)
  | _, _, .tup h a => .tup (Same.seqT s h) (dpa_same s a)
theorem dpa_same {H H' : Hp} (s : Same H H') : ∀ {vs : List V} {ds : List PyData}, DpAll K H vs ds → DpAll K H' vs ds
  | _, _, .nil => .nil
  | _, _, .cons h t => .cons (dp_same s h) (dpa_same s t)
end
structure Calls (P : Program) (w : World) (K : PySem.W.Frag) (mg : Str → Option Value) (base : Heap) (k : Nat) : Prop where
  sou : ∃ f fd, FnOk P w K mg base CX0 k f fd ["script"] (spSou K) ∧ mg "_law_source" = some (.ref f) ∧ PySem.W.keepIn K (.ref f) = true ∧ Binds K fd ["script"] []
  pic : ∃ f fd, FnOk P w K mg base CX0 k f fd ["source", "many"] spPic ∧ mg "_law_pick" = some (.ref f) ∧ PySem.W.keepIn K (.ref f) = true ∧ Binds K fd ["source", "many"] []
  smp : ∃ f fd, FnOk P w K mg base CX0 k f fd ["source"] (spSmp K) ∧ mg "_law_small_program" = some (.ref f) ∧ PySem.W.keepIn K (.ref f) = true ∧ Binds K fd ["source"] []
  outc : ∃ f fd, FnOk P w K mg base CX0 k f fd ["program", "name", "rule"] (spOut K) ∧ mg "_law_outcome" = some (.ref f) ∧ PySem.W.keepIn K (.ref f) = true ∧ Binds K fd ["program", "name", "rule"] []
  expe : ∃ f fd, FnOk P w K mg base CX0 k f fd ["program", "name", "rule"] (spOut K) ∧ mg "_law_expected" = some (.ref f) ∧ PySem.W.keepIn K (.ref f) = true ∧ Binds K fd ["program", "name", "rule"] []
  ide : ∃ f fd, FnG P w K mg base k f fd ["found", "expected"] (spIde K) ∧ mg "_law_equal" = some (.ref f) ∧ PySem.W.keepIn K (.ref f) = true ∧ Binds K fd ["found", "expected"] []
  range : mg "range" = none
  repr : mg "repr" = none
  list : mg "list" = none
theorem ok_law {f : Addr} {fd : FuncData} {k : Nat} (F : Fun K "law" "law" sLaw f fd) (C : Calls P w K mg base k) : FnG P w K mg base (k + 1) f fd ["script"] (spLaw K) := by
  obtain ⟨fD, dD, GD, gD, kD, bD⟩ := C.sou
  obtain ⟨fP, dP, GP, gP, kP, bP⟩ := C.pic
  obtain ⟨fM, dM, GM, gM, kM, bM⟩ := C.smp
  obtain ⟨fO, dO, GO, gO, kO, bO⟩ := C.outc
  obtain ⟨fE, dE, GE, gE, kE, bE⟩ := C.expe
  obtain ⟨fI, dI, GI, gI, kI, bI⟩ := C.ide
  have mr := C.range
  have mre := C.repr
  have mli := C.list
  refine Fun_okG F scLaw (fun vs H Q E h => ?_) (fun cdv B below s H vs Q E hg hr h => ?_)
  · obtain ⟨a, ns, rfl, _⟩ := h
    rfl
  obtain ⟨a, ns, rfl, hS, hlen, q⟩ := h
  have hun : (cxOf CX0 P w K mg base nLaw "law" (defScope sLaw) f cdv B below s H E).nox.A.units + 100 < cLine := by
    have := hr.un
    show (B.deeper _).units + 100 < cLine
    omega
  have one : 1 ≤ sizeLine := by show 1 ≤ sizeLine; decide
  have two : 2 ≤ sizeLine := by show 2 ≤ sizeLine; decide
  have four : 4 ≤ sizeLine := by show 4 ≤ sizeLine; decide
  have five : 5 ≤ sizeLine := by show 5 ≤ sizeLine; decide
  refine ⟨_, (pss_cons (ps_set (i := 1) scLaw.nd rfl (.inl rfl) (pe_call GD hr (by rfl) gD kD bD .nil pass0 (pa_cons (pv 0) pa_nil)))
        (pss_cons (ps_for PassesOwn.never rfl (pi_range1 rfl mr (pa_cons pe_int pa_nil)) (pg_name (i := 2) scLaw.nd rfl (.inl rfl)) (C8.pss_cut (ps_set (i := 3) scLaw.nd rfl (.inl rfl) (pe_call GM hr (by rfl) gM kM bM .nil pass0 (pa_cons (pv 1) pa_nil)))
        (pss_cons (ps_set (i := 4) scLaw.nd rfl (.inl rfl) (pe_callB (call_reprD hg hun) (by rfl) mre (by decide +kernel) (pa_cons (pv 3) pa_nil)))
        (C8.pss_cut (ps_for PassesOwn.never rfl (pi_list (pe_lst (pa_cons (pe_str) (pa_cons (pe_str) (pa_cons (pe_str) (pa_cons (pe_str) (pa_cons (pe_str) pa_nil))))))) (pg_name (i := 5) scLaw.nd rfl (.inl rfl)) (pss_one (ps_for PassesOwn.never rfl (pi_list (pe_op op_cat (pe_listRg rfl (by rfl) mli (prg_2 (by rfl) mr (pe_op op_sub (pe_int) (pe_int)) pe_int)) (pe_lst (pa_cons (pe_call GP hr (by rfl) gP kP bP .nil pass0 (pa_cons (pv 1) (pa_cons (pe_int) pa_nil))) pa_nil)))) (pg_name (i := 6) scLaw.nd rfl (.inl rfl)) (pss_one (ps_for PassesOwn.never rfl (pi_list (pe_lst (pa_cons (pe_tup (pa_cons (pe_str) pa_nil)) (pa_cons (pe_tup (pa_cons (pe_str) pa_nil)) (pa_cons (pe_tup (pa_cons (pe_str) (pa_cons (pv 6) pa_nil))) (pa_cons (pe_tup (pa_cons (pe_str) (pa_cons (pv 6) pa_nil))) pa_nil)))))) (pg_name (i := 7) scLaw.nd rfl (.inl rfl)) (pss_one (ps_if (pt_not (pt_val (pe_g GI hg hr (by rfl) gI kI bI (pa_cons (pe_call GO hr (by rfl) gO kO bO .nil pass0 (pa_cons (pv 3) (pa_cons (pv 5) (pa_cons (pv 7) pa_nil)))) (pa_cons (pe_call GE hr (by rfl) gE kE bE .nil pass0 (pa_cons (pv 3) (pa_cons (pv 5) (pa_cons (pv 7) pa_nil)))) pa_nil))))) (pss_one (ps_ret (pe_bl))) pss_nil)))))))
        (pss_one (ps_if (pt_cmpR op_ne (pe_callB (call_reprD hg hun) (by rfl) mre (by decide +kernel) (pa_cons (pv 3) pa_nil)) (pv 4) (nomark _)) (pss_one (ps_ret (pe_bl))) pss_nil))))))
        (pss_one (ps_ret (pe_bl))))), ?_⟩
  refine ⟨_, rfl, a, ns, rfl, hS, hlen, fun H0 src n sm0 nsrc nn hsrc => ?_⟩
  refine ⟨6, rfl, by decide, by decide, for_range (n := 6) (fun t σ H' => ∃ y2 y3 y4 y5 y6 y7 : Option V, σ = [some (.ref a), some (.ref src), y2, y3, y4, y5, y6, y7] ∧ Src H' src n) ⟨_, _, _, _, _, _, rfl, hsrc⟩ ?_ ?_⟩
  · rintro t σ H1 ht ⟨y2, y3, y4, y5, y6, y7, rfl, hs⟩
    refine ⟨fun σ H' => ∃ (v : V) (g : Pg), σ = [some (.ref a), some (.ref src), some (.int (0 + (t : Int))), some v, y4, y5, y6, y7] ∧ Src H' src n ∧ PgAt K H' g v ∧ PgOk g, ?_, ?_⟩
    · exact ⟨_, rfl, src, n, rfl, hs, fun v g H2 s2 hA hG => ⟨v, g, rfl, s2.1, hA, hG⟩⟩
    rintro σ H2 ⟨v, g, rfl, hs2, hA2, hG⟩
    have hSz := hG.sz
    have hSh := (sd_pg hSz).shn (by decide) (by decide)
    refine ⟨_, rfl, v, pgD g, rfl, dp_pg hA2, hSh.1, hSh.2, hSh.3, hSh.4, ?_⟩
    refine ⟨fun σ H' => ∃ y5 y6 y7 : Option V, σ = [some (.ref a), some (.ref src), some (.int (0 + (t : Int))), some v, some (.str (pgD g).shown), y5, y6, y7] ∧ Src H' src n ∧ PgAt K H' g v, ?_, ?_⟩
    · refine ⟨five, fun pn npn => ⟨pn, rfl, ⟨_, .inl (.inl upd_same)⟩, ?_⟩⟩
      have ep := same_upd (o := .lst [.str "x", .str "y", .str "z", .str "xx", .str ""]) npn
      have hpn : pn ≠ src := hs2.has npn
      refine for_list (K := K) (a := pn) (xs := (["x", "y", "z", "xx", ""] : List Str).map V.str) (fun c σ H' => ∃ y5 y6 y7 : Option V, σ = [some (.ref a), some (.ref src), some (.int (0 + (t : Int))), some v, some (.str (pgD g).shown), y5, y6, y7] ∧ Stp src n (upd H2 pn (.lst [.str "x", .str "y", .str "z", .str "xx", .str ""])) H') ?_ ?_ ?_ ?_
      · exact ⟨_, _, _, rfl, .refl (hs2.same ep)⟩
      · rintro c σ H' _ ⟨y5, y6, y7, rfl, st⟩
        exact .inl (.inl (st.2 _ _ upd_same hpn))
      · rintro c x' σ H3 hx ⟨y5, y6, y7, rfl, st3⟩
        obtain ⟨x, hxm, rfl⟩ := List.mem_map.mp (List.mem_of_getElem? hx)
        have hxl : x.length ≤ 100 := by
          simp only [List.mem_cons, List.not_mem_nil, or_false] at hxm
          rcases hxm with rfl | rfl | rfl | rfl | rfl
          all_goals decide +kernel
        have hA3 := (hA2.same ep).stp (hs2.same ep) st3
        refine ⟨_, _, rfl, rfl, _, _, rfl, rfl, ⟨by decide, by decide, by decide, by decide, by decide⟩, fun q1 n1 => ?_⟩
        have e1 := same_upd (o := .lst (rgV (0 - 4) 6)) n1
        refine ⟨_, rfl, src, n, 100, rfl, st3.1.same e1, by decide, by decide, fun z H4 z0 z1 st4 => ⟨one, fun q2 n2 => ?_⟩⟩
        have z1' : z < 100 := z1
        have hq1 := st4.2 _ _ (upd_same (H := H3) (a := q1) (o := .lst (rgV (0 - 4) 6))) (st3.1.has n1)
        have e2 := same_upd (o := .lst [.int z]) n2
        refine ⟨q1, q2, _, _, rfl, rfl, e2 _ _ hq1, upd_same, ?_, fun q3 n3 => ?_⟩
        · rw [rgV_length]
          exact Nat.le_of_lt (small1000 (show (6 - (0 - 4) : Int).toNat + 1 ≤ 1000 by decide))
        have e3 := same_upd (o := .lst (rgV (0 - 4) 6 ++ [.int z])) n3
        have S5 := ((Stp.of st3.1 e1).trans st4).then (e2.trans e3)
        have hA5 := hA3.stp st3.1 S5
        generalize hH5 : upd (upd H4 q2 (.lst [.int z])) q3 (.lst (rgV (0 - 4) 6 ++ [.int z])) = H5 at S5 hA5 ⊢
        have hq3 : H5 q3 = some (.lst (rgV (0 - 4) 6 ++ [.int z])) := by
          rw [← hH5]
          exact upd_same
        have vb : ∀ u ∈ rgV (0 - 4) 6 ++ [.int z], ∃ m : Int, u = .int m ∧ m.natAbs ≤ 1000 := by
          intro u hu
          rcases List.mem_append.mp hu with h | h
          · unfold rgV at h
            obtain ⟨i, hi, rfl⟩ := List.mem_map.mp h
            have := List.mem_range.mp hi
            exact ⟨_, rfl, by omega⟩
          · exact ⟨z, List.mem_singleton.mp h, by omega⟩
        refine ⟨q3, rfl, ⟨_, .inl (.inl hq3)⟩, for_list (K := K) (a := q3) (xs := rgV (0 - 4) 6 ++ [.int z]) (fun c2 σ H' => ∃ y6 y7 : Option V, σ = [some (.ref a), some (.ref src), some (.int (0 + (t : Int))), some v, some (.str (pgD g).shown), some (.str x), y6, y7] ∧ Same H5 H') ⟨_, _, rfl, Same.refl _⟩ ?_ ?_ ?_⟩
        · rintro c2 σ H' _ ⟨y6, y7, rfl, sm⟩
          exact .inl (.inl (sm _ _ hq3))
        · rintro c2 u σ H6 hu ⟨y6, y7, rfl, s6⟩
          obtain ⟨m, rfl, hm⟩ := vb u (List.mem_of_getElem? hu)
          have hA6 := hA5.same s6
          refine ⟨one, fun r1 m1 => ⟨one, fun r2 m2 => ⟨_, rfl, two, fun r3 m3 => ⟨_, rfl, two, fun r4 m4 => ⟨four, fun q4 n4 => ?_⟩⟩⟩⟩⟩
          have f1 := same_upd (o := .tup [.str "low"]) m1
          have f2 := same_upd (o := .tup [.str "high"]) m2
          have f3 := same_upd (o := .tup [.str "keep", .int m]) m3
          have f4 := same_upd (o := .tup [.str "set", .int m]) m4
          have f5 := same_upd (o := .lst [.ref r1, .ref r2, .ref r3, .ref r4]) n4
          have g1 : SqT K _ r1 [.str "low"] := Same.seqT (((f2.trans f3).trans f4).trans f5) (.inl (.inl (upd_same (H := H6))))
          have g2 : SqT K _ r2 [.str "high"] := Same.seqT ((f3.trans f4).trans f5) (.inl (.inl upd_same))
          have g3 : SqT K _ r3 [.str "keep", .int m] := Same.seqT (f4.trans f5) (.inl (.inl upd_same))
          have g4 : SqT K _ r4 [.str "set", .int m] := Same.seqT f5 (.inl (.inl upd_same))
          have F7 := (((f1.trans f2).trans f3).trans f4).trans f5
          generalize hH7 : upd (upd (upd (upd (upd H6 r1 (.tup [.str "low"])) r2 (.tup [.str "high"])) r3 (.tup [.str "keep", .int m])) r4 (.tup [.str "set", .int m])) q4 (.lst [.ref r1, .ref r2, .ref r3, .ref r4]) = H7 at F7 g1 g2 g3 g4 ⊢
          have hq4 : H7 q4 = some (.lst [.ref r1, .ref r2, .ref r3, .ref r4]) := by
            rw [← hH7]
            exact upd_same
          have all : ∀ u ∈ [V.ref r1, .ref r2, .ref r3, .ref r4], ∃ (r : Addr) (ru : Ru), u = .ref r ∧ SqT K H7 r ru.parts ∧ ru.small := by
            intro u hu
            simp only [List.mem_cons, List.not_mem_nil, or_false] at hu
            rcases hu with rfl | rfl | rfl | rfl
            · exact ⟨r1, .low, rfl, g1, fun n hn => by cases hn⟩
            · exact ⟨r2, .high, rfl, g2, fun n hn => by cases hn⟩
            · exact ⟨r3, .keep m, rfl, g3, fun n hn => by cases hn; exact hm⟩
            · exact ⟨r4, .set m, rfl, g4, fun n hn => by cases hn; exact hm⟩
          have hA7 := hA6.same F7
          refine ⟨q4, rfl, ⟨_, .inl (.inl hq4)⟩, for_list (K := K) (a := q4) (xs := [.ref r1, .ref r2, .ref r3, .ref r4]) (fun c3 σ H' => ∃ y7 : Option V, σ = [some (.ref a), some (.ref src), some (.int (0 + (t : Int))), some v, some (.str (pgD g).shown), some (.str x), some (.int m), y7] ∧ Same H7 H') ⟨_, rfl, Same.refl _⟩ ?_ ?_ ?_⟩
          · rintro c3 σ H' _ ⟨y7, rfl, sm⟩
            exact .inl (.inl (sm _ _ hq4))
          · rintro c3 u σ H8 hu ⟨y7, rfl, s8⟩
            obtain ⟨r, ru, rfl, hr8, hsm⟩ := all u (List.mem_of_getElem? hu)
            have hA8 := hA7.same s8
            have hR8 := Same.seqT s8 hr8
            refine ⟨_, rfl, _, rfl, _, rfl, v, g, x, r, ru, rfl, hA8, hG, hR8, hxl, fun v1 H9 s9 d1 => ?_⟩
            refine ⟨_, rfl, _, rfl, _, rfl, v, g, x, r, ru, rfl, hA8.same s9, hG, Same.seqT s9 hR8, hxl, fun v2 H10 s10 d2 => ?_⟩
            exact ⟨v1, v2, _, rfl, dp_same s10 d1, d2, out_shn hSz hsm, true, rfl, iteF ⟨_, rfl, (s8.trans s9).trans s10⟩⟩
          · rintro σ H8 ⟨y7, rfl, s8⟩
            exact ⟨_, _, rfl, (s6.trans F7).trans s8⟩
        · rintro σ H6 ⟨y6, y7, rfl, s6⟩
          exact ⟨_, _, _, rfl, st3.trans (S5.then s6)⟩
      · rintro σ H3 ⟨y5, y6, y7, rfl, st3⟩
        exact ⟨_, _, _, rfl, st3.1, (hA2.same ep).stp (hs2.same ep) st3⟩
    clear y5 y6 y7
    rintro σ H3 ⟨y5, y6, y7, rfl, hs3, hA3⟩
    refine ⟨_, rfl, v, pgD g, rfl, dp_pg hA3, hSh.1, hSh.2, hSh.3, hSh.4, _, rfl, rfl, _, rfl, ?_⟩
    rw [decide_eq_true rfl]
    exact ⟨_, _, _, _, _, _, rfl, hs3⟩
  · rintro σ H1 ⟨_, _, _, _, _, _, rfl, _⟩
    exact q _
end
end Lim
set_option maxHeartbeats 8000000
namespace Lim
open PySem PySem.Spec PyProof.Rows L2
theorem all_mk {P : Program} {w : World} {K : PySem.W.Frag} {h : Heap} {mg : Str → Option Value} {fa f1 f2 f3 f4 f5 f6 f7 f8 f9 f10 f11 f12 : Addr} {od1 an1 od2 an2 od3 an3 od4 an4 od5 an5 od6 an6 od7 an7 od8 an8 od9 an9 od10 an10 od11 an11 od12 an12 : Option Addr} {sl1 sl2 sl3 sl4 sl5 sl6 sl7 sl8 sl9 sl10 sl11 sl12 : Array (Option Value)} {oc1 kV1 dc1 pm1 cd1 ct1 oc2 kV2 dc2 pm2 cd2 ct2 oc3 kV3 dc3 pm3 cd3 ct3 oc4 kV4 dc4 pm4 cd4 ct4 oc5 kV5 dc5 pm5 cd5 ct5 oc6 kV6 dc6 pm6 cd6 ct6 oc7 kV7 dc7 pm7 cd7 ct7 oc8 kV8 dc8 pm8 cd8 ct8 oc9 kV9 dc9 pm9 cd9 ct9 oc10 kV10 dc10 pm10 cd10 ct10 oc11 kV11 dc11 pm11 cd11 ct11 oc12 kV12 dc12 pm12 cd12 ct12 : Value} {cL zc1 zc2 zc3 zc4 zc5 zc6 zc7 zc8 zc9 zc10 zc11 zc12 zc13 zc14 zc15 : Addr} {nm1 qq1 : Str} {N1 : Addr} {bs1 : List Value} {sn1 : List Str} {sb1 : List Value} {ab1 : Bool} {co1 : Option Bool} {dd1 : Option Addr} {uu1 uv1 uw1 uy1 uz1 : Option Value} {nm2 qq2 : Str} {N2 : Addr} {bs2 : List Value} {sn2 : List Str} {sb2 : List Value} {ab2 : Bool} {co2 : Option Bool} {dd2 : Option Addr} {uu2 uv2 uw2 uy2 uz2 : Option Value} {nm3 qq3 : Str} {N3 : Addr} {bs3 : List Value} {sn3 : List Str} {sb3 : List Value} {ab3 : Bool} {co3 : Option Bool} {dd3 : Option Addr} {uu3 uv3 uw3 uy3 uz3 : Option Value} {nm4 qq4 : Str} {N4 : Addr} {bs4 : List Value} {sn4 : List Str} {sb4 : List Value} {ab4 : Bool} {co4 : Option Bool} {dd4 : Option Addr} {uu4 uv4 uw4 uy4 uz4 : Option Value} {nm5 qq5 : Str} {N5 : Addr} {bs5 : List Value} {sn5 : List Str} {sb5 : List Value} {ab5 : Bool} {co5 : Option Bool} {dd5 : Option Addr} {uu5 uv5 uw5 uy5 uz5 : Option Value} {nm6 qq6 : Str} {N6 : Addr} {bs6 : List Value} {sn6 : List Str} {sb6 : List Value} {ab6 : Bool} {co6 : Option Bool} {dd6 : Option Addr} {uu6 uv6 uw6 uy6 uz6 : Option Value} {nm7 qq7 : Str} {N7 : Addr} {bs7 : List Value} {sn7 : List Str} {sb7 : List Value} {ab7 : Bool} {co7 : Option Bool} {dd7 : Option Addr} {uu7 uv7 uw7 uy7 uz7 : Option Value} {nm8 qq8 : Str} {N8 : Addr} {bs8 : List Value} {sn8 : List Str} {sb8 : List Value} {ab8 : Bool} {co8 : Option Bool} {dd8 : Option Addr} {uu8 uv8 uw8 uy8 uz8 : Option Value} {nm9 qq9 : Str} {N9 : Addr} {bs9 : List Value} {sn9 : List Str} {sb9 : List Value} {ab9 : Bool} {co9 : Option Bool} {dd9 : Option Addr} {uu9 uv9 uw9 uy9 uz9 : Option Value} {nm10 qq10 : Str} {N10 : Addr} {bs10 : List Value} {sn10 : List Str} {sb10 : List Value} {ab10 : Bool} {co10 : Option Bool} {dd10 : Option Addr} {uu10 uv10 uw10 uy10 uz10 : Option Value} {nm11 qq11 : Str} {N11 : Addr} {bs11 : List Value} {sn11 : List Str} {sb11 : List Value} {ab11 : Bool} {co11 : Option Bool} {dd11 : Option Addr} {uu11 uv11 uw11 uy11 uz11 : Option Value} {nm12 qq12 : Str} {N12 : Addr} {bs12 : List Value} {sn12 : List Str} {sb12 : List Value} {ab12 : Bool} {co12 : Option Bool} {dd12 : Option Addr} {uu12 uv12 uw12 uy12 uz12 : Option Value} {nm13 qq13 : Str} {N13 : Addr} {bs13 : List Value} {sn13 : List Str} {sb13 : List Value} {ab13 : Bool} {co13 : Option Bool} {dd13 : Option Addr} {uu13 uv13 uw13 uy13 uz13 : Option Value} {nm14 qq14 : Str} {N14 : Addr} {bs14 : List Value} {sn14 : List Str} {sb14 : List Value} {ab14 : Bool} {co14 : Option Bool} {dd14 : Option Addr} {uu14 uv14 uw14 uy14 uz14 : Option Value} {nm15 qq15 : Str} {N15 : Addr} {bs15 : List Value} {sn15 : List Str} {sb15 : List Value} {ab15 : Bool} {co15 : Option Bool} {dd15 : Option Addr} {uu15 uv15 uw15 uy15 uz15 : Option Value} {fi5 : Addr} {io5 ia5 : Option Addr} {is5 : Array (Option Value)} {ic5 iV5 id5 ip5 ie5 it5 : Value} (X : K.In h) (G : h.Ns mainGlobals mg) (hfa : mg "law" = some (.ref fa))
    (a1 : PySem.W.nsIn K mainGlobals "names_of" = some (some (.ref f1))) (l1 : K.lookup f1 = some ⟨oc1, od1, .func (PySem.W.fnOf "names_of" "names_of" (defArgs sNam) (defBody sNam) (defScope sNam) .none kV1 dc1 pm1 an1 cd1 ct1), sl1⟩) (c1 : PySem.W.codeIn K cd1 "names_of" = true) (k1 : PySem.W.keepIn K (.ref f1) = true)
    (a2 : PySem.W.nsIn K mainGlobals "with_rule" = some (some (.ref f2))) (l2 : K.lookup f2 = some ⟨oc2, od2, .func (PySem.W.fnOf "with_rule" "with_rule" (defArgs sWru) (defBody sWru) (defScope sWru) .none kV2 dc2 pm2 an2 cd2 ct2), sl2⟩) (c2 : PySem.W.codeIn K cd2 "with_rule" = true) (k2 : PySem.W.keepIn K (.ref f2) = true)
    (a3 : PySem.W.nsIn K mainGlobals "_law_mixed" = some (some (.ref f3))) (l3 : K.lookup f3 = some ⟨oc3, od3, .func (PySem.W.fnOf "_law_mixed" "_law_mixed" (defArgs sMix) (defBody sMix) (defScope sMix) .none kV3 dc3 pm3 an3 cd3 ct3), sl3⟩) (c3 : PySem.W.codeIn K cd3 "_law_mixed" = true) (k3 : PySem.W.keepIn K (.ref f3) = true)
    (a4 : PySem.W.nsIn K mainGlobals "_law_source" = some (some (.ref f4))) (l4 : K.lookup f4 = some ⟨oc4, od4, .func (PySem.W.fnOf "_law_source" "_law_source" (defArgs sSou) (defBody sSou) (defScope sSou) .none kV4 dc4 pm4 an4 cd4 ct4), sl4⟩) (c4 : PySem.W.codeIn K cd4 "_law_source" = true) (k4 : PySem.W.keepIn K (.ref f4) = true)
    (a5 : PySem.W.nsIn K mainGlobals "_law_pick" = some (some (.ref f5))) (l5 : K.lookup f5 = some ⟨oc5, od5, .func (PySem.W.fnOf "_law_pick" "_law_pick" (defArgs sPic) (defBody sPic) (defScope sPic) .none kV5 dc5 pm5 an5 cd5 ct5), sl5⟩) (c5 : PySem.W.codeIn K cd5 "_law_pick" = true) (k5 : PySem.W.keepIn K (.ref f5) = true)
    (a6 : PySem.W.nsIn K mainGlobals "_law_choose" = some (some (.ref f6))) (l6 : K.lookup f6 = some ⟨oc6, od6, .func (PySem.W.fnOf "_law_choose" "_law_choose" (defArgs sCho) (defBody sCho) (defScope sCho) .none kV6 dc6 pm6 an6 cd6 ct6), sl6⟩) (c6 : PySem.W.codeIn K cd6 "_law_choose" = true) (k6 : PySem.W.keepIn K (.ref f6) = true)
    (a7 : PySem.W.nsIn K mainGlobals "_law_equal" = some (some (.ref f7))) (l7 : K.lookup f7 = some ⟨oc7, od7, .func (PySem.W.fnOf "_law_equal" "_law_equal" (defArgs sIde) (defBody sIde) (defScope sIde) .none kV7 dc7 pm7 an7 cd7 ct7), sl7⟩) (c7 : PySem.W.codeIn K cd7 "_law_equal" = true) (k7 : PySem.W.keepIn K (.ref f7) = true)
    (a8 : PySem.W.nsIn K mainGlobals "_law_expression" = some (some (.ref f8))) (l8 : K.lookup f8 = some ⟨oc8, od8, .func (PySem.W.fnOf "_law_expression" "_law_expression" (defArgs sXpr) (defBody sXpr) (defScope sXpr) .none kV8 dc8 pm8 an8 cd8 ct8), sl8⟩) (c8 : PySem.W.codeIn K cd8 "_law_expression" = true) (k8 : PySem.W.keepIn K (.ref f8) = true)
    (a9 : PySem.W.nsIn K mainGlobals "_law_small_program" = some (some (.ref f9))) (l9 : K.lookup f9 = some ⟨oc9, od9, .func (PySem.W.fnOf "_law_small_program" "_law_small_program" (defArgs sSmp) (defBody sSmp) (defScope sSmp) .none kV9 dc9 pm9 an9 cd9 ct9), sl9⟩) (c9 : PySem.W.codeIn K cd9 "_law_small_program" = true) (k9 : PySem.W.keepIn K (.ref f9) = true)
    (a10 : PySem.W.nsIn K mainGlobals "_law_outcome" = some (some (.ref f10))) (l10 : K.lookup f10 = some ⟨oc10, od10, .func (PySem.W.fnOf "_law_outcome" "_law_outcome" (defArgs sOut) (defBody sOut) (defScope sOut) .none kV10 dc10 pm10 an10 cd10 ct10), sl10⟩) (c10 : PySem.W.codeIn K cd10 "_law_outcome" = true) (k10 : PySem.W.keepIn K (.ref f10) = true)
    (a11 : PySem.W.nsIn K mainGlobals "_law_expected" = some (some (.ref f11))) (l11 : K.lookup f11 = some ⟨oc11, od11, .func (PySem.W.fnOf "_law_expected" "_law_expected" (defArgs sExp) (defBody sExp) (defScope sExp) .none kV11 dc11 pm11 an11 cd11 ct11), sl11⟩) (c11 : PySem.W.codeIn K cd11 "_law_expected" = true) (k11 : PySem.W.keepIn K (.ref f11) = true)
    (a12 : PySem.W.nsIn K mainGlobals "law" = some (some (.ref f12))) (l12 : K.lookup f12 = some ⟨oc12, od12, .func (PySem.W.fnOf "law" "law" (defArgs sLaw) (defBody sLaw) (defScope sLaw) .none kV12 dc12 pm12 an12 cd12 ct12), sl12⟩) (c12 : PySem.W.codeIn K cd12 "law" = true) (k12 : PySem.W.keepIn K (.ref f12) = true)
    (z0 : PySem.W.nsIn K mainGlobals "range" = some none)
    (z1 : PySem.W.nsIn K mainGlobals "len" = some none)
    (z2 : PySem.W.nsIn K mainGlobals "enumerate" = some none)
    (z3 : PySem.W.nsIn K mainGlobals "abs" = some none)
    (z4 : PySem.W.nsIn K mainGlobals "repr" = some none)
    (z5 : PySem.W.nsIn K mainGlobals "isinstance" = some none)
    (z6 : PySem.W.nsIn K mainGlobals "tuple" = some none)
    (z7 : PySem.W.nsIn K mainGlobals "list" = some none)
    (lG : PySem.W.nsIn K mainGlobals "LimitRunError" = some (some (.ref cL)))
    (lT : PySem.W.typeIn K (.ref cL) = some (.type "type"))
    (lD : PySem.W.hasDictIn K cL = true)
    (lB : PySem.W.subIn K (.ref cL) (.type "BaseException") = some true)
    (lS : PySem.W.specialIn K (.ref cL) "__getattribute__" = some (some (.builtin "type.__getattribute__")))
    (lR : PySem.W.readsIn K cL (.type "type") = true)
    (lF : PySem.W.findCls K (.ref cL) (.type "type") "__init__" = some (.val (.builtin "ValueError.__init__")))
    (wn : PySem.W.specialIn K (.builtin "object.__class__") "__get__" = some (some (.builtin "getset_descriptor.__get__")))
    (wt : PySem.W.takesIn K (.builtin "object.__class__") = some true)
    (aC1 : PySem.W.nsIn K mainGlobals "SyntaxProblem" = some (some (.ref zc1)))
    (x1 : K.lookup zc1 = some (excClassObj nm1 qq1 zc1 N1 bs1 [.ref cL, .type "ValueError", .type "Exception", .type "BaseException", .type "object"] true sn1 sb1 ab1 co1 dd1 uu1 uv1 uw1 uy1 uz1 "ValueError.__new__"))
    (ga1 : PySem.W.findIn K (.ref zc1) "__getattribute__" = some (some (.builtin "BaseException.__getattribute__")))
    (gg1 : PySem.W.findIn K (.ref zc1) "__getattr__" = some none)
    (gc1 : PySem.W.findIn K (.ref zc1) "__class__" = some (some (.builtin "object.__class__")))
    (aC2 : PySem.W.nsIn K mainGlobals "BadClaim" = some (some (.ref zc2)))
    (x2 : K.lookup zc2 = some (excClassObj nm2 qq2 zc2 N2 bs2 [.ref cL, .type "ValueError", .type "Exception", .type "BaseException", .type "object"] true sn2 sb2 ab2 co2 dd2 uu2 uv2 uw2 uy2 uz2 "ValueError.__new__"))
    (ga2 : PySem.W.findIn K (.ref zc2) "__getattribute__" = some (some (.builtin "BaseException.__getattribute__")))
    (gg2 : PySem.W.findIn K (.ref zc2) "__getattr__" = some none)
    (gc2 : PySem.W.findIn K (.ref zc2) "__class__" = some (some (.builtin "object.__class__")))
    (aC3 : PySem.W.nsIn K mainGlobals "BadPath" = some (some (.ref zc3)))
    (x3 : K.lookup zc3 = some (excClassObj nm3 qq3 zc3 N3 bs3 [.ref cL, .type "ValueError", .type "Exception", .type "BaseException", .type "object"] true sn3 sb3 ab3 co3 dd3 uu3 uv3 uw3 uy3 uz3 "ValueError.__new__"))
    (ga3 : PySem.W.findIn K (.ref zc3) "__getattribute__" = some (some (.builtin "BaseException.__getattribute__")))
    (gg3 : PySem.W.findIn K (.ref zc3) "__getattr__" = some none)
    (gc3 : PySem.W.findIn K (.ref zc3) "__class__" = some (some (.builtin "object.__class__")))
    (aC4 : PySem.W.nsIn K mainGlobals "TooLong" = some (some (.ref zc4)))
    (x4 : K.lookup zc4 = some (excClassObj nm4 qq4 zc4 N4 bs4 [.ref cL, .type "ValueError", .type "Exception", .type "BaseException", .type "object"] true sn4 sb4 ab4 co4 dd4 uu4 uv4 uw4 uy4 uz4 "ValueError.__new__"))
    (ga4 : PySem.W.findIn K (.ref zc4) "__getattribute__" = some (some (.builtin "BaseException.__getattribute__")))
    (gg4 : PySem.W.findIn K (.ref zc4) "__getattr__" = some none)
    (gc4 : PySem.W.findIn K (.ref zc4) "__class__" = some (some (.builtin "object.__class__")))
    (aC5 : PySem.W.nsIn K mainGlobals "NoVariable" = some (some (.ref zc5)))
    (x5 : K.lookup zc5 = some (excClassObj nm5 qq5 zc5 N5 bs5 [.ref cL, .type "ValueError", .type "Exception", .type "BaseException", .type "object"] true sn5 sb5 ab5 co5 dd5 uu5 uv5 uw5 uy5 uz5 "ValueError.__new__"))
    (ga5 : PySem.W.findIn K (.ref zc5) "__getattribute__" = some (some (.builtin "BaseException.__getattribute__")))
    (gg5 : PySem.W.findIn K (.ref zc5) "__getattr__" = some none)
    (gc5 : PySem.W.findIn K (.ref zc5) "__class__" = some (some (.builtin "object.__class__")))
    (kC5 : PySem.W.keepIn K (.ref zc5) = true)
    (aC6 : PySem.W.nsIn K mainGlobals "InvalidOrdinal" = some (some (.ref zc6)))
    (x6 : K.lookup zc6 = some (excClassObj nm6 qq6 zc6 N6 bs6 [.ref cL, .type "ValueError", .type "Exception", .type "BaseException", .type "object"] true sn6 sb6 ab6 co6 dd6 uu6 uv6 uw6 uy6 uz6 "ValueError.__new__"))
    (ga6 : PySem.W.findIn K (.ref zc6) "__getattribute__" = some (some (.builtin "BaseException.__getattribute__")))
    (gg6 : PySem.W.findIn K (.ref zc6) "__getattr__" = some none)
    (gc6 : PySem.W.findIn K (.ref zc6) "__class__" = some (some (.builtin "object.__class__")))
    (aC7 : PySem.W.nsIn K mainGlobals "NotLater" = some (some (.ref zc7)))
    (x7 : K.lookup zc7 = some (excClassObj nm7 qq7 zc7 N7 bs7 [.ref cL, .type "ValueError", .type "Exception", .type "BaseException", .type "object"] true sn7 sb7 ab7 co7 dd7 uu7 uv7 uw7 uy7 uz7 "ValueError.__new__"))
    (ga7 : PySem.W.findIn K (.ref zc7) "__getattribute__" = some (some (.builtin "BaseException.__getattribute__")))
    (gg7 : PySem.W.findIn K (.ref zc7) "__getattr__" = some none)
    (gc7 : PySem.W.findIn K (.ref zc7) "__class__" = some (some (.builtin "object.__class__")))
    (aC8 : PySem.W.nsIn K mainGlobals "ZeroDivisor" = some (some (.ref zc8)))
    (x8 : K.lookup zc8 = some (excClassObj nm8 qq8 zc8 N8 bs8 [.ref cL, .type "ValueError", .type "Exception", .type "BaseException", .type "object"] true sn8 sb8 ab8 co8 dd8 uu8 uv8 uw8 uy8 uz8 "ValueError.__new__"))
    (ga8 : PySem.W.findIn K (.ref zc8) "__getattribute__" = some (some (.builtin "BaseException.__getattribute__")))
    (gg8 : PySem.W.findIn K (.ref zc8) "__getattr__" = some none)
    (gc8 : PySem.W.findIn K (.ref zc8) "__class__" = some (some (.builtin "object.__class__")))
    (aC9 : PySem.W.nsIn K mainGlobals "NoEvent" = some (some (.ref zc9)))
    (x9 : K.lookup zc9 = some (excClassObj nm9 qq9 zc9 N9 bs9 [.ref cL, .type "ValueError", .type "Exception", .type "BaseException", .type "object"] true sn9 sb9 ab9 co9 dd9 uu9 uv9 uw9 uy9 uz9 "ValueError.__new__"))
    (ga9 : PySem.W.findIn K (.ref zc9) "__getattribute__" = some (some (.builtin "BaseException.__getattribute__")))
    (gg9 : PySem.W.findIn K (.ref zc9) "__getattr__" = some none)
    (gc9 : PySem.W.findIn K (.ref zc9) "__class__" = some (some (.builtin "object.__class__")))
    (aC10 : PySem.W.nsIn K mainGlobals "OutOfRange" = some (some (.ref zc10)))
    (x10 : K.lookup zc10 = some (excClassObj nm10 qq10 zc10 N10 bs10 [.ref cL, .type "ValueError", .type "Exception", .type "BaseException", .type "object"] true sn10 sb10 ab10 co10 dd10 uu10 uv10 uw10 uy10 uz10 "ValueError.__new__"))
    (ga10 : PySem.W.findIn K (.ref zc10) "__getattribute__" = some (some (.builtin "BaseException.__getattribute__")))
    (gg10 : PySem.W.findIn K (.ref zc10) "__getattr__" = some none)
    (gc10 : PySem.W.findIn K (.ref zc10) "__class__" = some (some (.builtin "object.__class__")))
    (kC10 : PySem.W.keepIn K (.ref zc10) = true)
    (aC11 : PySem.W.nsIn K mainGlobals "Incompatible" = some (some (.ref zc11)))
    (x11 : K.lookup zc11 = some (excClassObj nm11 qq11 zc11 N11 bs11 [.ref cL, .type "ValueError", .type "Exception", .type "BaseException", .type "object"] true sn11 sb11 ab11 co11 dd11 uu11 uv11 uw11 uy11 uz11 "ValueError.__new__"))
    (ga11 : PySem.W.findIn K (.ref zc11) "__getattribute__" = some (some (.builtin "BaseException.__getattribute__")))
    (gg11 : PySem.W.findIn K (.ref zc11) "__getattr__" = some none)
    (gc11 : PySem.W.findIn K (.ref zc11) "__class__" = some (some (.builtin "object.__class__")))
    (aC12 : PySem.W.nsIn K mainGlobals "NotReached" = some (some (.ref zc12)))
    (x12 : K.lookup zc12 = some (excClassObj nm12 qq12 zc12 N12 bs12 [.ref cL, .type "ValueError", .type "Exception", .type "BaseException", .type "object"] true sn12 sb12 ab12 co12 dd12 uu12 uv12 uw12 uy12 uz12 "ValueError.__new__"))
    (ga12 : PySem.W.findIn K (.ref zc12) "__getattribute__" = some (some (.builtin "BaseException.__getattribute__")))
    (gg12 : PySem.W.findIn K (.ref zc12) "__getattr__" = some none)
    (gc12 : PySem.W.findIn K (.ref zc12) "__class__" = some (some (.builtin "object.__class__")))
    (aC13 : PySem.W.nsIn K mainGlobals "NoBreakpoint" = some (some (.ref zc13)))
    (x13 : K.lookup zc13 = some (excClassObj nm13 qq13 zc13 N13 bs13 [.ref cL, .type "ValueError", .type "Exception", .type "BaseException", .type "object"] true sn13 sb13 ab13 co13 dd13 uu13 uv13 uw13 uy13 uz13 "ValueError.__new__"))
    (ga13 : PySem.W.findIn K (.ref zc13) "__getattribute__" = some (some (.builtin "BaseException.__getattribute__")))
    (gg13 : PySem.W.findIn K (.ref zc13) "__getattr__" = some none)
    (gc13 : PySem.W.findIn K (.ref zc13) "__class__" = some (some (.builtin "object.__class__")))
    (aC14 : PySem.W.nsIn K mainGlobals "NoMark" = some (some (.ref zc14)))
    (x14 : K.lookup zc14 = some (excClassObj nm14 qq14 zc14 N14 bs14 [.ref cL, .type "ValueError", .type "Exception", .type "BaseException", .type "object"] true sn14 sb14 ab14 co14 dd14 uu14 uv14 uw14 uy14 uz14 "ValueError.__new__"))
    (ga14 : PySem.W.findIn K (.ref zc14) "__getattribute__" = some (some (.builtin "BaseException.__getattribute__")))
    (gg14 : PySem.W.findIn K (.ref zc14) "__getattr__" = some none)
    (gc14 : PySem.W.findIn K (.ref zc14) "__class__" = some (some (.builtin "object.__class__")))
    (aC15 : PySem.W.nsIn K mainGlobals "InvalidCommand" = some (some (.ref zc15)))
    (x15 : K.lookup zc15 = some (excClassObj nm15 qq15 zc15 N15 bs15 [.ref cL, .type "ValueError", .type "Exception", .type "BaseException", .type "object"] true sn15 sb15 ab15 co15 dd15 uu15 uv15 uw15 uy15 uz15 "ValueError.__new__"))
    (ga15 : PySem.W.findIn K (.ref zc15) "__getattribute__" = some (some (.builtin "BaseException.__getattribute__")))
    (gg15 : PySem.W.findIn K (.ref zc15) "__getattr__" = some none)
    (gc15 : PySem.W.findIn K (.ref zc15) "__class__" = some (some (.builtin "object.__class__")))
    (e10 : PySem.W.excIn K zc10 [.type "ValueError", .type "Exception", .type "BaseException", .type "object"] "ValueError.__new__" = true)
    (sa5 : PySem.W.findIn K (.ref zc5) "__setattr__" = some (some (.builtin "object.__setattr__")))
    (iI5 : PySem.W.findIn K (.ref zc5) "__init__" = some (some (.ref fi5)))
    (iT5 : PySem.W.typeIn K (.ref fi5) = some (.type "function"))
    (iL5 : K.lookup fi5 = some ⟨ic5, io5, .func (PySem.W.fnOf "__init__" "NoVariable.__init__" (defArgs sNV) (defBody sNV) (defScope sNV) .none iV5 id5 ip5 ia5 ie5 it5), is5⟩)
    (iC5 : PySem.W.codeIn K ie5 "NoVariable.__init__" = true)
    (iK5 : PySem.W.keepIn K (.ref fi5) = true)
    (nname5 : PySem.W.findIn K (.ref zc5) "name" = some none)
    (nd : (cL :: [zc1, zc2, zc3, zc4, zc5, zc6, zc7, zc8, zc9, zc10, zc11, zc12, zc13, zc14, zc15]).Nodup) :
    ∃ fd : FuncData, (∀ (s : Shared) (u : Value), BindsTo s fd ⟨[u], []⟩ [("script", u)]) ∧ ∀ base : Heap, K.In base → base.Ns mainGlobals mg → FnG P w K mg base 9 fa fd ["script"] (spLaw K) := by
  have e := hfa.symm.trans (PySem.W.mg_of X G a12)
  cases e
  have F1 := fun_mk (st := sNam) l1 c1 k1
  have b1 := F1.binds (ps := ["program"]) fun _ _ _ _ _ _ us hl => match us, hl with | [_], _ => rfl
  have g1 := PySem.W.mg_of X G a1
  have F2 := fun_mk (st := sWru) l2 c2 k2
  have b2 := F2.binds (ps := ["program", "name", "rule"]) fun _ _ _ _ _ _ us hl => match us, hl with | [_, _, _], _ => rfl
  have g2 := PySem.W.mg_of X G a2
  have F3 := fun_mk (st := sMix) l3 c3 k3
  have b3 := F3.binds (ps := ["number", "place"]) fun _ _ _ _ _ _ us hl => match us, hl with | [_, _], _ => rfl
  have g3 := PySem.W.mg_of X G a3
  have F4 := fun_mk (st := sSou) l4 c4 k4
  have b4 := F4.binds (ps := ["script"]) fun _ _ _ _ _ _ us hl => match us, hl with | [_], _ => rfl
  have g4 := PySem.W.mg_of X G a4
  have F5 := fun_mk (st := sPic) l5 c5 k5
  have b5 := F5.binds (ps := ["source", "many"]) fun _ _ _ _ _ _ us hl => match us, hl with | [_, _], _ => rfl
  have g5 := PySem.W.mg_of X G a5
  have F6 := fun_mk (st := sCho) l6 c6 k6
  have b6 := F6.binds (ps := ["source", "options"]) fun _ _ _ _ _ _ us hl => match us, hl with | [_, _], _ => rfl
  have g6 := PySem.W.mg_of X G a6
  have F7 := fun_mk (st := sIde) l7 c7 k7
  have b7 := F7.binds (ps := ["found", "expected"]) fun _ _ _ _ _ _ us hl => match us, hl with | [_, _], _ => rfl
  have g7 := PySem.W.mg_of X G a7
  have F8 := fun_mk (st := sXpr) l8 c8 k8
  have b8 := F8.binds (ps := ["source", "names", "depth"]) fun _ _ _ _ _ _ us hl => match us, hl with | [_, _, _], _ => rfl
  have g8 := PySem.W.mg_of X G a8
  have F9 := fun_mk (st := sSmp) l9 c9 k9
  have b9 := F9.binds (ps := ["source"]) fun _ _ _ _ _ _ us hl => match us, hl with | [_], _ => rfl
  have g9 := PySem.W.mg_of X G a9
  have F10 := fun_mk (st := sOut) l10 c10 k10
  have b10 := F10.binds (ps := ["program", "name", "rule"]) fun _ _ _ _ _ _ us hl => match us, hl with | [_, _, _], _ => rfl
  have g10 := PySem.W.mg_of X G a10
  have F11 := fun_mk (st := sExp) l11 c11 k11
  have b11 := F11.binds (ps := ["program", "name", "rule"]) fun _ _ _ _ _ _ us hl => match us, hl with | [_, _, _], _ => rfl
  have g11 := PySem.W.mg_of X G a11
  have F12 := fun_mk (st := sLaw) l12 c12 k12
  have b12 := F12.binds (ps := ["script"]) fun _ _ _ _ _ _ us hl => match us, hl with | [_], _ => rfl
  have g12 := PySem.W.mg_of X G a12
  have m_range := PySem.W.mg_none_of X G z0
  have m_len := PySem.W.mg_none_of X G z1
  have m_enumerate := PySem.W.mg_none_of X G z2
  have m_abs := PySem.W.mg_none_of X G z3
  have m_repr := PySem.W.mg_none_of X G z4
  have m_isinstance := PySem.W.mg_none_of X G z5
  have m_tuple := PySem.W.mg_none_of X G z6
  have m_list := PySem.W.mg_none_of X G z7
  refine ⟨PySem.W.fnOf "law" "law" (defArgs sLaw) (defBody sLaw) (defScope sLaw) .none kV12 dc12 pm12 an12 cd12 ct12, fun s u => .of_eq rfl, fun base _ _ => ?_⟩
  have gL := PySem.W.mg_of X G lG
  have BL : BaseC K cL := ⟨lS, lR, lF⟩
  have h1 := PySem.W.mg_of X G aC1
  have Q1 : ClsF K cL zc1 := ⟨⟨_, _, _, _, _, _, _, _, _, _, _, _, _, _, x1⟩, ga1, gg1, gc1⟩
  have h2 := PySem.W.mg_of X G aC2
  have Q2 : ClsF K cL zc2 := ⟨⟨_, _, _, _, _, _, _, _, _, _, _, _, _, _, x2⟩, ga2, gg2, gc2⟩
  have h3 := PySem.W.mg_of X G aC3
  have Q3 : ClsF K cL zc3 := ⟨⟨_, _, _, _, _, _, _, _, _, _, _, _, _, _, x3⟩, ga3, gg3, gc3⟩
  have h4 := PySem.W.mg_of X G aC4
  have Q4 : ClsF K cL zc4 := ⟨⟨_, _, _, _, _, _, _, _, _, _, _, _, _, _, x4⟩, ga4, gg4, gc4⟩
  have h5 := PySem.W.mg_of X G aC5
  have Q5 : ClsF K cL zc5 := ⟨⟨_, _, _, _, _, _, _, _, _, _, _, _, _, _, x5⟩, ga5, gg5, gc5⟩
  have h6 := PySem.W.mg_of X G aC6
  have Q6 : ClsF K cL zc6 := ⟨⟨_, _, _, _, _, _, _, _, _, _, _, _, _, _, x6⟩, ga6, gg6, gc6⟩
  have h7 := PySem.W.mg_of X G aC7
  have Q7 : ClsF K cL zc7 := ⟨⟨_, _, _, _, _, _, _, _, _, _, _, _, _, _, x7⟩, ga7, gg7, gc7⟩
  have h8 := PySem.W.mg_of X G aC8
  have Q8 : ClsF K cL zc8 := ⟨⟨_, _, _, _, _, _, _, _, _, _, _, _, _, _, x8⟩, ga8, gg8, gc8⟩
  have h9 := PySem.W.mg_of X G aC9
  have Q9 : ClsF K cL zc9 := ⟨⟨_, _, _, _, _, _, _, _, _, _, _, _, _, _, x9⟩, ga9, gg9, gc9⟩
  have h10 := PySem.W.mg_of X G aC10
  have Q10 : ClsF K cL zc10 := ⟨⟨_, _, _, _, _, _, _, _, _, _, _, _, _, _, x10⟩, ga10, gg10, gc10⟩
  have h11 := PySem.W.mg_of X G aC11
  have Q11 : ClsF K cL zc11 := ⟨⟨_, _, _, _, _, _, _, _, _, _, _, _, _, _, x11⟩, ga11, gg11, gc11⟩
  have h12 := PySem.W.mg_of X G aC12
  have Q12 : ClsF K cL zc12 := ⟨⟨_, _, _, _, _, _, _, _, _, _, _, _, _, _, x12⟩, ga12, gg12, gc12⟩
  have h13 := PySem.W.mg_of X G aC13
  have Q13 : ClsF K cL zc13 := ⟨⟨_, _, _, _, _, _, _, _, _, _, _, _, _, _, x13⟩, ga13, gg13, gc13⟩
  have h14 := PySem.W.mg_of X G aC14
  have Q14 : ClsF K cL zc14 := ⟨⟨_, _, _, _, _, _, _, _, _, _, _, _, _, _, x14⟩, ga14, gg14, gc14⟩
  have h15 := PySem.W.mg_of X G aC15
  have Q15 : ClsF K cL zc15 := ⟨⟨_, _, _, _, _, _, _, _, _, _, _, _, _, _, x15⟩, ga15, gg15, gc15⟩
  have J5 := fun_mk (st := sNV) iL5 iC5 iK5
  have jb5 := J5.binds (ps := ["self", "name"]) fun _ _ _ _ _ _ us hl => match us, hl with | [_, _], _ => rfl
  have O5 : OexC K zc5 := Q5.oex sa5 kC5
  have AQ : ∀ D ∈ [zc1, zc2, zc3, zc4, zc5, zc6, zc7, zc8, zc9, zc10, zc11, zc12, zc13, zc14, zc15], ClsF K cL D := by
    intro D hD
    simp at hD
    rcases hD with rfl | rfl | rfl | rfl | rfl | rfl | rfl | rfl | rfl | rfl | rfl | rfl | rfl | rfl | rfl
    · exact Q1
    · exact Q2
    · exact Q3
    · exact Q4
    · exact Q5
    · exact Q6
    · exact Q7
    · exact Q8
    · exact Q9
    · exact Q10
    · exact Q11
    · exact Q12
    · exact Q13
    · exact Q14
    · exact Q15
  have KV := kv_of AQ lT lD nd wn wt
  have sL : PySem.W.subIn K (.ref cL) (.type "BaseException") = some true := lB
  have exN : PySem.W.exmOne K (.ref zc5) (.ref cL) = some true := PySem.W.exm_ref sL lD lT ((Q5.sub (.ref cL)).trans (by simp))
  have exO : PySem.W.exmOne K (.ref zc10) (.ref cL) = some true := PySem.W.exm_ref sL lD lT ((Q10.sub (.ref cL)).trans (by simp))
  have TR : Err K mg "OutOfRange" zc10 := ⟨h10, e10, kC10, (Q10.sub _).trans (by simp), Q10.ty⟩
  have GI : FnOk P w K mg base CX0 1 fi5 _ ["self", "name"] (spErr K zc5 fsNV 1) := ok_NV (k := 0) J5 gL BL O5 nname5
  have HN : FnOk P w K mg base CX0 1 f1 _ ["program"] (spNam K) := ok_nam (k := 0) F1
  have HW : FnOk P w K mg base (L2.CX P w) 3 f2 _ ["program", "name", "rule"] (spWru K zc5 zc10) := ok_wru (cL := cL) (k := 0) F2 TR m_len h5 O5 iI5 iT5 GI jb5 HN k1 b1 g1
  have GP : FnOk P w K mg base CX0 2 f5 _ ["source", "many"] spPic := ok_pic (k := 0) F5 m_len F3 b3 g3 m_range
  have GC : FnOk P w K mg base CX0 3 f6 _ ["source", "options"] (spCho K) := ok_cho (k := 0) F6 m_len GP k5 b5 g5
  have GX : FnOk P w K mg base CX0 7 f8 _ ["source", "names", "depth"] (spXpr K 4) := ok_xpr (k := 2) F8 g8 k8 b8 m_range (GP.mono (by decide)) k5 b5 g5 GC k6 b6 g6 4
  have GM : FnOk P w K mg base CX0 8 f9 _ ["source"] (spSmp K) := ok_smp (k := 7) F9 m_tuple (GP.mono (by decide)) k5 b5 g5 (GC.mono (by decide)) k6 b6 g6 GX k8 b8 g8
  have GO : FnOk P w K mg base CX0 4 f10 _ ["program", "name", "rule"] (spOut K) := ok_out (k := 3) F10 gL m_isinstance h1 h2 h3 h4 h5 h6 h7 h8 h9 h10 h11 h12 h13 h14 h15 KV exN exO Q5.xf nname5 HW k2 b2 g2
  have GE : FnOk P w K mg base CX0 1 f11 _ ["program", "name", "rule"] (spOut K) := ok_exp (k := 0) F11 m_len m_tuple
  refine ok_law (k := 8) F12 ?_
  exact {
    sou := ⟨f4, _, (ok_sou (k := 0) F4 m_enumerate m_abs).mono (by decide), g4, k4, b4⟩
    pic := ⟨f5, _, GP.mono (by decide), g5, k5, b5⟩
    smp := ⟨f9, _, GM, g9, k9, b9⟩
    outc := ⟨f10, _, GO.mono (by decide), g10, k10, b10⟩
    expe := ⟨f11, _, GE.mono (by decide), g11, k11, b11⟩
    ide := ⟨f7, _, (ok_ide (k := 0) F7 m_repr).up (by decide), g7, k7, b7⟩
    range := m_range
    repr := m_repr
    list := m_list }
end Lim
open PySem PySem.W PyProof.Rows
set_option maxHeartbeats 0 in
theorem PySem.Challenge.cw_limitrun_k58_limit_rules_exchanged_holds : PySem.Challenge.rw_limitrun_k58_limit_rules_exchanged.Holds := by
  w_on; o_law; k_head; (case hw => w_witness2)
  k_fill
  refine Lim.walk_g (l := PySem.Challenge.rw_limitrun_k58_limit_rules_exchanged) (n := 63) (k := 9) (x := "script") (sp := Lim.spLaw) rfl (by decide) rfl ⟨rfl, by decide, by decide⟩ (fun w h Y => PySem.W.kIn_of Y) ?F (fun _ _ a ns hl _ hS => ⟨a, ns, rfl, hS, hl, fun _ => rfl⟩)
  case F =>
    intro w mg fa h KX G hmg
    refine' Lim.all_mk KX G hmg ?a1 ?l1 ?c1 ?k1 ?a2 ?l2 ?c2 ?k2 ?a3 ?l3 ?c3 ?k3 ?a4 ?l4 ?c4 ?k4 ?a5 ?l5 ?c5 ?k5 ?a6 ?l6 ?c6 ?k6 ?a7 ?l7 ?c7 ?k7 ?a8 ?l8 ?c8 ?k8 ?a9 ?l9 ?c9 ?k9 ?a10 ?l10 ?c10 ?k10 ?a11 ?l11 ?c11 ?k11 ?a12 ?l12 ?c12 ?k12 ?z0 ?z1 ?z2 ?z3 ?z4 ?z5 ?z6 ?z7 ?lG ?lT ?lD ?lB ?lS ?lR ?lF ?wn ?wt ?aC1 ?x1 ?ga1 ?gg1 ?gc1 ?aC2 ?x2 ?ga2 ?gg2 ?gc2 ?aC3 ?x3 ?ga3 ?gg3 ?gc3 ?aC4 ?x4 ?ga4 ?gg4 ?gc4 ?aC5 ?x5 ?ga5 ?gg5 ?gc5 ?kC5 ?aC6 ?x6 ?ga6 ?gg6 ?gc6 ?aC7 ?x7 ?ga7 ?gg7 ?gc7 ?aC8 ?x8 ?ga8 ?gg8 ?gc8 ?aC9 ?x9 ?ga9 ?gg9 ?gc9 ?aC10 ?x10 ?ga10 ?gg10 ?gc10 ?kC10 ?aC11 ?x11 ?ga11 ?gg11 ?gc11 ?aC12 ?x12 ?ga12 ?gg12 ?gc12 ?aC13 ?x13 ?ga13 ?gg13 ?gc13 ?aC14 ?x14 ?ga14 ?gg14 ?gc14 ?aC15 ?x15 ?ga15 ?gg15 ?gc15 ?e10 ?sa5 ?iI5 ?iT5 ?iL5 ?iC5 ?iK5 ?nname5 ?nd
    (case a1 => k_is)
    (case l1 => k_is)
    (case c1 => k_is)
    (case k1 => k_is)
    (case a2 => k_is)
    (case l2 => k_is)
    (case c2 => k_is)
    (case k2 => k_is)
    (case a3 => k_is)
    (case l3 => k_is)
    (case c3 => k_is)
    (case k3 => k_is)
    (case a4 => k_is)
    (case l4 => k_is)
    (case c4 => k_is)
    (case k4 => k_is)
    (case a5 => k_is)
    (case l5 => k_is)
    (case c5 => k_is)
    (case k5 => k_is)
    (case a6 => k_is)
    (case l6 => k_is)
    (case c6 => k_is)
    (case k6 => k_is)
    (case a7 => k_is)
    (case l7 => k_is)
    (case c7 => k_is)
    (case k7 => k_is)
    (case a8 => k_is)
    (case l8 => k_is)
    (case c8 => k_is)
    (case k8 => k_is)
    (case a9 => k_is)
    (case l9 => k_is)
    (case c9 => k_is)
    (case k9 => k_is)
    (case a10 => k_is)
    (case l10 => k_is)
    (case c10 => k_is)
    (case k10 => k_is)
    (case a11 => k_is)
    (case l11 => k_is)
    (case c11 => k_is)
    (case k11 => k_is)
    (case a12 => k_is)
    (case l12 => k_is)
    (case c12 => k_is)
    (case k12 => k_is)
    (case z0 => k_is)
    (case z1 => k_is)
    (case z2 => k_is)
    (case z3 => k_is)
    (case z4 => k_is)
    (case z5 => k_is)
    (case z6 => k_is)
    (case z7 => k_is)
    (case lG => k_is)
    (case lT => k_is)
    (case lD => k_is)
    (case lB => k_is)
    (case lS => k_is)
    (case lR => k_is)
    (case lF => k_is)
    (case wn => k_is)
    (case wt => k_is)
    (case aC1 => k_is)
    (case x1 => k_is)
    (case ga1 => k_is)
    (case gg1 => k_is)
    (case gc1 => k_is)
    (case aC2 => k_is)
    (case x2 => k_is)
    (case ga2 => k_is)
    (case gg2 => k_is)
    (case gc2 => k_is)
    (case aC3 => k_is)
    (case x3 => k_is)
    (case ga3 => k_is)
    (case gg3 => k_is)
    (case gc3 => k_is)
    (case aC4 => k_is)
    (case x4 => k_is)
    (case ga4 => k_is)
    (case gg4 => k_is)
    (case gc4 => k_is)
    (case aC5 => k_is)
    (case x5 => k_is)
    (case ga5 => k_is)
    (case gg5 => k_is)
    (case gc5 => k_is)
    (case kC5 => k_is)
    (case aC6 => k_is)
    (case x6 => k_is)
    (case ga6 => k_is)
    (case gg6 => k_is)
    (case gc6 => k_is)
    (case aC7 => k_is)
    (case x7 => k_is)
    (case ga7 => k_is)
    (case gg7 => k_is)
    (case gc7 => k_is)
    (case aC8 => k_is)
    (case x8 => k_is)
    (case ga8 => k_is)
    (case gg8 => k_is)
    (case gc8 => k_is)
    (case aC9 => k_is)
    (case x9 => k_is)
    (case ga9 => k_is)
    (case gg9 => k_is)
    (case gc9 => k_is)
    (case aC10 => k_is)
    (case x10 => k_is)
    (case ga10 => k_is)
    (case gg10 => k_is)
    (case gc10 => k_is)
    (case kC10 => k_is)
    (case aC11 => k_is)
    (case x11 => k_is)
    (case ga11 => k_is)
    (case gg11 => k_is)
    (case gc11 => k_is)
    (case aC12 => k_is)
    (case x12 => k_is)
    (case ga12 => k_is)
    (case gg12 => k_is)
    (case gc12 => k_is)
    (case aC13 => k_is)
    (case x13 => k_is)
    (case ga13 => k_is)
    (case gg13 => k_is)
    (case gc13 => k_is)
    (case aC14 => k_is)
    (case x14 => k_is)
    (case ga14 => k_is)
    (case gg14 => k_is)
    (case gc14 => k_is)
    (case aC15 => k_is)
    (case x15 => k_is)
    (case ga15 => k_is)
    (case gg15 => k_is)
    (case gc15 => k_is)
    (case e10 => k_exc)
    (case sa5 => k_is)
    (case iI5 => k_is)
    (case iT5 => k_is)
    (case iL5 => k_is)
    (case iC5 => k_is)
    (case iK5 => k_is)
    (case nname5 => k_is)
    (case nd => decide)
#print axioms PySem.Challenge.cw_limitrun_k58_limit_rules_exchanged_holds
