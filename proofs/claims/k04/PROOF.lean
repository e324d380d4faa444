import PyProof.Rows.All
import Wide.All
import OpenK.AllK
import Wide.FinOn
import HandS.ForMost
import HandS.Wide
import HandS.RaiseMore
import PyProof.ReprRoads
import HandS.Evl
import HandS.Codes
import HandS.TupMul
import HandS.TupAny
import KE.GoesEnum
import HandS.Defaults
import HandS.FStrTup
import HandS.IsInst
import HandS.WordsExc
import HandS.Exc
import HandS.List
import HandS.ExcIs
import PyProof.EqKinds
import HandS.TryOnly
import PySem.Challenge.RW_limitrun_k04_differences_and_quotients
set_option Elab.async false
set_option linter.all false
set_option maxRecDepth 100000
set_option maxHeartbeats 4000000
namespace Lim
open PySem PySem.Spec PyProof.Rows L2

/-! a def whose promise may lean on: no repr is under way around it -/
structure FnG (P : Program) (w : World) (K : PySem.W.Frag) (mg : Str → Option Value) (base : Heap) (k : Nat) (f : Addr) (fd : FuncData) (ps : List Str) (sp : Sp) : Prop where
  len : ∀ vs H Q E, sp vs H Q E → vs.length = ps.length
  go : ∀ (B : Around) (below : List Env) (s : Shared) (H : Hp) (ar : Args) (us : List Value) (vs : List V) (Q : VK) (E : XK),
    B.guards = some [] → Room k B → Env0 P w K mg base B below s H → BindsTo s fd ar (ps.zip us) → Vals vs us → sp vs H Q E →
    codeAny (model P w) B (.call (.ref f) ar) (CR CX0 below P w H s Q E) s
section
variable {P : Program} {w : World} {K : PySem.W.Frag} {mg : Str → Option Value} {base : Heap} {k : Nat} {f : Addr} {fd : FuncData} {ps : List Str} {sp : Sp}
theorem FnG.of (F : FnOk P w K mg base CX0 k f fd ps sp) : FnG P w K mg base k f fd ps sp :=
  ⟨F.len, fun B below s H ar us vs Q E _ r e b v q => F.run B below s H ar us vs Q E r e b v q⟩
theorem FnG.up {j : Nat} (F : FnG P w K mg base j f fd ps sp) (h : j ≤ k) : FnG P w K mg base k f fd ps sp :=
  ⟨F.len, fun B below s H ar us vs Q E g r e b v q => F.go B below s H ar us vs Q E g (r.mono h) e b v q⟩
theorem FnG.imp {sp' : Sp} (F : FnG P w K mg base k f fd ps sp) (h : ∀ vs H Q E, sp' vs H Q E → sp vs H Q E) : FnG P w K mg base k f fd ps sp' :=
  ⟨fun vs H Q E q => F.len _ _ _ _ (h _ _ _ _ q), fun B below s H ar us vs Q E g r e b v q => F.go B below s H ar us vs Q E g r e b v (h _ _ _ _ q)⟩

theorem deeper_guards {B : Around} {env : Env} : (B.deeper env).guards = B.guards := rfl

/-- the def's own rule -/
theorem Fun_okG {x qual : Str} {st : Stmt} {N : List Str} (F : Fun K x qual st f fd) (S : FnScope N ps (defScope st)) (len : ∀ vs H Q E, sp vs H Q E → vs.length = ps.length)
    (hb : ∀ (cdv : Value) (B : Around) (below : List Env) (s : Shared) (H : Hp) (vs : List V) (Q : VK) (E : XK), B.guards = some [] → Room k (B.deeper (envOfC qual (defScope st) s.heap.objs.size f cdv)) → sp vs H Q E →
      ∃ t, PSs (cxOf CX0 P w K mg base N qual (defScope st) f cdv B below s H E).nox (defBody st) t ∧ t { nx := fun _ H' => Q .non H', rt := Q } (start N vs) H) :
    FnG P w K mg base (k + 1) f fd ps sp := by
  obtain ⟨oc, od, kV, doc, pm, an, cdv, ct, osl, rfl, lk, hcd⟩ := F.ex
  refine ⟨len, fun B below s H ar us vs Q E hg hr ev bt va hq => ?_⟩
  have hn := len _ _ _ _ hq
  have KH : K.In s.heap := ev.mod.kin.keeps fun a o z => (ev.bs a o z).1
  have noLim : s.heap.NoLimit := ev.mod.nolimit.keeps fun a o z => (ev.bs a o z).1
  refine codeAny_call_function hr.depth (KH _ _ lk) rfl S.co S.gen rfl (PySem.W.codeRec_of KH hcd) (bt _ _ _ _ ?_)
  refine wpAny_newFunctionEnv_cells S.kind (fun ⟨y, v⟩ hy => ?_) fun env he s1 hx => ?_
  · rcases S.par y (List.of_mem_zip hy).1 with q | q
    · exact Or.inl q
    · exact Or.inr ⟨q, PySem.W.cellsFrom_some _ _ _ (Or.inl q)⟩
  · subst he
    refine ⟨noLim.keeps hx.toInCall.keep, codeAny_func ?_⟩
    obtain ⟨t, ht, hrun⟩ := hb cdv B below s H vs Q E hg (hr.deeper _) hq
    have J0 := inv_start (CX := CX0) (E := E) S hr.hd ev hn va hx
    refine wpAny_mono (ht.nox.run [] s1 (start N vs) H _ J0 hrun) (fun fl s2 hs => ?_) fun _ _ z => z
    cases fl with
    | brk =>
      obtain ⟨_, _, _, z⟩ := hs
      exact z.elim
    | cont =>
      obtain ⟨_, _, _, z⟩ := hs
      exact z.elim
    | next =>
      obtain ⟨σ1, H1, J, z⟩ := hs
      exact ⟨V.non, H1, J.os, J.bare, J.base, J.hok, rfl, z⟩
    | ret u =>
      obtain ⟨v, σ1, H1, J, rv, z⟩ := hs
      exact ⟨v, H1, J.os, J.bare, J.base, J.hok, rv, z⟩
end
section
variable {X : Cx} {k : Nat} {f : Addr} {fd : FuncData} {ps : List Str} {sp : Sp} {x : Str} {p pos : Pos} {e : Expr} {es : List Expr} {t : TA}
/-- the callee runs -/
theorem run_g {pins : List (Addr × Obj)} {σ : L2.St} {H : Hp} {s : Shared} {Q : VK} {us : List Value} {vs : List V} (F : FnG X.prog X.w X.K X.mg X.base k f fd ps sp) (hg : X.A.guards = some []) (hr : Room k X.A) (hb : Binds X.K fd ps [])
    (I : Inv X pins σ H s) (r : Vals vs us) (h : sp vs H Q E0) : wpAny (model X.prog X.w) X.A (call (.ref f) us) (EP X pins σ Q) X.xe s := by
  have hl : us.length = ps.length := r.length ▸ F.len _ _ _ _ h
  have hbt := hb s us I.kIn (by rw [List.append_nil]; exact hl)
  rw [List.append_nil] at hbt
  refine wpAny_call (codeAny_mono (F.go X.A X.stack s H ⟨us, []⟩ us vs Q E0 hg hr I.env0 hbt r h) fun res s1 z => ?_)
  match res, z with
  | .error _, z => exact False.elim z
  | .ok (.ret u), z => exact I.after z
  | .ok .next, z => exact False.elim z
  | .ok .brk, z => exact False.elim z
  | .ok .cont, z => exact False.elim z
theorem pe_g (F : FnG X.prog X.w X.K X.mg X.base k f fd ps sp) (hgd : X.A.guards = some []) (hr : Room k X.A) (hg : Gl X x) (hm : X.mg x = some (.ref f)) (hk : PySem.W.keepIn X.K (.ref f) = true) (hb : Binds X.K fd ps [])
    (ha : PA X (e :: es) t) (hdb : (x == ("__debug__" : Str)) = false := by decide) (he : starEach (e :: es) X.env = (false, eval e X.env) :: starEach es X.env := by rfl) (hpl : (backTo pos (starEach es X.env)).any (·.1) = false := by rfl) :
    PE X (.Call (.Name x p) (e :: es) [] pos) (fun σ H Q => t σ H fun vs H1 => sp vs H1 Q E0) := by
  refine ⟨fun pins s σ H Q I h => ?_⟩
  refine wpAny_Call_Name_kw (ld_glob I hg hm ?_ hdb)
  refine PySem.W.callWith_K (h₀ := X.base) I.ok.mod.kin hk ?_ he hpl
  exact thn (ha.run pos pins s σ H _ I h) fun us s1 ⟨vs, H1, I1, r, q⟩ => ⟨I1.kIn, run_g F hgd hr hb I1 r q⟩
/-- repr(x), x data -/
theorem call_reprD (hgd : X.A.guards = some []) (hu : X.A.units + 100 < cLine) : CallR X (.builtin "repr") (fun xs H Q => ∃ v d, xs = [v] ∧ Dp X.K H v d ∧ d.showable = true ∧ d.hasDict = false ∧ d.depth ≤ 60 ∧ d.shown.length ≤ sizeLine ∧ Q (.str d.shown) H) := by
  intro pins s σ H xs us Q I r h
  obtain ⟨v, d, rfl, hd, h1, h2, h3, h4, q⟩ := h
  obtain ⟨u, rfl, r1⟩ := vals1 r
  cases hd with
  | non =>
    cases r1
    exact PySem.P.repr_of_none ⟨.str _, H, I.tok _, ⟨_, rfl⟩, q⟩
  | bl b =>
    cases r1
    refine PySem.P.repr_of_bool ⟨.str _, H, I.tok _, ⟨_, rfl⟩, ?_⟩
    cases b <;> exact q
  | int i =>
    obtain ⟨t, rfl⟩ := r1
    refine PySem.P.repr_of_int ?_ ⟨.str _, H, I.tok _, ⟨_, rfl⟩, q⟩
    simpa [PyData.showable] using h1
  | str y =>
    obtain ⟨t, rfl⟩ := r1
    exact PySem.P.repr_of_str ⟨.str _, H, I.tok _, ⟨_, rfl⟩, q⟩ h4
  | lst hs ha =>
    obtain ⟨as, rd⟩ := Dp.reads I _ _ _ (.lst hs ha) r1
    cases r1
    exact PySem.repr_of_reads' rd h1 (fun z => by rw [h2] at z; cases z) hgd (by omega) (fun _ _ z => z) (fun h' u tk hk => ⟨.str _, H, I.kept hk, ⟨_, rfl⟩, q⟩) h4
  | tup hs ha =>
    obtain ⟨as, rd⟩ := Dp.reads I _ _ _ (.tup hs ha) r1
    cases r1
    exact PySem.repr_of_reads' rd h1 (fun z => by rw [h2] at z; cases z) hgd (by omega) (fun _ _ z => z) (fun h' u tk hk => ⟨.str _, H, I.kept hk, ⟨_, rfl⟩, q⟩) h4
end
/-! tuple * k for k below 2 -/
section
variable (l : Addr) (its : Array Value) (n : Nat) (dd : Option Addr) (sl : Array (Option Value)) (u : Tok)
abbrev tupO (its : Array Value) (n : Nat) (dd : Option Addr) (sl : Array (Option Value)) : Obj := { cls := .type "tuple", dict := dd, data := .seq its n, slots := sl }
theorem tmul_none (x : Int) (b0 : (decide (x < -(2 ^ 63)) || decide (x ≥ 2 ^ 63)) = false) (b1 : (its.isEmpty || x == 1) = false) (b2 : (decide (x ≤ 0) || its.isEmpty) = true) :
    Meets (Builtin.«tuple.__mul__» ⟨[.ref l, .int x u], []⟩) (fun _ R s => s.heap.get? l = some (tupO its n dd sl) ∧ R (.ok (.ret (Value.ref s.heap.objs.size))) { s with heap := s.heap.push { cls := Value.type "tuple", data := Data.seq #[] }, toks := s.toks }) := by
  refine .of_wp fun pg ww AA RR ss hh => ?_
  obtain ⟨h1, h2, h3, h4, h5⟩ := ss
  obtain ⟨hl, hh⟩ := hh
  have ix := AutoSeq1.idx_int
  have n0 := decide_eq_false (p := (decide (x < -(2 ^ 63)) || decide (x ≥ 2 ^ 63)) = true) (by rw [b0]; decide)
  have n1 := decide_eq_false (p := (its.isEmpty || x == 1) = true) (by rw [b1]; decide)
  wp_walk using wpAny_loadPart' hl
  repeat (first
    | (refine wpAny_ite_false n0 ?_; wp_walk using wpAny_loadPart' hl)
    | (refine wpAny_ite_false n1 ?_; wp_walk using wpAny_loadPart' hl)
    | (refine wpAny_ite_true (decide_eq_true b2) ?_; wp_walk using wpAny_loadPart' hl))
  exact ⟨_, rfl, hh⟩
theorem tmul_one : Meets (Builtin.«tuple.__mul__» ⟨[.ref l, .int 1 u], []⟩) (fun _ R s => s.heap.get? l = some (tupO its n dd sl) ∧ R (.ok (.ret (Value.ref l))) s) := by
  refine .of_wp fun pg ww AA RR ss hh => ?_
  obtain ⟨h1, h2, h3, h4, h5⟩ := ss
  obtain ⟨hl, hh⟩ := hh
  have ix := AutoSeq1.idx_int
  have b1 : (its.isEmpty || (1 : Int) == 1) = true := by simp
  wp_walk using wpAny_loadPart' hl
  repeat (first
    | (refine wpAny_ite_false (decide_eq_false (by decide)) ?_; wp_walk using wpAny_loadPart' hl)
    | (refine wpAny_ite_true (decide_eq_true b1) ?_; wp_walk using wpAny_loadPart' hl))
  exact ⟨_, rfl, hh⟩
end
def rRepZ (K : PySem.W.Frag) : R2 := fun x y H Q => ∃ l k xs, x = .ref l ∧ y = .int k ∧ SqT K H l xs ∧ xs ≠ [] ∧ -1000 ≤ k ∧ k ≤ 1000 ∧ xs.length ≤ 1000 ∧
  (k ≤ 0 → ∀ p, H p = none → Q (.ref p) (upd H p (.tup []))) ∧ (k = 1 → Q (.ref l) H) ∧ (2 ≤ k → ∀ p, H p = none → Q (.ref p) (upd H p (.tup (List.replicate k.toNat xs).flatten)))
section
variable {X : Cx}
theorem op_repZ : OpR X (binaryOp .Mult) (rRepZ X.K) := by
  intro pins s σ H x y v u Q I rx ry h
  obtain ⟨l, k, xs, rfl, rfl, hT, hne, h1, h2, hz, q0, q1, q2⟩ := h
  by_cases c2 : 2 ≤ k
  · exact op_repT pins s σ H _ _ v u Q I rx ry ⟨l, k, xs, rfl, rfl, hT, hne, c2, h2, hz, q2 c2⟩
  · cases rx
    obtain ⟨t, rfl⟩ := ry
    obtain ⟨its, r, ⟨⟨cls, dd, data, sl⟩, ho, hc, n, hd⟩, hs⟩ := I.tuple hT
    simp only at hc hd
    subst hc hd
    have hie : its.toArray.isEmpty = false := by
      cases its with
      | nil =>
        cases r
        exact absurd rfl hne
      | cons a b => rfl
    by_cases c1 : k = 1
    · subst c1
      refine wpAny_binaryOp_repeat_ref (T := "tuple") (U := "int") (by decide) ⟨_, ho, rfl⟩ (fun s' => typeIs_int s' 1 t) noFill_tuple_mul F.fills_int_mul F.slot_int_rmul repeat_tuple F.slot_int_index.lookup ?_
      refine call_meets F.slot_int_rmul (typeIs_int s 1 t) F.entry_int_rmul (F.args_int_rmul_2 _ _) (int_rmul_tuple 1 t l its.toArray n dd sl) ⟨ho, rfl, ⟨_, ho, rfl⟩, ?_⟩
      exact call_meets F.slot_tuple_mul ⟨_, ho, rfl⟩ F.entry_tuple_mul (F.args_tuple_mul_2 _ _) (tmul_one l its.toArray n dd sl t) ⟨ho, .ref l, H, I, rfl, q1 rfl⟩
    · have k0 : k ≤ 0 := by omega
      have b0 : (decide (k < -(2 ^ 63)) || decide (k ≥ 2 ^ 63)) = false := by
        rw [decide_eq_false (by omega), decide_eq_false (by omega)] <;> rfl
      have b1 : (its.toArray.isEmpty || k == 1) = false := by
        rw [hie, Bool.false_or]
        exact beq_eq_false_iff_ne.mpr c1
      have b2 : (decide (k ≤ 0) || its.toArray.isEmpty) = true := by
        rw [decide_eq_true k0] <;> rfl
      refine wpAny_binaryOp_repeat_ref (T := "tuple") (U := "int") (by decide) ⟨_, ho, rfl⟩ (fun s' => typeIs_int s' k t) noFill_tuple_mul F.fills_int_mul F.slot_int_rmul repeat_tuple F.slot_int_index.lookup ?_
      refine call_meets F.slot_int_rmul (typeIs_int s k t) F.entry_int_rmul (F.args_int_rmul_2 _ _) (int_rmul_tuple k t l its.toArray n dd sl) ⟨ho, rfl, ⟨_, ho, rfl⟩, ?_⟩
      refine call_meets F.slot_tuple_mul ⟨_, ho, rfl⟩ F.entry_tuple_mul (F.args_tuple_mul_2 _ _) (tmul_none l its.toArray n dd sl t k b0 b1 b2) ⟨ho, ?_⟩
      refine ⟨.ref s.heap.objs.size, _, I.laid (t' := s.toks) (o := .tup []) (fun b ob z => Heap.get?_push_of_some _ z) (Nat.le_refl _) ?_, rfl, q0 k0 _ (I.hok.fresh (Nat.le_refl _))⟩
      exact ⟨Nat.zero_le _, [], .nil, IsTup.new _ _⟩
end
/-! enumerate of a tuple -/
def Iet (K : PySem.W.Frag) (a : Addr) : It where
  go := fun i H => ∃ (xs : List V) (x : V), SqT K H a xs ∧ xs[i]? = some x
  yld := fun i H v H' => ∃ T x, v = .ref T ∧ H T = none ∧ H' = upd H T (.tup [.int (i : Nat), x]) ∧ ∀ xs, SqT K H a xs → xs[i]? = some x
  stop := fun i H => ∃ xs : List V, SqT K H a xs ∧ xs.length = i
theorem enum_new1 {v : Value} {o : Obj} {Hh : Heap → Prop} (B : Begins v o Hh) : Meets (Builtin.«enumerate.__new__» ⟨[.type "enumerate", v], []⟩) (fun _ R s => Hh s.heap ∧
      R (.ok (.ret (.ref (s.heap.push o).objs.size))) { s with heap := (s.heap.push o).push { cls := .type "enumerate", data := .fields #[.none, .bool false, .ref s.heap.objs.size, rawInt 0, .none, .none] } }) := by
  refine .of_wp fun pg ww AA RR ss hh => ?_
  obtain ⟨h1, h2, h3, h4, h5⟩ := ss
  obtain ⟨b1, hh⟩ := hh
  have sube := sub_enumerate
  have qi : ∀ {A' : Around} {E' : Value → Shared → Prop} {Q' : Value → Shared → Prop}, Q' (.ref h1.objs.size) ⟨h1.push o, h2, h3, h4, h5⟩ → wpAny (model pg ww) A' (pyIter v) Q' E' ⟨h1, h2, h3, h4, h5⟩ :=
    fun z => B.iter pg ww _ _ ⟨h1, h2, h3, h4, h5⟩ _ b1 z
  wp_walk
  refine wpAny_stack_any fun st => wpAny_pure ?_
  split
  · rename_i cc _ _ _ _ _
    cases (cc == Value.type "enumerate") <;>
      (wp_walk using qi
       exact ⟨_, rfl, hh⟩)
  · wp_walk using qi
    exact ⟨_, rfl, hh⟩
section
variable {prog : Program} {w : World} {A : Around} {E : Value → Shared → Prop} {s : Shared}
theorem call_enum1 {v : Value} {o : Obj} {Hh : Heap → Prop} {Q : Value → Shared → Prop} (B : Begins v o Hh) (b1 : Hh s.heap)
    (h : ∀ h', IsEnum h' (s.heap.objs.size + 1) s.heap.objs.size 0 .none → h'.get? s.heap.objs.size = some o → h'.objs.size = s.heap.objs.size + 2 → (∀ b o, s.heap.get? b = some o → h'.get? b = some o) → Q (.ref (s.heap.objs.size + 1)) { s with heap := h' }) :
    wpAny (model prog w) A (call (.type "enumerate") [v]) Q E s := by
  refine callType_new F.called_enumerate (by decide) (F.typeCall_enumerate_1 _) (F.newCall_enumerate_1 _) (fun obj => F.args_object_init_2 obj _) F.entry_enumerate_new (enum_new1 B) ⟨b1, ?_⟩
  have z1 : (s.heap.push o).objs.size = s.heap.objs.size + 1 := Heap.size_push ..
  show _ ∧ _
  rw [z1]
  have ie : IsEnum ((s.heap.push o).push { cls := .type "enumerate", data := .fields #[.none, .bool false, .ref s.heap.objs.size, rawInt 0, .none, .none] }) (s.heap.objs.size + 1) s.heap.objs.size 0 .none := by
    have q := Heap.get?_push_size (s.heap.push o) (o := { cls := .type "enumerate", data := .fields #[.none, .bool false, .ref s.heap.objs.size, rawInt 0, .none, .none] }) rfl
    rw [z1] at q
    exact q
  exact ⟨⟨_, ie, rfl⟩, h _ ie (Heap.get?_push_of_some _ (Heap.get?_push_size _ B.free)) (by rw [Heap.size_push, z1]) fun b o' x => Heap.get?_push_of_some _ (Heap.get?_push_of_some _ x)⟩
end
theorem turn_enumT {P : Program} {w : World} {K : PySem.W.Frag} {elts : List Expr} {kk : Nat} {tpos : Pos} (a e it : Addr) (hae : a ≠ e) (hai : a ≠ it) :
    Turn P w K (.Tuple elts kk tpos) (Iet K a) [e, it] e (fun i h => (∃ old, IsEnum h e it ((i : Nat) : Int) old) ∧ h.IsTupleIter it a i ∧ e ≠ it) where
  mem := List.mem_cons_self ..
  obj := by
    rintro i h ⟨⟨old, he⟩, ⟨o, ho, hc, hd⟩, _⟩ b hb
    rcases List.mem_cons.mp hb with rfl | hb
    · exact ⟨_, he, fun v q => nomatch q⟩
    · rw [List.mem_singleton.mp hb]
      exact ⟨o, ho, fun v q => by rw [hd] at q; cases q⟩
  keep := by
    rintro i h h' ⟨⟨old, he⟩, hi, ne⟩ k
    exact ⟨⟨old, k e (by simp) _ he⟩, hi.at fun o q => k it (by simp) o q, ne⟩
  item := by
    rintro X rfl rfl rfl hc i pins s σ H E I hf ⟨⟨old, he⟩, hit, hne⟩ ⟨xs, x, hq, hx⟩
    obtain ⟨its, rv, hT, hz⟩ := I.tuple hq
    have hT' : s.heap.IsTuple a its.toArray := hT
    obtain ⟨u, hu, ru⟩ := rv.get hx
    have le : e < s.heap.objs.size := Heap.lt_size he
    have li : it < s.heap.objs.size := by
      obtain ⟨_, q, _⟩ := hit
      exact Heap.lt_size q
    have hlt : i < its.toArray.size := by
      have := (List.getElem?_eq_some_iff.mp hu).1
      simpa using this
    refine wpAny_pyNext_enum_itemD (Draws.tuple (A := X.A.in1) (I.ok.hd hc) it a hai its.toArray) he ⟨hit, hT'⟩ hlt hne ?_ fun y h' tk hy ho hit' hnew hsz hk => ?_
    · intro hb
      rcases List.mem_cons.mp hb with q | q
      · exact hne q
      · exact hae (List.mem_singleton.mp q).symm
    · have hyu : y = u := by
        have e1 : its.toArray[i]? = some y := hy
        rw [List.getElem?_toArray, hu] at e1
        exact (Option.some.inj e1).symm
      subst hyu
      refine ⟨_, rfl, wpAny_letOwnedTupleGo_enum (s := { s with heap := h', toks := tk + 1 }) ho fun h2 he2 sb => ?_⟩
      have hT2 : h2.get? s.heap.objs.size = some { cls := .type "tuple", data := .seq #[.int i tk, y] } := (sb.2 _ (Nat.ne_of_gt le)).trans hnew
      have nob : ObjOk X.prog X.w (upd H s.heap.objs.size (.tup [.int (i : Nat), x])) h2 s.heap.objs.size (.tup [.int (i : Nat), x]) :=
        ⟨by show 2 ≤ sizeLine; decide, [.int i tk, y], .cons ⟨_, rfl⟩ (.cons ru .nil), ⟨_, hT2, rfl, _, rfl⟩⟩
      have J : Inv X pins σ (upd H s.heap.objs.size (.tup [.int (i : Nat), x])) { s with heap := h2, toks := tk + 1 } :=
        I.turnedNew (ch := [e, it]) (fun b ob hb q => (sb.2 b (fun z => hb (by simp [z]))).trans (hk b ob (fun z => hb (by simp [z])) (fun z => hb (by simp [z])) q)) hf (Nat.le_refl _) nob
      refine ⟨.ref s.heap.objs.size, _, J, rfl, ⟨_, x, rfl, I.hok.fresh (Nat.le_refl _), rfl, fun ys hy => by rw [I.tuple_inj hy hq]; exact hx⟩, ⟨⟨y, ?_⟩, hit'.1.at fun o q => (sb.2 it (Ne.symm hne)).trans q, hne⟩, fun b hb => ?_⟩
      · have e1 : ((i + 1 : Nat) : Int) = (i : Int) + 1 := by omega
        rw [e1]
        exact he2
      · have lb : b < s.heap.objs.size := by
          rcases List.mem_cons.mp hb with z | z
          · rw [z]
            exact le
          · rw [List.mem_singleton.mp z]
            exact li
        rw [upd_ne (Nat.ne_of_lt lb)]
        exact (hf b hb).1
  done := by
    rintro X rfl rfl rfl hc i pins s σ H E I hf ⟨⟨old, he⟩, hit, hne⟩ ⟨xs, hq, hx⟩
    obtain ⟨its, rv, hT, hz⟩ := I.tuple hq
    have hT' : s.heap.IsTuple a its.toArray := hT
    have hn : i = its.toArray.size := by rw [List.size_toArray, ← hx, rv.length]
    subst hn
    obtain ⟨f0, f1, f2, f3, f4, f5⟩ := hf it (by simp)
    exact wpAny_pyNext_enum_endD (Draws.tuple (A := X.A.in1) (I.ok.hd hc) it a hai its.toArray) he ⟨hit, hT'⟩ fun h' eb => ⟨rfl, I.turned (t' := s.toks) (fun b o hb q => eb b o hb q) f0 f1 f3 f4 f5⟩
  self := fun A i s Q E st h => let ⟨⟨_, he⟩, _⟩ := st; wpAny_pyIter_enum he h
def iEnumT (K : PySem.W.Frag) (ta : TA) : TI := fun σ H R => ta σ H fun vs H1 => ∃ a xs, vs = [.ref a] ∧ SqT K H1 a xs ∧ R (Iet K a) H1
theorem pi_enumT {X : Cx} {e : Expr} {ta : TA} {p pos tpos : Pos} {elts : List Expr} {kk : Nat} (hg : Gl X "enumerate") (hm : X.mg "enumerate" = none) (ha : PA X [e] ta) (hs : starEach [e] X.env = [(false, eval e X.env)] := by rfl) :
    PI X (.Tuple elts kk tpos) (.Call (.Name "enumerate" p) [e] [] pos) (iEnumT X.K ta) := by
  refine ⟨fun pins s σ H R I h => ?_⟩
  refine Call_ (ld_blt I hg hm boot_enumerate ?_)
  refine PyProof.Rows.callWith_type1 (thn (ha.run pos pins s σ H _ I h) fun us s1 ⟨vs, H1, I1, r1, q1⟩ => ?_) hs rfl
  obtain ⟨a, xs, rfl, hq, q⟩ := q1
  obtain ⟨u, rfl, ru⟩ := vals1 r1
  cases ru
  obtain ⟨its, rv, hT, hz⟩ := I1.tuple hq
  have hT' : s1.heap.IsTuple a its.toArray := hT
  have la : a < s1.heap.objs.size := by
    obtain ⟨o, ho, _⟩ := hT'
    exact Heap.lt_size ho
  refine call_enum1 (begins_tuple a its.toArray) hT' fun h' ie hit hsz hk => wpAny_pyIter_enum ie ?_
  have I2 : Inv X pins σ H1 { s1 with heap := h' } := I1.kept (t' := s1.toks) hk
  refine ⟨s1.heap.objs.size + 1, [s1.heap.objs.size + 1, s1.heap.objs.size], _, _, H1, rfl, I2, turn_enumT a (s1.heap.objs.size + 1) s1.heap.objs.size (Nat.ne_of_lt (Nat.lt_succ_of_lt la)) (Nat.ne_of_lt la), ⟨⟨.none, ie⟩, ⟨_, hit, rfl, rfl⟩, Nat.succ_ne_self _⟩, fun b hb => ?_, q⟩
  have lb : s1.heap.objs.size ≤ b := by
    rcases List.mem_cons.mp hb with z | z
    · rw [z]
      exact Nat.le_succ _
    · rw [List.mem_singleton.mp z]
      exact Nat.le_refl _
  exact I1.fpOk lb (I1.hok.fresh lb)
section
variable {K : PySem.W.Frag} {a : Addr} {xs : List V} {σ : L2.St}
/-- for i, x in enumerate(tuple) -/
theorem for_enumT {g : TG} {tb : TS} {D : Ends} {H : Hp} (Pv : Nat → L2.St → Hp → Prop) (h0 : Pv 0 σ H) (hl : ∀ i σ H, i ≤ xs.length → Pv i σ H → SqT K H a xs)
    (hs : ∀ i x σ H T, xs[i]? = some x → Pv i σ H → H T = none → g (.ref T) σ (upd H T (.tup [.int (i : Nat), x])) fun σ2 H2 => tb { D with nx := Pv (i + 1), ct := Pv (i + 1), bk := D.nx } σ2 H2) (hd : ∀ σ H, Pv xs.length σ H → D.nx σ H) :
    ∃ W : Nat → Nat → L2.St → Hp → Prop, (∃ m, W 0 m σ H) ∧ ∀ i m σ H, W i m σ H →
      ((Iet K a).stop i H ∧ D.nx σ H) ∨ ((Iet K a).go i H ∧ ∃ N : L2.St → Hp → Prop, (∀ σ' H', N σ' H' → ∃ m', m' < m ∧ W (i + 1) m' σ' H') ∧ ∀ x H', (Iet K a).yld i H x H' → g x σ H' fun σ2 H2 => tb { D with nx := N, ct := N, bk := D.nx } σ2 H2) := by
  refine ⟨fun i m σ H => i + m = xs.length ∧ Pv i σ H, ⟨xs.length, by omega, h0⟩, ?_⟩
  rintro i m σ H ⟨hm, p⟩
  have q := hl i σ H (by omega) p
  by_cases hlt : i < xs.length
  · refine .inr ⟨⟨xs, xs[i], q, List.getElem?_eq_getElem hlt⟩, Pv (i + 1), fun σ' H' p' => ⟨m - 1, by omega, by omega, p'⟩, fun v H' y => ?_⟩
    obtain ⟨T, x, rfl, hT, rfl, y⟩ := y
    exact hs i x σ H T (y xs q) p hT
  · have e : i = xs.length := by omega
    subst e
    exact .inl ⟨⟨xs, q, rfl⟩, hd σ H p⟩
/-- [.. for i, x in enumerate(tuple) ..] -/
theorem lc_enumT {g : TG} {tt : TT} {te : TE} {vs : List Nat} {H1 : Hp} {D : Addr} {Qd : Hp → Prop} (Pv : Nat → Hp → Prop) (h0 : Pv 0 (upd H1 D (.lst []))) (hl : ∀ i H, i ≤ xs.length → Pv i H → SqT K H a xs)
    (hs : ∀ i x H T, xs[i]? = some x → Pv i H → H T = none → g (.ref T) (wipe σ vs) (upd H T (.tup [.int (i : Nat), x])) fun σ2 H2 => wipe σ2 vs = wipe σ vs ∧ tt σ2 H2 fun b H3 =>
      if b = true then te σ2 H3 fun y H4 => ∃ acc, H4 D = some (.lst acc) ∧ acc.length < sizeLine ∧ Pv (i + 1) (upd H4 D (.lst (acc ++ [y]))) else Pv (i + 1) H3) (hd : ∀ H, Pv xs.length H → Qd H) :
    ∃ W : Nat → Nat → Hp → Prop, (∃ m, W 0 m (upd H1 D (.lst []))) ∧ ∀ i m H, W i m H →
      ((Iet K a).stop i H ∧ Qd H) ∨ ((Iet K a).go i H ∧ ∃ Nx : Hp → Prop, (∀ H', Nx H' → ∃ m', m' < m ∧ W (i + 1) m' H') ∧ ∀ x H', (Iet K a).yld i H x H' → g x (wipe σ vs) H' fun σ2 H2 => wipe σ2 vs = wipe σ vs ∧ tt σ2 H2 fun b H3 =>
        if b = true then te σ2 H3 fun y H4 => ∃ acc, H4 D = some (.lst acc) ∧ acc.length < sizeLine ∧ Nx (upd H4 D (.lst (acc ++ [y]))) else Nx H3) := by
  refine ⟨fun i m H => i + m = xs.length ∧ Pv i H, ⟨xs.length, by omega, h0⟩, ?_⟩
  rintro i m H ⟨hm, p⟩
  have q := hl i H (by omega) p
  by_cases hlt : i < xs.length
  · refine .inr ⟨⟨xs, xs[i], q, List.getElem?_eq_getElem hlt⟩, Pv (i + 1), fun H' p' => ⟨m - 1, by omega, by omega, p'⟩, fun v H' y => ?_⟩
    obtain ⟨T, x, rfl, hT, rfl, y⟩ := y
    exact hs i x H T (y xs q) p hT
  · have e : i = xs.length := by omega
    subst e
    exact .inl ⟨⟨xs, q, rfl⟩, hd H p⟩
end
def topS (i : Nat) : Stmt := PySem.Challenge.pw_limitrun_k04_differences_and_quotients.main.body.getD i (.Pass ⟨0, 0, 0, 0⟩)
abbrev sScr : Stmt := topS 16
abbrev sDrw : Stmt := topS 17
abbrev sNxt : Stmt := topS 18
abbrev sCho : Stmt := topS 19
abbrev sIde : Stmt := topS 20
theorem scScr : FnScope ["number", "index", "modulus", "found", "turn"] ["number", "index"] (defScope sScr) := ⟨rfl, rfl, rfl, by decide +kernel, rfl, by decide +kernel, by decide +kernel⟩
section
variable {P : Program} {w : World} {K : PySem.W.Frag} {mg : Str → Option Value} {base : Heap}
/-- scramble: some number, not negative -/
def spScr : Sp := fun vs H Q _ => ∃ n i : Int, vs = [.int n, .int i] ∧ ∀ r : Int, 0 ≤ r → Q (.int r) H
theorem mod20 : (20 : Int) ≠ 0 := by decide
theorem modM : (2305843009213693951 : Int) ≠ 0 := by decide
theorem fmod_lo {a : Int} : 0 ≤ a.fmod 2305843009213693951 := Int.fmod_nonneg_of_pos _ (by decide)
theorem fmod_hi {a : Int} : a.fmod 2305843009213693951 < 2305843009213693951 := Int.fmod_lt_of_pos _ (by decide)
theorem ok_scr {f : Addr} {fd : FuncData} {k : Nat} (F : Fun K "_law_scramble" "_law_scramble" sScr f fd) (mr : mg "range" = none) : FnOk P w K mg base CX0 (k + 1) f fd ["number", "index"] spScr := by
  refine F.ok scScr (fun vs H Q E h => ?_) (fun cdv A outer s H vs Q E hr h => ?_)
  · obtain ⟨n, i, rfl, _⟩ := h
    rfl
  · obtain ⟨n, i, rfl, q⟩ := h
    refine ⟨_, pss_cons (ps_set (i := 2) scScr.nd rfl (.inl rfl) pe_int)
      (pss_cons (ps_set (i := 3) scScr.nd rfl (.inl rfl) (pe_op op_modN (pe_op op_add (pe_op op_add (pe_op op_mul (pv 0) pe_int) (pe_op op_mul (pv 1) pe_int)) pe_int) (pv 2)))
      (pss_cons (ps_for PassesOwn.never rfl (pi_range1 rfl mr (pa_cons pe_int pa_nil)) (pg_name (i := 4) scScr.nd rfl (.inl rfl))
        (pss_one (ps_set (i := 3) scScr.nd rfl (.inl rfl) (pe_op op_modN (pe_op op_add (pe_op op_add (pe_op op_add (pe_op op_mul (pv 3) (pv 3)) (pe_op op_mul pe_int (pv 3))) (pe_op op_mul pe_int (pv 4))) (pv 1)) (pv 2)))))
      (pss_one (ps_ret (pe_op op_add (pe_op op_mul (pv 3) (pv 2)) (pe_op op_modN (pe_op op_add (pe_op op_mul (pv 3) pe_int) (pv 1)) (pv 2))))))), ?_⟩
    refine ⟨_, rfl, _, _, rfl, rfl, .inr ⟨by decide, by decide⟩, _, rfl, _, _, rfl, rfl, .inr ⟨by decide, by decide⟩, _, _, rfl, rfl, _, _, rfl, rfl, _, rfl, _, _, rfl, rfl, modM, ?_⟩
    refine ⟨4, rfl, by decide, by decide, for_range (n := 4) (fun t σ H' => ∃ (z : Int) (y : Option V), σ = [some (.int n), some (.int i), some (.int 2305843009213693951), some (.int z), y] ∧ 0 ≤ z ∧ z < 2305843009213693951 ∧ H' = H) ⟨_, none, rfl, fmod_lo, fmod_hi, rfl⟩ ?_ ?_⟩
    · rintro t σ H' ht ⟨z, y, rfl, h0, h1, rfl⟩
      refine ⟨_, rfl, _, rfl, _, _, rfl, rfl, .inl ⟨by omega, by omega⟩, _, rfl, _, _, rfl, rfl, .inl ⟨by decide, by decide⟩, _, _, rfl, rfl, _, rfl, _, _, rfl, rfl, .inl ⟨by decide, by decide⟩, _, _, rfl, rfl, _, rfl, _, _, rfl, rfl, _, rfl, _, _, rfl, rfl, modM, ?_⟩
      exact ⟨_, _, rfl, fmod_lo, fmod_hi, rfl⟩
    · rintro σ H' ⟨z, y, rfl, h0, h1, rfl⟩
      refine ⟨_, rfl, _, rfl, _, _, rfl, rfl, .inl ⟨by omega, by omega⟩, _, rfl, _, _, rfl, rfl, .inr ⟨by decide, by decide⟩, _, rfl, _, _, rfl, rfl, _, rfl, _, _, rfl, rfl, modM, _, _, rfl, rfl, ?_⟩
      refine q _ ?_
      have := fmod_lo (a := z * 48271 + i)
      omega

/-! the source of draws: [numbers, i, x, y], all not negative -/
def Src (H : Hp) (a n : Addr) : Prop := ∃ (i x y : Int) (ns : List Int), H a = some (.lst [.ref n, .int i, .int x, .int y]) ∧ H n = some (.lst (ns.map V.int)) ∧ (∀ z ∈ ns, 0 ≤ z) ∧ 0 ≤ i ∧ 0 ≤ x ∧ 0 ≤ y ∧ ns.length ≤ 20
/-- the source stands at a still; all else that was tracked is as it was -/
def Stp (a n : Addr) (H H' : Hp) : Prop := Src H' a n ∧ ∀ c o, H c = some o → c ≠ a → H' c = some o
theorem Stp.trans {a n : Addr} {H H1 H2 : Hp} (h : Stp a n H H1) (h2 : Stp a n H1 H2) : Stp a n H H2 := ⟨h2.1, fun c o e z => h2.2 c o (h.2 c o e z) z⟩
theorem Stp.seq {a m l : Addr} {H H' : Hp} {xs : List V} (h : Stp a m H H') (n : l ≠ a) (q : SqL K H l xs) : SqL K H' l xs := by
  rcases q with (q | ⟨o, q⟩) | q
  · exact .inl (.inl (h.2 _ _ q n))
  · exact .inl (.inr ⟨o, h.2 _ _ q n⟩)
  · exact .inr q
theorem Src.ne {H : Hp} {a n : Addr} {i x y : Int} {ns : List Int} (h : H a = some (.lst [.ref n, .int i, .int x, .int y])) (h2 : H n = some (.lst (ns.map V.int))) : n ≠ a := fun e => by
  rw [e, h] at h2
  cases ns with
  | nil => cases h2
  | cons z r => cases h2
theorem same_upd {H : Hp} {p : Addr} {o : HO} (h : H p = none) : Same H (upd H p o) := fun b x e => by
  rw [upd_ne (ne_of_none e h)]
  exact e
theorem take_min (xs : List V) (n : Nat) : xs.take (min n xs.length) = xs.take n := by
  by_cases h : n ≤ xs.length
  · rw [Nat.min_eq_left h]
  · rw [Nat.min_eq_right (by omega), List.take_length, List.take_of_length_le (by omega)]
theorem cut_to (xs : List V) (n : Nat) : cutV xs none (some (n : Int)) = xs.take n := by
  unfold cutV
  rw [HT.sIx_none, HT.sIx_nat, List.drop_zero, Nat.sub_zero, take_min]
theorem cut_mid (xs : List V) (n m : Nat) (hnm : n ≤ m) : cutV xs (some (n : Int)) (some (m : Int)) = (xs.drop n).take (m - n) := by
  unfold cutV
  rw [HT.sIx_nat, HT.sIx_nat]
  by_cases h : n ≤ xs.length
  · rw [Nat.min_eq_left h]
    by_cases h2 : m ≤ xs.length
    · rw [Nat.min_eq_left h2]
    · rw [Nat.min_eq_right (by omega), List.take_of_length_le (by rw [List.length_drop]; omega), List.take_of_length_le (by rw [List.length_drop]; omega)]
  · rw [Nat.min_eq_right (show xs.length ≤ n by omega), List.drop_of_length_le (Nat.le_refl _), List.drop_of_length_le (show xs.length ≤ n by omega), List.take_nil, List.take_nil]
theorem cut_from (xs : List V) (n : Nat) : cutV xs (some (n : Int)) none = xs.drop n := by
  unfold cutV
  rw [HT.sIx_none, HT.sIx_nat]
  by_cases h : n ≤ xs.length
  · rw [Nat.min_eq_left h, List.take_of_length_le (by rw [List.length_drop]; omega)]
  · rw [Nat.min_eq_right (by omega), List.drop_of_length_le (by omega), List.drop_of_length_le (by omega), List.take_nil]
/-- for i, x in enumerate(list) -/
theorem for_enum {a : Addr} {xs : List V} {g : TG} {tb : TS} {D : Ends} {σ : L2.St} {H : Hp} (Pv : Nat → L2.St → Hp → Prop) (h0 : Pv 0 σ H) (hl : ∀ i σ H, i ≤ xs.length → Pv i σ H → SqL K H a xs)
    (hs : ∀ i x σ H T, xs[i]? = some x → Pv i σ H → H T = none → g (.ref T) σ (upd H T (.tup [.int (i : Nat), x])) fun σ2 H2 => tb { D with nx := Pv (i + 1), ct := Pv (i + 1), bk := D.nx } σ2 H2) (hd : ∀ σ H, Pv xs.length σ H → D.nx σ H) :
    ∃ W : Nat → Nat → L2.St → Hp → Prop, (∃ m, W 0 m σ H) ∧ ∀ i m σ H, W i m σ H →
      ((Ite K a).stop i H ∧ D.nx σ H) ∨ ((Ite K a).go i H ∧ ∃ N : L2.St → Hp → Prop, (∀ σ' H', N σ' H' → ∃ m', m' < m ∧ W (i + 1) m' σ' H') ∧ ∀ x H', (Ite K a).yld i H x H' → g x σ H' fun σ2 H2 => tb { D with nx := N, ct := N, bk := D.nx } σ2 H2) := by
  refine ⟨fun i m σ H => i + m = xs.length ∧ Pv i σ H, ⟨xs.length, by omega, h0⟩, ?_⟩
  rintro i m σ H ⟨hm, p⟩
  have q := hl i σ H (by omega) p
  by_cases hlt : i < xs.length
  · refine .inr ⟨⟨xs, xs[i], q, List.getElem?_eq_getElem hlt⟩, Pv (i + 1), fun σ' H' p' => ⟨m - 1, by omega, by omega, p'⟩, fun v H' y => ?_⟩
    obtain ⟨T, x, rfl, hT, rfl, y⟩ := y
    exact hs i x σ H T (y xs q) p hT
  · have e : i = xs.length := by omega
    subst e
    exact .inl ⟨⟨xs, q, Nat.le_refl _⟩, hd σ H p⟩
/-! ### draws -/
def absI (i : Int) : Int := if i < 0 then -i else i
theorem absI_nn (i : Int) : 0 ≤ absI i := by
  unfold absI
  split <;> omega
theorem scDrw : FnScope ["script", "number", "numbers", "index"] ["script"] (defScope sDrw) := ⟨rfl, rfl, rfl, by decide +kernel, rfl, by decide +kernel, by decide +kernel⟩
def spDrw (K : PySem.W.Frag) : Sp := fun vs H Q _ => ∃ (a : Addr) (ns : List Int), vs = [.ref a] ∧ SqL K H a (ns.map V.int) ∧ ns.length ≤ 63 ∧ ∀ H' p n, Same H H' → H p = none → H n = none → Src H' p n → Q (.ref p) H'
theorem map_get {ns : List Int} {i : Nat} {y : V} (h : (ns.map V.int)[i]? = some y) : ∃ z, ns[i]? = some z ∧ y = .int z := by
  rw [List.getElem?_map] at h
  cases e : ns[i]? with
  | none =>
    rw [e] at h
    cases h
  | some z =>
    rw [e] at h
    exact ⟨z, rfl, (Option.some.inj h).symm⟩
theorem ok_drw {f : Addr} {fd : FuncData} {k : Nat} (F : Fun K "_law_draws" "_law_draws" sDrw f fd) (me : mg "enumerate" = none) (ma : mg "abs" = none) : FnOk P w K mg base CX0 (k + 1) f fd ["script"] (spDrw K) := by
  refine F.ok scDrw (fun vs H Q E h => ?_) (fun cdv A outer s H vs Q E hr h => ?_)
  · obtain ⟨a, ns, rfl, _⟩ := h
    rfl
  · obtain ⟨a, ns, rfl, hS, hlen, q⟩ := h
    refine ⟨_, pss_cons (ps_setLc (i := 2) (own := [("number", 1)]) (g := gName 1) (tt := tYes) (by rfl) scDrw.nd rfl rfl (sw_true rfl rfl rfl (by decide +kernel)) (pi_list (pe_slice sl_list (pv 0) po_none (po_some pe_int))) (blkOk_by (N := ["script", "number", "numbers", "index"]) (sc := defScope sDrw) (by decide +kernel))
        (fun _ _ _ _ _ => pg_name (i := 1) scDrw.nd rfl (.inl rfl)) (fun _ _ _ _ _ => pts_nil) (fun _ _ _ _ _ => pe_callB call_abs (by rfl) ma (by decide +kernel) (pa_cons (pv 1) pa_nil)))
      (pss_cons (ps_for PassesOwn.never rfl (pi_enum (by rfl) me (pa_cons (pe_slice sl_list (pv 0) (po_some pe_int) (po_some pe_int)) pa_nil)) (pg_tup rfl (pgs_cons (pg_name (i := 3) scDrw.nd rfl (.inl rfl)) (pgs_cons (pg_name (i := 1) scDrw.nd rfl (.inl rfl)) pgs_nil)))
        (pss_one (ps_asg (pe_op op_add (pe_ix ix_list (pv 2) (pe_op op_modN (pv 3) pe_int) (fun _ _ => rfl)) (pe_callB call_abs (by rfl) ma (by decide +kernel) (pa_cons (pv 1) pa_nil))) (pg_sub (pv 2) (pe_op op_modN (pv 3) pe_int) set_list))))
      (pss_one (ps_ret (pe_lst (pa_cons (pv 2) (pa_cons pe_int (pa_cons pe_int (pa_cons pe_int pa_nil)))))))), ?_⟩
    have e1 : cutV (ns.map V.int) none (some 20) = (ns.take 20).map V.int := by
      rw [List.map_take]
      exact cut_to _ 20
    have e2 : cutV (ns.map V.int) (some 20) (some 60) = ((ns.drop 20).take 40).map V.int := by
      rw [List.map_take, List.map_drop]
      exact cut_mid _ 20 60 (by omega)
    refine ⟨.ref a, rfl, 20, rfl, a, ns.map V.int, rfl, hS, fun c nc => ⟨c, rfl, ⟨_, .inl (.inl upd_same)⟩, fun D nD => lc_list (K := K) (a := c) (xs := (ns.take 20).map V.int)
      (fun i H' => Same H H' ∧ H' c = some (.lst ((ns.take 20).map V.int)) ∧ H' D = some (.lst ((((ns.take 20).take i).map absI).map V.int))) ?_ ?_ ?_ ?_⟩⟩
    · have ncD : c ≠ D := fun e => by
        rw [← e, upd_same] at nD
        cases nD
      refine ⟨(same_upd nc).trans (same_upd nD), ?_, upd_same⟩
      rw [upd_ne ncD, upd_same, e1]
    · exact fun i H' _ h => .inl (.inl h.2.1)
    · rintro i y H1 hy ⟨sm, hc, hD⟩
      obtain ⟨z, hz, rfl⟩ := map_get hy
      refine ⟨rfl, _, rfl, z, rfl, _, hD, ?_, fun b o e => ?_, ?_, ?_⟩
      · rw [List.length_map, List.length_map]
        exact small1000 (by simp only [List.length_take]; omega)
      · rw [upd_ne (ne_of_none e ((same_upd nc).free nD))]
        exact sm _ _ e
      · have ncD : c ≠ D := fun e => by
          rw [← e, upd_same] at nD
          cases nD
        rw [upd_ne ncD]
        exact hc
      · rw [upd_same, List.take_add_one (l := List.take 20 ns), hz]
        simp only [Option.toList, List.map_append, List.map_cons, List.map_nil]
        rfl
    · rintro H1 ⟨sm, hc, hD⟩
      rw [List.length_map, List.take_length] at hD
      have hnD : H D = none := (same_upd nc).free nD
      generalize hms : (ns.take 20).map absI = ms at hD
      have hms0 : ∀ z ∈ ms, 0 ≤ z := fun z h => by
        rw [← hms] at h
        obtain ⟨u, _, rfl⟩ := List.mem_map.mp h
        exact absI_nn u
      have hml : ms.length = min 20 ns.length := by rw [← hms, List.length_map, List.length_take]
      refine ⟨.ref a, rfl, 20, rfl, 60, rfl, a, ns.map V.int, rfl, sm.seq hS, fun c2 nc2 => ⟨c2, _, rfl, .inl (.inl upd_same), ?_⟩⟩
      have nD2 : D ≠ c2 := ne_of_none hD nc2
      refine for_enum (K := K) (a := c2) (xs := ((ns.drop 20).take 40).map V.int) (fun i σ H' => ∃ (y1 y3 : Option V) (ks : List Int), σ = [some (.ref a), y1, some (.ref D), y3] ∧ Same H H' ∧ H' c2 = some (.lst (((ns.drop 20).take 40).map V.int)) ∧ H' D = some (.lst (ks.map V.int)) ∧ ks.length = ms.length ∧ ∀ z ∈ ks, 0 ≤ z) ?_ ?_ ?_ ?_
      · refine ⟨_, none, ms, rfl, sm.trans (same_upd nc2), ?_, ?_, rfl, hms0⟩
        · rw [upd_same, e2]
        · rw [upd_ne nD2]
          exact hD
      · rintro i σ H' _ ⟨_, _, _, _, _, hc2, _⟩
        exact .inl (.inl hc2)
      · rintro i x σ H' T hx ⟨y1, y3, ks, rfl, sm', hc2, hD', hl', hn'⟩ hT
        obtain ⟨z, hz, rfl⟩ := map_get hx
        have hi : i < ((ns.drop 20).take 40).length := (List.getElem?_eq_some_iff.mp hz).1
        rw [List.length_take, List.length_drop] at hi
        have hj : i % 20 < ks.length := by
          rw [hl', hml, Nat.min_eq_left (by omega)]
          exact Nat.mod_lt _ (by decide)
        have ej : ((i : Int)).fmod 20 = ((i % 20 : Nat) : Int) := by
          rw [Int.fmod_eq_emod_of_nonneg _ (by decide)]
          omega
        have hDT : D ≠ T := ne_of_none hD' hT
        have hD2 : (upd H' T (.tup [.int (i : Nat), .int z])) D = some (.lst (ks.map V.int)) := by
          rw [upd_ne hDT]
          exact hD'
        have gk : (ks.map V.int)[i % 20]? = some (.int ks[i % 20]) := by
          rw [List.getElem?_map, List.getElem?_eq_getElem hj]
          rfl
        refine ⟨T, _, rfl, .inl (.inl upd_same), rfl, _, _, rfl, _, _, rfl, rfl, ?_⟩
        refine ⟨_, rfl, _, rfl, _, _, rfl, rfl, mod20, D, ks.map V.int, _, _, rfl, rfl, .inl (.inl hD2), at_of ej gk, _, rfl, z, rfl, _, _, rfl, rfl, ?_⟩
        refine ⟨_, rfl, _, rfl, _, _, rfl, rfl, mod20, D, ks.map V.int, _, i % 20, rfl, rfl, hD2, ?_, ?_⟩
        · rw [ej, List.length_map]
          exact Evl.ixN_nat hj
        · refine ⟨_, _, ks.set (i % 20) (ks[i % 20] + absI z), rfl, fun b o e => ?_, ?_, ?_, by rw [List.length_set, hl'], ?_⟩
          · have nb : b ≠ D := ne_of_none e hnD
            rw [upd_ne nb, upd_ne (ne_of_none (sm' _ _ e) hT)]
            exact sm' _ _ e
          · have nc2D : c2 ≠ D := nD2.symm
            rw [upd_ne nc2D, upd_ne (ne_of_none hc2 hT)]
            exact hc2
          · rw [upd_same, List.map_set]
            rfl
          · intro u hu
            rcases List.mem_or_eq_of_mem_set hu with h | rfl
            · exact hn' _ h
            · have := hn' _ (List.getElem_mem hj)
              have := absI_nn z
              omega
      · rintro σ H' ⟨y1, y3, ks, rfl, sm', hc2, hD', hl', hn'⟩
        refine ⟨_, rfl, by show 4 ≤ sizeLine; decide, fun p np => ?_⟩
        refine q _ p D (sm'.trans (same_upd np)) (sm'.free np) hnD ⟨0, 0, 0, ks, upd_same, ?_, hn', by decide, by decide, by decide, by rw [hl', hml]; omega⟩
        rw [upd_ne (ne_of_none hD' np)]
        exact hD'
end
section
variable {P : Program} {w : World} {K : PySem.W.Frag} {mg : Str → Option Value} {base : Heap}
/-! ### next -/
theorem scNxt : FnScope ["source", "bound", "numbers", "index", "number", "found"] ["source", "bound"] (defScope sNxt) := ⟨rfl, rfl, rfl, by decide +kernel, rfl, by decide +kernel, by decide +kernel⟩
def spNxt : Sp := fun vs H Q _ => ∃ (a n : Addr) (b : Int), vs = [.ref a, .int b] ∧ Src H a n ∧ 0 < b ∧ b.natAbs < 2 ^ 200 ∧ ∀ (r : Int) H', 0 ≤ r → r < b → Stp a n H H' → Q (.int r) H'
theorem dp_ints {H : Hp} : ∀ ns : List Int, DpAll K H (ns.map V.int) (ns.map PyData.int)
  | [] => .nil
  | z :: r => .cons (.int z) (dp_ints r)
theorem lay_ints : ∀ ns : List Int, PyData.canLayAll0 (ns.map PyData.int) = true
  | [] => by simp [PyData.canLayAll0]
  | z :: r => by
    have ih := lay_ints r
    simp [PyData.canLayAll0, PyData.canLay0, ih]
theorem depth_ints : ∀ ns : List Int, PyData.depthAll (ns.map PyData.int) = 0
  | [] => by simp [PyData.depthAll]
  | z :: r => by
    have ih := depth_ints r
    simp [PyData.depthAll, PyData.depth, ih]
theorem shaped_ints (ns : List Int) : SeqAt.shaped (.list (ns.map PyData.int)) = true := by
  unfold SeqAt.shaped
  simp [PyData.canLay0, PyData.depth, lay_ints, depth_ints]
theorem mod1e9 : (1000000007 : Int) ≠ 0 := by decide
/-- the source's four places -/
abbrev src4 (n : Addr) (i x y : Int) : HO := .lst [.ref n, .int i, .int x, .int y]
theorem ok_nxt {f fS : Addr} {fd fdS : FuncData} {k : Nat} (F : Fun K "_law_next" "_law_next" sNxt f fd) (ml : mg "len" = none) (FS : Fun K "_law_scramble" "_law_scramble" sScr fS fdS) (bS : Binds K fdS ["number", "index"] []) (gS : mg "_law_scramble" = some (.ref fS)) (mr : mg "range" = none) :
    FnOk P w K mg base CX0 (k + 2) f fd ["source", "bound"] spNxt := by
  have GS : FnOk P w K mg base CX0 (k + 1) fS fdS ["number", "index"] spScr := ok_scr FS mr
  refine F.ok scNxt (fun vs H Q E h => ?_) (fun cdv A outer s H vs Q E hr h => ?_)
  · obtain ⟨a, n, b, rfl, _⟩ := h
    rfl
  · obtain ⟨a, n, b, rfl, ⟨i, x, y, ns, hA, hN, hpos, hi, hx, hy, hlen⟩, hb, hb2, q⟩ := h
    have nna : n ≠ a := Src.ne hA hN
    refine ⟨_, C8.pss_cut (ps_if (pt_cmpR op_lt (pe_ix ix_list (pv 0) pe_int (fun _ _ => rfl)) (pv 1) (nomark _))
        (pss_cons (ps_par (i := 2) (j := 3) (by rfl) scNxt.nd rfl rfl (by decide) rfl rfl (pa_cons (pe_ix ix_list (pv 0) pe_int (fun _ _ => rfl)) (pa_cons (pe_ix ix_list (pv 0) pe_int (fun _ _ => rfl)) pa_nil)) (by rfl))
        (C8.pss_cut (ps_set (i := 4) scNxt.nd rfl (.inl rfl) (pe_ifExp (pt_cmpR (op_neD hr.units) (pv 2) (pe_lst pa_nil) (nomark _)) (pe_ix ix_list (pv 2) (pe_op op_modN (pv 3) (pe_callB call_len_seq (by rfl) ml PySem.boot_len (pa_cons (pv 2) pa_nil))) (fun _ _ => rfl)) pe_int))
        (C8.pss_cut (ps_if (PW.pt (pw_or (pt_cmpR op_ge (pv 3) (pe_callB call_len_seq (by rfl) ml PySem.boot_len (pa_cons (pv 2) pa_nil)) (nomark _)) (pw_or1 (pt_cmpR op_lt (pv 4) pe_int (nomark _)))))
            (pss_one (ps_set (i := 4) scNxt.nd rfl (.inl rfl) (pe_call GS hr (by rfl) gS FS.kp bS .nil pass0 (pa_cons (pe_op op_modN (pv 4) pe_int) (pa_cons (pv 3) pa_nil))))) pss_nil)
        (pss_cons (ps_asg (pe_op op_add (pv 3) pe_int) (pg_sub (pv 0) pe_int set_list))
        (pss_cons (ps_asg (pv 4) (pg_sub (pv 0) pe_int set_list))
        (pss_one (ps_asg (pv 4) (pg_sub (pv 0) pe_int set_list)))))))) pss_nil)
      (pss_cons (ps_set (i := 5) scNxt.nd rfl (.inl rfl) (pe_op op_modN (pe_ix ix_list (pv 0) pe_int (fun _ _ => rfl)) (pv 1)))
      (pss_cons (ps_asg (pe_op op_fdivW (pe_ix ix_list (pv 0) pe_int (fun _ _ => rfl)) (pv 1)) (pg_sub (pv 0) pe_int set_list))
      (pss_cons (ps_asg (pe_op op_fdivW (pe_ix ix_list (pv 0) pe_int (fun _ _ => rfl)) (pv 1)) (pg_sub (pv 0) pe_int set_list))
      (pss_one (ps_ret (pv 5)))))), ?_⟩
    refine ⟨fun σ H' => ∃ (y2 y3 y4 : Option V) (i' x' y' : Int), σ = [some (.ref a), some (.int b), y2, y3, y4, none] ∧ H' a = some (src4 n i' x' y') ∧ 0 ≤ i' ∧ 0 ≤ x' ∧ 0 ≤ y' ∧ ∀ c o, H c = some o → c ≠ a → H' c = some o, ?_, ?_⟩
    · refine ⟨.ref a, rfl, a, _, 3, _, rfl, rfl, .inl (.inl hA), atI_nat (j := 3) rfl, _, rfl, y, b, rfl, rfl, _, rfl, ite2 (fun _ => ?_) (fun _ => ?_)⟩
      · refine ⟨.ref a, rfl, a, _, 0, _, rfl, rfl, .inl (.inl hA), atI_nat (j := 0) rfl, .ref a, rfl, a, _, 1, _, rfl, rfl, .inl (.inl hA), atI_nat (j := 1) rfl, _, _, rfl, ?_⟩
        refine ⟨fun σ H' => ∃ z : Int, σ = [some (.ref a), some (.int b), some (.ref n), some (.int i), some (.int z), none] ∧ 0 ≤ z ∧ Same H H', ?_, ?_⟩
        · refine ⟨.ref n, rfl, by show 0 ≤ sizeLine; decide, fun p np => ?_⟩
          have hN1 : (upd H p (.lst [])) n = some (.lst (ns.map V.int)) := same_upd np _ _ hN
          refine ⟨.list (ns.map PyData.int), .list [], .lst (.inl (.inl hN1)) (dp_ints ns), .lst (.inl (.inl upd_same)) .nil, shaped_ints ns, shaped_ints [], _, rfl, ite2 (fun hne => ?_) (fun he => ?_)⟩
          · have nz : ns ≠ [] := fun e => by
              subst e
              revert hne
              decide +kernel
            have hl0 : 0 < ns.length := List.length_pos_iff.mpr nz
            have hj : i.toNat % ns.length < ns.length := Nat.mod_lt _ hl0
            have ej : i.fmod (ns.length : Int) = ((i.toNat % ns.length : Nat) : Int) := by
              rw [Int.fmod_eq_emod_of_nonneg _ (by omega), Int.natCast_emod]
              congr 1
              omega
            have gk : (ns.map V.int)[i.toNat % ns.length]? = some (.int ns[i.toNat % ns.length]) := by
              rw [List.getElem?_map, List.getElem?_eq_getElem hj]
              rfl
            refine ⟨.ref n, rfl, _, rfl, .ref n, rfl, n, _, rfl, .inl (.inl (.inl hN1)), _, _, rfl, rfl, ?_, n, _, _, _, rfl, rfl, .inl (.inl hN1), at_of (by rw [List.length_map]; exact ej) gk, ?_⟩
            · rw [List.length_map]
              omega
            · exact ⟨_, rfl, hpos _ (List.getElem_mem hj), same_upd np⟩
          · exact ⟨0, rfl, by decide, same_upd np⟩
        · rintro σ H1 ⟨z, rfl, hz, sm⟩
          have hN1 := sm _ _ hN
          have hA1 := sm _ _ hA
          refine ⟨fun σ H' => ∃ z : Int, σ = [some (.ref a), some (.int b), some (.ref n), some (.int i), some (.int z), none] ∧ 0 ≤ z ∧ Same H H', ?_, ?_⟩
          · refine ⟨_, rfl, .ref n, rfl, n, _, rfl, .inl (.inl (.inl hN1)), _, _, rfl, rfl, _, rfl, ite2 (fun _ => ?_) (fun _ => ?_)⟩
            · exact ⟨_, rfl, _, _, rfl, rfl, mod1e9, _, rfl, _, _, rfl, fun r h0 => ⟨r, rfl, h0, sm⟩⟩
            · refine ⟨_, rfl, _, _, rfl, rfl, _, rfl, ite2 (fun _ => ?_) (fun _ => ?_)⟩
              · exact ⟨_, rfl, _, _, rfl, rfl, mod1e9, _, rfl, _, _, rfl, fun r h0 => ⟨r, rfl, h0, sm⟩⟩
              · exact ⟨z, rfl, hz, sm⟩
          · rintro σ H2 ⟨z2, rfl, hz2, sm2⟩
            have hA2 := sm2 _ _ hA
            refine ⟨_, rfl, _, _, rfl, rfl, .ref a, rfl, a, _, _, 1, rfl, rfl, hA2, rfl, ?_⟩
            refine ⟨_, rfl, .ref a, rfl, a, _, _, 2, rfl, rfl, upd_same, rfl, ?_⟩
            refine ⟨_, rfl, .ref a, rfl, a, _, _, 3, rfl, rfl, upd_same, rfl, ?_⟩
            refine ⟨_, _, _, i + 1, z2, z2, rfl, upd_same, by omega, hz2, hz2, fun c o e ne => ?_⟩
            rw [upd_ne ne, upd_ne ne, upd_ne ne]
            exact sm2 _ _ e
      · exact ⟨none, none, none, i, x, y, rfl, hA, hi, hx, hy, fun c o e _ => e⟩
    · rintro σ H' ⟨y2, y3, y4, i', x', y', rfl, hA', hi', hx', hy', kp⟩
      have bne : b ≠ 0 := by omega
      have wd : ∀ u : Int, CDivW u b := fun u => wide_div hb hb2 (by decide) (by decide)
      refine ⟨.ref a, rfl, a, _, 2, _, rfl, rfl, .inl (.inl hA'), atI_nat (j := 2) rfl, _, rfl, _, _, rfl, rfl, bne, ?_⟩
      refine ⟨.ref a, rfl, a, _, 2, _, rfl, rfl, .inl (.inl hA'), atI_nat (j := 2) rfl, _, rfl, _, _, rfl, rfl, wd _, .ref a, rfl, a, _, _, 2, rfl, rfl, hA', rfl, ?_⟩
      refine ⟨.ref a, rfl, a, _, 3, _, rfl, rfl, .inl (.inl upd_same), atI_nat (j := 3) rfl, _, rfl, _, _, rfl, rfl, wd _, .ref a, rfl, a, _, _, 3, rfl, rfl, upd_same, rfl, ?_⟩
      refine ⟨_, rfl, q _ _ (Int.fmod_nonneg_of_pos _ hb) (Int.fmod_lt_of_pos _ hb) ⟨⟨i', x' / b, y' / b, ns, upd_same, ?_, hpos, hi', Int.ediv_nonneg hx' (by omega), Int.ediv_nonneg hy' (by omega), hlen⟩, fun c o e ne => ?_⟩⟩
      · rw [upd_ne nna, upd_ne nna]
        exact kp _ _ hN nna
      · rw [upd_ne ne, upd_ne ne]
        exact kp _ _ e ne
/-! ### choose -/
theorem scCho : FnScope ["source", "items"] ["source", "items"] (defScope sCho) := ⟨rfl, rfl, rfl, by decide +kernel, rfl, by decide +kernel, by decide +kernel⟩
def spCho (K : PySem.W.Frag) : Sp := fun vs H Q _ => ∃ (a n l : Addr) (xs : List V), vs = [.ref a, .ref l] ∧ Src H a n ∧ SqL K H l xs ∧ l ≠ a ∧ xs ≠ [] ∧ xs.length ≤ 1000000 ∧ ∀ v H', v ∈ xs → Stp a n H H' → Q v H'
theorem ok_cho {f fN : Addr} {fd fdN : FuncData} {k : Nat} (F : Fun K "_law_choose" "_law_choose" sCho f fd) (ml : mg "len" = none) (GN : FnOk P w K mg base CX0 (k + 2) fN fdN ["source", "bound"] spNxt) (kN : PySem.W.keepIn K (.ref fN) = true) (bN : Binds K fdN ["source", "bound"] []) (gN : mg "_law_next" = some (.ref fN)) :
    FnOk P w K mg base CX0 (k + 3) f fd ["source", "items"] (spCho K) := by
  refine F.ok scCho (fun vs H Q E h => ?_) (fun cdv A outer s H vs Q E hr h => ?_)
  · obtain ⟨a, n, l, xs, rfl, _⟩ := h
    rfl
  · obtain ⟨a, n, l, xs, rfl, hs, hl, hne, hx, hz, q⟩ := h
    refine ⟨_, pss_one (ps_ret (pe_ix ix_list (pv 1) (pe_call GN hr (by rfl) gN kN bN .nil pass0 (pa_cons (pv 0) (pa_cons (pe_callB call_len_seq (by rfl) ml PySem.boot_len (pa_cons (pv 1) pa_nil)) pa_nil))) (fun _ _ => rfl))), ?_⟩
    have hlp : 0 < xs.length := List.length_pos_iff.mpr hx
    refine ⟨.ref l, rfl, .ref a, rfl, .ref l, rfl, l, xs, rfl, .inl hl, a, n, _, rfl, hs, by omega, ?_, fun r H' h0 h1 st => ?_⟩
    · rw [Int.natAbs_natCast]
      exact Nat.lt_of_le_of_lt hz (by decide)
    · obtain ⟨j, rfl⟩ := Int.eq_ofNat_of_zero_le h0
      have hj : j < xs.length := by omega
      exact ⟨l, xs, _, _, rfl, rfl, st.seq hne hl, atI_nat (List.getElem?_eq_getElem hj), q _ _ (List.getElem_mem hj) st⟩
/-! ### identical -/
theorem scIde : FnScope ["found", "expected"] ["found", "expected"] (defScope sIde) := ⟨rfl, rfl, rfl, by decide +kernel, rfl, by decide +kernel, by decide +kernel⟩
/-- data that is shown -/
structure Shn (d : PyData) : Prop where
  sh : d.showable = true
  nd : d.hasDict = false
  dp : d.depth ≤ 60
  sz : d.shown.length ≤ sizeLine
def spIde (K : PySem.W.Frag) : Sp := fun vs H Q _ => ∃ (x y : V) (d : PyData), vs = [x, y] ∧ Dp K H x d ∧ Dp K H y d ∧ Shn d ∧ Q (.bl true) H
theorem ok_ide {f : Addr} {fd : FuncData} {k : Nat} (F : Fun K "_law_identical" "_law_identical" sIde f fd) (mp : mg "repr" = none) : FnG P w K mg base (k + 1) f fd ["found", "expected"] (spIde K) := by
  refine Fun_okG F scIde (fun vs H Q E h => ?_) (fun cdv A outer s H vs Q E hg hr h => ?_)
  · obtain ⟨x, y, d, rfl, _⟩ := h
    rfl
  · obtain ⟨x, y, d, rfl, hx, hy, hd, q⟩ := h
    have hun : (cxOf CX0 P w K mg base ["found", "expected"] "_law_identical" (defScope sIde) f cdv A outer s H E).nox.A.units + 100 < cLine := by
      have := hr.un
      show (A.deeper _).units + 100 < cLine
      omega
    refine ⟨_, pss_one (ps_ret (pe_cmpR op_eq (pe_callB (call_reprD hg hun) (by rfl) mp (by decide +kernel) (pa_cons (pv 0) pa_nil)) (pe_callB (call_reprD hg hun) (by rfl) mp (by decide +kernel) (pa_cons (pv 1) pa_nil)) (nomark _))), ?_⟩
    refine ⟨x, rfl, x, d, rfl, hx, hd.sh, hd.nd, hd.dp, hd.sz, y, rfl, y, d, rfl, hy, hd.sh, hd.nd, hd.dp, hd.sz, rfl, ?_⟩
    rw [decide_eq_true rfl]
    exact q
end
section
variable {P : Program} {w : World} {K : PySem.W.Frag} {mg : Str → Option Value} {base : Heap}
theorem eqv_ints : ∀ as bs : List Int, PyData.eqvAll (as.map PyData.int) (bs.map PyData.int) = decide (as = bs)
  | [], [] => by simp [PyData.eqvAll]
  | [], b :: bs => by simp [PyData.eqvAll]
  | a :: as, [] => by simp [PyData.eqvAll]
  | a :: as, b :: bs => by
    have ih := eqv_ints as bs
    rw [List.map_cons, List.map_cons]
    show (PyData.eqvAll (.int a :: as.map PyData.int) (.int b :: bs.map PyData.int)) = _
    rw [PyData.eqvAll, ih, PyData.eqv]
    by_cases e1 : a = b <;> by_cases e2 : as = bs <;> simp [e1, e2]
theorem shaped_intsT (ns : List Int) : SeqAt.shaped (.tuple (ns.map PyData.int)) = true := by
  unfold SeqAt.shaped
  simp [PyData.canLay0, PyData.depth, lay_ints, depth_ints]
theorem dp_tup {H : Hp} {a : Addr} {ns : List Int} (h : SqT K H a (ns.map V.int)) : Dp K H (.ref a) (.tuple (ns.map PyData.int)) := .tup h (dp_ints ns)
theorem eqvT (as bs : List Int) : PyData.eqv (.tuple (as.map PyData.int)) (.tuple (bs.map PyData.int)) = decide (as = bs) := by
  rw [← eqv_ints]
  simp [PyData.eqv]
end
abbrev sCmp : Stmt := topS 9
section
variable {P : Program} {w : World} {K : PySem.W.Frag} {mg : Str → Option Value} {base : Heap}
/-! ### compare -/
def cmpI (as bs : List Int) : Int := if as = bs then 0 else if as.length = bs.length then (if HT.lexLt as bs = true then -1 else 1) else if as.length < bs.length then -1 else 1
theorem scCmp : FnScope ["first", "second"] ["first", "second"] (defScope sCmp) := ⟨rfl, rfl, rfl, by decide +kernel, rfl, by decide +kernel, by decide +kernel⟩
def spCmp (K : PySem.W.Frag) : Sp := fun vs H Q _ => ∃ (a b : Addr) (as bs : List Int), vs = [.ref a, .ref b] ∧ SqT K H a (as.map V.int) ∧ SqT K H b (bs.map V.int) ∧ Q (.int (cmpI as bs)) H
theorem ok_cmp {f : Addr} {fd : FuncData} {k : Nat} (F : Fun K "compare" "compare" sCmp f fd) (ml : mg "len" = none) : FnOk P w K mg base CX0 (k + 1) f fd ["first", "second"] (spCmp K) := by
  refine F.ok scCmp (fun vs H Q E h => ?_) (fun cdv A outer s H vs Q E hr h => ?_)
  · obtain ⟨a, b, as, bs, rfl, _⟩ := h
    rfl
  · obtain ⟨a, b, as, bs, rfl, ha, hb, q⟩ := h
    refine ⟨_, pss_cons (ps_if (pt_cmpR (op_eqD hr.units) (pv 0) (pv 1) (nomark _)) (pss_one (ps_ret pe_int)) pss_nil)
      (pss_cons (ps_if (pt_cmpR op_ne (pe_callB call_len_seq (by rfl) ml PySem.boot_len (pa_cons (pv 0) pa_nil)) (pe_callB call_len_seq (by rfl) ml PySem.boot_len (pa_cons (pv 1) pa_nil)) (nomark _))
        (pss_one (ps_ret (pe_ifExp (pt_cmpR op_lt (pe_callB call_len_seq (by rfl) ml PySem.boot_len (pa_cons (pv 0) pa_nil)) (pe_callB call_len_seq (by rfl) ml PySem.boot_len (pa_cons (pv 1) pa_nil)) (nomark _)) (pe_un un_neg pe_int) pe_int))) pss_nil)
      (pss_one (ps_ret (pe_ifExp (pt_cmpR (op_ltT hr.units0) (pv 0) (pv 1) (nomark _)) (pe_un un_neg pe_int) pe_int)))), ?_⟩
    refine ⟨_, rfl, _, rfl, _, _, dp_tup ha, dp_tup hb, shaped_intsT _, shaped_intsT _, _, rfl, ?_⟩
    rw [eqvT]
    refine ite2 (fun e => ?_) (fun e => ?_)
    · have e' := of_decide_eq_true e
      have : cmpI as bs = 0 := if_pos e'
      rw [this] at q
      exact q
    · have e' : as ≠ bs := fun z => e (decide_eq_true z)
      refine ⟨_, rfl, a, _, rfl, .inr ha, _, rfl, b, _, rfl, .inr hb, rfl, _, rfl, ?_⟩
      rw [List.length_map, List.length_map]
      have hde : (decide (V.int (as.length : Int) = V.int (bs.length : Int))) = decide (as.length = bs.length) := by
        by_cases el : as.length = bs.length
        · rw [el]
          simp
        · rw [decide_eq_false el, decide_eq_false fun z => el (by have := V.int.inj z; omega)]
      rw [hde]
      refine ite2 (fun e2 => ?_) (fun e2 => ?_)
      · have el : as.length ≠ bs.length := by simpa using e2
        have ec : cmpI as bs = if as.length < bs.length then -1 else 1 := by
          unfold cmpI
          rw [if_neg e', if_neg el]
        rw [ec] at q
        refine ⟨_, rfl, a, _, rfl, .inr ha, _, rfl, b, _, rfl, .inr hb, _, _, rfl, rfl, _, rfl, ?_⟩
        rw [List.length_map, List.length_map]
        refine ite2 (fun c => ?_) (fun c => ?_)
        · have c' : as.length < bs.length := by
            have := of_decide_eq_true c
            omega
          rw [if_pos c'] at q
          exact ⟨1, rfl, q⟩
        · have c' : ¬ as.length < bs.length := fun z => c (decide_eq_true (by omega))
          rw [if_neg c'] at q
          exact q
      · have el : as.length = bs.length := by simpa using e2
        have ec : cmpI as bs = if HT.lexLt as bs = true then -1 else 1 := by
          unfold cmpI
          rw [if_neg e', if_pos el]
        rw [ec] at q
        refine ⟨_, rfl, _, rfl, a, b, as, bs, rfl, rfl, ha, hb, _, rfl, ?_⟩
        refine ite2 (fun c => ?_) (fun c => ?_)
        · rw [if_pos c] at q
          exact ⟨1, rfl, q⟩
        · rw [if_neg c] at q
          exact q
end

/-! tuples joined, repeated, cut: some tuple, all else as it was -/
theorem Same.seqT {K : PySem.W.Frag} {H H' : Hp} {a : Addr} {xs : List V} (e : Same H H') (h : SqT K H a xs) : SqT K H' a xs := by
  rcases h with (h | ⟨o, h⟩) | h
  · exact .inl (.inl (e _ _ h))
  · exact .inl (.inr ⟨o, e _ _ h⟩)
  · exact .inr h
theorem Stp.seqT {K : PySem.W.Frag} {a m l : Addr} {H H' : Hp} {xs : List V} (h : Stp a m H H') (n : SqT K H l xs → l ≠ a) (q : SqT K H l xs) : SqT K H' l xs := by
  have n := n q
  rcases q with (q | ⟨o, q⟩) | q
  · exact .inl (.inl (h.2 _ _ q n))
  · exact .inl (.inr ⟨o, h.2 _ _ q n⟩)
  · exact .inr q
theorem Src.same {H H' : Hp} {a n : Addr} (h : Src H a n) (e : Same H H') : Src H' a n := by
  obtain ⟨i, x, y, ns, h1, h2, h3⟩ := h
  exact ⟨i, x, y, ns, e _ _ h1, e _ _ h2, h3⟩
theorem Stp.of {H H' : Hp} {a n : Addr} (h : Src H a n) (e : Same H H') : Stp a n H H' := ⟨h.same e, fun c o z _ => e c o z⟩
theorem Stp.refl {H : Hp} {a n : Addr} (h : Src H a n) : Stp a n H H := .of h (Same.refl H)
theorem Stp.then {H H1 H2 : Hp} {a n : Addr} (h : Stp a n H H1) (e : Same H1 H2) : Stp a n H H2 := h.trans (.of h.1 e)
section
variable {X : Cx}
def rRepU (K : PySem.W.Frag) : R2 := fun x y H Q => ∃ l k xs, x = .ref l ∧ y = .int k ∧ SqT K H l xs ∧ xs.length = 1 ∧ -1000 ≤ k ∧ k ≤ 1000 ∧ ∀ p H', Same H H' → SqT K H' p (List.replicate k.toNat xs).flatten → Q (.ref p) H'
theorem op_repU : OpR X (binaryOp .Mult) (rRepU X.K) := by
  intro pins s σ H x y v u Q I rx ry h
  obtain ⟨l, k, xs, hx, hy, hT, hl, h1, h2, q⟩ := h
  refine op_repZ pins s σ H x y v u Q I rx ry ⟨l, k, xs, hx, hy, hT, ?_, h1, h2, by omega, fun h0 p np => ?_, fun h0 => ?_, fun h0 p np => ?_⟩
  · rintro rfl
    cases hl
  · refine q p _ (same_upd np) (.inl (.inl ?_))
    have e : k.toNat = 0 := by omega
    rw [e, upd_same]
    rfl
  · refine q l H (Same.refl H) ?_
    subst h0
    have e : (List.replicate (1 : Int).toNat xs).flatten = xs := by
      show (List.replicate 1 xs).flatten = xs
      simp
    rw [e]
    exact hT
  · exact q p _ (same_upd np) (.inl (.inl upd_same))
def rCatU (K : PySem.W.Frag) : R2 := fun x y H Q => ∃ a b xs ys, x = .ref a ∧ y = .ref b ∧ SqT K H a xs ∧ SqT K H b ys ∧ xs.length + ys.length ≤ sizeLine ∧ ∀ p H', Same H H' → SqT K H' p (xs ++ ys) → Q (.ref p) H'
theorem op_catU : OpR X (binaryOp .Add) (rCatU X.K) := by
  intro pins s σ H x y v u Q I rx ry h
  obtain ⟨a, b, xs, ys, hx, hy, ha, hb, hl, q⟩ := h
  refine op_catA pins s σ H x y v u Q I rx ry ⟨a, b, xs, ys, hx, hy, ha, hb, hl, fun e => ?_, fun _ e => ?_, fun _ _ p np => ?_⟩
  · subst e
    exact q b H (Same.refl H) hb
  · subst e
    exact q a H (Same.refl H) (by rw [List.append_nil]; exact ha)
  · exact q p _ (same_upd np) (.inl (.inl upd_same))
def rSlU (K : PySem.W.Frag) : V → Option Int → Option Int → Hp → VK → Prop := fun x lo hi H Q => ∃ a xs, x = .ref a ∧ SqT K H a xs ∧ ∀ p H', Same H H' → SqT K H' p (cutV xs lo hi) → Q (.ref p) H'
theorem sl_tupU : SlR X (rSlU X.K) := by
  intro pins s σ H x v vl vu lo hi sl Q I rx i1 i2 i3 hq
  obtain ⟨a, xs, hx, ha, q⟩ := hq
  refine sl_tupA pins s σ H x v vl vu lo hi sl Q I rx i1 i2 i3 ⟨a, xs, hx, ha, fun e => ?_, fun _ p np => ?_⟩
  · refine q a H (Same.refl H) ?_
    unfold cutV
    rw [e.1, e.2, List.drop_zero, Nat.sub_zero, List.take_length]
    exact ha
  · exact q p _ (same_upd np) (.inl (.inl upd_same))
end
theorem flat_one (n : Nat) (z : Int) : (List.replicate n [V.int z]).flatten = (List.replicate n z).map V.int := by
  induction n with
  | zero => rfl
  | succ n ih =>
    rw [List.replicate_succ, List.flatten_cons, ih, List.replicate_succ]
    rfl

abbrev sRnd : Stmt := topS 21
theorem Stp.tup {K : PySem.W.Frag} {a n l : Addr} {H H' : Hp} {xs : List V} (h : Stp a n H H') (hs : Src H a n) (q : SqT K H l xs) : SqT K H' l xs := by
  obtain ⟨i, x, y, ns, ha, _⟩ := hs
  rcases q with (q | ⟨o, q⟩) | q
  · exact .inl (.inl (h.2 _ _ q fun e => by rw [e, ha] at q; cases q))
  · exact .inl (.inr ⟨o, h.2 _ _ q fun e => by rw [e, ha] at q; cases q⟩)
  · exact .inr q
theorem Src.has {a n l : Addr} {H : Hp} (hs : Src H a n) (hl : H l = none) : l ≠ a := fun e => by
  obtain ⟨i, x, y, ns, ha, _⟩ := hs
  rw [e, ha] at hl
  cases hl
theorem Src.hasN {a n l : Addr} {H : Hp} (hs : Src H a n) (hl : H l = none) : l ≠ n := fun e => by
  obtain ⟨i, x, y, ns, _, hn, _⟩ := hs
  rw [e, hn] at hl
  cases hl
/-- an object beside the source and its numbers is changed -/
theorem Src.upd {a n l : Addr} {H : Hp} {o : HO} (hs : Src H a n) (h : l ≠ a) (h2 : l ≠ n) : Src (upd H l o) a n := by
  obtain ⟨i, x, y, ns, ha, hn, r⟩ := hs
  exact ⟨i, x, y, ns, by rw [upd_ne (Ne.symm h)]; exact ha, by rw [upd_ne (Ne.symm h2)]; exact hn, r⟩
/-- .. that was not there at the start -/
theorem Stp.upd {a n l : Addr} {H H' : Hp} {o : HO} (h : Stp a n H H') (hs : Src H a n) (hl : H l = none) : Stp a n H (upd H' l o) := by
  refine ⟨h.1.upd (hs.has hl) (hs.hasN hl), fun c o' e ne => ?_⟩
  rw [upd_ne (ne_of_none e hl)]
  exact h.2 c o' e ne
section
variable {P : Program} {w : World} {K : PySem.W.Frag} {mg : Str → Option Value} {base : Heap}
theorem scRnd : FnScope ["source", "degrees", "most", "coefficients", "index", "big"] ["source", "degrees", "most"] (defScope sRnd) := ⟨rfl, rfl, rfl, by decide +kernel, rfl, by decide +kernel, by decide +kernel⟩
structure Ordn (d m : Int) (zs : List Int) : Prop where
  len : (zs.length : Int) ≤ d
  nn : ∀ z ∈ zs, 0 ≤ z
  le : ∀ z ∈ zs, z ≤ max 2 m
  hd : zs.head? ≠ some 0
def spRnd (K : PySem.W.Frag) : Sp := fun vs H Q _ => ∃ (a n : Addr) (d m : Int), vs = [.ref a, .int d, .int m] ∧ Src H a n ∧ 0 ≤ d ∧ d ≤ 900 ∧ 0 ≤ m ∧ m.natAbs < 2 ^ 100 ∧ ∀ p H' zs, Stp a n H H' → SqT K H' p (zs.map V.int) → Ordn d m zs → Q (.ref p) H'
theorem ok_rnd {f fN fC : Addr} {fd fdN fdC : FuncData} {k : Nat} (F : Fun K "_law_random_ordinal" "_law_random_ordinal" sRnd f fd) (mr : mg "range" = none) (mt : mg "tuple" = none)
    (GN : FnOk P w K mg base CX0 (k + 3) fN fdN ["source", "bound"] spNxt) (kN : PySem.W.keepIn K (.ref fN) = true) (bN : Binds K fdN ["source", "bound"] []) (gN : mg "_law_next" = some (.ref fN))
    (GC : FnOk P w K mg base CX0 (k + 3) fC fdC ["source", "items"] (spCho K)) (kC : PySem.W.keepIn K (.ref fC) = true) (bC : Binds K fdC ["source", "items"] []) (gC : mg "_law_choose" = some (.ref fC)) :
    FnOk P w K mg base CX0 (k + 4) f fd ["source", "degrees", "most"] (spRnd K) := by
  refine F.ok scRnd (fun vs H Q E h => ?_) (fun cdv A outer s H vs Q E hr h => ?_)
  · obtain ⟨a, n, d, m, rfl, _⟩ := h
    rfl
  · obtain ⟨a, n, d, m, rfl, hs, hd0, hd1, hm0, hm1, q⟩ := h
    refine ⟨_, pss_cons (ps_set (i := 3) scRnd.nd rfl (.inl rfl) (pe_lst pa_nil))
      (C8.pss_cut (ps_for PassesOwn.never rfl (pi_range1 rfl mr (pa_cons (pe_call GN hr (by rfl) gN kN bN .nil pass0 (pa_cons (pv 0) (pa_cons (pe_op op_add (pv 1) pe_int) pa_nil))) pa_nil)) (pg_name (i := 4) scRnd.nd rfl (.inl rfl))
        (pss_cons (ps_set (i := 5) scRnd.nd rfl (.inl rfl) (pe_call GC hr (by rfl) gC kC bC .nil pass0 (pa_cons (pv 0) (pa_cons (pe_lst (pa_cons pe_int (pa_cons pe_int (pa_cons pe_int (pa_cons pe_int (pa_cons (pv 2) pa_nil)))))) pa_nil))))
        (pss_one (ps_expr (pe_bm PySem.F.plainAttrs_list PySem.F.slot_list_append PySem.F.type_list_append mt_append (pv 3) (pa_cons (pe_call GN hr (by rfl) gN kN bN .nil pass0 (pa_cons (pv 0) (pa_cons (pe_op op_add (pv 5) pe_int) pa_nil))) pa_nil))))))
      (pss_cons (ps_while PassesOwn.never (PW.pt (pw_and (pt_cmpR (op_neD hr.units) (pv 3) (pe_lst pa_nil) (nomark _)) (pw_and1 (pt_cmpR op_eq (pe_ix ix_list (pv 3) pe_int (fun _ _ => rfl)) pe_int (nomark _)))))
        (pss_one (ps_set (i := 3) scRnd.nd rfl (.inl rfl) (pe_slice sl_list (pv 3) (po_some pe_int) po_none))))
      (pss_one (ps_ret (pe_callTy call_tuple_of (by rfl) mt (by decide +kernel) (pa_cons (pv 3) pa_nil)))))), ?_⟩
    refine ⟨Nat.zero_le _, fun l hl => ?_⟩
    have hla : l ≠ a := hs.has hl
    have s0 : Stp a n H (upd H l (.lst [])) := .of hs (same_upd hl)
    refine ⟨fun σ H' => ∃ (y4 y5 : Option V) (ks : List Int), σ = [some (.ref a), some (.int d), some (.int m), some (.ref l), y4, y5] ∧ Stp a n H H' ∧ H' l = some (.lst (ks.map V.int)) ∧ (ks.length : Int) ≤ d ∧ (∀ z ∈ ks, 0 ≤ z) ∧ (∀ z ∈ ks, z ≤ max 2 m), ?_, ?_⟩
    · refine ⟨_, rfl, _, rfl, _, _, rfl, rfl, a, n, _, rfl, s0.1, by omega, by omega, fun r H1 r0 r1 s1 => ?_⟩
      have s01 := s0.trans s1
      refine ⟨r, rfl, by omega, by omega, for_range (n := r.toNat) (fun i σ H' => ∃ (y4 y5 : Option V) (ks : List Int), σ = [some (.ref a), some (.int d), some (.int m), some (.ref l), y4, y5] ∧ Stp a n H H' ∧ H' l = some (.lst (ks.map V.int)) ∧ ks.length = i ∧ (∀ z ∈ ks, 0 ≤ z) ∧ (∀ z ∈ ks, z ≤ max 2 m)) ?_ ?_ ?_⟩
      · exact ⟨none, none, [], rfl, s01, s1.2 _ _ upd_same hla, rfl, by simp, by simp⟩
      · rintro i σ H2 hi ⟨y4, y5, ks, rfl, s2, hl2, hk, hn, hm⟩
        refine ⟨_, rfl, _, rfl, by show 5 ≤ sizeLine; decide, fun p np => ⟨a, n, p, _, rfl, s2.1.same (same_upd np), .inl (.inl upd_same), s2.1.has np, by simp, by simp, fun v H3 hv s3 => ?_⟩⟩
        have s23 := (s2.then (same_upd (o := .lst [.int 0, .int 0, .int 1, .int 2, .int m]) np)).trans s3
        have hl3 : H3 l = some (.lst (ks.map V.int)) := s3.2 _ _ (same_upd np _ _ hl2) hla
        obtain ⟨bg, rfl, hb0, hb1⟩ : ∃ bg : Int, v = .int bg ∧ 0 ≤ bg ∧ bg ≤ max 2 m := by
          simp at hv
          rcases hv with rfl | rfl | rfl | rfl
          · exact ⟨0, rfl, by omega, by omega⟩
          · exact ⟨1, rfl, by omega, by omega⟩
          · exact ⟨2, rfl, by omega, by omega⟩
          · exact ⟨m, rfl, by omega, by omega⟩
        refine ⟨_, rfl, .inl ⟨rfl, _, .inl (.inl hl3)⟩, _, rfl, _, rfl, _, _, rfl, rfl, a, n, _, rfl, s3.1, by omega, by omega, fun z H4 z0 z1 s4 => ?_⟩
        have hl4 : H4 l = some (.lst (ks.map V.int)) := s4.2 _ _ hl3 hla
        refine ⟨l, _, _, rfl, rfl, hl4, ?_, ?_⟩
        · rw [List.length_map]
          exact small1000 (by omega)
        · refine ⟨_, _, ks ++ [z], rfl, (s23.trans s4).upd hs hl, ?_, by rw [List.length_append, hk]; rfl, fun u hu => ?_, fun u hu => ?_⟩
          · rw [upd_same, List.map_append]
            rfl
          · rcases List.mem_append.mp hu with h | h
            · exact hn _ h
            · rw [List.mem_singleton.mp h]
              exact z0
          · rcases List.mem_append.mp hu with h | h
            · exact hm _ h
            · rw [List.mem_singleton.mp h]
              omega
      · rintro σ H2 ⟨y4, y5, ks, rfl, s2, hl2, hk, hn, hm⟩
        exact ⟨y4, y5, ks, rfl, s2, hl2, by omega, hn, hm⟩
    · rintro σ H1 ⟨y4, y5, ks, rfl, s1, hl1, hk, hn, hm⟩
      refine ⟨fun j σ H' => ∃ (l : Addr) (ks : List Int), j = ks.length ∧ σ = [some (.ref a), some (.int d), some (.int m), some (.ref l), y4, y5] ∧ Stp a n H H' ∧ H' l = some (.lst (ks.map V.int)) ∧ (ks.length : Int) ≤ d ∧ (∀ z ∈ ks, 0 ≤ z) ∧ (∀ z ∈ ks, z ≤ max 2 m), ⟨_, l, ks, rfl, rfl, s1, hl1, hk, hn, hm⟩, ?_⟩
      rintro j σ H2 ⟨l2, ks, rfl, rfl, s2, hl2, hk, hn, hm⟩
      refine ⟨_, rfl, Nat.zero_le _, fun p np => ?_⟩
      have s3 := s2.then (same_upd (o := .lst []) np)
      have hl3 := same_upd (o := .lst []) np _ _ hl2
      have fin : ks.head? ≠ some 0 → ∀ H4, Stp a n H H4 → H4 l2 = some (.lst (ks.map V.int)) → (tRet (tCB (fun xs H_1 Q => ∃ p ys, xs = [V.ref p] ∧ (SqL K H_1 p ys ∧ (∀ (l : Addr), H_1 l = none → Q (V.ref l) (upd H_1 l (HO.tup ys))) ∨ SqT K H_1 p ys ∧ Q (V.ref p) H_1)) (tCons (tVar 3) tNil))) { nx := fun x H' => Q V.non H', rt := Q } [some (.ref a), some (.int d), some (.int m), some (.ref l2), y4, y5] H4 := by
        intro hh H4 s4 hl4
        refine ⟨_, rfl, l2, _, rfl, .inl ⟨.inl (.inl hl4), fun p np => ?_⟩⟩
        exact q p _ ks (s4.then (same_upd np)) (.inl (.inl upd_same)) ⟨hk, hn, hm, hh⟩
      refine ⟨.list (ks.map PyData.int), .list [], .lst (.inl (.inl hl3)) (dp_ints ks), .lst (.inl (.inl upd_same)) .nil, shaped_ints ks, shaped_ints [], _, rfl, ?_⟩
      have ee : PyData.eqv (.list (ks.map PyData.int)) (.list []) = decide (ks = []) := by
        rw [← eqv_ints]
        simp [PyData.eqv]
      rw [ee]
      refine ite2 (fun c => ?_) (fun c => ?_)
      · have ne : ks ≠ [] := by simpa using c
        obtain ⟨z, r, rfl⟩ : ∃ z r, ks = z :: r := by
          cases ks with
          | nil => exact absurd rfl ne
          | cons z r => exact ⟨z, r, rfl⟩
        refine ⟨_, rfl, l2, _, 0, _, rfl, rfl, .inl (.inl hl3), atI_nat (j := 0) rfl, rfl, _, rfl, ite2 (fun c2 => ?_) (fun c2 => ?_)⟩
        · refine ⟨fun σ H' => ∃ (l : Addr), σ = [some (.ref a), some (.int d), some (.int m), some (.ref l), y4, y5] ∧ Stp a n H H' ∧ H' l = some (.lst (r.map V.int)), ?_, ?_⟩
          · rintro σ' H' ⟨l3, rfl, s5, hl5⟩
            refine ⟨r.length, by simp, l3, r, rfl, rfl, s5, hl5, ?_, fun u hu => hn _ (List.mem_cons_of_mem _ hu), fun u hu => hm _ (List.mem_cons_of_mem _ hu)⟩
            rw [List.length_cons] at hk
            omega
          · refine ⟨_, rfl, 1, rfl, l2, _, rfl, .inl (.inl hl3), fun c nc => ?_⟩
            refine ⟨c, rfl, s3.then (same_upd nc), ?_⟩
            rw [upd_same]
            have e1 : cutV ((z :: r).map V.int) (some 1) none = r.map V.int := cut_from _ 1
            rw [e1]
        · refine fin (fun e => c2 ?_) _ s3 hl3
          have e' : z = 0 := Option.some.inj e
          rw [e']
          rfl
      · have e : ks = [] := by simpa using c
        exact fin (by rw [e]; simp) _ s3 hl3
end
abbrev sTrm : Stmt := topS 22
abbrev sFrm : Stmt := topS 23
abbrev sLes : Stmt := topS 26
/-- a pair of ints at a new tuple -/
def Pr (H : Hp) (v : V) (p : Int × Int) : Prop := ∃ a, v = .ref a ∧ H a = some (.tup [.int p.1, .int p.2])
def Prs (H : Hp) (vs : List V) (ps : List (Int × Int)) : Prop := Paired (Pr H) vs ps
theorem Paired.imp {α β : Type} {R S : α → β → Prop} (h : ∀ a b, R a b → S a b) : ∀ {xs : List α} {ys : List β}, Paired R xs ys → Paired S xs ys
  | _, _, .nil => .nil
  | _, _, .cons r rs => .cons (h _ _ r) (Paired.imp h rs)
theorem Paired.app {α β : Type} {R : α → β → Prop} : ∀ {xs xs' : List α} {ys ys' : List β}, Paired R xs ys → Paired R xs' ys' → Paired R (xs ++ xs') (ys ++ ys')
  | _, _, _, _, .nil, h => h
  | _, _, _, _, .cons r rs, h => .cons r (Paired.app rs h)
theorem Prs.same {H H' : Hp} {vs : List V} {ps : List (Int × Int)} (h : Prs H vs ps) (s : Same H H') : Prs H' vs ps :=
  Paired.imp (fun _ _ ⟨a, e, q⟩ => ⟨a, e, s _ _ q⟩) h
theorem Prs.stp {H H' : Hp} {a n : Addr} {vs : List V} {ps : List (Int × Int)} (h : Prs H vs ps) (hs : Src H a n) (s : Stp a n H H') : Prs H' vs ps :=
  Paired.imp (fun _ _ ⟨c, e, q⟩ => ⟨c, e, s.2 _ _ q fun z => by
    obtain ⟨i, x, y, ns, ha, _⟩ := hs
    rw [z, ha] at q
    cases q⟩) h
theorem Prs.upd {H : Hp} {l : Addr} {xs : List V} {o : HO} {vs : List V} {ps : List (Int × Int)} (h : Prs H vs ps) (hl : H l = some (.lst xs)) : Prs (upd H l o) vs ps :=
  Paired.imp (fun _ _ ⟨c, e, q⟩ => ⟨c, e, by
    have : c ≠ l := fun z => by
      rw [z, hl] at q
      cases q
    rw [upd_ne this]
    exact q⟩) h
/-- the terms: exponent and coefficient, the first i places gone through -/
def termsTo (n : Nat) : Nat → List Int → List (Int × Int)
  | _, [] => []
  | i, z :: r => if z = 0 then termsTo n (i + 1) r else ((n : Int) - 1 - i, z) :: termsTo n (i + 1) r
def terms (zs : List Int) : List (Int × Int) := termsTo zs.length 0 zs
theorem termsTo_app (n : Nat) : ∀ (xs ys : List Int) (i : Nat), termsTo n i (xs ++ ys) = termsTo n i xs ++ termsTo n (i + xs.length) ys
  | [], ys, i => rfl
  | x :: xs, ys, i => by
    show (if x = 0 then termsTo n (i + 1) (xs ++ ys) else _ :: termsTo n (i + 1) (xs ++ ys)) = _
    rw [termsTo_app n xs ys (i + 1)]
    have e : i + 1 + xs.length = i + (x :: xs).length := by
      rw [List.length_cons]
      omega
    rw [e]
    show _ = (if x = 0 then termsTo n (i + 1) xs else _ :: termsTo n (i + 1) xs) ++ _
    split <;> rfl
theorem termsTo_len (n : Nat) : ∀ (xs : List Int) (i : Nat), (termsTo n i xs).length ≤ xs.length
  | [], _ => Nat.le_refl _
  | x :: xs, i => by
    have ih := termsTo_len n xs (i + 1)
    unfold termsTo
    split
    · rw [List.length_cons]
      omega
    · rw [List.length_cons, List.length_cons]
      omega
section
variable {P : Program} {w : World} {K : PySem.W.Frag} {mg : Str → Option Value} {base : Heap}
theorem scTrm : FnScope ["ordinal", "last", "index", "number"] ["ordinal"] (defScope sTrm) := ⟨rfl, rfl, rfl, by decide +kernel, rfl, by decide +kernel, by decide +kernel⟩
def spTrm (K : PySem.W.Frag) : Sp := fun vs H Q _ => ∃ (a : Addr) (zs : List Int), vs = [.ref a] ∧ SqT K H a (zs.map V.int) ∧ zs.length ≤ 1000 ∧ ∀ D H' us, Same H H' → H D = none → H' D = some (.lst us) → Prs H' us (terms zs) → Q (.ref D) H'
theorem ok_trm {f : Addr} {fd : FuncData} {k : Nat} (F : Fun K "_law_term_list" "_law_term_list" sTrm f fd) (ml : mg "len" = none) (me : mg "enumerate" = none) : FnOk P w K mg base CX0 (k + 1) f fd ["ordinal"] (spTrm K) := by
  refine F.ok scTrm (fun vs H Q E h => ?_) (fun cdv A outer s H vs Q E hr h => ?_)
  · obtain ⟨a, zs, rfl, _⟩ := h
    rfl
  · obtain ⟨a, zs, rfl, hT, hlen, q⟩ := h
    refine ⟨_, pss_cons (ps_set (i := 1) scTrm.nd rfl (.inr rfl) (pe_op op_sub (pe_callB call_len_seq (by rfl) ml PySem.boot_len (pa_cons (pv 0) pa_nil)) pe_int))
      (pss_one (ps_ret (pe_lc (own := [("index", 2), ("number", 3)]) (g := gTup K 2 (gCons (gName 2) (gCons (gName 3) gNil))) (by rfl) scTrm.nd (pi_enumT (by rfl) me (pa_cons (pv 0) pa_nil)) (blkOk_by (N := ["ordinal", "last", "index", "number"]) (sc := defScope sTrm) (by decide +kernel))
        (fun _ _ _ _ _ => pg_tup rfl (pgs_cons (pg_name (i := 2) scTrm.nd rfl (.inl rfl)) (pgs_cons (pg_name (i := 3) scTrm.nd rfl (.inl rfl)) pgs_nil)))
        (fun _ _ _ _ _ => pts_one (pt_cmpR op_ne (pv 3) pe_int (nomark _)))
        (fun _ _ _ _ _ => pe_tup (pa_cons (pe_op op_sub (pv 1) (pv 2)) (pa_cons (pv 3) pa_nil)))))), ?_⟩
    refine ⟨_, rfl, a, _, rfl, .inr hT, _, _, rfl, rfl, ?_⟩
    rw [List.length_map]
    refine ⟨_, rfl, a, _, rfl, hT, fun D nD => lc_enumT (K := K) (a := a) (xs := zs.map V.int) (fun i H' => ∃ us, Same H H' ∧ H' D = some (.lst us) ∧ Prs H' us (termsTo zs.length 0 (zs.take i))) ?_ ?_ ?_ ?_⟩
    · exact ⟨[], same_upd nD, upd_same, .nil⟩
    · rintro i H' _ ⟨us, sm, _⟩
      exact Same.seqT sm hT
    · rintro i x H1 T hx ⟨us, sm, hD, hp⟩ nT
      obtain ⟨z, hz, rfl⟩ := map_get hx
      have hi : i < zs.length := (List.getElem?_eq_some_iff.mp hz).1
      have hDT : D ≠ T := ne_of_none hD nT
      have etk : termsTo zs.length 0 (zs.take (i + 1)) = termsTo zs.length 0 (zs.take i) ++ termsTo zs.length i [z] := by
        rw [List.take_add_one, hz, termsTo_app, List.length_take, Nat.min_eq_left (by omega), Nat.zero_add]
        rfl
      refine ⟨T, _, rfl, .inl (.inl upd_same), rfl, _, _, rfl, _, _, rfl, rfl, rfl, _, rfl, rfl, _, rfl, ?_⟩
      have sT : Same H1 (L2.upd H1 T (.tup [.int (i : Nat), .int z])) := same_upd nT
      have hD2 : (L2.upd H1 T (.tup [.int (i : Nat), .int z])) D = some (.lst us) := sT _ _ hD
      refine ite2 (fun c => ?_) (fun c => ?_)
      · have hz0 : z ≠ 0 := fun e => by
          rw [e] at c
          revert c
          decide +kernel
        refine ⟨_, rfl, _, rfl, _, _, rfl, rfl, _, rfl, by show 2 ≤ sizeLine; decide, fun p np => ?_⟩
        have sp := same_upd (o := .tup [.int ((zs.length : Int) - 1 - i), .int z]) np
        have hD3 := sp _ _ hD2
        refine ⟨us, hD3, ?_, us ++ [.ref p], fun b o e => ?_, upd_same, ?_⟩
        · have h1 := Paired.length hp
          have h2 := termsTo_len zs.length (zs.take i) 0
          rw [List.length_take] at h2
          exact small1000 (by omega)
        · rw [upd_ne (ne_of_none e nD)]
          exact sp _ _ (sT _ _ (sm _ _ e))
        · refine Prs.upd ?_ hD3
          rw [etk]
          refine Paired.app ((hp.same sT).same sp) ?_
          unfold termsTo
          rw [if_neg hz0]
          exact .cons ⟨p, rfl, upd_same⟩ .nil
      · have hz0 : z = 0 := by
          by_cases e : z = 0
          · exact e
          · exact absurd (by
              rw [decide_eq_false (fun q => e (V.int.inj q))]
              rfl) c
        refine ⟨us, sm.trans sT, hD2, ?_⟩
        rw [etk]
        have e0 : termsTo zs.length i [z] = [] := by
          unfold termsTo
          rw [if_pos hz0]
          rfl
        rw [e0, List.append_nil]
        exact hp.same sT
    · rintro H1 ⟨us, sm, hD, hp⟩
      rw [List.length_map, List.take_length] at hp
      exact q D H1 us sm nD hD hp
end
section
variable {P : Program} {w : World} {K : PySem.W.Frag} {mg : Str → Option Value} {base : Heap}
/-- the same rules with the written part said, for blocks of comprehensions -/
def rLenK (K : PySem.W.Frag) : List V → Hp → VK → Prop := fun xs H Q => ∃ p ys, xs = [.ref p] ∧ (SqL K H p ys ∨ SqT K H p ys) ∧ Q (.int ys.length) H
theorem len_K {X : Cx} (h : X.K = K) : CallR X (.builtin "len") (rLenK K) := by
  subst h
  exact call_len_seq
theorem cat_K {X : Cx} (h : X.K = K) : OpR X (binaryOp .Add) (rCatU K) := by
  subst h
  exact op_catU
theorem rep_K {X : Cx} (h : X.K = K) : OpR X (binaryOp .Mult) (rRepU K) := by
  subst h
  exact op_repU
end
/-! ### what is shown -/
theorem log_small {z : Int} (h : z.natAbs < 2 ^ 200) : z.natAbs.log2 < 1920 := by
  by_cases h0 : z.natAbs = 0
  · rw [h0]
    decide
  · have := (Nat.log2_lt h0).mpr h
    omega
theorem int_len {z : Int} (h : z.natAbs < 2 ^ 200) : (PyData.shown (.int z)).length ≤ 2000 := by
  have e : (PyData.shown (.int z)) = Str.ofString (toString z) := by simp [PyData.shown]
  rw [e]
  have h1 := int_text_length_le (a := z) (k := 1920) (by decide) (log_small h)
  rw [PySem.ofString_length]
  omega
theorem Shn.int {z : Int} (h : z.natAbs < 2 ^ 200) : Shn (.int z) := by
  refine ⟨?_, by simp [PyData.hasDict], by simp [PyData.depth], ?_⟩
  · simpa [PyData.showable] using log_small h
  · have := int_len h
    exact Nat.le_of_lt (Nat.lt_of_le_of_lt this (by decide))
theorem ints_sh : ∀ zs : List Int, (∀ z ∈ zs, z.natAbs < 2 ^ 200) → PyData.showableAll (zs.map PyData.int) = true ∧ PyData.hasDictAll (zs.map PyData.int) = false ∧ (PyData.shownAll (zs.map PyData.int)).length = zs.length ∧ piled (PyData.shownAll (zs.map PyData.int)) ≤ 2002 * zs.length
  | [], _ => by simp [PyData.showableAll, PyData.hasDictAll, PyData.shownAll, piled]
  | z :: r, h => by
    obtain ⟨h1, h2, h3, h4⟩ := ints_sh r fun y hy => h y (List.mem_cons_of_mem _ hy)
    have hz := h z (List.mem_cons_self ..)
    have h5 := int_len hz
    rw [List.map_cons]
    refine ⟨?_, ?_, ?_, ?_⟩
    · rw [PyData.showableAll, h1, (Shn.int hz).sh]
      rfl
    · rw [PyData.hasDictAll, h2, (Shn.int hz).nd]
      rfl
    · rw [PyData.shownAll, List.length_cons, List.length_cons, h3]
    · rw [PyData.shownAll, piled_cons, List.length_cons]
      omega
theorem Shn.tup {zs : List Int} (h : ∀ z ∈ zs, z.natAbs < 2 ^ 200) (hl : zs.length ≤ 1000) : Shn (.tuple (zs.map PyData.int)) := by
  obtain ⟨h1, h2, h3, h4⟩ := ints_sh zs h
  refine ⟨by rw [PyData.showable, h1], by rw [PyData.hasDict, h2], ?_, ?_⟩
  · rw [PyData.depth, depth_ints]
    decide
  · rw [PyData.shown]
    have h5 := PySem.fmt_text (PyData.shownAll (zs.map PyData.int))
    rw [sizeLine_eq]
    omega
/-! ### the order -/
structure NZ (zs : List Int) : Prop where
  nn : ∀ z ∈ zs, 0 ≤ z
  hd : zs.head? ≠ some 0

section
variable {P : Program} {w : World} {K : PySem.W.Frag} {mg : Str → Option Value} {base : Heap}
def padL (n : Nat) (zs : List Int) : List Int := List.replicate (n - zs.length) 0 ++ zs
def lessB (as bs : List Int) : Bool := HT.lexLt (padL (max as.length bs.length) as) (padL (max as.length bs.length) bs)
theorem scLes : FnScope ["first", "second", "size", "padded", "one"] ["first", "second"] (defScope sLes) := ⟨rfl, rfl, rfl, by decide +kernel, rfl, by decide +kernel, by decide +kernel⟩
def spLes (K : PySem.W.Frag) : Sp := fun vs H Q _ => ∃ (a b : Addr) (as bs : List Int), vs = [.ref a, .ref b] ∧ SqT K H a (as.map V.int) ∧ SqT K H b (bs.map V.int) ∧ as.length ≤ 900 ∧ bs.length ≤ 900 ∧ ∀ H', Same H H' → Q (.bl (lessB as bs)) H'
theorem ok_les {f : Addr} {fd : FuncData} {k : Nat} (F : Fun K "_law_less" "_law_less" sLes f fd) (ml : mg "len" = none) (mx : mg "max" = none) : FnOk P w K mg base CX0 (k + 1) f fd ["first", "second"] (spLes K) := by
  refine F.ok scLes (fun vs H Q E h => ?_) (fun cdv A outer s H vs Q E hr h => ?_)
  · obtain ⟨a, b, as, bs, rfl, _⟩ := h
    rfl
  · obtain ⟨a, b, as, bs, rfl, ha, hb, la, lb, q⟩ := h
    refine ⟨_, pss_cons (ps_set (i := 2) scLes.nd rfl (.inr rfl) (pe_callB (call_max2 rfl) (by rfl) mx (by decide +kernel) (pa_cons (pe_callB call_len_seq (by rfl) ml PySem.boot_len (pa_cons (pv 0) pa_nil)) (pa_cons (pe_callB call_len_seq (by rfl) ml PySem.boot_len (pa_cons (pv 1) pa_nil)) pa_nil))))
      (pss_cons (ps_setLc (i := 3) (own := [("one", 4)]) (g := gName 4) (tt := tYes) (by rfl) scLes.nd rfl rfl (sw_true rfl rfl rfl (by decide +kernel)) (pi_tup (pe_tup (pa_cons (pv 0) (pa_cons (pv 1) pa_nil)))) (blkOk_by (N := ["first", "second", "size", "padded", "one"]) (sc := defScope sLes) (by decide +kernel))
        (fun _ _ _ _ _ => pg_name (i := 4) scLes.nd rfl (.inl rfl)) (fun _ _ _ _ _ => pts_nil)
        (fun _ _ _ _ _ => pe_op (cat_K (K := K) rfl) (pe_op (rep_K (K := K) rfl) (pe_tup (pa_cons pe_int pa_nil)) (pe_op op_sub (pv 2) (pe_callB (len_K (K := K) rfl) (by rfl) ml PySem.boot_len (pa_cons (pv 4) pa_nil)))) (pv 4)))
      (pss_one (ps_ret (pe_cmpR (op_ltT hr.units0) (pe_ix ix_list (pv 3) pe_int (fun _ _ => rfl)) (pe_ix ix_list (pv 3) pe_int (fun _ _ => rfl)) (nomark _))))), ?_⟩
    refine ⟨_, rfl, a, _, rfl, .inr ha, _, rfl, b, _, rfl, .inr hb, _, _, rfl, ?_⟩
    rw [List.length_map, List.length_map]
    have em : (if (bs.length : Int) > (as.length : Int) then (bs.length : Int) else (as.length : Int)) = ((max as.length bs.length : Nat) : Int) := by
      split <;> omega
    rw [em]
    generalize hN : max as.length bs.length = N
    refine ⟨_, rfl, _, rfl, by show 2 ≤ sizeLine; decide, fun t nt => ⟨t, rfl, ⟨_, .inl (.inl upd_same)⟩, fun D nD => ?_⟩⟩
    have st := same_upd (o := .tup [.ref a, .ref b]) nt
    have hnD : H D = none := st.free nD
    refine lc_tup (K := K) (a := t) (xs := [.ref a, .ref b]) (fun i H' => ∃ us, Same H H' ∧ H' t = some (.tup [.ref a, .ref b]) ∧ H' D = some (.lst us) ∧ Paired (fun v zs => ∃ p, v = V.ref p ∧ SqT K H' p (zs.map V.int)) us ([padL N as, padL N bs].take i)) ?_ ?_ ?_ ?_
    · refine ⟨[], st.trans (same_upd nD), ?_, upd_same, .nil⟩
      exact same_upd nD _ _ upd_same
    · rintro i H' _ ⟨us, sm, ht, _⟩
      exact .inl (.inl ht)
    · rintro i x H1 hx ⟨us, sm, ht, hD, hp⟩
      obtain ⟨c, zs, rfl, hc, hlz, hNz, hi⟩ : ∃ (c : Addr) (zs : List Int), x = .ref c ∧ SqT K H c (zs.map V.int) ∧ zs.length ≤ N ∧ N ≤ 900 ∧ [padL N as, padL N bs][i]? = some (padL N zs) := by
        match i, hx with
        | 0, hx =>
          have e := Option.some.inj hx
          exact ⟨a, as, e.symm, ha, by omega, by omega, rfl⟩
        | 1, hx =>
          have e := Option.some.inj hx
          exact ⟨b, bs, e.symm, hb, by omega, by omega, rfl⟩
        | i + 2, hx => simp at hx
      have hc1 : SqT K H1 c (zs.map V.int) := Same.seqT sm hc
      refine ⟨rfl, by show 1 ≤ sizeLine; decide, fun p np => ?_⟩
      have sp := same_upd (o := .tup [.int 0]) np
      refine ⟨_, rfl, _, rfl, c, _, rfl, .inr (Same.seqT sp hc1), _, _, rfl, rfl, p, _, _, rfl, rfl, .inl (.inl upd_same), rfl, ?_, ?_, fun p2 H2 s2 t2 => ?_⟩
      · rw [List.length_map]
        omega
      · rw [List.length_map]
        omega
      · rw [List.length_map, flat_one, show ((N : Int) - (zs.length : Int)).toNat = N - zs.length by omega] at t2
        have s12 := sp.trans s2
        refine ⟨_, rfl, p2, c, _, _, rfl, rfl, t2, Same.seqT s12 hc1, ?_, fun p3 H3 s3 t3 => ?_⟩
        · rw [List.length_map, List.length_map, List.length_replicate]
          exact Nat.le_of_lt (small1000 (by omega))
        · have s13 := s12.trans s3
          refine ⟨us, s13 _ _ hD, ?_, us ++ [.ref p3], fun b' o e => ?_, ?_, upd_same, ?_⟩
          · have h1 := Paired.length hp
            rw [List.length_take] at h1
            exact small1000 (by simp at h1; omega)
          · rw [upd_ne (ne_of_none e hnD)]
            exact s13 _ _ (sm _ _ e)
          · have : t ≠ D := fun e => by
              rw [← e, upd_same] at nD
              cases nD
            rw [upd_ne this]
            exact s13 _ _ ht
          · have keep : ∀ {q : Addr} {ys : List V}, SqT K H3 q ys → SqT K (upd H3 D (.lst (us ++ [.ref p3]))) q ys := by
              intro q ys h
              have hD3 := s13 _ _ hD
              rcases h with (h | ⟨o, h⟩) | h
              · refine .inl (.inl ?_)
                rw [upd_ne (fun e => by rw [e, hD3] at h; cases h)]
                exact h
              · refine .inl (.inr ⟨o, ?_⟩)
                rw [upd_ne (fun e => by rw [e, hD3] at h; cases h)]
                exact h
              · exact .inr h
            rw [List.take_add_one, hi]
            refine Paired.app (Paired.imp (fun v zs ⟨p, e, h⟩ => ⟨p, e, keep (Same.seqT s13 h)⟩) hp) (.cons ⟨p3, rfl, keep ?_⟩ .nil)
            unfold padL
            rw [List.map_append]
            exact t3
    · rintro H1 ⟨us, sm, ht, hD, hp⟩
      have q2 : ∀ H', Same H H' → Q (.bl (HT.lexLt (padL N as) (padL N bs))) H' := by
        intro H' s'
        rw [← hN]
        exact q H' s'
      generalize padL N as = pa at hp q2
      generalize padL N bs = pb at hp q2
      have hq : ∀ H', Same H H' → Q (.bl (HT.lexLt pa pb)) H' := q2
      have hp2 : Paired (fun v zs => ∃ p, v = V.ref p ∧ SqT K H1 p (zs.map V.int)) us [pa, pb] := hp
      clear hp
      cases hp2 with
      | cons r1 h2 =>
        cases h2 with
        | cons r2 h3 =>
          cases h3
          obtain ⟨p, rfl, h1⟩ := r1
          obtain ⟨p', rfl, h2⟩ := r2
          refine ⟨_, rfl, D, _, 0, _, rfl, rfl, .inl (.inl hD), atI_nat (j := 0) rfl, _, rfl, D, _, 1, _, rfl, rfl, .inl (.inl hD), atI_nat (j := 1) rfl, p, p', _, _, rfl, rfl, h1, h2, ?_⟩
          exact hq H1 sm
end
/-! ### the end of a law whose def leans on: no repr is under way -/
section
variable {P : Program} {w : World} {K : PySem.W.Frag} {mg mb : Str → Option Value} {k : Nat} {fa a : Addr} {fd : FuncData} {x : Str} {sp : Sp} {st : Shared} {us : List Value} {ns : List Int}
abbrev scrO (us : List Value) : Obj := { cls := .type "list", data := .seq us.toArray }
abbrev Good (st : Shared) (r : Result) (s' : Shared) : Prop := r = .ok (.ret (.bool true)) ∧ OldK st.heap s'.heap ∧ s'.os = st.os ∧ AllBare s'.gens
theorem law_at (KX : K.In st.heap) (n1 : st.heap.Ns mainGlobals mg) (n2 : st.heap.Ns builtinsNs mb) (n3 : ∀ x : Str, x ≠ "__name__" → mb x = bootBuiltins x) (n4 : st.heap.NoLimit) (hg : st.gens = #[])
    (ha : st.heap.get? a = some (scrO us)) (hr : Room k callerA) (F : ∀ b : Heap, K.In b → b.Ns mainGlobals mg → FnG P w K mg b k fa fd [x] sp) (hb : ∀ (s : Shared) (u : Value), BindsTo s fd ⟨[u], []⟩ [(x, u)])
    {H : Hp} (hO : Only H) (hsp : sp [.ref a] H (fun v _ => v = .bl true) fun _ _ _ => False) (hok : HOk P w H st.heap) (hA : ∀ b, H b ≠ none → b = a) (hK : H a ≠ none → K.lookup a = none) :
    codeAny (model P w) callerA (.call (.ref fa) ⟨[.ref a], []⟩) (Good st) st := by
  have hid : ∀ {b : Addr} {o : Obj}, st.heap.get? b = some o → H b = none → (hidT st.heap H).get? b = some o := fun e n => hidT_get e n
  have nodict : ∀ {b : Addr} {o : Obj} {es : Array DictEntry} {m : Nat}, st.heap.get? b = some o → o.data = .dict es m → H b = none := by
    intro b o es m e d
    by_cases q : H b = none
    · exact q
    · rw [hA b q, ha] at e
      cases e
      have d' : Data.seq us.toArray _ = Data.dict es m := d
      cases d'
  have nsOf : ∀ {b : Addr} {m : Str → Option Value}, st.heap.Ns b m → (hidT st.heap H).Ns b m := by
    rintro b m ⟨o, es, ep, e, d, r⟩
    exact ⟨o, es, ep, hid e (nodict e d), d, r⟩
  have KB : K.In (hidT st.heap H) := by
    intro b o e
    refine hid (KX b o e) ?_
    by_cases q : H b = none
    · exact q
    · have eb := hA b q
      rw [eb] at e q
      rw [hK q] at e
      cases e
  obtain ⟨mc, l1, l2⟩ := n4
  have MB : Mod K mg (hidT st.heap H) := ⟨KB, nsOf n1, ⟨mb, nsOf n2, n3⟩, ⟨mc, nsOf l1, l2⟩⟩
  have ev : Env0 P w K mg (hidT st.heap H) callerA [] st H := by
    refine ⟨rfl, MB, fun b o e => of_hidT e, Nat.le_of_eq (hidT_size _ _), trivial, fun b z => ?_, hok, .of_eq hg⟩
    exact absurd (show b ∈ ([] : List Addr) from z) List.not_mem_nil
  refine codeAny_mono ((F _ KB (nsOf n1)).go callerA [] st H ⟨[.ref a], []⟩ [.ref a] [.ref a] _ _ rfl hr ev (hb st (.ref a)) (.cons rfl .nil) hsp) fun r s' h => ?_
  match r, h with
  | .error _, h => exact False.elim h
  | .ok .next, h => exact False.elim h
  | .ok .brk, h => exact False.elim h
  | .ok .cont, h => exact False.elim h
  | .ok (.ret u), h =>
    obtain ⟨v, H', os, bare, un, hok', rv, qv⟩ := h
    have qv : v = .bl true := qv
    subst qv
    obtain rfl : u = Value.bool true := rv
    refine ⟨rfl, OldK.of_keep fun b o e => ?_, os, bare⟩
    rcases hO b with z | ⟨ob, xs, z⟩
    · exact un.keep b o e z (fun z => absurd (show b ∈ ([] : List Addr) from z) List.not_mem_nil) List.not_mem_nil
    · have e1 := (hok b _ z).1
      have e2 := (hok' b _ (un.frzs b ob _ z)).1
      rw [e] at e1
      cases e1
      exact e2
theorem law_g (KX : K.In st.heap) (n1 : st.heap.Ns mainGlobals mg) (n2 : st.heap.Ns builtinsNs mb) (n3 : ∀ x : Str, x ≠ "__name__" → mb x = bootBuiltins x) (n4 : st.heap.NoLimit) (hg : st.gens = #[])
    (ha : st.heap.get? a = some (scrO us)) (hi : IntsAre us ns) (hl : ns.length ≤ sizeLine) (hr : Room k callerA) (F : ∀ b : Heap, K.In b → b.Ns mainGlobals mg → FnG P w K mg b k fa fd [x] sp) (hb : ∀ (s : Shared) (u : Value), BindsTo s fd ⟨[u], []⟩ [(x, u)])
    (hsp : ∀ H : Hp, Only H → SqL K H a (ns.map V.int) → sp [.ref a] H (fun v _ => v = .bl true) fun _ _ _ => False) :
    codeAny (model P w) callerA (.call (.ref fa) ⟨[.ref a], []⟩) (Good st) st := by
  have vi := vals_ints hi
  cases hk : K.lookup a with
  | some o =>
    have e := KX a o hk
    rw [ha] at e
    cases e
    have hS : SqL K (fun _ => none) a (ns.map V.int) := .inr ⟨_, us.toArray, _, hk, rfl, rfl, rfl, by rw [List.size_toArray, hi.length]; exact hl, by simpa using vi⟩
    exact law_at KX n1 n2 n3 n4 hg ha hr F hb (H := fun _ => none) (fun _ => .inl rfl) (hsp _ (fun _ => .inl rfl) hS) (fun b u z => by cases (show (none : Option HO) = some u from z)) (fun b z => absurd rfl z) (fun z => absurd rfl z)
  | none =>
    let H : Hp := fun b => if b = a then some (.frz (scrO us) (.lst (ns.map V.int))) else none
    have h1 : H a = some (.frz (scrO us) (.lst (ns.map V.int))) := if_pos rfl
    have h2 : ∀ b, b ≠ a → H b = none := fun b z => if_neg z
    have hO : Only H := fun b => by
      by_cases z : b = a
      · exact .inr ⟨_, _, by rw [z]; exact h1⟩
      · exact .inl (h2 b z)
    refine law_at KX n1 n2 n3 n4 hg ha hr F hb hO (hsp H hO (.inl (.inr ⟨_, h1⟩))) (fun b u z => ?_) (fun b z => ?_) fun _ => hk
    · by_cases e : b = a
      · subst e
        rw [h1] at z
        cases z
        exact ⟨ha, by rw [List.length_map]; exact hl, us, _, vi, ha⟩
      · rw [h2 b e] at z
        cases z
    · by_cases e : b = a
      · exact e
      · exact absurd (h2 b e) z
end
theorem walk_g {l : PySem.W.OpenLaw} {n k : Nat} {q : Program} {loose : List Str} {XP : (Str → Option Value) → Heap → Prop} {YP : World → Heap → Prop} {d : DefRec} {K : Params → PySem.W.Frag} {sp : PySem.W.Frag → Sp} {x : Str}
    (hn : l.most = some n) (hz : n ≤ sizeLine) (hdf : d.params.defaults = []) (hr : Room k callerA) (hY : ∀ (w : World) (h : Heap), YP w h → (K w.params).In h)
    (F : ∀ (w : World) (mg : Str → Option Value) (fa : Addr) (h : Heap), (K w.params).In h → h.Ns mainGlobals mg → mg d.name = some (.ref fa) →
      ∃ fd : FuncData, (∀ (s : Shared) (u : Value), BindsTo s fd ⟨[u], []⟩ [(x, u)]) ∧ ∀ b : Heap, (K w.params).In b → b.Ns mainGlobals mg → FnG l.prog w (K w.params) mg b k fa fd [x] (sp (K w.params)))
    (hsp : ∀ (K : PySem.W.Frag) (H : Hp) (a : Addr) (ns : List Int), ns.length ≤ n → Only H → SqL K H a (ns.map V.int) → sp K [.ref a] H (fun v _ => v = .bl true) fun _ _ _ => False) :
    PySem.W.WalkO q loose XP YP l.row.toRowW d [] (fun f vs => PySem.call f vs) := by
  refine Att.attach_call hn hdf fun w s0 s1 mg mb fa o pm cd doc a vs ns G Y ho hd hcd hmg hobj hints hlen hg => ?_
  have KX := hY w _ Y
  obtain ⟨fd, hb, hF⟩ := F w mg fa _ KX G.T.g hmg
  exact law_g KX G.T.g G.T.b G.T.builtins G.T.nolimit hg hobj hints (Nat.le_trans hlen hz) hr hF hb fun H hO hS => hsp _ H a ns hlen hO hS
/-- a test, then a word between it and what follows -/
theorem pt_cut {X : Cx} {e : Expr} {t : TT} (h : PT X e t) : PT X e (fun σ H Q => ∃ R : Bool → Hp → Prop, t σ H R ∧ ∀ b H', R b H' → Q b H') := by
  refine ⟨fun pins s σ H Q I q => ?_⟩
  obtain ⟨R, hR, hQ⟩ := q
  exact thn (h.run pins s σ H R I hR) fun b s1 ⟨H1, I1, r⟩ => ⟨H1, I1, hQ b H1 r⟩

section
variable {P : Program} {w : World} {K : PySem.W.Frag} {mg : Str → Option Value} {base : Heap}
def prD (p : Int × Int) : PyData := .tuple [.int p.1, .int p.2]
theorem dp_prs {H : Hp} : ∀ {us : List V} {ps : List (Int × Int)}, Prs H us ps → DpAll K H us (ps.map prD)
  | _, _, .nil => .nil
  | _, _, .cons ⟨a, e, h⟩ rs => by
    subst e
    exact .cons (.tup (.inl (.inl h)) (.cons (.int _) (.cons (.int _) .nil))) (dp_prs rs)
theorem lay_prs : ∀ ps : List (Int × Int), PyData.canLayAll0 (ps.map prD) = true ∧ PyData.depthAll (ps.map prD) ≤ 1
  | [] => by simp [PyData.canLayAll0, PyData.depthAll]
  | p :: r => by
    have ih := lay_prs r
    have := ih.2
    simp [PyData.canLayAll0, PyData.canLay0, PyData.depthAll, PyData.depth, prD, ih.1]
    omega
theorem shaped_prs (ps : List (Int × Int)) : SeqAt.shaped (.list (ps.map prD)) = true := by
  have ⟨h1, h2⟩ := lay_prs ps
  unfold SeqAt.shaped
  simp [PyData.canLay0, PyData.depth, h1]
  omega
theorem eqv_nil (ds : List PyData) : PyData.eqv (.list ds) (.list []) = decide (ds = []) := by
  cases ds with
  | nil => simp [PyData.eqv, PyData.eqvAll]
  | cons d r => simp [PyData.eqv, PyData.eqvAll]
/-! ### from terms -/
def frStep (l : List Int) (p : Int × Int) : List Int := l.set (l.length - 1 - p.1.toNat) p.2
def frT (ps : List (Int × Int)) : List Int := match ps with
  | [] => []
  | p :: r => (p :: r).foldl frStep (List.replicate (p.1.toNat + 1) 0)
theorem fr_len : ∀ (ps : List (Int × Int)) (l : List Int), (ps.foldl frStep l).length = l.length
  | [], _ => rfl
  | p :: r, l => by
    rw [List.foldl_cons, fr_len r]
    exact List.length_set
theorem scFrm : FnScope ["terms", "found", "exponent", "number"] ["terms"] (defScope sFrm) := ⟨rfl, rfl, rfl, by decide +kernel, rfl, by decide +kernel, by decide +kernel⟩
structure FrOk (ps : List (Int × Int)) : Prop where
  lo : ∀ p ∈ ps, 0 ≤ p.1
  hi : ∀ p ∈ ps, ∀ e ∈ ps.head?, p.1 ≤ e.1
  mx : ∀ p ∈ ps, p.1 ≤ 900
def spFrm (K : PySem.W.Frag) : Sp := fun vs H Q _ => ∃ (a : Addr) (us : List V) (ps : List (Int × Int)), vs = [.ref a] ∧ H a = some (.lst us) ∧ Prs H us ps ∧ FrOk ps ∧ ∀ p H', Same H H' → SqT K H' p ((frT ps).map V.int) → Q (.ref p) H'
theorem Paired.at {α β : Type} {R : α → β → Prop} : ∀ {xs : List α} {ys : List β} {i : Nat} {x : α}, Paired R xs ys → xs[i]? = some x → ∃ y, ys[i]? = some y ∧ R x y
  | _, _, i, x, .nil, h => by simp at h
  | _, _, 0, x, .cons r rs, h => by
    have e := Option.some.inj h
    subst e
    exact ⟨_, rfl, r⟩
  | _, _, i + 1, x, .cons r rs, h => Paired.at (i := i) rs h
theorem ok_frm {f : Addr} {fd : FuncData} {k : Nat} (F : Fun K "_law_from_terms" "_law_from_terms" sFrm f fd) (ml : mg "len" = none) (mt : mg "tuple" = none) : FnOk P w K mg base CX0 (k + 1) f fd ["terms"] (spFrm K) := by
  refine F.ok scFrm (fun vs H Q E h => ?_) (fun cdv A outer s H vs Q E hr h => ?_)
  · obtain ⟨a, us, ps, rfl, _⟩ := h
    rfl
  · obtain ⟨a, us, ps, rfl, ha, hp, hok, q⟩ := h
    refine ⟨_, pss_cons (ps_if (pt_cmpR (op_eqD hr.units) (pv 0) (pe_lst pa_nil) (nomark _)) (pss_one (ps_ret (pe_tup pa_nil))) pss_nil)
      (pss_cons (ps_set (i := 1) scFrm.nd rfl (.inl rfl) (pe_op op_rep (pe_lst (pa_cons pe_int pa_nil)) (pe_op op_add (pe_ix ix_tup (pe_ix ix_list (pv 0) pe_int (fun _ _ => rfl)) pe_int (fun _ _ => rfl)) pe_int)))
      (pss_cons (ps_for PassesOwn.never rfl (pi_list (pv 0)) (pg_tup rfl (pgs_cons (pg_name (i := 2) scFrm.nd rfl (.inl rfl)) (pgs_cons (pg_name (i := 3) scFrm.nd rfl (.inl rfl)) pgs_nil)))
        (pss_one (ps_asg (pv 3) (pg_sub (pv 1) (pe_op op_sub (pe_op op_sub (pe_callB call_len_seq (by rfl) ml PySem.boot_len (pa_cons (pv 1) pa_nil)) pe_int) (pv 2)) set_list))))
      (pss_one (ps_ret (pe_callTy call_tuple_of (by rfl) mt (by decide +kernel) (pa_cons (pv 1) pa_nil)))))), ?_⟩
    refine ⟨_, rfl, Nat.zero_le _, fun p0 np0 => ?_⟩
    have s0 := same_upd (o := .lst []) np0
    have ha0 := s0 _ _ ha
    refine ⟨.list (ps.map prD), .list [], .lst (.inl (.inl ha0)) (dp_prs (hp.same s0)), .lst (.inl (.inl upd_same)) .nil, shaped_prs ps, shaped_prs [], _, rfl, ?_⟩
    rw [eqv_nil]
    refine ite2 (fun c => ?_) (fun c => ?_)
    · have e : ps = [] := by simpa using c
      subst e
      refine ⟨Nat.zero_le _, fun p np => q p _ (s0.trans (same_upd np)) (.inl (.inl ?_))⟩
      rw [upd_same]
      rfl
    · have e : ps ≠ [] := by simpa using c
      obtain ⟨⟨e0, c0⟩, r, rfl⟩ : ∃ p r, ps = p :: r := by
        cases ps with
        | nil => exact absurd rfl e
        | cons p r => exact ⟨p, r, rfl⟩
      obtain ⟨t0, us', hu, ht0⟩ : ∃ (t0 : Addr) (us' : List V), us = .ref t0 :: us' ∧ H t0 = some (.tup [.int e0, .int c0]) := by
        cases hp with
        | cons r1 _ =>
          obtain ⟨a', e', h'⟩ := r1
          exact ⟨a', _, by rw [e'], h'⟩
      have le0 : 0 ≤ e0 := hok.lo _ (List.mem_cons_self ..)
      have he0 : e0 ≤ 900 := hok.mx _ (List.mem_cons_self ..)
      subst hu
      refine ⟨by show 1 ≤ sizeLine; decide, fun p1 np1 => ?_⟩
      have s1 := s0.trans (same_upd (o := .lst [.int 0]) np1)
      have ha1 := s1 _ _ ha
      have ht1 := s1 _ _ ht0
      refine ⟨_, rfl, a, _, 0, _, rfl, rfl, .inl (.inl ha1), atI_nat (j := 0) rfl, t0, _, 0, _, rfl, rfl, .inl (.inl ht1), atI_nat (j := 0) rfl, _, _, rfl, rfl, ?_⟩
      have hsz : (1 : Nat) * (e0 + 1).toNat ≤ sizeLine := Nat.le_of_lt (small1000 (by omega))
      refine ⟨p1, e0 + 1, _, rfl, rfl, upd_same, by omega, by omega, hsz, fun l hl => ?_⟩
      have hlH : H l = none := s1.free hl
      have s2 := s1.trans (same_upd (o := .lst (List.replicate (e0 + 1).toNat [V.int 0]).flatten) hl)
      refine ⟨_, rfl, a, rfl, ⟨_, .inl (.inl (s2 _ _ ha))⟩, for_list (K := K) (a := a) (xs := .ref t0 :: us')
        (fun i σ H' => ∃ (y2 y3 : Option V) (zs : List Int), σ = [some (.ref a), some (.ref l), y2, y3] ∧ Same H H' ∧ H' l = some (.lst (zs.map V.int)) ∧ zs.length = e0.toNat + 1 ∧ zs = (((e0, c0) :: r).take i).foldl frStep (List.replicate (e0.toNat + 1) 0)) ?_ ?_ ?_ ?_⟩
      · refine ⟨none, none, List.replicate (e0.toNat + 1) 0, rfl, s2, ?_, List.length_replicate, rfl⟩
        rw [upd_same, flat_one, show (e0 + 1).toNat = e0.toNat + 1 by omega]
      · rintro i σ H' _ ⟨_, _, _, _, sm, _⟩
        exact .inl (.inl (sm _ _ ha))
      · rintro i x σ H' hx ⟨y2, y3, zs, rfl, sm, hl', hz, ez⟩
        obtain ⟨⟨e1, c1⟩, hy, T, rfl, hT⟩ := Paired.at hp hx
        have hm := List.mem_of_getElem? hy
        have l1 : 0 ≤ e1 := hok.lo _ hm
        have l2 : e1 ≤ e0 := hok.hi _ hm (e0, c0) rfl
        have ej : ((zs.length : Int) - 1 - e1) = ((zs.length - 1 - e1.toNat : Nat) : Int) := by omega
        refine ⟨T, _, rfl, .inl (.inl (sm _ _ hT)), rfl, _, _, rfl, _, _, rfl, rfl, ?_⟩
        refine ⟨_, rfl, _, rfl, _, rfl, l, _, rfl, .inl (.inl (.inl hl')), _, _, rfl, rfl, _, rfl, _, _, rfl, rfl, l, _, _, zs.length - 1 - e1.toNat, rfl, rfl, hl', ?_, ?_⟩
        · rw [List.length_map, ej]
          exact Evl.ixN_nat (by omega)
        · refine ⟨_, _, frStep zs (e1, c1), rfl, fun b o e => ?_, ?_, ?_, ?_⟩
          · rw [upd_ne (ne_of_none e hlH)]
            exact sm _ _ e
          · rw [upd_same]
            unfold frStep
            rw [List.map_set]
          · unfold frStep
            rw [List.length_set]
            exact hz
          · rw [List.take_add_one, hy, List.foldl_append, ← ez]
            rfl
      · rintro σ H' ⟨y2, y3, zs, rfl, sm, hl', hz, ez⟩
        have hlen : (V.ref t0 :: us').length = ((e0, c0) :: r).length := Paired.length hp
        rw [hlen, List.take_length] at ez
        refine ⟨_, rfl, l, _, rfl, .inl ⟨.inl (.inl hl'), fun p np => q p _ (sm.trans (same_upd np)) (.inl (.inl ?_))⟩⟩
        rw [upd_same, ez]
        rfl
end
def b2n (b : Bool) : Int := if b then 1 else 0
theorem lex_irr : ∀ as : List Int, HT.lexLt as as = false
  | [] => rfl
  | a :: as => by
    show (if a = a then HT.lexLt as as else decide (a < a)) = false
    rw [if_pos rfl]
    exact lex_irr as
theorem lex_tot : ∀ as bs : List Int, as.length = bs.length → as ≠ bs → HT.lexLt bs as = !HT.lexLt as bs
  | [], [], _, h => absurd rfl h
  | [], b :: bs, h, _ => by simp at h
  | a :: as, [], h, _ => by simp at h
  | a :: as, b :: bs, h, hne => by
    show (if b = a then HT.lexLt bs as else decide (b < a)) = !(if a = b then HT.lexLt as bs else decide (a < b))
    by_cases e : a = b
    · subst e
      rw [if_pos rfl, if_pos rfl]
      refine lex_tot as bs (by simpa using h) fun z => hne (by rw [z])
    · rw [if_neg e, if_neg (Ne.symm e)]
      by_cases c : a < b
      · rw [decide_eq_true c, decide_eq_false (by omega)]
        rfl
      · rw [decide_eq_false c, decide_eq_true (by omega)]
        rfl
theorem pad_self (zs : List Int) : padL zs.length zs = zs := by
  unfold padL
  rw [Nat.sub_self]
  rfl
theorem less_short {as bs : List Int} (h : as.length < bs.length) (hb : NZ bs) : lessB as bs = true ∧ lessB bs as = false := by
  have e1 : max as.length bs.length = bs.length := Nat.max_eq_right (by omega)
  have e2 : max bs.length as.length = bs.length := Nat.max_eq_left (by omega)
  obtain ⟨k, hk⟩ : ∃ k, bs.length - as.length = k + 1 := ⟨bs.length - as.length - 1, by omega⟩
  cases bs with
  | nil => simp at h
  | cons b r =>
    have hb0 : 0 < b := by
      have h1 := hb.nn b (List.mem_cons_self ..)
      have h2 : b ≠ 0 := fun e => hb.hd (by rw [e]; rfl)
      omega
    unfold lessB
    rw [e1, e2, pad_self]
    have e3 : padL (b :: r).length as = 0 :: (List.replicate k 0 ++ as) := by
      unfold padL
      rw [hk, List.replicate_succ]
      rfl
    rw [e3]
    constructor
    · show (if (0 : Int) = b then _ else decide (0 < b)) = true
      rw [if_neg (by omega), decide_eq_true hb0]
    · show (if b = (0 : Int) then _ else decide (b < 0)) = false
      rw [if_neg (by omega), decide_eq_false (by omega)]
theorem cmp_less {as bs : List Int} (ha : NZ as) (hb : NZ bs) : cmpI as bs = b2n (lessB bs as) - b2n (lessB as bs) := by
  unfold cmpI
  by_cases e : as = bs
  · rw [if_pos e, e]
    omega
  · rw [if_neg e]
    by_cases el : as.length = bs.length
    · rw [if_pos el]
      have e1 : lessB as bs = HT.lexLt as bs := by
        unfold lessB
        rw [← el, Nat.max_self, pad_self]
        rw [el, pad_self]
      have e2 : lessB bs as = HT.lexLt bs as := by
        unfold lessB
        rw [el, Nat.max_self, pad_self]
        rw [← el, pad_self]
      rw [e1, e2, lex_tot as bs el e]
      cases HT.lexLt as bs <;> rfl
    · rw [if_neg el]
      by_cases c : as.length < bs.length
      · obtain ⟨h1, h2⟩ := less_short c hb
        rw [if_pos c, h1, h2]
        rfl
      · obtain ⟨h1, h2⟩ := less_short (as := bs) (bs := as) (by omega) ha
        rw [if_neg c, h1, h2]
        rfl
theorem cmp_small (as bs : List Int) : (cmpI as bs).natAbs < 2 ^ 200 := by
  have : (cmpI as bs).natAbs ≤ 1 := by
    unfold cmpI
    split
    · decide
    · split
      · split <;> decide
      · split <;> decide
  exact Nat.lt_of_le_of_lt this (Nat.one_lt_pow (by decide) (by decide))
/-! ### terms and powers -/
theorem frT_one {e c : Int} (h : 0 ≤ e) : frT [(e, c)] = c :: List.replicate e.toNat 0 := by
  show (List.replicate (e.toNat + 1) 0).set ((List.replicate (e.toNat + 1) (0 : Int)).length - 1 - e.toNat) c = _
  rw [List.length_replicate, show e.toNat + 1 - 1 - e.toNat = 0 by omega, List.replicate_succ]
  rfl
theorem exps_le (n : Nat) : ∀ (zs : List Int) (i : Nat) (p : Int × Int), p ∈ termsTo n i zs → p.1 ≤ (n : Int) - 1
  | [], i, p, h => by cases h
  | z :: r, i, p, h => by
    unfold termsTo at h
    split at h
    · exact exps_le n r (i + 1) p h
    · rcases List.mem_cons.mp h with e | h
      · rw [e]
        show (n : Int) - 1 - i ≤ n - 1
        omega
      · exact exps_le n r (i + 1) p h
theorem deg_max {zs : List Int} (h : zs.head? ≠ some 0) {m : Int} (hm : m ∈ (-1 : Int) :: (terms zs).map (·.1)) (hx : ∀ y ∈ (-1 : Int) :: (terms zs).map (·.1), y ≤ m) : m = (zs.length : Int) - 1 := by
  have hle : ∀ y ∈ (-1 : Int) :: (terms zs).map (·.1), y ≤ (zs.length : Int) - 1 := by
    intro y hy
    rcases List.mem_cons.mp hy with e | hy
    · rw [e]
      omega
    · obtain ⟨p, hp, rfl⟩ := List.mem_map.mp hy
      exact exps_le _ _ _ _ hp
  have h1 := hle m hm
  cases zs with
  | nil =>
    have := hx (-1) (List.mem_cons_self ..)
    simp at h1 ⊢
    omega
  | cons z r =>
    have hz : z ≠ 0 := fun e => h (by rw [e]; rfl)
    have h2 := hx ((r.length + 1 : Nat) - 1 - (0 : Nat) : Int) (List.mem_cons_of_mem _ (by
      unfold terms termsTo
      rw [if_neg hz]
      exact List.mem_cons_self ..))
    rw [List.length_cons] at h1 ⊢
    omega
/-! ### sums and products of coefficient lists -/
def zer (n : Nat) : List Int := List.replicate n 0
/-- the program's sum -/
def addP (xs ys : List Int) : List Int := if ys = [] then xs else if xs.length < ys.length then ys else xs.take (xs.length - ys.length) ++ (xs.getD (xs.length - ys.length) 0 + ys.headD 0) :: ys.tail
/-- the program's product -/
def mulP (xs ys : List Int) : List Int := if xs = [] ∨ ys = [] then [] else if ys.getLastD 0 = 0 then ys.dropLast ++ zer xs.length else ys.dropLast ++ (xs.headD 0 * ys.getLastD 0) :: xs.tail
/-- the law's sum: of terms -/
def addT (xs ys : List Int) : List Int := match terms ys with
  | [] => xs
  | (e, c) :: r => frT (((terms xs).filter fun p => decide (p.1 > e)) ++ [(e, c + (((terms xs).filter fun p => decide (p.1 = e)).map (·.2)).sum)] ++ r)
theorem set_mid (xs ys : List Int) (z u : Int) : (xs ++ u :: ys).set xs.length z = xs ++ z :: ys := by
  induction xs with
  | nil => rfl
  | cons x r ih =>
    show x :: (r ++ u :: ys).set r.length z = x :: (r ++ z :: ys)
    rw [ih]
/-- the terms of zs, at place i of n, laid over zeros -/
theorem fold_terms (n : Nat) : ∀ (zs pre post : List Int) (i : Nat), pre.length = i → i + zs.length + post.length = n → (termsTo n i zs).foldl frStep (pre ++ zer zs.length ++ post) = pre ++ zs ++ post
  | [], pre, post, i, _, _ => rfl
  | z :: r, pre, post, i, h1, h2 => by
    rw [List.length_cons] at h2
    have e0 : pre ++ zer (z :: r).length ++ post = (pre ++ [0]) ++ zer r.length ++ post := by
      show pre ++ (0 :: zer r.length) ++ post = _
      simp
    unfold termsTo
    by_cases hz : z = 0
    · rw [if_pos hz, e0, fold_terms n r (pre ++ [0]) post (i + 1) (by rw [List.length_append, h1]; rfl) (by omega), hz]
      simp
    · rw [if_neg hz, List.foldl_cons]
      have e1 : frStep (pre ++ zer (z :: r).length ++ post) ((n : Int) - 1 - i, z) = (pre ++ [z]) ++ zer r.length ++ post := by
        unfold frStep
        have hl : (pre ++ zer (z :: r).length ++ post).length = n := by
          rw [List.length_append, List.length_append, h1]
          unfold zer
          rw [List.length_replicate, List.length_cons]
          omega
        rw [hl]
        have e2 : n - 1 - ((n : Int) - 1 - i).toNat = pre.length := by omega
        show List.set _ (n - 1 - ((n : Int) - 1 - i).toNat) z = _
        rw [e2]
        have e3 : pre ++ zer (z :: r).length ++ post = pre ++ 0 :: (zer r.length ++ post) := by
          show pre ++ (0 :: zer r.length) ++ post = _
          simp
        rw [e3, set_mid]
        simp
      rw [e1, fold_terms n r (pre ++ [z]) post (i + 1) (by rw [List.length_append, h1]; rfl) (by omega)]
      simp
theorem terms_shift (n m i j : Nat) (h : (n : Int) - i = (m : Int) - j) : ∀ zs : List Int, ∀ k : Nat, termsTo n (i + k) zs = termsTo m (j + k) zs
  | [], k => rfl
  | z :: r, k => by
    unfold termsTo
    have e1 := terms_shift n m i j h r (k + 1)
    rw [show i + k + 1 = i + (k + 1) from rfl, show j + k + 1 = j + (k + 1) from rfl, e1]
    have e2 : (n : Int) - 1 - (i + k : Nat) = (m : Int) - 1 - (j + k : Nat) := by omega
    rw [e2]
theorem terms_fst (n : Nat) : ∀ (zs : List Int) (i : Nat) (p : Int × Int), p ∈ termsTo n i zs → (n : Int) - 1 - i ≥ p.1 ∧ p.1 > (n : Int) - 1 - i - zs.length ∧ p.2 ∈ zs ∧ p.2 ≠ 0
  | [], i, p, h => by cases h
  | z :: r, i, p, h => by
    unfold termsTo at h
    rw [List.length_cons]
    split at h
    · obtain ⟨h1, h2, h3, h4⟩ := terms_fst n r (i + 1) p h
      exact ⟨by omega, by omega, List.mem_cons_of_mem _ h3, h4⟩
    · rename_i hz
      rcases List.mem_cons.mp h with e | h
      · rw [e]
        exact ⟨Int.le_refl _, by show (n : Int) - 1 - i > _; omega, List.mem_cons_self .., hz⟩
      · obtain ⟨h1, h2, h3, h4⟩ := terms_fst n r (i + 1) p h
        exact ⟨by omega, by omega, List.mem_cons_of_mem _ h3, h4⟩
theorem filter_all {α : Type} {f : α → Bool} {l : List α} (h : ∀ x ∈ l, f x = true) : l.filter f = l := List.filter_eq_self.mpr h
theorem filter_none {α : Type} {f : α → Bool} {l : List α} (h : ∀ x ∈ l, f x = false) : l.filter f = [] := List.filter_eq_nil_iff.mpr fun x hx => by rw [h x hx]; decide
/-- a list with a first coefficient that is not 0: its first term -/
theorem terms_cons {z : Int} {r : List Int} (hz : z ≠ 0) : terms (z :: r) = ((r.length : Int), z) :: termsTo (r.length + 1) 1 r := by
  show (if z = 0 then termsTo (z :: r).length (0 + 1) r else (((z :: r).length : Int) - 1 - (0 : Nat), z) :: termsTo (z :: r).length (0 + 1) r) = _
  rw [if_neg hz, List.length_cons, show ((r.length + 1 : Nat) : Int) - 1 - (0 : Nat) = r.length by omega]
/-- terms laid out again: hi, one written place, the rest -/
theorem frT_join {n : Nat} {hi r : List Int} {c : Int} (hn : n = hi.length + 1 + r.length) (hh : hi = [] ∨ ∃ z t, hi = z :: t ∧ z ≠ 0) :
    frT (termsTo n 0 hi ++ [((r.length : Int), c)] ++ termsTo (r.length + 1) 1 r) = hi ++ c :: r := by
  have sh : termsTo (r.length + 1) 1 r = termsTo n (hi.length + 1) r := terms_shift (r.length + 1) n 1 (hi.length + 1) (by omega) r 0
  rw [sh]
  have key : (termsTo n 0 hi ++ [((r.length : Int), c)] ++ termsTo n (hi.length + 1) r).foldl frStep (zer n) = hi ++ c :: r := by
    rw [List.foldl_append, List.foldl_append]
    have z1 : zer n = [] ++ zer hi.length ++ zer (1 + r.length) := by
      unfold zer
      rw [List.nil_append, List.replicate_append_replicate]
      congr 1
      omega
    rw [z1, fold_terms n hi [] (zer (1 + r.length)) 0 rfl (by unfold zer; rw [List.length_replicate]; omega)]
    have z2 : zer (1 + r.length) = 0 :: zer r.length := by
      unfold zer
      rw [Nat.add_comm, List.replicate_succ]
    rw [List.nil_append, z2]
    show (termsTo n (hi.length + 1) r).foldl frStep (frStep (hi ++ 0 :: zer r.length) ((r.length : Int), c)) = _
    have e1 : frStep (hi ++ 0 :: zer r.length) ((r.length : Int), c) = (hi ++ [c]) ++ zer r.length ++ [] := by
      unfold frStep
      have hl : (hi ++ 0 :: zer r.length).length = n := by
        rw [List.length_append, List.length_cons]
        unfold zer
        rw [List.length_replicate]
        omega
      rw [hl]
      show List.set _ (n - 1 - ((r.length : Nat) : Int).toNat) c = _
      have e2 : n - 1 - ((r.length : Nat) : Int).toNat = hi.length := by omega
      rw [e2, set_mid]
      simp
    rw [e1, fold_terms n r (hi ++ [c]) [] (hi.length + 1) (by rw [List.length_append]; rfl) (by simp; omega)]
    simp
  rcases hh with e | ⟨z, t, e, hz⟩
  · subst e
    rw [List.length_nil] at hn
    rw [← key]
    show (((r.length : Int), c) :: termsTo n (0 + 1) r).foldl frStep (List.replicate (((r.length : Nat) : Int).toNat + 1) 0) = (((r.length : Int), c) :: termsTo n (0 + 1) r).foldl frStep (zer n)
    rw [show ((r.length : Nat) : Int).toNat + 1 = n by omega]
    rfl
  · subst e
    rw [← key]
    have e1 : termsTo n 0 (z :: t) = ((n : Int) - 1 - (0 : Nat), z) :: termsTo n 1 t := if_neg hz
    rw [e1]
    show (((n : Int) - 1 - (0 : Nat), z) :: (termsTo n 1 t ++ [((r.length : Int), c)] ++ termsTo n ((z :: t).length + 1) r)).foldl frStep (List.replicate (((n : Int) - 1 - (0 : Nat)).toNat + 1) 0) = (((n : Int) - 1 - (0 : Nat), z) :: (termsTo n 1 t ++ [((r.length : Int), c)] ++ termsTo n ((z :: t).length + 1) r)).foldl frStep (zer n)
    rw [List.length_cons] at hn
    rw [show ((n : Int) - 1 - (0 : Nat)).toNat + 1 = n by omega]
    rfl
theorem hd_cases {zs : List Int} (h : zs.head? ≠ some 0) : zs = [] ∨ ∃ z t, zs = z :: t ∧ z ≠ 0 := by
  cases zs with
  | nil => exact .inl rfl
  | cons z t => exact .inr ⟨z, t, rfl, fun e => h (by rw [e]; rfl)⟩
theorem frT_terms {zs : List Int} (h : zs.head? ≠ some 0) : frT (terms zs) = zs := by
  rcases hd_cases h with e | ⟨z, t, e, hz⟩
  · subst e
    rfl
  · subst e
    rw [terms_cons hz]
    exact frT_join (n := t.length + 1) (hi := []) (by rw [List.length_nil]; omega) (.inl rfl)
theorem add_same {xs ys : List Int} (hx : xs.head? ≠ some 0) (hy : ys.head? ≠ some 0) : addT xs ys = addP xs ys := by
  rcases hd_cases hy with e | ⟨z, t, e, hz⟩
  · subst e
    rfl
  · subst e
    unfold addT addP
    rw [if_neg (by simp), terms_cons hz]
    show frT (((terms xs).filter fun p => decide (p.1 > (t.length : Int))) ++ [((t.length : Int), z + (((terms xs).filter fun p => decide (p.1 = (t.length : Int))).map (·.2)).sum)] ++ termsTo (t.length + 1) 1 t) = _
    by_cases c : xs.length < (z :: t).length
    · rw [if_pos c]
      rw [List.length_cons] at c
      have f1 : (terms xs).filter (fun p => decide (p.1 > (t.length : Int))) = [] := filter_none fun p hp => by
        have := (terms_fst _ _ _ _ hp).1
        exact decide_eq_false (by omega)
      have f2 : (terms xs).filter (fun p => decide (p.1 = (t.length : Int))) = [] := filter_none fun p hp => by
        have := (terms_fst _ _ _ _ hp).1
        exact decide_eq_false (by omega)
      rw [f1, f2]
      have e0 : z + (List.map (fun x : Int × Int => x.2) []).sum = z := by simp
      rw [e0]
      exact frT_join (n := t.length + 1) (hi := []) (by rw [List.length_nil]; omega) (.inl rfl)
    · rw [if_neg c]
      rw [List.length_cons] at c
      have hlen : (z :: t).length = t.length + 1 := rfl
      rw [hlen]
      obtain ⟨hi, u, lo, hxs, hlo⟩ : ∃ hi u lo, xs = hi ++ u :: lo ∧ lo.length = t.length := by
        have h1 : xs.length - (t.length + 1) < xs.length := by omega
        refine ⟨xs.take (xs.length - (t.length + 1)), xs[xs.length - (t.length + 1)], xs.drop (xs.length - (t.length + 1) + 1), ?_, ?_⟩
        · rw [← List.drop_eq_getElem_cons h1, List.take_append_drop]
        · rw [List.length_drop]
          omega
      have hl : xs.length = hi.length + 1 + t.length := by
        rw [hxs, List.length_append, List.length_cons, hlo]
        omega
      have hsub : xs.length - (t.length + 1) = hi.length := by omega
      rw [hsub]
      have et : terms xs = termsTo xs.length 0 hi ++ (if u = 0 then [] else [((t.length : Int), u)]) ++ termsTo xs.length (hi.length + 1) lo := by
        show termsTo xs.length 0 xs = _
        conv => lhs; arg 3; rw [hxs]
        rw [termsTo_app, List.append_assoc]
        congr 1
        rw [Nat.zero_add]
        show (if u = 0 then _ else _) = _
        split
        · rfl
        · show _ :: _ = [_] ++ _
          rw [show (xs.length : Int) - 1 - hi.length = t.length by omega]
          rfl
      have f1 : (terms xs).filter (fun p => decide (p.1 > (t.length : Int))) = termsTo xs.length 0 hi := by
        rw [et, List.filter_append, List.filter_append, filter_all (fun p hp => ?_), filter_none (l := termsTo xs.length (hi.length + 1) lo) (fun p hp => ?_), filter_none (l := if u = 0 then [] else [((t.length : Int), u)]) (fun p hp => ?_)]
        · simp
        · split at hp
          · cases hp
          · rw [List.mem_singleton.mp hp]
            exact decide_eq_false (by show ¬ (t.length : Int) > t.length; omega)
        · have := (terms_fst _ _ _ _ hp).1
          exact decide_eq_false (by omega)
        · have := (terms_fst _ _ _ _ hp).2.1
          exact decide_eq_true (by omega)
      have f2 : (((terms xs).filter fun p => decide (p.1 = (t.length : Int))).map (·.2)).sum = u := by
        rw [et, List.filter_append, List.filter_append, filter_none (l := termsTo xs.length 0 hi) (fun p hp => ?_), filter_none (l := termsTo xs.length (hi.length + 1) lo) (fun p hp => ?_), filter_all (l := if u = 0 then [] else [((t.length : Int), u)]) (fun p hp => ?_)]
        · by_cases hu : u = 0
          · rw [if_pos hu, hu]
            rfl
          · rw [if_neg hu]
            simp
        · split at hp
          · cases hp
          · rw [List.mem_singleton.mp hp]
            exact decide_eq_true rfl
        · have := (terms_fst _ _ _ _ hp).1
          exact decide_eq_false (by omega)
        · have := (terms_fst _ _ _ _ hp).2.1
          exact decide_eq_false (by omega)
      rw [f1, f2]
      have g1 : xs.take hi.length = hi := by rw [hxs, List.take_left]
      have g2 : xs.getD hi.length 0 = u := by
        rw [hxs, List.getD_eq_getElem?_getD, List.getElem?_append_right (Nat.le_refl _), Nat.sub_self]
        rfl
      rw [g1, g2, Int.add_comm z u]
      refine frT_join hl ?_
      cases hi with
      | nil => exact .inl rfl
      | cons q s =>
        refine .inr ⟨q, s, rfl, fun e => hx ?_⟩
        rw [hxs, e]
        rfl
def stepP (a0 : Int) (tl : List Int) (found : List Int) (p : Int × Int) : List Int := addP found (if p.1 > 0 then p.2 :: zer (tl.length + p.1.toNat) else (a0 * p.2) :: tl)
def gP (d : Nat) (pre : List Int) (k : Nat) : List Int := if pre = [] then [] else pre ++ zer (k + d)
theorem addP_nil (z : Int) (t : List Int) : addP [] (z :: t) = z :: t := by
  unfold addP
  rw [if_neg (by simp), if_pos (by simp)]
theorem addP_zer {pre t : List Int} {z : Int} {k : Nat} (h : k = t.length + 1) : addP (pre ++ zer k) (z :: t) = pre ++ z :: t := by
  unfold addP
  have hl : (pre ++ zer k).length = pre.length + (t.length + 1) := by
    rw [List.length_append, h]
    unfold zer
    rw [List.length_replicate]
  rw [if_neg (by simp), hl, List.length_cons, if_neg (by omega), Nat.add_sub_cancel, List.take_left]
  have e : (pre ++ zer k).getD pre.length 0 = 0 := by
    rw [List.getD_eq_getElem?_getD, List.getElem?_append_right (Nat.le_refl _), Nat.sub_self, h]
    rfl
  rw [e]
  show pre ++ (0 + z) :: t = _
  rw [Int.zero_add]
theorem zer_succ (k : Nat) : zer (k + 1) = 0 :: zer k := rfl
theorem prod_at (a0 : Int) (tl : List Int) (f : Int) : ∀ (zs pre : List Int) (m : Nat), m = pre.length + zs.length + 1 → (pre = [] → (zs ++ [f]).head? ≠ some 0) →
    (termsTo m pre.length (zs ++ [f])).foldl (stepP a0 tl) (gP tl.length pre (zs.length + 1)) = pre ++ zs ++ (if f = 0 then zer (tl.length + 1) else (a0 * f) :: tl)
  | [], pre, m, hm, hh => by
    rw [List.length_nil] at hm
    show (if f = 0 then [] else [((m : Int) - 1 - pre.length, f)]).foldl (stepP a0 tl) (gP tl.length pre (0 + 1)) = _
    rw [List.append_nil]
    by_cases hf : f = 0
    · rw [if_pos hf, if_pos hf]
      have hp : pre ≠ [] := fun e => hh e (by rw [hf]; rfl)
      show gP tl.length pre (0 + 1) = _
      unfold gP
      rw [if_neg hp, show 0 + 1 + tl.length = tl.length + 1 by omega]
    · rw [if_neg hf, if_neg hf]
      show stepP a0 tl (gP tl.length pre (0 + 1)) ((m : Int) - 1 - pre.length, f) = _
      unfold stepP gP
      rw [if_neg (show ¬ (m : Int) - 1 - pre.length > 0 by omega)]
      by_cases hp : pre = []
      · rw [if_pos hp, hp]
        exact addP_nil _ _
      · rw [if_neg hp]
        exact addP_zer (by omega)
  | z :: zs, pre, m, hm, hh => by
    rw [List.length_cons] at hm
    have ih := prod_at a0 tl f zs (pre ++ [z]) m (by rw [List.length_append]; simp; omega) (fun e => by simp at e)
    have e0 : (pre ++ [z]).length = pre.length + 1 := by rw [List.length_append]; rfl
    rw [e0] at ih
    have er : pre ++ (z :: zs) = pre ++ [z] ++ zs := by simp
    rw [er, ← ih]
    show (if z = 0 then termsTo m (pre.length + 1) (zs ++ [f]) else ((m : Int) - 1 - pre.length, z) :: termsTo m (pre.length + 1) (zs ++ [f])).foldl (stepP a0 tl) (gP tl.length pre (zs.length + 1 + 1)) = _
    have g1 : gP tl.length (pre ++ [z]) (zs.length + 1) = (pre ++ [z]) ++ zer (zs.length + 1 + tl.length) := by
      unfold gP
      rw [if_neg (by simp)]
    by_cases hz : z = 0
    · rw [if_pos hz]
      have hp : pre ≠ [] := fun e => hh e (by rw [hz]; rfl)
      congr 1
      rw [g1, hz]
      unfold gP
      rw [if_neg hp, show zs.length + 1 + 1 + tl.length = (zs.length + 1 + tl.length) + 1 by omega, zer_succ]
      simp
    · rw [if_neg hz, List.foldl_cons]
      congr 1
      rw [g1]
      unfold stepP
      rw [if_pos (show (m : Int) - 1 - pre.length > 0 by omega)]
      show addP _ (z :: zer (tl.length + ((m : Int) - 1 - pre.length).toNat)) = _
      have e1 : tl.length + ((m : Int) - 1 - pre.length).toNat = zs.length + 1 + tl.length := by omega
      rw [e1]
      unfold gP
      by_cases hp : pre = []
      · rw [if_pos hp, hp]
        exact addP_nil _ _
      · rw [if_neg hp, addP_zer (by unfold zer; rw [List.length_replicate]; omega)]
        simp
theorem mul_same {a0 : Int} {tl ys : List Int} (hy : ys.head? ≠ some 0) : (terms ys).foldl (stepP a0 tl) [] = mulP (a0 :: tl) ys := by
  by_cases e : ys = []
  · subst e
    rfl
  · have e1 : ys.dropLast ++ [ys.getLast e] = ys := List.dropLast_concat_getLast e
    have hl : ys.length = ([] : List Int).length + ys.dropLast.length + 1 := by
      rw [List.length_nil, List.length_dropLast]
      have := List.length_pos_iff.mpr e
      omega
    have h := prod_at a0 tl (ys.getLast e) ys.dropLast [] ys.length hl (fun _ => by rw [e1]; exact hy)
    rw [e1] at h
    have e2 : ys.getLastD 0 = ys.getLast e := by
      rw [List.getLastD_eq_getLast?, List.getLast?_eq_getLast e]
      rfl
    show (termsTo ys.length 0 ys).foldl (stepP a0 tl) [] = _
    have h' : (termsTo ys.length 0 ys).foldl (stepP a0 tl) [] = [] ++ ys.dropLast ++ (if ys.getLast e = 0 then zer (tl.length + 1) else (a0 * ys.getLast e) :: tl) := h
    rw [h', List.nil_append]
    unfold mulP
    have hn : ¬ (a0 :: tl = [] ∨ ys = []) := by simp [e]
    rw [if_neg hn, e2]
    split <;> rfl
/-! what a sum keeps -/
theorem addP_len (xs ys : List Int) : (addP xs ys).length ≤ max xs.length ys.length := by
  unfold addP
  split
  · omega
  · split
    · omega
    · rename_i h1 h2
      rw [List.length_append, List.length_cons, List.length_take, List.length_tail]
      have := List.length_pos_iff.mpr h1
      omega
theorem addP_mem {xs ys : List Int} {z : Int} (h : z ∈ addP xs ys) : z ∈ xs ∨ z ∈ ys ∨ ∃ x y, x ∈ xs ∧ y ∈ ys ∧ z = x + y := by
  unfold addP at h
  split at h
  · exact .inl h
  · rename_i h1
    split at h
    · exact .inr (.inl h)
    · rename_i h2
      rcases List.mem_append.mp h with h | h
      · exact .inl (List.mem_of_mem_take h)
      · rcases List.mem_cons.mp h with h | h
        · refine .inr (.inr ?_)
          cases ys with
          | nil => exact absurd rfl h1
          | cons y r =>
            rw [List.length_cons] at h2 h
            have hlt : xs.length - (r.length + 1) < xs.length := by omega
            refine ⟨xs[xs.length - (r.length + 1)], y, List.getElem_mem _, List.mem_cons_self .., ?_⟩
            rw [h, List.getD_eq_getElem?_getD, List.getElem?_eq_getElem hlt]
            rfl
        · exact .inr (.inl (List.mem_of_mem_tail h))
theorem addP_nz {xs ys : List Int} (hx : NZ xs) (hy : NZ ys) : NZ (addP xs ys) := by
  refine ⟨fun z h => ?_, ?_⟩
  · rcases addP_mem h with h | h | ⟨x, y, h1, h2, rfl⟩
    · exact hx.nn z h
    · exact hy.nn z h
    · have := hx.nn x h1
      have := hy.nn y h2
      omega
  · unfold addP
    split
    · exact hx.hd
    · rename_i h1
      split
      · exact hy.hd
      · rename_i h2
        cases ys with
        | nil => exact absurd rfl h1
        | cons y r =>
          rcases hd_cases hx.hd with e | ⟨a, t, e, ha⟩
          · subst e
            simp at h2
          · subst e
            by_cases c : (a :: t).length - (y :: r).length = 0
            · rw [c, List.take_zero]
              show some (a + y) ≠ some 0
              have h3 := hx.nn a (List.mem_cons_self ..)
              have h4 := hy.nn y (List.mem_cons_self ..)
              intro q
              have := Option.some.inj q
              omega
            · obtain ⟨k, hk⟩ : ∃ k, (a :: t).length - (y :: r).length = k + 1 := ⟨_, (Nat.succ_pred c).symm⟩
              rw [hk]
              show some a ≠ some 0
              intro q
              exact ha (Option.some.inj q)
theorem cut_last (xs : List V) : cutV xs none (some (-1)) = xs.dropLast := by
  unfold cutV
  have e : HT.sIx xs.length xs.length (some (-1)) = xs.length - 1 := by
    show (if (-1 : Int) < 0 then ((-1 : Int) + (xs.length : Int)).toNat else min (-1 : Int).toNat xs.length) = _
    rw [if_pos (by decide)]
    omega
  rw [HT.sIx_none, e, List.drop_zero, Nat.sub_zero, List.dropLast_eq_take]
theorem size_ok {n : Nat} (h : n ≤ 1000) : n ≤ sizeLine := Nat.le_of_lt (small1000 h)
section
variable {P : Program} {w : World} {K : PySem.W.Frag} {mg : Str → Option Value} {base : Heap}
theorem ixt_K {X : Cx} (h : X.K = K) : IxR X (rIxT K) := by
  subst h
  exact ix_tup
end

abbrev sPmu : Stmt := topS 12
section
variable {P : Program} {w : World} {K : PySem.W.Frag} {mg : Str → Option Value} {base : Heap}
/-! ### multiply -/
theorem scPmu : FnScope ["first", "second", "finite"] ["first", "second"] (defScope sPmu) := ⟨rfl, rfl, rfl, by decide +kernel, rfl, by decide +kernel, by decide +kernel⟩
def spPmu (K : PySem.W.Frag) : Sp := fun vs H Q _ => ∃ (a b : Addr) (as bs : List Int), vs = [.ref a, .ref b] ∧ SqT K H a (as.map V.int) ∧ SqT K H b (bs.map V.int) ∧ as.length ≤ 400 ∧ bs.length ≤ 400 ∧ (∀ z ∈ as, z.natAbs < 2 ^ 63) ∧ ∀ p H', Same H H' → SqT K H' p ((mulP as bs).map V.int) → Q (.ref p) H'
theorem ok_pmu {f : Addr} {fd : FuncData} {k : Nat} (F : Fun K "multiply" "multiply" sPmu f fd) (ml : mg "len" = none) : FnOk P w K mg base CX0 (k + 1) f fd ["first", "second"] (spPmu K) := by
  refine F.ok scPmu (fun vs H Q E h => ?_) (fun cdv A outer s H vs Q E hr h => ?_)
  · obtain ⟨a, b, as, bs, rfl, _⟩ := h
    rfl
  · obtain ⟨a, b, as, bs, rfl, ha, hb, la, lb, hbd, q⟩ := h
    refine ⟨_, (pss_cons (ps_if (PW.pt (pw_or (pt_cmpR op_eq (pe_callB call_len_seq (by rfl) ml PySem.boot_len (pa_cons (pv 0) pa_nil)) (pe_int) (nomark _)) (pw_or1 (pt_cmpR op_eq (pe_callB call_len_seq (by rfl) ml PySem.boot_len (pa_cons (pv 1) pa_nil)) (pe_int) (nomark _))))) (pss_one (ps_ret (pe_tup pa_nil))) pss_nil)
        (pss_cons (ps_set (i := 2) scPmu.nd rfl (.inl rfl) (pe_ix ix_tup (pv 1) (pe_un un_neg pe_int) (fun _ _ => rfl)))
        (pss_cons (ps_if (pt_cmpR op_eq (pv 2) (pe_int) (nomark _)) (pss_one (ps_ret (pe_op op_catU (pe_slice sl_tupU (pv 1) (po_none) (po_some (pe_un un_neg pe_int))) (pe_op op_repU (pe_tup (pa_cons (pe_int) pa_nil)) (pe_callB call_len_seq (by rfl) ml PySem.boot_len (pa_cons (pv 0) pa_nil)))))) pss_nil)
        (pss_one (ps_ret (pe_op op_catU (pe_op op_catU (pe_slice sl_tupU (pv 1) (po_none) (po_some (pe_un un_neg pe_int))) (pe_tup (pa_cons (pe_op op_mul (pe_ix ix_tup (pv 0) (pe_int) (fun _ _ => rfl)) (pv 2)) pa_nil))) (pe_slice sl_tupU (pv 0) (po_some (pe_int)) (po_none)))))))), ?_⟩
    have fin : ∀ zs, mulP as bs = zs → ∀ p H', Same H H' → SqT K H' p (zs.map V.int) → Q (.ref p) H' := by
      intro zs e p H' s t
      rw [← e] at t
      exact q p H' s t
    have none : as = [] ∨ bs = [] → Nat.le 0 sizeLine ∧ ∀ p, H p = .none → Q (.ref p) (L2.upd H p (.tup [])) := fun h => ⟨Nat.zero_le _, fun p np => by
      refine fin [] ?_ p _ (same_upd np) (.inl (.inl upd_same))
      unfold mulP
      rw [if_pos h]⟩
    refine ⟨_, rfl, a, _, rfl, .inr ha, rfl, _, rfl, ?_⟩
    rw [List.length_map]
    refine ite2 (fun c => ?_) (fun c => ?_)
    · refine none (.inl ?_)
      have := V.int.inj (of_decide_eq_true c)
      exact List.eq_nil_of_length_eq_zero (by omega)
    · refine ⟨_, rfl, b, _, rfl, .inr hb, rfl, _, rfl, ?_⟩
      rw [List.length_map]
      refine ite2 (fun c2 => ?_) (fun c2 => ?_)
      · refine none (.inr ?_)
        have := V.int.inj (of_decide_eq_true c2)
        exact List.eq_nil_of_length_eq_zero (by omega)
      · have hbn : bs ≠ [] := fun e => c2 (by rw [e]; exact decide_eq_true rfl)
        obtain ⟨x, tl, rfl⟩ : ∃ x tl, as = x :: tl := by
          cases as with
          | nil => exact absurd (decide_eq_true rfl) c
          | cons x tl => exact ⟨x, tl, rfl⟩
        obtain ⟨bi, fi, rfl⟩ : ∃ bi fi, bs = bi ++ [fi] := ⟨bs.dropLast, bs.getLast hbn, (List.dropLast_concat_getLast hbn).symm⟩
        have hmul : mulP (x :: tl) (bi ++ [fi]) = if fi = 0 then bi ++ zer (x :: tl).length else bi ++ (x * fi) :: tl := by
          unfold mulP
          rw [if_neg (by simp), List.getLastD_concat, List.dropLast_concat]
          rfl
        have hlast : atI ((bi ++ [fi]).map V.int) (-1) = some (.int fi) := by
          rw [List.map_append]
          exact atI_last _ _
        have hdl : cutV ((bi ++ [fi]).map V.int) .none (some (-1)) = bi.map V.int := by
          rw [cut_last, List.map_append]
          exact List.dropLast_concat ..
        rw [List.length_append, List.length_singleton] at lb
        refine ⟨_, rfl, 1, rfl, b, _, -1, _, rfl, rfl, hb, hlast, ?_⟩
        refine ⟨_, rfl, rfl, _, rfl, ite2 (fun c3 => ?_) (fun c3 => ?_)⟩
        · have hf : fi = 0 := V.int.inj (of_decide_eq_true c3)
          refine ⟨_, rfl, 1, rfl, -1, rfl, b, _, rfl, hb, fun p1 H1 s1 t1 => ⟨by show 1 ≤ sizeLine; decide, fun p2 np2 => ?_⟩⟩
          rw [hdl] at t1
          have e2 := same_upd (o := .tup [.int 0]) np2
          refine ⟨_, rfl, a, _, rfl, .inr (Same.seqT (s1.trans e2) ha), p2, _, _, rfl, rfl, .inl (.inl upd_same), rfl, by omega, by rw [List.length_map]; omega, fun p3 H3 s3 t3 => ?_⟩
          rw [flat_one, List.length_map] at t3
          have s13 := (s1.trans e2).trans s3
          refine ⟨p1, p3, _, _, rfl, rfl, Same.seqT (e2.trans s3) t1, t3, size_ok ?_, fun p4 H4 s4 t4 => ?_⟩
          · rw [List.length_map, List.length_map, List.length_replicate]
            omega
          · refine fin _ (hmul.trans (if_pos hf)) p4 H4 (s13.trans s4) ?_
            rw [List.map_append]
            exact t4
        · have hf : fi ≠ 0 := fun z => c3 (decide_eq_true (by rw [z]))
          have hx := hbd x (List.mem_cons_self ..)
          refine ⟨_, rfl, 1, rfl, -1, rfl, b, _, rfl, hb, fun p1 H1 s1 t1 => ?_⟩
          rw [hdl] at t1
          refine ⟨_, rfl, a, _, 0, _, rfl, rfl, Same.seqT s1 ha, atI_nat (j := 0) rfl, _, rfl, _, _, rfl, rfl, .inl ⟨by omega, by omega⟩, by show 1 ≤ sizeLine; decide, fun p2 np2 => ?_⟩
          have e2 := same_upd (o := .tup [.int (x * fi)]) np2
          refine ⟨p1, p2, _, _, rfl, rfl, Same.seqT e2 t1, .inl (.inl upd_same), size_ok ?_, fun p3 H3 s3 t3 => ?_⟩
          · rw [List.length_map, List.length_singleton]
            omega
          · have s13 := (s1.trans e2).trans s3
            refine ⟨_, rfl, 1, rfl, a, _, rfl, Same.seqT s13 ha, fun p4 H4 s4 t4 => ?_⟩
            have ec : cutV ((x :: tl).map V.int) (some 1) .none = tl.map V.int := cut_from _ 1
            rw [ec] at t4
            rw [List.length_cons] at la
            refine ⟨p3, p4, _, _, rfl, rfl, Same.seqT s4 t3, t4, size_ok ?_, fun p5 H5 s5 t5 => ?_⟩
            · rw [List.length_append, List.length_map, List.length_map, List.length_singleton]
              omega
            · refine fin _ (hmul.trans (if_neg hf)) p5 H5 ((s13.trans s4).trans s5) ?_
              rw [List.map_append]
              have e3 : bi.map V.int ++ [V.int (x * fi)] ++ tl.map V.int = bi.map V.int ++ ((x * fi) :: tl).map V.int := by
                rw [List.append_assoc]
                rfl
              rw [← e3]
              exact t5
end

abbrev sPow : Stmt := topS 10
section
variable {P : Program} {w : World} {K : PySem.W.Frag} {mg : Str → Option Value} {base : Heap}
/-! ### power -/
def powL (e c : Int) : List Int := if c = 0 then [] else c :: List.replicate e.toNat 0
theorem scPow : FnScope ["exponent", "coefficient"] ["exponent", "coefficient"] (defScope sPow) := ⟨rfl, rfl, rfl, by decide +kernel, rfl, by decide +kernel, by decide +kernel⟩
def spPow (K : PySem.W.Frag) : Sp := fun vs H Q _ => ∃ (e c : Int), vs = [.int e, .int c] ∧ 0 ≤ e ∧ e ≤ 900 ∧ ∀ p H', Same H H' → SqT K H' p ((powL e c).map V.int) → Q (.ref p) H'
theorem ok_pow {f : Addr} {fd : FuncData} {k : Nat} {dvs : List V} (F : FunD K "power" "power" (defArgs sPow) (defBody sPow) (defScope sPow) dvs [] f fd) : FnOk P w K mg base CX0 (k + 1) f fd ["exponent", "coefficient"] (spPow K) := by
  refine F.ok scPow (fun vs H Q E h => ?_) (fun cdv A outer s H vs Q E hr h => ?_)
  · obtain ⟨e, c, rfl, _⟩ := h
    rfl
  · obtain ⟨e, c, rfl, h0, h1, q⟩ := h
    refine ⟨_, (show PSs (cxOf CX0 P w K mg base ["exponent", "coefficient"] "power" (defScope sPow) f cdv A outer s H E).nox (defBody sPow) _ from
      pss_cons (ps_if (pt_cmpR op_eq (pv 1) pe_int (nomark _)) (pss_one (ps_ret (pe_tup pa_nil))) pss_nil)
      (pss_one (ps_ret (pe_op op_catU (pe_tup (pa_cons (pv 1) pa_nil)) (pe_op op_repU (pe_tup (pa_cons pe_int pa_nil)) (pv 0)))))).nox, ?_⟩
    refine ⟨_, rfl, rfl, _, rfl, ite2 (fun ec => ?_) (fun ec => ?_)⟩
    · have ec' : c = 0 := V.int.inj (of_decide_eq_true ec)
      refine ⟨Nat.zero_le _, fun p np => q p _ (same_upd np) (.inl (.inl ?_))⟩
      rw [upd_same, powL, if_pos ec']
      rfl
    · have ec' : c ≠ 0 := fun z => ec (decide_eq_true (by rw [z]))
      refine ⟨_, rfl, by show 1 ≤ sizeLine; decide, fun p np => ⟨by show 1 ≤ sizeLine; decide, fun p2 np2 => ⟨_, rfl, p2, e, _, rfl, rfl, .inl (.inl upd_same), rfl, by omega, by omega, fun p3 H3 s3 t3 => ?_⟩⟩⟩
      rw [flat_one] at t3
      refine ⟨p, p3, [.int c], _, rfl, rfl, Same.seqT s3 (Same.seqT (same_upd np2) (.inl (.inl upd_same))), t3, ?_, fun p4 H4 s4 t4 => q p4 H4 ((((same_upd np).trans (same_upd np2)).trans s3).trans s4) ?_⟩
      · rw [List.length_map, List.length_replicate]
        exact Nat.le_of_lt (small1000 (by
          show 1 + e.toNat ≤ 1000
          omega))
      · rw [powL, if_neg ec']
        exact t4
end
abbrev sAdd : Stmt := topS 24
abbrev sPrd : Stmt := topS 25
theorem rev_of {r : List (Int × Int)} (h : r.Pairwise fun p q => p.1 > q.1) : ∀ p ∈ r, ∀ e ∈ r.head?, p.1 ≤ e.1 := by
  cases r with
  | nil => intro p hp; cases hp
  | cons x t =>
    intro p hp e he
    have e' : x = e := Option.some.inj he
    subst e'
    rcases List.mem_cons.mp hp with h1 | h1
    · rw [h1]
      exact Int.le_refl _
    · exact Int.le_of_lt ((List.pairwise_cons.mp h).1 p h1)
theorem terms_pw (n : Nat) : ∀ (zs : List Int) (i : Nat), (termsTo n i zs).Pairwise fun p q => p.1 > q.1
  | [], _ => .nil
  | z :: r, i => by
    have ih := terms_pw n r (i + 1)
    show ((if z = 0 then termsTo n (i + 1) r else ((n : Int) - 1 - i, z) :: termsTo n (i + 1) r)).Pairwise _
    split
    · exact ih
    · refine .cons (fun p hp => ?_) ih
      have := (terms_fst _ _ _ _ hp).1
      show (n : Int) - 1 - i > p.1
      omega
theorem fr_ok {ps : List (Int × Int)} (h : ps.Pairwise fun p q => p.1 > q.1) (h0 : ∀ p ∈ ps, 0 ≤ p.1) (h1 : ∀ p ∈ ps, p.1 ≤ 900) : FrOk ps := ⟨h0, rev_of h, h1⟩
section
variable {P : Program} {w : World} {K : PySem.W.Frag} {mg : Str → Option Value} {base : Heap}
abbrev nAdd : List Str := ["first", "second", "right", "exponent", "number", "kept", "equal", "term"]
theorem scAdd : FnScope nAdd ["first", "second"] (defScope sAdd) := ⟨rfl, rfl, rfl, by decide +kernel, rfl, by decide +kernel, by decide +kernel⟩
def spAdd (K : PySem.W.Frag) : Sp := fun vs H Q _ => ∃ (a b : Addr) (as bs : List Int), vs = [.ref a, .ref b] ∧ SqT K H a (as.map V.int) ∧ SqT K H b (bs.map V.int) ∧ as.length ≤ 300 ∧ bs.length ≤ 300 ∧ as.head? ≠ some 0 ∧ bs.head? ≠ some 0 ∧ ∀ p H', Same H H' → SqT K H' p ((addP as bs).map V.int) → Q (.ref p) H'

theorem ok_add {f fT fF : Addr} {fd dT dF : FuncData} {k : Nat} (F : Fun K "_law_added" "_law_added" sAdd f fd) (ms : mg "sum" = none)
    (GT : FnOk P w K mg base CX0 (k + 1) fT dT ["ordinal"] (spTrm K)) (kT : PySem.W.keepIn K (.ref fT) = true) (bT : Binds K dT ["ordinal"] []) (gT : mg "_law_term_list" = some (.ref fT))
    (GF : FnOk P w K mg base CX0 (k + 1) fF dF ["terms"] (spFrm K)) (kF : PySem.W.keepIn K (.ref fF) = true) (bF : Binds K dF ["terms"] []) (gF : mg "_law_from_terms" = some (.ref fF)) :
    FnOk P w K mg base CX0 (k + 2) f fd ["first", "second"] (spAdd K) := by
  refine F.ok scAdd (fun vs H Q E h => ?_) (fun cdv A outer s H vs Q E hr h => ?_)
  · obtain ⟨a, b, as, bs, rfl, _⟩ := h
    rfl
  · obtain ⟨a, b, as, bs, rfl, ha, hb, la, lb, na, nb, q⟩ := h
    refine ⟨_, (pss_cons (ps_set (i := 2) scAdd.nd rfl (.inl rfl) (pe_call GT hr (by rfl) gT kT bT .nil pass0 (pa_cons (pv 1) pa_nil)))
        (pss_cons (ps_if (pt_cmpR (op_eqD hr.units) (pv 2) (pe_lst pa_nil) (nomark _)) (pss_one (ps_ret (pv 0))) pss_nil)
        (pss_cons (ps_asg (pe_ix ix_list (pv 2) (pe_int) (fun _ _ => rfl)) (pg_tup rfl (pgs_cons (pg_name (i := 3) scAdd.nd rfl (.inr rfl)) (pgs_cons (pg_name (i := 4) scAdd.nd rfl (.inl rfl)) pgs_nil))))
        (pss_cons (ps_setLc (i := 5) (own := [("term", 7)]) (g := gName 7) (by rfl) scAdd.nd rfl rfl (sw_true rfl rfl rfl (by decide +kernel)) (pi_list (pe_call GT hr (by rfl) gT kT bT .nil pass0 (pa_cons (pv 0) pa_nil))) (blkOk_by (N := nAdd) (sc := defScope sAdd) (by decide +kernel)) (fun _ _ _ _ _ => pg_name (i := 7) scAdd.nd rfl (.inl rfl)) (fun _ _ _ _ _ => pts_one (pt_cmpR op_gt (pe_ix (ixt_K (K := K) rfl) (pv 7) (pe_int) (fun _ _ => rfl)) (pv 3) (nomark _))) (fun _ _ _ _ _ => pv 7))
        (pss_cons (ps_setLc (i := 6) (own := [("term", 7)]) (g := gName 7) (by rfl) scAdd.nd rfl rfl (sw_true rfl rfl rfl (by decide +kernel)) (pi_list (pe_call GT hr (by rfl) gT kT bT .nil pass0 (pa_cons (pv 0) pa_nil))) (blkOk_by (N := nAdd) (sc := defScope sAdd) (by decide +kernel)) (fun _ _ _ _ _ => pg_name (i := 7) scAdd.nd rfl (.inl rfl)) (fun _ _ _ _ _ => pts_one (pt_cmpR op_eq (pe_ix (ixt_K (K := K) rfl) (pv 7) (pe_int) (fun _ _ => rfl)) (pv 3) (nomark _))) (fun _ _ _ _ _ => pe_ix (ixt_K (K := K) rfl) (pv 7) (pe_int) (fun _ _ => rfl)))
        (pss_one (ps_ret (pe_call GF hr (by rfl) gF kF bF .nil pass0 (pa_cons (pe_op op_cat (pe_op op_cat (pv 5) (pe_lst (pa_cons (pe_tup (pa_cons (pv 3) (pa_cons (pe_op op_add (pv 4) (pe_callB (cr_sum rfl) (by rfl) ms (by decide +kernel) (pa_cons (pv 6) pa_nil))) pa_nil))) pa_nil))) (pe_slice sl_list (pv 2) (po_some (pe_int)) (po_none))) pa_nil))))))))), ?_⟩
    have q : ∀ p H', Same H H' → SqT K H' p ((addT as bs).map V.int) → Q (.ref p) H' := by
      rw [add_same na nb]
      exact q
    refine ⟨_, rfl, b, bs, rfl, hb, by omega, fun R H1 ur s1 nR hR pr => ?_⟩
    refine ⟨_, rfl, Nat.zero_le _, fun p0 np0 => ?_⟩
    have s0 := same_upd (o := .lst []) np0
    have hR0 := s0 _ _ hR
    refine ⟨.list ((terms bs).map prD), .list [], .lst (.inl (.inl hR0)) (dp_prs (pr.same s0)), .lst (.inl (.inl upd_same)) .nil, shaped_prs _, shaped_prs [], _, rfl, ?_⟩
    rw [eqv_nil]
    have s01 := s1.trans s0
    refine ite2 (fun c => ?_) (fun c => ?_)
    · have e : terms bs = [] := by
        have := of_decide_eq_true c
        simpa using this
      refine ⟨_, rfl, q a _ s01 ?_⟩
      have e2 : addT as bs = as := by
        unfold addT
        rw [e]
      rw [e2]
      exact Same.seqT s01 ha
    · obtain ⟨⟨e0, c0⟩, r, et⟩ : ∃ p r, terms bs = p :: r := by
        cases h : terms bs with
        | nil => exact absurd (decide_eq_true (by rw [h]; rfl)) c
        | cons p r => exact ⟨p, r, rfl⟩
      have hT : addT as bs = frT (((terms as).filter fun p => decide (p.1 > e0)) ++ [(e0, c0 + (((terms as).filter fun p => decide (p.1 = e0)).map (·.2)).sum)] ++ r) := by
        unfold addT
        rw [et]
      have hfst := terms_fst bs.length bs 0 (e0, c0) (by show (e0, c0) ∈ terms bs; rw [et]; exact List.mem_cons_self ..)
      have hpw : (terms bs).Pairwise fun p q => p.1 > q.1 := terms_pw _ _ _
      have hall : ∀ p ∈ terms bs, 0 ≤ p.1 ∧ p.1 ≤ 300 := fun p hp => by
        have := terms_fst _ _ _ _ hp
        omega
      rw [et] at pr hpw hall
      obtain ⟨v0, us, hur, t0, hv0, ht0⟩ : ∃ (v0 : V) (us : List V), ur = v0 :: us ∧ ∃ t0, v0 = .ref t0 ∧ H1 t0 = some (.tup [.int e0, .int c0]) := by
        cases pr with
        | cons r1 _ => exact ⟨_, _, rfl, r1⟩
      subst hur hv0
      refine ⟨_, rfl, R, _, 0, _, rfl, rfl, .inl (.inl hR0), atI_nat (j := 0) rfl, t0, _, rfl, .inl (.inl (s0 _ _ ht0)), rfl, _, _, rfl, _, _, rfl, rfl, ?_⟩
      -- kept
      refine ⟨_, rfl, a, as, rfl, Same.seqT s01 ha, by omega, fun L1 H2 u2 s2 nL1 hL1 p2 => ⟨L1, rfl, ⟨_, .inl (.inl hL1)⟩, fun D nD => ?_⟩⟩
      refine lc_list (K := K) (a := L1) (xs := u2) (fun i H' => ∃ ks, Same H2 H' ∧ H' D = some (.lst ks) ∧ Prs H' ks (((terms as).take i).filter fun p => decide (p.1 > e0))) ?_ ?_ ?_ ?_
      · exact ⟨[], same_upd nD, upd_same, .nil⟩
      · rintro i H' _ ⟨_, sm, _⟩
        exact .inl (.inl (sm _ _ hL1))
      · rintro i x H3 hx ⟨ks, sm, hD, hp⟩
        obtain ⟨⟨e1, c1⟩, hy, T, rfl, hTT⟩ := Paired.at p2 hx
        have hT3 := sm _ _ hTT
        have etk : ((terms as).take (i + 1)).filter (fun p => decide (p.1 > e0)) = ((terms as).take i).filter (fun p => decide (p.1 > e0)) ++ [(e1, c1)].filter (fun p => decide (p.1 > e0)) := by
          rw [List.take_add_one, hy, List.filter_append]
          rfl
        refine ⟨rfl, _, rfl, T, _, 0, _, rfl, rfl, .inl (.inl hT3), atI_nat (j := 0) rfl, _, rfl, _, _, rfl, rfl, _, rfl, ite2 (fun hc => ?_) (fun hc => ?_)⟩
        · refine ⟨_, rfl, ks, hD, ?_, ks ++ [.ref T], fun b o e => ?_, upd_same, ?_⟩
          · have h1 := Paired.length hp
            have h2 := List.length_filter_le (fun p : Int × Int => decide (p.1 > e0)) ((terms as).take i)
            rw [List.length_take] at h2
            have h3 := termsTo_len as.length as 0
            unfold terms at h1 h2
            exact small1000 (by omega)
          · rw [upd_ne (ne_of_none e nD)]
            exact sm _ _ e
          · rw [etk]
            have ef : [(e1, c1)].filter (fun p : Int × Int => decide (p.1 > e0)) = [(e1, c1)] := filter_all fun p hp => by
              rw [List.mem_singleton.mp hp]
              exact decide_eq_true (of_decide_eq_true hc)
            rw [ef]
            exact Prs.upd (Paired.app hp (.cons ⟨T, rfl, hT3⟩ .nil)) hD
        · refine ⟨ks, sm, hD, ?_⟩
          rw [etk]
          have ef : [(e1, c1)].filter (fun p : Int × Int => decide (p.1 > e0)) = [] := filter_none fun p hp => by
            rw [List.mem_singleton.mp hp]
            exact decide_eq_false fun z => hc (decide_eq_true z)
          rw [ef, List.append_nil]
          exact hp
      · rintro H3 ⟨ks, s3, hD, hp⟩
        have hl2 : u2.length = (terms as).length := Paired.length p2
        rw [hl2, List.take_length] at hp
        have s03 := (s01.trans s2).trans s3
        -- equal
        refine ⟨_, rfl, a, as, rfl, Same.seqT s03 ha, by omega, fun L2' H4 u4 s4 nL4 hL4 p4 => ⟨L2', rfl, ⟨_, .inl (.inl hL4)⟩, fun D2 nD2 => ?_⟩⟩
        refine lc_list (K := K) (a := L2') (xs := u4) (fun i H' => Same H4 H' ∧ H' D2 = some (.lst (((((terms as).take i).filter fun p => decide (p.1 = e0)).map (·.2)).map V.int))) ?_ ?_ ?_ ?_
        · exact ⟨same_upd nD2, upd_same⟩
        · rintro i H' _ ⟨sm, _⟩
          exact .inl (.inl (sm _ _ hL4))
        · rintro i x H5 hx ⟨sm, hD2⟩
          obtain ⟨⟨e1, c1⟩, hy, T, rfl, hTT⟩ := Paired.at p4 hx
          have hT5 := sm _ _ hTT
          have etk : ((terms as).take (i + 1)).filter (fun p => decide (p.1 = e0)) = ((terms as).take i).filter (fun p => decide (p.1 = e0)) ++ [(e1, c1)].filter (fun p => decide (p.1 = e0)) := by
            rw [List.take_add_one, hy, List.filter_append]
            rfl
          refine ⟨rfl, _, rfl, T, _, 0, _, rfl, rfl, .inl (.inl hT5), atI_nat (j := 0) rfl, _, rfl, rfl, _, rfl, ite2 (fun hc => ?_) (fun hc => ?_)⟩
          · refine ⟨_, rfl, T, _, 1, _, rfl, rfl, .inl (.inl hT5), atI_nat (j := 1) rfl, _, hD2, ?_, fun b o e => ?_, ?_⟩
            · rw [List.length_map, List.length_map]
              have h2 := List.length_filter_le (fun p : Int × Int => decide (p.1 = e0)) ((terms as).take i)
              rw [List.length_take] at h2
              have h3 := termsTo_len as.length as 0
              unfold terms at h2
              unfold terms
              exact small1000 (by omega)
            · rw [upd_ne (ne_of_none e nD2)]
              exact sm _ _ e
            · have ef : [(e1, c1)].filter (fun p : Int × Int => decide (p.1 = e0)) = [(e1, c1)] := filter_all fun p hp => by
                rw [List.mem_singleton.mp hp]
                exact decide_eq_true (V.int.inj (of_decide_eq_true hc))
              rw [etk, ef, upd_same, List.map_append, List.map_append]
              rfl
          · have ef : [(e1, c1)].filter (fun p : Int × Int => decide (p.1 = e0)) = [] := filter_none fun p hp => by
              rw [List.mem_singleton.mp hp]
              exact decide_eq_false fun z => hc (decide_eq_true (by
                have z' : e1 = e0 := z
                rw [z']))
            refine ⟨sm, ?_⟩
            rw [etk, ef, List.append_nil]
            exact hD2
        · rintro H5 ⟨s5, hD2⟩
          have hl4 : u4.length = (terms as).length := Paired.length p4
          rw [hl4, List.take_length] at hD2
          have s35 := s4.trans s5
          -- the terms, put together
          refine ⟨_, rfl, _, rfl, _, rfl, _, rfl, D2, _, rfl, .inl (.inl hD2), _, _, rfl, rfl, by show 2 ≤ sizeLine; decide, fun p5 np5 => ⟨by show 1 ≤ sizeLine; decide, fun p6 np6 => ?_⟩⟩
          have hp := hp.same s35
          have hDk := s35 _ _ hD
          have hRk := ((s2.trans s3).trans s35) _ _ hR0
          have prk := (pr.same s0).same ((s2.trans s3).trans s35)
          have hSm : Same H H5 := s03.trans s35
          clear s03 s35 s2 s3 s4 s5 pr hR0 hD
          obtain ⟨sum, hsum⟩ : ∃ sum, sum = (((terms as).filter fun p => decide (p.1 = e0)).map (·.2)).sum := ⟨_, rfl⟩
          rw [← hsum] at np6 hT ⊢
          have e5 := same_upd (o := .tup [.int e0, .int (c0 + sum)]) np5
          have e6 := same_upd (o := .lst [.ref p5]) np6
          have e56 := e5.trans e6
          have hlk := Paired.length hp
          have hfl := List.length_filter_le (fun p : Int × Int => decide (p.1 > e0)) (terms as)
          have hta := termsTo_len as.length as 0
          have htb := termsTo_len bs.length bs 0
          have hlr := Paired.length prk
          have etl : (terms bs).length = r.length + 1 := by rw [et]; rfl
          rw [List.length_cons, List.length_cons] at hlr
          unfold terms at hfl etl
          refine ⟨D, p6, _, _, rfl, rfl, e56 _ _ hDk, upd_same, size_ok ?_, fun p7 np7 => ?_⟩
          · rw [List.length_singleton]
            unfold terms at hlk
            omega
          · have e7 := same_upd (o := .lst (ks ++ [.ref p5])) np7
            have e57 := e56.trans e7
            refine ⟨_, rfl, 1, rfl, R, _, rfl, .inl (.inl (e57 _ _ hRk)), fun p8 np8 => ?_⟩
            have ec : cutV (.ref t0 :: us) (some 1) .none = us := cut_from _ 1
            rw [ec]
            have e8 := same_upd (o := .lst us) np8
            refine ⟨p7, p8, _, _, rfl, rfl, e8 _ _ upd_same, upd_same, size_ok ?_, fun p9 np9 => ?_⟩
            · rw [List.length_append, List.length_singleton]
              unfold terms at hlk
              omega
            · have e9 := same_upd (o := .lst (ks ++ [.ref p5] ++ us)) np9
              have e89 := e8.trans e9
              have e59 := e57.trans e89
              refine ⟨p9, _, ((terms as).filter fun p => decide (p.1 > e0)) ++ [(e0, c0 + sum)] ++ r, rfl, upd_same, ?_, ?_, fun p10 H10 s10 t10 => ?_⟩
              · refine Paired.app (Paired.app (hp.same e59) (.cons ⟨p5, rfl, (e6.trans (e7.trans e89)) _ _ upd_same⟩ .nil)) ?_
                cases prk with
                | cons _ h2 => exact Prs.same h2 e59
              · refine fr_ok ?_ ?_ ?_
                · rw [List.append_assoc]
                  refine List.pairwise_append.mpr ⟨(terms_pw _ _ _).filter _, ?_, fun x hx y hy => ?_⟩
                  · exact .cons (List.pairwise_cons.mp hpw).1 (List.pairwise_cons.mp hpw).2
                  · have h1 : x.1 > e0 := of_decide_eq_true (List.mem_filter.mp hx).2
                    rcases List.mem_cons.mp hy with h | h
                    · rw [h]
                      exact h1
                    · have h2 := (List.pairwise_cons.mp hpw).1 y h
                      exact Int.lt_trans h2 h1
                · intro x hx
                  rw [List.append_assoc] at hx
                  rcases List.mem_append.mp hx with h | h
                  · have := terms_fst _ _ _ _ (List.mem_filter.mp h).1
                    omega
                  · rcases List.mem_cons.mp h with h | h
                    · rw [h]
                      exact (hall _ (List.mem_cons_self ..)).1
                    · exact (hall _ (List.mem_cons_of_mem _ h)).1
                · intro x hx
                  rw [List.append_assoc] at hx
                  rcases List.mem_append.mp hx with h | h
                  · have := terms_fst _ _ _ _ (List.mem_filter.mp h).1
                    omega
                  · rcases List.mem_cons.mp h with h | h
                    · rw [h]
                      have := (hall _ (List.mem_cons_self ..)).2
                      show e0 ≤ 900
                      have h3 : e0 ≤ 300 := this
                      omega
                    · have := (hall _ (List.mem_cons_of_mem _ h)).2
                      omega
              · refine q p10 H10 ((hSm.trans e59).trans s10) ?_
                rw [hT]
                exact t10
end
end Lim
set_option maxHeartbeats 1000000
namespace Lim
open PySem PySem.Spec PyProof.Rows L2
/-! ### differences, as lists -/
/-- from the first place at which they differ -/
def subS : List Int → List Int → List Int
  | x :: xs, y :: ys => if x = y then subS xs ys else (x - y) :: xs
  | _, _ => []
def subP (xs ys : List Int) : List Int := if xs.length > ys.length then xs else subS xs ys
/-- as large or larger, as canonical lists -/
def geL (xs ys : List Int) : Prop := ys.length < xs.length ∨ (ys.length = xs.length ∧ HT.lexLt xs ys = false)
theorem addP_short {xs ys : List Int} (h : xs.length < ys.length) : addP xs ys = ys := by
  unfold addP
  have : ys ≠ [] := fun e => by
    rw [e] at h
    exact absurd h (Nat.not_lt_zero _)
  rw [if_neg this, if_pos h]
theorem addP_nil_r (xs : List Int) : addP xs [] = xs := by
  unfold addP
  rw [if_pos rfl]
/-- what stands before stays -/
theorem addP_pre {pre xs ys : List Int} (h : ys.length ≤ xs.length) : addP (pre ++ xs) ys = pre ++ addP xs ys := by
  by_cases e : ys = []
  · subst e
    rw [addP_nil_r, addP_nil_r]
  · unfold addP
    rw [if_neg e, if_neg e, if_neg (by rw [List.length_append]; omega), if_neg (by omega)]
    have e1 : (pre ++ xs).length - ys.length = pre.length + (xs.length - ys.length) := by
      rw [List.length_append]
      omega
    rw [e1, List.take_append, List.take_of_length_le (by omega : pre.length ≤ pre.length + (xs.length - ys.length)), Nat.add_sub_cancel_left, List.append_assoc]
    congr 2
    have : (pre ++ xs).getD (pre.length + (xs.length - ys.length)) 0 = xs.getD (xs.length - ys.length) 0 := by
      rw [List.getD_eq_getElem?_getD, List.getD_eq_getElem?_getD, List.getElem?_append_right (by omega), Nat.add_sub_cancel_left]
    rw [this]
theorem addP_same {x y : Int} {xs ys : List Int} (h : xs.length = ys.length) : addP (x :: xs) (y :: ys) = (x + y) :: ys := by
  unfold addP
  rw [if_neg (by simp), if_neg (by simp [h])]
  have : (x :: xs).length - (y :: ys).length = 0 := by simp [h]
  rw [this]
  rfl
theorem subS_len : ∀ xs ys : List Int, (subS xs ys).length ≤ xs.length
  | [], ys => by simp [subS]
  | x :: xs, [] => by simp [subS]
  | x :: xs, y :: ys => by
    show (if x = y then subS xs ys else (x - y) :: xs).length ≤ _
    have ih := subS_len xs ys
    split
    · rw [List.length_cons]
      omega
    · simp
theorem subS_back : ∀ xs ys : List Int, xs.length = ys.length → addP ys (subS xs ys) = xs
  | [], [], _ => rfl
  | [], _ :: _, h => by simp at h
  | _ :: _, [], h => by simp at h
  | x :: xs, y :: ys, h => by
    have h' : xs.length = ys.length := by simpa using h
    have ih := subS_back xs ys h'
    show addP (y :: ys) (if x = y then subS xs ys else (x - y) :: xs) = x :: xs
    split
    · rename_i e
      subst e
      have l := subS_len xs ys
      have e1 : addP ([x] ++ ys) (subS xs ys) = [x] ++ addP ys (subS xs ys) := addP_pre (by omega)
      rw [ih] at e1
      exact e1
    · rw [addP_same h'.symm]
      congr 1
      omega
/-- the difference, added behind -/
theorem sub_back {xs ys : List Int} (h : geL xs ys) : addP ys (subP xs ys) = xs := by
  unfold subP
  rcases h with h | ⟨h, _⟩
  · rw [if_pos h, addP_short h]
  · rw [if_neg (by omega)]
    exact subS_back xs ys h.symm
theorem subS_nz : ∀ xs ys : List Int, xs.length = ys.length → HT.lexLt xs ys = false → (∀ z ∈ xs, 0 ≤ z) → (∀ z ∈ ys, 0 ≤ z) → NZ (subS xs ys)
  | [], [], _, _, _, _ => ⟨by simp [subS], by simp [subS]⟩
  | [], _ :: _, h, _, _, _ => by simp at h
  | _ :: _, [], h, _, _, _ => by simp at h
  | x :: xs, y :: ys, h, hl, hx, hy => by
    have h' : xs.length = ys.length := by simpa using h
    rw [HT.lexLt_cons] at hl
    show NZ (if x = y then subS xs ys else (x - y) :: xs)
    split
    · rename_i e
      rw [if_pos e] at hl
      exact subS_nz xs ys h' hl (fun z hz => hx z (List.mem_cons_of_mem _ hz)) fun z hz => hy z (List.mem_cons_of_mem _ hz)
    · rename_i e
      rw [if_neg e] at hl
      have hlt : ¬ x < y := of_decide_eq_false hl
      refine ⟨fun z hz => ?_, fun z => ?_⟩
      · rcases List.mem_cons.mp hz with r | r
        · rw [r]
          omega
        · exact hx z (List.mem_cons_of_mem _ r)
      · have := Option.some.inj z
        omega
theorem sub_nz {xs ys : List Int} (h : geL xs ys) (hx : NZ xs) (hy : NZ ys) : NZ (subP xs ys) := by
  unfold subP
  rcases h with h | ⟨h, hl⟩
  · rw [if_pos h]
    exact hx
  · rw [if_neg (by omega)]
    exact subS_nz xs ys h.symm hl hx.nn hy.nn
theorem cmp_ge {xs ys : List Int} : cmpI xs ys < 0 ↔ ¬ geL xs ys := by
  unfold cmpI geL
  by_cases e : xs = ys
  · subst e
    rw [if_pos rfl]
    simp [lex_irr]
  · rw [if_neg e]
    by_cases el : xs.length = ys.length
    · rw [if_pos el]
      cases hl : HT.lexLt xs ys with
      | true => simp [el]
      | false =>
        simp [el]
    · rw [if_neg el]
      split <;> simp <;> omega
end Lim
set_option maxHeartbeats 1000000
namespace Lim
open PySem PySem.Spec PyProof.Rows L2
/-! ### quotients, as lists -/
def stZ : List Int → List Int
  | [] => []
  | z :: r => if z = 0 then stZ r else z :: r
theorem stZ_len : ∀ zs : List Int, (stZ zs).length ≤ zs.length
  | [] => Nat.le_refl _
  | z :: r => by
    have ih := stZ_len r
    show (if z = 0 then stZ r else z :: r).length ≤ _
    split
    · rw [List.length_cons]
      omega
    · exact Nat.le_refl _
theorem stZ_of {zs : List Int} (h : zs.head? ≠ some 0) : stZ zs = zs := by
  cases zs with
  | nil => rfl
  | cons z r =>
    show (if z = 0 then stZ r else z :: r) = _
    rw [if_neg]
    intro e
    exact h (by rw [e]; rfl)
theorem stZ_nz : ∀ {zs : List Int}, (∀ z ∈ zs, 0 ≤ z) → NZ (stZ zs)
  | [], _ => ⟨by simp [stZ], by simp [stZ]⟩
  | z :: r, h => by
    show NZ (if z = 0 then stZ r else z :: r)
    split
    · exact stZ_nz fun y hy => h y (List.mem_cons_of_mem _ hy)
    · rename_i e
      exact ⟨h, fun q => e (Option.some.inj q)⟩
theorem zer_back : ∀ zs : List Int, addP (zer zs.length) (stZ zs) = zs
  | [] => rfl
  | z :: r => by
    have ih := zer_back r
    have l := stZ_len r
    show addP (0 :: zer r.length) (if z = 0 then stZ r else z :: r) = z :: r
    split
    · rename_i e
      have e1 : addP ([0] ++ zer r.length) (stZ r) = [0] ++ addP (zer r.length) (stZ r) := addP_pre (by unfold zer; rw [List.length_replicate]; exact l)
      rw [ih] at e1
      rw [e]
      exact e1
    · rw [addP_same (by unfold zer; rw [List.length_replicate]), Int.zero_add]
theorem less_same {xs ys : List Int} (h : xs.length = ys.length) : lessB xs ys = HT.lexLt xs ys := by
  unfold lessB
  have e1 : max xs.length ys.length = xs.length := by omega
  rw [e1, pad_self]
  have e2 : padL xs.length ys = ys := by rw [h, pad_self]
  rw [e2]
theorem mul_fin (b : Int) (bs : List Int) (f : Int) : mulP (b :: bs) (powL 0 f) = if f = 0 then [] else (b * f) :: bs := by
  unfold powL
  by_cases e : f = 0
  · rw [if_pos e, if_pos e]
    rfl
  · rw [if_neg e, if_neg e]
    unfold mulP
    rw [if_neg (by simp)]
    show (if f = 0 then _ else _) = _
    rw [if_neg e]
    rfl
theorem mul_quo (b : Int) (bs hs : List Int) (f : Int) (h : hs.head? ≠ some 0) :
    mulP (b :: bs) (stZ (hs ++ [f])) = if hs = [] ∧ f = 0 then [] else hs ++ (if f = 0 then zer (bs.length + 1) else (b * f) :: bs) := by
  cases hs with
  | nil =>
    show mulP (b :: bs) (if f = 0 then [] else [f]) = _
    by_cases e : f = 0
    · rw [if_pos e, if_pos ⟨rfl, e⟩]
      rfl
    · rw [if_neg e, if_neg (fun z => e z.2), if_neg e]
      unfold mulP
      rw [if_neg (by simp)]
      show (if f = 0 then _ else _) = _
      rw [if_neg e]
      rfl
  | cons z r =>
    rw [if_neg (by simp)]
    have e1 : stZ (z :: r ++ [f]) = z :: r ++ [f] := stZ_of h
    rw [e1]
    unfold mulP
    have e2 : (z :: r ++ [f]).getLastD 0 = f := by
      rw [List.getLastD_eq_getLast?, List.getLast?_append]
      rfl
    have e3 : (z :: r ++ [f]).dropLast = z :: r := List.dropLast_concat
    rw [if_neg (by simp), e2, e3]
    by_cases e : f = 0
    · rw [if_pos e, if_pos e]
      rfl
    · rw [if_neg e, if_neg e]
      rfl
/-- the quotient's last coefficient -/
def finC (xs ys : List Int) (f0 : Int) : Int := if cmpI (mulP ys (powL 0 f0)) (stZ xs) > 0 then f0 - 1 else f0
theorem sub_nil (xs : List Int) : subP xs [] = xs := by
  unfold subP
  cases xs with
  | nil => rfl
  | cons x r => rw [if_pos (by simp)]
theorem cmp_pos {xs ys : List Int} (h : xs.length = ys.length) : cmpI xs ys > 0 ↔ HT.lexLt ys xs = true := by
  unfold cmpI
  by_cases e : xs = ys
  · subst e
    rw [if_pos rfl]
    simp [lex_irr]
  · have t := lex_tot xs ys h e
    rw [if_neg e, if_pos h, t]
    cases HT.lexLt xs ys <;> simp
theorem div_core {a b : Int} {as bs hs : List Int} (hb : 1 ≤ b) (ha : 0 ≤ a) (hl : as.length = bs.length) (na : ∀ z ∈ as, 0 ≤ z) (nb : ∀ z ∈ bs, 0 ≤ z) (hh : hs.head? ≠ some 0) (h0 : hs = [] → a ≠ 0) {f : Int}
    (hf : f = finC (a :: as) (b :: bs) (a / b)) : 0 ≤ f ∧ f ≤ a ∧ geL (stZ (a :: as)) (mulP (b :: bs) (powL 0 f)) ∧
      addP (mulP (b :: bs) (stZ (hs ++ [f]))) (subP (stZ (a :: as)) (mulP (b :: bs) (powL 0 f))) = hs ++ a :: as ∧ lessB (subP (stZ (a :: as)) (mulP (b :: bs) (powL 0 f))) (b :: bs) = true := by
  have nzb : NZ (b :: bs) := ⟨fun z hz => by
    rcases List.mem_cons.mp hz with r | r
    · omega
    · exact nb z r, fun z => by
    have := Option.some.inj z
    omega⟩
  have d0 : 0 ≤ a / b := Int.ediv_nonneg ha (by omega)
  have d1 : b * (a / b) + a % b = a := Int.mul_ediv_add_emod a b
  have d2 : 0 ≤ a % b := Int.emod_nonneg a (by omega)
  have d3 : a % b < b := Int.emod_lt_of_pos a (by omega)
  generalize a / b = q at d0 d1 hf
  generalize a % b = r at d1 d2 d3
  have hqa : q ≤ b * q := by
    have := Int.mul_le_mul_of_nonneg_right hb d0
    omega
  generalize ht : b * q = t at d1 hqa
  -- what is left when the coefficient is 0
  by_cases q0 : q = 0
  · subst q0
    have t0 : t = 0 := by
      rw [← ht]
      exact Int.mul_zero b
    have ef : f = 0 := by
      rw [hf]
      unfold finC
      rw [mul_fin, if_pos rfl]
      rw [if_neg]
      intro h
      unfold cmpI at h
      split at h
      · omega
      · rename_i hne
        split at h
        · rename_i el
          have : stZ (a :: as) = [] := List.eq_nil_of_length_eq_zero el.symm
          exact hne this.symm
        · rename_i el
          split at h
          · omega
          · rename_i hlt
            apply el
            have := Nat.le_of_not_lt hlt
            exact (Nat.le_zero.mp this).symm
    subst ef
    have ls := stZ_len as
    rw [mul_fin, if_pos rfl, sub_nil, mul_quo b bs hs 0 hh]
    refine ⟨Int.le_refl _, ha, ?_, ?_, ?_⟩
    · unfold geL
      cases h : stZ (a :: as) with
      | nil => exact .inr ⟨rfl, rfl⟩
      | cons x y => exact .inl (by simp)
    · by_cases hn : hs = []
      · have a0 := h0 hn
        rw [if_pos ⟨hn, rfl⟩, hn]
        have e1 : stZ (a :: as) = a :: as := stZ_of fun z => a0 (Option.some.inj z)
        rw [e1]
        exact addP_short (by simp)
      · rw [if_neg (fun z => hn z.1), if_pos rfl]
        have e2 := stZ_len (a :: as)
        rw [addP_pre (by unfold zer; rw [List.length_replicate]; rw [List.length_cons] at e2; omega)]
        have e3 : bs.length + 1 = (a :: as).length := by rw [List.length_cons, hl]
        rw [e3, zer_back]
    · by_cases a0 : a = 0
      · have e1 : stZ (a :: as) = stZ as := by
          show (if a = 0 then stZ as else a :: as) = _
          rw [if_pos a0]
        rw [e1]
        exact (less_short (by rw [List.length_cons]; omega) nzb).1
      · have e1 : stZ (a :: as) = a :: as := stZ_of fun z => a0 (Option.some.inj z)
        rw [e1, less_same (by simp [hl]), HT.lexLt_cons, if_neg (by omega)]
        exact decide_eq_true (by omega)
  · have a0 : a ≠ 0 := by omega
    have e1 : stZ (a :: as) = a :: as := stZ_of fun z => a0 (Option.some.inj z)
    have hlen : ((b * q) :: bs).length = (a :: as).length := by simp [hl]
    have hf : f = if HT.lexLt (a :: as) ((b * q) :: bs) = true then q - 1 else q := by
      rw [hf]
      unfold finC
      rw [mul_fin, if_neg q0, e1]
      by_cases c : cmpI ((b * q) :: bs) (a :: as) > 0
      · rw [if_pos c, if_pos ((cmp_pos hlen).mp c)]
      · rw [if_neg c, if_neg (fun z => c ((cmp_pos hlen).mpr z))]
    rw [e1, mul_fin, mul_quo b bs hs f hh]
    rw [ht, HT.lexLt_cons] at hf
    -- all follows from the comparison and from what the difference is
    have main : f ≠ 0 → 0 ≤ f → f ≤ a → HT.lexLt (a :: as) ((b * f) :: bs) = false → lessB (subP (a :: as) ((b * f) :: bs)) (b :: bs) = true →
        0 ≤ f ∧ f ≤ a ∧ geL (a :: as) (if f = 0 then [] else b * f :: bs) ∧
          addP (if hs = [] ∧ f = 0 then [] else hs ++ if f = 0 then zer (bs.length + 1) else b * f :: bs) (subP (a :: as) (if f = 0 then [] else b * f :: bs)) = hs ++ a :: as ∧ lessB (subP (a :: as) (if f = 0 then [] else b * f :: bs)) (b :: bs) = true := by
      intro f0 fn fa hx hy
      have hg : geL (a :: as) (b * f :: bs) := .inr ⟨by simp [hl], hx⟩
      rw [if_neg f0, if_neg (fun z => f0 z.2), if_neg f0]
      refine ⟨fn, fa, hg, ?_, hy⟩
      have l1 : (subP (a :: as) (b * f :: bs)).length ≤ (b * f :: bs).length := by
        unfold subP
        rw [if_neg (by simp [hl])]
        have := subS_len (a :: as) (b * f :: bs)
        simp [hl] at this ⊢
        exact this
      rw [addP_pre l1, sub_back hg]
    by_cases ea : a = t
    · rw [if_pos ea] at hf
      by_cases c : HT.lexLt as bs = true
      · rw [if_pos c] at hf
        have e2 : b * f = a - b := by rw [hf, Int.mul_sub, ht, Int.mul_one, ea]
        by_cases f0 : f = 0
        · have ab : a = b := by
            rw [f0, Int.mul_zero] at e2
            omega
          rw [f0, if_pos rfl, if_pos rfl, sub_nil]
          refine ⟨Int.le_refl _, ha, .inl (by simp), ?_, ?_⟩
          · by_cases hn : hs = []
            · rw [if_pos ⟨hn, rfl⟩, hn]
              exact addP_short (by simp)
            · rw [if_neg (fun z => hn z.1)]
              rw [addP_pre (by unfold zer; rw [List.length_replicate, List.length_cons]; omega)]
              have e3 : bs.length + 1 = (a :: as).length := by rw [List.length_cons, hl]
              have e4 := zer_back (a :: as)
              rw [e1] at e4
              rw [e3, e4]
          · rw [less_same (by simp [hl]), HT.lexLt_cons, if_pos ab]
            exact c
        · refine main f0 (by omega) (by omega) ?_ ?_
          · rw [HT.lexLt_cons, if_neg (by omega)]
            exact decide_eq_false (by omega)
          · have e5 : subP (a :: as) (b * f :: bs) = b :: as := by
              unfold subP
              rw [if_neg (by simp [hl])]
              show (if a = b * f then subS as bs else (a - b * f) :: as) = _
              rw [if_neg (by omega)]
              congr 1
              omega
            rw [e5, less_same (by simp [hl]), HT.lexLt_cons, if_pos rfl]
            exact c
      · rw [if_neg c] at hf
        subst hf
        refine main q0 (by omega) (by omega) ?_ ?_
        · rw [HT.lexLt_cons, ht, if_pos ea]
          exact Bool.eq_false_iff.mpr c
        · have e5 : subP (a :: as) (b * f :: bs) = subS as bs := by
            unfold subP
            rw [if_neg (by simp [hl])]
            show (if a = b * f then subS as bs else (a - b * f) :: as) = _
            rw [ht, if_pos ea]
          rw [e5]
          have := subS_len as bs
          exact (less_short (by rw [List.length_cons]; omega) nzb).1
    · rw [if_neg ea, if_neg (by
        intro z
        have := of_decide_eq_true z
        omega)] at hf
      subst hf
      refine main q0 (by omega) (by omega) ?_ ?_
      · rw [HT.lexLt_cons, ht, if_neg ea]
        exact decide_eq_false (by omega)
      · have e5 : subP (a :: as) (b * f :: bs) = r :: as := by
          unfold subP
          rw [if_neg (by simp [hl])]
          show (if a = b * f then subS as bs else (a - b * f) :: as) = _
          rw [ht, if_neg ea]
          congr 1
          omega
        rw [e5, less_same (by simp [hl]), HT.lexLt_cons, if_neg (by omega)]
        exact decide_eq_true d3
end Lim
set_option maxHeartbeats 1000000
namespace Lim
open PySem PySem.Spec PyProof.Rows L2
/-! ### sums: associative, neutral -/
theorem addP_nil_l (ys : List Int) : addP [] ys = ys := by
  unfold addP
  by_cases e : ys = []
  · rw [if_pos e, e]
  · rw [if_neg e, if_pos (show ([] : List Int).length < ys.length from List.length_pos_iff.mpr e)]
/-- a list, cut so that m places are left -/
theorem cut_at {xs : List Int} {m : Nat} (h : m < xs.length) : ∃ pre x t, xs = pre ++ x :: t ∧ t.length = m := by
  refine ⟨xs.take (xs.length - m - 1), xs[xs.length - m - 1]'(by omega), xs.drop (xs.length - m), ?_, ?_⟩
  · have e := List.drop_eq_getElem_cons (l := xs) (i := xs.length - m - 1) (by omega)
    have e2 : xs.length - m - 1 + 1 = xs.length - m := by omega
    rw [e2] at e
    rw [← e, List.take_append_drop]
  · rw [List.length_drop]
    omega
theorem addP_at {pre t ct : List Int} {x c : Int} (h : t.length = ct.length) : addP (pre ++ x :: t) (c :: ct) = pre ++ (x + c) :: ct := by
  rw [addP_pre (by simp [h]), addP_same h]
theorem addP_assoc (a b c : List Int) : addP (addP a b) c = addP a (addP b c) := by
  cases c with
  | nil => rw [addP_nil_r, addP_nil_r]
  | cons c ct =>
    cases b with
    | nil => rw [addP_nil_r, addP_nil_l]
    | cons b bt =>
      by_cases h1 : bt.length < ct.length
      · rw [addP_short (xs := b :: bt) (ys := c :: ct) (by simp; omega)]
        by_cases h2 : a.length < ct.length + 1
        · rw [addP_short (xs := a) (ys := c :: ct) (by simp; omega)]
          refine addP_short ?_
          have := addP_len a (b :: bt)
          rw [List.length_cons] at this ⊢
          omega
        · obtain ⟨pre, x, t, rfl, ht⟩ := cut_at (xs := a) (m := ct.length) (by omega)
          have e1 : pre ++ x :: t = (pre ++ [x]) ++ t := by simp
          have e2 : addP (pre ++ x :: t) (b :: bt) = (pre ++ [x]) ++ addP t (b :: bt) := by
            rw [e1]
            exact addP_pre (by rw [List.length_cons]; omega)
          have l2 : (addP t (b :: bt)).length = ct.length := by
            obtain ⟨p2, x2, t2, rfl, ht2⟩ := cut_at (xs := t) (m := bt.length) (by omega)
            rw [addP_at ht2]
            simp at ht ⊢
            omega
          rw [e2, List.append_assoc]
          show addP (pre ++ x :: addP t (b :: bt)) (c :: ct) = _
          rw [addP_at l2, addP_at ht]
      · by_cases h2 : a.length < bt.length + 1
        · rw [addP_short (xs := a) (ys := b :: bt) (by simp; omega)]
          refine (addP_short ?_).symm
          by_cases h3 : bt.length = ct.length
          · rw [addP_same h3, List.length_cons]
            omega
          · obtain ⟨p2, x2, t2, e2, ht2⟩ := cut_at (xs := b :: bt) (m := ct.length) (by simp; omega)
            rw [e2, addP_at ht2]
            have : (b :: bt).length = (p2 ++ x2 :: t2).length := by rw [e2]
            simp at this ⊢
            omega
        · obtain ⟨pre, x, t, rfl, ht⟩ := cut_at (xs := a) (m := bt.length) (by omega)
          rw [addP_at ht]
          by_cases h3 : bt.length = ct.length
          · rw [addP_at h3, addP_same h3, addP_at (by omega), Int.add_assoc]
          · have e1 : addP (b :: bt) (c :: ct) = b :: addP bt (c :: ct) := addP_pre (pre := [b]) (by rw [List.length_cons]; omega)
            have l1 : (addP bt (c :: ct)).length = bt.length := by
              obtain ⟨p2, x2, t2, rfl, ht2⟩ := cut_at (xs := bt) (m := ct.length) (by omega)
              rw [addP_at ht2]
              simp
              omega
            have e3 : pre ++ (x + b) :: bt = (pre ++ [x + b]) ++ bt := by simp
            rw [e1, addP_at (pre := pre) (t := t) (x := x) (c := b) (ct := addP bt (c :: ct)) (by omega), e3, addP_pre (by rw [List.length_cons]; omega), List.append_assoc]
            rfl
/-! ### products: neutral, zero -/
theorem mulP_nil_l (ys : List Int) : mulP [] ys = [] := by
  unfold mulP
  rw [if_pos (.inl rfl)]
theorem mulP_nil_r (xs : List Int) : mulP xs [] = [] := by
  unfold mulP
  rw [if_pos (.inr rfl)]
/-- a product, by the right side's last coefficient -/
theorem mulP_last (x : Int) (t ys : List Int) (z : Int) : mulP (x :: t) (ys ++ [z]) = ys ++ (if z = 0 then zer (t.length + 1) else (x * z) :: t) := by
  unfold mulP
  have e2 : (ys ++ [z]).getLastD 0 = z := by
    rw [List.getLastD_eq_getLast?, List.getLast?_append]
    rfl
  rw [if_neg (by simp), e2, List.dropLast_concat]
  by_cases e : z = 0
  · rw [if_pos e, if_pos e]
    rfl
  · rw [if_neg e, if_neg e]
    rfl
theorem mulP_one_r (xs : List Int) : mulP xs [1] = xs := by
  cases xs with
  | nil => exact mulP_nil_l _
  | cons x t =>
    have := mulP_last x t [] 1
    rw [List.nil_append, List.nil_append, if_neg (by decide), Int.mul_one] at this
    exact this
theorem mulP_one_l (ys : List Int) : mulP [1] ys = ys := by
  by_cases e : ys = []
  · rw [e]
    exact mulP_nil_r _
  · have h := List.dropLast_concat_getLast e
    have e1 := mulP_last 1 [] ys.dropLast (ys.getLast e)
    rw [h] at e1
    rw [e1]
    split
    · rename_i z
      rw [z] at h
      exact h
    · rw [Int.one_mul]
      exact h
theorem zer_last (k : Nat) : zer (k + 1) = zer k ++ [0] := by
  unfold zer
  rw [List.replicate_succ']
theorem last_cases (ys : List Int) (h : ys ≠ []) : ∃ p z, ys = p ++ [z] := ⟨ys.dropLast, ys.getLast h, (List.dropLast_concat_getLast h).symm⟩
/-- products: associative -/
theorem mulP_assoc {a b c : List Int} (ha : a.head? ≠ some 0) (hb : b.head? ≠ some 0) : mulP (mulP a b) c = mulP a (mulP b c) := by
  cases a with
  | nil => rw [mulP_nil_l, mulP_nil_l, mulP_nil_l]
  | cons x t =>
    have x0 : x ≠ 0 := fun z => ha (by rw [z]; rfl)
    by_cases eb : b = []
    · rw [eb, mulP_nil_r, mulP_nil_l, mulP_nil_r]
    by_cases ec : c = []
    · rw [ec, mulP_nil_r, mulP_nil_r, mulP_nil_r]
    obtain ⟨q, w, rfl⟩ := last_cases c ec
    obtain ⟨y, s, rfl⟩ : ∃ y s, b = y :: s := by
      cases b with
      | nil => exact absurd rfl eb
      | cons y s => exact ⟨y, s, rfl⟩
    have y0 : y ≠ 0 := fun z => hb (by rw [z]; rfl)
    rw [mulP_last y s]
    by_cases w0 : w = 0
    · subst w0
      rw [if_pos rfl, zer_last, ← List.append_assoc, mulP_last x t, if_pos rfl]
      -- the left side
      obtain ⟨u, r, er, lr⟩ : ∃ u r, mulP (x :: t) (y :: s) = u :: r ∧ r.length = s.length + t.length := by
        obtain ⟨p, z, e⟩ := last_cases (y :: s) eb
        rw [e, mulP_last x t]
        have lp : p.length = s.length := by
          have := congrArg List.length e
          simp at this
          omega
        cases p with
        | nil =>
          have lp' : s.length = 0 := lp.symm
          split
          · exact ⟨0, zer t.length, rfl, by unfold zer; rw [List.length_replicate]; omega⟩
          · exact ⟨_, _, rfl, by omega⟩
        | cons y' p' =>
          refine ⟨y', _, rfl, ?_⟩
          rw [List.length_cons] at lp
          show (p' ++ _).length = _
          rw [List.length_append]
          split
          · unfold zer
            rw [List.length_replicate]
            omega
          · rw [List.length_cons]
            omega
      rw [er, mulP_last, if_pos rfl, lr, List.append_assoc]
      congr 1
      unfold zer
      rw [List.replicate_append_replicate]
      exact congrArg (fun k => List.replicate k (0 : Int)) (by omega)
    · rw [if_neg w0]
      cases s with
      | nil =>
        have e1 : mulP (x :: t) [y] = (x * y) :: t := by
          have := mulP_last x t [] y
          rw [if_neg y0] at this
          exact this
        rw [e1, mulP_last, if_neg w0]
        have e2 : q ++ [y * w] = q ++ [y * w] := rfl
        rw [mulP_last x t q (y * w), if_neg (Int.mul_ne_zero y0 w0), Int.mul_assoc]
      | cons y2 s2 =>
        obtain ⟨p, z, e⟩ := last_cases (y2 :: s2) (by simp)
        have e1 : mulP (x :: t) (y :: y2 :: s2) = y :: (p ++ (if z = 0 then zer (t.length + 1) else (x * z) :: t)) := by
          rw [e]
          exact mulP_last x t (y :: p) z
        rw [e1, mulP_last, if_neg w0, e]
        have e3 : q ++ y * w :: (p ++ [z]) = (q ++ y * w :: p) ++ [z] := by simp
        rw [e3, mulP_last x t]
        simp
end Lim
set_option maxHeartbeats 1000000
namespace Lim
open PySem PySem.Spec PyProof.Rows L2
/-- what a last coefficient makes of the left side -/
def finL (x : Int) (t : List Int) (z : Int) : List Int := if z = 0 then zer (t.length + 1) else (x * z) :: t
theorem finL_len (x : Int) (t : List Int) (z : Int) : (finL x t z).length = t.length + 1 := by
  unfold finL
  split
  · unfold zer
    rw [List.length_replicate]
  · rfl
theorem mulP_fin (x : Int) (t ys : List Int) (z : Int) : mulP (x :: t) (ys ++ [z]) = ys ++ finL x t z := mulP_last x t ys z
theorem mulP_len (x : Int) (t ys : List Int) (h : ys ≠ []) : (mulP (x :: t) ys).length = t.length + ys.length := by
  obtain ⟨p, z, rfl⟩ := last_cases ys h
  rw [mulP_fin, List.length_append, finL_len, List.length_append, List.length_singleton]
  omega
/-- products over a sum on the right -/
theorem mulP_addP {a b c : List Int} (ha : NZ a) (hb : NZ b) (hc : NZ c) : mulP a (addP b c) = addP (mulP a b) (mulP a c) := by
  cases a with
  | nil => rw [mulP_nil_l, mulP_nil_l, mulP_nil_l, addP_nil_l]
  | cons x t =>
    cases c with
    | nil => rw [addP_nil_r, mulP_nil_r, addP_nil_r]
    | cons c0 ct =>
      have c1 : 0 < c0 := by
        have h1 := hc.nn c0 (List.mem_cons_self ..)
        have h2 : c0 ≠ 0 := fun z => hc.hd (by rw [z]; rfl)
        omega
      by_cases hb0 : b = []
      · rw [hb0, addP_nil_l, mulP_nil_r, addP_nil_l]
      · by_cases hlt : b.length < ct.length + 1
        · rw [addP_short (xs := b) (ys := c0 :: ct) (by simp; omega)]
          refine (addP_short ?_).symm
          rw [mulP_len x t b hb0, mulP_len x t _ (by simp), List.length_cons]
          omega
        · obtain ⟨pre, y, s, rfl, hs⟩ := cut_at (xs := b) (m := ct.length) (by omega)
          have y0 : 0 ≤ y := hb.nn y (List.mem_append.mpr (.inr (List.mem_cons_self ..)))
          rw [addP_at hs]
          cases ct with
          | nil =>
            have s0 : s = [] := List.eq_nil_of_length_eq_zero hs
            subst s0
            have e1 : mulP (x :: t) [c0] = (x * c0) :: t := by
              have := mulP_fin x t [] c0
              unfold finL at this
              rw [if_neg (by omega)] at this
              exact this
            rw [mulP_fin, mulP_fin, e1, addP_pre (by rw [finL_len]; exact Nat.le_refl _)]
            congr 1
            unfold finL
            rw [if_neg (by omega)]
            split
            · rename_i e
              subst e
              show _ = addP (0 :: zer t.length) _
              rw [addP_same (by unfold zer; rw [List.length_replicate]), Int.zero_add, Int.zero_add]
            · rw [addP_same rfl, Int.mul_add]
          | cons c2 ct2 =>
            obtain ⟨q, w, eq⟩ := last_cases (c2 :: ct2) (by simp)
            have hs2 : s ≠ [] := fun z => by
              rw [z] at hs
              simp at hs
            obtain ⟨s', z, es⟩ := last_cases s hs2
            rw [eq, es]
            have lq : s'.length = q.length := by
              have h1 := congrArg List.length eq
              have h2 := congrArg List.length es
              simp at h1 h2 hs
              omega
            have f1 : pre ++ (y + c0) :: (q ++ [w]) = (pre ++ (y + c0) :: q) ++ [w] := by simp
            have f2 : pre ++ y :: (s' ++ [z]) = (pre ++ y :: s') ++ [z] := by simp
            have f3 : c0 :: (q ++ [w]) = (c0 :: q) ++ [w] := rfl
            rw [f1, f2, f3, mulP_fin, mulP_fin, mulP_fin]
            have f4 : (pre ++ y :: s') ++ finL x t z = pre ++ y :: (s' ++ finL x t z) := by simp
            have f5 : (c0 :: q) ++ finL x t w = c0 :: (q ++ finL x t w) := rfl
            rw [f4, f5, addP_at (by rw [List.length_append, List.length_append, finL_len, finL_len, lq])]
            simp
/-! ### the order and sums -/
theorem lex_pre (pre u v : List Int) : HT.lexLt (pre ++ u) (pre ++ v) = HT.lexLt u v := by
  induction pre with
  | nil => rfl
  | cons x r ih =>
    show HT.lexLt (x :: (r ++ u)) (x :: (r ++ v)) = _
    rw [HT.lexLt_cons, if_pos rfl, ih]
theorem cmp_pre (pre u v : List Int) : cmpI (pre ++ u) (pre ++ v) = cmpI u v := by
  unfold cmpI
  rw [lex_pre]
  simp
theorem cmp_anti (u v : List Int) : cmpI u v = 0 - cmpI v u := by
  unfold cmpI
  by_cases e : u = v
  · subst e
    rw [if_pos rfl]
    rfl
  · rw [if_neg e, if_neg (show ¬ (v = u) from fun z => e z.symm)]
    by_cases el : u.length = v.length
    · rw [if_pos el, if_pos (show v.length = u.length from el.symm), lex_tot u v el e]
      cases HT.lexLt u v <;> rfl
    · rw [if_neg el, if_neg (show ¬ (v.length = u.length) from fun z => el z.symm)]
      by_cases c : u.length < v.length
      · rw [if_pos c, if_neg (show ¬ (v.length < u.length) by omega)]
        rfl
      · rw [if_neg c, if_pos (show v.length < u.length by omega)]
        rfl
theorem cmp_shorter {u v : List Int} (h : u.length < v.length) : cmpI u v = -1 := by
  unfold cmpI
  rw [if_neg (fun e => by rw [e] at h; exact Nat.lt_irrefl _ h), if_neg (by omega), if_pos h]
theorem cmp_head {x y : Int} {u v : List Int} (hl : u.length = v.length) (h : x < y) : cmpI (x :: u) (y :: v) = -1 := by
  have e : HT.lexLt (x :: u) (y :: v) = true := by
    rw [HT.lexLt_cons, if_neg (by omega)]
    exact decide_eq_true h
  unfold cmpI
  rw [if_neg (fun e => by
    have := (List.cons.inj e).1
    omega), if_pos (by simp [hl]), if_pos e]
theorem cmp_tail (x : Int) (u v : List Int) : cmpI (x :: u) (x :: v) = cmpI u v := cmp_pre [x] u v
theorem cmp_up {a c : List Int} (hc : NZ c) (h : c ≠ []) : cmpI a (addP a c) = -1 := by
  cases c with
  | nil => exact absurd rfl h
  | cons c0 ct =>
    have c1 : 0 < c0 := by
      have h1 := hc.nn c0 (List.mem_cons_self ..)
      have h2 : c0 ≠ 0 := fun z => hc.hd (by rw [z]; rfl)
      omega
    by_cases hl : a.length < ct.length + 1
    · rw [addP_short (xs := a) (ys := c0 :: ct) (by simp; omega)]
      exact cmp_shorter (by simp; omega)
    · obtain ⟨pre, x, t, rfl, ht⟩ := cut_at (xs := a) (m := ct.length) (by omega)
      rw [addP_at ht, cmp_pre]
      exact cmp_head ht (by omega)
theorem cmp_lt_add {a b c : List Int} (hb : b.length < c.length) (hc : NZ c) : cmpI (addP a b) (addP a c) = -1 := by
  cases c with
  | nil => simp at hb
  | cons c0 ct =>
    have c1 : 0 < c0 := by
      have h1 := hc.nn c0 (List.mem_cons_self ..)
      have h2 : c0 ≠ 0 := fun z => hc.hd (by rw [z]; rfl)
      omega
    rw [List.length_cons] at hb
    by_cases hl : a.length < ct.length + 1
    · rw [addP_short (xs := a) (ys := c0 :: ct) (by simp; omega)]
      have := addP_len a b
      exact cmp_shorter (by rw [List.length_cons]; omega)
    · obtain ⟨pre, x, t, rfl, ht⟩ := cut_at (xs := a) (m := ct.length) (by omega)
      have e1 : pre ++ x :: t = (pre ++ [x]) ++ t := by simp
      have e2 : addP (pre ++ x :: t) b = pre ++ x :: addP t b := by
        rw [e1, addP_pre (by omega)]
        simp
      have l2 : (addP t b).length = t.length := by
        cases b with
        | nil => rw [addP_nil_r]
        | cons b0 bt =>
          obtain ⟨p2, x2, t2, rfl, ht2⟩ := cut_at (xs := t) (m := bt.length) (by rw [List.length_cons] at hb; omega)
          rw [addP_at ht2]
          simp
          omega
      rw [e2, addP_at ht, cmp_pre]
      exact cmp_head (by omega) (by omega)
/-- a sum grows with its right side -/
theorem cmp_add {a b c : List Int} (hb : NZ b) (hc : NZ c) : cmpI (addP a b) (addP a c) = cmpI b c := by
  rcases Nat.lt_trichotomy b.length c.length with h | h | h
  · rw [cmp_lt_add h hc, cmp_shorter h]
  · cases b with
    | nil =>
      have : c = [] := List.eq_nil_of_length_eq_zero h.symm
      subst this
      unfold cmpI
      rw [if_pos rfl, if_pos rfl]
    | cons b0 bt =>
      cases c with
      | nil => simp at h
      | cons c0 ct =>
        have hl' : bt.length = ct.length := by simpa using h
        by_cases hl : a.length < ct.length + 1
        · rw [addP_short (xs := a) (ys := c0 :: ct) (by simp; omega), addP_short (xs := a) (ys := b0 :: bt) (by simp; omega)]
        · obtain ⟨pre, x, t, rfl, ht⟩ := cut_at (xs := a) (m := ct.length) (by omega)
          rw [addP_at ht, addP_at (ht.trans hl'.symm), cmp_pre]
          rcases Int.lt_trichotomy b0 c0 with g | g | g
          · rw [cmp_head hl' (by omega), cmp_head hl' g]
          · rw [g, cmp_tail, cmp_tail]
          · rw [cmp_anti, cmp_head hl'.symm (by omega), cmp_anti (b0 :: bt), cmp_head hl'.symm g]
  · rw [cmp_anti, cmp_lt_add h hb, cmp_anti b c, cmp_shorter h]
/-- a sum less its left side -/
theorem subS_pre (pre u v : List Int) : subS (pre ++ u) (pre ++ v) = subS u v := by
  induction pre with
  | nil => rfl
  | cons x r ih =>
    show (if x = x then subS (r ++ u) (r ++ v) else _) = _
    rw [if_pos rfl, ih]
theorem subS_self : ∀ u : List Int, subS u u = []
  | [] => rfl
  | x :: r => by
    show (if x = x then subS r r else _) = []
    rw [if_pos rfl, subS_self r]
theorem sub_add {a b : List Int} (hb : NZ b) : subP (addP a b) a = b ∧ geL (addP a b) a := by
  cases b with
  | nil =>
    rw [addP_nil_r]
    refine ⟨?_, .inr ⟨rfl, lex_irr _⟩⟩
    unfold subP
    rw [if_neg (Nat.lt_irrefl _), subS_self]
  | cons b0 bt =>
    have c1 : 0 < b0 := by
      have h1 := hb.nn b0 (List.mem_cons_self ..)
      have h2 : b0 ≠ 0 := fun z => hb.hd (by rw [z]; rfl)
      omega
    by_cases hl : a.length < bt.length + 1
    · rw [addP_short (xs := a) (ys := b0 :: bt) (by simp; omega)]
      refine ⟨?_, .inl (by simp; omega)⟩
      unfold subP
      rw [if_pos (by simp; omega)]
    · obtain ⟨pre, x, t, rfl, ht⟩ := cut_at (xs := a) (m := bt.length) (by omega)
      rw [addP_at ht]
      refine ⟨?_, .inr ⟨by simp [ht], ?_⟩⟩
      · unfold subP
        rw [if_neg (by simp [ht]), subS_pre]
        show (if x + b0 = x then subS bt t else (x + b0 - x) :: bt) = _
        rw [if_neg (by omega)]
        congr 1
        omega
      · rw [lex_pre, HT.lexLt_cons, if_neg (by omega)]
        exact decide_eq_false (by omega)
end Lim
set_option maxHeartbeats 1000000
namespace Lim
open PySem PySem.Spec PyProof.Rows L2
/-! ### the quotient and the remainder -/
def divP (xs ys : List Int) : List Int × List Int :=
  if xs.length < ys.length then ([], xs)
  else (stZ (xs.take (xs.length - ys.length) ++ [finC (xs.drop (xs.length - ys.length)) ys (xs.getD (xs.length - ys.length) 0 / ys.headD 0)]),
    subP (stZ (xs.drop (xs.length - ys.length))) (mulP ys (powL 0 (finC (xs.drop (xs.length - ys.length)) ys (xs.getD (xs.length - ys.length) 0 / ys.headD 0)))))
theorem nz_head {b : Int} {bs : List Int} (h : NZ (b :: bs)) : 0 < b := by
  have h1 := h.nn b (List.mem_cons_self ..)
  have h2 : b ≠ 0 := fun z => h.hd (by rw [z]; rfl)
  omega
theorem mul_fin_nz {b : Int} {bs : List Int} (h : NZ (b :: bs)) {f : Int} (hf : 0 ≤ f) : NZ (mulP (b :: bs) (powL 0 f)) := by
  have hb := nz_head h
  rw [mul_fin]
  split
  · exact ⟨by simp, by simp⟩
  · rename_i e
    have hp : 0 < b * f := Int.mul_pos hb (by omega)
    refine ⟨fun z hz => ?_, fun z => ?_⟩
    · rcases List.mem_cons.mp hz with r | r
      · omega
      · exact h.nn z (List.mem_cons_of_mem _ r)
    · have := Option.some.inj z
      omega
theorem div_right {xs ys : List Int} (hx : NZ xs) (hy : NZ ys) (h0 : ys ≠ []) : addP (mulP ys (divP xs ys).1) (divP xs ys).2 = xs ∧ lessB (divP xs ys).2 ys = true ∧ NZ (divP xs ys).1 ∧ NZ (divP xs ys).2 := by
  obtain ⟨b, bs, rfl⟩ : ∃ b bs, ys = b :: bs := by
    cases ys with
    | nil => exact absurd rfl h0
    | cons b bs => exact ⟨b, bs, rfl⟩
  have hb := nz_head hy
  unfold divP
  split
  · rename_i h
    refine ⟨?_, (less_short h hy).1, ⟨by simp, by simp⟩, hx⟩
    rw [mulP_nil_r, addP_nil_l]
  · rename_i h
    rw [List.length_cons] at h
    obtain ⟨hs, a, as, rfl, hl⟩ := cut_at (xs := xs) (m := bs.length) (by omega)
    have e1 : (hs ++ a :: as).length - (b :: bs).length = hs.length := by simp [hl]
    have e2 : (hs ++ a :: as).take hs.length = hs := by simp
    have e3 : (hs ++ a :: as).drop hs.length = a :: as := by simp
    have e4 : (hs ++ a :: as).getD hs.length 0 = a := by simp
    rw [e1, e2, e3, e4]
    show _ ∧ _ ∧ _ ∧ _
    have ha : 0 ≤ a := hx.nn a (List.mem_append.mpr (.inr (List.mem_cons_self ..)))
    have na : ∀ z ∈ as, 0 ≤ z := fun z hz => hx.nn z (List.mem_append.mpr (.inr (List.mem_cons_of_mem _ hz)))
    have hh : hs.head? ≠ some 0 := fun z => by
      cases hs with
      | nil => cases z
      | cons y r => exact hx.hd z
    have ha0 : hs = [] → a ≠ 0 := fun e z => hx.hd (by rw [e, z]; rfl)
    obtain ⟨f0, f1, hg, h1, h2⟩ := div_core (f := finC (a :: as) (b :: bs) (a / b)) (hs := hs) (by omega : 1 ≤ b) ha hl na (fun z hz => hy.nn z (List.mem_cons_of_mem _ hz)) hh ha0 rfl
    refine ⟨h1, h2, stZ_nz fun z hz => ?_, sub_nz hg (stZ_nz fun z hz => ?_) (mul_fin_nz hy f0)⟩
    · rcases List.mem_append.mp hz with r | r
      · exact hx.nn z (List.mem_append.mpr (.inl r))
      · rw [List.mem_singleton.mp r]
        exact f0
    · exact hx.nn z (List.mem_append.mpr (.inr hz))
/-! ### only one -/
theorem mulP_nz {xs ys : List Int} (hx : NZ xs) (hy : NZ ys) : NZ (mulP xs ys) := by
  cases xs with
  | nil =>
    rw [mulP_nil_l]
    exact hx
  | cons x t =>
    have x0 := nz_head hx
    by_cases e : ys = []
    · rw [e, mulP_nil_r]
      exact ⟨by simp, by simp⟩
    · obtain ⟨p, z, rfl⟩ := last_cases ys e
      have z0 : 0 ≤ z := hy.nn z (List.mem_append.mpr (.inr (List.mem_singleton.mpr rfl)))
      rw [mulP_fin]
      refine ⟨fun u hu => ?_, fun u => ?_⟩
      · rcases List.mem_append.mp hu with r | r
        · exact hy.nn u (List.mem_append.mpr (.inl r))
        · unfold finL at r
          split at r
          · rw [List.eq_of_mem_replicate r]
            exact Int.le_refl _
          · rcases List.mem_cons.mp r with r | r
            · rw [r]
              exact Int.mul_nonneg (by omega) z0
            · exact hx.nn u (List.mem_cons_of_mem _ r)
      · cases p with
        | nil =>
          have hz : z ≠ 0 := fun e => hy.hd (by rw [e]; rfl)
          unfold finL at u
          rw [if_neg hz] at u
          exact absurd (Option.some.inj u) (Int.mul_ne_zero (by omega) hz)
        | cons y r => exact hy.hd u
/-- what holds the divisor once more is no remainder -/
theorem not_less {ys s r : List Int} (hy : NZ ys) (h0 : ys ≠ []) (hs : NZ s) (h1 : s ≠ []) (hr : NZ r) (lr : lessB r ys = true) : lessB (addP (mulP ys s) r) ys = false := by
  obtain ⟨b, bs, rfl⟩ : ∃ b bs, ys = b :: bs := by
    cases ys with
    | nil => exact absurd rfl h0
    | cons b bs => exact ⟨b, bs, rfl⟩
  have hb := nz_head hy
  have lrl : r.length ≤ bs.length + 1 := by
    apply Classical.byContradiction
    intro h
    have := (less_short (as := b :: bs) (bs := r) (by rw [List.length_cons]; omega) hr).2
    rw [this] at lr
    cases lr
  have lu := mulP_len b bs s h1
  have hn := addP_nz (mulP_nz hy hs) hr
  have sl : 0 < s.length := List.length_pos_iff.mpr h1
  by_cases c : s.length = 1
  · obtain ⟨s0, rfl⟩ := List.length_eq_one_iff.mp c
    have s1 := nz_head hs
    have e1 : mulP (b :: bs) [s0] = (b * s0) :: bs := by
      have := mulP_fin b bs [] s0
      unfold finL at this
      rw [if_neg (by omega)] at this
      exact this
    have hm : b ≤ b * s0 := by
      have := Int.mul_le_mul_of_nonneg_left (show (1 : Int) ≤ s0 by omega) (show 0 ≤ b by omega)
      omega
    rw [e1]
    generalize b * s0 = m at hm
    by_cases c2 : r.length = bs.length + 1
    · obtain ⟨r0, rt, rfl⟩ : ∃ r0 rt, r = r0 :: rt := by
        cases r with
        | nil => simp at c2
        | cons r0 rt => exact ⟨r0, rt, rfl⟩
      have r1 := nz_head hr
      have hl : bs.length = rt.length := by simpa using c2.symm
      rw [addP_same hl, less_same (by simp [hl]), HT.lexLt_cons, if_neg (by omega)]
      exact decide_eq_false (by omega)
    · have e2 : addP (m :: bs) r = m :: addP bs r := addP_pre (pre := [m]) (by omega)
      have l2 : (addP bs r).length = bs.length := by
        cases r with
        | nil => rw [addP_nil_r]
        | cons r0 rt =>
          obtain ⟨p2, x2, t2, rfl, ht2⟩ := cut_at (xs := bs) (m := rt.length) (by rw [List.length_cons] at c2 lrl; omega)
          rw [addP_at ht2]
          simp
          omega
      rw [e2, less_same (by simp [l2]), HT.lexLt_cons]
      split
      · by_cases e : r = []
        · rw [e, addP_nil_r]
          exact lex_irr _
        · have h3 := cmp_up (a := bs) hr e
          have h4 : cmpI (addP bs r) bs > 0 := by
            rw [cmp_anti, h3]
            decide
          have h5 := (cmp_pos l2).mp h4
          have hne : addP bs r ≠ bs := fun z => by
            rw [z] at h5
            rw [lex_irr] at h5
            cases h5
          have h6 := lex_tot bs (addP bs r) l2.symm (fun z => hne z.symm)
          rw [h6, h5]
          rfl
      · exact decide_eq_false (by omega)
  · have l3 : (mulP (b :: bs) s).length ≤ (addP (mulP (b :: bs) s) r).length := by
      cases r with
      | nil => rw [addP_nil_r]; exact Nat.le_refl _
      | cons r0 rt =>
        rw [List.length_cons] at lrl
        obtain ⟨p2, x2, t2, e2, ht2⟩ := cut_at (xs := mulP (b :: bs) s) (m := rt.length) (by omega)
        rw [e2, addP_at ht2]
        simp
        omega
    exact (less_short (by rw [List.length_cons]; omega) hn).2
theorem ge_or (xs ys : List Int) : geL xs ys ∨ geL ys xs := by
  unfold geL
  rcases Nat.lt_trichotomy xs.length ys.length with h | h | h
  · exact .inr (.inl h)
  · by_cases e : xs = ys
    · subst e
      exact .inl (.inr ⟨rfl, lex_irr _⟩)
    · have t := lex_tot xs ys h e
      cases c : HT.lexLt xs ys with
      | false => exact .inl (.inr ⟨h.symm, rfl⟩)
      | true =>
        rw [c] at t
        exact .inr (.inr ⟨h, t⟩)
  · exact .inl (.inl h)
theorem div_unique {ys q r q' r' : List Int} (hy : NZ ys) (h0 : ys ≠ []) (hq : NZ q) (hr : NZ r) (hq' : NZ q') (hr' : NZ r') (l : lessB r ys = true) (l' : lessB r' ys = true)
    (e : addP (mulP ys q) r = addP (mulP ys q') r') : q = q' ∧ r = r' := by
  have go : ∀ {q r q' r' : List Int}, NZ q → NZ r → NZ q' → NZ r' → lessB r ys = true → lessB r' ys = true → addP (mulP ys q) r = addP (mulP ys q') r' → geL q' q → q = q' ∧ r = r' := by
    intro q r q' r' hq hr hq' hr' l l' e g
    have eb := sub_back g
    have hs := sub_nz g hq' hq
    by_cases es : subP q' q = []
    · rw [es, addP_nil_r] at eb
      subst eb
      refine ⟨rfl, ?_⟩
      have h1 := (sub_add (a := mulP ys q) hr).1
      have h2 := (sub_add (a := mulP ys q) hr').1
      rw [e] at h1
      exact h1.symm.trans h2
    · rw [← eb, mulP_addP hy hq hs, addP_assoc] at e
      have h1 := (sub_add (a := mulP ys q) hr).1
      have h2 := (sub_add (a := mulP ys q) (addP_nz (mulP_nz hy hs) hr')).1
      rw [e, h2] at h1
      have := not_less hy h0 hs es hr' l'
      rw [h1, l] at this
      cases this
  rcases ge_or q' q with g | g
  · exact go hq hr hq' hr' l l' e g
  · obtain ⟨a, b⟩ := go hq' hr' hq hr l' l e.symm g
    exact ⟨a.symm, b.symm⟩
/-- dividing what was made of a quotient and a remainder -/
theorem div_made {ys q r : List Int} (hy : NZ ys) (h0 : ys ≠ []) (hq : NZ q) (hr : NZ r) (l : lessB r ys = true) : divP (addP (mulP ys q) r) ys = (q, r) := by
  obtain ⟨h1, h2, h3, h4⟩ := div_right (addP_nz (mulP_nz hy hq) hr) hy h0
  obtain ⟨a, b⟩ := div_unique hy h0 h3 h4 hq hr h2 l h1
  exact Prod.ext a b
end Lim
set_option maxHeartbeats 1000000
namespace Lim
open PySem PySem.Spec PyProof.Rows L2
abbrev sPsu : Stmt := topS 13
section
variable {P : Program} {w : World} {K : PySem.W.Frag} {mg : Str → Option Value} {base : Heap}
/-- what an own class of errors, directly or not under ValueError, must say to be raised -/
structure Err (K : PySem.W.Frag) (mg : Str → Option Value) (x : Str) (C : Addr) : Prop where
  g : mg x = some (.ref C)
  x : PySem.W.excIn K C [.type "ValueError", .type "Exception", .type "BaseException", .type "object"] "ValueError.__new__" = true
  k : PySem.W.keepIn K (.ref C) = true
  b : PySem.W.subIn K (.ref C) (.type "BaseException") = some true
  t : PySem.W.typeIn K (.ref C) = some (.type "type")
theorem scPsu : FnScope ["first", "second", "place"] ["first", "second"] (defScope sPsu) := ⟨rfl, rfl, rfl, by decide +kernel, rfl, by decide +kernel, by decide +kernel⟩
def spPsu (K : PySem.W.Frag) (C : Addr) : Sp := fun vs H Q E => ∃ (a b : Addr) (as bs : List Int), vs = [.ref a, .ref b] ∧ SqT K H a (as.map V.int) ∧ SqT K H b (bs.map V.int) ∧ as.length ≤ 400 ∧ bs.length ≤ 400 ∧
  (geL as bs → ∀ p H', Same H H' → SqT K H' p ((subP as bs).map V.int) → Q (.ref p) H') ∧ (¬ geL as bs → E (.ref C) none H)

theorem ok_psu {f fC C : Addr} {fd dC : FuncData} {k : Nat} (F : Fun K "subtract" "subtract" sPsu f fd) (T : Err K mg "NotLater" C) (ml : mg "len" = none) (mr : mg "range" = none)
    (GC : FnOk P w K mg base CX0 (k + 1) fC dC ["first", "second"] (spCmp K)) (kC : PySem.W.keepIn K (.ref fC) = true) (bC : Binds K dC ["first", "second"] []) (gC : mg "compare" = some (.ref fC)) :
    FnOk P w K mg base (L2.CX P w) (k + 2) f fd ["first", "second"] (spPsu K C) := by
  refine F.okX scPsu (fun vs H Q E h => ?_) (fun cdv A outer s H vs Q E hr h => ?_)
  · obtain ⟨a, b, as, bs, rfl, _⟩ := h
    rfl
  · obtain ⟨a, b, as, bs, rfl, ha, hb, la, lb, q, e⟩ := h
    refine ⟨_, pss_cons (ps_if (pt_cmpR op_lt (pe_call GC hr (by rfl) gC kC bC .nil pass0 (pa_cons (pv 0) (pa_cons (pv 1) pa_nil))) (pe_int) (nomark _)) (pss_one (ps_raise rfl (takes_of rfl rfl rfl rfl) (pmk_own PySem.F.excBase_ValueError T.x T.g T.k (raises_own T.b T.t) rfl))) pss_nil)
      (show PSs _ _ _ from PSs.nox ((pss_cons (ps_if (pt_cmpR op_gt (pe_callB call_len_seq (by rfl) ml PySem.boot_len (pa_cons (pv 0) pa_nil)) (pe_callB call_len_seq (by rfl) ml PySem.boot_len (pa_cons (pv 1) pa_nil)) (nomark _)) (pss_one (ps_ret (pv 0))) pss_nil)
        (pss_cons (ps_for PassesOwn.never rfl (pi_range1 rfl mr (pa_cons (pe_callB call_len_seq (by rfl) ml PySem.boot_len (pa_cons (pv 0) pa_nil)) pa_nil)) (pg_name (i := 2) scPsu.nd rfl (.inl rfl)) (pss_one (ps_if (pt_cmpR op_ne (pe_ix ix_tup (pv 0) (pv 2) (fun _ _ => rfl)) (pe_ix ix_tup (pv 1) (pv 2) (fun _ _ => rfl)) (nomark _)) (pss_one (ps_ret (pe_op op_catU (pe_tup (pa_cons (pe_op op_sub (pe_ix ix_tup (pv 0) (pv 2) (fun _ _ => rfl)) (pe_ix ix_tup (pv 1) (pv 2) (fun _ _ => rfl))) pa_nil)) (pe_slice sl_tupU (pv 0) (po_some (pe_op op_add (pv 2) (pe_int))) (po_none))))) pss_nil)))
        (pss_one (ps_ret (pe_tup pa_nil))))))), ?_⟩
    refine ⟨_, rfl, _, rfl, a, b, as, bs, rfl, ha, hb, _, _, rfl, rfl, _, rfl, ite2 (fun c => ?_) (fun c => ?_)⟩
    · exact e (cmp_ge.mp (of_decide_eq_true c))
    · have hg : geL as bs := Classical.byContradiction fun z => c (decide_eq_true (cmp_ge.mpr z))
      have q := q hg
      refine ⟨_, rfl, a, _, rfl, .inr ha, _, rfl, b, _, rfl, .inr hb, _, _, rfl, rfl, _, rfl, ?_⟩
      rw [List.length_map, List.length_map]
      refine ite2 (fun c1 => ?_) (fun c1 => ?_)
      · have h1 := of_decide_eq_true c1
        refine ⟨_, rfl, q a H (Same.refl _) ?_⟩
        unfold subP
        rw [if_pos (by omega)]
        exact ha
      · have h1 : ¬ ((bs.length : Int) < (as.length : Int)) := fun z => c1 (decide_eq_true z)
        have hl : as.length = bs.length := by
          rcases hg with g | ⟨g, _⟩
          · omega
          · exact g.symm
        have hq : ∀ p H', Same H H' → SqT K H' p ((subS as bs).map V.int) → Q (.ref p) H' := by
          intro p H' s' t'
          refine q p H' s' ?_
          unfold subP
          rw [if_neg (by omega)]
          exact t'
        refine ⟨_, rfl, a, _, rfl, .inr ha, _, rfl, ?_⟩
        rw [List.length_map]
        refine ⟨by omega, by omega, for_range (n := as.length) (fun i σ H' => ∃ y2 : Option V, σ = [some (.ref a), some (.ref b), y2] ∧ H' = H ∧ as.take i = bs.take i) ⟨none, rfl, rfl, rfl⟩ ?_ ?_⟩
        · rintro i σ H' hi ⟨y2, rfl, rfl, ht⟩
          rw [Int.zero_add]
          have hib : i < bs.length := by omega
          have hx : (as.map V.int)[i]? = some (V.int as[i]) := by simp
          have hy : (bs.map V.int)[i]? = some (V.int bs[i]) := by simp
          have ex := List.take_append_drop i as
          rw [List.drop_eq_getElem_cons hi] at ex
          have ey := List.take_append_drop i bs
          rw [List.drop_eq_getElem_cons hib] at ey
          refine ⟨_, rfl, _, rfl, a, _, (i : Int), _, rfl, rfl, ha, atI_nat hx, _, rfl, _, rfl, b, _, (i : Int), _, rfl, rfl, hb, atI_nat hy, rfl, _, rfl, ite2 (fun c2 => ?_) (fun c2 => ?_)⟩
          · have hne : as[i] ≠ bs[i] := fun z => by
              rw [z] at c2
              revert c2
              simp
            refine ⟨_, rfl, _, rfl, a, _, (i : Int), _, rfl, rfl, ha, atI_nat hx, _, rfl, _, rfl, b, _, (i : Int), _, rfl, rfl, hb, atI_nat hy, _, _, rfl, rfl, by show 1 ≤ sizeLine; decide, fun p np => ?_⟩
            have s1 := same_upd (o := .tup [.int (as[i] - bs[i])]) np
            refine ⟨_, rfl, _, rfl, _, _, rfl, rfl, _, rfl, a, _, rfl, Same.seqT s1 ha, fun p2 H2 s2 t2 => ?_⟩
            have ec : cutV (as.map V.int) (some ((i : Int) + 1)) none = (as.drop (i + 1)).map V.int := by
              rw [List.map_drop]
              exact cut_from _ (i + 1)
            rw [ec] at t2
            refine ⟨p, p2, _, _, rfl, rfl, Same.seqT s2 (.inl (.inl upd_same)), t2, ?_, fun p3 H3 s3 t3 => ?_⟩
            · rw [List.length_map, List.length_drop, List.length_singleton]
              exact size_ok (by omega)
            · refine hq p3 H3 ((s1.trans s2).trans s3) ?_
              have e5 : subS as bs = (as[i] - bs[i]) :: as.drop (i + 1) := by
                have h5 : subS (as.take i ++ as[i] :: as.drop (i + 1)) (as.take i ++ bs[i] :: bs.drop (i + 1)) = (as[i] - bs[i]) :: as.drop (i + 1) := by
                  rw [subS_pre]
                  show (if as[i] = bs[i] then _ else _) = _
                  rw [if_neg hne]
                have ey' : as.take i ++ bs[i] :: bs.drop (i + 1) = bs := by rw [ht]; exact ey
                rw [ex, ey'] at h5
                exact h5
              rw [e5]
              exact t3
          · have heq : as[i] = bs[i] := by
              apply Classical.byContradiction
              intro z
              apply c2
              rw [decide_eq_false (fun q => z (V.int.inj q))]
              rfl
            refine ⟨_, rfl, rfl, ?_⟩
            rw [List.take_add_one, List.take_add_one, ht, List.getElem?_eq_getElem hi, List.getElem?_eq_getElem hib, heq]
        · rintro σ H' ⟨y2, rfl, rfl, ht⟩
          have e : as = bs := by
            rw [List.take_length, hl, List.take_length] at ht
            exact ht
          refine ⟨Nat.zero_le _, fun p np => hq p _ (same_upd np) ?_⟩
          rw [e, subS_self]
          exact .inl (.inl upd_same)
end
end Lim
set_option maxHeartbeats 1000000
namespace Lim
open PySem PySem.Spec PyProof.Rows L2
abbrev sWlz : Stmt := topS 11
abbrev sPdi : Stmt := topS 14
theorem stZ_drop : ∀ (zs : List Int) (n : Nat), n ≤ zs.length → (∀ z ∈ zs.take n, z = 0) → stZ (zs.drop n) = stZ zs
  | zs, 0, _, _ => rfl
  | [], n + 1, h, _ => by simp at h
  | z :: r, n + 1, h, hz => by
    have z0 : z = 0 := hz z (List.mem_cons_self ..)
    show stZ (r.drop n) = (if z = 0 then stZ r else z :: r)
    rw [if_pos z0]
    exact stZ_drop r n (by simpa using h) fun y hy => hz y (List.mem_cons_of_mem _ hy)
section
variable {P : Program} {w : World} {K : PySem.W.Frag} {mg : Str → Option Value} {base : Heap}
theorem scWlz : FnScope ["coefficients", "start"] ["coefficients"] (defScope sWlz) := ⟨rfl, rfl, rfl, by decide +kernel, rfl, by decide +kernel, by decide +kernel⟩
def spWlz (K : PySem.W.Frag) : Sp := fun vs H Q _ => ∃ (a : Addr) (zs : List Int), vs = [.ref a] ∧ SqT K H a (zs.map V.int) ∧ zs.length ≤ 400 ∧ ∀ p H', Same H H' → SqT K H' p ((stZ zs).map V.int) → Q (.ref p) H'

theorem ok_wlz {f : Addr} {fd : FuncData} {k : Nat} (F : Fun K "without_leading_zeros" "without_leading_zeros" sWlz f fd) (ml : mg "len" = none) : FnOk P w K mg base CX0 (k + 1) f fd ["coefficients"] (spWlz K) := by
  refine F.ok scWlz (fun vs H Q E h => ?_) (fun cdv A outer s H vs Q E hr h => ?_)
  · obtain ⟨a, zs, rfl, _⟩ := h
    rfl
  · obtain ⟨a, zs, rfl, ha, la, q⟩ := h
    refine ⟨_, (pss_cons (ps_set (i := 1) scWlz.nd rfl (.inl rfl) (pe_int))
        (pss_cons (ps_while PassesOwn.never (PW.pt (pw_and (pt_cmpR op_lt (pv 1) (pe_callB call_len_seq (by rfl) ml PySem.boot_len (pa_cons (pv 0) pa_nil)) (nomark _)) (pw_and1 (pt_cmpR op_eq (pe_ix ix_tup (pv 0) (pv 1) (fun _ _ => rfl)) (pe_int) (nomark _))))) (pss_one (ps_aug (i := 1) scWlz.nd rfl (.inl rfl) pe_int ip_add)))
        (pss_one (ps_ret (pe_slice sl_tupU (pv 0) (po_some (pv 1)) (po_none)))))), ?_⟩
    refine ⟨fun j σ H' => ∃ n : Nat, n ≤ zs.length ∧ j = zs.length - n ∧ σ = [some (.ref a), some (.int (n : Int))] ∧ H' = H ∧ ∀ z ∈ zs.take n, z = 0, ⟨_, 0, Nat.zero_le _, rfl, rfl, rfl, by simp⟩, ?_⟩
    rintro j σ H' ⟨n, hn, rfl, rfl, rfl, hz⟩
    have fin : stZ (zs.drop n) = zs.drop n → tRet (tSl (rSlU K) (tVar 0) (tPart (tVar 1)) tNoPart) { nx := fun x H' => Q V.non H', rt := Q } [some (.ref a), some (.int (n : Int))] H' := by
      intro e
      refine ⟨_, rfl, _, rfl, _, rfl, a, _, rfl, ha, fun p H1 s1 t1 => q p H1 s1 ?_⟩
      rw [← stZ_drop zs n hn hz, e, List.map_drop]
      have := cut_from (zs.map V.int) n
      rw [← this]
      exact t1
    refine ⟨_, rfl, _, rfl, a, _, rfl, .inr ha, _, _, rfl, rfl, _, rfl, ?_⟩
    rw [List.length_map]
    refine ite2 (fun c => ?_) (fun c => ?_)
    · have hlt : n < zs.length := by
        have := of_decide_eq_true c
        omega
      have hx : (zs.map V.int)[n]? = some (V.int zs[n]) := by simp
      refine ⟨_, rfl, _, rfl, a, _, (n : Int), _, rfl, rfl, ha, atI_nat hx, rfl, _, rfl, ite2 (fun c2 => ?_) (fun c2 => ?_)⟩
      · have z0 : zs[n] = 0 := V.int.inj (of_decide_eq_true c2)
        refine ⟨fun σ H'' => σ = [some (.ref a), some (.int ((n + 1 : Nat) : Int))] ∧ H'' = H', ?_, ?_⟩
        · rintro σ H'' ⟨rfl, rfl⟩
          refine ⟨zs.length - (n + 1), by omega, n + 1, hlt, rfl, rfl, rfl, fun z h => ?_⟩
          rw [List.take_add_one, List.getElem?_eq_getElem hlt] at h
          rcases List.mem_append.mp h with h | h
          · exact hz z h
          · rw [List.mem_singleton.mp h]
            exact z0
        · exact ⟨_, rfl, _, _, rfl, rfl, rfl, rfl⟩
      · refine fin ?_
        rw [List.drop_eq_getElem_cons hlt]
        show (if zs[n] = 0 then _ else _) = _
        rw [if_neg (fun z => c2 (decide_eq_true (by rw [z])))]
    · have hge : n = zs.length := by
        have : ¬ (n : Int) < (zs.length : Int) := fun z => c (decide_eq_true z)
        omega
      refine fin ?_
      rw [List.drop_of_length_le (by omega)]
      rfl
end
end Lim
set_option maxHeartbeats 1000000
namespace Lim
open PySem PySem.Spec PyProof.Rows L2
section
variable {P : Program} {w : World} {K : PySem.W.Frag} {mg : Str → Option Value} {base : Heap}
theorem scPdi : FnScope ["dividend", "divisor", "higher", "finite", "remaining", "remainder"] ["dividend", "divisor"] (defScope sPdi) := ⟨rfl, rfl, rfl, by decide +kernel, rfl, by decide +kernel, by decide +kernel⟩
theorem pow_len (f : Int) : (powL 0 f).length ≤ 1 := by
  unfold powL
  split
  · exact Nat.zero_le _
  · exact Nat.le_refl _
def spPdi (K : PySem.W.Frag) (Z : Addr) : Sp := fun vs H Q E => ∃ (a b : Addr) (xs ys : List Int), vs = [.ref a, .ref b] ∧ SqT K H a (xs.map V.int) ∧ SqT K H b (ys.map V.int) ∧ xs.length ≤ 300 ∧ ys.length ≤ 300 ∧ NZ xs ∧ NZ ys ∧ (∀ z ∈ ys, z.natAbs < 2 ^ 63) ∧
  (ys ≠ [] → ∀ p x y H', Same H H' → H' p = some (.tup [.ref x, .ref y]) → SqT K H' x ((divP xs ys).1.map V.int) → SqT K H' y ((divP xs ys).2.map V.int) → Q (.ref p) H') ∧ (ys = [] → E (.ref Z) none H)

theorem ok_pdi {f fC fM fP fW fS C Z : Addr} {fd dC dM dP dW dS : FuncData} {k : Nat} (F : Fun K "divide" "divide" sPdi f fd) (T : Err K mg "ZeroDivisor" Z) (ml : mg "len" = none)
    (GC : FnOk P w K mg base CX0 (k + 2) fC dC ["first", "second"] (spCmp K)) (kC : PySem.W.keepIn K (.ref fC) = true) (bC : Binds K dC ["first", "second"] []) (gC : mg "compare" = some (.ref fC))
    (GM : FnOk P w K mg base CX0 (k + 2) fM dM ["first", "second"] (spPmu K)) (kM : PySem.W.keepIn K (.ref fM) = true) (bM : Binds K dM ["first", "second"] []) (gM : mg "multiply" = some (.ref fM))
    (GP : FnOk P w K mg base CX0 (k + 2) fP dP ["exponent", "coefficient"] (spPow K)) (kP : PySem.W.keepIn K (.ref fP) = true) (bP : Binds K dP ["exponent", "coefficient"] []) (gP : mg "power" = some (.ref fP))
    (GW : FnOk P w K mg base CX0 (k + 2) fW dW ["coefficients"] (spWlz K)) (kW : PySem.W.keepIn K (.ref fW) = true) (bW : Binds K dW ["coefficients"] []) (gW : mg "without_leading_zeros" = some (.ref fW))
    (GS : FnOk P w K mg base (L2.CX P w) (k + 2) fS dS ["first", "second"] (spPsu K C)) (kS : PySem.W.keepIn K (.ref fS) = true) (bS : Binds K dS ["first", "second"] []) (gS : mg "subtract" = some (.ref fS)) :
    FnOk P w K mg base (L2.CX P w) (k + 3) f fd ["dividend", "divisor"] (spPdi K Z) := by
  refine F.okX scPdi (fun vs H Q E h => ?_) (fun cdv A outer s H vs Q E hr h => ?_)
  · obtain ⟨a, b, as, bs, rfl, _⟩ := h
    rfl
  · obtain ⟨a, b, xs, ys, rfl, ha, hb, la, lb, nx, ny, hy63, q, e⟩ := h
    refine ⟨_, pss_cons (ps_if (pt_cmpR op_eq (pe_callB call_len_seq (by rfl) ml PySem.boot_len (pa_cons (pv 1) pa_nil)) (pe_int) (nomark _)) (pss_one (ps_raise rfl (takes_of rfl rfl rfl rfl) (pmk_own PySem.F.excBase_ValueError T.x T.g T.k (raises_own T.b T.t) rfl))) pss_nil)
      (show PSs _ _ _ from PSs.nox ((pss_cons (ps_if (pt_cmpR op_lt (pe_callB call_len_seq (by rfl) ml PySem.boot_len (pa_cons (pv 0) pa_nil)) (pe_callB call_len_seq (by rfl) ml PySem.boot_len (pa_cons (pv 1) pa_nil)) (nomark _)) (pss_one (ps_ret (pe_tup (pa_cons (pe_tup pa_nil) (pa_cons (pv 0) pa_nil))))) pss_nil)
        (pss_cons (ps_set (i := 2) scPdi.nd rfl (.inl rfl) (pe_op op_sub (pe_callB call_len_seq (by rfl) ml PySem.boot_len (pa_cons (pv 0) pa_nil)) (pe_callB call_len_seq (by rfl) ml PySem.boot_len (pa_cons (pv 1) pa_nil))))
        (pss_cons (ps_set (i := 3) scPdi.nd rfl (.inl rfl) (pe_op op_fdivW (pe_ix ix_tup (pv 0) (pv 2) (fun _ _ => rfl)) (pe_ix ix_tup (pv 1) (pe_int) (fun _ _ => rfl))))
        (pss_cons (ps_set (i := 4) scPdi.nd rfl (.inl rfl) (pe_call GW hr (by rfl) gW kW bW .nil pass0 (pa_cons (pe_slice sl_tupU (pv 0) (po_some (pv 2)) (po_none)) pa_nil)))
        (C8.pss_cut (ps_if (pt_cmpR op_gt (pe_call GC hr (by rfl) gC kC bC .nil pass0 (pa_cons (pe_call GM hr (by rfl) gM kM bM .nil pass0 (pa_cons (pv 1) (pa_cons (pe_call GP hr (by rfl) gP kP bP .nil pass0 (pa_cons (pe_int) (pa_cons (pv 3) pa_nil))) pa_nil))) (pa_cons (pv 4) pa_nil))) (pe_int) (nomark _)) (pss_one (ps_aug (i := 3) scPdi.nd rfl (.inl rfl) pe_int ip_sub)) pss_nil)
        (pss_cons (ps_set (i := 5) scPdi.nd rfl (.inl rfl) (pe_callS GS hr (by rfl) gS kS bS (fun σ => passAt takes0 σ) (pa_cons (pv 4) (pa_cons (pe_call GM hr (by rfl) gM kM bM .nil pass0 (pa_cons (pv 1) (pa_cons (pe_call GP hr (by rfl) gP kP bP .nil pass0 (pa_cons (pe_int) (pa_cons (pv 3) pa_nil))) pa_nil))) pa_nil))))
        (pss_one (ps_ret (pe_tup (pa_cons (pe_call GW hr (by rfl) gW kW bW .nil pass0 (pa_cons (pe_op op_catU (pe_slice sl_tupU (pv 0) (po_none) (po_some (pv 2))) (pe_tup (pa_cons (pv 3) pa_nil))) pa_nil)) (pa_cons (pv 5) pa_nil))))))))))))), ?_⟩
    refine ⟨_, rfl, b, _, rfl, .inr hb, rfl, _, rfl, ?_⟩
    rw [List.length_map]
    refine ite2 (fun c => ?_) (fun c => ?_)
    · have := V.int.inj (of_decide_eq_true c)
      exact e (List.eq_nil_of_length_eq_zero (by omega))
    · have h0 : ys ≠ [] := fun z => c (by rw [z]; rfl)
      have q := q h0
      obtain ⟨b0, bt, rfl⟩ : ∃ b0 bt, ys = b0 :: bt := by
        cases ys with
        | nil => exact absurd rfl h0
        | cons y r => exact ⟨y, r, rfl⟩
      have hb0 := nz_head ny
      have hb63 := hy63 b0 (List.mem_cons_self ..)
      refine ⟨_, rfl, a, _, rfl, .inr ha, _, rfl, b, _, rfl, .inr hb, _, _, rfl, rfl, _, rfl, ?_⟩
      rw [List.length_map, List.length_map]
      refine ite2 (fun c1 => ?_) (fun c1 => ?_)
      · have h1 := of_decide_eq_true c1
        have hl : xs.length < (b0 :: bt).length := by omega
        refine ⟨Nat.zero_le _, fun p np => ⟨_, rfl, by show 2 ≤ sizeLine; decide, fun p2 np2 => ?_⟩⟩
        have s1 := same_upd (o := .tup []) np
        have s2 := same_upd (o := .tup [.ref p, .ref a]) np2
        have ed : divP xs (b0 :: bt) = ([], xs) := by
          unfold divP
          rw [if_pos hl]
        refine q p2 p a _ (s1.trans s2) upd_same ?_ ?_
        · rw [ed]
          exact .inl (.inl (s2 _ _ upd_same))
        · rw [ed]
          exact Same.seqT (s1.trans s2) ha
      · have hnl : ¬ xs.length < (b0 :: bt).length := fun z => c1 (decide_eq_true (by omega))
        have hnl' : bt.length < xs.length := by
          rw [List.length_cons] at hnl
          omega
        obtain ⟨hs, x, as, rfl, hl⟩ := cut_at (xs := xs) (m := bt.length) hnl'
        have e1 : (hs ++ x :: as).length - (b0 :: bt).length = hs.length := by simp [hl]
        have e2 : (hs ++ x :: as).take hs.length = hs := by simp
        have e3 : (hs ++ x :: as).drop hs.length = x :: as := by simp
        have e4 : (hs ++ x :: as).getD hs.length 0 = x := by simp
        have ed : divP (hs ++ x :: as) (b0 :: bt) = (stZ (hs ++ [finC (x :: as) (b0 :: bt) (x / b0)]), subP (stZ (x :: as)) (mulP (b0 :: bt) (powL 0 (finC (x :: as) (b0 :: bt) (x / b0))))) := by
          unfold divP
          rw [if_neg hnl, e1, e2, e3, e4]
          rfl
        have hx0 : 0 ≤ x := nx.nn x (List.mem_append.mpr (.inr (List.mem_cons_self ..)))
        have na : ∀ z ∈ as, 0 ≤ z := fun z hz => nx.nn z (List.mem_append.mpr (.inr (List.mem_cons_of_mem _ hz)))
        have hh : hs.head? ≠ some 0 := fun z => by
          cases hs with
          | nil => cases z
          | cons y r => exact nx.hd z
        have ha0 : hs = [] → x ≠ 0 := fun e z => nx.hd (by rw [e, z]; rfl)
        obtain ⟨f0, f1, hg, _, _⟩ := div_core (f := finC (x :: as) (b0 :: bt) (x / b0)) (hs := hs) (by omega : 1 ≤ b0) hx0 hl na (fun z hz => ny.nn z (List.mem_cons_of_mem _ hz)) hh ha0 rfl
        rw [ed] at q
        have hi : ((hs ++ x :: as).map V.int)[hs.length]? = some (V.int x) := by simp
        have eh : ((hs ++ x :: as).length : Int) - ((b0 :: bt).length : Int) = (hs.length : Int) := by
          simp [hl]
        refine ⟨_, rfl, a, _, rfl, .inr ha, _, rfl, b, _, rfl, .inr hb, _, _, rfl, rfl, ?_⟩
        rw [List.length_map, List.length_map]
        dsimp only
        rw [eh]
        refine ⟨_, rfl, _, rfl, a, _, (hs.length : Int), _, rfl, rfl, ha, atI_nat hi, _, rfl, b, _, 0, _, rfl, rfl, hb, atI_nat (j := 0) rfl, _, _, rfl, rfl, wide_div (b := 63) hb0 hb63 (by decide) (by decide), ?_⟩
        refine ⟨_, rfl, _, rfl, _, rfl, a, _, rfl, ha, fun p1 H1 s1 t1 => ?_⟩
        have ec : cutV ((hs ++ x :: as).map V.int) (some (hs.length : Int)) none = (x :: as).map V.int := by
          rw [cut_from, ← List.map_drop, e3]
        rw [ec] at t1
        simp only [List.length_append, List.length_cons] at la lb
        refine ⟨p1, x :: as, rfl, t1, by rw [List.length_cons]; omega, fun p2 H2 s2 t2 => ?_⟩
        have lz := stZ_len (x :: as)
        rw [List.length_cons] at lz
        have s02 := s1.trans s2
        refine ⟨fun σ H' => σ = [some (.ref a), some (.ref b), some (.int (hs.length : Int)), some (.int (finC (x :: as) (b0 :: bt) (x / b0))), some (.ref p2), none] ∧ Same H2 H', ?_, ?_⟩
        · refine ⟨_, rfl, _, rfl, 0, x / b0, rfl, by decide, by decide, fun p3 H3 s3 t3 => ?_⟩
          have l3 := pow_len (x / b0)
          refine ⟨b, p3, b0 :: bt, _, rfl, Same.seqT (s02.trans s3) hb, t3, by rw [List.length_cons]; omega, by omega, hy63, fun p4 H4 s4 t4 => ?_⟩
          refine ⟨_, rfl, p4, p2, _, _, rfl, t4, Same.seqT (s3.trans s4) t2, _, _, rfl, rfl, _, rfl, ite2 (fun c2 => ?_) (fun c2 => ?_)⟩
          · have ef : finC (x :: as) (b0 :: bt) (x / b0) = x / b0 - 1 := by
              unfold finC
              rw [if_pos (of_decide_eq_true c2)]
            rw [ef]
            exact ⟨_, rfl, _, _, rfl, rfl, rfl, s3.trans s4⟩
          · have ef : finC (x :: as) (b0 :: bt) (x / b0) = x / b0 := by
              unfold finC
              rw [if_neg (fun z => c2 (decide_eq_true z))]
            rw [ef]
            exact ⟨rfl, s3.trans s4⟩
        · rintro σ H3 ⟨rfl, s3⟩
          generalize finC (x :: as) (b0 :: bt) (x / b0) = f at q f0 f1 hg ⊢
          have s03 := s02.trans s3
          refine ⟨_, rfl, _, rfl, _, rfl, 0, f, rfl, by decide, by decide, fun p4 H4 s4 t4 => ?_⟩
          have l4 := pow_len f
          have s04 := s03.trans s4
          refine ⟨b, p4, b0 :: bt, _, rfl, Same.seqT s04 hb, t4, by rw [List.length_cons]; omega, by omega, hy63, fun p5 H5 s5 t5 => ?_⟩
          have lm : (mulP (b0 :: bt) (powL 0 f)).length ≤ 400 := by
            rw [mul_fin]
            split
            · exact Nat.zero_le _
            · rw [List.length_cons]
              omega
          refine ⟨p2, p5, _, _, rfl, Same.seqT ((s3.trans s4).trans s5) t2, t5, by omega, lm, fun _ p6 H6 s6 t6 => ?_, fun n => absurd hg n⟩
          have s06 := (s04.trans s5).trans s6
          refine ⟨_, rfl, _, rfl, _, rfl, a, _, rfl, Same.seqT s06 ha, fun p7 H7 s7 t7 => ⟨_, rfl, by show 1 ≤ sizeLine; decide, fun p8 np8 => ?_⟩⟩
          have s8 := same_upd (o := .tup [.int f]) np8
          have ec2 : cutV ((hs ++ x :: as).map V.int) none (some (hs.length : Int)) = hs.map V.int := by
            rw [cut_to, ← List.map_take, e2]
          rw [ec2] at t7
          refine ⟨p7, p8, _, _, rfl, rfl, Same.seqT s8 t7, .inl (.inl upd_same), ?_, fun p9 H9 s9 t9 => ?_⟩
          · rw [List.length_map, List.length_singleton]
            exact size_ok (by omega)
          · have t9' : SqT K H9 p9 ((hs ++ [f]).map V.int) := by
              rw [List.map_append]
              exact t9
            refine ⟨p9, hs ++ [f], rfl, t9', by rw [List.length_append, List.length_singleton]; omega, fun p10 H10 s10 t10 => ⟨_, rfl, by show 2 ≤ sizeLine; decide, fun p11 np11 => ?_⟩⟩
            have s11 := same_upd (o := .tup [.ref p10, .ref p6]) np11
            have s711 := ((s7.trans s8).trans s9).trans (s10.trans s11)
            exact q p11 p10 p6 _ (s06.trans s711) upd_same (Same.seqT s11 t10) (Same.seqT s711 t6)
end
end Lim
set_option maxHeartbeats 1000000
namespace Lim
open PySem PySem.Spec PyProof.Rows L2
section
variable {P : Program} {w : World} {K : PySem.W.Frag} {mg : Str → Option Value} {base : Heap}
theorem scPrd : FnScope ["first", "second", "found", "left", "exponent", "number"] ["first", "second"] (defScope sPrd) := ⟨rfl, rfl, rfl, by decide +kernel, rfl, by decide +kernel, by decide +kernel⟩
def spPrd (K : PySem.W.Frag) : Sp := fun vs H Q _ => ∃ (a b : Addr) (as bs : List Int), vs = [.ref a, .ref b] ∧ SqT K H a (as.map V.int) ∧ SqT K H b (bs.map V.int) ∧ as.length ≤ 140 ∧ bs.length ≤ 140 ∧ NZ as ∧ NZ bs ∧ (∀ z ∈ as, z.natAbs < 2 ^ 63) ∧ ∀ p H', Same H H' → SqT K H' p ((mulP as bs).map V.int) → Q (.ref p) H'
theorem stepP_nz {a0 : Int} {tl found : List Int} {p : Int × Int} (h : NZ found) (ha : NZ (a0 :: tl)) (hp : 0 < p.2) : NZ (stepP a0 tl found p) := by
  unfold stepP
  refine addP_nz h ?_
  have h0 : 0 < a0 := by
    have h1 := ha.nn a0 (List.mem_cons_self ..)
    have h2 : a0 ≠ 0 := fun e => ha.hd (by rw [e]; rfl)
    omega
  split
  · refine ⟨fun z hz => ?_, fun e => ?_⟩
    · rcases List.mem_cons.mp hz with e | h
      · omega
      · rw [List.eq_of_mem_replicate h]
        exact Int.le_refl _
    · have := Option.some.inj e
      omega
  · have h3 : 0 < a0 * p.2 := Int.mul_pos h0 hp
    refine ⟨fun z hz => ?_, fun e => ?_⟩
    · rcases List.mem_cons.mp hz with e | h
      · omega
      · exact ha.nn z (List.mem_cons_of_mem _ h)
    · have := Option.some.inj e
      omega

theorem ok_prd {f fT fF fA : Addr} {fd dT dF dA : FuncData} {k : Nat} (F : Fun K "_law_product" "_law_product" sPrd f fd)
    (GT : FnOk P w K mg base CX0 (k + 2) fT dT ["ordinal"] (spTrm K)) (kT : PySem.W.keepIn K (.ref fT) = true) (bT : Binds K dT ["ordinal"] []) (gT : mg "_law_term_list" = some (.ref fT))
    (GF : FnOk P w K mg base CX0 (k + 2) fF dF ["terms"] (spFrm K)) (kF : PySem.W.keepIn K (.ref fF) = true) (bF : Binds K dF ["terms"] []) (gF : mg "_law_from_terms" = some (.ref fF))
    (GA : FnOk P w K mg base CX0 (k + 2) fA dA ["first", "second"] (spAdd K)) (kA : PySem.W.keepIn K (.ref fA) = true) (bA : Binds K dA ["first", "second"] []) (gA : mg "_law_added" = some (.ref fA)) :
    FnOk P w K mg base CX0 (k + 3) f fd ["first", "second"] (spPrd K) := by
  refine F.ok scPrd (fun vs H Q E h => ?_) (fun cdv A outer s H vs Q E hr h => ?_)
  · obtain ⟨a, b, as, bs, rfl, _⟩ := h
    rfl
  · obtain ⟨a, b, as, bs, rfl, ha, hb, la, lb, na, nb, hbd, q⟩ := h
    refine ⟨_, (pss_cons (ps_set (i := 2) scPrd.nd rfl (.inl rfl) (pe_tup pa_nil))
        (pss_cons (ps_set (i := 3) scPrd.nd rfl (.inl rfl) (pe_call GT hr (by rfl) gT kT bT .nil pass0 (pa_cons (pv 0) pa_nil)))
        (pss_cons (ps_for PassesOwn.never rfl (pi_list (pe_ifExp (pt_cmpR (op_neD hr.units) (pv 3) (pe_lst pa_nil) (nomark _)) (pe_call GT hr (by rfl) gT kT bT .nil pass0 (pa_cons (pv 1) pa_nil)) (pe_lst pa_nil))) (pg_tup rfl (pgs_cons (pg_name (i := 4) scPrd.nd rfl (.inl rfl)) (pgs_cons (pg_name (i := 5) scPrd.nd rfl (.inl rfl)) pgs_nil))) (pss_one (ps_if (pt_cmpR op_gt (pv 4) (pe_int) (nomark _)) (pss_one (ps_set (i := 2) scPrd.nd rfl (.inl rfl) (pe_call GA hr (by rfl) gA kA bA .nil pass0 (pa_cons (pv 2) (pa_cons (pe_call GF hr (by rfl) gF kF bF .nil pass0 (pa_cons (pe_lst (pa_cons (pe_tup (pa_cons (pe_op op_add (pe_ix ix_tup (pe_ix ix_list (pv 3) (pe_int) (fun _ _ => rfl)) (pe_int) (fun _ _ => rfl)) (pv 4)) (pa_cons (pv 5) pa_nil))) pa_nil)) pa_nil)) pa_nil))))) (pss_one (ps_set (i := 2) scPrd.nd rfl (.inl rfl) (pe_call GA hr (by rfl) gA kA bA .nil pass0 (pa_cons (pv 2) (pa_cons (pe_call GF hr (by rfl) gF kF bF .nil pass0 (pa_cons (pe_op op_cat (pe_lst (pa_cons (pe_tup (pa_cons (pe_ix ix_tup (pe_ix ix_list (pv 3) (pe_int) (fun _ _ => rfl)) (pe_int) (fun _ _ => rfl)) (pa_cons (pe_op op_mul (pe_ix ix_tup (pe_ix ix_list (pv 3) (pe_int) (fun _ _ => rfl)) (pe_int) (fun _ _ => rfl)) (pv 5)) pa_nil))) pa_nil)) (pe_slice sl_list (pv 3) (po_some (pe_int)) (po_none))) pa_nil)) pa_nil))))))))
        (pss_one (ps_ret (pv 2)))))), ?_⟩
    refine ⟨Nat.zero_le _, fun pf npf => ?_⟩
    have s0 := same_upd (o := .tup []) npf
    refine ⟨_, rfl, a, as, rfl, Same.seqT s0 ha, by omega, fun lf H1 ul s1 nlf hlf pl => ?_⟩
    have s01 := s0.trans s1
    refine ⟨_, rfl, Nat.zero_le _, fun p0 np0 => ?_⟩
    have e0 := same_upd (o := .lst []) np0
    have hlf0 := e0 _ _ hlf
    refine ⟨.list ((terms as).map prD), .list [], .lst (.inl (.inl hlf0)) (dp_prs (pl.same e0)), .lst (.inl (.inl upd_same)) .nil, shaped_prs _, shaped_prs [], _, rfl, ?_⟩
    rw [eqv_nil]
    have hpf0 : SqT K (L2.upd H1 p0 (.lst [])) pf (([] : List Int).map V.int) := Same.seqT (s1.trans e0) (.inl (.inl upd_same))
    refine ite2 (fun c => ?_) (fun c => ?_)
    · have hne : as ≠ [] := fun e => by
        rw [e] at c
        revert c
        decide +kernel
      obtain ⟨a0, tl, rfl⟩ : ∃ a0 tl, as = a0 :: tl := by
        cases as with
        | nil => exact absurd rfl hne
        | cons x r => exact ⟨x, r, rfl⟩
      have ha0 : a0 ≠ 0 := fun e => na.hd (by rw [e]; rfl)
      have q : ∀ p H', Same H H' → SqT K H' p (((terms bs).foldl (stepP a0 tl) []).map V.int) → Q (.ref p) H' := by
        rw [mul_same nb.hd]
        exact q
      rw [terms_cons ha0] at pl
      obtain ⟨t0, ul', rfl, ht0, pl'⟩ : ∃ (t0 : Addr) (ul' : List V), ul = .ref t0 :: ul' ∧ H1 t0 = some (.tup [.int (tl.length : Int), .int a0]) ∧ Prs H1 ul' (termsTo (tl.length + 1) 1 tl) := by
        cases pl with
        | cons r1 r2 =>
          obtain ⟨t0, e, h⟩ := r1
          exact ⟨t0, _, by rw [e], h, r2⟩
      rw [List.length_cons] at la
      have hb0 := hbd a0 (List.mem_cons_self ..)
      refine ⟨_, rfl, b, bs, rfl, Same.seqT (s01.trans e0) hb, by omega, fun lb' H2 ub s2 nlb hlb pb => ⟨lb', rfl, ⟨_, .inl (.inl hlb)⟩, ?_⟩⟩
      have base1 : Same H1 H2 := e0.trans s2
      refine for_list (K := K) (a := lb') (xs := ub) (fun i σ H' => ∃ (y4 y5 : Option V) (pf : Addr), σ = [some (.ref a), some (.ref b), some (.ref pf), some (.ref lf), y4, y5] ∧ Same H2 H' ∧ SqT K H' pf ((((terms bs).take i).foldl (stepP a0 tl) []).map V.int) ∧ NZ (((terms bs).take i).foldl (stepP a0 tl) []) ∧ (((terms bs).take i).foldl (stepP a0 tl) []).length ≤ 300) ?_ ?_ ?_ ?_
      · exact ⟨none, none, pf, rfl, Same.refl _, Same.seqT s2 hpf0, ⟨by simp, by simp⟩, by simp⟩
      · rintro i σ H' _ ⟨_, _, _, _, sm, _⟩
        exact .inl (.inl (sm _ _ hlb))
      · rintro i x σ H3 hx ⟨y4, y5, pf, rfl, sm, tf, nf, lf3⟩
        obtain ⟨⟨e1, c1⟩, hy, T, rfl, hTT⟩ := Paired.at pb hx
        have hT3 := sm _ _ hTT
        have hfst := terms_fst _ _ _ _ (List.mem_of_getElem? hy)
        have hc1 : 0 < c1 := by
          have h1 := nb.nn c1 hfst.2.2.1
          have h2 : c1 ≠ 0 := hfst.2.2.2
          omega
        have he1 : 0 ≤ e1 ∧ e1 ≤ 140 := by
          have h1 : (bs.length : Int) - 1 - (0 : Nat) ≥ e1 := hfst.1
          have h2 : e1 > (bs.length : Int) - 1 - (0 : Nat) - bs.length := hfst.2.1
          omega
        have etk : ((terms bs).take (i + 1)).foldl (stepP a0 tl) [] = stepP a0 tl (((terms bs).take i).foldl (stepP a0 tl) []) (e1, c1) := by
          rw [List.take_add_one, hy, List.foldl_append]
          rfl
        rw [etk]
        generalize ((terms bs).take i).foldl (stepP a0 tl) [] = fo at tf nf lf3
        have nz2 := stepP_nz (p := (e1, c1)) nf na hc1
        have hlf3 := sm _ _ (base1 _ _ hlf)
        have ht3 := sm _ _ (base1 _ _ ht0)
        have pl3 := (pl'.same base1).same sm
        have len2 : (stepP a0 tl fo (e1, c1)).length ≤ 300 := by
          unfold stepP
          refine Nat.le_trans (addP_len _ _) ?_
          split
          · rw [List.length_cons]
            unfold zer
            rw [List.length_replicate]
            have : (e1, c1).1.toNat ≤ 140 := by
              show e1.toNat ≤ 140
              omega
            omega
          · rw [List.length_cons]
            omega
        refine ⟨T, _, rfl, .inl (.inl hT3), rfl, _, _, rfl, _, _, rfl, rfl, _, rfl, _, _, rfl, rfl, _, rfl, ite2 (fun hc => ?_) (fun hc => ?_)⟩
        · have hc' : e1 > 0 := of_decide_eq_true hc
          refine ⟨_, rfl, _, rfl, lf, _, 0, _, rfl, rfl, .inl (.inl hlf3), atI_nat (j := 0) rfl, t0, _, 0, _, rfl, rfl, .inl (.inl ht3), atI_nat (j := 0) rfl, _, rfl, _, _, rfl, rfl, _, rfl, by show 2 ≤ sizeLine; decide, fun p5 np5 => ⟨by show 1 ≤ sizeLine; decide, fun p6 np6 => ?_⟩⟩
          have f1 := same_upd (o := .tup [.int ((tl.length : Int) + e1), .int c1]) np5
          have f2 := same_upd (o := .lst [.ref p5]) np6
          refine ⟨p6, [.ref p5], [((tl.length : Int) + e1, c1)], rfl, upd_same, .cons ⟨p5, rfl, f2 _ _ upd_same⟩ .nil, fr_ok (.cons (fun _ h => nomatch h) .nil) (fun p h => ?_) (fun p h => ?_), fun p7 H7 s7 t7 => ?_⟩
          · rw [List.mem_singleton.mp h]
            show 0 ≤ (tl.length : Int) + e1
            omega
          · rw [List.mem_singleton.mp h]
            show (tl.length : Int) + e1 ≤ 900
            omega
          · rw [frT_one (by omega)] at t7
            have s37 := (f1.trans f2).trans s7
            have ez : List.replicate ((tl.length : Int) + e1).toNat (0 : Int) = zer (tl.length + e1.toNat) := by
              unfold zer
              congr 1
              omega
            rw [ez] at t7
            have es : stepP a0 tl fo (e1, c1) = addP fo (c1 :: zer (tl.length + e1.toNat)) := by
              unfold stepP
              rw [if_pos hc']
            rw [es] at nz2 len2 ⊢
            refine ⟨pf, p7, fo, _, rfl, Same.seqT s37 tf, t7, lf3, ?_, nf.hd, fun z => ?_, fun p8 H8 s8 t8 => ⟨_, _, p8, rfl, (sm.trans s37).trans s8, t8, nz2, len2⟩⟩
            · rw [List.length_cons]
              unfold zer
              rw [List.length_replicate]
              omega
            · have := Option.some.inj z
              omega
        · have hc' : ¬ e1 > 0 := fun z => hc (decide_eq_true z)
          refine ⟨_, rfl, _, rfl, lf, _, 0, _, rfl, rfl, .inl (.inl hlf3), atI_nat (j := 0) rfl, t0, _, 0, _, rfl, rfl, .inl (.inl ht3), atI_nat (j := 0) rfl, _, rfl, lf, _, 0, _, rfl, rfl, .inl (.inl hlf3), atI_nat (j := 0) rfl, t0, _, 1, _, rfl, rfl, .inl (.inl ht3), atI_nat (j := 1) rfl, _, rfl, _, _, rfl, rfl, .inl ⟨by omega, by omega⟩, by show 2 ≤ sizeLine; decide, fun p5 np5 => ⟨by show 1 ≤ sizeLine; decide, fun p6 np6 => ?_⟩⟩
          have f1 := same_upd (o := .tup [.int (tl.length : Int), .int (a0 * c1)]) np5
          have f2 := same_upd (o := .lst [.ref p5]) np6
          have f12 := f1.trans f2
          refine ⟨_, rfl, 1, rfl, lf, _, rfl, .inl (.inl (f12 _ _ hlf3)), fun p7 np7 => ?_⟩
          have ec : cutV (.ref t0 :: ul') (some 1) .none = ul' := cut_from _ 1
          rw [ec]
          have f3 := same_upd (o := .lst ul') np7
          have hll := Paired.length pl'
          have hlt := termsTo_len (tl.length + 1) tl 1
          refine ⟨p6, p7, _, _, rfl, rfl, f3 _ _ upd_same, upd_same, size_ok ?_, fun p8 np8 => ?_⟩
          · rw [List.length_singleton]
            omega
          · have f4 := same_upd (o := .lst ([.ref p5] ++ ul')) np8
            have f34 := f3.trans f4
            refine ⟨p8, _, [((tl.length : Int), a0 * c1)] ++ termsTo (tl.length + 1) 1 tl, rfl, upd_same, .cons ⟨p5, rfl, f34 _ _ (f2 _ _ upd_same)⟩ ((pl3.same f12).same f34), fr_ok (.cons (fun p hp => ?_) (terms_pw _ _ _)) (fun p hp => ?_) (fun p hp => ?_), fun p9 H9 s9 t9 => ?_⟩
            · have := (terms_fst _ _ _ _ hp).1
              show (tl.length : Int) > p.1
              omega
            · rcases List.mem_cons.mp hp with h | h
              · rw [h]
                show 0 ≤ (tl.length : Int)
                omega
              · have := (terms_fst _ _ _ _ h).2.1
                omega
            · rcases List.mem_cons.mp hp with h | h
              · rw [h]
                show (tl.length : Int) ≤ 900
                omega
              · have := (terms_fst _ _ _ _ h).1
                omega
            · have ef : frT ([((tl.length : Int), a0 * c1)] ++ termsTo (tl.length + 1) 1 tl) = (a0 * c1) :: tl := frT_join (n := tl.length + 1) (hi := []) (by rw [List.length_nil]; omega) (.inl rfl)
              rw [ef] at t9
              have es : stepP a0 tl fo (e1, c1) = addP fo ((a0 * c1) :: tl) := by
                unfold stepP
                rw [if_neg hc']
              rw [es] at nz2 len2 ⊢
              have s39 := (f12.trans f34).trans s9
              refine ⟨pf, p9, fo, _, rfl, Same.seqT s39 tf, t9, lf3, ?_, nf.hd, fun z => ?_, fun p10 H10 s10 t10 => ⟨_, _, p10, rfl, (sm.trans s39).trans s10, t10, nz2, len2⟩⟩
              · rw [List.length_cons]
                omega
              · have z' : a0 * c1 = 0 := Option.some.inj z
                rcases Int.mul_eq_zero.mp z' with h | h
                · exact ha0 h
                · omega
      · rintro σ H3 ⟨y4, y5, pf, rfl, sm, tf, nf, lf3⟩
        have hl2 : ub.length = (terms bs).length := Paired.length pb
        rw [hl2, List.take_length] at tf
        exact ⟨_, rfl, q pf H3 ((s01.trans base1).trans sm) tf⟩
    · have hT : terms as = [] := by simpa using c
      have hnil : as = [] := by
        cases as with
        | nil => rfl
        | cons x r =>
          have hx : x ≠ 0 := fun e => na.hd (by rw [e]; rfl)
          rw [terms_cons hx] at hT
          cases hT
      subst hnil
      refine ⟨Nat.zero_le _, fun p1 np1 => ⟨p1, rfl, ⟨_, .inl (.inl upd_same)⟩, ?_⟩⟩
      have e1 := same_upd (o := .lst []) np1
      refine for_list (K := K) (a := p1) (xs := []) (fun i σ H' => σ = [some (.ref a), some (.ref b), some (.ref pf), some (.ref lf), none, none] ∧ H' = _) ⟨rfl, rfl⟩ ?_ ?_ ?_
      · rintro i σ H' _ ⟨_, rfl⟩
        exact .inl (.inl upd_same)
      · intro i x σ H' hx
        simp at hx
      · rintro σ H' ⟨rfl, rfl⟩
        exact ⟨_, rfl, q pf _ ((s01.trans e0).trans e1) (Same.seqT e1 hpf0)⟩
end
end Lim
set_option maxHeartbeats 2000000
namespace Lim
open PySem PySem.Spec PyProof.Rows L2
/-- an error that a name still holds behind its suite -/
def Kept (cls : Value) (d : Option Addr) (a : Addr) : HO := .ext fun h => ∃ oe vs, h.get? a = some oe ∧ Zc cls d oe ∧ oe.data = .fields vs
theorem kept_ok {P : Program} {w : World} {H : Hp} {h : Heap} {a : Addr} {cls : Value} {d : Option Addr} {oe : Obj} {vs : Array Value} (e : h.get? a = some oe) (z : Zc cls d oe) (f : oe.data = .fields vs) : ObjOk P w H h a (Kept cls d a) :=
  ⟨⟨oe, vs, e, z, f⟩, ⟨oe, e⟩, fun _ _ ⟨o, v, q, r⟩ k => ⟨o, v, k o q, r⟩⟩
section
variable {X : Cx} {pins : List (Addr × Obj)} {σ : L2.St} {H : Hp} {s : Shared} {a : Addr} {cls : Value} {d : Option Addr}
theorem Inv_track {oe : Obj} {vs : Array Value} (I : Inv X pins σ H s) (e : s.heap.get? a = some oe) (z : Zc cls d oe) (f : oe.data = .fields vs) (n : H a = none) (h0 : X.s_0.heap.get? a = none)
    (nL : a ≠ X.env.locals) (nc : ∀ x c, X.env.cells.lookup x = some c → c ≠ a) (np : ∀ p ∈ X.pn ++ pins, p.1 ≠ a) : Inv X pins σ (upd H a (Kept cls d a)) s := by
  have oth : ∀ {b : Addr} {o : HO}, H b = some o → b ≠ a := fun {b o} q y => by
    rw [y, n] at q
    cases q
  refine ⟨I.ok, I.os, I.bare, ⟨I.base.keep, I.base.slot, fun b o q m hx => ?_, I.base.there, fun b xs q => ?_, fun b o u q => ?_, fun b ps q => ?_⟩, I.loc, I.cell, ?_, fun x c q => ?_, fun p hp => ?_, fun b u q => ?_, I.len⟩
  · rw [upd_ne (fun y => by rw [y, h0] at q; cases q)]
    exact I.base.free b o q m hx
  · have r := I.base.tups b xs q
    rw [upd_ne (oth r)]
    exact r
  · have r := I.base.frzs b o u q
    rw [upd_ne (oth r)]
    exact r
  · obtain ⟨more, r⟩ := I.base.tbls b ps q
    exact ⟨more, by rw [upd_ne (oth r)]; exact r⟩
  · rw [upd_ne (Ne.symm nL)]
    exact I.free
  · rw [upd_ne (nc x c q)]
    exact I.freeC x c q
  · obtain ⟨p1, p2, p3⟩ := I.pin p hp
    exact ⟨p1, by rw [upd_ne (np p hp)]; exact p2, p3⟩
  · by_cases hb : b = a
    · subst hb
      rw [upd_same] at q
      cases q
      exact kept_ok e z f
    · rw [upd_ne hb] at q
      refine (I.hok b u q).stay (fun _ _ _ r => r) (fun c r => ?_) fun c xs r => ?_
      · rw [upd_ne (oth r)]
        exact r
      · rw [upd_ne (oth r)]
        exact r
end
/-- what 'except x as n' wishes, its error tracked behind the suite -/
def wKeep (K : PySem.W.Frag) (c : Value) (i : Nat) (ts : Addr → Value → Option Addr → TS) (W0 : WX) (D : Ends) : WX := fun cls d σ H =>
  ∃ b, PySem.W.exmOne K cls c = some b ∧
    (b = true → ∀ a, H a = none → ts a cls d { nx := fun σ1 H1 => H1 a = none → D.nx (σ1.set i none) (upd H1 a (Kept cls d a)), rt := D.rt, bk := fun σ1 H1 => D.bk (σ1.set i none) H1, ct := fun σ1 H1 => D.ct (σ1.set i none) H1 } (σ.set i (some (.ref a))) H) ∧
    (b = false → W0 cls d σ H)
section
variable {X : Cx} {x n : Str} {c : Value} {i : Nat} {body suite : List Stmt} {b₀ : Stmt} {np pos pos' : Pos} {tb : WX → TS} {ts : Addr → Value → Option Addr → TS} {W0 : WX}
theorem ps_try_keep (hx : X.ex = []) (hs : X.stack = X.env :: X.outer) (hf : X.env.frame = some X.env.locals) (hN : X.N.Nodup) (hi : X.N[i]? = some n) (hl : X.env.kindOf n = some .local) (hc : Names X x c) (tk : Takes X W0)
    (hb : ∀ (W : WX) (pn : List (Addr × Obj)) (xe : Value → Shared → Prop), Takes (X.tr pn xe) W → PassesOwn (model X.prog X.w) X.A X.env xe → PSs (X.tr pn xe) body (tb W))
    (hu : ∀ (a : Addr) (oe : Obj) (cls : Value) (d : Option Addr) (pn : List (Addr × Obj)), Zc cls d oe → (∃ vs, oe.data = .fields vs) → PSs (X.suite a ((a, oe) :: pn)) (b₀ :: suite) (ts a cls d)) :
    PS X (.Try body [.ExceptHandler (some (.Name x np)) (some n) (b₀ :: suite) pos'] [] [] pos) (fun D σ H => tb (wKeep X.K c i ts W0 D) D σ H) := by
  refine ⟨fun pins s σ H D I h => ?_⟩
  have ok := I.ok
  have afr : X.A.frames = some (X.env :: X.outer) := ok.frames.trans (by rw [hs])
  let hand : ExceptHandler := .ExceptHandler (some (.Name x np)) (some n) (b₀ :: suite) pos'
  let xe : Value → Shared → Prop := fun e t => wpAny (model X.prog X.w) X.A (noteFrame e X.env) (fun _ t => wpAny (model X.prog X.w) X.A (setFlight e none) (fun _ t => wpAny (model X.prog X.w) X.A (handleBy e X.env [hand]) (SP X pins D) X.xe t) X.xe t) X.xe t
  have catch_ : ∀ u t, XE (X.tr (X.pn ++ pins) xe) (wKeep X.K c i ts W0 D) u t → xe u t := by
    rintro u t ⟨a, B, sI, pi, τ, G, cls, d, rfl, J0, nb, up, sky, na, os, ag, b, hb1, hyes, hno⟩
    have J : Inv X pins τ G sI := J0.ofTry ok
    have sk : Sky B (X.env :: X.outer) a (Zc cls d) X.env.locals t.heap := hs ▸ sky
    refine Sky.land Zc.steady afr hf sk fun h3 fl up3 => ?_
    have stB : B.StaysIn h3 := fl.1
    have nB : B.get? a = none := fl.2.1
    have J3 : Inv X pins τ G { t with heap := h3 } := J.landed nb stB (up.trans up3) os ag
    obtain ⟨o3, v3, g3, z3, f3⟩ := fl.there
    have nfr : a ∉ frs (X.env :: X.outer) := fun hm => by
      obtain ⟨_, o', q, hnf⟩ := fl.2.2.1.mem hm
      rw [g3] at q
      cases q
      exact hnf _ f3
    have nL : a ≠ X.env.locals := fun z => nfr (List.mem_filterMap.mpr ⟨X.env, List.mem_cons_self, by rw [hf, z]⟩)
    have nF : a ∉ X.fs := fun hm => by
      obtain ⟨e, he, q⟩ := List.mem_filterMap.mp hm
      exact nfr (List.mem_filterMap.mpr ⟨e, List.mem_cons_of_mem _ he, q⟩)
    -- a stood nowhere before
    have nI : sI.heap.get? a = none := by
      cases q : sI.heap.get? a with
      | none => rfl
      | some o =>
        have := nb a o q (by rw [show (X.tr (X.pn ++ pins) xe).stack = X.env :: X.outer from hs]; exact nfr)
        rw [nB] at this
        cases this
    have n0 : X.s_0.heap.get? a = none := by
      cases q : X.s_0.heap.get? a with
      | none => rfl
      | some o =>
        obtain ⟨o', r⟩ := J.base.there a o q (by rw [hx]; exact List.not_mem_nil)
        rw [nI] at r
        cases r
    have nC : ∀ y k, X.env.cells.lookup y = some k → k ≠ a := fun y k q z => by
      obtain ⟨v, o, r, _⟩ := J.cell y k q
      rw [z, nI] at r
      cases r
    have nP : ∀ p ∈ X.pn ++ pins, p.1 ≠ a := fun p hp z => by
      have := (J.pin p hp).1
      rw [z, nI] at this
      cases this
    have S3 := J3.suite g3 f3 na nL nF
    refine wpAny_handleBy_cons (codeAny_handlers_test ?_) (fun q => by cases q)
    have LT : PySem.W.Looks (model X.prog X.w) h3 (typeOf (.ref a)) cls := fun A Q E s k q => wpAny_typeOf_ref (k _ _ g3) (z3.1.symm ▸ q)
    have LM := PySem.W.exm_one (M := model X.prog X.w) J3.kIn LT hb1
    have test : ∀ {Q : Value → Shared → Prop} {E : Value → Shared → Prop}, Q c { t with heap := h3 } → wpAny (model X.prog X.w) (X.A.mark (some (.ref a))) (eval (.Name x np) X.env) Q E { t with heap := h3 } := fun {Q E} q => by
      rcases hc with ⟨hg, hdb, hm | ⟨hm, hv, hnn⟩⟩
      · exact ld_glob (X := X.suite a ((a, o3) :: (X.pn ++ pins))) S3 hg hm q hdb
      · exact ld_blt (X := X.suite a ((a, o3) :: (X.pn ++ pins))) S3 hg hm hv q hnn hdb
    refine test (LM.here ?_)
    cases b with
    | false =>
      show wpAny _ X.A (handleBy (.ref a) X.env []) _ _ _
      refine wpAny_handleBy_nil ?_
      obtain ⟨_, _, _, oe, vs, T, oT, ts', he, hz, hd, h1, hr⟩ := id fl
      unfold PySem.passOn
      refine wpAny_bind (wpAny_field he hd h1 ?_)
      rw [if_neg (show ¬ ((Value.ref T == Value.none) = true) by simp)]
      have fin : wpAny (model X.prog X.w) X.A (setFlight (.ref a) X.env.frame) (fun _ t4 => wpAny (model X.prog X.w) X.A (throw (.ref a) : Sem Flow) (SP X pins D) X.xe t4) X.xe { t with heap := h3 } := by
        rw [hf]
        refine HandSPX.setFlight_upZ fl fun h4 hh4 up4 => wpAny_throw (tk _ _ ?_)
        exact ⟨a, B, sI, pins, τ, G, cls, d, rfl, J, nb, (up.trans up3).trans up4, .inr (.inr (hs ▸ hh4)), na, os, ag, hno rfl⟩
      first
        | exact wpAny_bind fin
        | exact wpAny_bind (wpAny_pure (wpAny_bind fin))
    | true =>
      refine codeAny_handlers_suite_as ?_
      refine HandSPX.lands_againZ fl fun h4 fl4 up4 => ?_
      have J4 : Inv X pins τ G { t with heap := h4 } := J.landed nb fl4.1 ((up.trans up3).trans up4) os ag
      obtain ⟨o4, v4, g4, z4, f4⟩ := fl4.there
      have S4 := J4.suite g4 f4 na nL nF
      refine store_ok (X := X.suite a ((a, o4) :: (X.pn ++ pins))) (v := .ref a) S4 hN hi (.inl hl) rfl (fun s5 S5 => ?_) (.inr hl)
      refine wpAny_mono ((hu a o4 cls d (X.pn ++ pins) z4 ⟨_, f4⟩).run [] s5 _ G _ S5 (hyes rfl a na)) (fun f s6 hsp => ?_) fun _ _ z => z.elim
      have off : ∀ {σ6 : L2.St} {H6 : Hp} {Q : Shared → Prop}, Inv (X.suite a ((a, o4) :: (X.pn ++ pins))) [] σ6 H6 s6 → (∀ s7, Inv (X.suite a ((a, o4) :: (X.pn ++ pins))) [] (σ6.set i none) H6 s7 → Q s7) →
          wpAny (model X.prog X.w) X.A (do bindName X.env n .none; unbindBehindTheSuite X.env n pos') (fun _ s7 => Q s7) X.xe s6 := fun S6 hq => gone_ok (X := X.suite a ((a, o4) :: (X.pn ++ pins))) S6 hN hi hl hq
      cases f with
      | next =>
        obtain ⟨σ6, H6, S6, q6⟩ := hsp
        refine off S6 fun s7 S7 => ?_
        obtain ⟨p1, p2, _⟩ := S7.pin (a, o4) (List.mem_append_left _ List.mem_cons_self)
        exact ⟨_, _, Inv_track (S7.unsuite ok) p1 z4 f4 p2 n0 nL nC nP, q6 p2⟩
      | brk =>
        obtain ⟨σ6, H6, S6, q6⟩ := hsp
        exact off S6 fun s7 S7 => ⟨_, _, S7.unsuite ok, q6⟩
      | cont =>
        obtain ⟨σ6, H6, S6, q6⟩ := hsp
        exact off S6 fun s7 S7 => ⟨_, _, S7.unsuite ok, q6⟩
      | ret u =>
        obtain ⟨v6, σ6, H6, S6, r6, q6⟩ := hsp
        exact off S6 fun s7 S7 => ⟨_, _, _, S7.unsuite ok, r6, q6⟩
  refine wpAny_Try_except (wpAny_mono ((hb _ (X.pn ++ pins) xe catch_ PassesOwn.looking).run [] s σ H D (I.toTry _) h) (fun f s1 hsp => ?_) fun e s1 he => he)
  cases f with
  | next =>
    obtain ⟨σ', H', J', q⟩ := hsp
    exact wpAny_execs_nil ⟨σ', H', J'.ofTry ok, q⟩
  | ret u =>
    obtain ⟨v, σ', H', J', r, q⟩ := hsp
    exact ⟨v, σ', H', J'.ofTry ok, r, q⟩
  | brk =>
    obtain ⟨σ', H', J', q⟩ := hsp
    exact ⟨σ', H', J'.ofTry ok, q⟩
  | cont =>
    obtain ⟨σ', H', J', q⟩ := hsp
    exact ⟨σ', H', J'.ofTry ok, q⟩
end
end Lim
set_option maxHeartbeats 2000000
namespace Lim
open PySem PySem.Spec PyProof.Rows L2
/-! isinstance of an error that a name holds, and a list of bools counted -/
def rIsK (K : PySem.W.Frag) : List V → Hp → VK → Prop := fun xs H Q => ∃ (a D : Addr) (c : V) (cv : Value) (b : Bool), xs = [.ref a, c] ∧ H a = some (Kept (.ref D) none a) ∧ ExcC K D ∧ ClsV c cv ∧ PySem.W.kitOne K (.ref D) cv = some b ∧ Q (.bl b) H
def rIsKT (K : PySem.W.Frag) : List V → Hp → VK → Prop := fun xs H Q => ∃ (a D tp : Addr) (cs : List V) (us : List Value) (b : Bool), xs = [.ref a, .ref tp] ∧ H a = some (Kept (.ref D) none a) ∧ ExcC K D ∧ H tp = some (.tup cs) ∧ Paired ClsV cs us ∧
  PySem.W.kitAny K (.ref D) us = some b ∧ Q (.bl b) H
section
variable {X : Cx} {pins : List (Addr × Obj)} {σ : L2.St} {H : Hp} {s : Shared} {a D : Addr}
theorem kept_at (I : Inv X pins σ H s) (h : H a = some (Kept (.ref D) none a)) : ∃ oe, PySem.W.InstAt s.heap a oe D none := by
  obtain ⟨⟨oe, vs, e, z, f⟩, _, _⟩ := (show ObjOk X.prog X.w H s.heap a (Kept (.ref D) none a) from I.hok a _ h)
  obtain ⟨oc, od, oda, osl⟩ := oe
  obtain ⟨z1, z2⟩ := z
  dsimp only at z1 z2 f
  subst z1 z2 f
  exact ⟨_, e, rfl, rfl, trivial⟩
theorem call_isK : CallR X (.builtin "isinstance") (rIsK X.K) := by
  intro pins s σ H xs us Q I r h
  obtain ⟨a, D, c, cv, b, rfl, hH, C, hc, e, q⟩ := h
  obtain ⟨u1, u2, rfl, r1, r2⟩ := vals2 r
  cases (show u1 = Value.ref a from r1)
  obtain rfl := hc.eq r2
  obtain ⟨oe, J⟩ := kept_at I hH
  exact PySem.W.kia_one (PySem.W.handS_kitx_exc C.hg C.hk C.hs C.hd C.ha C.hn C.ht C.hm) I.kIn J e (fun z => nomatch z) fun tk => ⟨.bl b, H, I.tok tk, rfl, q⟩
theorem call_isKT : CallR X (.builtin "isinstance") (rIsKT X.K) := by
  intro pins s σ H xs us Q I r h
  obtain ⟨a, D, tp, cs, ws, b, rfl, hH, C, hT, k, e, q⟩ := h
  obtain ⟨u1, u2, rfl, r1, r2⟩ := vals2 r
  cases (show u1 = Value.ref a from r1)
  cases (show u2 = Value.ref tp from r2)
  obtain ⟨oe, J⟩ := kept_at I hH
  obtain ⟨_, its, rv, o, h1, h2, n, h3⟩ := (show ObjOk X.prog X.w H s.heap tp (.tup cs) from I.hok tp _ hT)
  obtain rfl := ClsV.all k rv
  obtain ⟨oc, od, dt, sl⟩ := o
  simp only at h2 h3
  subst h2 h3
  exact PySem.W.kia_tup (PySem.W.handS_kitx_exc C.hg C.hk C.hs C.hd C.ha C.hn C.ht C.hm) I.kIn J h1 e (fun z => nomatch z) fun tk => ⟨.bl b, H, I.tok tk, rfl, q⟩
end
section
variable {K : PySem.W.Frag} {D C : Addr} {b : Bool}
theorem kit_same : PySem.W.kitOne K (.ref D) (.ref D) = some true := by
  unfold PySem.W.kitOne
  rw [if_pos (beq_self_eq_true _)]
theorem kit_ref (ne : D ≠ C) (hd : PySem.W.hasDictIn K C = true) (ht : PySem.W.typeIn K (.ref C) = some (.type "type")) (h4 : PySem.W.subIn K (.ref D) (.ref C) = some b) : PySem.W.kitOne K (.ref D) (.ref C) = some b := by
  obtain ⟨cd, hc, _⟩ := PySem.W.any_some hd
  unfold PySem.W.kitOne
  rw [if_neg (fun z => ne (by simpa using z))]
  show (if ((PySem.W.clsIn K C).isSome && PySem.W.typeIn K (.ref C) == some (.type "type")) = true then PySem.W.subIn K (.ref D) (.ref C) else none) = some b
  rw [if_pos (by rw [hc, ht]; rfl)]
  exact h4
theorem kit_type {T : String} (hm : PySem.W.kitMeta T = true) (h4 : PySem.W.subIn K (.ref D) (.type T) = some b) : PySem.W.kitOne K (.ref D) (.type T) = some b := by
  unfold PySem.W.kitOne
  rw [if_neg (by simp)]
  show (if PySem.W.kitMeta T = true then PySem.W.subIn K (.ref D) (.type T) else none) = some b
  rw [if_pos hm]
  exact h4
end
/-! bools counted -/
open PySem.SeqAt (EqAt)
def isBl (k : Bool) : Value → Bool
  | .bool b => b == k
  | _ => false
theorem bl_vals {bs : List Bool} {us : List Value} (h : Vals (bs.map V.bl) us) : us = bs.map Value.bool := by
  induction bs generalizing us with
  | nil =>
    cases h
    rfl
  | cons b r ih =>
    cases h with
    | cons rb rr =>
      rw [ih rr, show _ = Value.bool b from rb]
      rfl
theorem bl_gives {A : Around} {s : Shared} {k : Bool} {bs : List Bool} {us : List Value} (h : Vals (bs.map V.bl) us) : ∀ y ∈ us, EqAt A s y (.bool k) (isBl k y) := by
  rw [bl_vals h]
  intro y hy
  obtain ⟨b, _, rfl⟩ := List.mem_map.mp hy
  exact PySem.SeqAt.EqAt.bool_bool b k
theorem bl_count {k : Bool} {bs : List Bool} {us : List Value} (h : Vals (bs.map V.bl) us) : us.countP (isBl k) = bs.count k := by
  rw [bl_vals h, List.countP_map]
  rfl
def rCntB (K : PySem.W.Frag) : V → List V → Hp → VK → Prop := fun x xs H Q => ∃ (p : Addr) (bs : List Bool) (k : Bool), x = .ref p ∧ xs = [.bl k] ∧ SqL K H p (bs.map V.bl) ∧ Q (.int (bs.count k : Nat)) H
theorem mt_bcount {X : Cx} : MtR X "list.count" (rCntB X.K) := by
  intro pins s σ H x xs v us Q I rx rxs h
  obtain ⟨p, bs, k, rfl, rfl, hs, q⟩ := h
  cases rx
  obtain ⟨u, rfl, ru⟩ := rxs.one
  cases (show u = Value.bool k from ru)
  obtain ⟨its, rv, ⟨⟨cls, dd, data, sl⟩, n, ho, hc, hdn, hd⟩, hlen⟩ := I.list hs
  simp only at hc hd
  subst hc hd
  have ec : its.toArray.toList.countP (isBl k) = bs.count k := bl_count rv
  refine call_meets PySem.F.slot_list_count ⟨_, ho, rfl⟩ PySem.F.entry_list_count (PySem.F.args_list_count_2 _ _) (SeqAt.list_countAt p its.toArray n dd sl (.bool k) (isBl k)) ⟨ho, fun y hy => ?_, ?_⟩
  · exact bl_gives rv y (by simpa using hy)
  · refine ⟨.int (bs.count k : Nat), H, I.tok _, ⟨s.toks, ?_⟩, q⟩
    show Value.int ((its.toArray.toList.countP (isBl k) : Nat) : Int) s.toks = Value.int ((bs.count k : Nat) : Int) s.toks
    rw [ec]
end Lim
set_option maxHeartbeats 2000000
namespace Lim
open PySem PySem.Spec PyProof.Rows L2
abbrev sFai : Stmt := topS 27
abbrev sDif : Stmt := topS 28
abbrev sQuo : Stmt := topS 29
section
variable {P : Program} {w : World} {K : PySem.W.Frag} {mg : Str → Option Value} {base : Heap}
abbrev nFai : List Str := ["is_division", "first", "second", "result", "caught", "error", "kinds"]
theorem scFai : FnScope nFai ["is_division", "first", "second"] (defScope sFai) := ⟨rfl, rfl, rfl, by decide +kernel, rfl, by decide +kernel, by decide +kernel⟩
/-- what a class of errors says when it is asked -/
structure KitE (K : PySem.W.Frag) (D L : Addr) (os : List Value) : Prop where
  ex : PySem.W.exmOne K (.ref D) (.ref L) = some true
  ec : ExcC K D
  no : PySem.W.kitAny K (.ref D) os = some false
  ve : PySem.W.kitOne K (.ref D) (.type "ValueError") = some true
def spFai (K : PySem.W.Frag) : Sp := fun vs H Q _ => ∃ (d : Bool) (a b : Addr) (as bs : List Int), vs = [.bl d, .ref a, .ref b] ∧ SqT K H a (as.map V.int) ∧ SqT K H b (bs.map V.int) ∧ as.length ≤ 300 ∧ bs.length ≤ 300 ∧ NZ as ∧ NZ bs ∧ (∀ z ∈ bs, z.natAbs < 2 ^ 63) ∧
  (d = false → geL as bs → ∀ p H', Same H H' → SqT K H' p ((subP as bs).map V.int) → Q (.ref p) H') ∧ (d = false → ¬ geL as bs → ∀ H', Same H H' → Q (.str "later") H') ∧
  (d = true → bs ≠ [] → ∀ p x y H', Same H H' → H' p = some (.tup [.ref x, .ref y]) → SqT K H' x ((divP as bs).1.map V.int) → SqT K H' y ((divP as bs).2.map V.int) → Q (.ref p) H') ∧ (d = true → bs = [] → ∀ H', Same H H' → Q (.str "zero") H')

theorem ok_fai {f fD fS cN cZ cL cBC cBP cIO cSP : Addr} {fd dD dS : FuncData} {k : Nat} (F : Fun K "_law_failure" "_law_failure" sFai f fd) (TN : Err K mg "NotLater" cN) (TZ : Err K mg "ZeroDivisor" cZ)
    (gL : mg "LimitRunError" = some (.ref cL)) (gBC : mg "BadClaim" = some (.ref cBC)) (gBP : mg "BadPath" = some (.ref cBP)) (gIO : mg "InvalidOrdinal" = some (.ref cIO)) (gSP : mg "SyntaxProblem" = some (.ref cSP)) (mis : mg "isinstance" = none) (mVE : mg "ValueError" = none)
    (EN : KitE K cN cL [.ref cBC, .ref cBP, .ref cIO, .ref cSP]) (EZ : KitE K cZ cL [.ref cBC, .ref cBP, .ref cIO, .ref cSP]) (nz : PySem.W.kitOne K (.ref cN) (.ref cZ) = some false) (zn : PySem.W.kitOne K (.ref cZ) (.ref cN) = some false)
    (GD : FnOk P w K mg base (L2.CX P w) (k + 3) fD dD ["dividend", "divisor"] (spPdi K cZ)) (kD : PySem.W.keepIn K (.ref fD) = true) (bD : Binds K dD ["dividend", "divisor"] []) (gD : mg "divide" = some (.ref fD))
    (GS : FnOk P w K mg base (L2.CX P w) (k + 3) fS dS ["first", "second"] (spPsu K cN)) (kS : PySem.W.keepIn K (.ref fS) = true) (bS : Binds K dS ["first", "second"] []) (gS : mg "subtract" = some (.ref fS)) :
    FnOk P w K mg base CX0 (k + 4) f fd ["is_division", "first", "second"] (spFai K) := by
  refine F.ok scFai (fun vs H Q E h => ?_) (fun cdv A outer s H vs Q E hr h => ?_)
  · obtain ⟨d, a, b, as, bs, rfl, _⟩ := h
    rfl
  · obtain ⟨d, a, b, xs, ys, rfl, ha, hb, la, lb, nx, ny, hy, q1, q2, q3, q4⟩ := h
    refine ⟨_, (pss_cons (ps_asg (pe_tup (pa_cons pe_non (pa_cons pe_non pa_nil))) (pg_tup rfl (pgs_cons (pg_name (i := 3) scFai.nd rfl (.inl rfl)) (pgs_cons (pg_name (i := 4) scFai.nd rfl (.inl rfl)) pgs_nil))))
        (C8.pss_cut (ps_try_keep (i := 5) rfl rfl rfl scFai.nd rfl rfl ⟨rfl, by decide, .inl gL⟩ takes0 (fun W pn xe tk _ => pss_one (ps_set (i := 3) scFai.nd rfl (.inl rfl) (pe_ifExp (pt_val (pv 0)) (pe_callS GD hr rfl gD kD bD (fun σ => passAt tk σ) (pa_cons (pv 1) (pa_cons (pv 2) pa_nil))) (pe_callS GS hr rfl gS kS bS (fun σ => passAt tk σ) (pa_cons (pv 1) (pa_cons (pv 2) pa_nil)))))) (fun a oe cls d pn _ _ => pss_one (ps_set (i := 4) scFai.nd rfl (.inl rfl) (pv 5))))
        (pss_cons (ps_if (pt_cmpR op_isN (pv 4) pe_non (nomark _)) (pss_one (ps_ret (pv 3))) pss_nil)
        (pss_cons (ps_if (PW.pt (pw_or (pt_val (pe_callB call_isKT (by rfl) mis (by decide +kernel) (pa_cons (pv 4) (pa_cons (pe_tup (pa_cons (pe_glob (v := .ref cBC) (by rfl) gBC rfl) (pa_cons (pe_glob (v := .ref cBP) (by rfl) gBP rfl) (pa_cons (pe_glob (v := .ref cIO) (by rfl) gIO rfl) (pa_cons (pe_glob (v := .ref cSP) (by rfl) gSP rfl) pa_nil))))) pa_nil)))) (pw_or1 (pt_not (pt_val (pe_callB call_isK (by rfl) mis (by decide +kernel) (pa_cons (pv 4) (pa_cons (pe_bltn (v := .ty "ValueError") (by rfl) mVE (by decide +kernel) rfl) pa_nil)))))))) (pss_one (ps_ret (pe_str))) pss_nil)
        (pss_cons (ps_set (i := 6) scFai.nd rfl (.inl rfl) (pe_lst (pa_cons (pe_callB call_isK (by rfl) mis (by decide +kernel) (pa_cons (pv 4) (pa_cons (pe_glob (v := .ref cN) (by rfl) TN.g rfl) pa_nil))) (pa_cons (pe_callB call_isK (by rfl) mis (by decide +kernel) (pa_cons (pv 4) (pa_cons (pe_glob (v := .ref cZ) (by rfl) TZ.g rfl) pa_nil))) pa_nil))))
        (pss_one (ps_ret (pe_ifExp (pt_cmpR op_ne (pe_bm PySem.F.plainAttrs_list PySem.F.slot_list_count PySem.F.type_list_count mt_bcount (pv 6) (pa_cons (pe_bl) pa_nil)) (pe_int) (nomark _)) (pe_str) (pe_ifExp (pt_val (pe_ix ix_list (pv 6) (pe_int) (fun _ _ => rfl))) (pe_str) (pe_str)))))))))), ?_⟩
    refine ⟨by show 2 ≤ sizeLine; decide, fun p0 np0 => ⟨p0, _, rfl, .inl (.inl upd_same), rfl, _, _, rfl, _, _, rfl, rfl, ?_⟩⟩
    have s0 := same_upd (o := .tup [.non, .non]) np0
    have ha := Same.seqT s0 ha
    have hb := Same.seqT s0 hb
    have q1 := fun h g p H' s => q1 h g p H' (s0.trans s)
    have q2 := fun h g H' s => q2 h g H' (s0.trans s)
    have q3 := fun h g p x y H' s => q3 h g p x y H' (s0.trans s)
    have q4 := fun h g H' s => q4 h g H' (s0.trans s)
    generalize upd H p0 (.tup [.non, .non]) = H at *
    refine ⟨fun σ H' => ∃ (r c : V), σ = [some (.bl d), some (.ref a), some (.ref b), some r, some c, none, none] ∧ Same H H' ∧ ((c = .non ∧ Q r H') ∨ ∃ e D, c = .ref e ∧ H' e = some (Kept (.ref D) none e) ∧ ((D = cN ∧ d = false ∧ ¬ geL xs ys) ∨ (D = cZ ∧ d = true ∧ ys = []))), ?_, ?_⟩
    · refine ⟨_, rfl, d, rfl, ?_⟩
      cases d with
      | true =>
        refine ⟨_, rfl, _, rfl, a, b, xs, ys, rfl, ha, hb, la, lb, nx, ny, hy, fun h0 p x y H1 s1 hp tx ty => ?_, fun h0 => ?_⟩
        · exact ⟨_, _, rfl, s1, .inl ⟨rfl, q3 rfl h0 p x y H1 s1 hp tx ty⟩⟩
        · refine ⟨true, EZ.ex, fun _ e he => ⟨_, rfl, fun he2 => ?_⟩, fun z => nomatch z⟩
          exact ⟨_, _, rfl, same_upd he2, .inr ⟨e, cZ, rfl, upd_same, .inr ⟨rfl, rfl, h0⟩⟩⟩
      | false =>
        refine ⟨_, rfl, _, rfl, a, b, xs, ys, rfl, ha, hb, by omega, by omega, fun hg p H1 s1 t1 => ?_, fun hg => ?_⟩
        · exact ⟨_, _, rfl, s1, .inl ⟨rfl, q1 rfl hg p H1 s1 t1⟩⟩
        · refine ⟨true, EN.ex, fun _ e he => ⟨_, rfl, fun he2 => ?_⟩, fun z => nomatch z⟩
          exact ⟨_, _, rfl, same_upd he2, .inr ⟨e, cN, rfl, upd_same, .inl ⟨rfl, rfl, hg⟩⟩⟩
    · rintro σ H1 ⟨r, c, rfl, s1, h⟩
      rcases h with ⟨rfl, hq⟩ | ⟨e, D, rfl, hK, h⟩
      · exact ⟨_, rfl, rfl, _, rfl, iteT ⟨_, rfl, hq⟩⟩
      · refine ⟨_, rfl, rfl, _, rfl, iteF ?_⟩
        have four : 4 ≤ sizeLine := by show 4 ≤ sizeLine; decide
        have two : 2 ≤ sizeLine := by show 2 ≤ sizeLine; decide
        obtain ⟨b1, b2, ED, k1, k2, hb12⟩ : ∃ b1 b2 : Bool, KitE K D cL [.ref cBC, .ref cBP, .ref cIO, .ref cSP] ∧ PySem.W.kitOne K (.ref D) (.ref cN) = some b1 ∧ PySem.W.kitOne K (.ref D) (.ref cZ) = some b2 ∧ ((b1 = true ∧ b2 = false ∧ ∀ H', Same H H' → Q (.str "later") H') ∨ (b1 = false ∧ b2 = true ∧ ∀ H', Same H H' → Q (.str "zero") H')) := by
          rcases h with ⟨rfl, hd, hg⟩ | ⟨rfl, hd, hg⟩
          · exact ⟨_, _, EN, kit_same, nz, .inl ⟨rfl, rfl, q2 hd hg⟩⟩
          · exact ⟨_, _, EZ, zn, kit_same, .inr ⟨rfl, rfl, q4 hd hg⟩⟩
        refine ⟨_, rfl, four, fun tp ntp => ?_⟩
        have s2 := same_upd (o := .tup [.ref cBC, .ref cBP, .ref cIO, .ref cSP]) ntp
        have hK2 := s2 _ _ hK
        refine ⟨e, D, tp, _, _, false, rfl, hK2, ED.ec, upd_same, .cons (.own cBC) (.cons (.own cBP) (.cons (.own cIO) (.cons (.own cSP) .nil))), ED.no, ?_⟩
        refine ⟨_, rfl, iteF ⟨_, rfl, e, D, _, _, true, rfl, hK2, ED.ec, .ty "ValueError", ED.ve, _, rfl, iteF ?_⟩⟩
        refine ⟨_, rfl, e, D, _, _, b1, rfl, hK2, ED.ec, .own cN, k1, _, rfl, e, D, _, _, b2, rfl, hK2, ED.ec, .own cZ, k2, two, fun l nl => ?_⟩
        have s3 := same_upd (o := .lst [.bl b1, .bl b2]) nl
        have s13 := (s1.trans s2).trans s3
        have hl : SqL K (upd (upd H1 tp (.tup [.ref cBC, .ref cBP, .ref cIO, .ref cSP])) l (.lst [.bl b1, .bl b2])) l ([b1, b2].map V.bl) := .inl (.inl upd_same)
        refine ⟨_, rfl, .inl ⟨rfl, _, hl⟩, l, [b1, b2], true, rfl, rfl, hl, rfl, _, rfl, ?_⟩
        rcases hb12 with ⟨rfl, rfl, q⟩ | ⟨rfl, rfl, q⟩
        · refine iteF ⟨_, rfl, l, _, 0, _, rfl, rfl, hl, atI_nat (j := 0) rfl, _, rfl, iteT (q _ s13)⟩
        · refine iteF ⟨_, rfl, l, _, 0, _, rfl, rfl, hl, atI_nat (j := 0) rfl, _, rfl, iteF (q _ s13)⟩

theorem mulP_len2 (a b : List Int) : (mulP a b).length ≤ a.length + b.length := by
  cases a with
  | nil => rw [mulP_nil_l]; exact Nat.zero_le _
  | cons x t =>
    by_cases e : b = []
    · rw [e, mulP_nil_r]
      exact Nat.zero_le _
    · rw [mulP_len x t b e, List.length_cons]
      omega
theorem ty_tupl {H : Hp} {t : Addr} {xs : List V} (h : SqT K H t xs) : TyX K H (.ref t) (.type "tuple") := by
  rcases h with (h | ⟨o, h⟩) | ⟨_, _, _, hk, hc, _⟩
  · exact .base (.tup h)
  · exact .fTuple h
  · exact .kTuple hk hc
theorem less_ge {xs ys : List Int} (hx : NZ xs) (hy : NZ ys) (h : geL xs ys) : lessB xs ys = false := by
  rcases h with h | ⟨h, g⟩
  · have e := cmp_less hx hy
    have e2 : cmpI xs ys = 1 := by
      unfold cmpI
      rw [if_neg (fun z => by rw [z] at h; omega), if_neg (by omega), if_neg (by omega)]
    rw [e2] at e
    cases h2 : lessB xs ys with
    | false => rfl
    | true =>
      rw [h2] at e
      cases h3 : lessB ys xs <;> rw [h3] at e <;> simp [b2n] at e
  · rw [less_same h.symm]
    exact g
theorem less_not {xs ys : List Int} (hx : NZ xs) (hy : NZ ys) (h : ¬ geL xs ys) : lessB xs ys = true := by
  have e := cmp_ge.mpr h
  rw [cmp_less hx hy] at e
  cases h2 : lessB xs ys with
  | true => rfl
  | false =>
    rw [h2] at e
    cases h3 : lessB ys xs <;> rw [h3] at e <;> simp [b2n] at e
theorem subP_len (xs ys : List Int) : (subP xs ys).length ≤ xs.length := by
  unfold subP
  split
  · exact Nat.le_refl _
  · exact subS_len xs ys
theorem div_len (xs ys : List Int) : (divP xs ys).1.length ≤ xs.length + 1 ∧ (divP xs ys).2.length ≤ xs.length := by
  unfold divP
  split
  · exact ⟨Nat.zero_le _, Nat.le_refl _⟩
  · refine ⟨?_, ?_⟩
    · refine Nat.le_trans (stZ_len _) ?_
      rw [List.length_append, List.length_take]
      simp
    · refine Nat.le_trans (subP_len _ _) (Nat.le_trans (stZ_len _) ?_)
      rw [List.length_drop]
      omega
theorem scDif : FnScope ["first", "second", "result"] ["first", "second"] (defScope sDif) := ⟨rfl, rfl, rfl, by decide +kernel, rfl, by decide +kernel, by decide +kernel⟩
theorem scQuo : FnScope ["first", "second", "result"] ["first", "second"] (defScope sQuo) := ⟨rfl, rfl, rfl, by decide +kernel, rfl, by decide +kernel, by decide +kernel⟩
def spDif (K : PySem.W.Frag) : Sp := fun vs H Q _ => ∃ (a b : Addr) (as bs : List Int), vs = [.ref a, .ref b] ∧ SqT K H a (as.map V.int) ∧ SqT K H b (bs.map V.int) ∧ as.length ≤ 130 ∧ bs.length ≤ 130 ∧ NZ as ∧ NZ bs ∧ (∀ z ∈ bs, z.natAbs < 2 ^ 63) ∧ (∀ z ∈ as, z.natAbs < 2 ^ 200) ∧
  ∀ H', Same H H' → Q (.bl true) H'

theorem ok_dif {f fF fL fA fI : Addr} {fd dF dL dA dI : FuncData} {k : Nat} (F : Fun K "_law_difference_right" "_law_difference_right" sDif f fd) (mis : mg "isinstance" = none) (mtu : mg "tuple" = none)
    (GF : FnOk P w K mg base CX0 (k + 7) fF dF ["is_division", "first", "second"] (spFai K)) (kF : PySem.W.keepIn K (.ref fF) = true) (bF : Binds K dF ["is_division", "first", "second"] []) (gF : mg "_law_failure" = some (.ref fF))
    (GL : FnOk P w K mg base CX0 (k + 7) fL dL ["first", "second"] (spLes K)) (kL : PySem.W.keepIn K (.ref fL) = true) (bL : Binds K dL ["first", "second"] []) (gL : mg "_law_less" = some (.ref fL))
    (GA : FnOk P w K mg base CX0 (k + 7) fA dA ["first", "second"] (spAdd K)) (kA : PySem.W.keepIn K (.ref fA) = true) (bA : Binds K dA ["first", "second"] []) (gA : mg "_law_added" = some (.ref fA))
    (GI : FnG P w K mg base (k + 7) fI dI ["found", "expected"] (spIde K)) (kI : PySem.W.keepIn K (.ref fI) = true) (bI : Binds K dI ["found", "expected"] []) (gI : mg "_law_identical" = some (.ref fI)) :
    FnG P w K mg base (k + 8) f fd ["first", "second"] (spDif K) := by
  refine Fun_okG F scDif (fun vs H Q E h => ?_) (fun cdv A outer s H vs Q E hg hr h => ?_)
  · obtain ⟨a, b, as, bs, rfl, _⟩ := h
    rfl
  · obtain ⟨a, b, xs, ys, rfl, ha, hb, la, lb, nx, ny, hy, hx, q⟩ := h
    refine ⟨_, (pss_cons (ps_set (i := 2) scDif.nd rfl (.inl rfl) (pe_call GF hr (by rfl) gF kF bF .nil pass0 (pa_cons (pe_bl) (pa_cons (pv 0) (pa_cons (pv 1) pa_nil)))))
        (pss_cons (ps_if (pt_val (pe_call GL hr (by rfl) gL kL bL .nil pass0 (pa_cons (pv 0) (pa_cons (pv 1) pa_nil)))) (pss_one (ps_ret (pe_cmpR op_eq (pv 2) pe_str (nomark _)))) pss_nil)
        (pss_one (ps_ret (pe_and (pe_callB call_isi (by rfl) mis (by decide +kernel) (pa_cons (pv 2) (pa_cons (pe_bltn (v := .ty "tuple") (by rfl) mtu (by decide +kernel) rfl) pa_nil))) (pe_one (pe_g GI hg hr (by rfl) gI kI bI (pa_cons (pe_call GA hr (by rfl) gA kA bA .nil pass0 (pa_cons (pv 1) (pa_cons (pv 2) pa_nil))) (pa_cons (pv 0) pa_nil))))))))), ?_⟩
    refine ⟨_, rfl, _, rfl, false, a, b, xs, ys, rfl, ha, hb, by omega, by omega, nx, ny, hy, fun _ hg p H1 s1 t1 => ?_, fun _ hg H1 s1 => ?_, (fun z => nomatch z), (fun z => nomatch z)⟩
    · refine ⟨_, rfl, _, rfl, a, b, xs, ys, rfl, Same.seqT s1 ha, Same.seqT s1 hb, by omega, by omega, fun H2 s2 => ?_⟩
      rw [less_ge nx ny hg]
      refine ⟨_, rfl, iteF ⟨_, rfl, _, _, _, _, true, rfl, .ty "tuple", ty_tupl (Same.seqT s2 t1), kit_ty (by decide +kernel), true, rfl, iteT ?_⟩⟩
      have s12 := s1.trans s2
      refine ⟨_, rfl, _, rfl, b, p, ys, subP xs ys, rfl, Same.seqT s12 hb, Same.seqT s2 t1, by omega, by have := subP_len xs ys; omega, ny.hd, (sub_nz hg nx ny).hd, fun p3 H3 s3 t3 => ?_⟩
      rw [sub_back hg] at t3
      exact ⟨_, rfl, _, _, _, rfl, dp_tup t3, dp_tup (Same.seqT (s12.trans s3) ha), Shn.tup hx (by omega), q H3 (s12.trans s3)⟩
    · refine ⟨_, rfl, _, rfl, a, b, xs, ys, rfl, Same.seqT s1 ha, Same.seqT s1 hb, by omega, by omega, fun H2 s2 => ?_⟩
      rw [less_not nx ny hg]
      refine ⟨_, rfl, iteT ⟨_, rfl, rfl, ?_⟩⟩
      exact q H2 (s1.trans s2)

theorem ok_quo {f fF fL fA fP fI : Addr} {fd dF dL dA dP dI : FuncData} {k : Nat} (F : Fun K "_law_quotient_right" "_law_quotient_right" sQuo f fd) (mis : mg "isinstance" = none) (mtu : mg "tuple" = none) (ml : mg "len" = none)
    (GF : FnOk P w K mg base CX0 (k + 7) fF dF ["is_division", "first", "second"] (spFai K)) (kF : PySem.W.keepIn K (.ref fF) = true) (bF : Binds K dF ["is_division", "first", "second"] []) (gF : mg "_law_failure" = some (.ref fF))
    (GL : FnOk P w K mg base CX0 (k + 7) fL dL ["first", "second"] (spLes K)) (kL : PySem.W.keepIn K (.ref fL) = true) (bL : Binds K dL ["first", "second"] []) (gL : mg "_law_less" = some (.ref fL))
    (GA : FnOk P w K mg base CX0 (k + 7) fA dA ["first", "second"] (spAdd K)) (kA : PySem.W.keepIn K (.ref fA) = true) (bA : Binds K dA ["first", "second"] []) (gA : mg "_law_added" = some (.ref fA))
    (GP : FnOk P w K mg base CX0 (k + 7) fP dP ["first", "second"] (spPrd K)) (kP : PySem.W.keepIn K (.ref fP) = true) (bP : Binds K dP ["first", "second"] []) (gP : mg "_law_product" = some (.ref fP))
    (GI : FnG P w K mg base (k + 7) fI dI ["found", "expected"] (spIde K)) (kI : PySem.W.keepIn K (.ref fI) = true) (bI : Binds K dI ["found", "expected"] []) (gI : mg "_law_identical" = some (.ref fI)) :
    FnG P w K mg base (k + 8) f fd ["first", "second"] (spDif K) := by
  refine Fun_okG F scQuo (fun vs H Q E h => ?_) (fun cdv A outer s H vs Q E hg hr h => ?_)
  · obtain ⟨a, b, as, bs, rfl, _⟩ := h
    rfl
  · obtain ⟨a, b, xs, ys, rfl, ha, hb, la, lb, nx, ny, hy, hx, q⟩ := h
    refine ⟨_, (pss_cons (ps_set (i := 2) scQuo.nd rfl (.inl rfl) (pe_call GF hr (by rfl) gF kF bF .nil pass0 (pa_cons (pe_bl) (pa_cons (pv 0) (pa_cons (pv 1) pa_nil)))))
        (pss_cons (ps_if (pt_cmpR (op_eqD hr.units) (pv 1) (pe_tup pa_nil) (nomark _)) (pss_one (ps_ret (pe_cmpR op_eq (pv 2) pe_str (nomark _)))) pss_nil)
        (pss_cons (ps_if (PW.pt (pw_or (pt_not (pt_val (pe_callB call_isi (by rfl) mis (by decide +kernel) (pa_cons (pv 2) (pa_cons (pe_bltn (v := .ty "tuple") (by rfl) mtu (by decide +kernel) rfl) pa_nil))))) (pw_or (pt_cmpR op_ne (pe_callB call_len_seq (by rfl) ml PySem.boot_len (pa_cons (pv 2) pa_nil)) (pe_int) (nomark _)) (pw_or1 (pt_not (pt_val (pe_call GL hr (by rfl) gL kL bL .nil pass0 (pa_cons (pe_ix ix_tup (pv 2) (pe_int) (fun _ _ => rfl)) (pa_cons (pv 1) pa_nil))))))))) (pss_one (ps_ret (pe_bl))) pss_nil)
        (pss_one (ps_ret (pe_g GI hg hr (by rfl) gI kI bI (pa_cons (pe_call GA hr (by rfl) gA kA bA .nil pass0 (pa_cons (pe_call GP hr (by rfl) gP kP bP .nil pass0 (pa_cons (pv 1) (pa_cons (pe_ix ix_tup (pv 2) (pe_int) (fun _ _ => rfl)) pa_nil))) (pa_cons (pe_ix ix_tup (pv 2) (pe_int) (fun _ _ => rfl)) pa_nil))) (pa_cons (pv 0) pa_nil)))))))), ?_⟩
    refine ⟨_, rfl, _, rfl, true, a, b, xs, ys, rfl, ha, hb, by omega, by omega, nx, ny, hy, (fun z => nomatch z), (fun z => nomatch z), fun _ h0 p x y H1 s1 hp tx ty => ?_, fun _ h0 H1 s1 => ?_⟩
    · refine ⟨_, rfl, Nat.zero_le _, fun pe npe => ?_⟩
      have s2 := same_upd (o := .tup []) npe
      have s12 := s1.trans s2
      refine ⟨_, .tuple (([] : List Int).map PyData.int), dp_tup (Same.seqT s12 hb), .tup (.inl (.inl upd_same)) .nil, shaped_intsT _, shaped_intsT _, _, rfl, ?_⟩
      rw [eqvT, decide_eq_false h0]
      refine iteF ?_
      have hp2 := s2 _ _ hp
      have tp2 : SqT K (upd H1 pe (.tup [])) p [.ref x, .ref y] := .inl (.inl hp2)
      obtain ⟨dr, dl, dn, dm⟩ := div_right nx ny h0
      obtain ⟨l1, l2⟩ := div_len xs ys
      refine ⟨_, rfl, _, _, _, _, true, rfl, .ty "tuple", ty_tupl tp2, kit_ty (by decide +kernel), _, rfl, iteF ?_⟩
      refine ⟨_, rfl, p, _, rfl, .inr tp2, rfl, _, rfl, iteF ?_⟩
      refine ⟨_, rfl, p, _, 1, _, rfl, rfl, tp2, atI_nat (j := 1) rfl, _, rfl, y, b, _, ys, rfl, Same.seqT s2 ty, Same.seqT s12 hb, by omega, by omega, fun H3 s3 => ?_⟩
      rw [dl]
      refine ⟨_, rfl, iteF ?_⟩
      have s13 := s12.trans s3
      have s23 := s2.trans s3
      have tp3 := Same.seqT s3 tp2
      refine ⟨_, rfl, _, rfl, p, _, 0, _, rfl, rfl, tp3, atI_nat (j := 0) rfl, b, x, ys, _, rfl, Same.seqT s13 hb, Same.seqT s23 tx, by omega, by omega, ny, dn, hy, fun p4 H4 s4 t4 => ?_⟩
      have lm : (mulP ys (divP xs ys).1).length ≤ 300 := by
        have := mulP_len2 ys (divP xs ys).1
        omega
      have s24 := s23.trans s4
      refine ⟨_, rfl, p, _, 1, _, rfl, rfl, Same.seqT s4 tp3, atI_nat (j := 1) rfl, p4, y, _, _, rfl, t4, Same.seqT s24 ty, lm, by omega, (mulP_nz ny dn).hd, dm.hd, fun p5 H5 s5 t5 => ?_⟩
      rw [dr] at t5
      have s15 := (s13.trans s4).trans s5
      exact ⟨_, rfl, _, _, _, rfl, dp_tup t5, dp_tup (Same.seqT s15 ha), Shn.tup hx (by omega), q H5 s15⟩
    · refine ⟨_, rfl, Nat.zero_le _, fun pe npe => ?_⟩
      have s2 := same_upd (o := .tup []) npe
      have s12 := s1.trans s2
      refine ⟨_, .tuple (([] : List Int).map PyData.int), dp_tup (Same.seqT s12 hb), .tup (.inl (.inl upd_same)) .nil, shaped_intsT _, shaped_intsT _, _, rfl, ?_⟩
      rw [eqvT, decide_eq_true h0]
      refine iteT ⟨_, rfl, rfl, ?_⟩
      exact q _ s12

end
end Lim
set_option maxHeartbeats 2000000
namespace Lim
open PySem PySem.Spec PyProof.Rows L2
abbrev sLaw : Stmt := topS 30
section
variable {P : Program} {w : World} {K : PySem.W.Frag} {mg : Str → Option Value} {base : Heap}
abbrev nLaw : List Str := ["script", "source", "turn", "most", "sizes", "one", "other", "third", "pairs", "first", "second", "index", "size"]
theorem scLaw : FnScope nLaw ["script"] (defScope sLaw) := ⟨rfl, rfl, rfl, by decide +kernel, rfl, by decide +kernel, by decide +kernel⟩
def spLaw (K : PySem.W.Frag) : Sp := fun vs H Q _ => ∃ (a : Addr) (ns : List Int), vs = [.ref a] ∧ SqL K H a (ns.map V.int) ∧ ns.length ≤ 63 ∧ ∀ H', Q (.bl true) H'
structure Calls (P : Program) (w : World) (K : PySem.W.Frag) (mg : Str → Option Value) (base : Heap) (k : Nat) : Prop where
  drw : ∃ f fd, FnOk P w K mg base CX0 k f fd ["script"] (spDrw K) ∧ mg "_law_draws" = some (.ref f) ∧ PySem.W.keepIn K (.ref f) = true ∧ Binds K fd ["script"] []
  nxt : ∃ f fd, FnOk P w K mg base CX0 k f fd ["source", "bound"] spNxt ∧ mg "_law_next" = some (.ref f) ∧ PySem.W.keepIn K (.ref f) = true ∧ Binds K fd ["source", "bound"] []
  cho : ∃ f fd, FnOk P w K mg base CX0 k f fd ["source", "items"] (spCho K) ∧ mg "_law_choose" = some (.ref f) ∧ PySem.W.keepIn K (.ref f) = true ∧ Binds K fd ["source", "items"] []
  rnd : ∃ f fd, FnOk P w K mg base CX0 k f fd ["source", "degrees", "most"] (spRnd K) ∧ mg "_law_random_ordinal" = some (.ref f) ∧ PySem.W.keepIn K (.ref f) = true ∧ Binds K fd ["source", "degrees", "most"] []
  add : ∃ f fd, FnOk P w K mg base CX0 k f fd ["first", "second"] (spAdd K) ∧ mg "_law_added" = some (.ref f) ∧ PySem.W.keepIn K (.ref f) = true ∧ Binds K fd ["first", "second"] []
  prd : ∃ f fd, FnOk P w K mg base CX0 k f fd ["first", "second"] (spPrd K) ∧ mg "_law_product" = some (.ref f) ∧ PySem.W.keepIn K (.ref f) = true ∧ Binds K fd ["first", "second"] []
  dif : ∃ f fd, FnG P w K mg base k f fd ["first", "second"] (spDif K) ∧ mg "_law_difference_right" = some (.ref f) ∧ PySem.W.keepIn K (.ref f) = true ∧ Binds K fd ["first", "second"] []
  quo : ∃ f fd, FnG P w K mg base k f fd ["first", "second"] (spDif K) ∧ mg "_law_quotient_right" = some (.ref f) ∧ PySem.W.keepIn K (.ref f) = true ∧ Binds K fd ["first", "second"] []
  range : mg "range" = none
/-- an ordinal that the law may hold -/
structure Od (K : PySem.W.Frag) (H : Hp) (v : V) (zs : List Int) : Prop where
  at_ : ∃ p, v = .ref p ∧ SqT K H p (zs.map V.int)
  nz : NZ zs
  le : ∀ z ∈ zs, z.natAbs ≤ 100000000
  len : zs.length ≤ 31
theorem Od.same {H H' : Hp} {v : V} {zs : List Int} (h : Od K H v zs) (s : Same H H') : Od K H' v zs := by
  obtain ⟨⟨p, e, t⟩, h2, h3, h4⟩ := h
  exact ⟨⟨p, e, Same.seqT s t⟩, h2, h3, h4⟩
theorem Od.stp {H H' : Hp} {v : V} {zs : List Int} {a n : Addr} (h : Od K H v zs) (hs : Src H a n) (s : Stp a n H H') : Od K H' v zs := by
  obtain ⟨⟨p, e, t⟩, h2, h3, h4⟩ := h
  exact ⟨⟨p, e, s.tup hs t⟩, h2, h3, h4⟩
theorem seqT_updL {H : Hp} {p : Addr} {ys : List V} {D : Addr} {xs : List V} {o : HO} (t : SqT K H p ys) (hD : H D = some (.lst xs)) : SqT K (upd H D o) p ys := by
  rcases t with (t | ⟨o', t⟩) | t
  · have np : p ≠ D := fun e => by
      rw [e, hD] at t
      cases t
    exact .inl (.inl (by rw [upd_ne np]; exact t))
  · have np : p ≠ D := fun e => by
      rw [e, hD] at t
      cases t
    exact .inl (.inr ⟨o', by rw [upd_ne np]; exact t⟩)
  · exact .inr t
theorem Od.updL {H : Hp} {v : V} {zs : List Int} {D : Addr} {xs : List V} {o : HO} (h : Od K H v zs) (hD : H D = some (.lst xs)) : Od K (upd H D o) v zs := by
  obtain ⟨⟨p, e, t⟩, h2, h3, h4⟩ := h
  exact ⟨⟨p, e, seqT_updL t hD⟩, h2, h3, h4⟩
theorem od_nil {H : Hp} {p : Addr} (h : H p = some (.tup [])) : Od K H (.ref p) [] := ⟨⟨p, rfl, .inl (.inl h)⟩, ⟨by simp, by simp⟩, by simp, by simp⟩
/-- what is subtracted from, or divided -/
structure Big (K : PySem.W.Frag) (H : Hp) (v : V) (zs : List Int) : Prop where
  at_ : ∃ p, v = .ref p ∧ SqT K H p (zs.map V.int)
  nz : NZ zs
  le : ∀ z ∈ zs, z.natAbs < 2 ^ 200
  len : zs.length ≤ 130
theorem Od.big {H : Hp} {v : V} {zs : List Int} (h : Od K H v zs) : Big K H v zs := ⟨h.at_, h.nz, fun z hz => by have := h.le z hz; omega, by have := h.len; omega⟩
theorem Big.same {H H' : Hp} {v : V} {zs : List Int} (h : Big K H v zs) (s : Same H H') : Big K H' v zs := by
  obtain ⟨⟨p, e, t⟩, h2, h3, h4⟩ := h
  exact ⟨⟨p, e, Same.seqT s t⟩, h2, h3, h4⟩
theorem Big.stp {H H' : Hp} {v : V} {zs : List Int} {a n : Addr} (h : Big K H v zs) (hs : Src H a n) (s : Stp a n H H') : Big K H' v zs := by
  obtain ⟨⟨p, e, t⟩, h2, h3, h4⟩ := h
  exact ⟨⟨p, e, s.tup hs t⟩, h2, h3, h4⟩
theorem Big.updL {H : Hp} {v : V} {zs : List Int} {D : Addr} {xs : List V} {o : HO} (h : Big K H v zs) (hD : H D = some (.lst xs)) : Big K (upd H D o) v zs := by
  obtain ⟨⟨p, e, t⟩, h2, h3, h4⟩ := h
  exact ⟨⟨p, e, seqT_updL t hD⟩, h2, h3, h4⟩
/-- a pair of such -/
def PairO (K : PySem.W.Frag) (H : Hp) (v : V) : Prop := ∃ T x y zs ks, v = .ref T ∧ SqT K H T [x, y] ∧ Big K H x zs ∧ Od K H y ks
theorem PairO.same {H H' : Hp} {v : V} (h : PairO K H v) (s : Same H H') : PairO K H' v := by
  obtain ⟨T, x, y, zs, ks, e, t, o1, o2⟩ := h
  exact ⟨T, x, y, zs, ks, e, Same.seqT s t, o1.same s, o2.same s⟩
theorem PairO.stp {H H' : Hp} {v : V} {a n : Addr} (h : PairO K H v) (hs : Src H a n) (s : Stp a n H H') : PairO K H' v := by
  obtain ⟨T, x, y, zs, ks, e, t, o1, o2⟩ := h
  exact ⟨T, x, y, zs, ks, e, s.tup hs t, o1.stp hs s, o2.stp hs s⟩
theorem PairO.updL {H : Hp} {v : V} {D : Addr} {xs : List V} {o : HO} (h : PairO K H v) (hD : H D = some (.lst xs)) : PairO K (upd H D o) v := by
  obtain ⟨T, x, y, zs, ks, e, t, o1, o2⟩ := h
  exact ⟨T, x, y, zs, ks, e, seqT_updL t hD, o1.updL hD, o2.updL hD⟩
theorem mulP_mem {xs ys : List Int} {z : Int} (h : z ∈ mulP xs ys) : z = 0 ∨ z ∈ xs ∨ z ∈ ys ∨ ∃ x y, x ∈ xs ∧ y ∈ ys ∧ z = x * y := by
  unfold mulP at h
  split at h
  · cases h
  · rename_i hn
    split at h
    · rcases List.mem_append.mp h with h | h
      · exact .inr (.inr (.inl ((List.dropLast_sublist ys).subset h)))
      · exact .inl (List.eq_of_mem_replicate h)
    · rcases List.mem_append.mp h with h | h
      · exact .inr (.inr (.inl ((List.dropLast_sublist ys).subset h)))
      · rcases List.mem_cons.mp h with h | h
        · cases xs with
          | nil => exact absurd (.inl rfl) hn
          | cons x r =>
            have hy : ys ≠ [] := fun e => hn (.inr e)
            refine .inr (.inr (.inr ⟨x, ys.getLast hy, List.mem_cons_self .., List.getLast_mem hy, ?_⟩))
            rw [h, List.getLastD_eq_getLast?, List.getLast?_eq_getLast hy]
            rfl
        · exact .inr (.inl (List.mem_of_mem_tail h))
theorem mul_le {xs ys : List Int} (hx : ∀ z ∈ xs, z.natAbs ≤ 100000000) (hy : ∀ z ∈ ys, z.natAbs ≤ 100000000) : ∀ z ∈ mulP xs ys, z.natAbs ≤ 2 ^ 60 := fun z hz => by
  rcases mulP_mem hz with h | h | h | ⟨x, y, h1, h2, rfl⟩
  · rw [h]
    decide
  · have := hx z h
    omega
  · have := hy z h
    omega
  · have a1 := hx x h1
    have a2 := hy y h2
    rw [Int.natAbs_mul]
    exact Nat.le_trans (Nat.mul_le_mul a1 a2) (by decide)
theorem add_lt {xs ys : List Int} (hx : ∀ z ∈ xs, z.natAbs ≤ 2 ^ 60) (hy : ∀ z ∈ ys, z.natAbs ≤ 100000000) : ∀ z ∈ addP xs ys, z.natAbs < 2 ^ 200 := fun z hz => by
  rcases addP_mem hz with h | h | ⟨x, y, h1, h2, rfl⟩
  · have := hx z h
    omega
  · have := hy z h
    omega
  · have := hx x h1
    have := hy y h2
    omega
theorem rnd_od {d m : Int} {zs : List Int} (o : Ordn d m zs) (hm : m ≤ 100000000) (hd : d ≤ 31) : NZ zs ∧ (∀ z ∈ zs, z.natAbs ≤ 100000000) ∧ zs.length ≤ 31 := by
  refine ⟨⟨o.nn, o.hd⟩, fun z hz => ?_, ?_⟩
  · have h1 := o.nn z hz
    have h2 := o.le z hz
    omega
  · have := o.len
    omega
def Siz (v : V) : Prop := ∃ d : Int, v = .int d ∧ 0 ≤ d ∧ d ≤ 31
theorem ok_law {f : Addr} {fd : FuncData} {k : Nat} (F : Fun K "law" "law" sLaw f fd) (C : Calls P w K mg base k) : FnG P w K mg base (k + 1) f fd ["script"] (spLaw K) := by
  obtain ⟨fD, dD, GD, gD, kD, bD⟩ := C.drw
  obtain ⟨fN, dN, GN, gN, kN, bN⟩ := C.nxt
  obtain ⟨fC, dC, GC, gC, kC, bC⟩ := C.cho
  obtain ⟨fR, dR, GR, gR, kR, bR⟩ := C.rnd
  obtain ⟨fA, dA, GA, gA, kA, bA⟩ := C.add
  obtain ⟨fP, dP, GP, gP, kP, bP⟩ := C.prd
  obtain ⟨fU, dU, GU, gU, kU, bU⟩ := C.dif
  obtain ⟨fV, dV, GV, gV, kV, bV⟩ := C.quo
  have mr := C.range
  refine Fun_okG F scLaw (fun vs H Q E h => ?_) (fun cdv B below s H vs Q E hg hr h => ?_)
  · obtain ⟨a, ns, rfl, _⟩ := h
    rfl
  · obtain ⟨a, ns, rfl, hS, hlen, q⟩ := h
    refine ⟨_, (pss_cons (ps_set (i := 1) scLaw.nd rfl (.inr rfl) (pe_call GD hr (by rfl) gD kD bD .nil pass0 (pa_cons (pv 0) pa_nil)))
        (pss_cons (ps_for PassesOwn.never rfl (pi_range1 rfl mr (pa_cons pe_int pa_nil)) (pg_name (i := 2) scLaw.nd rfl (.inl rfl)) (pss_cons (ps_set (i := 3) scLaw.nd rfl (.inr rfl) (pe_call GC hr (by rfl) gC kC bC .nil pass0 (pa_cons (pv 1) (pa_cons (pe_lst (pa_cons (pe_int) (pa_cons (pe_int) (pa_cons (pe_op op_pow (pe_int) (pe_int)) pa_nil)))) pa_nil))))
        (pss_cons (ps_setLc (i := 4) (own := [("index", 11)]) (g := gName 11) (tt := tYes) (by rfl) scLaw.nd rfl rfl (sw_true rfl rfl rfl (by decide +kernel)) (pi_range1 rfl mr (pa_cons pe_int pa_nil)) (blkOk_by (N := nLaw) (sc := defScope sLaw) (by decide +kernel)) (fun _ _ _ _ _ => pg_name (i := 11) scLaw.nd rfl (.inl rfl)) (fun _ _ _ _ _ => pts_nil) (fun _ _ _ _ _ => pe_call GC hr (by rfl) gC kC bC .nil pass0 (pa_cons (pv 1) (pa_cons (pe_lst (pa_cons (pe_int) (pa_cons (pe_int) (pa_cons (pe_int) (pa_cons (pe_int) pa_nil))))) pa_nil))))
        (C8.pss_cut (ps_asg (pe_lc (own := [("size", 12)]) (g := gName 12) (tt := tYes) (by rfl) scLaw.nd (pi_list (pv 4)) (blkOk_by (N := nLaw) (sc := defScope sLaw) (by decide +kernel)) (fun _ _ _ _ _ => pg_name (i := 12) scLaw.nd rfl (.inl rfl)) (fun _ _ _ _ _ => pts_nil) (fun _ _ _ _ _ => pe_call GR hr (by rfl) gR kR bR .nil pass0 (pa_cons (pv 1) (pa_cons (pv 12) (pa_cons (pv 3) pa_nil))))) (pg_lst rfl (pgs_cons (pg_name (i := 5) scLaw.nd rfl (.inl rfl)) (pgs_cons (pg_name (i := 6) scLaw.nd rfl (.inl rfl)) (pgs_cons (pg_name (i := 7) scLaw.nd rfl (.inl rfl)) pgs_nil)))))
        (C8.pss_cut (ps_set (i := 8) scLaw.nd rfl (.inl rfl) (pe_lst (pa_cons (pe_tup (pa_cons (pv 5) (pa_cons (pv 6) pa_nil))) (pa_cons (pe_tup (pa_cons (pv 6) (pa_cons (pv 5) pa_nil))) (pa_cons (pe_tup (pa_cons (pv 5) (pa_cons (pv 5) pa_nil))) (pa_cons (pe_tup (pa_cons (pv 5) (pa_cons (pe_tup pa_nil) pa_nil))) (pa_cons (pe_tup (pa_cons (pe_tup pa_nil) (pa_cons (pv 5) pa_nil))) (pa_cons (pe_tup (pa_cons (pe_call GA hr (by rfl) gA kA bA .nil pass0 (pa_cons (pv 5) (pa_cons (pv 6) pa_nil))) (pa_cons (pv 5) pa_nil))) pa_nil))))))))
        (C8.pss_cut (ps_set (i := 8) scLaw.nd rfl (.inl rfl) (pe_op op_cat (pv 8) (pe_lst (pa_cons (pe_tup (pa_cons (pe_call GA hr (by rfl) gA kA bA .nil pass0 (pa_cons (pe_call GP hr (by rfl) gP kP bP .nil pass0 (pa_cons (pv 5) (pa_cons (pv 6) pa_nil))) (pa_cons (pv 7) pa_nil))) (pa_cons (pv 5) pa_nil))) (pa_cons (pe_tup (pa_cons (pe_call GP hr (by rfl) gP kP bP .nil pass0 (pa_cons (pv 5) (pa_cons (pv 6) pa_nil))) (pa_cons (pv 5) pa_nil))) pa_nil)))))
        (C8.pss_cut (ps_expr (pe_bm PySem.F.plainAttrs_list PySem.F.slot_list_append PySem.F.type_list_append mt_append (pv 8) (pa_cons (pe_tup (pa_cons (pe_call GP hr (by rfl) gP kP bP .nil pass0 (pa_cons (pv 5) (pa_cons (pe_tup (pa_cons (pe_op op_add (pe_int) (pe_call GN hr (by rfl) gN kN bN .nil pass0 (pa_cons (pv 1) (pa_cons (pe_op op_pow (pe_int) (pe_int)) pa_nil)))) pa_nil)) pa_nil))) (pa_cons (pv 5) pa_nil))) pa_nil)))
        (pss_one (ps_for PassesOwn.never rfl (pi_list (pv 8)) (pg_tup rfl (pgs_cons (pg_name (i := 9) scLaw.nd rfl (.inl rfl)) (pgs_cons (pg_name (i := 10) scLaw.nd rfl (.inl rfl)) pgs_nil))) (pss_one (ps_if (PW.pt (pw_or (pt_not (pt_val (pe_g GU hg hr (by rfl) gU kU bU (pa_cons (pv 9) (pa_cons (pv 10) pa_nil))))) (pw_or1 (pt_not (pt_val (pe_g GV hg hr (by rfl) gV kV bV (pa_cons (pv 9) (pa_cons (pv 10) pa_nil)))))))) (pss_one (ps_ret (pe_bl))) pss_nil)))))))))))
        (pss_one (ps_ret (pe_bl))))), ?_⟩
    have two : 2 ≤ sizeLine := by show 2 ≤ sizeLine; decide
    have six : 6 ≤ sizeLine := by show 6 ≤ sizeLine; decide
    refine ⟨_, rfl, a, ns, rfl, hS, hlen, fun H0 src n sm0 nsrc nn hsrc => ?_⟩
    refine ⟨8, rfl, by decide, by decide, for_range (n := 8) (fun t σ H' => ∃ y2 y3 y4 y5 y6 y7 y8 y9 y10 y11 y12 : Option V, σ = [some (.ref a), some (.ref src), y2, y3, y4, y5, y6, y7, y8, y9, y10, y11, y12] ∧ Src H' src n) ⟨_, _, _, _, _, _, _, _, _, _, _, rfl, hsrc⟩ ?_ ?_⟩
    · rintro t σ H1 ht ⟨y2, y3, y4, y5, y6, y7, y8, y9, y10, y11, y12, rfl, hs⟩
      -- most
      refine ⟨_, rfl, _, _, rfl, rfl, ⟨by decide, by decide, by decide⟩, by show 3 ≤ sizeLine; decide, fun p np => ⟨src, n, p, _, rfl, hs.same (same_upd np), .inl (.inl upd_same), hs.has np, by simp, by simp, fun v H2 hv s2 => ?_⟩⟩
      obtain ⟨m, rfl, hm0, hm1⟩ : ∃ m : Int, v = .int m ∧ 0 ≤ m ∧ m ≤ 100000000 := by
        simp at hv
        rcases hv with rfl | rfl | rfl
        · exact ⟨1, rfl, by decide, by decide⟩
        · exact ⟨3, rfl, by decide, by decide⟩
        · exact ⟨_, rfl, by decide, by decide⟩
      have hs2 := s2.1
      -- sizes
      refine ⟨3, rfl, by decide, by decide, fun D nD => ?_⟩
      have hDs : D ≠ src := hs2.has nD
      refine lc_range (n := 3) (fun i H' => ∃ vs : List V, Stp src n H2 H' ∧ H' D = some (.lst vs) ∧ vs.length = i ∧ ∀ v ∈ vs, Siz v) ?_ ?_ ?_
      · exact ⟨[], .of hs2 (same_upd nD), upd_same, rfl, by simp⟩
      · rintro i H3 hi ⟨vs, s3, hD, hl, hv⟩
        refine ⟨rfl, _, rfl, by show 4 ≤ sizeLine; decide, fun p1 np1 => ⟨src, n, p1, _, rfl, s3.1.same (same_upd np1), .inl (.inl upd_same), s3.1.has np1, by simp, by simp, fun v1 H4 hv1 s4 => ?_⟩⟩
        have e4 := same_upd (o := .lst [.int 1, .int 3, .int 6, .int 31]) np1
        have hz : Siz v1 := by
          simp at hv1
          rcases hv1 with rfl | rfl | rfl | rfl
          · exact ⟨1, rfl, by decide, by decide⟩
          · exact ⟨3, rfl, by decide, by decide⟩
          · exact ⟨6, rfl, by decide, by decide⟩
          · exact ⟨31, rfl, by decide, by decide⟩
        have hD4 : H4 D = some (.lst vs) := s4.2 _ _ (e4 _ _ hD) hDs
        refine ⟨vs, hD4, by rw [hl]; exact small1000 (by omega), vs ++ [v1], ((s3.then e4).trans s4).upd hs2 nD, upd_same, by rw [List.length_append, hl]; rfl, fun v hv' => ?_⟩
        rcases List.mem_append.mp hv' with h | h
        · exact hv v h
        · rw [List.mem_singleton.mp h]
          exact hz
      · rintro H3 ⟨vs, s3, hD, hl, hv⟩
        have hs3 := s3.1
        -- one, other, third
        refine ⟨fun σ H' => ∃ v0 v1 v2 z0 z1 z2, σ = [some (.ref a), some (.ref src), some (.int (0 + (t : Int))), some (.int m), some (.ref D), some v0, some v1, some v2, y8, y9, y10, y11, y12] ∧ Src H' src n ∧ Od K H' v0 z0 ∧ Od K H' v1 z1 ∧ Od K H' v2 z2, ?_, ?_⟩
        · refine ⟨_, rfl, D, rfl, ⟨_, .inl (.inl hD)⟩, fun L nL => ?_⟩
          have hLs : L ≠ src := hs3.has nL
          have hDL : D ≠ L := fun e => by
            rw [e, nL] at hD
            cases hD
          refine lc_list (K := K) (a := D) (xs := vs) (fun i H' => ∃ us : List V, Stp src n H3 H' ∧ H' L = some (.lst us) ∧ us.length = i ∧ ∀ v ∈ us, ∃ zs, Od K H' v zs) ?_ ?_ ?_ ?_
          · exact ⟨[], .of hs3 (same_upd nL), upd_same, rfl, by simp⟩
          · rintro i H4 _ ⟨us, s4, _⟩
            exact .inl (.inl (s4.2 _ _ hD hDs))
          · rintro i x H4 hx ⟨us, s4, hL, hul, hu⟩
            obtain ⟨d, rfl, hd0, hd1⟩ := hv x (List.mem_of_getElem? hx)
            refine ⟨rfl, _, rfl, _, rfl, _, rfl, src, n, d, m, rfl, s4.1, hd0, by omega, hm0, by omega, fun q1 H5 zs s5 t5 o5 => ?_⟩
            have hL5 : H5 L = some (.lst us) := s5.2 _ _ hL hLs
            obtain ⟨w1, w2, w3⟩ := rnd_od o5 hm1 hd1
            have oz : Od K H5 (.ref q1) zs := ⟨⟨q1, rfl, t5⟩, w1, w2, w3⟩
            have i3 : i < 3 := by
              have := (List.getElem?_eq_some_iff.mp hx).1
              omega
            refine ⟨us, hL5, by rw [hul]; exact small1000 (by omega), us ++ [.ref q1], (s4.trans s5).upd hs3 nL, upd_same, by rw [List.length_append, hul]; rfl, fun v hv' => ?_⟩
            rcases List.mem_append.mp hv' with h | h
            · obtain ⟨ks, ok⟩ := hu v h
              exact ⟨ks, (ok.stp s4.1 s5).updL hL5⟩
            · rw [List.mem_singleton.mp h]
              exact ⟨zs, oz.updL hL5⟩
          · rintro H4 ⟨us, s4, hL, hul, hu⟩
            rw [hl] at hul
            obtain ⟨v0, v1, v2, rfl⟩ : ∃ v0 v1 v2, us = [v0, v1, v2] := by
              match us, hul with
              | [v0, v1, v2], _ => exact ⟨v0, v1, v2, rfl⟩
            obtain ⟨z0, o0⟩ := hu v0 (by simp)
            obtain ⟨z1, o1⟩ := hu v1 (by simp)
            obtain ⟨z2, o2⟩ := hu v2 (by simp)
            exact ⟨L, _, rfl, .inl (.inl hL), rfl, _, _, rfl, _, _, rfl, _, _, rfl, rfl, _, _, _, _, _, _, rfl, s4.1, o0, o1, o2⟩
        · clear hv hl hD
          rintro σ H6 ⟨v0, v1, v2, z0, z1, z2, rfl, hs6, o0, o1, o2⟩
          obtain ⟨q0, e0, _⟩ := o0.at_
          obtain ⟨q1, e1, _⟩ := o1.at_
          obtain ⟨q2, e2, _⟩ := o2.at_
          subst e0 e1 e2
          have l0 := o0.len
          have l1 := o1.len
          have l2 := o2.len
          have T0 : ∀ {H : Hp}, Od K H (.ref q0) z0 → SqT K H q0 (z0.map V.int) := fun o => by
            obtain ⟨p, e, t⟩ := o.at_
            cases e
            exact t
          have T1 : ∀ {H : Hp}, Od K H (.ref q1) z1 → SqT K H q1 (z1.map V.int) := fun o => by
            obtain ⟨p, e, t⟩ := o.at_
            cases e
            exact t
          have T2 : ∀ {H : Hp}, Od K H (.ref q2) z2 → SqT K H q2 (z2.map V.int) := fun o => by
            obtain ⟨p, e, t⟩ := o.at_
            cases e
            exact t
          have b63 : ∀ z ∈ z0, z.natAbs < 2 ^ 63 := fun z hz => by
            have := o0.le z hz
            omega
          have nz0 := o0.nz
          have nz1 := o1.nz
          have nz2 := o2.nz
          have le0 := o0.le
          have le1 := o1.le
          have le2 := o2.le
          -- the first pairs
          refine ⟨fun σ H' => ∃ (l : Addr) (us : List V), σ = [some (.ref a), some (.ref src), some (.int (0 + (t : Int))), some (.int m), some (.ref D), some (.ref q0), some (.ref q1), some (.ref q2), some (.ref l), y9, y10, y11, y12] ∧ Same H6 H' ∧ H' l = some (.lst us) ∧ H6 l = none ∧ us.length ≤ 6 ∧ ∀ v ∈ us, PairO K H' v, ?_, ?_⟩
          · refine ⟨_, rfl, _, rfl, two, fun a1 n1 => ⟨_, rfl, _, rfl, two, fun a2 n2 => ⟨_, rfl, _, rfl, two, fun a3 n3 => ⟨_, rfl, Nat.zero_le _, fun e4 ne4 => ⟨two, fun a4 n4 => ⟨Nat.zero_le _, fun e5 ne5 => ⟨_, rfl, two, fun a5 n5 => ?_⟩⟩⟩⟩⟩⟩⟩
            have f1 := same_upd (o := .tup [.ref q0, .ref q1]) n1
            have f2 := same_upd (o := .tup [.ref q1, .ref q0]) n2
            have f3 := same_upd (o := .tup [.ref q0, .ref q0]) n3
            have g4 := same_upd (o := .tup []) ne4
            have f4 := same_upd (o := .tup [.ref q0, .ref e4]) n4
            have g5 := same_upd (o := .tup []) ne5
            have f5 := same_upd (o := .tup [.ref e5, .ref q0]) n5
            have k5 := f5
            have k4 := (f4.trans g5).trans k5
            have k3 := (f3.trans g4).trans k4
            have k2 := f2.trans k3
            have k1 := f1.trans k2
            refine ⟨_, rfl, _, rfl, q0, q1, z0, z1, rfl, T0 (o0.same k1), T1 (o1.same k1), by omega, by omega, nz0.hd, nz1.hd, fun p6 H7 s7 t7 => ⟨_, rfl, two, fun a6 n6 => ⟨six, fun l nl => ?_⟩⟩⟩
            have f6 := same_upd (o := .tup [.ref p6, .ref q0]) n6
            have fl := same_upd (o := .lst [.ref a1, .ref a2, .ref a3, .ref a4, .ref a5, .ref a6]) nl
            have c7 := s7.trans (f6.trans fl)
            refine ⟨l, _, rfl, k1.trans c7, upd_same, ((k1.trans s7).trans f6).free nl, by simp, ?_⟩
            intro v hv
            have p0 := o0.same (k1.trans c7)
            have p1 := o1.same (k1.trans c7)
            simp at hv
            rcases hv with rfl | rfl | rfl | rfl | rfl | rfl
            · exact ⟨a1, _, _, z0, z1, rfl, .inl (.inl ((k2.trans c7) _ _ upd_same)), p0.big, p1⟩
            · exact ⟨a2, _, _, z1, z0, rfl, .inl (.inl ((k3.trans c7) _ _ upd_same)), p1.big, p0⟩
            · exact ⟨a3, _, _, z0, z0, rfl, .inl (.inl (((g4.trans k4).trans c7) _ _ upd_same)), p0.big, p0⟩
            · exact ⟨a4, _, _, z0, [], rfl, .inl (.inl (((g5.trans k5).trans c7) _ _ upd_same)), p0.big, od_nil ((k4.trans c7) _ _ upd_same)⟩
            · exact ⟨a5, _, _, [], z0, rfl, .inl (.inl (c7 _ _ upd_same)), (od_nil ((k5.trans c7) _ _ upd_same)).big, p0⟩
            · refine ⟨a6, _, _, addP z0 z1, z0, rfl, .inl (.inl (fl _ _ upd_same)), ⟨⟨p6, rfl, Same.seqT (f6.trans fl) t7⟩, addP_nz nz0 nz1, ?_, ?_⟩, p0⟩
              · exact add_lt (fun z hz => Nat.le_trans (le0 z hz) (by decide)) le1
              · have := addP_len z0 z1
                omega
          · rintro σ H7 ⟨l, us, rfl, s67, hl7, hl6, hul, hus⟩
            have hs7 := hs6.same s67
            have o0 := o0.same s67
            have o1 := o1.same s67
            have o2 := o2.same s67
            have lm := mulP_len2 z0 z1
            -- two more
            refine ⟨fun σ H' => ∃ (l : Addr) (us : List V), σ = [some (.ref a), some (.ref src), some (.int (0 + (t : Int))), some (.int m), some (.ref D), some (.ref q0), some (.ref q1), some (.ref q2), some (.ref l), y9, y10, y11, y12] ∧ Same H7 H' ∧ H' l = some (.lst us) ∧ H6 l = none ∧ us.length ≤ 8 ∧ ∀ v ∈ us, PairO K H' v, ?_, ?_⟩
            · refine ⟨_, rfl, _, rfl, _, rfl, q0, q1, z0, z1, rfl, T0 o0, T1 o1, by omega, by omega, nz0, nz1, b63, fun p1 H8 s8 t8 => ?_⟩
              refine ⟨_, rfl, p1, q2, _, z2, rfl, t8, T2 (o2.same s8), by omega, by omega, (mulP_nz nz0 nz1).hd, nz2.hd, fun p2 H9 s9 t9 => ⟨_, rfl, two, fun a1 n1 => ?_⟩⟩
              have f1 := same_upd (o := .tup [.ref p2, .ref q0]) n1
              have k9 := (s8.trans s9).trans f1
              refine ⟨_, rfl, _, rfl, q0, q1, z0, z1, rfl, T0 (o0.same k9), T1 (o1.same k9), by omega, by omega, nz0, nz1, b63, fun p3 H10 s10 t10 => ⟨_, rfl, two, fun a2 n2 => ⟨two, fun l2 nl2 => ?_⟩⟩⟩
              have f2 := same_upd (o := .tup [.ref p3, .ref q0]) n2
              have f3 := same_upd (o := .lst [.ref a1, .ref a2]) nl2
              have k11 := s10.trans (f2.trans f3)
              have k12 := k9.trans k11
              refine ⟨l, l2, us, _, rfl, rfl, k12 _ _ hl7, upd_same, size_ok (by simp; omega), fun l3 nl3 => ?_⟩
              have f4 := same_upd (o := .lst (us ++ [.ref a1, .ref a2])) nl3
              have k13 := k12.trans f4
              refine ⟨l3, _, rfl, k13, upd_same, (s67.trans k12).free nl3, by simp; omega, fun v hv => ?_⟩
              rcases List.mem_append.mp hv with hv | hv
              · exact (hus v hv).same k13
              · have p0 := o0.same k13
                simp at hv
                rcases hv with rfl | rfl
                · refine ⟨a1, _, _, addP (mulP z0 z1) z2, z0, rfl, .inl (.inl ((k11.trans f4) _ _ upd_same)), ⟨⟨p2, rfl, Same.seqT ((f1.trans k11).trans f4) t9⟩, addP_nz (mulP_nz nz0 nz1) nz2, add_lt (mul_le le0 le1) le2, ?_⟩, p0⟩
                  have := addP_len (mulP z0 z1) z2
                  omega
                · refine ⟨a2, _, _, mulP z0 z1, z0, rfl, .inl (.inl ((f3.trans f4) _ _ upd_same)), ⟨⟨p3, rfl, Same.seqT ((f2.trans f3).trans f4) t10⟩, mulP_nz nz0 nz1, fun z hz => ?_, by omega⟩, p0⟩
                  exact Nat.lt_of_le_of_lt (mul_le le0 le1 z hz) (by decide)
            · clear hus
              rintro σ H8 ⟨l, us, rfl, s78, hl8, hl6, hul, hus⟩
              have hs8 := hs7.same s78
              have o0 := o0.same s78
              -- the last
              refine ⟨fun σ H' => ∃ us : List V, σ = [some (.ref a), some (.ref src), some (.int (0 + (t : Int))), some (.int m), some (.ref D), some (.ref q0), some (.ref q1), some (.ref q2), some (.ref l), y9, y10, y11, y12] ∧ Src H' src n ∧ H' l = some (.lst us) ∧ ∀ v ∈ us, PairO K H' v, ?_, ?_⟩
              · refine ⟨_, rfl, .inl ⟨rfl, _, .inl (.inl hl8)⟩, _, rfl, _, rfl, _, _, rfl, rfl, ⟨by decide, by decide, by decide⟩, src, n, _, rfl, hs8, by decide, by decide, fun c H9 hc0 hc1 s9 => ⟨_, _, rfl, rfl, by show 1 ≤ sizeLine; decide, fun p1 np1 => ?_⟩⟩
                have hc2 : c < 100000000 := hc1
                have f1 := same_upd (o := .tup [.int (1 + c)]) np1
                have o9 := (o0.stp hs8 s9).same f1
                have oc : Od K (upd H9 p1 (.tup [.int (1 + c)])) (.ref p1) [1 + c] := ⟨⟨p1, rfl, .inl (.inl upd_same)⟩, ⟨fun z hz => by rw [List.mem_singleton.mp hz]; omega, fun z => by have := Option.some.inj z; omega⟩, fun z hz => by rw [List.mem_singleton.mp hz]; omega, by simp⟩
                have lc := mulP_len2 z0 [1 + c]
                rw [List.length_singleton] at lc
                refine ⟨q0, p1, z0, [1 + c], rfl, T0 o9, .inl (.inl upd_same), by omega, by simp, nz0, oc.nz, b63, fun p2 H10 s10 t10 => ⟨_, rfl, two, fun a1 n1 => ?_⟩⟩
                have f2 := same_upd (o := .tup [.ref p2, .ref q0]) n1
                have hls : l ≠ src := hs6.has hl6
                have st : Stp src n H8 (upd H10 a1 (.tup [.ref p2, .ref q0])) := ((s9.then f1).then s10).then f2
                have hl9 := st.2 _ _ hl8 hls
                refine ⟨l, _, _, rfl, rfl, hl9, Nat.lt_of_le_of_lt hul (by decide), ?_⟩
                refine ⟨_, rfl, (((Stp.of hs6 (s67.trans s78)).trans st).upd hs6 hl6).1, upd_same, fun v hv => ?_⟩
                rcases List.mem_append.mp hv with hv | hv
                · exact ((hus v hv).stp hs8 st).updL hl9
                · rw [List.mem_singleton.mp hv]
                  have p0 := (o9.same (s10.trans f2)).updL (o := .lst (us ++ [.ref a1])) hl9
                  refine ⟨a1, _, _, mulP z0 [1 + c], z0, rfl, seqT_updL (.inl (.inl upd_same)) hl9, Big.updL ⟨⟨p2, rfl, Same.seqT f2 t10⟩, mulP_nz nz0 oc.nz, fun z hz => ?_, by omega⟩ hl9, p0⟩
                  exact Nat.lt_of_le_of_lt (mul_le le0 oc.le z hz) (by decide)
              · clear hus
                rintro σ H9 ⟨us, rfl, hs9, hl9, hus⟩
                refine ⟨_, rfl, l, rfl, ⟨_, .inl (.inl hl9)⟩, for_list (K := K) (a := l) (xs := us) (fun i σ H' => ∃ (z9 z10 : Option V), σ = [some (.ref a), some (.ref src), some (.int (0 + (t : Int))), some (.int m), some (.ref D), some (.ref q0), some (.ref q1), some (.ref q2), some (.ref l), z9, z10, y11, y12] ∧ Same H9 H') ⟨_, _, rfl, Same.refl _⟩ ?_ ?_ ?_⟩
                · rintro i σ H' _ ⟨_, _, _, s⟩
                  exact .inl (.inl (s _ _ hl9))
                · rintro i x σ H10 hx ⟨z9, z10, rfl, s10⟩
                  obtain ⟨T, x, y, zs, ks, rfl, tT, ox, oy⟩ := (hus x (List.mem_of_getElem? hx)).same s10
                  obtain ⟨⟨px, rfl, tx⟩, nx, bx, lx⟩ := ox
                  obtain ⟨⟨py, rfl, ty⟩, ny, bY, ly⟩ := oy
                  have b63 : ∀ z ∈ ks, z.natAbs < 2 ^ 63 := fun z hz => by
                    have := bY z hz
                    omega
                  refine ⟨T, _, rfl, tT, rfl, _, _, rfl, _, _, rfl, rfl, ?_⟩
                  refine ⟨_, rfl, _, rfl, px, py, zs, ks, rfl, tx, ty, lx, by omega, nx, ny, b63, bx, fun H11 s11 => ⟨_, rfl, iteF ?_⟩⟩
                  refine ⟨_, rfl, _, rfl, px, py, zs, ks, rfl, Same.seqT s11 tx, Same.seqT s11 ty, lx, by omega, nx, ny, b63, bx, fun H12 s12 => ⟨_, rfl, iteF ?_⟩⟩
                  exact ⟨_, _, rfl, (s10.trans s11).trans s12⟩
                · rintro σ H' ⟨z9, z10, rfl, s⟩
                  exact ⟨_, _, _, _, _, _, _, _, _, _, _, rfl, hs9.same s⟩
    · rintro σ H1 ⟨_, _, _, _, _, _, _, _, _, _, _, rfl, _⟩
      exact q _
end
end Lim
set_option maxHeartbeats 8000000
namespace Lim
open PySem PySem.Spec PyProof.Rows L2
theorem all_mk {P : Program} {w : World} {K : PySem.W.Frag} {h : Heap} {mg : Str → Option Value} {fa f1 f2 f3 f4 f5 f6 f7 f8 f9 f10 f11 f12 f13 f14 f15 f16 f17 f18 f19 f20 : Addr} {od1 an1 od2 an2 od3 an3 od4 an4 od5 an5 od6 an6 od7 an7 od8 an8 od9 an9 od10 an10 od11 an11 od12 an12 od13 an13 od14 an14 od15 an15 od16 an16 od17 an17 od18 an18 od19 an19 od20 an20 : Option Addr} {sl1 sl2 sl3 sl4 sl5 sl6 sl7 sl8 sl9 sl10 sl11 sl12 sl13 sl14 sl15 sl16 sl17 sl18 sl19 sl20 : Array (Option Value)} {oc1 kV1 dc1 pm1 cd1 ct1 oc2 kV2 dc2 pm2 cd2 ct2 oc3 kV3 dc3 pm3 cd3 ct3 oc4 kV4 dc4 pm4 cd4 ct4 oc5 kV5 dc5 pm5 cd5 ct5 oc6 kV6 dc6 pm6 cd6 ct6 oc7 kV7 dc7 pm7 cd7 ct7 oc8 kV8 dc8 pm8 cd8 ct8 oc9 kV9 dc9 pm9 cd9 ct9 oc10 kV10 dc10 pm10 cd10 ct10 oc11 kV11 dc11 pm11 cd11 ct11 oc12 kV12 dc12 pm12 cd12 ct12 oc13 kV13 dc13 pm13 cd13 ct13 oc14 kV14 dc14 pm14 cd14 ct14 oc15 kV15 dc15 pm15 cd15 ct15 oc16 kV16 dc16 pm16 cd16 ct16 oc17 kV17 dc17 pm17 cd17 ct17 oc18 kV18 dc18 pm18 cd18 ct18 oc19 kV19 dc19 pm19 cd19 ct19 oc20 kV20 dc20 pm20 cd20 ct20 : Value} {fP fT cN cZ cL cBC cBP cIO cSP : Addr} {odP anP dT : Option Addr} {slP slT : Array (Option Value)} {ocP kVP dcP pmP cdP ctP : Value} {tk : Tok} {mT : Nat} (X : K.In h) (G : h.Ns mainGlobals mg) (hfa : mg "law" = some (.ref fa))
    (a1 : PySem.W.nsIn K mainGlobals "compare" = some (some (.ref f1))) (l1 : K.lookup f1 = some ⟨oc1, od1, .func (PySem.W.fnOf "compare" "compare" (defArgs sCmp) (defBody sCmp) (defScope sCmp) .none kV1 dc1 pm1 an1 cd1 ct1), sl1⟩) (c1 : PySem.W.codeIn K cd1 "compare" = true) (k1 : PySem.W.keepIn K (.ref f1) = true)
    (a2 : PySem.W.nsIn K mainGlobals "without_leading_zeros" = some (some (.ref f2))) (l2 : K.lookup f2 = some ⟨oc2, od2, .func (PySem.W.fnOf "without_leading_zeros" "without_leading_zeros" (defArgs sWlz) (defBody sWlz) (defScope sWlz) .none kV2 dc2 pm2 an2 cd2 ct2), sl2⟩) (c2 : PySem.W.codeIn K cd2 "without_leading_zeros" = true) (k2 : PySem.W.keepIn K (.ref f2) = true)
    (a3 : PySem.W.nsIn K mainGlobals "multiply" = some (some (.ref f3))) (l3 : K.lookup f3 = some ⟨oc3, od3, .func (PySem.W.fnOf "multiply" "multiply" (defArgs sPmu) (defBody sPmu) (defScope sPmu) .none kV3 dc3 pm3 an3 cd3 ct3), sl3⟩) (c3 : PySem.W.codeIn K cd3 "multiply" = true) (k3 : PySem.W.keepIn K (.ref f3) = true)
    (a4 : PySem.W.nsIn K mainGlobals "subtract" = some (some (.ref f4))) (l4 : K.lookup f4 = some ⟨oc4, od4, .func (PySem.W.fnOf "subtract" "subtract" (defArgs sPsu) (defBody sPsu) (defScope sPsu) .none kV4 dc4 pm4 an4 cd4 ct4), sl4⟩) (c4 : PySem.W.codeIn K cd4 "subtract" = true) (k4 : PySem.W.keepIn K (.ref f4) = true)
    (a5 : PySem.W.nsIn K mainGlobals "divide" = some (some (.ref f5))) (l5 : K.lookup f5 = some ⟨oc5, od5, .func (PySem.W.fnOf "divide" "divide" (defArgs sPdi) (defBody sPdi) (defScope sPdi) .none kV5 dc5 pm5 an5 cd5 ct5), sl5⟩) (c5 : PySem.W.codeIn K cd5 "divide" = true) (k5 : PySem.W.keepIn K (.ref f5) = true)
    (a6 : PySem.W.nsIn K mainGlobals "_law_scramble" = some (some (.ref f6))) (l6 : K.lookup f6 = some ⟨oc6, od6, .func (PySem.W.fnOf "_law_scramble" "_law_scramble" (defArgs sScr) (defBody sScr) (defScope sScr) .none kV6 dc6 pm6 an6 cd6 ct6), sl6⟩) (c6 : PySem.W.codeIn K cd6 "_law_scramble" = true) (k6 : PySem.W.keepIn K (.ref f6) = true)
    (a7 : PySem.W.nsIn K mainGlobals "_law_draws" = some (some (.ref f7))) (l7 : K.lookup f7 = some ⟨oc7, od7, .func (PySem.W.fnOf "_law_draws" "_law_draws" (defArgs sDrw) (defBody sDrw) (defScope sDrw) .none kV7 dc7 pm7 an7 cd7 ct7), sl7⟩) (c7 : PySem.W.codeIn K cd7 "_law_draws" = true) (k7 : PySem.W.keepIn K (.ref f7) = true)
    (a8 : PySem.W.nsIn K mainGlobals "_law_next" = some (some (.ref f8))) (l8 : K.lookup f8 = some ⟨oc8, od8, .func (PySem.W.fnOf "_law_next" "_law_next" (defArgs sNxt) (defBody sNxt) (defScope sNxt) .none kV8 dc8 pm8 an8 cd8 ct8), sl8⟩) (c8 : PySem.W.codeIn K cd8 "_law_next" = true) (k8 : PySem.W.keepIn K (.ref f8) = true)
    (a9 : PySem.W.nsIn K mainGlobals "_law_choose" = some (some (.ref f9))) (l9 : K.lookup f9 = some ⟨oc9, od9, .func (PySem.W.fnOf "_law_choose" "_law_choose" (defArgs sCho) (defBody sCho) (defScope sCho) .none kV9 dc9 pm9 an9 cd9 ct9), sl9⟩) (c9 : PySem.W.codeIn K cd9 "_law_choose" = true) (k9 : PySem.W.keepIn K (.ref f9) = true)
    (a10 : PySem.W.nsIn K mainGlobals "_law_identical" = some (some (.ref f10))) (l10 : K.lookup f10 = some ⟨oc10, od10, .func (PySem.W.fnOf "_law_identical" "_law_identical" (defArgs sIde) (defBody sIde) (defScope sIde) .none kV10 dc10 pm10 an10 cd10 ct10), sl10⟩) (c10 : PySem.W.codeIn K cd10 "_law_identical" = true) (k10 : PySem.W.keepIn K (.ref f10) = true)
    (a11 : PySem.W.nsIn K mainGlobals "_law_random_ordinal" = some (some (.ref f11))) (l11 : K.lookup f11 = some ⟨oc11, od11, .func (PySem.W.fnOf "_law_random_ordinal" "_law_random_ordinal" (defArgs sRnd) (defBody sRnd) (defScope sRnd) .none kV11 dc11 pm11 an11 cd11 ct11), sl11⟩) (c11 : PySem.W.codeIn K cd11 "_law_random_ordinal" = true) (k11 : PySem.W.keepIn K (.ref f11) = true)
    (a12 : PySem.W.nsIn K mainGlobals "_law_term_list" = some (some (.ref f12))) (l12 : K.lookup f12 = some ⟨oc12, od12, .func (PySem.W.fnOf "_law_term_list" "_law_term_list" (defArgs sTrm) (defBody sTrm) (defScope sTrm) .none kV12 dc12 pm12 an12 cd12 ct12), sl12⟩) (c12 : PySem.W.codeIn K cd12 "_law_term_list" = true) (k12 : PySem.W.keepIn K (.ref f12) = true)
    (a13 : PySem.W.nsIn K mainGlobals "_law_from_terms" = some (some (.ref f13))) (l13 : K.lookup f13 = some ⟨oc13, od13, .func (PySem.W.fnOf "_law_from_terms" "_law_from_terms" (defArgs sFrm) (defBody sFrm) (defScope sFrm) .none kV13 dc13 pm13 an13 cd13 ct13), sl13⟩) (c13 : PySem.W.codeIn K cd13 "_law_from_terms" = true) (k13 : PySem.W.keepIn K (.ref f13) = true)
    (a14 : PySem.W.nsIn K mainGlobals "_law_added" = some (some (.ref f14))) (l14 : K.lookup f14 = some ⟨oc14, od14, .func (PySem.W.fnOf "_law_added" "_law_added" (defArgs sAdd) (defBody sAdd) (defScope sAdd) .none kV14 dc14 pm14 an14 cd14 ct14), sl14⟩) (c14 : PySem.W.codeIn K cd14 "_law_added" = true) (k14 : PySem.W.keepIn K (.ref f14) = true)
    (a15 : PySem.W.nsIn K mainGlobals "_law_product" = some (some (.ref f15))) (l15 : K.lookup f15 = some ⟨oc15, od15, .func (PySem.W.fnOf "_law_product" "_law_product" (defArgs sPrd) (defBody sPrd) (defScope sPrd) .none kV15 dc15 pm15 an15 cd15 ct15), sl15⟩) (c15 : PySem.W.codeIn K cd15 "_law_product" = true) (k15 : PySem.W.keepIn K (.ref f15) = true)
    (a16 : PySem.W.nsIn K mainGlobals "_law_less" = some (some (.ref f16))) (l16 : K.lookup f16 = some ⟨oc16, od16, .func (PySem.W.fnOf "_law_less" "_law_less" (defArgs sLes) (defBody sLes) (defScope sLes) .none kV16 dc16 pm16 an16 cd16 ct16), sl16⟩) (c16 : PySem.W.codeIn K cd16 "_law_less" = true) (k16 : PySem.W.keepIn K (.ref f16) = true)
    (a17 : PySem.W.nsIn K mainGlobals "_law_failure" = some (some (.ref f17))) (l17 : K.lookup f17 = some ⟨oc17, od17, .func (PySem.W.fnOf "_law_failure" "_law_failure" (defArgs sFai) (defBody sFai) (defScope sFai) .none kV17 dc17 pm17 an17 cd17 ct17), sl17⟩) (c17 : PySem.W.codeIn K cd17 "_law_failure" = true) (k17 : PySem.W.keepIn K (.ref f17) = true)
    (a18 : PySem.W.nsIn K mainGlobals "_law_difference_right" = some (some (.ref f18))) (l18 : K.lookup f18 = some ⟨oc18, od18, .func (PySem.W.fnOf "_law_difference_right" "_law_difference_right" (defArgs sDif) (defBody sDif) (defScope sDif) .none kV18 dc18 pm18 an18 cd18 ct18), sl18⟩) (c18 : PySem.W.codeIn K cd18 "_law_difference_right" = true) (k18 : PySem.W.keepIn K (.ref f18) = true)
    (a19 : PySem.W.nsIn K mainGlobals "_law_quotient_right" = some (some (.ref f19))) (l19 : K.lookup f19 = some ⟨oc19, od19, .func (PySem.W.fnOf "_law_quotient_right" "_law_quotient_right" (defArgs sQuo) (defBody sQuo) (defScope sQuo) .none kV19 dc19 pm19 an19 cd19 ct19), sl19⟩) (c19 : PySem.W.codeIn K cd19 "_law_quotient_right" = true) (k19 : PySem.W.keepIn K (.ref f19) = true)
    (a20 : PySem.W.nsIn K mainGlobals "law" = some (some (.ref f20))) (l20 : K.lookup f20 = some ⟨oc20, od20, .func (PySem.W.fnOf "law" "law" (defArgs sLaw) (defBody sLaw) (defScope sLaw) .none kV20 dc20 pm20 an20 cd20 ct20), sl20⟩) (c20 : PySem.W.codeIn K cd20 "law" = true) (k20 : PySem.W.keepIn K (.ref f20) = true)
    (z0 : PySem.W.nsIn K mainGlobals "range" = some none)
    (z1 : PySem.W.nsIn K mainGlobals "len" = some none)
    (z2 : PySem.W.nsIn K mainGlobals "isinstance" = some none)
    (z3 : PySem.W.nsIn K mainGlobals "enumerate" = some none)
    (z4 : PySem.W.nsIn K mainGlobals "abs" = some none)
    (z5 : PySem.W.nsIn K mainGlobals "tuple" = some none)
    (z6 : PySem.W.nsIn K mainGlobals "repr" = some none)
    (z7 : PySem.W.nsIn K mainGlobals "sum" = some none)
    (z8 : PySem.W.nsIn K mainGlobals "max" = some none)
    (z9 : PySem.W.nsIn K mainGlobals "ValueError" = some none)
    (aP : PySem.W.nsIn K mainGlobals "power" = some (some (.ref fP)))
    (lP : K.lookup fP = some ⟨ocP, odP, .func (PySem.W.fnOf "power" "power" (defArgs sPow) (defBody sPow) (defScope sPow) (.ref fT) kVP dcP pmP anP cdP ctP), slP⟩)
    (cP : PySem.W.codeIn K cdP "power" = true)
    (kP : PySem.W.keepIn K (.ref fP) = true)
    (tP : K.lookup fT = some ⟨.type "tuple", dT, .seq #[.int 1 tk] mT, slT⟩)
    (lG : PySem.W.nsIn K mainGlobals "LimitRunError" = some (some (.ref cL)))
    (lT : PySem.W.typeIn K (.ref cL) = some (.type "type"))
    (lD : PySem.W.hasDictIn K cL = true)
    (lB : PySem.W.subIn K (.ref cL) (.type "BaseException") = some true)
    (bcG : PySem.W.nsIn K mainGlobals "BadClaim" = some (some (.ref cBC)))
    (bcT : PySem.W.typeIn K (.ref cBC) = some (.type "type"))
    (bcD : PySem.W.hasDictIn K cBC = true)
    (bpG : PySem.W.nsIn K mainGlobals "BadPath" = some (some (.ref cBP)))
    (bpT : PySem.W.typeIn K (.ref cBP) = some (.type "type"))
    (bpD : PySem.W.hasDictIn K cBP = true)
    (ioG : PySem.W.nsIn K mainGlobals "InvalidOrdinal" = some (some (.ref cIO)))
    (ioT : PySem.W.typeIn K (.ref cIO) = some (.type "type"))
    (ioD : PySem.W.hasDictIn K cIO = true)
    (spG : PySem.W.nsIn K mainGlobals "SyntaxProblem" = some (some (.ref cSP)))
    (spT : PySem.W.typeIn K (.ref cSP) = some (.type "type"))
    (spD : PySem.W.hasDictIn K cSP = true)
    (wn : PySem.W.specialIn K (.builtin "object.__class__") "__get__" = some (some (.builtin "getset_descriptor.__get__")))
    (wt : PySem.W.takesIn K (.builtin "object.__class__") = some true)
    (nG : PySem.W.nsIn K mainGlobals "NotLater" = some (some (.ref cN)))
    (nX : PySem.W.excIn K cN [.type "ValueError", .type "Exception", .type "BaseException", .type "object"] "ValueError.__new__" = true)
    (nK : PySem.W.keepIn K (.ref cN) = true)
    (nB : PySem.W.subIn K (.ref cN) (.type "BaseException") = some true)
    (nT : PySem.W.typeIn K (.ref cN) = some (.type "type"))
    (nD : PySem.W.hasDictIn K cN = true)
    (ng : PySem.W.findIn K (.ref cN) "__getattribute__" = some (some (.builtin "BaseException.__getattribute__")))
    (nh : PySem.W.findIn K (.ref cN) "__getattr__" = some none)
    (na : PySem.W.findIn K (.ref cN) "__class__" = some (some (.builtin "object.__class__")))
    (nm : PySem.W.mroIn K cN (.type "object") = some true)
    (nV : PySem.W.subIn K (.ref cN) (.type "ValueError") = some true)
    (nL : PySem.W.subIn K (.ref cN) (.ref cL) = some true)
    (nbcS : PySem.W.subIn K (.ref cN) (.ref cBC) = some false)
    (nbpS : PySem.W.subIn K (.ref cN) (.ref cBP) = some false)
    (nioS : PySem.W.subIn K (.ref cN) (.ref cIO) = some false)
    (nspS : PySem.W.subIn K (.ref cN) (.ref cSP) = some false)
    (zG : PySem.W.nsIn K mainGlobals "ZeroDivisor" = some (some (.ref cZ)))
    (zX : PySem.W.excIn K cZ [.type "ValueError", .type "Exception", .type "BaseException", .type "object"] "ValueError.__new__" = true)
    (zK : PySem.W.keepIn K (.ref cZ) = true)
    (zB : PySem.W.subIn K (.ref cZ) (.type "BaseException") = some true)
    (zT : PySem.W.typeIn K (.ref cZ) = some (.type "type"))
    (zD : PySem.W.hasDictIn K cZ = true)
    (zg : PySem.W.findIn K (.ref cZ) "__getattribute__" = some (some (.builtin "BaseException.__getattribute__")))
    (zh : PySem.W.findIn K (.ref cZ) "__getattr__" = some none)
    (za : PySem.W.findIn K (.ref cZ) "__class__" = some (some (.builtin "object.__class__")))
    (zm : PySem.W.mroIn K cZ (.type "object") = some true)
    (zV : PySem.W.subIn K (.ref cZ) (.type "ValueError") = some true)
    (zL : PySem.W.subIn K (.ref cZ) (.ref cL) = some true)
    (zbcS : PySem.W.subIn K (.ref cZ) (.ref cBC) = some false)
    (zbpS : PySem.W.subIn K (.ref cZ) (.ref cBP) = some false)
    (zioS : PySem.W.subIn K (.ref cZ) (.ref cIO) = some false)
    (zspS : PySem.W.subIn K (.ref cZ) (.ref cSP) = some false)
    (nzS : PySem.W.subIn K (.ref cN) (.ref cZ) = some false)
    (znS : PySem.W.subIn K (.ref cZ) (.ref cN) = some false)
    (nzE : cN ≠ cZ)
    (nbcE : cN ≠ cBC)
    (nbpE : cN ≠ cBP)
    (nioE : cN ≠ cIO)
    (nspE : cN ≠ cSP)
    (zbcE : cZ ≠ cBC)
    (zbpE : cZ ≠ cBP)
    (zioE : cZ ≠ cIO)
    (zspE : cZ ≠ cSP) :
    ∃ fd : FuncData, (∀ (s : Shared) (u : Value), BindsTo s fd ⟨[u], []⟩ [("script", u)]) ∧ ∀ base : Heap, K.In base → base.Ns mainGlobals mg → FnG P w K mg base 9 fa fd ["script"] (spLaw K) := by
  have e := hfa.symm.trans (PySem.W.mg_of X G a20)
  cases e
  have F1 := fun_mk (st := sCmp) l1 c1 k1
  have b1 := F1.binds (ps := ["first", "second"]) fun _ _ _ _ _ _ us hl => match us, hl with | [_, _], _ => rfl
  have g1 := PySem.W.mg_of X G a1
  have F2 := fun_mk (st := sWlz) l2 c2 k2
  have b2 := F2.binds (ps := ["coefficients"]) fun _ _ _ _ _ _ us hl => match us, hl with | [_], _ => rfl
  have g2 := PySem.W.mg_of X G a2
  have F3 := fun_mk (st := sPmu) l3 c3 k3
  have b3 := F3.binds (ps := ["first", "second"]) fun _ _ _ _ _ _ us hl => match us, hl with | [_, _], _ => rfl
  have g3 := PySem.W.mg_of X G a3
  have F4 := fun_mk (st := sPsu) l4 c4 k4
  have b4 := F4.binds (ps := ["first", "second"]) fun _ _ _ _ _ _ us hl => match us, hl with | [_, _], _ => rfl
  have g4 := PySem.W.mg_of X G a4
  have F5 := fun_mk (st := sPdi) l5 c5 k5
  have b5 := F5.binds (ps := ["dividend", "divisor"]) fun _ _ _ _ _ _ us hl => match us, hl with | [_, _], _ => rfl
  have g5 := PySem.W.mg_of X G a5
  have F6 := fun_mk (st := sScr) l6 c6 k6
  have b6 := F6.binds (ps := ["number", "index"]) fun _ _ _ _ _ _ us hl => match us, hl with | [_, _], _ => rfl
  have g6 := PySem.W.mg_of X G a6
  have F7 := fun_mk (st := sDrw) l7 c7 k7
  have b7 := F7.binds (ps := ["script"]) fun _ _ _ _ _ _ us hl => match us, hl with | [_], _ => rfl
  have g7 := PySem.W.mg_of X G a7
  have F8 := fun_mk (st := sNxt) l8 c8 k8
  have b8 := F8.binds (ps := ["source", "bound"]) fun _ _ _ _ _ _ us hl => match us, hl with | [_, _], _ => rfl
  have g8 := PySem.W.mg_of X G a8
  have F9 := fun_mk (st := sCho) l9 c9 k9
  have b9 := F9.binds (ps := ["source", "items"]) fun _ _ _ _ _ _ us hl => match us, hl with | [_, _], _ => rfl
  have g9 := PySem.W.mg_of X G a9
  have F10 := fun_mk (st := sIde) l10 c10 k10
  have b10 := F10.binds (ps := ["found", "expected"]) fun _ _ _ _ _ _ us hl => match us, hl with | [_, _], _ => rfl
  have g10 := PySem.W.mg_of X G a10
  have F11 := fun_mk (st := sRnd) l11 c11 k11
  have b11 := F11.binds (ps := ["source", "degrees", "most"]) fun _ _ _ _ _ _ us hl => match us, hl with | [_, _, _], _ => rfl
  have g11 := PySem.W.mg_of X G a11
  have F12 := fun_mk (st := sTrm) l12 c12 k12
  have b12 := F12.binds (ps := ["ordinal"]) fun _ _ _ _ _ _ us hl => match us, hl with | [_], _ => rfl
  have g12 := PySem.W.mg_of X G a12
  have F13 := fun_mk (st := sFrm) l13 c13 k13
  have b13 := F13.binds (ps := ["terms"]) fun _ _ _ _ _ _ us hl => match us, hl with | [_], _ => rfl
  have g13 := PySem.W.mg_of X G a13
  have F14 := fun_mk (st := sAdd) l14 c14 k14
  have b14 := F14.binds (ps := ["first", "second"]) fun _ _ _ _ _ _ us hl => match us, hl with | [_, _], _ => rfl
  have g14 := PySem.W.mg_of X G a14
  have F15 := fun_mk (st := sPrd) l15 c15 k15
  have b15 := F15.binds (ps := ["first", "second"]) fun _ _ _ _ _ _ us hl => match us, hl with | [_, _], _ => rfl
  have g15 := PySem.W.mg_of X G a15
  have F16 := fun_mk (st := sLes) l16 c16 k16
  have b16 := F16.binds (ps := ["first", "second"]) fun _ _ _ _ _ _ us hl => match us, hl with | [_, _], _ => rfl
  have g16 := PySem.W.mg_of X G a16
  have F17 := fun_mk (st := sFai) l17 c17 k17
  have b17 := F17.binds (ps := ["is_division", "first", "second"]) fun _ _ _ _ _ _ us hl => match us, hl with | [_, _, _], _ => rfl
  have g17 := PySem.W.mg_of X G a17
  have F18 := fun_mk (st := sDif) l18 c18 k18
  have b18 := F18.binds (ps := ["first", "second"]) fun _ _ _ _ _ _ us hl => match us, hl with | [_, _], _ => rfl
  have g18 := PySem.W.mg_of X G a18
  have F19 := fun_mk (st := sQuo) l19 c19 k19
  have b19 := F19.binds (ps := ["first", "second"]) fun _ _ _ _ _ _ us hl => match us, hl with | [_, _], _ => rfl
  have g19 := PySem.W.mg_of X G a19
  have F20 := fun_mk (st := sLaw) l20 c20 k20
  have b20 := F20.binds (ps := ["script"]) fun _ _ _ _ _ _ us hl => match us, hl with | [_], _ => rfl
  have g20 := PySem.W.mg_of X G a20
  have m_range := PySem.W.mg_none_of X G z0
  have m_len := PySem.W.mg_none_of X G z1
  have m_isinstance := PySem.W.mg_none_of X G z2
  have m_enumerate := PySem.W.mg_none_of X G z3
  have m_abs := PySem.W.mg_none_of X G z4
  have m_tuple := PySem.W.mg_none_of X G z5
  have m_repr := PySem.W.mg_none_of X G z6
  have m_sum := PySem.W.mg_none_of X G z7
  have m_max := PySem.W.mg_none_of X G z8
  have m_ValueError := PySem.W.mg_none_of X G z9
  refine ⟨PySem.W.fnOf "law" "law" (defArgs sLaw) (defBody sLaw) (defScope sLaw) .none kV20 dc20 pm20 an20 cd20 ct20, fun s u => .of_eq rfl, fun base _ _ => ?_⟩
  have FP : FunD K "power" "power" (defArgs sPow) (defBody sPow) (defScope sPow) [.int 1] [] fP _ := ⟨⟨ocP, odP, .ref fT, kVP, dcP, pmP, anP, cdP, ctP, slP, rfl, lP, cP, .inr ⟨by simp, fT, _, [.int 1 tk], mT, rfl, tP, rfl, .cons ⟨tk, rfl⟩ .nil⟩, .inl rfl⟩, kP⟩
  have gP := PySem.W.mg_of X G aP
  obtain ⟨d2, v2, bP⟩ := FP.binds1 (ps := ["exponent", "coefficient"]) 2 1 (by simp) rfl fun T kV doc pm an cdv ct us its h1 h2 => match us, its, h1, h2 with | [_, _], [_], _, _ => ⟨_, rfl, rfl⟩
  cases v2
  have GN : FnOk P w K mg base CX0 2 f8 _ ["source", "bound"] spNxt := ok_nxt (k := 0) F8 m_len F6 b6 g6 m_range
  have GC : FnOk P w K mg base CX0 3 f9 _ ["source", "items"] (spCho K) := ok_cho (k := 0) F9 m_len GN k8 b8 g8
  have GR : FnOk P w K mg base CX0 4 f11 _ ["source", "degrees", "most"] (spRnd K) := ok_rnd (k := 0) F11 m_range m_tuple (GN.mono (by decide)) k8 b8 g8 GC k9 b9 g9
  have TN : Err K mg "NotLater" cN := ⟨PySem.W.mg_of X G nG, nX, nK, nB, nT⟩
  have TZ : Err K mg "ZeroDivisor" cZ := ⟨PySem.W.mg_of X G zG, zX, zK, zB, zT⟩
  have EN : KitE K cN cL [.ref cBC, .ref cBP, .ref cIO, .ref cSP] := ⟨PySem.W.exm_ref lB lD lT nL, ⟨ng, nh, nB, nD, na, wn, wt, nm⟩, (kitAny_cons (kit_ref nbcE bcD bcT nbcS) (fun _ => (kitAny_cons (kit_ref nbpE bpD bpT nbpS) (fun _ => (kitAny_cons (kit_ref nioE ioD ioT nioS) (fun _ => (kitAny_cons (kit_ref nspE spD spT nspS) (fun _ => kitAny_nil) (fun z => nomatch z))) (fun z => nomatch z))) (fun z => nomatch z))) (fun z => nomatch z)), kit_type (by decide +kernel) nV⟩
  have EZ : KitE K cZ cL [.ref cBC, .ref cBP, .ref cIO, .ref cSP] := ⟨PySem.W.exm_ref lB lD lT zL, ⟨zg, zh, zB, zD, za, wn, wt, zm⟩, (kitAny_cons (kit_ref zbcE bcD bcT zbcS) (fun _ => (kitAny_cons (kit_ref zbpE bpD bpT zbpS) (fun _ => (kitAny_cons (kit_ref zioE ioD ioT zioS) (fun _ => (kitAny_cons (kit_ref zspE spD spT zspS) (fun _ => kitAny_nil) (fun z => nomatch z))) (fun z => nomatch z))) (fun z => nomatch z))) (fun z => nomatch z)), kit_type (by decide +kernel) zV⟩
  have JC : FnOk P w K mg base CX0 1 f1 _ ["first", "second"] (spCmp K) := ok_cmp (k := 0) F1 m_len
  have JW : FnOk P w K mg base CX0 1 f2 _ ["coefficients"] (spWlz K) := ok_wlz (k := 0) F2 m_len
  have JM : FnOk P w K mg base CX0 1 f3 _ ["first", "second"] (spPmu K) := ok_pmu (k := 0) F3 m_len
  have JP : FnOk P w K mg base CX0 1 fP _ ["exponent", "coefficient"] (spPow K) := ok_pow (k := 0) FP
  have JS : FnOk P w K mg base (L2.CX P w) 2 f4 _ ["first", "second"] (spPsu K cN) := ok_psu (k := 0) F4 TN m_len m_range JC k1 b1 g1
  have JD : FnOk P w K mg base (L2.CX P w) 3 f5 _ ["dividend", "divisor"] (spPdi K cZ) := ok_pdi (k := 0) F5 TZ m_len (JC.mono (by decide)) k1 b1 g1 (JM.mono (by decide)) k3 b3 g3 (JP.mono (by decide)) kP bP gP (JW.mono (by decide)) k2 b2 g2 JS k4 b4 g4
  have GT : FnOk P w K mg base CX0 1 f12 _ ["ordinal"] (spTrm K) := ok_trm (k := 0) F12 m_len m_enumerate
  have GF : FnOk P w K mg base CX0 1 f13 _ ["terms"] (spFrm K) := ok_frm (k := 0) F13 m_len m_tuple
  have GA : FnOk P w K mg base CX0 2 f14 _ ["first", "second"] (spAdd K) := ok_add (k := 0) F14 m_sum GT k12 b12 g12 GF k13 b13 g13
  have GP : FnOk P w K mg base CX0 3 f15 _ ["first", "second"] (spPrd K) := ok_prd (k := 0) F15 (GT.mono (by decide)) k12 b12 g12 (GF.mono (by decide)) k13 b13 g13 GA k14 b14 g14
  have GL : FnOk P w K mg base CX0 1 f16 _ ["first", "second"] (spLes K) := ok_les (k := 0) F16 m_len m_max
  have GE : FnOk P w K mg base CX0 4 f17 _ ["is_division", "first", "second"] (spFai K) := ok_fai (k := 0) F17 TN TZ (PySem.W.mg_of X G lG) (PySem.W.mg_of X G bcG) (PySem.W.mg_of X G bpG) (PySem.W.mg_of X G ioG) (PySem.W.mg_of X G spG) m_isinstance m_ValueError EN EZ (kit_ref nzE zD zT nzS) (kit_ref (Ne.symm nzE) nD nT znS) JD k5 b5 g5 (JS.mono (by decide)) k4 b4 g4
  have GI : FnG P w K mg base 1 f10 _ ["found", "expected"] (spIde K) := ok_ide (k := 0) F10 m_repr
  have GU : FnG P w K mg base 8 f18 _ ["first", "second"] (spDif K) := ok_dif (k := 0) F18 m_isinstance m_tuple (GE.mono (by decide)) k17 b17 g17 (GL.mono (by decide)) k16 b16 g16 (GA.mono (by decide)) k14 b14 g14 (GI.up (by decide)) k10 b10 g10
  have GV : FnG P w K mg base 8 f19 _ ["first", "second"] (spDif K) := ok_quo (k := 0) F19 m_isinstance m_tuple m_len (GE.mono (by decide)) k17 b17 g17 (GL.mono (by decide)) k16 b16 g16 (GA.mono (by decide)) k14 b14 g14 (GP.mono (by decide)) k15 b15 g15 (GI.up (by decide)) k10 b10 g10
  refine ok_law (k := 8) F20 ?_
  exact {
    drw := ⟨f7, _, (ok_drw (k := 0) F7 m_enumerate m_abs).mono (by decide), g7, k7, b7⟩
    nxt := ⟨f8, _, GN.mono (by decide), g8, k8, b8⟩
    cho := ⟨f9, _, GC.mono (by decide), g9, k9, b9⟩
    rnd := ⟨f11, _, GR.mono (by decide), g11, k11, b11⟩
    add := ⟨f14, _, GA.mono (by decide), g14, k14, b14⟩
    prd := ⟨f15, _, GP.mono (by decide), g15, k15, b15⟩
    dif := ⟨f18, _, GU, g18, k18, b18⟩
    quo := ⟨f19, _, GV, g19, k19, b19⟩
    range := m_range }
end Lim
open PySem PySem.W PyProof.Rows
set_option maxHeartbeats 0 in
theorem PySem.Challenge.cw_limitrun_k04_differences_and_quotients_holds : PySem.Challenge.rw_limitrun_k04_differences_and_quotients.Holds := by
  w_on; o_law; k_head; (case hw => w_witness2)
  k_fill
  refine Lim.walk_g (l := PySem.Challenge.rw_limitrun_k04_differences_and_quotients) (n := 63) (k := 9) (x := "script") (sp := Lim.spLaw) rfl (by decide) rfl ⟨rfl, by decide, by decide⟩ (fun w h Y => PySem.W.kIn_of Y) ?F (fun _ _ a ns hl _ hS => ⟨a, ns, rfl, hS, hl, fun _ => rfl⟩)
  case F =>
    intro w mg fa h KX G hmg
    refine' Lim.all_mk KX G hmg ?a1 ?l1 ?c1 ?k1 ?a2 ?l2 ?c2 ?k2 ?a3 ?l3 ?c3 ?k3 ?a4 ?l4 ?c4 ?k4 ?a5 ?l5 ?c5 ?k5 ?a6 ?l6 ?c6 ?k6 ?a7 ?l7 ?c7 ?k7 ?a8 ?l8 ?c8 ?k8 ?a9 ?l9 ?c9 ?k9 ?a10 ?l10 ?c10 ?k10 ?a11 ?l11 ?c11 ?k11 ?a12 ?l12 ?c12 ?k12 ?a13 ?l13 ?c13 ?k13 ?a14 ?l14 ?c14 ?k14 ?a15 ?l15 ?c15 ?k15 ?a16 ?l16 ?c16 ?k16 ?a17 ?l17 ?c17 ?k17 ?a18 ?l18 ?c18 ?k18 ?a19 ?l19 ?c19 ?k19 ?a20 ?l20 ?c20 ?k20 ?z0 ?z1 ?z2 ?z3 ?z4 ?z5 ?z6 ?z7 ?z8 ?z9 ?aP ?lP ?cP ?kP ?tP ?lG ?lT ?lD ?lB ?bcG ?bcT ?bcD ?bpG ?bpT ?bpD ?ioG ?ioT ?ioD ?spG ?spT ?spD ?wn ?wt ?nG ?nX ?nK ?nB ?nT ?nD ?ng ?nh ?na ?nm ?nV ?nL ?nbcS ?nbpS ?nioS ?nspS ?zG ?zX ?zK ?zB ?zT ?zD ?zg ?zh ?za ?zm ?zV ?zL ?zbcS ?zbpS ?zioS ?zspS ?nzS ?znS ?nzE ?nbcE ?nbpE ?nioE ?nspE ?zbcE ?zbpE ?zioE ?zspE
    (case a1 => k_is)
    (case l1 => k_is)
    (case c1 => k_is)
    (case k1 => k_is)
    (case a2 => k_is)
    (case l2 => k_is)
    (case c2 => k_is)
    (case k2 => k_is)
    (case a3 => k_is)
    (case l3 => k_is)
    (case c3 => k_is)
    (case k3 => k_is)
    (case a4 => k_is)
    (case l4 => k_is)
    (case c4 => k_is)
    (case k4 => k_is)
    (case a5 => k_is)
    (case l5 => k_is)
    (case c5 => k_is)
    (case k5 => k_is)
    (case a6 => k_is)
    (case l6 => k_is)
    (case c6 => k_is)
    (case k6 => k_is)
    (case a7 => k_is)
    (case l7 => k_is)
    (case c7 => k_is)
    (case k7 => k_is)
    (case a8 => k_is)
    (case l8 => k_is)
    (case c8 => k_is)
    (case k8 => k_is)
    (case a9 => k_is)
    (case l9 => k_is)
    (case c9 => k_is)
    (case k9 => k_is)
    (case a10 => k_is)
    (case l10 => k_is)
    (case c10 => k_is)
    (case k10 => k_is)
    (case a11 => k_is)
    (case l11 => k_is)
    (case c11 => k_is)
    (case k11 => k_is)
    (case a12 => k_is)
    (case l12 => k_is)
    (case c12 => k_is)
    (case k12 => k_is)
    (case a13 => k_is)
    (case l13 => k_is)
    (case c13 => k_is)
    (case k13 => k_is)
    (case a14 => k_is)
    (case l14 => k_is)
    (case c14 => k_is)
    (case k14 => k_is)
    (case a15 => k_is)
    (case l15 => k_is)
    (case c15 => k_is)
    (case k15 => k_is)
    (case a16 => k_is)
    (case l16 => k_is)
    (case c16 => k_is)
    (case k16 => k_is)
    (case a17 => k_is)
    (case l17 => k_is)
    (case c17 => k_is)
    (case k17 => k_is)
    (case a18 => k_is)
    (case l18 => k_is)
    (case c18 => k_is)
    (case k18 => k_is)
    (case a19 => k_is)
    (case l19 => k_is)
    (case c19 => k_is)
    (case k19 => k_is)
    (case a20 => k_is)
    (case l20 => k_is)
    (case c20 => k_is)
    (case k20 => k_is)
    (case z0 => k_is)
    (case z1 => k_is)
    (case z2 => k_is)
    (case z3 => k_is)
    (case z4 => k_is)
    (case z5 => k_is)
    (case z6 => k_is)
    (case z7 => k_is)
    (case z8 => k_is)
    (case z9 => k_is)
    (case aP => k_is)
    (case lP => k_is)
    (case cP => k_is)
    (case kP => k_is)
    (case tP => k_is)
    (case lG => k_is)
    (case lT => k_is)
    (case lD => k_is)
    (case lB => k_is)
    (case bcG => k_is)
    (case bcT => k_is)
    (case bcD => k_is)
    (case bpG => k_is)
    (case bpT => k_is)
    (case bpD => k_is)
    (case ioG => k_is)
    (case ioT => k_is)
    (case ioD => k_is)
    (case spG => k_is)
    (case spT => k_is)
    (case spD => k_is)
    (case wn => k_is)
    (case wt => k_is)
    (case nG => k_is)
    (case nX => k_exc)
    (case nK => k_is)
    (case nB => k_is)
    (case nT => k_is)
    (case nD => k_is)
    (case ng => k_is)
    (case nh => k_is)
    (case na => k_is)
    (case nm => k_is)
    (case nV => k_is)
    (case nL => k_is)
    (case nbcS => k_is)
    (case nbpS => k_is)
    (case nioS => k_is)
    (case nspS => k_is)
    (case zG => k_is)
    (case zX => k_exc)
    (case zK => k_is)
    (case zB => k_is)
    (case zT => k_is)
    (case zD => k_is)
    (case zg => k_is)
    (case zh => k_is)
    (case za => k_is)
    (case zm => k_is)
    (case zV => k_is)
    (case zL => k_is)
    (case zbcS => k_is)
    (case zbpS => k_is)
    (case zioS => k_is)
    (case zspS => k_is)
    (case nzS => k_is)
    (case znS => k_is)
    (case nzE => decide)
    (case nbcE => decide)
    (case nbpE => decide)
    (case nioE => decide)
    (case nspE => decide)
    (case zbcE => decide)
    (case zbpE => decide)
    (case zioE => decide)
    (case zspE => decide)
#print axioms PySem.Challenge.cw_limitrun_k04_differences_and_quotients_holds
