import PyProof.Rows.All
import Wide.All
import OpenK.AllK
import Wide.FinOn
import HandS.ForMost
import HandS.Wide
import HandS.RaiseMore
import PyProof.ReprRoads
import HandS.Evl
import HandS.Codes
import HandS.TupMul
import HandS.TupAny
import KE.GoesEnum
import HandS.Defaults
import HandS.FStrTup
import HandS.IsInst
import HandS.Dict
import PySem.Challenge.RW_limitrun_k01_ordinals_of_any_object
set_option Elab.async false
set_option linter.all false
set_option maxRecDepth 100000
set_option maxHeartbeats 4000000
namespace Lim
open PySem PySem.Spec PyProof.Rows L2

/-! a def whose promise may lean on: no repr is under way around it -/
structure FnG (P : Program) (w : World) (K : PySem.W.Frag) (mg : Str → Option Value) (base : Heap) (k : Nat) (f : Addr) (fd : FuncData) (ps : List Str) (sp : Sp) : Prop where
  len : ∀ vs H Q E, sp vs H Q E → vs.length = ps.length
  go : ∀ (B : Around) (below : List Env) (s : Shared) (H : Hp) (ar : Args) (us : List Value) (vs : List V) (Q : VK) (E : XK),
    B.guards = some [] → Room k B → Env0 P w K mg base B below s H → BindsTo s fd ar (ps.zip us) → Vals vs us → sp vs H Q E →
    codeAny (model P w) B (.call (.ref f) ar) (CR CX0 below P w H s Q E) s
section
variable {P : Program} {w : World} {K : PySem.W.Frag} {mg : Str → Option Value} {base : Heap} {k : Nat} {f : Addr} {fd : FuncData} {ps : List Str} {sp : Sp}
theorem FnG.of (F : FnOk P w K mg base CX0 k f fd ps sp) : FnG P w K mg base k f fd ps sp :=
  ⟨F.len, fun B below s H ar us vs Q E _ r e b v q => F.run B below s H ar us vs Q E r e b v q⟩
theorem FnG.up {j : Nat} (F : FnG P w K mg base j f fd ps sp) (h : j ≤ k) : FnG P w K mg base k f fd ps sp :=
  ⟨F.len, fun B below s H ar us vs Q E g r e b v q => F.go B below s H ar us vs Q E g (r.mono h) e b v q⟩
theorem FnG.imp {sp' : Sp} (F : FnG P w K mg base k f fd ps sp) (h : ∀ vs H Q E, sp' vs H Q E → sp vs H Q E) : FnG P w K mg base k f fd ps sp' :=
  ⟨fun vs H Q E q => F.len _ _ _ _ (h _ _ _ _ q), fun B below s H ar us vs Q E g r e b v q => F.go B below s H ar us vs Q E g r e b v (h _ _ _ _ q)⟩

theorem deeper_guards {B : Around} {env : Env} : (B.deeper env).guards = B.guards := rfl

/-- the def's own rule -/
theorem Fun_okG {x qual : Str} {st : Stmt} {N : List Str} (F : Fun K x qual st f fd) (S : FnScope N ps (defScope st)) (len : ∀ vs H Q E, sp vs H Q E → vs.length = ps.length)
    (hb : ∀ (cdv : Value) (B : Around) (below : List Env) (s : Shared) (H : Hp) (vs : List V) (Q : VK) (E : XK), B.guards = some [] → Room k (B.deeper (envOfC qual (defScope st) s.heap.objs.size f cdv)) → sp vs H Q E →
      ∃ t, PSs (cxOf CX0 P w K mg base N qual (defScope st) f cdv B below s H E).nox (defBody st) t ∧ t { nx := fun _ H' => Q .non H', rt := Q } (start N vs) H) :
    FnG P w K mg base (k + 1) f fd ps sp := by
  obtain ⟨oc, od, kV, doc, pm, an, cdv, ct, osl, rfl, lk, hcd⟩ := F.ex
  refine ⟨len, fun B below s H ar us vs Q E hg hr ev bt va hq => ?_⟩
  have hn := len _ _ _ _ hq
  have KH : K.In s.heap := ev.mod.kin.keeps fun a o z => (ev.bs a o z).1
  have noLim : s.heap.NoLimit := ev.mod.nolimit.keeps fun a o z => (ev.bs a o z).1
  refine codeAny_call_function hr.depth (KH _ _ lk) rfl S.co S.gen rfl (PySem.W.codeRec_of KH hcd) (bt _ _ _ _ ?_)
  refine wpAny_newFunctionEnv_cells S.kind (fun ⟨y, v⟩ hy => ?_) fun env he s1 hx => ?_
  · rcases S.par y (List.of_mem_zip hy).1 with q | q
    · exact Or.inl q
    · exact Or.inr ⟨q, PySem.W.cellsFrom_some _ _ _ (Or.inl q)⟩
  · subst he
    refine ⟨noLim.keeps hx.toInCall.keep, codeAny_func ?_⟩
    obtain ⟨t, ht, hrun⟩ := hb cdv B below s H vs Q E hg (hr.deeper _) hq
    have J0 := inv_start (CX := CX0) (E := E) S hr.hd ev hn va hx
    refine wpAny_mono (ht.nox.run [] s1 (start N vs) H _ J0 hrun) (fun fl s2 hs => ?_) fun _ _ z => z
    cases fl with
    | brk =>
      obtain ⟨_, _, _, z⟩ := hs
      exact z.elim
    | cont =>
      obtain ⟨_, _, _, z⟩ := hs
      exact z.elim
    | next =>
      obtain ⟨σ1, H1, J, z⟩ := hs
      exact ⟨V.non, H1, J.os, J.bare, J.base, J.hok, rfl, z⟩
    | ret u =>
      obtain ⟨v, σ1, H1, J, rv, z⟩ := hs
      exact ⟨v, H1, J.os, J.bare, J.base, J.hok, rv, z⟩
end
section
variable {X : Cx} {k : Nat} {f : Addr} {fd : FuncData} {ps : List Str} {sp : Sp} {x : Str} {p pos : Pos} {e : Expr} {es : List Expr} {t : TA}
/-- the callee runs -/
theorem run_g {pins : List (Addr × Obj)} {σ : L2.St} {H : Hp} {s : Shared} {Q : VK} {us : List Value} {vs : List V} (F : FnG X.prog X.w X.K X.mg X.base k f fd ps sp) (hg : X.A.guards = some []) (hr : Room k X.A) (hb : Binds X.K fd ps [])
    (I : Inv X pins σ H s) (r : Vals vs us) (h : sp vs H Q E0) : wpAny (model X.prog X.w) X.A (call (.ref f) us) (EP X pins σ Q) X.xe s := by
  have hl : us.length = ps.length := r.length ▸ F.len _ _ _ _ h
  have hbt := hb s us I.kIn (by rw [List.append_nil]; exact hl)
  rw [List.append_nil] at hbt
  refine wpAny_call (codeAny_mono (F.go X.A X.stack s H ⟨us, []⟩ us vs Q E0 hg hr I.env0 hbt r h) fun res s1 z => ?_)
  match res, z with
  | .error _, z => exact False.elim z
  | .ok (.ret u), z => exact I.after z
  | .ok .next, z => exact False.elim z
  | .ok .brk, z => exact False.elim z
  | .ok .cont, z => exact False.elim z
theorem pe_g (F : FnG X.prog X.w X.K X.mg X.base k f fd ps sp) (hgd : X.A.guards = some []) (hr : Room k X.A) (hg : Gl X x) (hm : X.mg x = some (.ref f)) (hk : PySem.W.keepIn X.K (.ref f) = true) (hb : Binds X.K fd ps [])
    (ha : PA X (e :: es) t) (hdb : (x == ("__debug__" : Str)) = false := by decide) (he : starEach (e :: es) X.env = (false, eval e X.env) :: starEach es X.env := by rfl) (hpl : (backTo pos (starEach es X.env)).any (·.1) = false := by rfl) :
    PE X (.Call (.Name x p) (e :: es) [] pos) (fun σ H Q => t σ H fun vs H1 => sp vs H1 Q E0) := by
  refine ⟨fun pins s σ H Q I h => ?_⟩
  refine wpAny_Call_Name_kw (ld_glob I hg hm ?_ hdb)
  refine PySem.W.callWith_K (h₀ := X.base) I.ok.mod.kin hk ?_ he hpl
  exact thn (ha.run pos pins s σ H _ I h) fun us s1 ⟨vs, H1, I1, r, q⟩ => ⟨I1.kIn, run_g F hgd hr hb I1 r q⟩
/-- repr(x), x data -/
theorem call_reprD (hgd : X.A.guards = some []) (hu : X.A.units + 100 < cLine) : CallR X (.builtin "repr") (fun xs H Q => ∃ v d, xs = [v] ∧ Dp X.K H v d ∧ d.showable = true ∧ d.hasDict = false ∧ d.depth ≤ 60 ∧ d.shown.length ≤ sizeLine ∧ Q (.str d.shown) H) := by
  intro pins s σ H xs us Q I r h
  obtain ⟨v, d, rfl, hd, h1, h2, h3, h4, q⟩ := h
  obtain ⟨u, rfl, r1⟩ := vals1 r
  cases hd with
  | non =>
    cases r1
    exact PySem.P.repr_of_none ⟨.str _, H, I.tok _, ⟨_, rfl⟩, q⟩
  | bl b =>
    cases r1
    refine PySem.P.repr_of_bool ⟨.str _, H, I.tok _, ⟨_, rfl⟩, ?_⟩
    cases b <;> exact q
  | int i =>
    obtain ⟨t, rfl⟩ := r1
    refine PySem.P.repr_of_int ?_ ⟨.str _, H, I.tok _, ⟨_, rfl⟩, q⟩
    simpa [PyData.showable] using h1
  | str y =>
    obtain ⟨t, rfl⟩ := r1
    exact PySem.P.repr_of_str ⟨.str _, H, I.tok _, ⟨_, rfl⟩, q⟩ h4
  | lst hs ha =>
    obtain ⟨as, rd⟩ := Dp.reads I _ _ _ (.lst hs ha) r1
    cases r1
    exact PySem.repr_of_reads' rd h1 (fun z => by rw [h2] at z; cases z) hgd (by omega) (fun _ _ z => z) (fun h' u tk hk => ⟨.str _, H, I.kept hk, ⟨_, rfl⟩, q⟩) h4
  | tup hs ha =>
    obtain ⟨as, rd⟩ := Dp.reads I _ _ _ (.tup hs ha) r1
    cases r1
    exact PySem.repr_of_reads' rd h1 (fun z => by rw [h2] at z; cases z) hgd (by omega) (fun _ _ z => z) (fun h' u tk hk => ⟨.str _, H, I.kept hk, ⟨_, rfl⟩, q⟩) h4
end
/-! tuple * k for k below 2 -/
section
variable (l : Addr) (its : Array Value) (n : Nat) (dd : Option Addr) (sl : Array (Option Value)) (u : Tok)
abbrev tupO (its : Array Value) (n : Nat) (dd : Option Addr) (sl : Array (Option Value)) : Obj := { cls := .type "tuple", dict := dd, data := .seq its n, slots := sl }
theorem tmul_none (x : Int) (b0 : (decide (x < -(2 ^ 63)) || decide (x ≥ 2 ^ 63)) = false) (b1 : (its.isEmpty || x == 1) = false) (b2 : (decide (x ≤ 0) || its.isEmpty) = true) :
    Meets (Builtin.«tuple.__mul__» ⟨[.ref l, .int x u], []⟩) (fun _ R s => s.heap.get? l = some (tupO its n dd sl) ∧ R (.ok (.ret (Value.ref s.heap.objs.size))) { s with heap := s.heap.push { cls := Value.type "tuple", data := Data.seq #[] }, toks := s.toks }) := by
  refine .of_wp fun pg ww AA RR ss hh => ?_
  obtain ⟨h1, h2, h3, h4, h5⟩ := ss
  obtain ⟨hl, hh⟩ := hh
  have ix := AutoSeq1.idx_int
  have n0 := decide_eq_false (p := (decide (x < -(2 ^ 63)) || decide (x ≥ 2 ^ 63)) = true) (by rw [b0]; decide)
  have n1 := decide_eq_false (p := (its.isEmpty || x == 1) = true) (by rw [b1]; decide)
  wp_walk using wpAny_loadPart' hl
  repeat (first
    | (refine wpAny_ite_false n0 ?_; wp_walk using wpAny_loadPart' hl)
    | (refine wpAny_ite_false n1 ?_; wp_walk using wpAny_loadPart' hl)
    | (refine wpAny_ite_true (decide_eq_true b2) ?_; wp_walk using wpAny_loadPart' hl))
  exact ⟨_, rfl, hh⟩
theorem tmul_one : Meets (Builtin.«tuple.__mul__» ⟨[.ref l, .int 1 u], []⟩) (fun _ R s => s.heap.get? l = some (tupO its n dd sl) ∧ R (.ok (.ret (Value.ref l))) s) := by
  refine .of_wp fun pg ww AA RR ss hh => ?_
  obtain ⟨h1, h2, h3, h4, h5⟩ := ss
  obtain ⟨hl, hh⟩ := hh
  have ix := AutoSeq1.idx_int
  have b1 : (its.isEmpty || (1 : Int) == 1) = true := by simp
  wp_walk using wpAny_loadPart' hl
  repeat (first
    | (refine wpAny_ite_false (decide_eq_false (by decide)) ?_; wp_walk using wpAny_loadPart' hl)
    | (refine wpAny_ite_true (decide_eq_true b1) ?_; wp_walk using wpAny_loadPart' hl))
  exact ⟨_, rfl, hh⟩
end
def rRepZ (K : PySem.W.Frag) : R2 := fun x y H Q => ∃ l k xs, x = .ref l ∧ y = .int k ∧ SqT K H l xs ∧ xs ≠ [] ∧ -1000 ≤ k ∧ k ≤ 1000 ∧ xs.length ≤ 1000 ∧
  (k ≤ 0 → ∀ p, H p = none → Q (.ref p) (upd H p (.tup []))) ∧ (k = 1 → Q (.ref l) H) ∧ (2 ≤ k → ∀ p, H p = none → Q (.ref p) (upd H p (.tup (List.replicate k.toNat xs).flatten)))
section
variable {X : Cx}
theorem op_repZ : OpR X (binaryOp .Mult) (rRepZ X.K) := by
  intro pins s σ H x y v u Q I rx ry h
  obtain ⟨l, k, xs, rfl, rfl, hT, hne, h1, h2, hz, q0, q1, q2⟩ := h
  by_cases c2 : 2 ≤ k
  · exact op_repT pins s σ H _ _ v u Q I rx ry ⟨l, k, xs, rfl, rfl, hT, hne, c2, h2, hz, q2 c2⟩
  · cases rx
    obtain ⟨t, rfl⟩ := ry
    obtain ⟨its, r, ⟨⟨cls, dd, data, sl⟩, ho, hc, n, hd⟩, hs⟩ := I.tuple hT
    simp only at hc hd
    subst hc hd
    have hie : its.toArray.isEmpty = false := by
      cases its with
      | nil =>
        cases r
        exact absurd rfl hne
      | cons a b => rfl
    by_cases c1 : k = 1
    · subst c1
      refine wpAny_binaryOp_repeat_ref (T := "tuple") (U := "int") (by decide) ⟨_, ho, rfl⟩ (fun s' => typeIs_int s' 1 t) noFill_tuple_mul F.fills_int_mul F.slot_int_rmul repeat_tuple F.slot_int_index.lookup ?_
      refine call_meets F.slot_int_rmul (typeIs_int s 1 t) F.entry_int_rmul (F.args_int_rmul_2 _ _) (int_rmul_tuple 1 t l its.toArray n dd sl) ⟨ho, rfl, ⟨_, ho, rfl⟩, ?_⟩
      exact call_meets F.slot_tuple_mul ⟨_, ho, rfl⟩ F.entry_tuple_mul (F.args_tuple_mul_2 _ _) (tmul_one l its.toArray n dd sl t) ⟨ho, .ref l, H, I, rfl, q1 rfl⟩
    · have k0 : k ≤ 0 := by omega
      have b0 : (decide (k < -(2 ^ 63)) || decide (k ≥ 2 ^ 63)) = false := by
        rw [decide_eq_false (by omega), decide_eq_false (by omega)] <;> rfl
      have b1 : (its.toArray.isEmpty || k == 1) = false := by
        rw [hie, Bool.false_or]
        exact beq_eq_false_iff_ne.mpr c1
      have b2 : (decide (k ≤ 0) || its.toArray.isEmpty) = true := by
        rw [decide_eq_true k0] <;> rfl
      refine wpAny_binaryOp_repeat_ref (T := "tuple") (U := "int") (by decide) ⟨_, ho, rfl⟩ (fun s' => typeIs_int s' k t) noFill_tuple_mul F.fills_int_mul F.slot_int_rmul repeat_tuple F.slot_int_index.lookup ?_
      refine call_meets F.slot_int_rmul (typeIs_int s k t) F.entry_int_rmul (F.args_int_rmul_2 _ _) (int_rmul_tuple k t l its.toArray n dd sl) ⟨ho, rfl, ⟨_, ho, rfl⟩, ?_⟩
      refine call_meets F.slot_tuple_mul ⟨_, ho, rfl⟩ F.entry_tuple_mul (F.args_tuple_mul_2 _ _) (tmul_none l its.toArray n dd sl t k b0 b1 b2) ⟨ho, ?_⟩
      refine ⟨.ref s.heap.objs.size, _, I.laid (t' := s.toks) (o := .tup []) (fun b ob z => Heap.get?_push_of_some _ z) (Nat.le_refl _) ?_, rfl, q0 k0 _ (I.hok.fresh (Nat.le_refl _))⟩
      exact ⟨Nat.zero_le _, [], .nil, IsTup.new _ _⟩
end
/-! enumerate of a tuple -/
def Iet (K : PySem.W.Frag) (a : Addr) : It where
  go := fun i H => ∃ (xs : List V) (x : V), SqT K H a xs ∧ xs[i]? = some x
  yld := fun i H v H' => ∃ T x, v = .ref T ∧ H T = none ∧ H' = upd H T (.tup [.int (i : Nat), x]) ∧ ∀ xs, SqT K H a xs → xs[i]? = some x
  stop := fun i H => ∃ xs : List V, SqT K H a xs ∧ xs.length = i
theorem enum_new1 {v : Value} {o : Obj} {Hh : Heap → Prop} (B : Begins v o Hh) : Meets (Builtin.«enumerate.__new__» ⟨[.type "enumerate", v], []⟩) (fun _ R s => Hh s.heap ∧
      R (.ok (.ret (.ref (s.heap.push o).objs.size))) { s with heap := (s.heap.push o).push { cls := .type "enumerate", data := .fields #[.none, .bool false, .ref s.heap.objs.size, rawInt 0, .none, .none] } }) := by
  refine .of_wp fun pg ww AA RR ss hh => ?_
  obtain ⟨h1, h2, h3, h4, h5⟩ := ss
  obtain ⟨b1, hh⟩ := hh
  have sube := sub_enumerate
  have qi : ∀ {A' : Around} {E' : Value → Shared → Prop} {Q' : Value → Shared → Prop}, Q' (.ref h1.objs.size) ⟨h1.push o, h2, h3, h4, h5⟩ → wpAny (model pg ww) A' (pyIter v) Q' E' ⟨h1, h2, h3, h4, h5⟩ :=
    fun z => B.iter pg ww _ _ ⟨h1, h2, h3, h4, h5⟩ _ b1 z
  wp_walk
  refine wpAny_stack_any fun st => wpAny_pure ?_
  split
  · rename_i cc _ _ _ _ _
    cases (cc == Value.type "enumerate") <;>
      (wp_walk using qi
       exact ⟨_, rfl, hh⟩)
  · wp_walk using qi
    exact ⟨_, rfl, hh⟩
section
variable {prog : Program} {w : World} {A : Around} {E : Value → Shared → Prop} {s : Shared}
theorem call_enum1 {v : Value} {o : Obj} {Hh : Heap → Prop} {Q : Value → Shared → Prop} (B : Begins v o Hh) (b1 : Hh s.heap)
    (h : ∀ h', IsEnum h' (s.heap.objs.size + 1) s.heap.objs.size 0 .none → h'.get? s.heap.objs.size = some o → h'.objs.size = s.heap.objs.size + 2 → (∀ b o, s.heap.get? b = some o → h'.get? b = some o) → Q (.ref (s.heap.objs.size + 1)) { s with heap := h' }) :
    wpAny (model prog w) A (call (.type "enumerate") [v]) Q E s := by
  refine callType_new F.called_enumerate (by decide) (F.typeCall_enumerate_1 _) (F.newCall_enumerate_1 _) (fun obj => F.args_object_init_2 obj _) F.entry_enumerate_new (enum_new1 B) ⟨b1, ?_⟩
  have z1 : (s.heap.push o).objs.size = s.heap.objs.size + 1 := Heap.size_push ..
  show _ ∧ _
  rw [z1]
  have ie : IsEnum ((s.heap.push o).push { cls := .type "enumerate", data := .fields #[.none, .bool false, .ref s.heap.objs.size, rawInt 0, .none, .none] }) (s.heap.objs.size + 1) s.heap.objs.size 0 .none := by
    have q := Heap.get?_push_size (s.heap.push o) (o := { cls := .type "enumerate", data := .fields #[.none, .bool false, .ref s.heap.objs.size, rawInt 0, .none, .none] }) rfl
    rw [z1] at q
    exact q
  exact ⟨⟨_, ie, rfl⟩, h _ ie (Heap.get?_push_of_some _ (Heap.get?_push_size _ B.free)) (by rw [Heap.size_push, z1]) fun b o' x => Heap.get?_push_of_some _ (Heap.get?_push_of_some _ x)⟩
end
theorem turn_enumT {P : Program} {w : World} {K : PySem.W.Frag} {elts : List Expr} {kk : Nat} {tpos : Pos} (a e it : Addr) (hae : a ≠ e) (hai : a ≠ it) :
    Turn P w K (.Tuple elts kk tpos) (Iet K a) [e, it] e (fun i h => (∃ old, IsEnum h e it ((i : Nat) : Int) old) ∧ h.IsTupleIter it a i ∧ e ≠ it) where
  mem := List.mem_cons_self ..
  obj := by
    rintro i h ⟨⟨old, he⟩, ⟨o, ho, hc, hd⟩, _⟩ b hb
    rcases List.mem_cons.mp hb with rfl | hb
    · exact ⟨_, he, fun v q => nomatch q⟩
    · rw [List.mem_singleton.mp hb]
      exact ⟨o, ho, fun v q => by rw [hd] at q; cases q⟩
  keep := by
    rintro i h h' ⟨⟨old, he⟩, hi, ne⟩ k
    exact ⟨⟨old, k e (by simp) _ he⟩, hi.at fun o q => k it (by simp) o q, ne⟩
  item := by
    rintro X rfl rfl rfl hc i pins s σ H E I hf ⟨⟨old, he⟩, hit, hne⟩ ⟨xs, x, hq, hx⟩
    obtain ⟨its, rv, hT, hz⟩ := I.tuple hq
    have hT' : s.heap.IsTuple a its.toArray := hT
    obtain ⟨u, hu, ru⟩ := rv.get hx
    have le : e < s.heap.objs.size := Heap.lt_size he
    have li : it < s.heap.objs.size := by
      obtain ⟨_, q, _⟩ := hit
      exact Heap.lt_size q
    have hlt : i < its.toArray.size := by
      have := (List.getElem?_eq_some_iff.mp hu).1
      simpa using this
    refine wpAny_pyNext_enum_itemD (Draws.tuple (A := X.A.in1) (I.ok.hd hc) it a hai its.toArray) he ⟨hit, hT'⟩ hlt hne ?_ fun y h' tk hy ho hit' hnew hsz hk => ?_
    · intro hb
      rcases List.mem_cons.mp hb with q | q
      · exact hne q
      · exact hae (List.mem_singleton.mp q).symm
    · have hyu : y = u := by
        have e1 : its.toArray[i]? = some y := hy
        rw [List.getElem?_toArray, hu] at e1
        exact (Option.some.inj e1).symm
      subst hyu
      refine ⟨_, rfl, wpAny_letOwnedTupleGo_enum (s := { s with heap := h', toks := tk + 1 }) ho fun h2 he2 sb => ?_⟩
      have hT2 : h2.get? s.heap.objs.size = some { cls := .type "tuple", data := .seq #[.int i tk, y] } := (sb.2 _ (Nat.ne_of_gt le)).trans hnew
      have nob : ObjOk X.prog X.w (upd H s.heap.objs.size (.tup [.int (i : Nat), x])) h2 s.heap.objs.size (.tup [.int (i : Nat), x]) :=
        ⟨by show 2 ≤ sizeLine; decide, [.int i tk, y], .cons ⟨_, rfl⟩ (.cons ru .nil), ⟨_, hT2, rfl, _, rfl⟩⟩
      have J : Inv X pins σ (upd H s.heap.objs.size (.tup [.int (i : Nat), x])) { s with heap := h2, toks := tk + 1 } :=
        I.turnedNew (ch := [e, it]) (fun b ob hb q => (sb.2 b (fun z => hb (by simp [z]))).trans (hk b ob (fun z => hb (by simp [z])) (fun z => hb (by simp [z])) q)) hf (Nat.le_refl _) nob
      refine ⟨.ref s.heap.objs.size, _, J, rfl, ⟨_, x, rfl, I.hok.fresh (Nat.le_refl _), rfl, fun ys hy => by rw [I.tuple_inj hy hq]; exact hx⟩, ⟨⟨y, ?_⟩, hit'.1.at fun o q => (sb.2 it (Ne.symm hne)).trans q, hne⟩, fun b hb => ?_⟩
      · have e1 : ((i + 1 : Nat) : Int) = (i : Int) + 1 := by omega
        rw [e1]
        exact he2
      · have lb : b < s.heap.objs.size := by
          rcases List.mem_cons.mp hb with z | z
          · rw [z]
            exact le
          · rw [List.mem_singleton.mp z]
            exact li
        rw [upd_ne (Nat.ne_of_lt lb)]
        exact (hf b hb).1
  done := by
    rintro X rfl rfl rfl hc i pins s σ H E I hf ⟨⟨old, he⟩, hit, hne⟩ ⟨xs, hq, hx⟩
    obtain ⟨its, rv, hT, hz⟩ := I.tuple hq
    have hT' : s.heap.IsTuple a its.toArray := hT
    have hn : i = its.toArray.size := by rw [List.size_toArray, ← hx, rv.length]
    subst hn
    obtain ⟨f0, f1, f2, f3, f4, f5⟩ := hf it (by simp)
    exact wpAny_pyNext_enum_endD (Draws.tuple (A := X.A.in1) (I.ok.hd hc) it a hai its.toArray) he ⟨hit, hT'⟩ fun h' eb => ⟨rfl, I.turned (t' := s.toks) (fun b o hb q => eb b o hb q) f0 f1 f3 f4 f5⟩
  self := fun A i s Q E st h => let ⟨⟨_, he⟩, _⟩ := st; wpAny_pyIter_enum he h
def iEnumT (K : PySem.W.Frag) (ta : TA) : TI := fun σ H R => ta σ H fun vs H1 => ∃ a xs, vs = [.ref a] ∧ SqT K H1 a xs ∧ R (Iet K a) H1
theorem pi_enumT {X : Cx} {e : Expr} {ta : TA} {p pos tpos : Pos} {elts : List Expr} {kk : Nat} (hg : Gl X "enumerate") (hm : X.mg "enumerate" = none) (ha : PA X [e] ta) (hs : starEach [e] X.env = [(false, eval e X.env)] := by rfl) :
    PI X (.Tuple elts kk tpos) (.Call (.Name "enumerate" p) [e] [] pos) (iEnumT X.K ta) := by
  refine ⟨fun pins s σ H R I h => ?_⟩
  refine Call_ (ld_blt I hg hm boot_enumerate ?_)
  refine PyProof.Rows.callWith_type1 (thn (ha.run pos pins s σ H _ I h) fun us s1 ⟨vs, H1, I1, r1, q1⟩ => ?_) hs rfl
  obtain ⟨a, xs, rfl, hq, q⟩ := q1
  obtain ⟨u, rfl, ru⟩ := vals1 r1
  cases ru
  obtain ⟨its, rv, hT, hz⟩ := I1.tuple hq
  have hT' : s1.heap.IsTuple a its.toArray := hT
  have la : a < s1.heap.objs.size := by
    obtain ⟨o, ho, _⟩ := hT'
    exact Heap.lt_size ho
  refine call_enum1 (begins_tuple a its.toArray) hT' fun h' ie hit hsz hk => wpAny_pyIter_enum ie ?_
  have I2 : Inv X pins σ H1 { s1 with heap := h' } := I1.kept (t' := s1.toks) hk
  refine ⟨s1.heap.objs.size + 1, [s1.heap.objs.size + 1, s1.heap.objs.size], _, _, H1, rfl, I2, turn_enumT a (s1.heap.objs.size + 1) s1.heap.objs.size (Nat.ne_of_lt (Nat.lt_succ_of_lt la)) (Nat.ne_of_lt la), ⟨⟨.none, ie⟩, ⟨_, hit, rfl, rfl⟩, Nat.succ_ne_self _⟩, fun b hb => ?_, q⟩
  have lb : s1.heap.objs.size ≤ b := by
    rcases List.mem_cons.mp hb with z | z
    · rw [z]
      exact Nat.le_succ _
    · rw [List.mem_singleton.mp z]
      exact Nat.le_refl _
  exact I1.fpOk lb (I1.hok.fresh lb)
section
variable {K : PySem.W.Frag} {a : Addr} {xs : List V} {σ : L2.St}
/-- for i, x in enumerate(tuple) -/
theorem for_enumT {g : TG} {tb : TS} {D : Ends} {H : Hp} (Pv : Nat → L2.St → Hp → Prop) (h0 : Pv 0 σ H) (hl : ∀ i σ H, i ≤ xs.length → Pv i σ H → SqT K H a xs)
    (hs : ∀ i x σ H T, xs[i]? = some x → Pv i σ H → H T = none → g (.ref T) σ (upd H T (.tup [.int (i : Nat), x])) fun σ2 H2 => tb { D with nx := Pv (i + 1), ct := Pv (i + 1), bk := D.nx } σ2 H2) (hd : ∀ σ H, Pv xs.length σ H → D.nx σ H) :
    ∃ W : Nat → Nat → L2.St → Hp → Prop, (∃ m, W 0 m σ H) ∧ ∀ i m σ H, W i m σ H →
      ((Iet K a).stop i H ∧ D.nx σ H) ∨ ((Iet K a).go i H ∧ ∃ N : L2.St → Hp → Prop, (∀ σ' H', N σ' H' → ∃ m', m' < m ∧ W (i + 1) m' σ' H') ∧ ∀ x H', (Iet K a).yld i H x H' → g x σ H' fun σ2 H2 => tb { D with nx := N, ct := N, bk := D.nx } σ2 H2) := by
  refine ⟨fun i m σ H => i + m = xs.length ∧ Pv i σ H, ⟨xs.length, by omega, h0⟩, ?_⟩
  rintro i m σ H ⟨hm, p⟩
  have q := hl i σ H (by omega) p
  by_cases hlt : i < xs.length
  · refine .inr ⟨⟨xs, xs[i], q, List.getElem?_eq_getElem hlt⟩, Pv (i + 1), fun σ' H' p' => ⟨m - 1, by omega, by omega, p'⟩, fun v H' y => ?_⟩
    obtain ⟨T, x, rfl, hT, rfl, y⟩ := y
    exact hs i x σ H T (y xs q) p hT
  · have e : i = xs.length := by omega
    subst e
    exact .inl ⟨⟨xs, q, rfl⟩, hd σ H p⟩
/-- [.. for i, x in enumerate(tuple) ..] -/
theorem lc_enumT {g : TG} {tt : TT} {te : TE} {vs : List Nat} {H1 : Hp} {D : Addr} {Qd : Hp → Prop} (Pv : Nat → Hp → Prop) (h0 : Pv 0 (upd H1 D (.lst []))) (hl : ∀ i H, i ≤ xs.length → Pv i H → SqT K H a xs)
    (hs : ∀ i x H T, xs[i]? = some x → Pv i H → H T = none → g (.ref T) (wipe σ vs) (upd H T (.tup [.int (i : Nat), x])) fun σ2 H2 => wipe σ2 vs = wipe σ vs ∧ tt σ2 H2 fun b H3 =>
      if b = true then te σ2 H3 fun y H4 => ∃ acc, H4 D = some (.lst acc) ∧ acc.length < sizeLine ∧ Pv (i + 1) (upd H4 D (.lst (acc ++ [y]))) else Pv (i + 1) H3) (hd : ∀ H, Pv xs.length H → Qd H) :
    ∃ W : Nat → Nat → Hp → Prop, (∃ m, W 0 m (upd H1 D (.lst []))) ∧ ∀ i m H, W i m H →
      ((Iet K a).stop i H ∧ Qd H) ∨ ((Iet K a).go i H ∧ ∃ Nx : Hp → Prop, (∀ H', Nx H' → ∃ m', m' < m ∧ W (i + 1) m' H') ∧ ∀ x H', (Iet K a).yld i H x H' → g x (wipe σ vs) H' fun σ2 H2 => wipe σ2 vs = wipe σ vs ∧ tt σ2 H2 fun b H3 =>
        if b = true then te σ2 H3 fun y H4 => ∃ acc, H4 D = some (.lst acc) ∧ acc.length < sizeLine ∧ Nx (upd H4 D (.lst (acc ++ [y]))) else Nx H3) := by
  refine ⟨fun i m H => i + m = xs.length ∧ Pv i H, ⟨xs.length, by omega, h0⟩, ?_⟩
  rintro i m H ⟨hm, p⟩
  have q := hl i H (by omega) p
  by_cases hlt : i < xs.length
  · refine .inr ⟨⟨xs, xs[i], q, List.getElem?_eq_getElem hlt⟩, Pv (i + 1), fun H' p' => ⟨m - 1, by omega, by omega, p'⟩, fun v H' y => ?_⟩
    obtain ⟨T, x, rfl, hT, rfl, y⟩ := y
    exact hs i x H T (y xs q) p hT
  · have e : i = xs.length := by omega
    subst e
    exact .inl ⟨⟨xs, q, rfl⟩, hd H p⟩
end
def topS (i : Nat) : Stmt := PySem.Challenge.pw_limitrun_k01_ordinals_of_any_object.main.body.getD i (.Pass ⟨0, 0, 0, 0⟩)
abbrev sScr : Stmt := topS 6
abbrev sDrw : Stmt := topS 7
abbrev sNxt : Stmt := topS 8
abbrev sCho : Stmt := topS 9
abbrev sIde : Stmt := topS 10
theorem scScr : FnScope ["number", "index", "modulus", "found", "turn"] ["number", "index"] (defScope sScr) := ⟨rfl, rfl, rfl, by decide +kernel, rfl, by decide +kernel, by decide +kernel⟩
section
variable {P : Program} {w : World} {K : PySem.W.Frag} {mg : Str → Option Value} {base : Heap}
/-- scramble: some number, not negative -/
def spScr : Sp := fun vs H Q _ => ∃ n i : Int, vs = [.int n, .int i] ∧ ∀ r : Int, 0 ≤ r → Q (.int r) H
theorem mod20 : (20 : Int) ≠ 0 := by decide
theorem modM : (2305843009213693951 : Int) ≠ 0 := by decide
theorem fmod_lo {a : Int} : 0 ≤ a.fmod 2305843009213693951 := Int.fmod_nonneg_of_pos _ (by decide)
theorem fmod_hi {a : Int} : a.fmod 2305843009213693951 < 2305843009213693951 := Int.fmod_lt_of_pos _ (by decide)
theorem ok_scr {f : Addr} {fd : FuncData} {k : Nat} (F : Fun K "_law_scramble" "_law_scramble" sScr f fd) (mr : mg "range" = none) : FnOk P w K mg base CX0 (k + 1) f fd ["number", "index"] spScr := by
  refine F.ok scScr (fun vs H Q E h => ?_) (fun cdv A outer s H vs Q E hr h => ?_)
  · obtain ⟨n, i, rfl, _⟩ := h
    rfl
  · obtain ⟨n, i, rfl, q⟩ := h
    refine ⟨_, pss_cons (ps_set (i := 2) scScr.nd rfl (.inl rfl) pe_int)
      (pss_cons (ps_set (i := 3) scScr.nd rfl (.inl rfl) (pe_op op_modN (pe_op op_add (pe_op op_add (pe_op op_mul (pv 0) pe_int) (pe_op op_mul (pv 1) pe_int)) pe_int) (pv 2)))
      (pss_cons (ps_for PassesOwn.never rfl (pi_range1 rfl mr (pa_cons pe_int pa_nil)) (pg_name (i := 4) scScr.nd rfl (.inl rfl))
        (pss_one (ps_set (i := 3) scScr.nd rfl (.inl rfl) (pe_op op_modN (pe_op op_add (pe_op op_add (pe_op op_add (pe_op op_mul (pv 3) (pv 3)) (pe_op op_mul pe_int (pv 3))) (pe_op op_mul pe_int (pv 4))) (pv 1)) (pv 2)))))
      (pss_one (ps_ret (pe_op op_add (pe_op op_mul (pv 3) (pv 2)) (pe_op op_modN (pe_op op_add (pe_op op_mul (pv 3) pe_int) (pv 1)) (pv 2))))))), ?_⟩
    refine ⟨_, rfl, _, _, rfl, rfl, .inr ⟨by decide, by decide⟩, _, rfl, _, _, rfl, rfl, .inr ⟨by decide, by decide⟩, _, _, rfl, rfl, _, _, rfl, rfl, _, rfl, _, _, rfl, rfl, modM, ?_⟩
    refine ⟨4, rfl, by decide, by decide, for_range (n := 4) (fun t σ H' => ∃ (z : Int) (y : Option V), σ = [some (.int n), some (.int i), some (.int 2305843009213693951), some (.int z), y] ∧ 0 ≤ z ∧ z < 2305843009213693951 ∧ H' = H) ⟨_, none, rfl, fmod_lo, fmod_hi, rfl⟩ ?_ ?_⟩
    · rintro t σ H' ht ⟨z, y, rfl, h0, h1, rfl⟩
      refine ⟨_, rfl, _, rfl, _, _, rfl, rfl, .inl ⟨by omega, by omega⟩, _, rfl, _, _, rfl, rfl, .inl ⟨by decide, by decide⟩, _, _, rfl, rfl, _, rfl, _, _, rfl, rfl, .inl ⟨by decide, by decide⟩, _, _, rfl, rfl, _, rfl, _, _, rfl, rfl, _, rfl, _, _, rfl, rfl, modM, ?_⟩
      exact ⟨_, _, rfl, fmod_lo, fmod_hi, rfl⟩
    · rintro σ H' ⟨z, y, rfl, h0, h1, rfl⟩
      refine ⟨_, rfl, _, rfl, _, _, rfl, rfl, .inl ⟨by omega, by omega⟩, _, rfl, _, _, rfl, rfl, .inr ⟨by decide, by decide⟩, _, rfl, _, _, rfl, rfl, _, rfl, _, _, rfl, rfl, modM, _, _, rfl, rfl, ?_⟩
      refine q _ ?_
      have := fmod_lo (a := z * 48271 + i)
      omega

/-! the source of draws: [numbers, i, x, y], all not negative -/
def Src (H : Hp) (a n : Addr) : Prop := ∃ (i x y : Int) (ns : List Int), H a = some (.lst [.ref n, .int i, .int x, .int y]) ∧ H n = some (.lst (ns.map V.int)) ∧ (∀ z ∈ ns, 0 ≤ z) ∧ 0 ≤ i ∧ 0 ≤ x ∧ 0 ≤ y ∧ ns.length ≤ 20
/-- the source stands at a still; all else that was tracked is as it was -/
def Stp (a n : Addr) (H H' : Hp) : Prop := Src H' a n ∧ ∀ c o, H c = some o → c ≠ a → H' c = some o
theorem Stp.trans {a n : Addr} {H H1 H2 : Hp} (h : Stp a n H H1) (h2 : Stp a n H1 H2) : Stp a n H H2 := ⟨h2.1, fun c o e z => h2.2 c o (h.2 c o e z) z⟩
theorem Stp.seq {a m l : Addr} {H H' : Hp} {xs : List V} (h : Stp a m H H') (n : l ≠ a) (q : SqL K H l xs) : SqL K H' l xs := by
  rcases q with (q | ⟨o, q⟩) | q
  · exact .inl (.inl (h.2 _ _ q n))
  · exact .inl (.inr ⟨o, h.2 _ _ q n⟩)
  · exact .inr q
theorem Src.ne {H : Hp} {a n : Addr} {i x y : Int} {ns : List Int} (h : H a = some (.lst [.ref n, .int i, .int x, .int y])) (h2 : H n = some (.lst (ns.map V.int))) : n ≠ a := fun e => by
  rw [e, h] at h2
  cases ns with
  | nil => cases h2
  | cons z r => cases h2
theorem same_upd {H : Hp} {p : Addr} {o : HO} (h : H p = none) : Same H (upd H p o) := fun b x e => by
  rw [upd_ne (ne_of_none e h)]
  exact e
theorem take_min (xs : List V) (n : Nat) : xs.take (min n xs.length) = xs.take n := by
  by_cases h : n ≤ xs.length
  · rw [Nat.min_eq_left h]
  · rw [Nat.min_eq_right (by omega), List.take_length, List.take_of_length_le (by omega)]
theorem cut_to (xs : List V) (n : Nat) : cutV xs none (some (n : Int)) = xs.take n := by
  unfold cutV
  rw [HT.sIx_none, HT.sIx_nat, List.drop_zero, Nat.sub_zero, take_min]
theorem cut_mid (xs : List V) (n m : Nat) (hnm : n ≤ m) : cutV xs (some (n : Int)) (some (m : Int)) = (xs.drop n).take (m - n) := by
  unfold cutV
  rw [HT.sIx_nat, HT.sIx_nat]
  by_cases h : n ≤ xs.length
  · rw [Nat.min_eq_left h]
    by_cases h2 : m ≤ xs.length
    · rw [Nat.min_eq_left h2]
    · rw [Nat.min_eq_right (by omega), List.take_of_length_le (by rw [List.length_drop]; omega), List.take_of_length_le (by rw [List.length_drop]; omega)]
  · rw [Nat.min_eq_right (show xs.length ≤ n by omega), List.drop_of_length_le (Nat.le_refl _), List.drop_of_length_le (show xs.length ≤ n by omega), List.take_nil, List.take_nil]
theorem cut_from (xs : List V) (n : Nat) : cutV xs (some (n : Int)) none = xs.drop n := by
  unfold cutV
  rw [HT.sIx_none, HT.sIx_nat]
  by_cases h : n ≤ xs.length
  · rw [Nat.min_eq_left h, List.take_of_length_le (by rw [List.length_drop]; omega)]
  · rw [Nat.min_eq_right (by omega), List.drop_of_length_le (by omega), List.drop_of_length_le (by omega), List.take_nil]
/-- for i, x in enumerate(list) -/
theorem for_enum {a : Addr} {xs : List V} {g : TG} {tb : TS} {D : Ends} {σ : L2.St} {H : Hp} (Pv : Nat → L2.St → Hp → Prop) (h0 : Pv 0 σ H) (hl : ∀ i σ H, i ≤ xs.length → Pv i σ H → SqL K H a xs)
    (hs : ∀ i x σ H T, xs[i]? = some x → Pv i σ H → H T = none → g (.ref T) σ (upd H T (.tup [.int (i : Nat), x])) fun σ2 H2 => tb { D with nx := Pv (i + 1), ct := Pv (i + 1), bk := D.nx } σ2 H2) (hd : ∀ σ H, Pv xs.length σ H → D.nx σ H) :
    ∃ W : Nat → Nat → L2.St → Hp → Prop, (∃ m, W 0 m σ H) ∧ ∀ i m σ H, W i m σ H →
      ((Ite K a).stop i H ∧ D.nx σ H) ∨ ((Ite K a).go i H ∧ ∃ N : L2.St → Hp → Prop, (∀ σ' H', N σ' H' → ∃ m', m' < m ∧ W (i + 1) m' σ' H') ∧ ∀ x H', (Ite K a).yld i H x H' → g x σ H' fun σ2 H2 => tb { D with nx := N, ct := N, bk := D.nx } σ2 H2) := by
  refine ⟨fun i m σ H => i + m = xs.length ∧ Pv i σ H, ⟨xs.length, by omega, h0⟩, ?_⟩
  rintro i m σ H ⟨hm, p⟩
  have q := hl i σ H (by omega) p
  by_cases hlt : i < xs.length
  · refine .inr ⟨⟨xs, xs[i], q, List.getElem?_eq_getElem hlt⟩, Pv (i + 1), fun σ' H' p' => ⟨m - 1, by omega, by omega, p'⟩, fun v H' y => ?_⟩
    obtain ⟨T, x, rfl, hT, rfl, y⟩ := y
    exact hs i x σ H T (y xs q) p hT
  · have e : i = xs.length := by omega
    subst e
    exact .inl ⟨⟨xs, q, Nat.le_refl _⟩, hd σ H p⟩
/-! ### draws -/
def absI (i : Int) : Int := if i < 0 then -i else i
theorem absI_nn (i : Int) : 0 ≤ absI i := by
  unfold absI
  split <;> omega
theorem scDrw : FnScope ["script", "number", "numbers", "index"] ["script"] (defScope sDrw) := ⟨rfl, rfl, rfl, by decide +kernel, rfl, by decide +kernel, by decide +kernel⟩
def spDrw (K : PySem.W.Frag) : Sp := fun vs H Q _ => ∃ (a : Addr) (ns : List Int), vs = [.ref a] ∧ SqL K H a (ns.map V.int) ∧ ns.length ≤ 63 ∧ ∀ H' p n, Same H H' → H p = none → H n = none → Src H' p n → Q (.ref p) H'
theorem map_get {ns : List Int} {i : Nat} {y : V} (h : (ns.map V.int)[i]? = some y) : ∃ z, ns[i]? = some z ∧ y = .int z := by
  rw [List.getElem?_map] at h
  cases e : ns[i]? with
  | none =>
    rw [e] at h
    cases h
  | some z =>
    rw [e] at h
    exact ⟨z, rfl, (Option.some.inj h).symm⟩
theorem ok_drw {f : Addr} {fd : FuncData} {k : Nat} (F : Fun K "_law_draws" "_law_draws" sDrw f fd) (me : mg "enumerate" = none) (ma : mg "abs" = none) : FnOk P w K mg base CX0 (k + 1) f fd ["script"] (spDrw K) := by
  refine F.ok scDrw (fun vs H Q E h => ?_) (fun cdv A outer s H vs Q E hr h => ?_)
  · obtain ⟨a, ns, rfl, _⟩ := h
    rfl
  · obtain ⟨a, ns, rfl, hS, hlen, q⟩ := h
    refine ⟨_, pss_cons (ps_setLc (i := 2) (own := [("number", 1)]) (g := gName 1) (tt := tYes) (by rfl) scDrw.nd rfl rfl (sw_true rfl rfl rfl (by decide +kernel)) (pi_list (pe_slice sl_list (pv 0) po_none (po_some pe_int))) (blkOk_by (N := ["script", "number", "numbers", "index"]) (sc := defScope sDrw) (by decide +kernel))
        (fun _ _ _ _ _ => pg_name (i := 1) scDrw.nd rfl (.inl rfl)) (fun _ _ _ _ _ => pts_nil) (fun _ _ _ _ _ => pe_callB call_abs (by rfl) ma (by decide +kernel) (pa_cons (pv 1) pa_nil)))
      (pss_cons (ps_for PassesOwn.never rfl (pi_enum (by rfl) me (pa_cons (pe_slice sl_list (pv 0) (po_some pe_int) (po_some pe_int)) pa_nil)) (pg_tup rfl (pgs_cons (pg_name (i := 3) scDrw.nd rfl (.inl rfl)) (pgs_cons (pg_name (i := 1) scDrw.nd rfl (.inl rfl)) pgs_nil)))
        (pss_one (ps_asg (pe_op op_add (pe_ix ix_list (pv 2) (pe_op op_modN (pv 3) pe_int) (fun _ _ => rfl)) (pe_callB call_abs (by rfl) ma (by decide +kernel) (pa_cons (pv 1) pa_nil))) (pg_sub (pv 2) (pe_op op_modN (pv 3) pe_int) set_list))))
      (pss_one (ps_ret (pe_lst (pa_cons (pv 2) (pa_cons pe_int (pa_cons pe_int (pa_cons pe_int pa_nil)))))))), ?_⟩
    have e1 : cutV (ns.map V.int) none (some 20) = (ns.take 20).map V.int := by
      rw [List.map_take]
      exact cut_to _ 20
    have e2 : cutV (ns.map V.int) (some 20) (some 60) = ((ns.drop 20).take 40).map V.int := by
      rw [List.map_take, List.map_drop]
      exact cut_mid _ 20 60 (by omega)
    refine ⟨.ref a, rfl, 20, rfl, a, ns.map V.int, rfl, hS, fun c nc => ⟨c, rfl, ⟨_, .inl (.inl upd_same)⟩, fun D nD => lc_list (K := K) (a := c) (xs := (ns.take 20).map V.int)
      (fun i H' => Same H H' ∧ H' c = some (.lst ((ns.take 20).map V.int)) ∧ H' D = some (.lst ((((ns.take 20).take i).map absI).map V.int))) ?_ ?_ ?_ ?_⟩⟩
    · have ncD : c ≠ D := fun e => by
        rw [← e, upd_same] at nD
        cases nD
      refine ⟨(same_upd nc).trans (same_upd nD), ?_, upd_same⟩
      rw [upd_ne ncD, upd_same, e1]
    · exact fun i H' _ h => .inl (.inl h.2.1)
    · rintro i y H1 hy ⟨sm, hc, hD⟩
      obtain ⟨z, hz, rfl⟩ := map_get hy
      refine ⟨rfl, _, rfl, z, rfl, _, hD, ?_, fun b o e => ?_, ?_, ?_⟩
      · rw [List.length_map, List.length_map]
        exact small1000 (by simp only [List.length_take]; omega)
      · rw [upd_ne (ne_of_none e ((same_upd nc).free nD))]
        exact sm _ _ e
      · have ncD : c ≠ D := fun e => by
          rw [← e, upd_same] at nD
          cases nD
        rw [upd_ne ncD]
        exact hc
      · rw [upd_same, List.take_add_one (l := List.take 20 ns), hz]
        simp only [Option.toList, List.map_append, List.map_cons, List.map_nil]
        rfl
    · rintro H1 ⟨sm, hc, hD⟩
      rw [List.length_map, List.take_length] at hD
      have hnD : H D = none := (same_upd nc).free nD
      generalize hms : (ns.take 20).map absI = ms at hD
      have hms0 : ∀ z ∈ ms, 0 ≤ z := fun z h => by
        rw [← hms] at h
        obtain ⟨u, _, rfl⟩ := List.mem_map.mp h
        exact absI_nn u
      have hml : ms.length = min 20 ns.length := by rw [← hms, List.length_map, List.length_take]
      refine ⟨.ref a, rfl, 20, rfl, 60, rfl, a, ns.map V.int, rfl, sm.seq hS, fun c2 nc2 => ⟨c2, _, rfl, .inl (.inl upd_same), ?_⟩⟩
      have nD2 : D ≠ c2 := ne_of_none hD nc2
      refine for_enum (K := K) (a := c2) (xs := ((ns.drop 20).take 40).map V.int) (fun i σ H' => ∃ (y1 y3 : Option V) (ks : List Int), σ = [some (.ref a), y1, some (.ref D), y3] ∧ Same H H' ∧ H' c2 = some (.lst (((ns.drop 20).take 40).map V.int)) ∧ H' D = some (.lst (ks.map V.int)) ∧ ks.length = ms.length ∧ ∀ z ∈ ks, 0 ≤ z) ?_ ?_ ?_ ?_
      · refine ⟨_, none, ms, rfl, sm.trans (same_upd nc2), ?_, ?_, rfl, hms0⟩
        · rw [upd_same, e2]
        · rw [upd_ne nD2]
          exact hD
      · rintro i σ H' _ ⟨_, _, _, _, _, hc2, _⟩
        exact .inl (.inl hc2)
      · rintro i x σ H' T hx ⟨y1, y3, ks, rfl, sm', hc2, hD', hl', hn'⟩ hT
        obtain ⟨z, hz, rfl⟩ := map_get hx
        have hi : i < ((ns.drop 20).take 40).length := (List.getElem?_eq_some_iff.mp hz).1
        rw [List.length_take, List.length_drop] at hi
        have hj : i % 20 < ks.length := by
          rw [hl', hml, Nat.min_eq_left (by omega)]
          exact Nat.mod_lt _ (by decide)
        have ej : ((i : Int)).fmod 20 = ((i % 20 : Nat) : Int) := by
          rw [Int.fmod_eq_emod_of_nonneg _ (by decide)]
          omega
        have hDT : D ≠ T := ne_of_none hD' hT
        have hD2 : (upd H' T (.tup [.int (i : Nat), .int z])) D = some (.lst (ks.map V.int)) := by
          rw [upd_ne hDT]
          exact hD'
        have gk : (ks.map V.int)[i % 20]? = some (.int ks[i % 20]) := by
          rw [List.getElem?_map, List.getElem?_eq_getElem hj]
          rfl
        refine ⟨T, _, rfl, .inl (.inl upd_same), rfl, _, _, rfl, _, _, rfl, rfl, ?_⟩
        refine ⟨_, rfl, _, rfl, _, _, rfl, rfl, mod20, D, ks.map V.int, _, _, rfl, rfl, .inl (.inl hD2), at_of ej gk, _, rfl, z, rfl, _, _, rfl, rfl, ?_⟩
        refine ⟨_, rfl, _, rfl, _, _, rfl, rfl, mod20, D, ks.map V.int, _, i % 20, rfl, rfl, hD2, ?_, ?_⟩
        · rw [ej, List.length_map]
          exact Evl.ixN_nat hj
        · refine ⟨_, _, ks.set (i % 20) (ks[i % 20] + absI z), rfl, fun b o e => ?_, ?_, ?_, by rw [List.length_set, hl'], ?_⟩
          · have nb : b ≠ D := ne_of_none e hnD
            rw [upd_ne nb, upd_ne (ne_of_none (sm' _ _ e) hT)]
            exact sm' _ _ e
          · have nc2D : c2 ≠ D := nD2.symm
            rw [upd_ne nc2D, upd_ne (ne_of_none hc2 hT)]
            exact hc2
          · rw [upd_same, List.map_set]
            rfl
          · intro u hu
            rcases List.mem_or_eq_of_mem_set hu with h | rfl
            · exact hn' _ h
            · have := hn' _ (List.getElem_mem hj)
              have := absI_nn z
              omega
      · rintro σ H' ⟨y1, y3, ks, rfl, sm', hc2, hD', hl', hn'⟩
        refine ⟨_, rfl, by show 4 ≤ sizeLine; decide, fun p np => ?_⟩
        refine q _ p D (sm'.trans (same_upd np)) (sm'.free np) hnD ⟨0, 0, 0, ks, upd_same, ?_, hn', by decide, by decide, by decide, by rw [hl', hml]; omega⟩
        rw [upd_ne (ne_of_none hD' np)]
        exact hD'
end
section
variable {P : Program} {w : World} {K : PySem.W.Frag} {mg : Str → Option Value} {base : Heap}
/-! ### next -/
theorem scNxt : FnScope ["source", "bound", "numbers", "index", "number", "found"] ["source", "bound"] (defScope sNxt) := ⟨rfl, rfl, rfl, by decide +kernel, rfl, by decide +kernel, by decide +kernel⟩
def spNxt : Sp := fun vs H Q _ => ∃ (a n : Addr) (b : Int), vs = [.ref a, .int b] ∧ Src H a n ∧ 0 < b ∧ b.natAbs < 2 ^ 200 ∧ ∀ (r : Int) H', 0 ≤ r → r < b → Stp a n H H' → Q (.int r) H'
theorem dp_ints {H : Hp} : ∀ ns : List Int, DpAll K H (ns.map V.int) (ns.map PyData.int)
  | [] => .nil
  | z :: r => .cons (.int z) (dp_ints r)
theorem lay_ints : ∀ ns : List Int, PyData.canLayAll0 (ns.map PyData.int) = true
  | [] => by simp [PyData.canLayAll0]
  | z :: r => by
    have ih := lay_ints r
    simp [PyData.canLayAll0, PyData.canLay0, ih]
theorem depth_ints : ∀ ns : List Int, PyData.depthAll (ns.map PyData.int) = 0
  | [] => by simp [PyData.depthAll]
  | z :: r => by
    have ih := depth_ints r
    simp [PyData.depthAll, PyData.depth, ih]
theorem shaped_ints (ns : List Int) : SeqAt.shaped (.list (ns.map PyData.int)) = true := by
  unfold SeqAt.shaped
  simp [PyData.canLay0, PyData.depth, lay_ints, depth_ints]
theorem mod1e9 : (1000000007 : Int) ≠ 0 := by decide
/-- the source's four places -/
abbrev src4 (n : Addr) (i x y : Int) : HO := .lst [.ref n, .int i, .int x, .int y]
theorem ok_nxt {f fS : Addr} {fd fdS : FuncData} {k : Nat} (F : Fun K "_law_next" "_law_next" sNxt f fd) (ml : mg "len" = none) (FS : Fun K "_law_scramble" "_law_scramble" sScr fS fdS) (bS : Binds K fdS ["number", "index"] []) (gS : mg "_law_scramble" = some (.ref fS)) (mr : mg "range" = none) :
    FnOk P w K mg base CX0 (k + 2) f fd ["source", "bound"] spNxt := by
  have GS : FnOk P w K mg base CX0 (k + 1) fS fdS ["number", "index"] spScr := ok_scr FS mr
  refine F.ok scNxt (fun vs H Q E h => ?_) (fun cdv A outer s H vs Q E hr h => ?_)
  · obtain ⟨a, n, b, rfl, _⟩ := h
    rfl
  · obtain ⟨a, n, b, rfl, ⟨i, x, y, ns, hA, hN, hpos, hi, hx, hy, hlen⟩, hb, hb2, q⟩ := h
    have nna : n ≠ a := Src.ne hA hN
    refine ⟨_, C8.pss_cut (ps_if (pt_cmpR op_lt (pe_ix ix_list (pv 0) pe_int (fun _ _ => rfl)) (pv 1) (nomark _))
        (pss_cons (ps_par (i := 2) (j := 3) (by rfl) scNxt.nd rfl rfl (by decide) rfl rfl (pa_cons (pe_ix ix_list (pv 0) pe_int (fun _ _ => rfl)) (pa_cons (pe_ix ix_list (pv 0) pe_int (fun _ _ => rfl)) pa_nil)) (by rfl))
        (C8.pss_cut (ps_set (i := 4) scNxt.nd rfl (.inl rfl) (pe_ifExp (pt_cmpR (op_neD hr.units) (pv 2) (pe_lst pa_nil) (nomark _)) (pe_ix ix_list (pv 2) (pe_op op_modN (pv 3) (pe_callB call_len_seq (by rfl) ml PySem.boot_len (pa_cons (pv 2) pa_nil))) (fun _ _ => rfl)) pe_int))
        (C8.pss_cut (ps_if (PW.pt (pw_or (pt_cmpR op_ge (pv 3) (pe_callB call_len_seq (by rfl) ml PySem.boot_len (pa_cons (pv 2) pa_nil)) (nomark _)) (pw_or1 (pt_cmpR op_lt (pv 4) pe_int (nomark _)))))
            (pss_one (ps_set (i := 4) scNxt.nd rfl (.inl rfl) (pe_call GS hr (by rfl) gS FS.kp bS .nil pass0 (pa_cons (pe_op op_modN (pv 4) pe_int) (pa_cons (pv 3) pa_nil))))) pss_nil)
        (pss_cons (ps_asg (pe_op op_add (pv 3) pe_int) (pg_sub (pv 0) pe_int set_list))
        (pss_cons (ps_asg (pv 4) (pg_sub (pv 0) pe_int set_list))
        (pss_one (ps_asg (pv 4) (pg_sub (pv 0) pe_int set_list)))))))) pss_nil)
      (pss_cons (ps_set (i := 5) scNxt.nd rfl (.inl rfl) (pe_op op_modN (pe_ix ix_list (pv 0) pe_int (fun _ _ => rfl)) (pv 1)))
      (pss_cons (ps_asg (pe_op op_fdivW (pe_ix ix_list (pv 0) pe_int (fun _ _ => rfl)) (pv 1)) (pg_sub (pv 0) pe_int set_list))
      (pss_cons (ps_asg (pe_op op_fdivW (pe_ix ix_list (pv 0) pe_int (fun _ _ => rfl)) (pv 1)) (pg_sub (pv 0) pe_int set_list))
      (pss_one (ps_ret (pv 5)))))), ?_⟩
    refine ⟨fun σ H' => ∃ (y2 y3 y4 : Option V) (i' x' y' : Int), σ = [some (.ref a), some (.int b), y2, y3, y4, none] ∧ H' a = some (src4 n i' x' y') ∧ 0 ≤ i' ∧ 0 ≤ x' ∧ 0 ≤ y' ∧ ∀ c o, H c = some o → c ≠ a → H' c = some o, ?_, ?_⟩
    · refine ⟨.ref a, rfl, a, _, 3, _, rfl, rfl, .inl (.inl hA), atI_nat (j := 3) rfl, _, rfl, y, b, rfl, rfl, _, rfl, ite2 (fun _ => ?_) (fun _ => ?_)⟩
      · refine ⟨.ref a, rfl, a, _, 0, _, rfl, rfl, .inl (.inl hA), atI_nat (j := 0) rfl, .ref a, rfl, a, _, 1, _, rfl, rfl, .inl (.inl hA), atI_nat (j := 1) rfl, _, _, rfl, ?_⟩
        refine ⟨fun σ H' => ∃ z : Int, σ = [some (.ref a), some (.int b), some (.ref n), some (.int i), some (.int z), none] ∧ 0 ≤ z ∧ Same H H', ?_, ?_⟩
        · refine ⟨.ref n, rfl, by show 0 ≤ sizeLine; decide, fun p np => ?_⟩
          have hN1 : (upd H p (.lst [])) n = some (.lst (ns.map V.int)) := same_upd np _ _ hN
          refine ⟨.list (ns.map PyData.int), .list [], .lst (.inl (.inl hN1)) (dp_ints ns), .lst (.inl (.inl upd_same)) .nil, shaped_ints ns, shaped_ints [], _, rfl, ite2 (fun hne => ?_) (fun he => ?_)⟩
          · have nz : ns ≠ [] := fun e => by
              subst e
              revert hne
              decide +kernel
            have hl0 : 0 < ns.length := List.length_pos_iff.mpr nz
            have hj : i.toNat % ns.length < ns.length := Nat.mod_lt _ hl0
            have ej : i.fmod (ns.length : Int) = ((i.toNat % ns.length : Nat) : Int) := by
              rw [Int.fmod_eq_emod_of_nonneg _ (by omega), Int.natCast_emod]
              congr 1
              omega
            have gk : (ns.map V.int)[i.toNat % ns.length]? = some (.int ns[i.toNat % ns.length]) := by
              rw [List.getElem?_map, List.getElem?_eq_getElem hj]
              rfl
            refine ⟨.ref n, rfl, _, rfl, .ref n, rfl, n, _, rfl, .inl (.inl (.inl hN1)), _, _, rfl, rfl, ?_, n, _, _, _, rfl, rfl, .inl (.inl hN1), at_of (by rw [List.length_map]; exact ej) gk, ?_⟩
            · rw [List.length_map]
              omega
            · exact ⟨_, rfl, hpos _ (List.getElem_mem hj), same_upd np⟩
          · exact ⟨0, rfl, by decide, same_upd np⟩
        · rintro σ H1 ⟨z, rfl, hz, sm⟩
          have hN1 := sm _ _ hN
          have hA1 := sm _ _ hA
          refine ⟨fun σ H' => ∃ z : Int, σ = [some (.ref a), some (.int b), some (.ref n), some (.int i), some (.int z), none] ∧ 0 ≤ z ∧ Same H H', ?_, ?_⟩
          · refine ⟨_, rfl, .ref n, rfl, n, _, rfl, .inl (.inl (.inl hN1)), _, _, rfl, rfl, _, rfl, ite2 (fun _ => ?_) (fun _ => ?_)⟩
            · exact ⟨_, rfl, _, _, rfl, rfl, mod1e9, _, rfl, _, _, rfl, fun r h0 => ⟨r, rfl, h0, sm⟩⟩
            · refine ⟨_, rfl, _, _, rfl, rfl, _, rfl, ite2 (fun _ => ?_) (fun _ => ?_)⟩
              · exact ⟨_, rfl, _, _, rfl, rfl, mod1e9, _, rfl, _, _, rfl, fun r h0 => ⟨r, rfl, h0, sm⟩⟩
              · exact ⟨z, rfl, hz, sm⟩
          · rintro σ H2 ⟨z2, rfl, hz2, sm2⟩
            have hA2 := sm2 _ _ hA
            refine ⟨_, rfl, _, _, rfl, rfl, .ref a, rfl, a, _, _, 1, rfl, rfl, hA2, rfl, ?_⟩
            refine ⟨_, rfl, .ref a, rfl, a, _, _, 2, rfl, rfl, upd_same, rfl, ?_⟩
            refine ⟨_, rfl, .ref a, rfl, a, _, _, 3, rfl, rfl, upd_same, rfl, ?_⟩
            refine ⟨_, _, _, i + 1, z2, z2, rfl, upd_same, by omega, hz2, hz2, fun c o e ne => ?_⟩
            rw [upd_ne ne, upd_ne ne, upd_ne ne]
            exact sm2 _ _ e
      · exact ⟨none, none, none, i, x, y, rfl, hA, hi, hx, hy, fun c o e _ => e⟩
    · rintro σ H' ⟨y2, y3, y4, i', x', y', rfl, hA', hi', hx', hy', kp⟩
      have bne : b ≠ 0 := by omega
      have wd : ∀ u : Int, CDivW u b := fun u => wide_div hb hb2 (by decide) (by decide)
      refine ⟨.ref a, rfl, a, _, 2, _, rfl, rfl, .inl (.inl hA'), atI_nat (j := 2) rfl, _, rfl, _, _, rfl, rfl, bne, ?_⟩
      refine ⟨.ref a, rfl, a, _, 2, _, rfl, rfl, .inl (.inl hA'), atI_nat (j := 2) rfl, _, rfl, _, _, rfl, rfl, wd _, .ref a, rfl, a, _, _, 2, rfl, rfl, hA', rfl, ?_⟩
      refine ⟨.ref a, rfl, a, _, 3, _, rfl, rfl, .inl (.inl upd_same), atI_nat (j := 3) rfl, _, rfl, _, _, rfl, rfl, wd _, .ref a, rfl, a, _, _, 3, rfl, rfl, upd_same, rfl, ?_⟩
      refine ⟨_, rfl, q _ _ (Int.fmod_nonneg_of_pos _ hb) (Int.fmod_lt_of_pos _ hb) ⟨⟨i', x' / b, y' / b, ns, upd_same, ?_, hpos, hi', Int.ediv_nonneg hx' (by omega), Int.ediv_nonneg hy' (by omega), hlen⟩, fun c o e ne => ?_⟩⟩
      · rw [upd_ne nna, upd_ne nna]
        exact kp _ _ hN nna
      · rw [upd_ne ne, upd_ne ne]
        exact kp _ _ e ne
/-! ### choose -/
theorem scCho : FnScope ["source", "items"] ["source", "items"] (defScope sCho) := ⟨rfl, rfl, rfl, by decide +kernel, rfl, by decide +kernel, by decide +kernel⟩
def spCho (K : PySem.W.Frag) : Sp := fun vs H Q _ => ∃ (a n l : Addr) (xs : List V), vs = [.ref a, .ref l] ∧ Src H a n ∧ SqL K H l xs ∧ l ≠ a ∧ xs ≠ [] ∧ xs.length ≤ 1000000 ∧ ∀ v H', v ∈ xs → Stp a n H H' → Q v H'
theorem ok_cho {f fN : Addr} {fd fdN : FuncData} {k : Nat} (F : Fun K "_law_choose" "_law_choose" sCho f fd) (ml : mg "len" = none) (GN : FnOk P w K mg base CX0 (k + 2) fN fdN ["source", "bound"] spNxt) (kN : PySem.W.keepIn K (.ref fN) = true) (bN : Binds K fdN ["source", "bound"] []) (gN : mg "_law_next" = some (.ref fN)) :
    FnOk P w K mg base CX0 (k + 3) f fd ["source", "items"] (spCho K) := by
  refine F.ok scCho (fun vs H Q E h => ?_) (fun cdv A outer s H vs Q E hr h => ?_)
  · obtain ⟨a, n, l, xs, rfl, _⟩ := h
    rfl
  · obtain ⟨a, n, l, xs, rfl, hs, hl, hne, hx, hz, q⟩ := h
    refine ⟨_, pss_one (ps_ret (pe_ix ix_list (pv 1) (pe_call GN hr (by rfl) gN kN bN .nil pass0 (pa_cons (pv 0) (pa_cons (pe_callB call_len_seq (by rfl) ml PySem.boot_len (pa_cons (pv 1) pa_nil)) pa_nil))) (fun _ _ => rfl))), ?_⟩
    have hlp : 0 < xs.length := List.length_pos_iff.mpr hx
    refine ⟨.ref l, rfl, .ref a, rfl, .ref l, rfl, l, xs, rfl, .inl hl, a, n, _, rfl, hs, by omega, ?_, fun r H' h0 h1 st => ?_⟩
    · rw [Int.natAbs_natCast]
      exact Nat.lt_of_le_of_lt hz (by decide)
    · obtain ⟨j, rfl⟩ := Int.eq_ofNat_of_zero_le h0
      have hj : j < xs.length := by omega
      exact ⟨l, xs, _, _, rfl, rfl, st.seq hne hl, atI_nat (List.getElem?_eq_getElem hj), q _ _ (List.getElem_mem hj) st⟩
/-! ### identical -/
theorem scIde : FnScope ["found", "expected"] ["found", "expected"] (defScope sIde) := ⟨rfl, rfl, rfl, by decide +kernel, rfl, by decide +kernel, by decide +kernel⟩
/-- data that is shown -/
structure Shn (d : PyData) : Prop where
  sh : d.showable = true
  nd : d.hasDict = false
  dp : d.depth ≤ 60
  sz : d.shown.length ≤ sizeLine
def spIde (K : PySem.W.Frag) : Sp := fun vs H Q _ => ∃ (x y : V) (d : PyData), vs = [x, y] ∧ Dp K H x d ∧ Dp K H y d ∧ Shn d ∧ Q (.bl true) H
theorem ok_ide {f : Addr} {fd : FuncData} {k : Nat} (F : Fun K "_law_identical" "_law_identical" sIde f fd) (mp : mg "repr" = none) : FnG P w K mg base (k + 1) f fd ["found", "expected"] (spIde K) := by
  refine Fun_okG F scIde (fun vs H Q E h => ?_) (fun cdv A outer s H vs Q E hg hr h => ?_)
  · obtain ⟨x, y, d, rfl, _⟩ := h
    rfl
  · obtain ⟨x, y, d, rfl, hx, hy, hd, q⟩ := h
    have hun : (cxOf CX0 P w K mg base ["found", "expected"] "_law_identical" (defScope sIde) f cdv A outer s H E).nox.A.units + 100 < cLine := by
      have := hr.un
      show (A.deeper _).units + 100 < cLine
      omega
    refine ⟨_, pss_one (ps_ret (pe_cmpR op_eq (pe_callB (call_reprD hg hun) (by rfl) mp (by decide +kernel) (pa_cons (pv 0) pa_nil)) (pe_callB (call_reprD hg hun) (by rfl) mp (by decide +kernel) (pa_cons (pv 1) pa_nil)) (nomark _))), ?_⟩
    refine ⟨x, rfl, x, d, rfl, hx, hd.sh, hd.nd, hd.dp, hd.sz, y, rfl, y, d, rfl, hy, hd.sh, hd.nd, hd.dp, hd.sz, rfl, ?_⟩
    rw [decide_eq_true rfl]
    exact q
end
section
variable {P : Program} {w : World} {K : PySem.W.Frag} {mg : Str → Option Value} {base : Heap}
theorem eqv_ints : ∀ as bs : List Int, PyData.eqvAll (as.map PyData.int) (bs.map PyData.int) = decide (as = bs)
  | [], [] => by simp [PyData.eqvAll]
  | [], b :: bs => by simp [PyData.eqvAll]
  | a :: as, [] => by simp [PyData.eqvAll]
  | a :: as, b :: bs => by
    have ih := eqv_ints as bs
    rw [List.map_cons, List.map_cons]
    show (PyData.eqvAll (.int a :: as.map PyData.int) (.int b :: bs.map PyData.int)) = _
    rw [PyData.eqvAll, ih, PyData.eqv]
    by_cases e1 : a = b <;> by_cases e2 : as = bs <;> simp [e1, e2]
theorem shaped_intsT (ns : List Int) : SeqAt.shaped (.tuple (ns.map PyData.int)) = true := by
  unfold SeqAt.shaped
  simp [PyData.canLay0, PyData.depth, lay_ints, depth_ints]
theorem dp_tup {H : Hp} {a : Addr} {ns : List Int} (h : SqT K H a (ns.map V.int)) : Dp K H (.ref a) (.tuple (ns.map PyData.int)) := .tup h (dp_ints ns)
theorem eqvT (as bs : List Int) : PyData.eqv (.tuple (as.map PyData.int)) (.tuple (bs.map PyData.int)) = decide (as = bs) := by
  rw [← eqv_ints]
  simp [PyData.eqv]
end
/-! tuples joined, repeated, cut: some tuple, all else as it was -/
theorem Same.seqT {K : PySem.W.Frag} {H H' : Hp} {a : Addr} {xs : List V} (e : Same H H') (h : SqT K H a xs) : SqT K H' a xs := by
  rcases h with (h | ⟨o, h⟩) | h
  · exact .inl (.inl (e _ _ h))
  · exact .inl (.inr ⟨o, e _ _ h⟩)
  · exact .inr h
theorem Stp.seqT {K : PySem.W.Frag} {a m l : Addr} {H H' : Hp} {xs : List V} (h : Stp a m H H') (n : SqT K H l xs → l ≠ a) (q : SqT K H l xs) : SqT K H' l xs := by
  have n := n q
  rcases q with (q | ⟨o, q⟩) | q
  · exact .inl (.inl (h.2 _ _ q n))
  · exact .inl (.inr ⟨o, h.2 _ _ q n⟩)
  · exact .inr q
theorem Src.same {H H' : Hp} {a n : Addr} (h : Src H a n) (e : Same H H') : Src H' a n := by
  obtain ⟨i, x, y, ns, h1, h2, h3⟩ := h
  exact ⟨i, x, y, ns, e _ _ h1, e _ _ h2, h3⟩
theorem Stp.of {H H' : Hp} {a n : Addr} (h : Src H a n) (e : Same H H') : Stp a n H H' := ⟨h.same e, fun c o z _ => e c o z⟩
theorem Stp.refl {H : Hp} {a n : Addr} (h : Src H a n) : Stp a n H H := .of h (Same.refl H)
theorem Stp.then {H H1 H2 : Hp} {a n : Addr} (h : Stp a n H H1) (e : Same H1 H2) : Stp a n H H2 := h.trans (.of h.1 e)
section
variable {X : Cx}
def rRepU (K : PySem.W.Frag) : R2 := fun x y H Q => ∃ l k xs, x = .ref l ∧ y = .int k ∧ SqT K H l xs ∧ xs.length = 1 ∧ -1000 ≤ k ∧ k ≤ 1000 ∧ ∀ p H', Same H H' → SqT K H' p (List.replicate k.toNat xs).flatten → Q (.ref p) H'
theorem op_repU : OpR X (binaryOp .Mult) (rRepU X.K) := by
  intro pins s σ H x y v u Q I rx ry h
  obtain ⟨l, k, xs, hx, hy, hT, hl, h1, h2, q⟩ := h
  refine op_repZ pins s σ H x y v u Q I rx ry ⟨l, k, xs, hx, hy, hT, ?_, h1, h2, by omega, fun h0 p np => ?_, fun h0 => ?_, fun h0 p np => ?_⟩
  · rintro rfl
    cases hl
  · refine q p _ (same_upd np) (.inl (.inl ?_))
    have e : k.toNat = 0 := by omega
    rw [e, upd_same]
    rfl
  · refine q l H (Same.refl H) ?_
    subst h0
    have e : (List.replicate (1 : Int).toNat xs).flatten = xs := by
      show (List.replicate 1 xs).flatten = xs
      simp
    rw [e]
    exact hT
  · exact q p _ (same_upd np) (.inl (.inl upd_same))
def rCatU (K : PySem.W.Frag) : R2 := fun x y H Q => ∃ a b xs ys, x = .ref a ∧ y = .ref b ∧ SqT K H a xs ∧ SqT K H b ys ∧ xs.length + ys.length ≤ sizeLine ∧ ∀ p H', Same H H' → SqT K H' p (xs ++ ys) → Q (.ref p) H'
theorem op_catU : OpR X (binaryOp .Add) (rCatU X.K) := by
  intro pins s σ H x y v u Q I rx ry h
  obtain ⟨a, b, xs, ys, hx, hy, ha, hb, hl, q⟩ := h
  refine op_catA pins s σ H x y v u Q I rx ry ⟨a, b, xs, ys, hx, hy, ha, hb, hl, fun e => ?_, fun _ e => ?_, fun _ _ p np => ?_⟩
  · subst e
    exact q b H (Same.refl H) hb
  · subst e
    exact q a H (Same.refl H) (by rw [List.append_nil]; exact ha)
  · exact q p _ (same_upd np) (.inl (.inl upd_same))
def rSlU (K : PySem.W.Frag) : V → Option Int → Option Int → Hp → VK → Prop := fun x lo hi H Q => ∃ a xs, x = .ref a ∧ SqT K H a xs ∧ ∀ p H', Same H H' → SqT K H' p (cutV xs lo hi) → Q (.ref p) H'
theorem sl_tupU : SlR X (rSlU X.K) := by
  intro pins s σ H x v vl vu lo hi sl Q I rx i1 i2 i3 hq
  obtain ⟨a, xs, hx, ha, q⟩ := hq
  refine sl_tupA pins s σ H x v vl vu lo hi sl Q I rx i1 i2 i3 ⟨a, xs, hx, ha, fun e => ?_, fun _ p np => ?_⟩
  · refine q a H (Same.refl H) ?_
    unfold cutV
    rw [e.1, e.2, List.drop_zero, Nat.sub_zero, List.take_length]
    exact ha
  · exact q p _ (same_upd np) (.inl (.inl upd_same))
end
theorem flat_one (n : Nat) (z : Int) : (List.replicate n [V.int z]).flatten = (List.replicate n z).map V.int := by
  induction n with
  | zero => rfl
  | succ n ih =>
    rw [List.replicate_succ, List.flatten_cons, ih, List.replicate_succ]
    rfl

theorem Stp.tup {K : PySem.W.Frag} {a n l : Addr} {H H' : Hp} {xs : List V} (h : Stp a n H H') (hs : Src H a n) (q : SqT K H l xs) : SqT K H' l xs := by
  obtain ⟨i, x, y, ns, ha, _⟩ := hs
  rcases q with (q | ⟨o, q⟩) | q
  · exact .inl (.inl (h.2 _ _ q fun e => by rw [e, ha] at q; cases q))
  · exact .inl (.inr ⟨o, h.2 _ _ q fun e => by rw [e, ha] at q; cases q⟩)
  · exact .inr q
theorem Src.has {a n l : Addr} {H : Hp} (hs : Src H a n) (hl : H l = none) : l ≠ a := fun e => by
  obtain ⟨i, x, y, ns, ha, _⟩ := hs
  rw [e, ha] at hl
  cases hl
theorem Src.hasN {a n l : Addr} {H : Hp} (hs : Src H a n) (hl : H l = none) : l ≠ n := fun e => by
  obtain ⟨i, x, y, ns, _, hn, _⟩ := hs
  rw [e, hn] at hl
  cases hl
/-- an object beside the source and its numbers is changed -/
theorem Src.upd {a n l : Addr} {H : Hp} {o : HO} (hs : Src H a n) (h : l ≠ a) (h2 : l ≠ n) : Src (upd H l o) a n := by
  obtain ⟨i, x, y, ns, ha, hn, r⟩ := hs
  exact ⟨i, x, y, ns, by rw [upd_ne (Ne.symm h)]; exact ha, by rw [upd_ne (Ne.symm h2)]; exact hn, r⟩
/-- .. that was not there at the start -/
theorem Stp.upd {a n l : Addr} {H H' : Hp} {o : HO} (h : Stp a n H H') (hs : Src H a n) (hl : H l = none) : Stp a n H (upd H' l o) := by
  refine ⟨h.1.upd (hs.has hl) (hs.hasN hl), fun c o' e ne => ?_⟩
  rw [upd_ne (ne_of_none e hl)]
  exact h.2 c o' e ne

/-! ### what is shown -/
theorem log_small {z : Int} (h : z.natAbs < 2 ^ 200) : z.natAbs.log2 < 1920 := by
  by_cases h0 : z.natAbs = 0
  · rw [h0]
    decide
  · have := (Nat.log2_lt h0).mpr h
    omega
theorem int_len {z : Int} (h : z.natAbs < 2 ^ 200) : (PyData.shown (.int z)).length ≤ 2000 := by
  have e : (PyData.shown (.int z)) = Str.ofString (toString z) := by simp [PyData.shown]
  rw [e]
  have h1 := int_text_length_le (a := z) (k := 1920) (by decide) (log_small h)
  rw [PySem.ofString_length]
  omega
theorem Shn.int {z : Int} (h : z.natAbs < 2 ^ 200) : Shn (.int z) := by
  refine ⟨?_, by simp [PyData.hasDict], by simp [PyData.depth], ?_⟩
  · simpa [PyData.showable] using log_small h
  · have := int_len h
    exact Nat.le_of_lt (Nat.lt_of_le_of_lt this (by decide))
theorem ints_sh : ∀ zs : List Int, (∀ z ∈ zs, z.natAbs < 2 ^ 200) → PyData.showableAll (zs.map PyData.int) = true ∧ PyData.hasDictAll (zs.map PyData.int) = false ∧ (PyData.shownAll (zs.map PyData.int)).length = zs.length ∧ piled (PyData.shownAll (zs.map PyData.int)) ≤ 2002 * zs.length
  | [], _ => by simp [PyData.showableAll, PyData.hasDictAll, PyData.shownAll, piled]
  | z :: r, h => by
    obtain ⟨h1, h2, h3, h4⟩ := ints_sh r fun y hy => h y (List.mem_cons_of_mem _ hy)
    have hz := h z (List.mem_cons_self ..)
    have h5 := int_len hz
    rw [List.map_cons]
    refine ⟨?_, ?_, ?_, ?_⟩
    · rw [PyData.showableAll, h1, (Shn.int hz).sh]
      rfl
    · rw [PyData.hasDictAll, h2, (Shn.int hz).nd]
      rfl
    · rw [PyData.shownAll, List.length_cons, List.length_cons, h3]
    · rw [PyData.shownAll, piled_cons, List.length_cons]
      omega
theorem Shn.tup {zs : List Int} (h : ∀ z ∈ zs, z.natAbs < 2 ^ 200) (hl : zs.length ≤ 1000) : Shn (.tuple (zs.map PyData.int)) := by
  obtain ⟨h1, h2, h3, h4⟩ := ints_sh zs h
  refine ⟨by rw [PyData.showable, h1], by rw [PyData.hasDict, h2], ?_, ?_⟩
  · rw [PyData.depth, depth_ints]
    decide
  · rw [PyData.shown]
    have h5 := PySem.fmt_text (PyData.shownAll (zs.map PyData.int))
    rw [sizeLine_eq]
    omega
/-! ### the order -/
structure NZ (zs : List Int) : Prop where
  nn : ∀ z ∈ zs, 0 ≤ z
  hd : zs.head? ≠ some 0

section
variable {P : Program} {w : World} {K : PySem.W.Frag} {mg : Str → Option Value} {base : Heap}
/-- the same rules with the written part said, for blocks of comprehensions -/
def rLenK (K : PySem.W.Frag) : List V → Hp → VK → Prop := fun xs H Q => ∃ p ys, xs = [.ref p] ∧ (SqL K H p ys ∨ SqT K H p ys) ∧ Q (.int ys.length) H
theorem len_K {X : Cx} (h : X.K = K) : CallR X (.builtin "len") (rLenK K) := by
  subst h
  exact call_len_seq
theorem cat_K {X : Cx} (h : X.K = K) : OpR X (binaryOp .Add) (rCatU K) := by
  subst h
  exact op_catU
theorem rep_K {X : Cx} (h : X.K = K) : OpR X (binaryOp .Mult) (rRepU K) := by
  subst h
  exact op_repU
end
/-! ### the end of a law whose def leans on: no repr is under way -/
section
variable {P : Program} {w : World} {K : PySem.W.Frag} {mg mb : Str → Option Value} {k : Nat} {fa a : Addr} {fd : FuncData} {x : Str} {sp : Sp} {st : Shared} {us : List Value} {ns : List Int}
abbrev scrO (us : List Value) : Obj := { cls := .type "list", data := .seq us.toArray }
abbrev Good (st : Shared) (r : Result) (s' : Shared) : Prop := r = .ok (.ret (.bool true)) ∧ OldK st.heap s'.heap ∧ s'.os = st.os ∧ AllBare s'.gens
theorem law_at (KX : K.In st.heap) (n1 : st.heap.Ns mainGlobals mg) (n2 : st.heap.Ns builtinsNs mb) (n3 : ∀ x : Str, x ≠ "__name__" → mb x = bootBuiltins x) (n4 : st.heap.NoLimit) (hg : st.gens = #[])
    (ha : st.heap.get? a = some (scrO us)) (hr : Room k callerA) (F : ∀ b : Heap, K.In b → b.Ns mainGlobals mg → FnG P w K mg b k fa fd [x] sp) (hb : ∀ (s : Shared) (u : Value), BindsTo s fd ⟨[u], []⟩ [(x, u)])
    {H : Hp} (hO : Only H) (hsp : sp [.ref a] H (fun v _ => v = .bl true) fun _ _ _ => False) (hok : HOk P w H st.heap) (hA : ∀ b, H b ≠ none → b = a) (hK : H a ≠ none → K.lookup a = none) :
    codeAny (model P w) callerA (.call (.ref fa) ⟨[.ref a], []⟩) (Good st) st := by
  have hid : ∀ {b : Addr} {o : Obj}, st.heap.get? b = some o → H b = none → (hidT st.heap H).get? b = some o := fun e n => hidT_get e n
  have nodict : ∀ {b : Addr} {o : Obj} {es : Array DictEntry} {m : Nat}, st.heap.get? b = some o → o.data = .dict es m → H b = none := by
    intro b o es m e d
    by_cases q : H b = none
    · exact q
    · rw [hA b q, ha] at e
      cases e
      have d' : Data.seq us.toArray _ = Data.dict es m := d
      cases d'
  have nsOf : ∀ {b : Addr} {m : Str → Option Value}, st.heap.Ns b m → (hidT st.heap H).Ns b m := by
    rintro b m ⟨o, es, ep, e, d, r⟩
    exact ⟨o, es, ep, hid e (nodict e d), d, r⟩
  have KB : K.In (hidT st.heap H) := by
    intro b o e
    refine hid (KX b o e) ?_
    by_cases q : H b = none
    · exact q
    · have eb := hA b q
      rw [eb] at e q
      rw [hK q] at e
      cases e
  obtain ⟨mc, l1, l2⟩ := n4
  have MB : Mod K mg (hidT st.heap H) := ⟨KB, nsOf n1, ⟨mb, nsOf n2, n3⟩, ⟨mc, nsOf l1, l2⟩⟩
  have ev : Env0 P w K mg (hidT st.heap H) callerA [] st H := by
    refine ⟨rfl, MB, fun b o e => of_hidT e, Nat.le_of_eq (hidT_size _ _), trivial, fun b z => ?_, hok, .of_eq hg⟩
    exact absurd (show b ∈ ([] : List Addr) from z) List.not_mem_nil
  refine codeAny_mono ((F _ KB (nsOf n1)).go callerA [] st H ⟨[.ref a], []⟩ [.ref a] [.ref a] _ _ rfl hr ev (hb st (.ref a)) (.cons rfl .nil) hsp) fun r s' h => ?_
  match r, h with
  | .error _, h => exact False.elim h
  | .ok .next, h => exact False.elim h
  | .ok .brk, h => exact False.elim h
  | .ok .cont, h => exact False.elim h
  | .ok (.ret u), h =>
    obtain ⟨v, H', os, bare, un, hok', rv, qv⟩ := h
    have qv : v = .bl true := qv
    subst qv
    obtain rfl : u = Value.bool true := rv
    refine ⟨rfl, OldK.of_keep fun b o e => ?_, os, bare⟩
    rcases hO b with z | ⟨ob, xs, z⟩
    · exact un.keep b o e z (fun z => absurd (show b ∈ ([] : List Addr) from z) List.not_mem_nil) List.not_mem_nil
    · have e1 := (hok b _ z).1
      have e2 := (hok' b _ (un.frzs b ob _ z)).1
      rw [e] at e1
      cases e1
      exact e2
theorem law_g (KX : K.In st.heap) (n1 : st.heap.Ns mainGlobals mg) (n2 : st.heap.Ns builtinsNs mb) (n3 : ∀ x : Str, x ≠ "__name__" → mb x = bootBuiltins x) (n4 : st.heap.NoLimit) (hg : st.gens = #[])
    (ha : st.heap.get? a = some (scrO us)) (hi : IntsAre us ns) (hl : ns.length ≤ sizeLine) (hr : Room k callerA) (F : ∀ b : Heap, K.In b → b.Ns mainGlobals mg → FnG P w K mg b k fa fd [x] sp) (hb : ∀ (s : Shared) (u : Value), BindsTo s fd ⟨[u], []⟩ [(x, u)])
    (hsp : ∀ H : Hp, Only H → SqL K H a (ns.map V.int) → sp [.ref a] H (fun v _ => v = .bl true) fun _ _ _ => False) :
    codeAny (model P w) callerA (.call (.ref fa) ⟨[.ref a], []⟩) (Good st) st := by
  have vi := vals_ints hi
  cases hk : K.lookup a with
  | some o =>
    have e := KX a o hk
    rw [ha] at e
    cases e
    have hS : SqL K (fun _ => none) a (ns.map V.int) := .inr ⟨_, us.toArray, _, hk, rfl, rfl, rfl, by rw [List.size_toArray, hi.length]; exact hl, by simpa using vi⟩
    exact law_at KX n1 n2 n3 n4 hg ha hr F hb (H := fun _ => none) (fun _ => .inl rfl) (hsp _ (fun _ => .inl rfl) hS) (fun b u z => by cases (show (none : Option HO) = some u from z)) (fun b z => absurd rfl z) (fun z => absurd rfl z)
  | none =>
    let H : Hp := fun b => if b = a then some (.frz (scrO us) (.lst (ns.map V.int))) else none
    have h1 : H a = some (.frz (scrO us) (.lst (ns.map V.int))) := if_pos rfl
    have h2 : ∀ b, b ≠ a → H b = none := fun b z => if_neg z
    have hO : Only H := fun b => by
      by_cases z : b = a
      · exact .inr ⟨_, _, by rw [z]; exact h1⟩
      · exact .inl (h2 b z)
    refine law_at KX n1 n2 n3 n4 hg ha hr F hb hO (hsp H hO (.inl (.inr ⟨_, h1⟩))) (fun b u z => ?_) (fun b z => ?_) fun _ => hk
    · by_cases e : b = a
      · subst e
        rw [h1] at z
        cases z
        exact ⟨ha, by rw [List.length_map]; exact hl, us, _, vi, ha⟩
      · rw [h2 b e] at z
        cases z
    · by_cases e : b = a
      · exact e
      · exact absurd (h2 b e) z
end
theorem walk_g {l : PySem.W.OpenLaw} {n k : Nat} {q : Program} {loose : List Str} {XP : (Str → Option Value) → Heap → Prop} {YP : World → Heap → Prop} {d : DefRec} {K : Params → PySem.W.Frag} {sp : PySem.W.Frag → Sp} {x : Str}
    (hn : l.most = some n) (hz : n ≤ sizeLine) (hdf : d.params.defaults = []) (hr : Room k callerA) (hY : ∀ (w : World) (h : Heap), YP w h → (K w.params).In h)
    (F : ∀ (w : World) (mg : Str → Option Value) (fa : Addr) (h : Heap), (K w.params).In h → h.Ns mainGlobals mg → mg d.name = some (.ref fa) →
      ∃ fd : FuncData, (∀ (s : Shared) (u : Value), BindsTo s fd ⟨[u], []⟩ [(x, u)]) ∧ ∀ b : Heap, (K w.params).In b → b.Ns mainGlobals mg → FnG l.prog w (K w.params) mg b k fa fd [x] (sp (K w.params)))
    (hsp : ∀ (K : PySem.W.Frag) (H : Hp) (a : Addr) (ns : List Int), ns.length ≤ n → Only H → SqL K H a (ns.map V.int) → sp K [.ref a] H (fun v _ => v = .bl true) fun _ _ _ => False) :
    PySem.W.WalkO q loose XP YP l.row.toRowW d [] (fun f vs => PySem.call f vs) := by
  refine Att.attach_call hn hdf fun w s0 s1 mg mb fa o pm cd doc a vs ns G Y ho hd hcd hmg hobj hints hlen hg => ?_
  have KX := hY w _ Y
  obtain ⟨fd, hb, hF⟩ := F w mg fa _ KX G.T.g hmg
  exact law_g KX G.T.g G.T.b G.T.builtins G.T.nolimit hg hobj hints (Nat.le_trans hlen hz) hr hF hb fun H hO hS => hsp _ H a ns hlen hO hS
/-- a test, then a word between it and what follows -/
theorem pt_cut {X : Cx} {e : Expr} {t : TT} (h : PT X e t) : PT X e (fun σ H Q => ∃ R : Bool → Hp → Prop, t σ H R ∧ ∀ b H', R b H' → Q b H') := by
  refine ⟨fun pins s σ H Q I q => ?_⟩
  obtain ⟨R, hR, hQ⟩ := q
  exact thn (h.run pins s σ H R I hR) fun b s1 ⟨H1, I1, r⟩ => ⟨H1, I1, hQ b H1 r⟩

end Lim
set_option maxHeartbeats 1000000
namespace Lim
open PySem PySem.Spec PyProof.Rows L2
/-! the things that the law asks about -/
abbrev dkOne : List (Key × V) := [(.inl 0, .int 1)]
/-- what may stand in a tuple -/
inductive Do (H : Hp) (src : Addr) : V → PyData → Prop
  | non : Do H src .non .none
  | bl (b : Bool) : Do H src (.bl b) (.bool b)
  | int (i : Int) : Do H src (.int i) (.int i)
  | str (x : Str) : Do H src (.str x) (.str x)
  | tup {t : Addr} (xs : List Int) : H t = some (.tup (xs.map V.int)) → Do H src (.ref t) (.tuple (xs.map PyData.int))
  | lst {a : Addr} (xs : List Int) : H a = some (.lst (xs.map V.int)) → a ≠ src → Do H src (.ref a) (.list (xs.map PyData.int))
  | emp {a : Addr} : H a = some (.dK []) → Do H src (.ref a) (.dict [])
inductive Th (H : Hp) (src : Addr) : V → PyData → Prop
  | od {v : V} {d : PyData} : Do H src v d → Th H src v d
  | one {a : Addr} : H a = some (.dK dkOne) → Th H src (.ref a) (.dict [(.int 0, .int 1)])
  | bent {t : Addr} {v : V} {d : PyData} (xs ys : List Int) : H t = some (.tup (xs.map V.int ++ v :: ys.map V.int)) → Do H src v d → Th H src (.ref t) (.tuple (xs.map PyData.int ++ d :: ys.map PyData.int))
structure ShQ (d : PyData) : Prop where
  sh : d.showable = true
  dp : d.depth ≤ 60
  sz : d.shown.length ≤ sizeLine
def tyN : PyData → String
  | .none => "NoneType"
  | .bool _ => "bool"
  | .int _ => "int"
  | .str _ => "str"
  | .list _ => "list"
  | .tuple _ => "tuple"
  | .dict _ => "dict"
def isTu : PyData → Bool
  | .tuple _ => true
  | _ => false
def isIn : PyData → Bool
  | .int _ => true
  | .bool _ => true
  | _ => false
def isBo : PyData → Bool
  | .bool _ => true
  | _ => false
section
variable {K : PySem.W.Frag} {H H' : Hp} {src n : Addr}
theorem ty_do {v : V} {d : PyData} (h : Do H src v d) : TyX K H v (.type (tyN d)) := by
  cases h with
  | non => exact .base .non
  | bl b => exact .base (.bl b)
  | int i => exact .base (.int i)
  | str x => exact .base (.str x)
  | tup xs h => exact .base (.tup h)
  | lst xs h _ => exact .base (.lst h)
  | emp h => exact .base (.dK h)
theorem ty_th {v : V} {d : PyData} (h : Th H src v d) : TyX K H v (.type (tyN d)) := by
  cases h with
  | od h => exact ty_do h
  | one h => exact .base (.dK h)
  | bent xs ys h _ => exact .base (.tup h)
theorem kit_tu (d : PyData) : PySem.W.kitOne K (.type (tyN d)) (.type "tuple") = some (isTu d) := by
  cases d with
  | none => exact kit_ty (a := "NoneType") (b := "tuple") (r := false) (by decide +kernel)
  | bool b => exact kit_ty (a := "bool") (b := "tuple") (r := false) (by decide +kernel)
  | int i => exact kit_ty (a := "int") (b := "tuple") (r := false) (by decide +kernel)
  | str x => exact kit_ty (a := "str") (b := "tuple") (r := false) (by decide +kernel)
  | list xs => exact kit_ty (a := "list") (b := "tuple") (r := false) (by decide +kernel)
  | tuple xs => exact kit_ty (a := "tuple") (b := "tuple") (r := true) (by decide +kernel)
  | dict xs => exact kit_ty (a := "dict") (b := "tuple") (r := false) (by decide +kernel)
theorem kit_in (d : PyData) : PySem.W.kitOne K (.type (tyN d)) (.type "int") = some (isIn d) := by
  cases d with
  | none => exact kit_ty (a := "NoneType") (b := "int") (r := false) (by decide +kernel)
  | bool b => exact kit_ty (a := "bool") (b := "int") (r := true) (by decide +kernel)
  | int i => exact kit_ty (a := "int") (b := "int") (r := true) (by decide +kernel)
  | str x => exact kit_ty (a := "str") (b := "int") (r := false) (by decide +kernel)
  | list xs => exact kit_ty (a := "list") (b := "int") (r := false) (by decide +kernel)
  | tuple xs => exact kit_ty (a := "tuple") (b := "int") (r := false) (by decide +kernel)
  | dict xs => exact kit_ty (a := "dict") (b := "int") (r := false) (by decide +kernel)
theorem kit_bo (d : PyData) : PySem.W.kitOne K (.type (tyN d)) (.type "bool") = some (isBo d) := by
  cases d with
  | none => exact kit_ty (a := "NoneType") (b := "bool") (r := false) (by decide +kernel)
  | bool b => exact kit_ty (a := "bool") (b := "bool") (r := true) (by decide +kernel)
  | int i => exact kit_ty (a := "int") (b := "bool") (r := false) (by decide +kernel)
  | str x => exact kit_ty (a := "str") (b := "bool") (r := false) (by decide +kernel)
  | list xs => exact kit_ty (a := "list") (b := "bool") (r := false) (by decide +kernel)
  | tuple xs => exact kit_ty (a := "tuple") (b := "bool") (r := false) (by decide +kernel)
  | dict xs => exact kit_ty (a := "dict") (b := "bool") (r := false) (by decide +kernel)

theorem Do.mono (k : ∀ c o, H c = some o → c ≠ src → H' c = some o) (hs : Src H src n) {v : V} {d : PyData} (h : Do H src v d) : Do H' src v d := by
  obtain ⟨i, x, y, ns, ha, _⟩ := hs
  cases h with
  | non => exact .non
  | bl b => exact .bl b
  | int i => exact .int i
  | str x => exact .str x
  | tup xs h => exact .tup xs (k _ _ h fun e => by rw [e, ha] at h; cases h)
  | lst xs h ne => exact .lst xs (k _ _ h ne) ne
  | emp h => exact .emp (k _ _ h fun e => by rw [e, ha] at h; cases h)
theorem Th.mono (k : ∀ c o, H c = some o → c ≠ src → H' c = some o) (hs : Src H src n) {v : V} {d : PyData} (h : Th H src v d) : Th H' src v d := by
  cases h with
  | od h => exact .od (h.mono k hs)
  | one h =>
    obtain ⟨i, x, y, ns, ha, _⟩ := hs
    exact .one (k _ _ h fun e => by rw [e, ha] at h; cases h)
  | bent xs ys h hd =>
    have hd := hd.mono k hs
    obtain ⟨i, x, y, ns, ha, _⟩ := hs
    exact .bent xs ys (k _ _ h fun e => by rw [e, ha] at h; cases h) hd
theorem Th.stp (s : Stp src n H H') (hs : Src H src n) {v : V} {d : PyData} (h : Th H src v d) : Th H' src v d := h.mono s.2 hs
theorem Do.stp (s : Stp src n H H') (hs : Src H src n) {v : V} {d : PyData} (h : Do H src v d) : Do H' src v d := h.mono s.2 hs
theorem Th.same (s : Same H H') {v : V} {d : PyData} (hs : Src H src n) (h : Th H src v d) : Th H' src v d := h.mono (fun c o e _ => s c o e) hs
theorem Do.same (s : Same H H') {v : V} {d : PyData} (hs : Src H src n) (h : Do H src v d) : Do H' src v d := h.mono (fun c o e _ => s c o e) hs
theorem hd_ints : ∀ xs : List Int, PyData.hasDictAll (xs.map PyData.int) = false
  | [] => by simp [PyData.hasDictAll]
  | x :: r => by
    have ih := hd_ints r
    simp [PyData.hasDictAll, PyData.hasDict, ih]
theorem hdAll_app : ∀ as bs : List PyData, PyData.hasDictAll (as ++ bs) = (PyData.hasDictAll as || PyData.hasDictAll bs)
  | [], bs => by simp [PyData.hasDictAll]
  | a :: as, bs => by
    have ih := hdAll_app as bs
    simp [PyData.hasDictAll, ih, Bool.or_assoc]
theorem dpAll_app : ∀ {as bs : List V} {ds es : List PyData}, DpAll K H as ds → DpAll K H bs es → DpAll K H (as ++ bs) (ds ++ es)
  | _, _, _, _, .nil, h => h
  | _, _, _, _, .cons r rs, h => .cons r (dpAll_app rs h)
/-- without a dict: data -/
theorem Do.dp {v : V} {d : PyData} (h : Do H src v d) : (∃ a, v = .ref a ∧ d = .dict [] ∧ H a = some (.dK [])) ∨ (Dp K H v d ∧ d.hasDict = false) := by
  cases h with
  | non => exact .inr ⟨.non, by simp [PyData.hasDict]⟩
  | bl b => exact .inr ⟨.bl b, by simp [PyData.hasDict]⟩
  | int i => exact .inr ⟨.int i, by simp [PyData.hasDict]⟩
  | str x => exact .inr ⟨.str x, by simp [PyData.hasDict]⟩
  | tup xs h => exact .inr ⟨.tup (.inl (.inl h)) (dp_ints xs), by rw [PyData.hasDict]; exact (hd_ints xs)⟩
  | lst xs h _ => exact .inr ⟨.lst (.inl (.inl h)) (dp_ints xs), by rw [PyData.hasDict]; exact (hd_ints xs)⟩
  | emp h => exact .inl ⟨_, rfl, rfl, h⟩
end
section
variable {X : Cx} {pins : List (Addr × Obj)} {σ : L2.St} {H : Hp} {s : Shared} {src : Addr}
theorem rd_ints : ∀ (xs : List Int) (us : List Value), Vals (xs.map V.int) us → ReadsAll s.heap us (xs.map PyData.int) []
  | [], _, h => by
    cases h
    exact .nil
  | x :: r, _, h => by
    cases h with
    | cons h1 h2 =>
      obtain ⟨t, rfl⟩ := h1
      exact .cons (.int x t) (rd_ints r _ h2)
theorem rd_emp (I : Inv X pins σ H s) {a : Addr} (h : H a = some (.dK [])) : Reads s.heap (.ref a) (.dict []) (a :: [] ++ []) ∧ a ≠ sysModules := by
  obtain ⟨_, hs, vs, kv, o, es, ep, h1, h2, h3, h4, h5, _⟩ := dk_of I.hok h
  cases kv
  have he : es.toList = [] := by
    cases hh : es.toList with
    | nil => rfl
    | cons x r =>
      rw [hh] at h5
      cases h5
  refine ⟨.dict h1 h2.1 h3 ?_ ?_, fun e => by rw [e] at hs; simp at hs⟩
  · rw [he]
    exact .nil
  · rw [he]
    exact .nil
theorem rd_one (I : Inv X pins σ H s) {a : Addr} (h : H a = some (.dK dkOne)) : Reads s.heap (.ref a) (.dict [(.int 0, .int 1)]) (a :: ([] ++ []) ++ ([] ++ [])) ∧ a ≠ sysModules := by
  obtain ⟨_, hs, vs, kv, o, es, ep, h1, h2, h3, h4, h5, _⟩ := dk_of I.hok h
  cases kv with
  | cons k1 k2 =>
    cases k2
    obtain ⟨_, _, ru⟩ := (show _ ∧ True ∧ RelV (.int 1) _ from ⟨k1.1, trivial, k1.2⟩)
    refine ⟨.dict h1 h2.1 h3 ?_ ?_, fun e => by rw [e] at hs; simp at hs⟩
    · cases hh : es.toList with
      | nil =>
        rw [hh] at h5
        cases h5
      | cons x r =>
        rw [hh] at h5
        cases h5 with
        | cons q1 q2 q3 =>
          cases q3
          have q1' : keyIs _ x.key = true := q1
          have e0 := k1.1
          simp only at e0
          rw [← e0] at q1'
          rcases keyIs_shape q1' with ⟨i, t, h1, h2⟩ | ⟨y, t, h1, h2⟩
          · have hi : (0 : Int) = i := Sum.inl.inj h1
            subst hi
            show ReadsAll s.heap [x.key] [.int 0] ([] ++ [])
            rw [h2]
            exact .cons (.int 0 t) .nil
          · cases h1
    · cases hh : es.toList with
      | nil =>
        rw [hh] at h5
        cases h5
      | cons x r =>
        rw [hh] at h5
        cases h5 with
        | cons q1 q2 q3 =>
          cases q3
          obtain ⟨t, hu⟩ := ru
          show ReadsAll s.heap [x.val] [.int 1] ([] ++ [])
          rw [q2, hu]
          exact .cons (.int 1 t) .nil
theorem rd_app {h : Heap} : ∀ {us vs : List Value} {ds es : List PyData} {as bs : List Addr}, ReadsAll h us ds as → ReadsAll h vs es bs → ReadsAll h (us ++ vs) (ds ++ es) (as ++ bs)
  | _, _, _, _, _, _, .nil, h => h
  | _, _, _, _, _, _, .cons r rs, h => by
    rw [List.append_assoc]
    exact .cons r (rd_app rs h)
theorem vals_split : ∀ (xs : List V) {ys : List V} {us : List Value}, Vals (xs ++ ys) us → ∃ u1 u2, us = u1 ++ u2 ∧ Vals xs u1 ∧ Vals ys u2
  | [], ys, us, h => ⟨[], us, rfl, .nil, h⟩
  | x :: r, ys, _, .cons h1 h2 => by
    obtain ⟨u1, u2, e, a, b⟩ := vals_split r h2
    exact ⟨_ :: u1, u2, by rw [e]; rfl, .cons h1 a, b⟩
theorem rd_th (I : Inv X pins σ H s) {v : V} {d : PyData} {u : Value} (h : Th H src v d) (r : RelV v u) : ∃ as, Reads s.heap u d as ∧ (d.hasDict = true → sysModules ∉ as) := by
  have data : ∀ {v : V} {d : PyData} {u : Value}, Dp X.K H v d → d.hasDict = false → RelV v u → ∃ as, Reads s.heap u d as ∧ (d.hasDict = true → sysModules ∉ as) := by
    intro v d u h1 h2 r
    obtain ⟨as, rd⟩ := Dp.reads I _ _ _ h1 r
    exact ⟨as, rd, fun z => by rw [h2] at z; cases z⟩
  cases h with
  | od h =>
    rcases h.dp (K := X.K) with ⟨a, rfl, rfl, ha⟩ | ⟨h1, h2⟩
    · cases r
      obtain ⟨rd, ne⟩ := rd_emp I ha
      exact ⟨_, rd, fun _ z => ne (List.mem_singleton.mp z).symm⟩
    · exact data h1 h2 r
  | one h =>
    cases r
    obtain ⟨rd, ne⟩ := rd_one I h
    exact ⟨_, rd, fun _ z => ne (List.mem_singleton.mp z).symm⟩
  | bent xs ys h hd =>
    rcases hd.dp (K := X.K) with ⟨a, rfl, rfl, ha⟩ | ⟨h1, h2⟩
    · cases r
      obtain ⟨its, rv, ⟨o, ho, hc, n, hdt⟩, _⟩ := I.tuple (.inl (.inl h))
      obtain ⟨rd, ne⟩ := rd_emp I ha
      obtain ⟨u1, u2, e, v1, v2⟩ := vals_split _ rv
      cases v2 with
      | cons w1 w2 =>
        cases w1
        refine ⟨[] ++ ((a :: [] ++ []) ++ []), .tuple ho hc hdt ?_, ?_⟩
        · show ReadsAll s.heap its.toArray.toList _ _
          rw [List.toList_toArray, e]
          exact rd_app (rd_ints xs _ v1) (.cons rd (rd_ints ys _ w2))
        · exact fun _ z => ne (List.mem_singleton.mp z).symm
    · refine data (.tup (.inl (.inl h)) (dpAll_app (dp_ints xs) (.cons h1 (dp_ints ys)))) ?_ r
      rw [PyData.hasDict, hdAll_app, hd_ints]
      simp [PyData.hasDictAll, h2, hd_ints]
/-- repr(x) of such a thing -/
theorem call_reprT (src : Addr) (hgd : X.A.guards = some []) (hu : X.A.units + 100 < cLine) : CallR X (.builtin "repr") (fun xs H Q => ∃ v d, xs = [v] ∧ Th H src v d ∧ ShQ d ∧ Q (.str d.shown) H) := by
  intro pins s σ H xs us Q I r h
  obtain ⟨v, d, rfl, hd, h1, q⟩ := h
  obtain ⟨u, rfl, r1⟩ := vals1 r
  obtain ⟨as, rd, hsm⟩ := rd_th I hd r1
  have hdp := h1.dp
  cases rd with
  | none => exact PySem.P.repr_of_none ⟨.str _, H, I.tok _, ⟨_, rfl⟩, q⟩
  | bool b =>
    refine PySem.P.repr_of_bool ⟨.str _, H, I.tok _, ⟨_, rfl⟩, ?_⟩
    cases b <;> exact q
  | int i t =>
    refine PySem.P.repr_of_int ?_ ⟨.str _, H, I.tok _, ⟨_, rfl⟩, q⟩
    simpa [PyData.showable] using h1.sh
  | str y t => exact PySem.P.repr_of_str ⟨.str _, H, I.tok _, ⟨_, rfl⟩, q⟩ h1.sz
  | list a1 a2 a3 a4 => exact PySem.repr_of_reads' (.list a1 a2 a3 a4) h1.sh hsm hgd (by omega) (fun _ _ z => z) (fun h' u tk hk => ⟨.str _, H, I.kept hk, ⟨_, rfl⟩, q⟩) h1.sz
  | tuple a1 a2 a3 a4 => exact PySem.repr_of_reads' (.tuple a1 a2 a3 a4) h1.sh hsm hgd (by omega) (fun _ _ z => z) (fun h' u tk hk => ⟨.str _, H, I.kept hk, ⟨_, rfl⟩, q⟩) h1.sz
  | dict a1 a2 a3 a4 a5 => exact PySem.repr_of_reads' (.dict a1 a2 a3 a4 a5) h1.sh hsm hgd (by omega) (fun _ _ z => z) (fun h' u tk hk => ⟨.str _, H, I.kept hk, ⟨_, rfl⟩, q⟩) h1.sz
end
end Lim
set_option maxHeartbeats 1000000
namespace Lim
open PySem PySem.Spec PyProof.Rows L2
abbrev sIsC : Stmt := topS 3
abbrev sIsO : Stmt := topS 4
abbrev sIs1 : Stmt := topS 11
abbrev sOdd : Stmt := topS 12
def isCo : PyData → Bool
  | .int i => decide (0 ≤ i) && decide (i < 1000000000000000000)
  | _ => false
def hdNot0 : List PyData → Bool
  | [] => true
  | .int i :: _ => decide (i ≠ 0)
  | _ => false
def isOrd : PyData → Bool
  | .tuple ds => decide (ds.length ≤ 64) && ds.all isCo && hdNot0 ds
  | _ => false
section
variable {P : Program} {w : World} {K : PySem.W.Frag} {mg : Str → Option Value} {base : Heap} {src : Addr}
theorem th_items {H : Hp} {v : V} {ds : List PyData} (h : Th H src v (.tuple ds)) : ∃ t vs, v = .ref t ∧ H t = some (.tup vs) ∧ Paired (Do H src) vs ds := by
  have iz : ∀ xs : List Int, Paired (Do H src) (xs.map V.int) (xs.map PyData.int) := by
    intro xs
    induction xs with
    | nil => exact .nil
    | cons x r ih => exact .cons (.int x) ih
  have app : ∀ {as bs : List V} {ds es : List PyData}, Paired (Do H src) as ds → Paired (Do H src) bs es → Paired (Do H src) (as ++ bs) (ds ++ es) := by
    intro as bs ds es h1 h2
    induction h1 with
    | nil => exact h2
    | cons r _ ih => exact .cons r ih
  cases h with
  | od h =>
    cases h with
    | tup xs h => exact ⟨_, _, rfl, h, iz xs⟩
  | bent xs ys h hd => exact ⟨_, _, rfl, h, app (iz xs) (.cons hd (iz ys))⟩
theorem pr_at {α β : Type} {R : α → β → Prop} : ∀ {xs : List α} {ys : List β} {i : Nat} {x : α}, Paired R xs ys → xs[i]? = some x → ∃ y, ys[i]? = some y ∧ R x y
  | _, _, i, x, .nil, h => by simp at h
  | _, _, 0, x, .cons r rs, h => by
    have e := Option.some.inj h
    subst e
    exact ⟨_, rfl, r⟩
  | _, _, i + 1, x, .cons r rs, h => pr_at (i := i) rs h
/-! ### a coefficient -/
theorem scIsC : FnScope ["thing"] ["thing"] (defScope sIsC) := ⟨rfl, rfl, rfl, by decide +kernel, rfl, by decide +kernel, by decide +kernel⟩
def spIsC (src : Addr) : Sp := fun vs H Q _ => ∃ (v : V) (d : PyData), vs = [v] ∧ Do H src v d ∧ Q (.bl (isCo d)) H

theorem ok_isC {f : Addr} {fd : FuncData} {k : Nat} {tk : Tok} (F : Fun K "is_coefficient" "is_coefficient" sIsC f fd) (mis : mg "isinstance" = none) (mbo : mg "bool" = none) (mi : mg "int" = none) (gB : mg "COEFFICIENT_BOUND" = some (.int 1000000000000000000 tk)) : FnOk P w K mg base CX0 (k + 1) f fd ["thing"] (spIsC src) := by
  refine F.ok scIsC (fun vs H Q E h => ?_) (fun cdv A outer s H vs Q E hr h => ?_)
  · obtain ⟨v, d, rfl, _⟩ := h
    rfl
  · obtain ⟨v, d, rfl, hd, q⟩ := h
    refine ⟨_, (pss_cons (ps_if (PW.pt (pw_or (pt_val (pe_callB call_isi (by rfl) mis (by decide +kernel) (pa_cons (pv 0) (pa_cons (pe_bltn (v := .ty "bool") (by rfl) mbo (by decide +kernel) rfl) pa_nil)))) (pw_or1 (pt_not (pt_val (pe_callB call_isi (by rfl) mis (by decide +kernel) (pa_cons (pv 0) (pa_cons (pe_bltn (v := .ty "int") (by rfl) mi (by decide +kernel) rfl) pa_nil)))))))) (pss_one (ps_ret (pe_bl))) pss_nil)
        (pss_one (ps_ret (pe_chain op_le op_lt pe_int (pv 0) (pe_glob (v := .int 1000000000000000000) (by rfl) gB ⟨_, rfl⟩))))), ?_⟩
    refine ⟨_, rfl, _, _, _, _, _, rfl, .ty "bool", ty_do hd, kit_bo d, _, rfl, ite2 (fun c => ?_) (fun c => ?_)⟩
    · have e : isCo d = false := by
        cases d <;> first | rfl | (cases c)
      rw [e] at q
      exact q
    · refine ⟨_, rfl, _, _, _, _, _, rfl, .ty "int", ty_do hd, kit_in d, _, rfl, ite2 (fun c2 => ?_) (fun c2 => ?_)⟩
      · have e : isCo d = false := by
          cases d <;> first | rfl | (cases c2)
        rw [e] at q
        exact q
      · obtain ⟨i, rfl⟩ : ∃ i, d = .int i := by
          cases d with
          | int i => exact ⟨i, rfl⟩
          | bool b => exact absurd rfl c
          | none => exact absurd rfl c2
          | str x => exact absurd rfl c2
          | list x => exact absurd rfl c2
          | tuple x => exact absurd rfl c2
          | dict x => exact absurd rfl c2
        cases hd
        refine ⟨_, rfl, _, _, rfl, rfl, _, rfl, ite2 (fun c3 => ?_) (fun c3 => ?_)⟩
        · refine ⟨_, _, rfl, rfl, ?_⟩
          have e : isCo (.int i) = decide (i < 1000000000000000000) := by
            show (decide (0 ≤ i) && decide (i < 1000000000000000000)) = _
            rw [c3]
            rfl
          rw [e] at q
          exact q
        · have e : isCo (.int i) = false := by
            show (decide (0 ≤ i) && decide (i < 1000000000000000000)) = _
            rw [Bool.eq_false_iff.mpr c3]
            rfl
          rw [e] at q
          exact q
/-! ### an ordinal -/
theorem scIsO : FnScope ["thing", "item"] ["thing"] (defScope sIsO) := ⟨rfl, rfl, rfl, by decide +kernel, rfl, by decide +kernel, by decide +kernel⟩
def spIsO (src : Addr) : Sp := fun vs H Q _ => ∃ (v : V) (d : PyData), vs = [v] ∧ Th H src v d ∧ Q (.bl (isOrd d)) H

theorem ok_isO {f fC : Addr} {fd dC : FuncData} {k : Nat} {tk : Tok} (F : Fun K "is_ordinal" "is_ordinal" sIsO f fd) (mis : mg "isinstance" = none) (mt : mg "tuple" = none) (ml : mg "len" = none) (gM : mg "MOST_COEFFICIENTS" = some (.int 64 tk))
    (GC : FnOk P w K mg base CX0 (k + 1) fC dC ["thing"] (spIsC src)) (kC : PySem.W.keepIn K (.ref fC) = true) (bC : Binds K dC ["thing"] []) (gC : mg "is_coefficient" = some (.ref fC)) : FnOk P w K mg base CX0 (k + 2) f fd ["thing"] (spIsO src) := by
  refine F.ok scIsO (fun vs H Q E h => ?_) (fun cdv A outer s H vs Q E hr h => ?_)
  · obtain ⟨v, d, rfl, _⟩ := h
    rfl
  · obtain ⟨v, d, rfl, hd, q⟩ := h
    refine ⟨_, (pss_cons (ps_if (PW.pt (pw_or (pt_not (pt_val (pe_callB call_isi (by rfl) mis (by decide +kernel) (pa_cons (pv 0) (pa_cons (pe_bltn (v := .ty "tuple") (by rfl) mt (by decide +kernel) rfl) pa_nil))))) (pw_or1 (pt_cmpR op_gt (pe_callB call_len_seq (by rfl) ml PySem.boot_len (pa_cons (pv 0) pa_nil)) (pe_glob (v := .int 64) (by rfl) gM ⟨_, rfl⟩) (nomark _))))) (pss_one (ps_ret (pe_bl))) pss_nil)
        (pss_cons (ps_for PassesOwn.never rfl (pi_tup (pv 0)) (pg_name (i := 1) scIsO.nd rfl (.inl rfl)) (pss_one (ps_if (pt_not (pt_val (pe_call GC hr (by rfl) gC kC bC .nil pass0 (pa_cons (pv 1) pa_nil)))) (pss_one (ps_ret (pe_bl))) pss_nil)))
        (pss_one (ps_ret (pe_or (pe_cmpR op_eq (pe_callB call_len_seq (by rfl) ml PySem.boot_len (pa_cons (pv 0) pa_nil)) pe_int (nomark _)) (pe_one (pe_cmpR op_ne (pe_ix ix_tup (pv 0) (pe_int) (fun _ _ => rfl)) pe_int (nomark _)))))))), ?_⟩
    refine ⟨_, rfl, _, _, _, _, _, rfl, .ty "tuple", ty_th hd, kit_tu d, _, rfl, ite2 (fun c => ?_) (fun c => ?_)⟩
    · have e : isOrd d = false := by
        cases d <;> first | rfl | (cases c)
      rw [e] at q
      exact q
    · obtain ⟨ds, rfl⟩ : ∃ ds, d = .tuple ds := by
        cases d with
        | tuple ds => exact ⟨ds, rfl⟩
        | none => exact absurd rfl c
        | bool b => exact absurd rfl c
        | int i => exact absurd rfl c
        | str x => exact absurd rfl c
        | list x => exact absurd rfl c
        | dict x => exact absurd rfl c
      obtain ⟨t, vs, rfl, ht, hp⟩ := th_items hd
      have hl := Paired.length hp
      refine ⟨_, rfl, t, vs, rfl, .inr (.inl (.inl ht)), _, _, rfl, rfl, _, rfl, ite2 (fun c2 => ?_) (fun c2 => ?_)⟩
      · have c2' := of_decide_eq_true c2
        have e : isOrd (.tuple ds) = false := by
          show (decide (ds.length ≤ 64) && ds.all isCo && hdNot0 ds) = false
          rw [decide_eq_false (by omega)]
          rfl
        rw [e] at q
        exact q
      · have c2' : ds.length ≤ 64 := by
          have h : ¬ ((64 : Int) < (vs.length : Int)) := fun z => c2 (decide_eq_true z)
          omega
        refine ⟨_, rfl, t, rfl, ⟨_, .inl (.inl ht)⟩, for_tup (K := K) (a := t) (xs := vs) (fun i σ H' => ∃ y1 : Option V, σ = [some (.ref t), y1] ∧ H' = H ∧ (ds.take i).all isCo = true) ⟨none, rfl, rfl, rfl⟩ ?_ ?_ ?_⟩
        · rintro i σ H' _ ⟨_, _, rfl, _⟩
          exact .inl (.inl ht)
        · rintro i x σ H' hx ⟨y1, rfl, rfl, hall⟩
          obtain ⟨d, hy, hdo⟩ := pr_at hp hx
          refine ⟨_, rfl, x, d, rfl, hdo, _, rfl, ite2 (fun c3 => ?_) (fun c3 => ?_)⟩
          · have e : isOrd (.tuple ds) = false := by
              show (decide (ds.length ≤ 64) && ds.all isCo && hdNot0 ds) = false
              have hm := List.mem_of_getElem? hy
              have : ds.all isCo = false := List.all_eq_false.mpr ⟨d, hm, by
                intro z
                rw [z] at c3
                cases c3⟩
              rw [this]
              simp
            rw [e] at q
            exact q
          · refine ⟨some x, rfl, rfl, ?_⟩
            rw [List.take_add_one, hy, List.all_append, hall]
            cases hq : isCo d with
            | true => simp [hq]
            | false => exact absurd (by rw [hq]; rfl) c3
        · rintro σ H' ⟨y1, rfl, rfl, hall⟩
          rw [hl, List.take_length] at hall
          refine ⟨_, rfl, t, vs, rfl, .inr (.inl (.inl ht)), rfl, _, rfl, ?_⟩
          have e0 : isOrd (.tuple ds) = hdNot0 ds := by
            show (decide (ds.length ≤ 64) && ds.all isCo && hdNot0 ds) = _
            rw [decide_eq_true c2', hall]
            rfl
          rw [e0] at q
          refine ite2 (fun c4 => ?_) (fun c4 => ?_)
          · have : vs = [] := by
              have := V.int.inj (of_decide_eq_true c4)
              exact List.eq_nil_of_length_eq_zero (by omega)
            subst this
            cases hp
            exact q
          · cases hp with
            | nil => exact absurd (decide_eq_true rfl) c4
            | cons r1 r2 =>
              rename_i v0 d0 vs' ds'
              have hc0 : isCo d0 = true := by
                rw [List.all_cons, Bool.and_eq_true] at hall
                exact hall.1
              obtain ⟨i, rfl⟩ : ∃ i, d0 = .int i := by
                cases d0 with
                | int i => exact ⟨i, rfl⟩
                | none => cases hc0
                | bool b => cases hc0
                | str x => cases hc0
                | list x => cases hc0
                | tuple x => cases hc0
                | dict x => cases hc0
              cases r1
              refine ⟨_, rfl, t, _, 0, _, rfl, rfl, .inl (.inl ht), atI_nat (j := 0) rfl, rfl, ?_⟩
              have e1 : (!decide (V.int i = V.int 0)) = hdNot0 (.int i :: ds') := by
                show _ = decide (i ≠ 0)
                by_cases e : i = 0
                · rw [e]
                  rfl
                · rw [decide_eq_false (fun z => e (V.int.inj z)), decide_eq_true e]
                  rfl
              rw [e1]
              exact q
end
end Lim
set_option maxHeartbeats 1000000
namespace Lim
open PySem PySem.Spec PyProof.Rows L2
/-! what is shown of many -/
structure ShS (d : PyData) : Prop where
  sh : d.showable = true
  dp : d.depth ≤ 10
  sz : d.shown.length ≤ 2100
theorem ShS.q {d : PyData} (h : ShS d) : ShQ d := ⟨h.sh, Nat.le_trans h.dp (by decide), Nat.le_trans h.sz (by decide)⟩
theorem shs_all : ∀ ds : List PyData, (∀ d ∈ ds, ShS d) → PyData.showableAll ds = true ∧ PyData.depthAll ds ≤ 10 ∧ piled (PyData.shownAll ds) ≤ 2102 * ds.length
  | [], _ => by simp [PyData.showableAll, PyData.depthAll, PyData.shownAll, piled]
  | d :: r, h => by
    obtain ⟨h1, h2, h3⟩ := shs_all r fun y hy => h y (List.mem_cons_of_mem _ hy)
    have hd := h d (List.mem_cons_self ..)
    refine ⟨?_, ?_, ?_⟩
    · rw [PyData.showableAll, h1, hd.sh]
      rfl
    · rw [PyData.depthAll]
      have := hd.dp
      omega
    · rw [PyData.shownAll, piled_cons, List.length_cons]
      have := hd.sz
      omega
theorem list_text (ts : List Str) : (listText ts).length ≤ piled ts + 2 := by
  have e2 : ((("]" : String) : Str)).length = 1 := rfl
  cases ts with
  | nil => decide +kernel
  | cons u q =>
    have h := textFrom_length_pos q 1 (("[" : Str) ++ (if (0 : Nat) > 0 then ", " else "" : String) ++ u) (Nat.succ_pos 0)
    have hx : (listText (u :: q)).length = (textFrom 1 (("[" : Str) ++ (if (0 : Nat) > 0 then ", " else "" : String) ++ u) q).length + 1 := by
      show (textFrom 1 (("[" : Str) ++ (if (0 : Nat) > 0 then ", " else "" : String) ++ u) q ++ ("]" : Str)).length = _
      rw [strLen_append, e2]
    have hy : (("[" : Str) ++ (if (0 : Nat) > 0 then ", " else "" : String) ++ u).length = u.length + 1 := by
      rw [strLen_append, strLen_append]
      have e3 : ((("[" : String) : Str)).length = 1 := rfl
      have e4 : ((((if (0 : Nat) > 0 then ", " else "" : String)) : Str)).length = 0 := rfl
      rw [e3, e4]
      omega
    rw [hx, h, hy, piled_cons]
    omega
theorem shq_tup {ds : List PyData} (h : ∀ d ∈ ds, ShS d) (hl : ds.length ≤ 1000) : ShQ (.tuple ds) := by
  obtain ⟨h1, h2, h3⟩ := shs_all ds h
  refine ⟨by rw [PyData.showable, h1], by rw [PyData.depth]; omega, ?_⟩
  rw [PyData.shown]
  have := PySem.fmt_text (PyData.shownAll ds)
  rw [sizeLine_eq]
  omega
theorem shq_lst {ds : List PyData} (h : ∀ d ∈ ds, ShS d) (hl : ds.length ≤ 1000) : ShQ (.list ds) := by
  obtain ⟨h1, h2, h3⟩ := shs_all ds h
  refine ⟨by rw [PyData.showable, h1], by rw [PyData.depth]; omega, ?_⟩
  rw [PyData.shown]
  have := list_text (PyData.shownAll ds)
  rw [sizeLine_eq]
  omega
theorem shs_int {z : Int} (h : z.natAbs < 2 ^ 200) : ShS (.int z) := ⟨(Shn.int h).sh, by simp [PyData.depth], Nat.le_trans (int_len h) (by decide)⟩
/-- what the law puts in by the way -/
inductive OddD : PyData → Prop
  | bl (b : Bool) : OddD (.bool b)
  | non : OddD .none
  | int (z : Int) : z.natAbs < 2 ^ 200 → OddD (.int z)
  | s1 : OddD (.str "1")
  | s0 : OddD (.str "")
  | t0 : OddD (.tuple [])
  | t1 : OddD (.tuple [.int 1])
  | l0 : OddD (.list [])
  | d0 : OddD (.dict [])
theorem odd_shs {d : PyData} (h : OddD d) : ShS d := by
  cases h with
  | bl b => cases b <;> exact ⟨by simp [PyData.showable], by simp [PyData.depth], by rw [PyData.shown]; decide +kernel⟩
  | non => exact ⟨by simp [PyData.showable], by simp [PyData.depth], by rw [PyData.shown]; decide +kernel⟩
  | int z h => exact shs_int h
  | s1 => exact ⟨by simp [PyData.showable], by simp [PyData.depth], by rw [PyData.shown]; decide +kernel⟩
  | s0 => exact ⟨by simp [PyData.showable], by simp [PyData.depth], by rw [PyData.shown]; decide +kernel⟩
  | t0 => exact ⟨by simp [PyData.showable, PyData.showableAll], by simp [PyData.depth, PyData.depthAll], by rw [PyData.shown, PyData.shownAll]; decide +kernel⟩
  | t1 => exact ⟨by rw [PyData.showable, PyData.showableAll, PyData.showableAll, PyData.showable]; decide +kernel, by simp [PyData.depth, PyData.depthAll], by rw [PyData.shown, PyData.shownAll, PyData.shownAll, PyData.shown]; decide +kernel⟩
  | l0 => exact ⟨by simp [PyData.showable, PyData.showableAll], by simp [PyData.depth, PyData.depthAll], by rw [PyData.shown, PyData.shownAll]; decide +kernel⟩
  | d0 => exact ⟨by simp [PyData.showable, PyData.showableKv], by simp [PyData.depth, PyData.depthKv], by rw [PyData.shown, PyData.shownKv]; decide +kernel⟩
section
variable {P : Program} {w : World} {K : PySem.W.Frag} {mg : Str → Option Value} {base : Heap} {src : Addr}
theorem all_co {H : Hp} : ∀ {vs : List V} {ds : List PyData}, Paired (Do H src) vs ds → ds.all isCo = true → ∃ iz : List Int, ds = iz.map PyData.int ∧ vs = iz.map V.int ∧ ∀ z ∈ iz, 0 ≤ z
  | _, _, .nil, _ => ⟨[], rfl, rfl, by simp⟩
  | _, _, .cons (a := v0) (b := d0) r rs, h => by
    rw [List.all_cons, Bool.and_eq_true] at h
    obtain ⟨iz, h1, h2, h3⟩ := all_co rs h.2
    obtain ⟨i, hi, h0⟩ : ∃ i, d0 = .int i ∧ 0 ≤ i := by
      cases d0 with
      | int i => exact ⟨i, rfl, of_decide_eq_true (Bool.and_eq_true_iff.mp h.1).1⟩
      | none => cases h.1
      | bool b => cases h.1
      | str x => cases h.1
      | list x => cases h.1
      | tuple x => cases h.1
      | dict x => cases h.1
    subst hi
    cases r
    refine ⟨i :: iz, by rw [h1]; rfl, by rw [h2]; rfl, fun z hz => ?_⟩
    rcases List.mem_cons.mp hz with e | hz
    · rw [e]
      exact h0
    · exact h3 z hz
theorem scIs1 : FnScope ["thing", "number"] ["thing"] (defScope sIs1) := ⟨rfl, rfl, rfl, by decide +kernel, rfl, by decide +kernel, by decide +kernel⟩
def spIs1 (src : Addr) : Sp := fun vs H Q _ => ∃ (v : V) (d : PyData), vs = [v] ∧ Th H src v d ∧ ∀ H', Same H H' → Q (.bl (isOrd d)) H'

theorem ok_is1 {f : Addr} {fd : FuncData} {k : Nat} (F : Fun K "_law_is_one" "_law_is_one" sIs1 f fd) (mis : mg "isinstance" = none) (mt : mg "tuple" = none) (ml : mg "len" = none) (mi : mg "int" = none) (mbo : mg "bool" = none) : FnOk P w K mg base CX0 (k + 1) f fd ["thing"] (spIs1 src) := by
  refine F.ok scIs1 (fun vs H Q E h => ?_) (fun cdv A outer s H vs Q E hr h => ?_)
  · obtain ⟨v, d, rfl, _⟩ := h
    rfl
  · obtain ⟨v, d, rfl, hd, q⟩ := h
    refine ⟨_, (pss_cons (ps_if (PW.pt (pw_or (pt_not (pt_val (pe_callB call_isi (by rfl) mis (by decide +kernel) (pa_cons (pv 0) (pa_cons (pe_bltn (v := .ty "tuple") (by rfl) mt (by decide +kernel) rfl) pa_nil))))) (pw_or1 (pt_cmpR op_gt (pe_callB call_len_seq (by rfl) ml PySem.boot_len (pa_cons (pv 0) pa_nil)) (pe_int) (nomark _))))) (pss_one (ps_ret (pe_bl))) pss_nil)
        (pss_cons (ps_for PassesOwn.never rfl (pi_tup (pv 0)) (pg_name (i := 1) scIs1.nd rfl (.inl rfl)) (pss_one (ps_if (pt_cut (PW.pt (pw_or (pt_not (pt_val (pe_callB call_isi (by rfl) mis (by decide +kernel) (pa_cons (pv 1) (pa_cons (pe_bltn (v := .ty "int") (by rfl) mi (by decide +kernel) rfl) pa_nil))))) (pw_or (pt_val (pe_callB call_isi (by rfl) mis (by decide +kernel) (pa_cons (pv 1) (pa_cons (pe_bltn (v := .ty "bool") (by rfl) mbo (by decide +kernel) rfl) pa_nil)))) (pw_or (pt_cmpR op_lt (pv 1) (pe_int) (nomark _)) (pw_or1 (pt_cmpR op_ge (pv 1) (pe_op op_pow (pe_int) (pe_int)) (nomark _)))))))) (pss_one (ps_ret (pe_bl))) pss_nil)))
        (pss_one (ps_ret (pe_or (pe_cmpR (op_eqD hr.units) (pv 0) (pe_tup pa_nil) (nomark _)) (pe_one (pe_cmpR op_gt (pe_ix ix_tup (pv 0) (pe_int) (fun _ _ => rfl)) pe_int (nomark _)))))))), ?_⟩
    refine ⟨_, rfl, _, _, _, _, _, rfl, .ty "tuple", ty_th hd, kit_tu d, _, rfl, ite2 (fun c => ?_) (fun c => ?_)⟩
    · have e : isOrd d = false := by
        cases d <;> first | rfl | (cases c)
      rw [e] at q
      exact q H (Same.refl H)
    · obtain ⟨ds, rfl⟩ : ∃ ds, d = .tuple ds := by
        cases d with
        | tuple ds => exact ⟨ds, rfl⟩
        | none => exact absurd rfl c
        | bool b => exact absurd rfl c
        | int i => exact absurd rfl c
        | str x => exact absurd rfl c
        | list x => exact absurd rfl c
        | dict x => exact absurd rfl c
      obtain ⟨t, vs, rfl, ht, hp⟩ := th_items hd
      have hl := Paired.length hp
      refine ⟨_, rfl, t, vs, rfl, .inr (.inl (.inl ht)), _, _, rfl, rfl, _, rfl, ite2 (fun c2 => ?_) (fun c2 => ?_)⟩
      · have c2' := of_decide_eq_true c2
        have e : isOrd (.tuple ds) = false := by
          show (decide (ds.length ≤ 64) && ds.all isCo && hdNot0 ds) = false
          rw [decide_eq_false (by omega)]
          rfl
        rw [e] at q
        exact q H (Same.refl H)
      · have c2' : ds.length ≤ 64 := by
          have h : ¬ ((64 : Int) < (vs.length : Int)) := fun z => c2 (decide_eq_true z)
          omega
        refine ⟨_, rfl, t, rfl, ⟨_, .inl (.inl ht)⟩, for_tup (K := K) (a := t) (xs := vs) (fun i σ H' => ∃ y1 : Option V, σ = [some (.ref t), y1] ∧ H' = H ∧ (ds.take i).all isCo = true) ⟨none, rfl, rfl, rfl⟩ ?_ ?_ ?_⟩
        · rintro i σ H' _ ⟨_, _, rfl, _⟩
          exact .inl (.inl ht)
        · rintro i x σ H' hx ⟨y1, rfl, rfl, hall⟩
          obtain ⟨d, hy, hdo⟩ := pr_at hp hx
          refine ⟨fun b H'' => b = !isCo d ∧ H'' = H', ?_, ?_⟩
          · refine ⟨_, rfl, _, _, _, _, _, rfl, .ty "int", ty_do hdo, kit_in d, _, rfl, ite2 (fun c3 => ?_) (fun c3 => ?_)⟩
            · cases d <;> first | exact ⟨rfl, rfl⟩ | (cases c3)
            · refine ⟨_, rfl, _, _, _, _, _, rfl, .ty "bool", ty_do hdo, kit_bo d, _, rfl, ite2 (fun c4 => ?_) (fun c4 => ?_)⟩
              · cases d <;> first | exact ⟨rfl, rfl⟩ | (cases c4)
              · obtain ⟨i, rfl⟩ : ∃ i, d = .int i := by
                  cases d with
                  | int i => exact ⟨i, rfl⟩
                  | bool b => exact absurd rfl c4
                  | none => exact absurd rfl c3
                  | str x => exact absurd rfl c3
                  | list x => exact absurd rfl c3
                  | tuple x => exact absurd rfl c3
                  | dict x => exact absurd rfl c3
                cases hdo
                refine ⟨_, rfl, _, _, rfl, rfl, _, rfl, ite2 (fun c5 => ?_) (fun c5 => ?_)⟩
                · have c5' := of_decide_eq_true c5
                  refine ⟨?_, rfl⟩
                  show true = !(decide (0 ≤ i) && decide (i < 1000000000000000000))
                  rw [decide_eq_false (by omega)]
                  rfl
                · have c5' : ¬ i < 0 := fun z => c5 (decide_eq_true z)
                  refine ⟨_, rfl, _, _, rfl, rfl, ⟨by decide, by decide, by decide⟩, _, _, rfl, rfl, _, rfl, ?_, rfl⟩
                  show decide ((10 : Int) ^ (18 : Int).toNat ≤ i) = !(decide (0 ≤ i) && decide (i < 1000000000000000000))
                  rw [decide_eq_true (show 0 ≤ i by omega), Bool.true_and, ← decide_not]
                  have e10 : (10 : Int) ^ (18 : Int).toNat = 1000000000000000000 := by decide
                  rw [e10]
                  congr 1
                  exact propext ⟨fun h => by omega, fun h => by omega⟩
          · rintro b H'' ⟨rfl, rfl⟩
            refine ite2 (fun c3 => ?_) (fun c3 => ?_)
            · have e : isOrd (.tuple ds) = false := by
                show (decide (ds.length ≤ 64) && ds.all isCo && hdNot0 ds) = false
                have : ds.all isCo = false := List.all_eq_false.mpr ⟨d, List.mem_of_getElem? hy, by
                  intro z
                  rw [z] at c3
                  cases c3⟩
                rw [this]
                simp
              rw [e] at q
              exact q _ (Same.refl _)
            · refine ⟨some x, rfl, rfl, ?_⟩
              rw [List.take_add_one, hy, List.all_append, hall]
              cases hq : isCo d with
              | true => simp [hq]
              | false => exact absurd (by rw [hq]; rfl) c3
        · rintro σ H' ⟨y1, rfl, rfl, hall⟩
          rw [hl, List.take_length] at hall
          have e0 : isOrd (.tuple ds) = hdNot0 ds := by
            show (decide (ds.length ≤ 64) && ds.all isCo && hdNot0 ds) = _
            rw [decide_eq_true c2', hall]
            rfl
          rw [e0] at q
          obtain ⟨iz, rfl, rfl, hn⟩ := all_co hp hall
          refine ⟨_, rfl, Nat.zero_le _, fun p np => ?_⟩
          have e1 := same_upd (o := .tup []) np
          refine ⟨_, _, .tup (.inl (.inl (e1 _ _ ht))) (dp_ints iz), .tup (xs := []) (ds := []) (.inl (.inl upd_same)) .nil, shaped_intsT iz, shaped_intsT [], _, rfl, ?_⟩
          rw [show PyData.eqv (.tuple (iz.map PyData.int)) (.tuple []) = decide (iz = []) from eqvT iz []]
          refine ite2 (fun c4 => ?_) (fun c4 => ?_)
          · have e : iz = [] := of_decide_eq_true c4
            subst e
            exact q _ e1
          · have e : iz ≠ [] := fun z => c4 (decide_eq_true z)
            obtain ⟨z, r, rfl⟩ : ∃ z r, iz = z :: r := by
              cases iz with
              | nil => exact absurd rfl e
              | cons z r => exact ⟨z, r, rfl⟩
            refine ⟨_, rfl, t, _, 0, _, rfl, rfl, .inl (.inl (e1 _ _ ht)), atI_nat (j := 0) rfl, _, _, rfl, rfl, ?_⟩
            have hz := hn z (List.mem_cons_self ..)
            have e2 : decide ((0 : Int) < z) = hdNot0 ((z :: r).map PyData.int) := by
              show _ = decide (z ≠ 0)
              congr 1
              exact propext ⟨fun h => by omega, fun h => by omega⟩
            show Q (.bl (decide (0 < z))) _
            rw [e2]
            exact q _ e1

/-! ### an odd thing -/
theorem scOdd : FnScope ["source"] ["source"] (defScope sOdd) := ⟨rfl, rfl, rfl, by decide +kernel, rfl, by decide +kernel, by decide +kernel⟩
def spOdd : Sp := fun vs H Q _ => ∃ (a n : Addr), vs = [.ref a] ∧ Src H a n ∧ ∀ v d H', Stp a n H H' → Do H' a v d → OddD d → Q v H'
theorem ok_odd {f fC : Addr} {fd dC : FuncData} {k : Nat} (F : Fun K "_law_odd" "_law_odd" sOdd f fd) (GC : FnOk P w K mg base CX0 (k + 1) fC dC ["source", "items"] (spCho K)) (kC : PySem.W.keepIn K (.ref fC) = true) (bC : Binds K dC ["source", "items"] []) (gC : mg "_law_choose" = some (.ref fC)) :
    FnOk P w K mg base CX0 (k + 2) f fd ["source"] spOdd := by
  refine F.ok scOdd (fun vs H Q E h => ?_) (fun cdv A outer s H vs Q E hr h => ?_)
  · obtain ⟨a, n, rfl, _⟩ := h
    rfl
  · obtain ⟨a, n, rfl, hs, q⟩ := h
    refine ⟨_, (pss_one (ps_ret (pe_call GC hr (by rfl) gC kC bC .nil pass0 (pa_cons (pv 0) (pa_cons (pe_lst (pa_cons (pe_bl) (pa_cons (pe_bl) (pa_cons (pe_un un_neg pe_int) (pa_cons (pe_non) (pa_cons (pe_str) (pa_cons (pe_str) (pa_cons (pe_tup pa_nil) (pa_cons (pe_tup (pa_cons (pe_int) pa_nil)) (pa_cons (pe_lst pa_nil) (pa_cons (pe_dnewK) (pa_cons (pe_op op_pow (pe_int) (pe_int)) (pa_cons (pe_op op_sub (pe_op op_pow (pe_int) (pe_int)) (pe_int)) (pa_cons (pe_op op_pow (pe_int) (pe_int)) pa_nil)))))))))))))) pa_nil))))), ?_⟩
    refine ⟨_, rfl, 1, rfl, Nat.zero_le _, fun p1 n1 => ⟨by show 1 ≤ sizeLine; decide, fun p2 n2 => ⟨Nat.zero_le _, fun p3 n3 => fun p4 n4 => ⟨_, _, rfl, rfl, ⟨by decide, by decide, by decide⟩, _, _, rfl, rfl, ⟨by decide, by decide, by decide⟩, _, _, rfl, rfl, _, _, rfl, rfl, ⟨by decide, by decide, by decide⟩, by show 13 ≤ sizeLine; decide, fun l nl => ?_⟩⟩⟩⟩
    have e1 := same_upd (o := .tup []) n1
    have e2 := same_upd (o := .tup [.int 1]) n2
    have e3 := same_upd (o := .lst []) n3
    have e4 := same_upd (o := .dK []) n4
    have e24 := (e2.trans e3).trans e4
    have e14 := e1.trans e24
    have hs4 := hs.same e14
    have n3a : p3 ≠ a := (hs.same (e1.trans e2)).has n3
    refine ⟨a, n, l, _, rfl, hs4.same (same_upd nl), .inl (.inl upd_same), hs4.has nl, by simp, by simp, fun v H' hv st => ?_⟩
    have el := fun (o : HO) => same_upd (o := o) nl
    have fin : ∀ d, Do _ a v d → OddD d → Q v H' := fun d h1 h2 => q v d H' ((Stp.of hs (e14.trans (el _))).trans st) (h1.stp st (hs4.same (el _))) h2
    simp at hv
    rcases hv with rfl | rfl | rfl | rfl | rfl | rfl | rfl | rfl | rfl | rfl | rfl | rfl | rfl
    · exact fin _ (.bl _) (.bl _)
    · exact fin _ (.bl _) (.bl _)
    · exact fin _ (.int _) (.int _ (by decide))
    · exact fin _ .non .non
    · exact fin _ (.str _) .s1
    · exact fin _ (.str _) .s0
    · exact fin _ (.tup [] (el _ _ _ (e24 _ _ upd_same))) .t0
    · exact fin _ (.tup [1] (el _ _ _ ((e3.trans e4) _ _ upd_same))) .t1
    · exact fin _ (.lst [] (el _ _ _ (e4 _ _ upd_same)) n3a) .l0
    · exact fin _ (.emp (el _ _ _ upd_same)) .d0
    · exact fin _ (.int _) (.int _ (by decide))
    · exact fin _ (.int _) (.int _ (by decide))
    · exact fin _ (.int _) (.int _ (by decide))
end
end Lim
set_option maxHeartbeats 2000000
namespace Lim
open PySem PySem.Spec PyProof.Rows L2
abbrev sLaw : Stmt := topS 13
section
variable {P : Program} {w : World} {K : PySem.W.Frag} {mg : Str → Option Value} {base : Heap}
/-- repr of a thing, whichever the source -/
theorem call_reprS {X : Cx} (hgd : X.A.guards = some []) (hu : X.A.units + 100 < cLine) : CallR X (.builtin "repr") (fun xs H Q => ∃ src v d, xs = [v] ∧ Th H src v d ∧ ShQ d ∧ Q (.str d.shown) H) := by
  intro pins s σ H xs us Q I r h
  obtain ⟨src, h⟩ := h
  exact call_reprT src hgd hu pins s σ H xs us Q I r h
abbrev nLaw : List Str := ["script", "source", "things", "turn", "size", "numbers", "place", "bent", "thing", "before", "index"]
theorem scLaw : FnScope nLaw ["script"] (defScope sLaw) := ⟨rfl, rfl, rfl, by decide +kernel, rfl, by decide +kernel, by decide +kernel⟩
def spLaw (K : PySem.W.Frag) : Sp := fun vs H Q _ => ∃ (a : Addr) (ns : List Int), vs = [.ref a] ∧ SqL K H a (ns.map V.int) ∧ ns.length ≤ 63 ∧ ∀ H', Q (.bl true) H'
theorem ex_src {f : Addr} {fd : FuncData} {k : Nat} {ps : List Str} (sp : Addr → Sp) (h : ∀ src, FnOk P w K mg base CX0 k f fd ps (sp src)) : FnOk P w K mg base CX0 k f fd ps (fun vs H Q E => ∃ src, sp src vs H Q E) :=
  ⟨fun vs H Q E ⟨src, q⟩ => (h src).len vs H Q E q, fun A outer s H args us vs Q E r e bb va ⟨src, q⟩ => (h src).run A outer s H args us vs Q E r e bb va q⟩
def spIsOs : Sp := fun vs H Q E => ∃ src, spIsO src vs H Q E
def spIs1s : Sp := fun vs H Q E => ∃ src, spIs1 src vs H Q E
structure Calls (P : Program) (w : World) (K : PySem.W.Frag) (mg : Str → Option Value) (base : Heap) (k : Nat) : Prop where
  drw : ∃ f fd, FnOk P w K mg base CX0 k f fd ["script"] (spDrw K) ∧ mg "_law_draws" = some (.ref f) ∧ PySem.W.keepIn K (.ref f) = true ∧ Binds K fd ["script"] []
  nxt : ∃ f fd, FnOk P w K mg base CX0 k f fd ["source", "bound"] spNxt ∧ mg "_law_next" = some (.ref f) ∧ PySem.W.keepIn K (.ref f) = true ∧ Binds K fd ["source", "bound"] []
  cho : ∃ f fd, FnOk P w K mg base CX0 k f fd ["source", "items"] (spCho K) ∧ mg "_law_choose" = some (.ref f) ∧ PySem.W.keepIn K (.ref f) = true ∧ Binds K fd ["source", "items"] []
  ide : ∃ f fd, FnG P w K mg base k f fd ["found", "expected"] (spIde K) ∧ mg "_law_identical" = some (.ref f) ∧ PySem.W.keepIn K (.ref f) = true ∧ Binds K fd ["found", "expected"] []
  odd : ∃ f fd, FnOk P w K mg base CX0 k f fd ["source"] spOdd ∧ mg "_law_odd" = some (.ref f) ∧ PySem.W.keepIn K (.ref f) = true ∧ Binds K fd ["source"] []
  iso : ∃ f fd, FnOk P w K mg base CX0 k f fd ["thing"] spIsOs ∧ mg "is_ordinal" = some (.ref f) ∧ PySem.W.keepIn K (.ref f) = true ∧ Binds K fd ["thing"] []
  is1 : ∃ f fd, FnOk P w K mg base CX0 k f fd ["thing"] spIs1s ∧ mg "_law_is_one" = some (.ref f) ∧ PySem.W.keepIn K (.ref f) = true ∧ Binds K fd ["thing"] []
  range : mg "range" = none
  tuple : mg "tuple" = none
  repr : mg "repr" = none
/-- a thing and what it reads as -/
def ThS (H : Hp) (src : Addr) (v : V) : Prop := ∃ d, Th H src v d ∧ ShQ d
theorem ThS.stp {H H' : Hp} {src n : Addr} {v : V} (h : ThS H src v) (hs : Src H src n) (s : Stp src n H H') : ThS H' src v := by
  obtain ⟨d, h1, h2⟩ := h
  exact ⟨d, h1.stp s hs, h2⟩
theorem ThS.same {H H' : Hp} {src n : Addr} {v : V} (h : ThS H src v) (hs : Src H src n) (s : Same H H') : ThS H' src v := h.stp hs (.of hs s)
theorem shs_map {zs : List Int} (h : ∀ z ∈ zs, z.natAbs < 2 ^ 200) : ∀ d ∈ zs.map PyData.int, ShS d := by
  intro d hd
  obtain ⟨z, hz, rfl⟩ := List.mem_map.mp hd
  exact shs_int (h z hz)
theorem ths_tup {H : Hp} {src t : Addr} {zs : List Int} (h : H t = some (.tup (zs.map V.int))) (hb : ∀ z ∈ zs, z.natAbs < 2 ^ 200) (hl : zs.length ≤ 1000) : ThS H src (.ref t) :=
  ⟨_, .od (.tup zs h), shq_tup (shs_map hb) (by rw [List.length_map]; exact hl)⟩
theorem ths_bent {H : Hp} {src t : Addr} {xs ys : List Int} {v : V} {d : PyData} (h : H t = some (.tup (xs.map V.int ++ v :: ys.map V.int))) (hd : Do H src v d) (ho : OddD d) (hx : ∀ z ∈ xs, z.natAbs < 2 ^ 200) (hy : ∀ z ∈ ys, z.natAbs < 2 ^ 200) (hl : xs.length + ys.length ≤ 900) : ThS H src (.ref t) := by
  refine ⟨_, .bent xs ys h hd, shq_tup (fun e he => ?_) ?_⟩
  · rcases List.mem_append.mp he with h | h
    · exact shs_map hx e h
    · rcases List.mem_cons.mp h with h | h
      · rw [h]
        exact odd_shs ho
      · exact shs_map hy e h
  · rw [List.length_append, List.length_cons, List.length_map, List.length_map]
    omega
theorem size_ok {n : Nat} (h : n ≤ 1000) : n ≤ sizeLine := Nat.le_of_lt (small1000 h)
theorem ok_law {f : Addr} {fd : FuncData} {k : Nat} (F : Fun K "law" "law" sLaw f fd) (C : Calls P w K mg base k) : FnG P w K mg base (k + 1) f fd ["script"] (spLaw K) := by
  obtain ⟨fD, dD, GD, gD, kD, bD⟩ := C.drw
  obtain ⟨fN, dN, GN, gN, kN, bN⟩ := C.nxt
  obtain ⟨fC, dC, GC, gC, kC, bC⟩ := C.cho
  obtain ⟨fI, dI, GI, gI, kI, bI⟩ := C.ide
  obtain ⟨fO, dO, GO, gO, kO, bO⟩ := C.odd
  obtain ⟨fS, dS, GS, gS, kS, bS⟩ := C.iso
  obtain ⟨fU, dU, GU, gU, kU, bU⟩ := C.is1
  have mr := C.range
  have mt := C.tuple
  have mp := C.repr
  refine Fun_okG F scLaw (fun vs H Q E h => ?_) (fun cdv B below s H vs Q E hg hr h => ?_)
  · obtain ⟨a, ns, rfl, _⟩ := h
    rfl
  · obtain ⟨a, ns, rfl, hS, hlen, q⟩ := h
    have hun : (cxOf CX0 P w K mg base nLaw "law" (defScope sLaw) f cdv B below s H E).nox.A.units + 100 < cLine := by
      have := hr.un
      show (B.deeper _).units + 100 < cLine
      omega
    refine ⟨_, (pss_cons (ps_set (i := 1) scLaw.nd rfl (.inr rfl) (pe_call GD hr (by rfl) gD kD bD .nil pass0 (pa_cons (pv 0) pa_nil)))
        (C8.pss_cut (ps_set (i := 2) scLaw.nd rfl (.inl rfl) (pe_lst (pa_cons (pe_non) (pa_cons (pe_int) (pa_cons (pe_int) (pa_cons (pe_bl) (pa_cons (pe_str) (pa_cons (pe_str) (pa_cons (pe_str) (pa_cons (pe_lst pa_nil) (pa_cons (pe_dnewK) (pa_cons (pe_disp (pps_cons pe_int pe_int pps_nil) (by rfl) (by rfl) (fun z => by cases z) (by decide)) (pa_cons (pe_tup pa_nil) (pa_cons (pe_tup (pa_cons (pe_int) pa_nil)) (pa_cons (pe_tup (pa_cons (pe_int) pa_nil)) (pa_cons (pe_tup (pa_cons (pe_tup (pa_cons (pe_int) pa_nil)) pa_nil)) (pa_cons (pe_tup (pa_cons (pe_int) (pa_cons (pe_int) pa_nil))) (pa_cons (pe_tup (pa_cons (pe_int) (pa_cons (pe_int) pa_nil))) pa_nil))))))))))))))))))
        (pss_cons (ps_for PassesOwn.never rfl (pi_range1 rfl mr (pa_cons pe_int pa_nil)) (pg_name (i := 3) scLaw.nd rfl (.inl rfl)) (pss_cons (ps_set (i := 4) scLaw.nd rfl (.inl rfl) (pe_call GC hr (by rfl) gC kC bC .nil pass0 (pa_cons (pv 1) (pa_cons (pe_lst (pa_cons (pe_int) (pa_cons (pe_int) (pa_cons (pe_int) (pa_cons (pe_int) (pa_cons (pe_int) (pa_cons (pe_int) (pa_cons (pe_int) (pa_cons (pe_int) pa_nil))))))))) pa_nil))))
        (C8.pss_cut (ps_setLc (i := 5) (own := [("index", 10)]) (g := gName 10) (tt := tYes) (by rfl) scLaw.nd rfl rfl (sw_true rfl rfl rfl (by decide +kernel)) (pi_range1 rfl mr (pa_cons (pv 4) pa_nil)) (blkOk_by (N := nLaw) (sc := defScope sLaw) (by decide +kernel)) (fun _ _ _ _ _ => pg_name (i := 10) scLaw.nd rfl (.inl rfl)) (fun _ _ _ _ _ => pts_nil) (fun _ _ _ _ _ => pe_call GN hr (by rfl) gN kN bN .nil pass0 (pa_cons (pv 1) (pa_cons (pe_call GC hr (by rfl) gC kC bC .nil pass0 (pa_cons (pv 1) (pa_cons (pe_lst (pa_cons (pe_int) (pa_cons (pe_int) (pa_cons (pe_int) (pa_cons (pe_op op_pow (pe_int) (pe_int)) pa_nil))))) pa_nil))) pa_nil))))
        (pss_cons (ps_set (i := 6) scLaw.nd rfl (.inl rfl) (pe_call GN hr (by rfl) gN kN bN .nil pass0 (pa_cons (pv 1) (pa_cons (pv 4) pa_nil))))
        (C8.pss_cut (ps_set (i := 7) scLaw.nd rfl (.inl rfl) (pe_op op_cat (pe_op op_cat (pe_slice sl_list (pv 5) (po_none) (po_some (pv 6))) (pe_lst (pa_cons (pe_call GO hr (by rfl) gO kO bO .nil pass0 (pa_cons (pv 1) pa_nil)) pa_nil))) (pe_slice sl_list (pv 5) (po_some (pe_op op_add (pv 6) (pe_int))) (po_none))))
        (pss_one (ps_set (i := 2) scLaw.nd rfl (.inl rfl) (pe_op op_cat (pv 2) (pe_lst (pa_cons (pe_callTy call_tuple_of (by rfl) mt (by decide +kernel) (pa_cons (pv 5) pa_nil)) (pa_cons (pe_callTy call_tuple_of (by rfl) mt (by decide +kernel) (pa_cons (pe_op op_cat (pe_lst (pa_cons (pe_int) pa_nil)) (pe_slice sl_list (pv 5) (po_some (pe_int)) (po_none))) pa_nil)) (pa_cons (pv 5) (pa_cons (pe_callTy call_tuple_of (by rfl) mt (by decide +kernel) (pa_cons (pv 7) pa_nil)) (pa_cons (pe_callTy call_tuple_of (by rfl) mt (by decide +kernel) (pa_cons (pe_op op_cat (pe_lst (pa_cons (pe_int) pa_nil)) (pe_slice sl_list (pv 7) (po_some (pe_int)) (po_none))) pa_nil)) pa_nil))))))))))))))
        (pss_cons (ps_for PassesOwn.never rfl (pi_list (pv 2)) (pg_name (i := 8) scLaw.nd rfl (.inl rfl)) (pss_cons (ps_set (i := 9) scLaw.nd rfl (.inl rfl) (pe_callB (call_reprS hg hun) (by rfl) mp (by decide +kernel) (pa_cons (pv 8) pa_nil)))
        (pss_one (ps_if (PW.pt (pw_or (pt_not (pt_val (pe_g GI hg hr (by rfl) gI kI bI (pa_cons (pe_call GS hr (by rfl) gS kS bS .nil pass0 (pa_cons (pv 8) pa_nil)) (pa_cons (pe_call GU hr (by rfl) gU kU bU .nil pass0 (pa_cons (pv 8) pa_nil)) pa_nil))))) (pw_or1 (pt_cmpR op_ne (pe_callB (call_reprS hg hun) (by rfl) mp (by decide +kernel) (pa_cons (pv 8) pa_nil)) (pv 9) (nomark _))))) (pss_one (ps_ret (pe_bl))) pss_nil))))
        (pss_one (ps_ret (pe_bl))))))), ?_⟩
    refine ⟨_, rfl, a, ns, rfl, hS, hlen, fun H0 src n sm0 nsrc nn hs => ?_⟩
    refine ⟨fun σ H' => ∃ (l : Addr) (us : List V), σ = [some (.ref a), some (.ref src), some (.ref l), none, none, none, none, none, none, none, none] ∧ Src H' src n ∧ H' l = some (.lst us) ∧ l ≠ src ∧ us.length ≤ 16 ∧ ∀ v ∈ us, ThS H' src v, ?_, ?_⟩
    · have one : 1 ≤ sizeLine := by show 1 ≤ sizeLine; decide
      have two : 2 ≤ sizeLine := by show 2 ≤ sizeLine; decide
      refine ⟨Nat.zero_le _, fun p1 n1 => fun p2 n2 => fun p3 n3 => ⟨upd_same, dkOne, rfl, by decide, Nat.zero_le _, fun p4 n4 => ⟨one, fun p5 n5 => ⟨one, fun p6 n6 => ⟨one, fun p7 n7 => ⟨one, fun p8 n8 => ⟨two, fun p9 n9 => ⟨two, fun p10 n10 => ⟨by show 16 ≤ sizeLine; decide, fun l nl => ?_⟩⟩⟩⟩⟩⟩⟩⟩⟩
      have e1 := same_upd (o := .lst []) n1
      have e2 := same_upd (o := .dK []) n2
      have e3 : Same (L2.upd (L2.upd H0 p1 (.lst [])) p2 (.dK [])) (L2.upd (L2.upd (L2.upd (L2.upd H0 p1 (.lst [])) p2 (.dK [])) p3 (.dK [])) p3 (.dK dkOne)) := fun b o e => by
        rw [upd_ne (ne_of_none e n3), upd_ne (ne_of_none e n3)]
        exact e
      have e4 := same_upd (o := .tup []) n4
      have e5 := same_upd (o := .tup [.int 0]) n5
      have e6 := same_upd (o := .tup [.int 1]) n6
      have e7 := same_upd (o := .tup [.int 1]) n7
      have e8 := same_upd (o := .tup [.ref p7]) n8
      have e9 := same_upd (o := .tup [.int 1, .int 0]) n9
      have e10 := same_upd (o := .tup [.int 0, .int 1]) n10
      have el := fun (o : HO) => same_upd (o := o) nl
      have r9 := e10.trans (el (.lst [.non, .int 0, .int 1, .bl true, .str "", .str "w", .str "12", .ref p1, .ref p2, .ref p3, .ref p4, .ref p5, .ref p6, .ref p8, .ref p9, .ref p10]))
      have r8 := e9.trans r9
      have r7 := e8.trans r8
      have r6 := e7.trans r7
      have r5 := e6.trans r6
      have r4 := e5.trans r5
      have r3 := e4.trans r4
      have r2 := e3.trans r3
      have r1 := e2.trans r2
      have np1 := hs.has n1
      have big : ∀ z ∈ ([1, 0] : List Int), z.natAbs < 2 ^ 200 := by decide
      have nlp : l ≠ src := ((((((((((hs.same e1).same e2).same e3).same e4).same e5).same e6).same e7).same e8).same e9).same e10).has nl
      have hsF := hs.same (e1.trans r1)
      refine ⟨l, _, rfl, hsF, upd_same, nlp, by show 16 ≤ 16; decide, fun v hv => ?_⟩
      simp at hv
      rcases hv with rfl | rfl | rfl | rfl | rfl | rfl | rfl | rfl | rfl | rfl | rfl | rfl | rfl | rfl | rfl | rfl
      · exact ⟨_, .od .non, (odd_shs .non).q⟩
      · exact ⟨_, .od (.int 0), (shs_int (by decide)).q⟩
      · exact ⟨_, .od (.int 1), (shs_int (by decide)).q⟩
      · exact ⟨_, .od (.bl true), (odd_shs (.bl true)).q⟩
      · exact ⟨_, .od (.str ""), (odd_shs .s0).q⟩
      · exact ⟨_, .od (.str "w"), ⟨by simp [PyData.showable], by simp [PyData.depth], by rw [PyData.shown]; decide +kernel⟩⟩
      · exact ⟨_, .od (.str "12"), ⟨by simp [PyData.showable], by simp [PyData.depth], by rw [PyData.shown]; decide +kernel⟩⟩
      · exact ⟨_, .od (.lst [] (r1 _ _ upd_same) np1), shq_lst (by simp) (by simp)⟩
      · exact ⟨_, .od (.emp (r2 _ _ upd_same)), (odd_shs .d0).q⟩
      · refine ⟨_, .one (r3 _ _ upd_same), ?_, ?_, ?_⟩
        · rw [PyData.showable, PyData.showableKv, PyData.showableKv, PyData.showable, PyData.showable]
          decide +kernel
        · simp [PyData.depth, PyData.depthKv]
        · rw [PyData.shown, PyData.shownKv, PyData.shownKv, PyData.shown, PyData.shown]
          decide +kernel
      · exact ths_tup (zs := []) (r4 _ _ upd_same) (by simp) (by simp)
      · exact ths_tup (zs := [0]) (r5 _ _ upd_same) (by simp) (by simp)
      · exact ths_tup (zs := [1]) (r6 _ _ upd_same) (by simp) (by simp)
      · exact ths_bent (xs := []) (ys := []) (r8 _ _ upd_same) (.tup [1] (r7 _ _ upd_same)) .t1 (by simp) (by simp) (by simp)
      · exact ths_tup (zs := [1, 0]) (r9 _ _ upd_same) (by simp) (by simp)
      · exact ths_tup (zs := [0, 1]) (el _ _ _ upd_same) (by simp) (by simp)
    · rintro σ H1 ⟨l, us, rfl, hs1, hl1, nl1, lus, hus⟩
      refine ⟨6, rfl, by decide, by decide, for_range (n := 6) (fun t σ H' => ∃ (l : Addr) (us : List V) (y3 y4 y5 y6 y7 y8 y9 y10 : Option V), σ = [some (.ref a), some (.ref src), some (.ref l), y3, y4, y5, y6, y7, y8, y9, y10] ∧ Src H' src n ∧ H' l = some (.lst us) ∧ l ≠ src ∧ us.length ≤ 16 + 5 * t ∧ ∀ v ∈ us, ThS H' src v) ⟨l, us, _, _, _, _, _, _, _, _, rfl, hs1, hl1, nl1, lus, hus⟩ ?_ ?_⟩
      · rintro t σ H2 ht ⟨l, us, y3, y4, y5, y6, y7, y8, y9, y10, rfl, hs2, hl2, nl2, lus, hus⟩
        refine ⟨_, rfl, by show 8 ≤ sizeLine; decide, fun p np => ⟨src, n, p, _, rfl, hs2.same (same_upd np), .inl (.inl upd_same), hs2.has np, by simp, by simp, fun v H3 hv s3 => ?_⟩⟩
        obtain ⟨sz, rfl, sz0, sz1⟩ : ∃ sz : Int, v = .int sz ∧ 1 ≤ sz ∧ sz ≤ 66 := by
          simp at hv
          rcases hv with rfl | rfl | rfl | rfl | rfl | rfl | rfl | rfl <;> exact ⟨_, rfl, by decide, by decide⟩
        have s23 := (Stp.refl hs2).then (same_upd (o := .lst [.int 1, .int 2, .int 3, .int 5, .int 63, .int 64, .int 65, .int 66]) np) |>.trans s3
        have hs3 := s3.1
        -- numbers
        refine ⟨fun σ H' => ∃ (D : Addr) (zs : List Int), σ = [some (.ref a), some (.ref src), some (.ref l), some (.int (0 + (t : Int))), some (.int sz), some (.ref D), y6, y7, y8, y9, y10] ∧ Stp src n H3 H' ∧ H3 D = none ∧ H' D = some (.lst (zs.map V.int)) ∧ zs.length = sz.toNat ∧ ∀ z ∈ zs, z.natAbs < 2 ^ 200, ?_, ?_⟩
        · refine ⟨_, rfl, sz, rfl, by omega, by omega, fun D nD => lc_range (lo := 0) (n := sz.toNat) (fun i H' => Stp src n H3 H' ∧ ∃ zs : List Int, H' D = some (.lst (zs.map V.int)) ∧ zs.length = i ∧ ∀ z ∈ zs, z.natAbs < 2 ^ 200) ?_ ?_ ?_⟩
          · exact ⟨.of hs3 (same_upd nD), [], upd_same, rfl, by simp⟩
          · rintro i H4 hi ⟨s4, zs, hD, hl, hb⟩
            refine ⟨rfl, _, rfl, _, rfl, _, _, rfl, rfl, ⟨by decide, by decide, by decide⟩, by show 4 ≤ sizeLine; decide, fun p np => ⟨src, n, p, _, rfl, s4.1.same (same_upd np), .inl (.inl upd_same), s4.1.has np, by simp, by simp, fun v H5 hv s5 => ?_⟩⟩
            obtain ⟨b, rfl, b0, b1⟩ : ∃ b : Int, v = .int b ∧ 0 < b ∧ b ≤ 1000000000000000000 := by
              simp at hv
              rcases hv with rfl | rfl | rfl | rfl <;> exact ⟨_, rfl, by decide, by decide⟩
            refine ⟨src, n, b, rfl, s5.1, b0, by omega, fun z H6 z0 z1 s6 => ?_⟩
            have s46 := ((s4.then (same_upd (o := .lst [.int 1, .int 2, .int 3, .int ((10 : Int) ^ (18 : Int).toNat)]) np)).trans s5).trans s6
            have nDs := hs3.has nD
            have hD6 : H6 D = some (.lst (zs.map V.int)) := s6.2 _ _ (s5.2 _ _ (same_upd np _ _ hD) nDs) nDs
            refine ⟨_, hD6, ?_, s46.upd hs3 nD, zs ++ [z], ?_, by rw [List.length_append, hl]; rfl, fun u hu => ?_⟩
            · rw [List.length_map]
              exact small1000 (by omega)
            · rw [upd_same, List.map_append]
              rfl
            · rcases List.mem_append.mp hu with h | h
              · exact hb u h
              · rw [List.mem_singleton.mp h]
                omega
          · rintro H4 ⟨s4, zs, hD, hl, hb⟩
            exact ⟨D, zs, rfl, s4, nD, hD, hl, hb⟩
        · rintro σ H4 ⟨D, zs, rfl, s4, nD, hD, hlz, hb⟩
          have nDs := hs3.has nD
          have hl4 := s4.2 _ _ (s23.2 _ _ hl2 nl2) nl2
          have hus4 : ∀ v ∈ us, ThS H4 src v := fun v h => ((hus v h).stp hs2 s23).stp hs3 s4
          have hs4 := s4.1
          -- place
          refine ⟨_, rfl, _, rfl, src, n, sz, rfl, hs4, by omega, by omega, fun pl H5 pl0 pl1 s5 => ?_⟩
          obtain ⟨pn, rfl⟩ := Int.eq_ofNat_of_zero_le pl0
          have hs5 := s5.1
          have hD5 := s5.2 _ _ hD nDs
          have hl5 := s5.2 _ _ hl4 nl2
          have hus5 : ∀ v ∈ us, ThS H5 src v := fun v h => (hus4 v h).stp hs4 s5
          have ec1 : cutV (zs.map V.int) none (some (pn : Int)) = (zs.take pn).map V.int := by
            rw [cut_to, List.map_take]
          have ec2 : cutV (zs.map V.int) (some ((pn : Int) + 1)) none = (zs.drop (pn + 1)).map V.int := by
            rw [List.map_drop]
            exact cut_from _ (pn + 1)
          -- bent
          refine ⟨fun σ H' => ∃ (B : Addr) (xs ys : List Int) (v : V) (d : PyData), σ = [some (.ref a), some (.ref src), some (.ref l), some (.int (0 + (t : Int))), some (.int sz), some (.ref D), some (.int (pn : Int)), some (.ref B), y8, y9, y10] ∧ Stp src n H5 H' ∧ H' B = some (.lst (xs.map V.int ++ v :: ys.map V.int)) ∧ Do H' src v d ∧ OddD d ∧ (∀ z ∈ xs, z.natAbs < 2 ^ 200) ∧ (∀ z ∈ ys, z.natAbs < 2 ^ 200) ∧ xs.length ≤ 66 ∧ ys.length ≤ 66, ?_, ?_⟩
          · refine ⟨_, rfl, _, rfl, _, rfl, D, _, rfl, .inl (.inl hD5), fun c1 m1 => ?_⟩
            rw [ec1]
            have f1 := fun (o : HO) => same_upd (o := o) m1
            refine ⟨_, rfl, src, n, rfl, hs5.same (f1 _), fun v d H6 s6 hdo hod => ⟨by show 1 ≤ sizeLine; decide, fun c2 m2 => ?_⟩⟩
            have f2 := fun (o : HO) => same_upd (o := o) m2
            have hc1 : c1 ≠ src := hs5.has m1
            have g1 : H6 c1 = some (.lst ((zs.take pn).map V.int)) := s6.2 _ _ upd_same hc1
            have gD : H6 D = some (.lst (zs.map V.int)) := s6.2 _ _ (f1 _ _ _ hD5) nDs
            refine ⟨c1, c2, _, _, rfl, rfl, f2 _ _ _ g1, upd_same, size_ok ?_, fun c3 m3 => ?_⟩
            · rw [List.length_map, List.length_take, List.length_singleton]
              omega
            · have f3 := fun (o : HO) => same_upd (o := o) m3
              refine ⟨_, rfl, _, rfl, _, _, rfl, rfl, _, rfl, D, _, rfl, .inl (.inl (f3 _ _ _ (f2 _ _ _ gD))), fun c4 m4 => ?_⟩
              rw [ec2]
              have f4 := fun (o : HO) => same_upd (o := o) m4
              refine ⟨c3, c4, _, _, rfl, rfl, f4 _ _ _ upd_same, upd_same, size_ok ?_, fun c5 m5 => ?_⟩
              · rw [List.length_append, List.length_map, List.length_map, List.length_take, List.length_drop, List.length_singleton]
                omega
              · have f5 := fun (o : HO) => same_upd (o := o) m5
                have f25 := ((f2 (.lst [v])).trans (f3 (.lst ((zs.take pn).map V.int ++ [v])))).trans ((f4 (.lst ((zs.drop (pn + 1)).map V.int))).trans (f5 (.lst ((zs.take pn).map V.int ++ [v] ++ (zs.drop (pn + 1)).map V.int))))
                refine ⟨c5, zs.take pn, zs.drop (pn + 1), v, d, rfl, ((Stp.of hs5 (f1 _)).trans s6).then f25, ?_, hdo.same f25 s6.1, hod, fun z h => hb z (List.mem_of_mem_take h), fun z h => hb z (List.mem_of_mem_drop h), ?_, ?_⟩
                · rw [upd_same, List.append_assoc]
                  rfl
                · rw [List.length_take]
                  omega
                · rw [List.length_drop]
                  omega
          · rintro σ H6 ⟨B, xs, ys, v, d, rfl, s6, hB, hdo, hod, hx, hy, lx, ly⟩
            have hs6 := s6.1
            have hD6 := s6.2 _ _ hD5 nDs
            have hl6 := s6.2 _ _ hl5 nl2
            have hus6 : ∀ v ∈ us, ThS H6 src v := fun v h => (hus5 v h).stp hs5 s6
            clear hus5 hus4 hus s5 s4 s3 s23
            have one : 1 ≤ sizeLine := by show 1 ≤ sizeLine; decide
            refine ⟨_, rfl, _, rfl, D, _, rfl, .inl ⟨.inl (.inl hD6), fun t1 m1 => ?_⟩⟩
            have f1 := fun (o : HO) => same_upd (o := o) m1
            refine ⟨one, fun c2 m2 => ?_⟩
            have f2 := fun (o : HO) => same_upd (o := o) m2
            have f12 := (f1 (.tup (zs.map V.int))).trans (f2 (.lst [.int 1]))
            refine ⟨_, rfl, 1, rfl, D, _, rfl, .inl (.inl (f12 _ _ hD6)), fun c3 m3 => ?_⟩
            have ec3 : cutV (zs.map V.int) (some 1) none = (zs.drop 1).map V.int := by
              rw [List.map_drop]
              exact cut_from _ 1
            rw [ec3]
            have f3 := fun (o : HO) => same_upd (o := o) m3
            refine ⟨c2, c3, _, _, rfl, rfl, f3 _ _ _ upd_same, upd_same, size_ok ?_, fun c4 m4 => ?_⟩
            · rw [List.length_map, List.length_drop, List.length_singleton]
              omega
            have f4 := fun (o : HO) => same_upd (o := o) m4
            refine ⟨c4, _, rfl, .inl ⟨.inl (.inl upd_same), fun t2 m5 => ?_⟩⟩
            have f5 := fun (o : HO) => same_upd (o := o) m5
            have f15 := f12.trans (((f3 (.lst ((zs.drop 1).map V.int))).trans (f4 (.lst ([.int 1] ++ (zs.drop 1).map V.int)))).trans (f5 (.tup ([.int 1] ++ (zs.drop 1).map V.int))))
            refine ⟨_, rfl, _, rfl, B, _, rfl, .inl ⟨.inl (.inl (f15 _ _ hB)), fun t3 m6 => ?_⟩⟩
            have f6 := fun (o : HO) => same_upd (o := o) m6
            refine ⟨one, fun c5 m7 => ?_⟩
            have f7 := fun (o : HO) => same_upd (o := o) m7
            have f17 := f15.trans ((f6 (.tup (xs.map V.int ++ v :: ys.map V.int))).trans (f7 (.lst [.int 2])))
            refine ⟨_, rfl, 1, rfl, B, _, rfl, .inl (.inl (f17 _ _ hB)), fun c6 m8 => ?_⟩
            have ec4 : cutV (xs.map V.int ++ v :: ys.map V.int) (some 1) none = (xs.map V.int ++ v :: ys.map V.int).drop 1 := cut_from _ 1
            rw [ec4]
            have f8 := fun (o : HO) => same_upd (o := o) m8
            refine ⟨c5, c6, _, _, rfl, rfl, f8 _ _ _ upd_same, upd_same, size_ok ?_, fun c7 m9 => ?_⟩
            · simp only [List.length_drop, List.length_append, List.length_cons, List.length_map, List.length_nil]
              omega
            have f9 := fun (o : HO) => same_upd (o := o) m9
            refine ⟨c7, _, rfl, .inl ⟨.inl (.inl upd_same), fun t4 m10 => ?_⟩⟩
            have f10 := fun (o : HO) => same_upd (o := o) m10
            refine ⟨by show 5 ≤ sizeLine; decide, fun l2 m11 => ?_⟩
            have f11 := fun (o : HO) => same_upd (o := o) m11
            have r10 := f11 (.lst [.ref t1, .ref t2, .ref D, .ref t3, .ref t4])
            have f110 := f17.trans (((f8 (.lst ((xs.map V.int ++ v :: ys.map V.int).drop 1))).trans (f9 (.lst ([.int 2] ++ (xs.map V.int ++ v :: ys.map V.int).drop 1)))).trans (f10 (.tup ([.int 2] ++ (xs.map V.int ++ v :: ys.map V.int).drop 1))))
            have f111 := f110.trans r10
            refine ⟨l, l2, _, _, rfl, rfl, f111 _ _ hl6, upd_same, size_ok (by show us.length + 5 ≤ 1000; omega), fun l3 m12 => ?_⟩
            have f12' := same_upd (o := .lst (us ++ [.ref t1, .ref t2, .ref D, .ref t3, .ref t4])) m12
            have fin := f111.trans f12'
            have r11 := r10.trans f12'
            refine ⟨l3, _, _, _, _, _, _, _, _, _, rfl, hs6.same fin, upd_same, (hs6.same f111).has m12, by rw [List.length_append]; show us.length + 5 ≤ _; omega, fun u hu => ?_⟩
            have k5 : Same _ _ := (((f6 (.tup (xs.map V.int ++ v :: ys.map V.int))).trans (f7 (.lst [.int 2]))).trans (((f8 (.lst ((xs.map V.int ++ v :: ys.map V.int).drop 1))).trans (f9 (.lst ([.int 2] ++ (xs.map V.int ++ v :: ys.map V.int).drop 1)))).trans (f10 (.tup ([.int 2] ++ (xs.map V.int ++ v :: ys.map V.int).drop 1))))).trans r11
            have k6 : Same _ _ := ((f7 (.lst [.int 2])).trans (((f8 (.lst ((xs.map V.int ++ v :: ys.map V.int).drop 1))).trans (f9 (.lst ([.int 2] ++ (xs.map V.int ++ v :: ys.map V.int).drop 1)))).trans (f10 (.tup ([.int 2] ++ (xs.map V.int ++ v :: ys.map V.int).drop 1))))).trans r11
            have k1 : Same _ _ := ((f2 (.lst [.int 1])).trans (((f3 (.lst ((zs.drop 1).map V.int))).trans (f4 (.lst ([.int 1] ++ (zs.drop 1).map V.int)))).trans (f5 (.tup ([.int 1] ++ (zs.drop 1).map V.int))))).trans k5
            have hdF := hdo.same fin hs6
            rcases List.mem_append.mp hu with hu | hu
            · exact (hus6 u hu).same hs6 fin
            · simp at hu
              rcases hu with rfl | rfl | rfl | rfl | rfl
              · exact ths_tup (k1 _ _ upd_same) hb (by omega)
              · refine ths_tup (zs := 1 :: zs.drop 1) (k5 _ _ upd_same) (fun z h => ?_) ?_
                · rcases List.mem_cons.mp h with e | h
                  · rw [e]
                    decide
                  · exact hb z (List.mem_of_mem_drop h)
                · rw [List.length_cons, List.length_drop]
                  omega
              · exact ⟨_, .od (.lst zs (fin _ _ hD6) nDs), shq_lst (shs_map hb) (by rw [List.length_map]; omega)⟩
              · exact ths_bent (k6 _ _ upd_same) hdF hod hx hy (by omega)
              · cases xs with
                | nil =>
                  refine ths_tup (zs := 2 :: ys) (r11 _ _ upd_same) (fun z h => ?_) (by rw [List.length_cons]; omega)
                  rcases List.mem_cons.mp h with e | h
                  · rw [e]
                    decide
                  · exact hy z h
                | cons x xs =>
                  refine ths_bent (xs := 2 :: xs) (r11 _ _ upd_same) hdF hod (fun z h => ?_) hy (by rw [List.length_cons]; rw [List.length_cons] at lx; omega)
                  rcases List.mem_cons.mp h with e | h
                  · rw [e]
                    decide
                  · exact hx z (List.mem_cons_of_mem _ h)
      · rintro σ H2 ⟨l, us, y3, y4, y5, y6, y7, y8, y9, y10, rfl, hs2, hl2, nl2, lus, hus⟩
        refine ⟨_, rfl, l, rfl, ⟨_, .inl (.inl hl2)⟩, for_list (K := K) (a := l) (xs := us) (fun i σ H' => ∃ (z8 z9 : Option V), σ = [some (.ref a), some (.ref src), some (.ref l), y3, y4, y5, y6, y7, z8, z9, y10] ∧ Same H2 H') ⟨_, _, rfl, Same.refl _⟩ ?_ ?_ ?_⟩
        · rintro i σ H' _ ⟨_, _, _, sm⟩
          exact .inl (.inl (sm _ _ hl2))
        · rintro i x σ H3 hx ⟨z8, z9, rfl, sm⟩
          obtain ⟨d, hd, hq⟩ := (hus x (List.mem_of_getElem? hx)).same hs2 sm
          have hs3 := hs2.same sm
          refine ⟨_, rfl, src, x, d, rfl, hd, hq, ?_⟩
          refine ⟨_, rfl, src, x, d, rfl, hd, _, rfl, src, x, d, rfl, hd, fun H4 s4 => ?_⟩
          have hd4 := hd.same s4 hs3
          refine ⟨_, _, .bool (isOrd d), rfl, .bl _, .bl _, ⟨by simp [PyData.showable], by simp [PyData.hasDict], by simp [PyData.depth], by rw [PyData.shown]; cases isOrd d <;> decide +kernel⟩, true, rfl, ?_⟩
          refine iteF ⟨_, rfl, src, x, d, rfl, hd4, hq, _, rfl, rfl, _, rfl, ?_⟩
          rw [decide_eq_true rfl]
          exact iteF ⟨_, _, rfl, sm.trans s4⟩
        · rintro σ H' ⟨z8, z9, rfl, sm⟩
          exact q _
end
end Lim
set_option maxHeartbeats 8000000
namespace Lim
open PySem PySem.Spec PyProof.Rows L2
theorem all_mk {P : Program} {w : World} {K : PySem.W.Frag} {h : Heap} {mg : Str → Option Value} {fa f1 f2 f3 f4 f5 f6 f7 f8 f9 f10 : Addr} {od1 an1 od2 an2 od3 an3 od4 an4 od5 an5 od6 an6 od7 an7 od8 an8 od9 an9 od10 an10 : Option Addr} {sl1 sl2 sl3 sl4 sl5 sl6 sl7 sl8 sl9 sl10 : Array (Option Value)} {oc1 kV1 dc1 pm1 cd1 ct1 oc2 kV2 dc2 pm2 cd2 ct2 oc3 kV3 dc3 pm3 cd3 ct3 oc4 kV4 dc4 pm4 cd4 ct4 oc5 kV5 dc5 pm5 cd5 ct5 oc6 kV6 dc6 pm6 cd6 ct6 oc7 kV7 dc7 pm7 cd7 ct7 oc8 kV8 dc8 pm8 cd8 ct8 oc9 kV9 dc9 pm9 cd9 ct9 oc10 kV10 dc10 pm10 cd10 ct10 : Value} {tB tM : Tok} (X : K.In h) (G : h.Ns mainGlobals mg) (hfa : mg "law" = some (.ref fa))
    (a1 : PySem.W.nsIn K mainGlobals "is_coefficient" = some (some (.ref f1))) (l1 : K.lookup f1 = some ⟨oc1, od1, .func (PySem.W.fnOf "is_coefficient" "is_coefficient" (defArgs sIsC) (defBody sIsC) (defScope sIsC) .none kV1 dc1 pm1 an1 cd1 ct1), sl1⟩) (c1 : PySem.W.codeIn K cd1 "is_coefficient" = true) (k1 : PySem.W.keepIn K (.ref f1) = true)
    (a2 : PySem.W.nsIn K mainGlobals "is_ordinal" = some (some (.ref f2))) (l2 : K.lookup f2 = some ⟨oc2, od2, .func (PySem.W.fnOf "is_ordinal" "is_ordinal" (defArgs sIsO) (defBody sIsO) (defScope sIsO) .none kV2 dc2 pm2 an2 cd2 ct2), sl2⟩) (c2 : PySem.W.codeIn K cd2 "is_ordinal" = true) (k2 : PySem.W.keepIn K (.ref f2) = true)
    (a3 : PySem.W.nsIn K mainGlobals "_law_scramble" = some (some (.ref f3))) (l3 : K.lookup f3 = some ⟨oc3, od3, .func (PySem.W.fnOf "_law_scramble" "_law_scramble" (defArgs sScr) (defBody sScr) (defScope sScr) .none kV3 dc3 pm3 an3 cd3 ct3), sl3⟩) (c3 : PySem.W.codeIn K cd3 "_law_scramble" = true) (k3 : PySem.W.keepIn K (.ref f3) = true)
    (a4 : PySem.W.nsIn K mainGlobals "_law_draws" = some (some (.ref f4))) (l4 : K.lookup f4 = some ⟨oc4, od4, .func (PySem.W.fnOf "_law_draws" "_law_draws" (defArgs sDrw) (defBody sDrw) (defScope sDrw) .none kV4 dc4 pm4 an4 cd4 ct4), sl4⟩) (c4 : PySem.W.codeIn K cd4 "_law_draws" = true) (k4 : PySem.W.keepIn K (.ref f4) = true)
    (a5 : PySem.W.nsIn K mainGlobals "_law_next" = some (some (.ref f5))) (l5 : K.lookup f5 = some ⟨oc5, od5, .func (PySem.W.fnOf "_law_next" "_law_next" (defArgs sNxt) (defBody sNxt) (defScope sNxt) .none kV5 dc5 pm5 an5 cd5 ct5), sl5⟩) (c5 : PySem.W.codeIn K cd5 "_law_next" = true) (k5 : PySem.W.keepIn K (.ref f5) = true)
    (a6 : PySem.W.nsIn K mainGlobals "_law_choose" = some (some (.ref f6))) (l6 : K.lookup f6 = some ⟨oc6, od6, .func (PySem.W.fnOf "_law_choose" "_law_choose" (defArgs sCho) (defBody sCho) (defScope sCho) .none kV6 dc6 pm6 an6 cd6 ct6), sl6⟩) (c6 : PySem.W.codeIn K cd6 "_law_choose" = true) (k6 : PySem.W.keepIn K (.ref f6) = true)
    (a7 : PySem.W.nsIn K mainGlobals "_law_identical" = some (some (.ref f7))) (l7 : K.lookup f7 = some ⟨oc7, od7, .func (PySem.W.fnOf "_law_identical" "_law_identical" (defArgs sIde) (defBody sIde) (defScope sIde) .none kV7 dc7 pm7 an7 cd7 ct7), sl7⟩) (c7 : PySem.W.codeIn K cd7 "_law_identical" = true) (k7 : PySem.W.keepIn K (.ref f7) = true)
    (a8 : PySem.W.nsIn K mainGlobals "_law_is_one" = some (some (.ref f8))) (l8 : K.lookup f8 = some ⟨oc8, od8, .func (PySem.W.fnOf "_law_is_one" "_law_is_one" (defArgs sIs1) (defBody sIs1) (defScope sIs1) .none kV8 dc8 pm8 an8 cd8 ct8), sl8⟩) (c8 : PySem.W.codeIn K cd8 "_law_is_one" = true) (k8 : PySem.W.keepIn K (.ref f8) = true)
    (a9 : PySem.W.nsIn K mainGlobals "_law_odd" = some (some (.ref f9))) (l9 : K.lookup f9 = some ⟨oc9, od9, .func (PySem.W.fnOf "_law_odd" "_law_odd" (defArgs sOdd) (defBody sOdd) (defScope sOdd) .none kV9 dc9 pm9 an9 cd9 ct9), sl9⟩) (c9 : PySem.W.codeIn K cd9 "_law_odd" = true) (k9 : PySem.W.keepIn K (.ref f9) = true)
    (a10 : PySem.W.nsIn K mainGlobals "law" = some (some (.ref f10))) (l10 : K.lookup f10 = some ⟨oc10, od10, .func (PySem.W.fnOf "law" "law" (defArgs sLaw) (defBody sLaw) (defScope sLaw) .none kV10 dc10 pm10 an10 cd10 ct10), sl10⟩) (c10 : PySem.W.codeIn K cd10 "law" = true) (k10 : PySem.W.keepIn K (.ref f10) = true)
    (z0 : PySem.W.nsIn K mainGlobals "range" = some none)
    (z1 : PySem.W.nsIn K mainGlobals "len" = some none)
    (z2 : PySem.W.nsIn K mainGlobals "isinstance" = some none)
    (z3 : PySem.W.nsIn K mainGlobals "repr" = some none)
    (z4 : PySem.W.nsIn K mainGlobals "enumerate" = some none)
    (z5 : PySem.W.nsIn K mainGlobals "abs" = some none)
    (z6 : PySem.W.nsIn K mainGlobals "tuple" = some none)
    (z7 : PySem.W.nsIn K mainGlobals "bool" = some none)
    (z8 : PySem.W.nsIn K mainGlobals "int" = some none)
    (vB : PySem.W.nsIn K mainGlobals "COEFFICIENT_BOUND" = some (some (.int 1000000000000000000 tB)))
    (vM : PySem.W.nsIn K mainGlobals "MOST_COEFFICIENTS" = some (some (.int 64 tM))) :
    ∃ fd : FuncData, (∀ (s : Shared) (u : Value), BindsTo s fd ⟨[u], []⟩ [("script", u)]) ∧ ∀ base : Heap, K.In base → base.Ns mainGlobals mg → FnG P w K mg base 6 fa fd ["script"] (spLaw K) := by
  have e := hfa.symm.trans (PySem.W.mg_of X G a10)
  cases e
  have F1 := fun_mk (st := sIsC) l1 c1 k1
  have b1 := F1.binds (ps := ["thing"]) fun _ _ _ _ _ _ us hl => match us, hl with | [_], _ => rfl
  have g1 := PySem.W.mg_of X G a1
  have F2 := fun_mk (st := sIsO) l2 c2 k2
  have b2 := F2.binds (ps := ["thing"]) fun _ _ _ _ _ _ us hl => match us, hl with | [_], _ => rfl
  have g2 := PySem.W.mg_of X G a2
  have F3 := fun_mk (st := sScr) l3 c3 k3
  have b3 := F3.binds (ps := ["number", "index"]) fun _ _ _ _ _ _ us hl => match us, hl with | [_, _], _ => rfl
  have g3 := PySem.W.mg_of X G a3
  have F4 := fun_mk (st := sDrw) l4 c4 k4
  have b4 := F4.binds (ps := ["script"]) fun _ _ _ _ _ _ us hl => match us, hl with | [_], _ => rfl
  have g4 := PySem.W.mg_of X G a4
  have F5 := fun_mk (st := sNxt) l5 c5 k5
  have b5 := F5.binds (ps := ["source", "bound"]) fun _ _ _ _ _ _ us hl => match us, hl with | [_, _], _ => rfl
  have g5 := PySem.W.mg_of X G a5
  have F6 := fun_mk (st := sCho) l6 c6 k6
  have b6 := F6.binds (ps := ["source", "items"]) fun _ _ _ _ _ _ us hl => match us, hl with | [_, _], _ => rfl
  have g6 := PySem.W.mg_of X G a6
  have F7 := fun_mk (st := sIde) l7 c7 k7
  have b7 := F7.binds (ps := ["found", "expected"]) fun _ _ _ _ _ _ us hl => match us, hl with | [_, _], _ => rfl
  have g7 := PySem.W.mg_of X G a7
  have F8 := fun_mk (st := sIs1) l8 c8 k8
  have b8 := F8.binds (ps := ["thing"]) fun _ _ _ _ _ _ us hl => match us, hl with | [_], _ => rfl
  have g8 := PySem.W.mg_of X G a8
  have F9 := fun_mk (st := sOdd) l9 c9 k9
  have b9 := F9.binds (ps := ["source"]) fun _ _ _ _ _ _ us hl => match us, hl with | [_], _ => rfl
  have g9 := PySem.W.mg_of X G a9
  have F10 := fun_mk (st := sLaw) l10 c10 k10
  have b10 := F10.binds (ps := ["script"]) fun _ _ _ _ _ _ us hl => match us, hl with | [_], _ => rfl
  have g10 := PySem.W.mg_of X G a10
  have m_range := PySem.W.mg_none_of X G z0
  have m_len := PySem.W.mg_none_of X G z1
  have m_isinstance := PySem.W.mg_none_of X G z2
  have m_repr := PySem.W.mg_none_of X G z3
  have m_enumerate := PySem.W.mg_none_of X G z4
  have m_abs := PySem.W.mg_none_of X G z5
  have m_tuple := PySem.W.mg_none_of X G z6
  have m_bool := PySem.W.mg_none_of X G z7
  have m_int := PySem.W.mg_none_of X G z8
  refine ⟨PySem.W.fnOf "law" "law" (defArgs sLaw) (defBody sLaw) (defScope sLaw) .none kV10 dc10 pm10 an10 cd10 ct10, fun s u => .of_eq rfl, fun base _ _ => ?_⟩
  have GN : FnOk P w K mg base CX0 2 f5 _ ["source", "bound"] spNxt := ok_nxt (k := 0) F5 m_len F3 b3 g3 m_range
  have GC : FnOk P w K mg base CX0 3 f6 _ ["source", "items"] (spCho K) := ok_cho (k := 0) F6 m_len GN k5 b5 g5
  have GB := PySem.W.mg_of X G vB
  have GM := PySem.W.mg_of X G vM
  have GS := ex_src spIsO fun src => ok_isO (src := src) (P := P) (w := w) (base := base) (k := 0) F2 m_isinstance m_tuple m_len GM (ok_isC (src := src) (k := 0) F1 m_isinstance m_bool m_int GB) k1 b1 g1
  have GU := ex_src spIs1 fun src => ok_is1 (src := src) (P := P) (w := w) (base := base) (k := 0) F8 m_isinstance m_tuple m_len m_int m_bool
  refine ok_law (k := 5) F10 ?_
  exact {
    drw := ⟨f4, _, (ok_drw (k := 0) F4 m_enumerate m_abs).mono (by decide), g4, k4, b4⟩
    nxt := ⟨f5, _, GN.mono (by decide), g5, k5, b5⟩
    cho := ⟨f6, _, GC.mono (by decide), g6, k6, b6⟩
    ide := ⟨f7, _, (ok_ide (k := 0) F7 m_repr).up (by decide), g7, k7, b7⟩
    odd := ⟨f9, _, (ok_odd (k := 2) F9 GC k6 b6 g6).mono (by decide), g9, k9, b9⟩
    iso := ⟨f2, _, GS.mono (by decide), g2, k2, b2⟩
    is1 := ⟨f8, _, GU.mono (by decide), g8, k8, b8⟩
    range := m_range
    tuple := m_tuple
    repr := m_repr }
end Lim
open PySem PySem.W PyProof.Rows
set_option maxHeartbeats 0 in
theorem PySem.Challenge.cw_limitrun_k01_ordinals_of_any_object_holds : PySem.Challenge.rw_limitrun_k01_ordinals_of_any_object.Holds := by
  w_on; o_law; k_head; (case hw => w_witness2)
  k_fill
  refine Lim.walk_g (l := PySem.Challenge.rw_limitrun_k01_ordinals_of_any_object) (n := 63) (k := 6) (x := "script") (sp := Lim.spLaw) rfl (by decide) rfl ⟨rfl, by decide, by decide⟩ (fun w h Y => PySem.W.kIn_of Y) ?F (fun _ _ a ns hl _ hS => ⟨a, ns, rfl, hS, hl, fun _ => rfl⟩)
  case F =>
    intro w mg fa h KX G hmg
    refine' Lim.all_mk KX G hmg ?a1 ?l1 ?c1 ?k1 ?a2 ?l2 ?c2 ?k2 ?a3 ?l3 ?c3 ?k3 ?a4 ?l4 ?c4 ?k4 ?a5 ?l5 ?c5 ?k5 ?a6 ?l6 ?c6 ?k6 ?a7 ?l7 ?c7 ?k7 ?a8 ?l8 ?c8 ?k8 ?a9 ?l9 ?c9 ?k9 ?a10 ?l10 ?c10 ?k10 ?z0 ?z1 ?z2 ?z3 ?z4 ?z5 ?z6 ?z7 ?z8 ?vB ?vM
    (case a1 => k_is)
    (case l1 => k_is)
    (case c1 => k_is)
    (case k1 => k_is)
    (case a2 => k_is)
    (case l2 => k_is)
    (case c2 => k_is)
    (case k2 => k_is)
    (case a3 => k_is)
    (case l3 => k_is)
    (case c3 => k_is)
    (case k3 => k_is)
    (case a4 => k_is)
    (case l4 => k_is)
    (case c4 => k_is)
    (case k4 => k_is)
    (case a5 => k_is)
    (case l5 => k_is)
    (case c5 => k_is)
    (case k5 => k_is)
    (case a6 => k_is)
    (case l6 => k_is)
    (case c6 => k_is)
    (case k6 => k_is)
    (case a7 => k_is)
    (case l7 => k_is)
    (case c7 => k_is)
    (case k7 => k_is)
    (case a8 => k_is)
    (case l8 => k_is)
    (case c8 => k_is)
    (case k8 => k_is)
    (case a9 => k_is)
    (case l9 => k_is)
    (case c9 => k_is)
    (case k9 => k_is)
    (case a10 => k_is)
    (case l10 => k_is)
    (case c10 => k_is)
    (case k10 => k_is)
    (case z0 => k_is)
    (case z1 => k_is)
    (case z2 => k_is)
    (case z3 => k_is)
    (case z4 => k_is)
    (case z5 => k_is)
    (case z6 => k_is)
    (case z7 => k_is)
    (case z8 => k_is)
    (case vB => k_is)
    (case vM => k_is)
#print axioms PySem.Challenge.cw_limitrun_k01_ordinals_of_any_object_holds
