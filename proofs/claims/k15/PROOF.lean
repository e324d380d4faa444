import PyProof.Rows.All
import Wide.All
import OpenK.AllK
import Wide.FinOn
import HandS.ForMost
import HandS.Wide
import HandS.RaiseMore
import PyProof.ReprRoads
import PyProof.ReprLen
import HandS.Evl
import HandS.Codes
import HandS.TupMul
import HandS.TupAny
import KE.GoesEnum
import HandS.Defaults
import HandS.FStrTup
import HandS.More
import HandS.Dict
import PyProof.DictKinds
import PySem.Challenge.RW_limitrun_k15_values_of_expressions
set_option Elab.async false
set_option linter.all false
set_option maxRecDepth 100000
set_option maxHeartbeats 4000000
namespace Lim
open PySem PySem.Spec PyProof.Rows L2

/-! a def whose promise may lean on: no repr is under way around it -/
structure FnG (P : Program) (w : World) (K : PySem.W.Frag) (mg : Str → Option Value) (base : Heap) (k : Nat) (f : Addr) (fd : FuncData) (ps : List Str) (sp : Sp) : Prop where
  len : ∀ vs H Q E, sp vs H Q E → vs.length = ps.length
  go : ∀ (B : Around) (below : List Env) (s : Shared) (H : Hp) (ar : Args) (us : List Value) (vs : List V) (Q : VK) (E : XK),
    B.guards = some [] → Room k B → Env0 P w K mg base B below s H → BindsTo s fd ar (ps.zip us) → Vals vs us → sp vs H Q E →
    codeAny (model P w) B (.call (.ref f) ar) (CR CX0 below P w H s Q E) s
section
variable {P : Program} {w : World} {K : PySem.W.Frag} {mg : Str → Option Value} {base : Heap} {k : Nat} {f : Addr} {fd : FuncData} {ps : List Str} {sp : Sp}
theorem FnG.of (F : FnOk P w K mg base CX0 k f fd ps sp) : FnG P w K mg base k f fd ps sp :=
  ⟨F.len, fun B below s H ar us vs Q E _ r e b v q => F.run B below s H ar us vs Q E r e b v q⟩
theorem FnG.up {j : Nat} (F : FnG P w K mg base j f fd ps sp) (h : j ≤ k) : FnG P w K mg base k f fd ps sp :=
  ⟨F.len, fun B below s H ar us vs Q E g r e b v q => F.go B below s H ar us vs Q E g (r.mono h) e b v q⟩
theorem FnG.imp {sp' : Sp} (F : FnG P w K mg base k f fd ps sp) (h : ∀ vs H Q E, sp' vs H Q E → sp vs H Q E) : FnG P w K mg base k f fd ps sp' :=
  ⟨fun vs H Q E q => F.len _ _ _ _ (h _ _ _ _ q), fun B below s H ar us vs Q E g r e b v q => F.go B below s H ar us vs Q E g r e b v (h _ _ _ _ q)⟩

theorem deeper_guards {B : Around} {env : Env} : (B.deeper env).guards = B.guards := rfl

/-- the def's own rule -/
theorem Fun_okG {x qual : Str} {st : Stmt} {N : List Str} (F : Fun K x qual st f fd) (S : FnScope N ps (defScope st)) (len : ∀ vs H Q E, sp vs H Q E → vs.length = ps.length)
    (hb : ∀ (cdv : Value) (B : Around) (below : List Env) (s : Shared) (H : Hp) (vs : List V) (Q : VK) (E : XK), B.guards = some [] → Room k (B.deeper (envOfC qual (defScope st) s.heap.objs.size f cdv)) → sp vs H Q E →
      ∃ t, PSs (cxOf CX0 P w K mg base N qual (defScope st) f cdv B below s H E).nox (defBody st) t ∧ t { nx := fun _ H' => Q .non H', rt := Q } (start N vs) H) :
    FnG P w K mg base (k + 1) f fd ps sp := by
  obtain ⟨oc, od, kV, doc, pm, an, cdv, ct, osl, rfl, lk, hcd⟩ := F.ex
  refine ⟨len, fun B below s H ar us vs Q E hg hr ev bt va hq => ?_⟩
  have hn := len _ _ _ _ hq
  have KH : K.In s.heap := ev.mod.kin.keeps fun a o z => (ev.bs a o z).1
  have noLim : s.heap.NoLimit := ev.mod.nolimit.keeps fun a o z => (ev.bs a o z).1
  refine codeAny_call_function hr.depth (KH _ _ lk) rfl S.co S.gen rfl (PySem.W.codeRec_of KH hcd) (bt _ _ _ _ ?_)
  refine wpAny_newFunctionEnv_cells S.kind (fun ⟨y, v⟩ hy => ?_) fun env he s1 hx => ?_
  · rcases S.par y (List.of_mem_zip hy).1 with q | q
    · exact Or.inl q
    · exact Or.inr ⟨q, PySem.W.cellsFrom_some _ _ _ (Or.inl q)⟩
  · subst he
    refine ⟨noLim.keeps hx.toInCall.keep, codeAny_func ?_⟩
    obtain ⟨t, ht, hrun⟩ := hb cdv B below s H vs Q E hg (hr.deeper _) hq
    have J0 := inv_start (CX := CX0) (E := E) S hr.hd ev hn va hx
    refine wpAny_mono (ht.nox.run [] s1 (start N vs) H _ J0 hrun) (fun fl s2 hs => ?_) fun _ _ z => z
    cases fl with
    | brk =>
      obtain ⟨_, _, _, z⟩ := hs
      exact z.elim
    | cont =>
      obtain ⟨_, _, _, z⟩ := hs
      exact z.elim
    | next =>
      obtain ⟨σ1, H1, J, z⟩ := hs
      exact ⟨V.non, H1, J.os, J.bare, J.base, J.hok, rfl, z⟩
    | ret u =>
      obtain ⟨v, σ1, H1, J, rv, z⟩ := hs
      exact ⟨v, H1, J.os, J.bare, J.base, J.hok, rv, z⟩
end
section
variable {X : Cx} {k : Nat} {f : Addr} {fd : FuncData} {ps : List Str} {sp : Sp} {x : Str} {p pos : Pos} {e : Expr} {es : List Expr} {t : TA}
/-- the callee runs -/
theorem run_g {pins : List (Addr × Obj)} {σ : L2.St} {H : Hp} {s : Shared} {Q : VK} {us : List Value} {vs : List V} (F : FnG X.prog X.w X.K X.mg X.base k f fd ps sp) (hg : X.A.guards = some []) (hr : Room k X.A) (hb : Binds X.K fd ps [])
    (I : Inv X pins σ H s) (r : Vals vs us) (h : sp vs H Q E0) : wpAny (model X.prog X.w) X.A (call (.ref f) us) (EP X pins σ Q) X.xe s := by
  have hl : us.length = ps.length := r.length ▸ F.len _ _ _ _ h
  have hbt := hb s us I.kIn (by rw [List.append_nil]; exact hl)
  rw [List.append_nil] at hbt
  refine wpAny_call (codeAny_mono (F.go X.A X.stack s H ⟨us, []⟩ us vs Q E0 hg hr I.env0 hbt r h) fun res s1 z => ?_)
  match res, z with
  | .error _, z => exact False.elim z
  | .ok (.ret u), z => exact I.after z
  | .ok .next, z => exact False.elim z
  | .ok .brk, z => exact False.elim z
  | .ok .cont, z => exact False.elim z
theorem pe_g (F : FnG X.prog X.w X.K X.mg X.base k f fd ps sp) (hgd : X.A.guards = some []) (hr : Room k X.A) (hg : Gl X x) (hm : X.mg x = some (.ref f)) (hk : PySem.W.keepIn X.K (.ref f) = true) (hb : Binds X.K fd ps [])
    (ha : PA X (e :: es) t) (hdb : (x == ("__debug__" : Str)) = false := by decide) (he : starEach (e :: es) X.env = (false, eval e X.env) :: starEach es X.env := by rfl) (hpl : (backTo pos (starEach es X.env)).any (·.1) = false := by rfl) :
    PE X (.Call (.Name x p) (e :: es) [] pos) (fun σ H Q => t σ H fun vs H1 => sp vs H1 Q E0) := by
  refine ⟨fun pins s σ H Q I h => ?_⟩
  refine wpAny_Call_Name_kw (ld_glob I hg hm ?_ hdb)
  refine PySem.W.callWith_K (h₀ := X.base) I.ok.mod.kin hk ?_ he hpl
  exact thn (ha.run pos pins s σ H _ I h) fun us s1 ⟨vs, H1, I1, r, q⟩ => ⟨I1.kIn, run_g F hgd hr hb I1 r q⟩
/-- repr(x), x data -/
theorem call_reprD (hgd : X.A.guards = some []) (hu : X.A.units + 100 < cLine) : CallR X (.builtin "repr") (fun xs H Q => ∃ v d, xs = [v] ∧ Dp X.K H v d ∧ d.showable = true ∧ d.hasDict = false ∧ d.depth ≤ 60 ∧ d.shown.length ≤ sizeLine ∧ Q (.str d.shown) H) := by
  intro pins s σ H xs us Q I r h
  obtain ⟨v, d, rfl, hd, h1, h2, h3, h4, q⟩ := h
  obtain ⟨u, rfl, r1⟩ := vals1 r
  cases hd with
  | non =>
    cases r1
    exact PySem.P.repr_of_none ⟨.str _, H, I.tok _, ⟨_, rfl⟩, q⟩
  | bl b =>
    cases r1
    refine PySem.P.repr_of_bool ⟨.str _, H, I.tok _, ⟨_, rfl⟩, ?_⟩
    cases b <;> exact q
  | int i =>
    obtain ⟨t, rfl⟩ := r1
    refine PySem.P.repr_of_int ?_ ⟨.str _, H, I.tok _, ⟨_, rfl⟩, q⟩
    simpa [PyData.showable] using h1
  | str y =>
    obtain ⟨t, rfl⟩ := r1
    exact PySem.P.repr_of_str ⟨.str _, H, I.tok _, ⟨_, rfl⟩, q⟩ h4
  | lst hs ha =>
    obtain ⟨as, rd⟩ := Dp.reads I _ _ _ (.lst hs ha) r1
    cases r1
    exact PySem.repr_of_reads' rd h1 (fun z => by rw [h2] at z; cases z) hgd (by omega) (fun _ _ z => z) (fun h' u tk hk => ⟨.str _, H, I.kept hk, ⟨_, rfl⟩, q⟩) h4
  | tup hs ha =>
    obtain ⟨as, rd⟩ := Dp.reads I _ _ _ (.tup hs ha) r1
    cases r1
    exact PySem.repr_of_reads' rd h1 (fun z => by rw [h2] at z; cases z) hgd (by omega) (fun _ _ z => z) (fun h' u tk hk => ⟨.str _, H, I.kept hk, ⟨_, rfl⟩, q⟩) h4
end
/-! tuple * k for k below 2 -/
section
variable (l : Addr) (its : Array Value) (n : Nat) (dd : Option Addr) (sl : Array (Option Value)) (u : Tok)
abbrev tupO (its : Array Value) (n : Nat) (dd : Option Addr) (sl : Array (Option Value)) : Obj := { cls := .type "tuple", dict := dd, data := .seq its n, slots := sl }
theorem tmul_none (x : Int) (b0 : (decide (x < -(2 ^ 63)) || decide (x ≥ 2 ^ 63)) = false) (b1 : (its.isEmpty || x == 1) = false) (b2 : (decide (x ≤ 0) || its.isEmpty) = true) :
    Meets (Builtin.«tuple.__mul__» ⟨[.ref l, .int x u], []⟩) (fun _ R s => s.heap.get? l = some (tupO its n dd sl) ∧ R (.ok (.ret (Value.ref s.heap.objs.size))) { s with heap := s.heap.push { cls := Value.type "tuple", data := Data.seq #[] }, toks := s.toks }) := by
  refine .of_wp fun pg ww AA RR ss hh => ?_
  obtain ⟨h1, h2, h3, h4, h5⟩ := ss
  obtain ⟨hl, hh⟩ := hh
  have ix := AutoSeq1.idx_int
  have n0 := decide_eq_false (p := (decide (x < -(2 ^ 63)) || decide (x ≥ 2 ^ 63)) = true) (by rw [b0]; decide)
  have n1 := decide_eq_false (p := (its.isEmpty || x == 1) = true) (by rw [b1]; decide)
  wp_walk using wpAny_loadPart' hl
  repeat (first
    | (refine wpAny_ite_false n0 ?_; wp_walk using wpAny_loadPart' hl)
    | (refine wpAny_ite_false n1 ?_; wp_walk using wpAny_loadPart' hl)
    | (refine wpAny_ite_true (decide_eq_true b2) ?_; wp_walk using wpAny_loadPart' hl))
  exact ⟨_, rfl, hh⟩
theorem tmul_one : Meets (Builtin.«tuple.__mul__» ⟨[.ref l, .int 1 u], []⟩) (fun _ R s => s.heap.get? l = some (tupO its n dd sl) ∧ R (.ok (.ret (Value.ref l))) s) := by
  refine .of_wp fun pg ww AA RR ss hh => ?_
  obtain ⟨h1, h2, h3, h4, h5⟩ := ss
  obtain ⟨hl, hh⟩ := hh
  have ix := AutoSeq1.idx_int
  have b1 : (its.isEmpty || (1 : Int) == 1) = true := by simp
  wp_walk using wpAny_loadPart' hl
  repeat (first
    | (refine wpAny_ite_false (decide_eq_false (by decide)) ?_; wp_walk using wpAny_loadPart' hl)
    | (refine wpAny_ite_true (decide_eq_true b1) ?_; wp_walk using wpAny_loadPart' hl))
  exact ⟨_, rfl, hh⟩
end
def rRepZ (K : PySem.W.Frag) : R2 := fun x y H Q => ∃ l k xs, x = .ref l ∧ y = .int k ∧ SqT K H l xs ∧ xs ≠ [] ∧ -1000 ≤ k ∧ k ≤ 1000 ∧ xs.length ≤ 1000 ∧
  (k ≤ 0 → ∀ p, H p = none → Q (.ref p) (upd H p (.tup []))) ∧ (k = 1 → Q (.ref l) H) ∧ (2 ≤ k → ∀ p, H p = none → Q (.ref p) (upd H p (.tup (List.replicate k.toNat xs).flatten)))
section
variable {X : Cx}
theorem op_repZ : OpR X (binaryOp .Mult) (rRepZ X.K) := by
  intro pins s σ H x y v u Q I rx ry h
  obtain ⟨l, k, xs, rfl, rfl, hT, hne, h1, h2, hz, q0, q1, q2⟩ := h
  by_cases c2 : 2 ≤ k
  · exact op_repT pins s σ H _ _ v u Q I rx ry ⟨l, k, xs, rfl, rfl, hT, hne, c2, h2, hz, q2 c2⟩
  · cases rx
    obtain ⟨t, rfl⟩ := ry
    obtain ⟨its, r, ⟨⟨cls, dd, data, sl⟩, ho, hc, n, hd⟩, hs⟩ := I.tuple hT
    simp only at hc hd
    subst hc hd
    have hie : its.toArray.isEmpty = false := by
      cases its with
      | nil =>
        cases r
        exact absurd rfl hne
      | cons a b => rfl
    by_cases c1 : k = 1
    · subst c1
      refine wpAny_binaryOp_repeat_ref (T := "tuple") (U := "int") (by decide) ⟨_, ho, rfl⟩ (fun s' => typeIs_int s' 1 t) noFill_tuple_mul F.fills_int_mul F.slot_int_rmul repeat_tuple F.slot_int_index.lookup ?_
      refine call_meets F.slot_int_rmul (typeIs_int s 1 t) F.entry_int_rmul (F.args_int_rmul_2 _ _) (int_rmul_tuple 1 t l its.toArray n dd sl) ⟨ho, rfl, ⟨_, ho, rfl⟩, ?_⟩
      exact call_meets F.slot_tuple_mul ⟨_, ho, rfl⟩ F.entry_tuple_mul (F.args_tuple_mul_2 _ _) (tmul_one l its.toArray n dd sl t) ⟨ho, .ref l, H, I, rfl, q1 rfl⟩
    · have k0 : k ≤ 0 := by omega
      have b0 : (decide (k < -(2 ^ 63)) || decide (k ≥ 2 ^ 63)) = false := by
        rw [decide_eq_false (by omega), decide_eq_false (by omega)] <;> rfl
      have b1 : (its.toArray.isEmpty || k == 1) = false := by
        rw [hie, Bool.false_or]
        exact beq_eq_false_iff_ne.mpr c1
      have b2 : (decide (k ≤ 0) || its.toArray.isEmpty) = true := by
        rw [decide_eq_true k0] <;> rfl
      refine wpAny_binaryOp_repeat_ref (T := "tuple") (U := "int") (by decide) ⟨_, ho, rfl⟩ (fun s' => typeIs_int s' k t) noFill_tuple_mul F.fills_int_mul F.slot_int_rmul repeat_tuple F.slot_int_index.lookup ?_
      refine call_meets F.slot_int_rmul (typeIs_int s k t) F.entry_int_rmul (F.args_int_rmul_2 _ _) (int_rmul_tuple k t l its.toArray n dd sl) ⟨ho, rfl, ⟨_, ho, rfl⟩, ?_⟩
      refine call_meets F.slot_tuple_mul ⟨_, ho, rfl⟩ F.entry_tuple_mul (F.args_tuple_mul_2 _ _) (tmul_none l its.toArray n dd sl t k b0 b1 b2) ⟨ho, ?_⟩
      refine ⟨.ref s.heap.objs.size, _, I.laid (t' := s.toks) (o := .tup []) (fun b ob z => Heap.get?_push_of_some _ z) (Nat.le_refl _) ?_, rfl, q0 k0 _ (I.hok.fresh (Nat.le_refl _))⟩
      exact ⟨Nat.zero_le _, [], .nil, IsTup.new _ _⟩
end
/-! enumerate of a tuple -/
def Iet (K : PySem.W.Frag) (a : Addr) : It where
  go := fun i H => ∃ (xs : List V) (x : V), SqT K H a xs ∧ xs[i]? = some x
  yld := fun i H v H' => ∃ T x, v = .ref T ∧ H T = none ∧ H' = upd H T (.tup [.int (i : Nat), x]) ∧ ∀ xs, SqT K H a xs → xs[i]? = some x
  stop := fun i H => ∃ xs : List V, SqT K H a xs ∧ xs.length = i
theorem enum_new1 {v : Value} {o : Obj} {Hh : Heap → Prop} (B : Begins v o Hh) : Meets (Builtin.«enumerate.__new__» ⟨[.type "enumerate", v], []⟩) (fun _ R s => Hh s.heap ∧
      R (.ok (.ret (.ref (s.heap.push o).objs.size))) { s with heap := (s.heap.push o).push { cls := .type "enumerate", data := .fields #[.none, .bool false, .ref s.heap.objs.size, rawInt 0, .none, .none] } }) := by
  refine .of_wp fun pg ww AA RR ss hh => ?_
  obtain ⟨h1, h2, h3, h4, h5⟩ := ss
  obtain ⟨b1, hh⟩ := hh
  have sube := sub_enumerate
  have qi : ∀ {A' : Around} {E' : Value → Shared → Prop} {Q' : Value → Shared → Prop}, Q' (.ref h1.objs.size) ⟨h1.push o, h2, h3, h4, h5⟩ → wpAny (model pg ww) A' (pyIter v) Q' E' ⟨h1, h2, h3, h4, h5⟩ :=
    fun z => B.iter pg ww _ _ ⟨h1, h2, h3, h4, h5⟩ _ b1 z
  wp_walk
  refine wpAny_stack_any fun st => wpAny_pure ?_
  split
  · rename_i cc _ _ _ _ _
    cases (cc == Value.type "enumerate") <;>
      (wp_walk using qi
       exact ⟨_, rfl, hh⟩)
  · wp_walk using qi
    exact ⟨_, rfl, hh⟩
section
variable {prog : Program} {w : World} {A : Around} {E : Value → Shared → Prop} {s : Shared}
theorem call_enum1 {v : Value} {o : Obj} {Hh : Heap → Prop} {Q : Value → Shared → Prop} (B : Begins v o Hh) (b1 : Hh s.heap)
    (h : ∀ h', IsEnum h' (s.heap.objs.size + 1) s.heap.objs.size 0 .none → h'.get? s.heap.objs.size = some o → h'.objs.size = s.heap.objs.size + 2 → (∀ b o, s.heap.get? b = some o → h'.get? b = some o) → Q (.ref (s.heap.objs.size + 1)) { s with heap := h' }) :
    wpAny (model prog w) A (call (.type "enumerate") [v]) Q E s := by
  refine callType_new F.called_enumerate (by decide) (F.typeCall_enumerate_1 _) (F.newCall_enumerate_1 _) (fun obj => F.args_object_init_2 obj _) F.entry_enumerate_new (enum_new1 B) ⟨b1, ?_⟩
  have z1 : (s.heap.push o).objs.size = s.heap.objs.size + 1 := Heap.size_push ..
  show _ ∧ _
  rw [z1]
  have ie : IsEnum ((s.heap.push o).push { cls := .type "enumerate", data := .fields #[.none, .bool false, .ref s.heap.objs.size, rawInt 0, .none, .none] }) (s.heap.objs.size + 1) s.heap.objs.size 0 .none := by
    have q := Heap.get?_push_size (s.heap.push o) (o := { cls := .type "enumerate", data := .fields #[.none, .bool false, .ref s.heap.objs.size, rawInt 0, .none, .none] }) rfl
    rw [z1] at q
    exact q
  exact ⟨⟨_, ie, rfl⟩, h _ ie (Heap.get?_push_of_some _ (Heap.get?_push_size _ B.free)) (by rw [Heap.size_push, z1]) fun b o' x => Heap.get?_push_of_some _ (Heap.get?_push_of_some _ x)⟩
end
theorem turn_enumT {P : Program} {w : World} {K : PySem.W.Frag} {elts : List Expr} {kk : Nat} {tpos : Pos} (a e it : Addr) (hae : a ≠ e) (hai : a ≠ it) :
    Turn P w K (.Tuple elts kk tpos) (Iet K a) [e, it] e (fun i h => (∃ old, IsEnum h e it ((i : Nat) : Int) old) ∧ h.IsTupleIter it a i ∧ e ≠ it) where
  mem := List.mem_cons_self ..
  obj := by
    rintro i h ⟨⟨old, he⟩, ⟨o, ho, hc, hd⟩, _⟩ b hb
    rcases List.mem_cons.mp hb with rfl | hb
    · exact ⟨_, he, fun v q => nomatch q⟩
    · rw [List.mem_singleton.mp hb]
      exact ⟨o, ho, fun v q => by rw [hd] at q; cases q⟩
  keep := by
    rintro i h h' ⟨⟨old, he⟩, hi, ne⟩ k
    exact ⟨⟨old, k e (by simp) _ he⟩, hi.at fun o q => k it (by simp) o q, ne⟩
  item := by
    rintro X rfl rfl rfl hc i pins s σ H E I hf ⟨⟨old, he⟩, hit, hne⟩ ⟨xs, x, hq, hx⟩
    obtain ⟨its, rv, hT, hz⟩ := I.tuple hq
    have hT' : s.heap.IsTuple a its.toArray := hT
    obtain ⟨u, hu, ru⟩ := rv.get hx
    have le : e < s.heap.objs.size := Heap.lt_size he
    have li : it < s.heap.objs.size := by
      obtain ⟨_, q, _⟩ := hit
      exact Heap.lt_size q
    have hlt : i < its.toArray.size := by
      have := (List.getElem?_eq_some_iff.mp hu).1
      simpa using this
    refine wpAny_pyNext_enum_itemD (Draws.tuple (A := X.A.in1) (I.ok.hd hc) it a hai its.toArray) he ⟨hit, hT'⟩ hlt hne ?_ fun y h' tk hy ho hit' hnew hsz hk => ?_
    · intro hb
      rcases List.mem_cons.mp hb with q | q
      · exact hne q
      · exact hae (List.mem_singleton.mp q).symm
    · have hyu : y = u := by
        have e1 : its.toArray[i]? = some y := hy
        rw [List.getElem?_toArray, hu] at e1
        exact (Option.some.inj e1).symm
      subst hyu
      refine ⟨_, rfl, wpAny_letOwnedTupleGo_enum (s := { s with heap := h', toks := tk + 1 }) ho fun h2 he2 sb => ?_⟩
      have hT2 : h2.get? s.heap.objs.size = some { cls := .type "tuple", data := .seq #[.int i tk, y] } := (sb.2 _ (Nat.ne_of_gt le)).trans hnew
      have nob : ObjOk X.prog X.w (upd H s.heap.objs.size (.tup [.int (i : Nat), x])) h2 s.heap.objs.size (.tup [.int (i : Nat), x]) :=
        ⟨by show 2 ≤ sizeLine; decide, [.int i tk, y], .cons ⟨_, rfl⟩ (.cons ru .nil), ⟨_, hT2, rfl, _, rfl⟩⟩
      have J : Inv X pins σ (upd H s.heap.objs.size (.tup [.int (i : Nat), x])) { s with heap := h2, toks := tk + 1 } :=
        I.turnedNew (ch := [e, it]) (fun b ob hb q => (sb.2 b (fun z => hb (by simp [z]))).trans (hk b ob (fun z => hb (by simp [z])) (fun z => hb (by simp [z])) q)) hf (Nat.le_refl _) nob
      refine ⟨.ref s.heap.objs.size, _, J, rfl, ⟨_, x, rfl, I.hok.fresh (Nat.le_refl _), rfl, fun ys hy => by rw [I.tuple_inj hy hq]; exact hx⟩, ⟨⟨y, ?_⟩, hit'.1.at fun o q => (sb.2 it (Ne.symm hne)).trans q, hne⟩, fun b hb => ?_⟩
      · have e1 : ((i + 1 : Nat) : Int) = (i : Int) + 1 := by omega
        rw [e1]
        exact he2
      · have lb : b < s.heap.objs.size := by
          rcases List.mem_cons.mp hb with z | z
          · rw [z]
            exact le
          · rw [List.mem_singleton.mp z]
            exact li
        rw [upd_ne (Nat.ne_of_lt lb)]
        exact (hf b hb).1
  done := by
    rintro X rfl rfl rfl hc i pins s σ H E I hf ⟨⟨old, he⟩, hit, hne⟩ ⟨xs, hq, hx⟩
    obtain ⟨its, rv, hT, hz⟩ := I.tuple hq
    have hT' : s.heap.IsTuple a its.toArray := hT
    have hn : i = its.toArray.size := by rw [List.size_toArray, ← hx, rv.length]
    subst hn
    obtain ⟨f0, f1, f2, f3, f4, f5⟩ := hf it (by simp)
    exact wpAny_pyNext_enum_endD (Draws.tuple (A := X.A.in1) (I.ok.hd hc) it a hai its.toArray) he ⟨hit, hT'⟩ fun h' eb => ⟨rfl, I.turned (t' := s.toks) (fun b o hb q => eb b o hb q) f0 f1 f3 f4 f5⟩
  self := fun A i s Q E st h => let ⟨⟨_, he⟩, _⟩ := st; wpAny_pyIter_enum he h
def iEnumT (K : PySem.W.Frag) (ta : TA) : TI := fun σ H R => ta σ H fun vs H1 => ∃ a xs, vs = [.ref a] ∧ SqT K H1 a xs ∧ R (Iet K a) H1
theorem pi_enumT {X : Cx} {e : Expr} {ta : TA} {p pos tpos : Pos} {elts : List Expr} {kk : Nat} (hg : Gl X "enumerate") (hm : X.mg "enumerate" = none) (ha : PA X [e] ta) (hs : starEach [e] X.env = [(false, eval e X.env)] := by rfl) :
    PI X (.Tuple elts kk tpos) (.Call (.Name "enumerate" p) [e] [] pos) (iEnumT X.K ta) := by
  refine ⟨fun pins s σ H R I h => ?_⟩
  refine Call_ (ld_blt I hg hm boot_enumerate ?_)
  refine PyProof.Rows.callWith_type1 (thn (ha.run pos pins s σ H _ I h) fun us s1 ⟨vs, H1, I1, r1, q1⟩ => ?_) hs rfl
  obtain ⟨a, xs, rfl, hq, q⟩ := q1
  obtain ⟨u, rfl, ru⟩ := vals1 r1
  cases ru
  obtain ⟨its, rv, hT, hz⟩ := I1.tuple hq
  have hT' : s1.heap.IsTuple a its.toArray := hT
  have la : a < s1.heap.objs.size := by
    obtain ⟨o, ho, _⟩ := hT'
    exact Heap.lt_size ho
  refine call_enum1 (begins_tuple a its.toArray) hT' fun h' ie hit hsz hk => wpAny_pyIter_enum ie ?_
  have I2 : Inv X pins σ H1 { s1 with heap := h' } := I1.kept (t' := s1.toks) hk
  refine ⟨s1.heap.objs.size + 1, [s1.heap.objs.size + 1, s1.heap.objs.size], _, _, H1, rfl, I2, turn_enumT a (s1.heap.objs.size + 1) s1.heap.objs.size (Nat.ne_of_lt (Nat.lt_succ_of_lt la)) (Nat.ne_of_lt la), ⟨⟨.none, ie⟩, ⟨_, hit, rfl, rfl⟩, Nat.succ_ne_self _⟩, fun b hb => ?_, q⟩
  have lb : s1.heap.objs.size ≤ b := by
    rcases List.mem_cons.mp hb with z | z
    · rw [z]
      exact Nat.le_succ _
    · rw [List.mem_singleton.mp z]
      exact Nat.le_refl _
  exact I1.fpOk lb (I1.hok.fresh lb)
section
variable {K : PySem.W.Frag} {a : Addr} {xs : List V} {σ : L2.St}
/-- for i, x in enumerate(tuple) -/
theorem for_enumT {g : TG} {tb : TS} {D : Ends} {H : Hp} (Pv : Nat → L2.St → Hp → Prop) (h0 : Pv 0 σ H) (hl : ∀ i σ H, i ≤ xs.length → Pv i σ H → SqT K H a xs)
    (hs : ∀ i x σ H T, xs[i]? = some x → Pv i σ H → H T = none → g (.ref T) σ (upd H T (.tup [.int (i : Nat), x])) fun σ2 H2 => tb { D with nx := Pv (i + 1), ct := Pv (i + 1), bk := D.nx } σ2 H2) (hd : ∀ σ H, Pv xs.length σ H → D.nx σ H) :
    ∃ W : Nat → Nat → L2.St → Hp → Prop, (∃ m, W 0 m σ H) ∧ ∀ i m σ H, W i m σ H →
      ((Iet K a).stop i H ∧ D.nx σ H) ∨ ((Iet K a).go i H ∧ ∃ N : L2.St → Hp → Prop, (∀ σ' H', N σ' H' → ∃ m', m' < m ∧ W (i + 1) m' σ' H') ∧ ∀ x H', (Iet K a).yld i H x H' → g x σ H' fun σ2 H2 => tb { D with nx := N, ct := N, bk := D.nx } σ2 H2) := by
  refine ⟨fun i m σ H => i + m = xs.length ∧ Pv i σ H, ⟨xs.length, by omega, h0⟩, ?_⟩
  rintro i m σ H ⟨hm, p⟩
  have q := hl i σ H (by omega) p
  by_cases hlt : i < xs.length
  · refine .inr ⟨⟨xs, xs[i], q, List.getElem?_eq_getElem hlt⟩, Pv (i + 1), fun σ' H' p' => ⟨m - 1, by omega, by omega, p'⟩, fun v H' y => ?_⟩
    obtain ⟨T, x, rfl, hT, rfl, y⟩ := y
    exact hs i x σ H T (y xs q) p hT
  · have e : i = xs.length := by omega
    subst e
    exact .inl ⟨⟨xs, q, rfl⟩, hd σ H p⟩
/-- [.. for i, x in enumerate(tuple) ..] -/
theorem lc_enumT {g : TG} {tt : TT} {te : TE} {vs : List Nat} {H1 : Hp} {D : Addr} {Qd : Hp → Prop} (Pv : Nat → Hp → Prop) (h0 : Pv 0 (upd H1 D (.lst []))) (hl : ∀ i H, i ≤ xs.length → Pv i H → SqT K H a xs)
    (hs : ∀ i x H T, xs[i]? = some x → Pv i H → H T = none → g (.ref T) (wipe σ vs) (upd H T (.tup [.int (i : Nat), x])) fun σ2 H2 => wipe σ2 vs = wipe σ vs ∧ tt σ2 H2 fun b H3 =>
      if b = true then te σ2 H3 fun y H4 => ∃ acc, H4 D = some (.lst acc) ∧ acc.length < sizeLine ∧ Pv (i + 1) (upd H4 D (.lst (acc ++ [y]))) else Pv (i + 1) H3) (hd : ∀ H, Pv xs.length H → Qd H) :
    ∃ W : Nat → Nat → Hp → Prop, (∃ m, W 0 m (upd H1 D (.lst []))) ∧ ∀ i m H, W i m H →
      ((Iet K a).stop i H ∧ Qd H) ∨ ((Iet K a).go i H ∧ ∃ Nx : Hp → Prop, (∀ H', Nx H' → ∃ m', m' < m ∧ W (i + 1) m' H') ∧ ∀ x H', (Iet K a).yld i H x H' → g x (wipe σ vs) H' fun σ2 H2 => wipe σ2 vs = wipe σ vs ∧ tt σ2 H2 fun b H3 =>
        if b = true then te σ2 H3 fun y H4 => ∃ acc, H4 D = some (.lst acc) ∧ acc.length < sizeLine ∧ Nx (upd H4 D (.lst (acc ++ [y]))) else Nx H3) := by
  refine ⟨fun i m H => i + m = xs.length ∧ Pv i H, ⟨xs.length, by omega, h0⟩, ?_⟩
  rintro i m H ⟨hm, p⟩
  have q := hl i H (by omega) p
  by_cases hlt : i < xs.length
  · refine .inr ⟨⟨xs, xs[i], q, List.getElem?_eq_getElem hlt⟩, Pv (i + 1), fun H' p' => ⟨m - 1, by omega, by omega, p'⟩, fun v H' y => ?_⟩
    obtain ⟨T, x, rfl, hT, rfl, y⟩ := y
    exact hs i x H T (y xs q) p hT
  · have e : i = xs.length := by omega
    subst e
    exact .inl ⟨⟨xs, q, rfl⟩, hd H p⟩
end
def topS (i : Nat) : Stmt := PySem.Challenge.pw_limitrun_k15_values_of_expressions.main.body.getD i (.Pass ⟨0, 0, 0, 0⟩)
abbrev sMix : Stmt := topS 8
abbrev sSou : Stmt := topS 9
abbrev sPic : Stmt := topS 10
abbrev sCho : Stmt := topS 11
abbrev sIde : Stmt := topS 12
theorem scMix : FnScope ["number", "place", "prime", "value", "turn"] ["number", "place"] (defScope sMix) := ⟨rfl, rfl, rfl, by decide +kernel, rfl, by decide +kernel, by decide +kernel⟩
section
variable {P : Program} {w : World} {K : PySem.W.Frag} {mg : Str → Option Value} {base : Heap}
/-- mixed: some number, not negative -/
def spMix : Sp := fun vs H Q _ => ∃ n i : Int, vs = [.int n, .int i] ∧ ∀ r : Int, 0 ≤ r → Q (.int r) H
theorem mod14 : (14 : Int) ≠ 0 := by decide
theorem modM : (2305843009213693951 : Int) ≠ 0 := by decide
theorem fmod_lo {a : Int} : 0 ≤ a.fmod 2305843009213693951 := Int.fmod_nonneg_of_pos _ (by decide)
theorem fmod_hi {a : Int} : a.fmod 2305843009213693951 < 2305843009213693951 := Int.fmod_lt_of_pos _ (by decide)
theorem ok_mix {f : Addr} {fd : FuncData} {k : Nat} (F : Fun K "_law_mixed" "_law_mixed" sMix f fd) (mr : mg "range" = none) : FnOk P w K mg base CX0 (k + 1) f fd ["number", "place"] spMix := by
  refine F.ok scMix (fun vs H Q E h => ?_) (fun cdv A outer s H vs Q E hr h => ?_)
  · obtain ⟨n, i, rfl, _⟩ := h
    rfl
  · obtain ⟨n, i, rfl, q⟩ := h
    refine ⟨_, (pss_cons (ps_set (i := 2) scMix.nd rfl (.inl rfl) (pe_int))
        (pss_cons (ps_set (i := 3) scMix.nd rfl (.inl rfl) (pe_op op_modN (pe_op op_add (pe_op op_add (pe_op op_mul (pe_op op_modN (pv 0) (pv 2)) (pe_op op_add (pe_op op_mul (pe_int) (pv 1)) (pe_int))) (pe_op op_mul (pe_int) (pv 1))) (pe_int)) (pv 2)))
        (pss_cons (ps_for PassesOwn.never rfl (pi_range1 rfl mr (pa_cons pe_int pa_nil)) (pg_name (i := 4) scMix.nd rfl (.inl rfl)) (pss_one (ps_set (i := 3) scMix.nd rfl (.inl rfl) (pe_op op_modN (pe_op op_add (pe_op op_add (pe_op op_add (pe_op op_mul (pv 3) (pv 3)) (pe_op op_mul (pe_op op_add (pv 4) (pe_int)) (pv 3))) (pe_op op_mul (pe_int) (pv 1))) (pe_int)) (pv 2)))))
        (pss_one (ps_ret (pe_op op_add (pe_op op_mul (pv 3) (pv 2)) (pe_op op_modN (pe_op op_add (pe_op op_mul (pv 3) (pe_int)) (pv 1)) (pv 2)))))))), ?_⟩
    have l1 := fmod_lo (a := n)
    have l2 := fmod_hi (a := n)
    refine ⟨_, rfl, _, rfl, _, _, rfl, rfl, modM, _, rfl, _, _, rfl, rfl, .inl ⟨by decide, by decide⟩, _, _, rfl, rfl, _, _, rfl, rfl, .inl ⟨by omega, by omega⟩, _, rfl, _, _, rfl, rfl, .inl ⟨by decide, by decide⟩, _, _, rfl, rfl, _, _, rfl, rfl, _, rfl, _, _, rfl, rfl, modM, ?_⟩
    refine ⟨4, rfl, by decide, by decide, for_range (n := 4) (fun t σ H' => ∃ (z : Int) (y : Option V), σ = [some (.int n), some (.int i), some (.int 2305843009213693951), some (.int z), y] ∧ 0 ≤ z ∧ z < 2305843009213693951 ∧ H' = H) ⟨_, none, rfl, fmod_lo, fmod_hi, rfl⟩ ?_ ?_⟩
    · rintro t σ H' ht ⟨z, y, rfl, h0, h1, rfl⟩
      refine ⟨_, rfl, _, rfl, _, _, rfl, rfl, .inl ⟨by omega, by omega⟩, _, rfl, _, _, rfl, rfl, _, rfl, _, _, rfl, rfl, .inr ⟨by omega, by omega⟩, _, _, rfl, rfl, _, rfl, _, _, rfl, rfl, .inl ⟨by decide, by decide⟩, _, _, rfl, rfl, _, _, rfl, rfl, _, rfl, _, _, rfl, rfl, modM, ?_⟩
      exact ⟨_, _, rfl, fmod_lo, fmod_hi, rfl⟩
    · rintro σ H' ⟨z, y, rfl, h0, h1, rfl⟩
      refine ⟨_, rfl, _, rfl, _, _, rfl, rfl, .inl ⟨by omega, by omega⟩, _, rfl, _, _, rfl, rfl, .inr ⟨by decide, by decide⟩, _, rfl, _, _, rfl, rfl, _, rfl, _, _, rfl, rfl, modM, _, _, rfl, rfl, ?_⟩
      refine q _ ?_
      have := fmod_lo (a := z * 69621 + i)
      omega

/-! the source of draws: [numbers, i, x], all not negative -/
def Src (H : Hp) (a n : Addr) : Prop := ∃ (i x : Int) (ns : List Int), H a = some (.lst [.ref n, .int i, .int x]) ∧ H n = some (.lst (ns.map V.int)) ∧ (∀ z ∈ ns, 0 ≤ z) ∧ 0 ≤ i ∧ 0 ≤ x ∧ ns.length ≤ 14
/-- the source stands at a still; all else that was tracked is as it was -/
def Stp (a n : Addr) (H H' : Hp) : Prop := Src H' a n ∧ ∀ c o, H c = some o → c ≠ a → H' c = some o
theorem Stp.trans {a n : Addr} {H H1 H2 : Hp} (h : Stp a n H H1) (h2 : Stp a n H1 H2) : Stp a n H H2 := ⟨h2.1, fun c o e z => h2.2 c o (h.2 c o e z) z⟩
theorem Stp.seq {a m l : Addr} {H H' : Hp} {xs : List V} (h : Stp a m H H') (n : l ≠ a) (q : SqL K H l xs) : SqL K H' l xs := by
  rcases q with (q | ⟨o, q⟩) | q
  · exact .inl (.inl (h.2 _ _ q n))
  · exact .inl (.inr ⟨o, h.2 _ _ q n⟩)
  · exact .inr q
theorem Src.ne {H : Hp} {a n : Addr} {i x : Int} {ns : List Int} (h : H a = some (.lst [.ref n, .int i, .int x])) (h2 : H n = some (.lst (ns.map V.int))) : n ≠ a := fun e => by
  rw [e, h] at h2
  cases ns with
  | nil => cases h2
  | cons z r => cases h2
theorem same_upd {H : Hp} {p : Addr} {o : HO} (h : H p = none) : Same H (upd H p o) := fun b x e => by
  rw [upd_ne (ne_of_none e h)]
  exact e
theorem take_min (xs : List V) (n : Nat) : xs.take (min n xs.length) = xs.take n := by
  by_cases h : n ≤ xs.length
  · rw [Nat.min_eq_left h]
  · rw [Nat.min_eq_right (by omega), List.take_length, List.take_of_length_le (by omega)]
theorem cut_to (xs : List V) (n : Nat) : cutV xs none (some (n : Int)) = xs.take n := by
  unfold cutV
  rw [HT.sIx_none, HT.sIx_nat, List.drop_zero, Nat.sub_zero, take_min]
theorem cut_mid (xs : List V) (n m : Nat) (hnm : n ≤ m) : cutV xs (some (n : Int)) (some (m : Int)) = (xs.drop n).take (m - n) := by
  unfold cutV
  rw [HT.sIx_nat, HT.sIx_nat]
  by_cases h : n ≤ xs.length
  · rw [Nat.min_eq_left h]
    by_cases h2 : m ≤ xs.length
    · rw [Nat.min_eq_left h2]
    · rw [Nat.min_eq_right (by omega), List.take_of_length_le (by rw [List.length_drop]; omega), List.take_of_length_le (by rw [List.length_drop]; omega)]
  · rw [Nat.min_eq_right (show xs.length ≤ n by omega), List.drop_of_length_le (Nat.le_refl _), List.drop_of_length_le (show xs.length ≤ n by omega), List.take_nil, List.take_nil]
theorem cut_from (xs : List V) (n : Nat) : cutV xs (some (n : Int)) none = xs.drop n := by
  unfold cutV
  rw [HT.sIx_none, HT.sIx_nat]
  by_cases h : n ≤ xs.length
  · rw [Nat.min_eq_left h, List.take_of_length_le (by rw [List.length_drop]; omega)]
  · rw [Nat.min_eq_right (by omega), List.drop_of_length_le (by omega), List.drop_of_length_le (by omega), List.take_nil]
/-- for i, x in enumerate(list) -/
theorem for_enum {a : Addr} {xs : List V} {g : TG} {tb : TS} {D : Ends} {σ : L2.St} {H : Hp} (Pv : Nat → L2.St → Hp → Prop) (h0 : Pv 0 σ H) (hl : ∀ i σ H, i ≤ xs.length → Pv i σ H → SqL K H a xs)
    (hs : ∀ i x σ H T, xs[i]? = some x → Pv i σ H → H T = none → g (.ref T) σ (upd H T (.tup [.int (i : Nat), x])) fun σ2 H2 => tb { D with nx := Pv (i + 1), ct := Pv (i + 1), bk := D.nx } σ2 H2) (hd : ∀ σ H, Pv xs.length σ H → D.nx σ H) :
    ∃ W : Nat → Nat → L2.St → Hp → Prop, (∃ m, W 0 m σ H) ∧ ∀ i m σ H, W i m σ H →
      ((Ite K a).stop i H ∧ D.nx σ H) ∨ ((Ite K a).go i H ∧ ∃ N : L2.St → Hp → Prop, (∀ σ' H', N σ' H' → ∃ m', m' < m ∧ W (i + 1) m' σ' H') ∧ ∀ x H', (Ite K a).yld i H x H' → g x σ H' fun σ2 H2 => tb { D with nx := N, ct := N, bk := D.nx } σ2 H2) := by
  refine ⟨fun i m σ H => i + m = xs.length ∧ Pv i σ H, ⟨xs.length, by omega, h0⟩, ?_⟩
  rintro i m σ H ⟨hm, p⟩
  have q := hl i σ H (by omega) p
  by_cases hlt : i < xs.length
  · refine .inr ⟨⟨xs, xs[i], q, List.getElem?_eq_getElem hlt⟩, Pv (i + 1), fun σ' H' p' => ⟨m - 1, by omega, by omega, p'⟩, fun v H' y => ?_⟩
    obtain ⟨T, x, rfl, hT, rfl, y⟩ := y
    exact hs i x σ H T (y xs q) p hT
  · have e : i = xs.length := by omega
    subst e
    exact .inl ⟨⟨xs, q, Nat.le_refl _⟩, hd σ H p⟩
/-! ### draws -/
def absI (i : Int) : Int := if i < 0 then -i else i
theorem absI_nn (i : Int) : 0 ≤ absI i := by
  unfold absI
  split <;> omega
theorem scSou : FnScope ["script", "number", "numbers", "place"] ["script"] (defScope sSou) := ⟨rfl, rfl, rfl, by decide +kernel, rfl, by decide +kernel, by decide +kernel⟩
def spSou (K : PySem.W.Frag) : Sp := fun vs H Q _ => ∃ (a : Addr) (ns : List Int), vs = [.ref a] ∧ SqL K H a (ns.map V.int) ∧ ns.length ≤ 63 ∧ ∀ H' p n, Same H H' → H p = none → H n = none → Src H' p n → Q (.ref p) H'
theorem map_get {ns : List Int} {i : Nat} {y : V} (h : (ns.map V.int)[i]? = some y) : ∃ z, ns[i]? = some z ∧ y = .int z := by
  rw [List.getElem?_map] at h
  cases e : ns[i]? with
  | none =>
    rw [e] at h
    cases h
  | some z =>
    rw [e] at h
    exact ⟨z, rfl, (Option.some.inj h).symm⟩
theorem ok_sou {f : Addr} {fd : FuncData} {k : Nat} (F : Fun K "_law_source" "_law_source" sSou f fd) (me : mg "enumerate" = none) (ma : mg "abs" = none) : FnOk P w K mg base CX0 (k + 1) f fd ["script"] (spSou K) := by
  refine F.ok scSou (fun vs H Q E h => ?_) (fun cdv A outer s H vs Q E hr h => ?_)
  · obtain ⟨a, ns, rfl, _⟩ := h
    rfl
  · obtain ⟨a, ns, rfl, hS, hlen, q⟩ := h
    refine ⟨_, pss_cons (ps_setLc (i := 2) (own := [("number", 1)]) (g := gName 1) (tt := tYes) (by rfl) scSou.nd rfl rfl (sw_true rfl rfl rfl (by decide +kernel)) (pi_list (pe_slice sl_list (pv 0) po_none (po_some pe_int))) (blkOk_by (N := ["script", "number", "numbers", "place"]) (sc := defScope sSou) (by decide +kernel))
        (fun _ _ _ _ _ => pg_name (i := 1) scSou.nd rfl (.inl rfl)) (fun _ _ _ _ _ => pts_nil) (fun _ _ _ _ _ => pe_callB call_abs (by rfl) ma (by decide +kernel) (pa_cons (pv 1) pa_nil)))
      (pss_cons (ps_for PassesOwn.never rfl (pi_enum (by rfl) me (pa_cons (pe_slice sl_list (pv 0) (po_some pe_int) (po_some pe_int)) pa_nil)) (pg_tup rfl (pgs_cons (pg_name (i := 3) scSou.nd rfl (.inl rfl)) (pgs_cons (pg_name (i := 1) scSou.nd rfl (.inl rfl)) pgs_nil)))
        (pss_one (ps_asg (pe_op op_add (pe_ix ix_list (pv 2) (pe_op op_modN (pv 3) pe_int) (fun _ _ => rfl)) (pe_callB call_abs (by rfl) ma (by decide +kernel) (pa_cons (pv 1) pa_nil))) (pg_sub (pv 2) (pe_op op_modN (pv 3) pe_int) set_list))))
      (pss_one (ps_ret (pe_lst (pa_cons (pv 2) (pa_cons pe_int (pa_cons pe_int pa_nil))))))), ?_⟩
    have e1 : cutV (ns.map V.int) none (some 14) = (ns.take 14).map V.int := by
      rw [List.map_take]
      exact cut_to _ 14
    have e2 : cutV (ns.map V.int) (some 14) (some 63) = ((ns.drop 14).take 49).map V.int := by
      rw [List.map_take, List.map_drop]
      exact cut_mid _ 14 63 (by omega)
    refine ⟨.ref a, rfl, 14, rfl, a, ns.map V.int, rfl, hS, fun c nc => ⟨c, rfl, ⟨_, .inl (.inl upd_same)⟩, fun D nD => lc_list (K := K) (a := c) (xs := (ns.take 14).map V.int)
      (fun i H' => Same H H' ∧ H' c = some (.lst ((ns.take 14).map V.int)) ∧ H' D = some (.lst ((((ns.take 14).take i).map absI).map V.int))) ?_ ?_ ?_ ?_⟩⟩
    · have ncD : c ≠ D := fun e => by
        rw [← e, upd_same] at nD
        cases nD
      refine ⟨(same_upd nc).trans (same_upd nD), ?_, upd_same⟩
      rw [upd_ne ncD, upd_same, e1]
    · exact fun i H' _ h => .inl (.inl h.2.1)
    · rintro i y H1 hy ⟨sm, hc, hD⟩
      obtain ⟨z, hz, rfl⟩ := map_get hy
      refine ⟨rfl, _, rfl, z, rfl, _, hD, ?_, fun b o e => ?_, ?_, ?_⟩
      · rw [List.length_map, List.length_map]
        exact small1000 (by simp only [List.length_take]; omega)
      · rw [upd_ne (ne_of_none e ((same_upd nc).free nD))]
        exact sm _ _ e
      · have ncD : c ≠ D := fun e => by
          rw [← e, upd_same] at nD
          cases nD
        rw [upd_ne ncD]
        exact hc
      · rw [upd_same, List.take_add_one (l := List.take 14 ns), hz]
        simp only [Option.toList, List.map_append, List.map_cons, List.map_nil]
        rfl
    · rintro H1 ⟨sm, hc, hD⟩
      rw [List.length_map, List.take_length] at hD
      have hnD : H D = none := (same_upd nc).free nD
      generalize hms : (ns.take 14).map absI = ms at hD
      have hms0 : ∀ z ∈ ms, 0 ≤ z := fun z h => by
        rw [← hms] at h
        obtain ⟨u, _, rfl⟩ := List.mem_map.mp h
        exact absI_nn u
      have hml : ms.length = min 14 ns.length := by rw [← hms, List.length_map, List.length_take]
      refine ⟨.ref a, rfl, 14, rfl, 63, rfl, a, ns.map V.int, rfl, sm.seq hS, fun c2 nc2 => ⟨c2, _, rfl, .inl (.inl upd_same), ?_⟩⟩
      have nD2 : D ≠ c2 := ne_of_none hD nc2
      refine for_enum (K := K) (a := c2) (xs := ((ns.drop 14).take 49).map V.int) (fun i σ H' => ∃ (y1 y3 : Option V) (ks : List Int), σ = [some (.ref a), y1, some (.ref D), y3] ∧ Same H H' ∧ H' c2 = some (.lst (((ns.drop 14).take 49).map V.int)) ∧ H' D = some (.lst (ks.map V.int)) ∧ ks.length = ms.length ∧ ∀ z ∈ ks, 0 ≤ z) ?_ ?_ ?_ ?_
      · refine ⟨_, none, ms, rfl, sm.trans (same_upd nc2), ?_, ?_, rfl, hms0⟩
        · rw [upd_same, e2]
        · rw [upd_ne nD2]
          exact hD
      · rintro i σ H' _ ⟨_, _, _, _, _, hc2, _⟩
        exact .inl (.inl hc2)
      · rintro i x σ H' T hx ⟨y1, y3, ks, rfl, sm', hc2, hD', hl', hn'⟩ hT
        obtain ⟨z, hz, rfl⟩ := map_get hx
        have hi : i < ((ns.drop 14).take 49).length := (List.getElem?_eq_some_iff.mp hz).1
        rw [List.length_take, List.length_drop] at hi
        have hj : i % 14 < ks.length := by
          rw [hl', hml, Nat.min_eq_left (by omega)]
          exact Nat.mod_lt _ (by decide)
        have ej : ((i : Int)).fmod 14 = ((i % 14 : Nat) : Int) := by
          rw [Int.fmod_eq_emod_of_nonneg _ (by decide)]
          omega
        have hDT : D ≠ T := ne_of_none hD' hT
        have hD2 : (upd H' T (.tup [.int (i : Nat), .int z])) D = some (.lst (ks.map V.int)) := by
          rw [upd_ne hDT]
          exact hD'
        have gk : (ks.map V.int)[i % 14]? = some (.int ks[i % 14]) := by
          rw [List.getElem?_map, List.getElem?_eq_getElem hj]
          rfl
        refine ⟨T, _, rfl, .inl (.inl upd_same), rfl, _, _, rfl, _, _, rfl, rfl, ?_⟩
        refine ⟨_, rfl, _, rfl, _, _, rfl, rfl, mod14, D, ks.map V.int, _, _, rfl, rfl, .inl (.inl hD2), at_of ej gk, _, rfl, z, rfl, _, _, rfl, rfl, ?_⟩
        refine ⟨_, rfl, _, rfl, _, _, rfl, rfl, mod14, D, ks.map V.int, _, i % 14, rfl, rfl, hD2, ?_, ?_⟩
        · rw [ej, List.length_map]
          exact Evl.ixN_nat hj
        · refine ⟨_, _, ks.set (i % 14) (ks[i % 14] + absI z), rfl, fun b o e => ?_, ?_, ?_, by rw [List.length_set, hl'], ?_⟩
          · have nb : b ≠ D := ne_of_none e hnD
            rw [upd_ne nb, upd_ne (ne_of_none (sm' _ _ e) hT)]
            exact sm' _ _ e
          · have nc2D : c2 ≠ D := nD2.symm
            rw [upd_ne nc2D, upd_ne (ne_of_none hc2 hT)]
            exact hc2
          · rw [upd_same, List.map_set]
            rfl
          · intro u hu
            rcases List.mem_or_eq_of_mem_set hu with h | rfl
            · exact hn' _ h
            · have := hn' _ (List.getElem_mem hj)
              have := absI_nn z
              omega
      · rintro σ H' ⟨y1, y3, ks, rfl, sm', hc2, hD', hl', hn'⟩
        refine ⟨_, rfl, by show 3 ≤ sizeLine; decide, fun p np => ?_⟩
        refine q _ p D (sm'.trans (same_upd np)) (sm'.free np) hnD ⟨0, 0, ks, upd_same, ?_, hn', by decide, by decide, by rw [hl', hml]; omega⟩
        rw [upd_ne (ne_of_none hD' np)]
        exact hD'
end

section
variable {P : Program} {w : World} {K : PySem.W.Frag} {mg : Str → Option Value} {base : Heap}
/-! ### pick -/
theorem scPic : FnScope ["source", "many", "numbers", "place", "number", "found"] ["source", "many"] (defScope sPic) := ⟨rfl, rfl, rfl, by decide +kernel, rfl, by decide +kernel, by decide +kernel⟩
def spPic : Sp := fun vs H Q _ => ∃ (a n : Addr) (b : Int), vs = [.ref a, .int b] ∧ Src H a n ∧ 0 < b ∧ b.natAbs < 2 ^ 200 ∧ ∀ (r : Int) H', 0 ≤ r → r < b → Stp a n H H' → Q (.int r) H'
theorem dp_ints {H : Hp} : ∀ ns : List Int, DpAll K H (ns.map V.int) (ns.map PyData.int)
  | [] => .nil
  | z :: r => .cons (.int z) (dp_ints r)
theorem lay_ints : ∀ ns : List Int, PyData.canLayAll0 (ns.map PyData.int) = true
  | [] => by simp [PyData.canLayAll0]
  | z :: r => by
    have ih := lay_ints r
    simp [PyData.canLayAll0, PyData.canLay0, ih]
theorem depth_ints : ∀ ns : List Int, PyData.depthAll (ns.map PyData.int) = 0
  | [] => by simp [PyData.depthAll]
  | z :: r => by
    have ih := depth_ints r
    simp [PyData.depthAll, PyData.depth, ih]
theorem shaped_ints (ns : List Int) : SeqAt.shaped (.list (ns.map PyData.int)) = true := by
  unfold SeqAt.shaped
  simp [PyData.canLay0, PyData.depth, lay_ints, depth_ints]
/-- the source's three places -/
abbrev src3 (n : Addr) (i x : Int) : HO := .lst [.ref n, .int i, .int x]
theorem d15 : ((10 : Int) ^ (15 : Int).toNat) ≠ 0 := by decide
theorem ok_pic {f fM : Addr} {fd fdM : FuncData} {k : Nat} (F : Fun K "_law_pick" "_law_pick" sPic f fd) (ml : mg "len" = none) (FM : Fun K "_law_mixed" "_law_mixed" sMix fM fdM) (bM : Binds K fdM ["number", "place"] []) (gM : mg "_law_mixed" = some (.ref fM)) (mr : mg "range" = none) :
    FnOk P w K mg base CX0 (k + 2) f fd ["source", "many"] spPic := by
  have GM : FnOk P w K mg base CX0 (k + 1) fM fdM ["number", "place"] spMix := ok_mix FM mr
  have kM := FM.kp
  refine F.ok scPic (fun vs H Q E h => ?_) (fun cdv A outer s H vs Q E hr h => ?_)
  · obtain ⟨a, n, b, rfl, _⟩ := h
    rfl
  · obtain ⟨a, n, b, rfl, ⟨i, x, ns, hA, hN, hpos, hi, hx, hlen⟩, hb, hb2, q⟩ := h
    have nna : n ≠ a := Src.ne hA hN
    refine ⟨_, (C8.pss_cut (ps_if (pt_cmpR op_lt (pe_ix ix_list (pv 0) (pe_int) (fun _ _ => rfl)) (pv 1) (nomark _)) (pss_cons (ps_par (i := 2) (j := 3) (by rfl) scPic.nd rfl rfl (by decide) rfl rfl (pa_cons (pe_ix ix_list (pv 0) (pe_int) (fun _ _ => rfl)) (pa_cons (pe_ix ix_list (pv 0) (pe_int) (fun _ _ => rfl)) pa_nil)) (by rfl))
        (C8.pss_cut (ps_set (i := 4) scPic.nd rfl (.inl rfl) (pe_ifExp (pt_cmpR (op_neD hr.units) (pv 2) (pe_lst pa_nil) (nomark _)) (pe_ix ix_list (pv 2) (pe_op op_modN (pv 3) (pe_callB call_len_seq (by rfl) ml PySem.boot_len (pa_cons (pv 2) pa_nil))) (fun _ _ => rfl)) (pe_int)))
        (C8.pss_cut (ps_if (PW.pt (pw_or (pt_cmpR op_lt (pv 4) (pe_op op_pow (pe_int) (pe_int)) (nomark _)) (pw_or1 (pt_cmpR op_ge (pv 3) (pe_callB call_len_seq (by rfl) ml PySem.boot_len (pa_cons (pv 2) pa_nil)) (nomark _))))) (pss_one (ps_set (i := 4) scPic.nd rfl (.inl rfl) (pe_call GM hr (by rfl) gM kM bM .nil pass0 (pa_cons (pe_op op_add (pe_op op_modN (pv 4) (pe_op op_pow (pe_int) (pe_int))) (pe_op op_fdivW (pv 3) (pe_op op_add (pe_callB call_len_seq (by rfl) ml PySem.boot_len (pa_cons (pv 2) pa_nil)) (pe_int)))) (pa_cons (pv 3) pa_nil))))) pss_nil)
        (pss_cons (ps_asg (pe_op op_add (pv 3) pe_int) (pg_sub (pv 0) pe_int set_list))
        (pss_one (ps_asg (pv 4) (pg_sub (pv 0) pe_int set_list))))))) pss_nil)
        (pss_cons (ps_set (i := 5) scPic.nd rfl (.inl rfl) (pe_op op_modN (pe_ix ix_list (pv 0) (pe_int) (fun _ _ => rfl)) (pv 1)))
        (pss_cons (ps_asg (pe_op op_fdivW (pe_ix ix_list (pv 0) (pe_int) (fun _ _ => rfl)) (pv 1)) (pg_sub (pv 0) pe_int set_list))
        (pss_one (ps_ret (pv 5)))))), ?_⟩
    refine ⟨fun σ H' => ∃ (y2 y3 y4 : Option V) (i' x' : Int), σ = [some (.ref a), some (.int b), y2, y3, y4, none] ∧ H' a = some (src3 n i' x') ∧ 0 ≤ i' ∧ 0 ≤ x' ∧ ∀ c o, H c = some o → c ≠ a → H' c = some o, ?_, ?_⟩
    · refine ⟨.ref a, rfl, a, _, 2, _, rfl, rfl, .inl (.inl hA), atI_nat (j := 2) rfl, _, rfl, x, b, rfl, rfl, _, rfl, ite2 (fun _ => ?_) (fun _ => ?_)⟩
      · refine ⟨.ref a, rfl, a, _, 0, _, rfl, rfl, .inl (.inl hA), atI_nat (j := 0) rfl, .ref a, rfl, a, _, 1, _, rfl, rfl, .inl (.inl hA), atI_nat (j := 1) rfl, _, _, rfl, ?_⟩
        refine ⟨fun σ H' => ∃ z : Int, σ = [some (.ref a), some (.int b), some (.ref n), some (.int i), some (.int z), none] ∧ 0 ≤ z ∧ Same H H', ?_, ?_⟩
        · refine ⟨.ref n, rfl, by show 0 ≤ sizeLine; decide, fun p np => ?_⟩
          have hN1 : (upd H p (.lst [])) n = some (.lst (ns.map V.int)) := same_upd np _ _ hN
          refine ⟨.list (ns.map PyData.int), .list [], .lst (.inl (.inl hN1)) (dp_ints ns), .lst (.inl (.inl upd_same)) .nil, shaped_ints ns, shaped_ints [], _, rfl, ite2 (fun hne => ?_) (fun he => ?_)⟩
          · have nz : ns ≠ [] := fun e => by
              subst e
              revert hne
              decide +kernel
            have hl0 : 0 < ns.length := List.length_pos_iff.mpr nz
            have hj : i.toNat % ns.length < ns.length := Nat.mod_lt _ hl0
            have ej : i.fmod (ns.length : Int) = ((i.toNat % ns.length : Nat) : Int) := by
              rw [Int.fmod_eq_emod_of_nonneg _ (by omega), Int.natCast_emod]
              congr 1
              omega
            have gk : (ns.map V.int)[i.toNat % ns.length]? = some (.int ns[i.toNat % ns.length]) := by
              rw [List.getElem?_map, List.getElem?_eq_getElem hj]
              rfl
            refine ⟨.ref n, rfl, _, rfl, .ref n, rfl, n, _, rfl, .inl (.inl (.inl hN1)), _, _, rfl, rfl, ?_, n, _, _, _, rfl, rfl, .inl (.inl hN1), at_of (by rw [List.length_map]; exact ej) gk, ?_⟩
            · rw [List.length_map]
              omega
            · exact ⟨_, rfl, hpos _ (List.getElem_mem hj), same_upd np⟩
          · exact ⟨0, rfl, by decide, same_upd np⟩
        · rintro σ H1 ⟨z, rfl, hz, sm⟩
          have hN1 := sm _ _ hN
          have hA1 := sm _ _ hA
          refine ⟨fun σ H' => ∃ z : Int, σ = [some (.ref a), some (.int b), some (.ref n), some (.int i), some (.int z), none] ∧ 0 ≤ z ∧ Same H H', ?_, ?_⟩
          · have wq : CDivW i ((ns.length : Int) + 1) := wide_div (b := 64) (by omega) (by omega) (by decide) (by decide)
            refine ⟨_, rfl, _, _, rfl, rfl, ⟨by decide, by decide, by decide⟩, _, _, rfl, rfl, _, rfl, ite2 (fun _ => ?_) (fun _ => ?_)⟩
            · refine ⟨_, rfl, _, _, rfl, rfl, ⟨by decide, by decide, by decide⟩, _, _, rfl, rfl, d15, _, rfl, .ref n, rfl, n, _, rfl, .inl (.inl (.inl hN1)), _, _, rfl, rfl, ?_⟩
              rw [List.length_map]
              exact ⟨_, _, rfl, rfl, wq, _, _, rfl, rfl, _, rfl, _, _, rfl, fun r h0 => ⟨r, rfl, h0, sm⟩⟩
            · refine ⟨_, rfl, .ref n, rfl, n, _, rfl, .inl (.inl (.inl hN1)), _, _, rfl, rfl, _, rfl, ite2 (fun _ => ?_) (fun _ => ?_)⟩
              · refine ⟨_, rfl, _, _, rfl, rfl, ⟨by decide, by decide, by decide⟩, _, _, rfl, rfl, d15, _, rfl, .ref n, rfl, n, _, rfl, .inl (.inl (.inl hN1)), _, _, rfl, rfl, ?_⟩
                rw [List.length_map]
                exact ⟨_, _, rfl, rfl, wq, _, _, rfl, rfl, _, rfl, _, _, rfl, fun r h0 => ⟨r, rfl, h0, sm⟩⟩
              · exact ⟨z, rfl, hz, sm⟩
          · rintro σ H2 ⟨z2, rfl, hz2, sm2⟩
            have hA2 := sm2 _ _ hA
            refine ⟨_, rfl, _, _, rfl, rfl, .ref a, rfl, a, _, _, 1, rfl, rfl, hA2, rfl, ?_⟩
            refine ⟨_, rfl, .ref a, rfl, a, _, _, 2, rfl, rfl, upd_same, rfl, ?_⟩
            refine ⟨_, _, _, i + 1, z2, rfl, upd_same, by omega, hz2, fun c o e ne => ?_⟩
            rw [upd_ne ne, upd_ne ne]
            exact sm2 _ _ e
      · exact ⟨none, none, none, i, x, rfl, hA, hi, hx, fun c o e _ => e⟩
    · rintro σ H' ⟨y2, y3, y4, i', x', rfl, hA', hi', hx', kp⟩
      have bne : b ≠ 0 := by omega
      have wd : ∀ u : Int, CDivW u b := fun u => wide_div hb hb2 (by decide) (by decide)
      refine ⟨.ref a, rfl, a, _, 2, _, rfl, rfl, .inl (.inl hA'), atI_nat (j := 2) rfl, _, rfl, _, _, rfl, rfl, bne, ?_⟩
      refine ⟨.ref a, rfl, a, _, 2, _, rfl, rfl, .inl (.inl hA'), atI_nat (j := 2) rfl, _, rfl, _, _, rfl, rfl, wd _, .ref a, rfl, a, _, _, 2, rfl, rfl, hA', rfl, ?_⟩
      refine ⟨_, rfl, q _ _ (Int.fmod_nonneg_of_pos _ hb) (Int.fmod_lt_of_pos _ hb) ⟨⟨i', x' / b, ns, upd_same, ?_, hpos, hi', Int.ediv_nonneg hx' (by omega), hlen⟩, fun c o e ne => ?_⟩⟩
      · rw [upd_ne nna]
        exact kp _ _ hN nna
      · rw [upd_ne ne]
        exact kp _ _ e ne
/-! ### choose -/
theorem scCho : FnScope ["source", "options"] ["source", "options"] (defScope sCho) := ⟨rfl, rfl, rfl, by decide +kernel, rfl, by decide +kernel, by decide +kernel⟩
def spCho (K : PySem.W.Frag) : Sp := fun vs H Q _ => ∃ (a n l : Addr) (xs : List V), vs = [.ref a, .ref l] ∧ Src H a n ∧ SqL K H l xs ∧ l ≠ a ∧ xs ≠ [] ∧ xs.length ≤ 1000000 ∧ ∀ v H', v ∈ xs → Stp a n H H' → Q v H'
theorem ok_cho {f fN : Addr} {fd fdN : FuncData} {k : Nat} (F : Fun K "_law_choose" "_law_choose" sCho f fd) (ml : mg "len" = none) (GN : FnOk P w K mg base CX0 (k + 2) fN fdN ["source", "many"] spPic) (kN : PySem.W.keepIn K (.ref fN) = true) (bN : Binds K fdN ["source", "many"] []) (gN : mg "_law_pick" = some (.ref fN)) :
    FnOk P w K mg base CX0 (k + 3) f fd ["source", "options"] (spCho K) := by
  refine F.ok scCho (fun vs H Q E h => ?_) (fun cdv A outer s H vs Q E hr h => ?_)
  · obtain ⟨a, n, l, xs, rfl, _⟩ := h
    rfl
  · obtain ⟨a, n, l, xs, rfl, hs, hl, hne, hx, hz, q⟩ := h
    refine ⟨_, pss_one (ps_ret (pe_ix ix_list (pv 1) (pe_call GN hr (by rfl) gN kN bN .nil pass0 (pa_cons (pv 0) (pa_cons (pe_callB call_len_seq (by rfl) ml PySem.boot_len (pa_cons (pv 1) pa_nil)) pa_nil))) (fun _ _ => rfl))), ?_⟩
    have hlp : 0 < xs.length := List.length_pos_iff.mpr hx
    refine ⟨.ref l, rfl, .ref a, rfl, .ref l, rfl, l, xs, rfl, .inl hl, a, n, _, rfl, hs, by omega, ?_, fun r H' h0 h1 st => ?_⟩
    · rw [Int.natAbs_natCast]
      exact Nat.lt_of_le_of_lt hz (by decide)
    · obtain ⟨j, rfl⟩ := Int.eq_ofNat_of_zero_le h0
      have hj : j < xs.length := by omega
      exact ⟨l, xs, _, _, rfl, rfl, st.seq hne hl, atI_nat (List.getElem?_eq_getElem hj), q _ _ (List.getElem_mem hj) st⟩
/-! ### identical -/
theorem scIde : FnScope ["found", "expected"] ["found", "expected"] (defScope sIde) := ⟨rfl, rfl, rfl, by decide +kernel, rfl, by decide +kernel, by decide +kernel⟩
/-- data that is shown -/
structure Shn (d : PyData) : Prop where
  sh : d.showable = true
  nd : d.hasDict = false
  dp : d.depth ≤ 60
  sz : d.shown.length ≤ sizeLine
def spIde (K : PySem.W.Frag) : Sp := fun vs H Q _ => ∃ (x y : V) (d : PyData), vs = [x, y] ∧ Dp K H x d ∧ Dp K H y d ∧ Shn d ∧ Q (.bl true) H
theorem ok_ide {f : Addr} {fd : FuncData} {k : Nat} (F : Fun K "_law_equal" "_law_equal" sIde f fd) (mp : mg "repr" = none) : FnG P w K mg base (k + 1) f fd ["found", "expected"] (spIde K) := by
  refine Fun_okG F scIde (fun vs H Q E h => ?_) (fun cdv A outer s H vs Q E hg hr h => ?_)
  · obtain ⟨x, y, d, rfl, _⟩ := h
    rfl
  · obtain ⟨x, y, d, rfl, hx, hy, hd, q⟩ := h
    have hun : (cxOf CX0 P w K mg base ["found", "expected"] "_law_equal" (defScope sIde) f cdv A outer s H E).nox.A.units + 100 < cLine := by
      have := hr.un
      show (A.deeper _).units + 100 < cLine
      omega
    refine ⟨_, pss_one (ps_ret (pe_cmpR op_eq (pe_callB (call_reprD hg hun) (by rfl) mp (by decide +kernel) (pa_cons (pv 0) pa_nil)) (pe_callB (call_reprD hg hun) (by rfl) mp (by decide +kernel) (pa_cons (pv 1) pa_nil)) (nomark _))), ?_⟩
    refine ⟨x, rfl, x, d, rfl, hx, hd.sh, hd.nd, hd.dp, hd.sz, y, rfl, y, d, rfl, hy, hd.sh, hd.nd, hd.dp, hd.sz, rfl, ?_⟩
    rw [decide_eq_true rfl]
    exact q
end
section
variable {P : Program} {w : World} {K : PySem.W.Frag} {mg : Str → Option Value} {base : Heap}
theorem eqv_ints : ∀ as bs : List Int, PyData.eqvAll (as.map PyData.int) (bs.map PyData.int) = decide (as = bs)
  | [], [] => by simp [PyData.eqvAll]
  | [], b :: bs => by simp [PyData.eqvAll]
  | a :: as, [] => by simp [PyData.eqvAll]
  | a :: as, b :: bs => by
    have ih := eqv_ints as bs
    rw [List.map_cons, List.map_cons]
    show (PyData.eqvAll (.int a :: as.map PyData.int) (.int b :: bs.map PyData.int)) = _
    rw [PyData.eqvAll, ih, PyData.eqv]
    by_cases e1 : a = b <;> by_cases e2 : as = bs <;> simp [e1, e2]
theorem shaped_intsT (ns : List Int) : SeqAt.shaped (.tuple (ns.map PyData.int)) = true := by
  unfold SeqAt.shaped
  simp [PyData.canLay0, PyData.depth, lay_ints, depth_ints]
theorem dp_tup {H : Hp} {a : Addr} {ns : List Int} (h : SqT K H a (ns.map V.int)) : Dp K H (.ref a) (.tuple (ns.map PyData.int)) := .tup h (dp_ints ns)
theorem eqvT (as bs : List Int) : PyData.eqv (.tuple (as.map PyData.int)) (.tuple (bs.map PyData.int)) = decide (as = bs) := by
  rw [← eqv_ints]
  simp [PyData.eqv]
end
/-! tuples joined, repeated, cut: some tuple, all else as it was -/
theorem Same.seqT {K : PySem.W.Frag} {H H' : Hp} {a : Addr} {xs : List V} (e : Same H H') (h : SqT K H a xs) : SqT K H' a xs := by
  rcases h with (h | ⟨o, h⟩) | h
  · exact .inl (.inl (e _ _ h))
  · exact .inl (.inr ⟨o, e _ _ h⟩)
  · exact .inr h
theorem Stp.seqT {K : PySem.W.Frag} {a m l : Addr} {H H' : Hp} {xs : List V} (h : Stp a m H H') (n : SqT K H l xs → l ≠ a) (q : SqT K H l xs) : SqT K H' l xs := by
  have n := n q
  rcases q with (q | ⟨o, q⟩) | q
  · exact .inl (.inl (h.2 _ _ q n))
  · exact .inl (.inr ⟨o, h.2 _ _ q n⟩)
  · exact .inr q
theorem Src.same {H H' : Hp} {a n : Addr} (h : Src H a n) (e : Same H H') : Src H' a n := by
  obtain ⟨i, x, ns, h1, h2, h3⟩ := h
  exact ⟨i, x, ns, e _ _ h1, e _ _ h2, h3⟩
theorem Stp.of {H H' : Hp} {a n : Addr} (h : Src H a n) (e : Same H H') : Stp a n H H' := ⟨h.same e, fun c o z _ => e c o z⟩
theorem Stp.refl {H : Hp} {a n : Addr} (h : Src H a n) : Stp a n H H := .of h (Same.refl H)
theorem Stp.then {H H1 H2 : Hp} {a n : Addr} (h : Stp a n H H1) (e : Same H1 H2) : Stp a n H H2 := h.trans (.of h.1 e)
section
variable {X : Cx}
def rRepU (K : PySem.W.Frag) : R2 := fun x y H Q => ∃ l k xs, x = .ref l ∧ y = .int k ∧ SqT K H l xs ∧ xs.length = 1 ∧ -1000 ≤ k ∧ k ≤ 1000 ∧ ∀ p H', Same H H' → SqT K H' p (List.replicate k.toNat xs).flatten → Q (.ref p) H'
theorem op_repU : OpR X (binaryOp .Mult) (rRepU X.K) := by
  intro pins s σ H x y v u Q I rx ry h
  obtain ⟨l, k, xs, hx, hy, hT, hl, h1, h2, q⟩ := h
  refine op_repZ pins s σ H x y v u Q I rx ry ⟨l, k, xs, hx, hy, hT, ?_, h1, h2, by omega, fun h0 p np => ?_, fun h0 => ?_, fun h0 p np => ?_⟩
  · rintro rfl
    cases hl
  · refine q p _ (same_upd np) (.inl (.inl ?_))
    have e : k.toNat = 0 := by omega
    rw [e, upd_same]
    rfl
  · refine q l H (Same.refl H) ?_
    subst h0
    have e : (List.replicate (1 : Int).toNat xs).flatten = xs := by
      show (List.replicate 1 xs).flatten = xs
      simp
    rw [e]
    exact hT
  · exact q p _ (same_upd np) (.inl (.inl upd_same))
def rCatU (K : PySem.W.Frag) : R2 := fun x y H Q => ∃ a b xs ys, x = .ref a ∧ y = .ref b ∧ SqT K H a xs ∧ SqT K H b ys ∧ xs.length + ys.length ≤ sizeLine ∧ ∀ p H', Same H H' → SqT K H' p (xs ++ ys) → Q (.ref p) H'
theorem op_catU : OpR X (binaryOp .Add) (rCatU X.K) := by
  intro pins s σ H x y v u Q I rx ry h
  obtain ⟨a, b, xs, ys, hx, hy, ha, hb, hl, q⟩ := h
  refine op_catA pins s σ H x y v u Q I rx ry ⟨a, b, xs, ys, hx, hy, ha, hb, hl, fun e => ?_, fun _ e => ?_, fun _ _ p np => ?_⟩
  · subst e
    exact q b H (Same.refl H) hb
  · subst e
    exact q a H (Same.refl H) (by rw [List.append_nil]; exact ha)
  · exact q p _ (same_upd np) (.inl (.inl upd_same))
def rSlU (K : PySem.W.Frag) : V → Option Int → Option Int → Hp → VK → Prop := fun x lo hi H Q => ∃ a xs, x = .ref a ∧ SqT K H a xs ∧ ∀ p H', Same H H' → SqT K H' p (cutV xs lo hi) → Q (.ref p) H'
theorem sl_tupU : SlR X (rSlU X.K) := by
  intro pins s σ H x v vl vu lo hi sl Q I rx i1 i2 i3 hq
  obtain ⟨a, xs, hx, ha, q⟩ := hq
  refine sl_tupA pins s σ H x v vl vu lo hi sl Q I rx i1 i2 i3 ⟨a, xs, hx, ha, fun e => ?_, fun _ p np => ?_⟩
  · refine q a H (Same.refl H) ?_
    unfold cutV
    rw [e.1, e.2, List.drop_zero, Nat.sub_zero, List.take_length]
    exact ha
  · exact q p _ (same_upd np) (.inl (.inl upd_same))
end
theorem flat_one (n : Nat) (z : Int) : (List.replicate n [V.int z]).flatten = (List.replicate n z).map V.int := by
  induction n with
  | zero => rfl
  | succ n ih =>
    rw [List.replicate_succ, List.flatten_cons, ih, List.replicate_succ]
    rfl

theorem Stp.tup {K : PySem.W.Frag} {a n l : Addr} {H H' : Hp} {xs : List V} (h : Stp a n H H') (hs : Src H a n) (q : SqT K H l xs) : SqT K H' l xs := by
  obtain ⟨i, x, ns, ha, _⟩ := hs
  rcases q with (q | ⟨o, q⟩) | q
  · exact .inl (.inl (h.2 _ _ q fun e => by rw [e, ha] at q; cases q))
  · exact .inl (.inr ⟨o, h.2 _ _ q fun e => by rw [e, ha] at q; cases q⟩)
  · exact .inr q
theorem Src.has {a n l : Addr} {H : Hp} (hs : Src H a n) (hl : H l = none) : l ≠ a := fun e => by
  obtain ⟨i, x, ns, ha, _⟩ := hs
  rw [e, ha] at hl
  cases hl
theorem Src.hasN {a n l : Addr} {H : Hp} (hs : Src H a n) (hl : H l = none) : l ≠ n := fun e => by
  obtain ⟨i, x, ns, _, hn, _⟩ := hs
  rw [e, hn] at hl
  cases hl
/-- an object beside the source and its numbers is changed -/
theorem Src.upd {a n l : Addr} {H : Hp} {o : HO} (hs : Src H a n) (h : l ≠ a) (h2 : l ≠ n) : Src (upd H l o) a n := by
  obtain ⟨i, x, ns, ha, hn, r⟩ := hs
  exact ⟨i, x, ns, by rw [upd_ne (Ne.symm h)]; exact ha, by rw [upd_ne (Ne.symm h2)]; exact hn, r⟩
/-- .. that was not there at the start -/
theorem Stp.upd {a n l : Addr} {H H' : Hp} {o : HO} (h : Stp a n H H') (hs : Src H a n) (hl : H l = none) : Stp a n H (upd H' l o) := by
  refine ⟨h.1.upd (hs.has hl) (hs.hasN hl), fun c o' e ne => ?_⟩
  rw [upd_ne (ne_of_none e hl)]
  exact h.2 c o' e ne

/-! ### what is shown -/
theorem log_small {z : Int} (h : z.natAbs < 2 ^ 200) : z.natAbs.log2 < 1920 := by
  by_cases h0 : z.natAbs = 0
  · rw [h0]
    decide
  · have := (Nat.log2_lt h0).mpr h
    omega
theorem int_len {z : Int} (h : z.natAbs < 2 ^ 200) : (PyData.shown (.int z)).length ≤ 2000 := by
  have e : (PyData.shown (.int z)) = Str.ofString (toString z) := by simp [PyData.shown]
  rw [e]
  have h1 := int_text_length_le (a := z) (k := 1920) (by decide) (log_small h)
  rw [PySem.ofString_length]
  omega
theorem Shn.int {z : Int} (h : z.natAbs < 2 ^ 200) : Shn (.int z) := by
  refine ⟨?_, by simp [PyData.hasDict], by simp [PyData.depth], ?_⟩
  · simpa [PyData.showable] using log_small h
  · have := int_len h
    exact Nat.le_of_lt (Nat.lt_of_le_of_lt this (by decide))
theorem ints_sh : ∀ zs : List Int, (∀ z ∈ zs, z.natAbs < 2 ^ 200) → PyData.showableAll (zs.map PyData.int) = true ∧ PyData.hasDictAll (zs.map PyData.int) = false ∧ (PyData.shownAll (zs.map PyData.int)).length = zs.length ∧ piled (PyData.shownAll (zs.map PyData.int)) ≤ 2002 * zs.length
  | [], _ => by simp [PyData.showableAll, PyData.hasDictAll, PyData.shownAll, piled]
  | z :: r, h => by
    obtain ⟨h1, h2, h3, h4⟩ := ints_sh r fun y hy => h y (List.mem_cons_of_mem _ hy)
    have hz := h z (List.mem_cons_self ..)
    have h5 := int_len hz
    rw [List.map_cons]
    refine ⟨?_, ?_, ?_, ?_⟩
    · rw [PyData.showableAll, h1, (Shn.int hz).sh]
      rfl
    · rw [PyData.hasDictAll, h2, (Shn.int hz).nd]
      rfl
    · rw [PyData.shownAll, List.length_cons, List.length_cons, h3]
    · rw [PyData.shownAll, piled_cons, List.length_cons]
      omega
theorem Shn.tup {zs : List Int} (h : ∀ z ∈ zs, z.natAbs < 2 ^ 200) (hl : zs.length ≤ 1000) : Shn (.tuple (zs.map PyData.int)) := by
  obtain ⟨h1, h2, h3, h4⟩ := ints_sh zs h
  refine ⟨by rw [PyData.showable, h1], by rw [PyData.hasDict, h2], ?_, ?_⟩
  · rw [PyData.depth, depth_ints]
    decide
  · rw [PyData.shown]
    have h5 := PySem.fmt_text (PyData.shownAll (zs.map PyData.int))
    rw [sizeLine_eq]
    omega
/-! ### the order -/
structure NZ (zs : List Int) : Prop where
  nn : ∀ z ∈ zs, 0 ≤ z
  hd : zs.head? ≠ some 0

/-! what is shown, and how long it is -/
structure Sd (d : PyData) (k n : Nat) : Prop where
  sh : d.showable = true
  nd : d.hasDict = false
  dp : d.depth ≤ k
  sz : d.shown.length ≤ n
structure SdA (ds : List PyData) (k n : Nat) : Prop where
  sh : PyData.showableAll ds = true
  nd : PyData.hasDictAll ds = false
  dp : PyData.depthAll ds ≤ k
  sz : ((PyData.shownAll ds).map (·.length)).sum + 2 * (PyData.shownAll ds).length ≤ n
theorem Sd.shn {d : PyData} {k n : Nat} (h : Sd d k n) (hk : k ≤ 60) (hn : n ≤ 10000000) : Shn d := ⟨h.sh, h.nd, Nat.le_trans h.dp hk, Nat.le_trans h.sz (Nat.le_trans hn (by rw [sizeLine_eq]; decide))⟩
theorem Sd.mono {d : PyData} {k n k' n' : Nat} (h : Sd d k n) (hk : k ≤ k') (hn : n ≤ n') : Sd d k' n' := ⟨h.sh, h.nd, Nat.le_trans h.dp hk, Nat.le_trans h.sz hn⟩
theorem SdA.mono {d : List PyData} {k n k' n' : Nat} (h : SdA d k n) (hk : k ≤ k') (hn : n ≤ n') : SdA d k' n' := ⟨h.sh, h.nd, Nat.le_trans h.dp hk, Nat.le_trans h.sz hn⟩
theorem Sd.lst {ds : List PyData} {k n : Nat} (h : SdA ds k n) : Sd (.list ds) (k + 1) (n + 3) := by
  refine ⟨by rw [PyData.showable, h.sh], by rw [PyData.hasDict, h.nd], ?_, ?_⟩
  · rw [PyData.depth]
    have := h.dp
    omega
  · rw [PyData.shown]
    have h1 := listText_len_le (PyData.shownAll ds)
    have h2 := h.sz
    omega
theorem Sd.tup {ds : List PyData} {k n : Nat} (h : SdA ds k n) : Sd (.tuple ds) (k + 1) (n + 3) := by
  refine ⟨by rw [PyData.showable, h.sh], by rw [PyData.hasDict, h.nd], ?_, ?_⟩
  · rw [PyData.depth]
    have := h.dp
    omega
  · rw [PyData.shown]
    have h1 := tupleText_len_le (PyData.shownAll ds)
    have h2 := h.sz
    omega
theorem SdA.nil {k n : Nat} : SdA [] k n := ⟨rfl, rfl, Nat.zero_le _, Nat.zero_le _⟩
theorem SdA.cons {d : PyData} {ds : List PyData} {k a b : Nat} (h : Sd d k a) (r : SdA ds k b) : SdA (d :: ds) k (a + b + 2) := by
  refine ⟨by rw [PyData.showableAll, h.sh, r.sh]; rfl, by rw [PyData.hasDictAll, h.nd, r.nd]; rfl, ?_, ?_⟩
  · rw [PyData.depthAll]
    exact Nat.max_le.mpr ⟨h.dp, r.dp⟩
  · rw [PyData.shownAll, List.map_cons, List.sum_cons, List.length_cons]
    have h1 := h.sz
    have h2 := r.sz
    omega
theorem Sd.int {z : Int} {k : Nat} (h : z.natAbs < 2 ^ 200) : Sd (.int z) k 2000 := ⟨(Shn.int h).sh, rfl, Nat.zero_le _, int_len h⟩
theorem Sd.bool {b : Bool} {k : Nat} : Sd (.bool b) k 5 := ⟨rfl, rfl, Nat.zero_le _, by cases b <;> decide +kernel⟩
theorem Sd.none {k : Nat} : Sd .none k 4 := ⟨rfl, rfl, Nat.zero_le _, by decide +kernel⟩
theorem Sd.str {x : Str} {k n : Nat} (h : (reprText x).length ≤ n) : Sd (.str x) k n := ⟨rfl, rfl, Nat.zero_le _, h⟩

/-! ### the end of a law whose def leans on: no repr is under way -/
section
variable {P : Program} {w : World} {K : PySem.W.Frag} {mg mb : Str → Option Value} {k : Nat} {fa a : Addr} {fd : FuncData} {x : Str} {sp : Sp} {st : Shared} {us : List Value} {ns : List Int}
abbrev scrO (us : List Value) : Obj := { cls := .type "list", data := .seq us.toArray }
abbrev Good (st : Shared) (r : Result) (s' : Shared) : Prop := r = .ok (.ret (.bool true)) ∧ OldK st.heap s'.heap ∧ s'.os = st.os ∧ AllBare s'.gens
theorem law_at (KX : K.In st.heap) (n1 : st.heap.Ns mainGlobals mg) (n2 : st.heap.Ns builtinsNs mb) (n3 : ∀ x : Str, x ≠ "__name__" → mb x = bootBuiltins x) (n4 : st.heap.NoLimit) (hg : st.gens = #[])
    (ha : st.heap.get? a = some (scrO us)) (hr : Room k callerA) (F : ∀ b : Heap, K.In b → b.Ns mainGlobals mg → FnG P w K mg b k fa fd [x] sp) (hb : ∀ (s : Shared) (u : Value), BindsTo s fd ⟨[u], []⟩ [(x, u)])
    {H : Hp} (hO : Only H) (hsp : sp [.ref a] H (fun v _ => v = .bl true) fun _ _ _ => False) (hok : HOk P w H st.heap) (hA : ∀ b, H b ≠ none → b = a) (hK : H a ≠ none → K.lookup a = none) :
    codeAny (model P w) callerA (.call (.ref fa) ⟨[.ref a], []⟩) (Good st) st := by
  have hid : ∀ {b : Addr} {o : Obj}, st.heap.get? b = some o → H b = none → (hidT st.heap H).get? b = some o := fun e n => hidT_get e n
  have nodict : ∀ {b : Addr} {o : Obj} {es : Array DictEntry} {m : Nat}, st.heap.get? b = some o → o.data = .dict es m → H b = none := by
    intro b o es m e d
    by_cases q : H b = none
    · exact q
    · rw [hA b q, ha] at e
      cases e
      have d' : Data.seq us.toArray _ = Data.dict es m := d
      cases d'
  have nsOf : ∀ {b : Addr} {m : Str → Option Value}, st.heap.Ns b m → (hidT st.heap H).Ns b m := by
    rintro b m ⟨o, es, ep, e, d, r⟩
    exact ⟨o, es, ep, hid e (nodict e d), d, r⟩
  have KB : K.In (hidT st.heap H) := by
    intro b o e
    refine hid (KX b o e) ?_
    by_cases q : H b = none
    · exact q
    · have eb := hA b q
      rw [eb] at e q
      rw [hK q] at e
      cases e
  obtain ⟨mc, l1, l2⟩ := n4
  have MB : Mod K mg (hidT st.heap H) := ⟨KB, nsOf n1, ⟨mb, nsOf n2, n3⟩, ⟨mc, nsOf l1, l2⟩⟩
  have ev : Env0 P w K mg (hidT st.heap H) callerA [] st H := by
    refine ⟨rfl, MB, fun b o e => of_hidT e, Nat.le_of_eq (hidT_size _ _), trivial, fun b z => ?_, hok, .of_eq hg⟩
    exact absurd (show b ∈ ([] : List Addr) from z) List.not_mem_nil
  refine codeAny_mono ((F _ KB (nsOf n1)).go callerA [] st H ⟨[.ref a], []⟩ [.ref a] [.ref a] _ _ rfl hr ev (hb st (.ref a)) (.cons rfl .nil) hsp) fun r s' h => ?_
  match r, h with
  | .error _, h => exact False.elim h
  | .ok .next, h => exact False.elim h
  | .ok .brk, h => exact False.elim h
  | .ok .cont, h => exact False.elim h
  | .ok (.ret u), h =>
    obtain ⟨v, H', os, bare, un, hok', rv, qv⟩ := h
    have qv : v = .bl true := qv
    subst qv
    obtain rfl : u = Value.bool true := rv
    refine ⟨rfl, OldK.of_keep fun b o e => ?_, os, bare⟩
    rcases hO b with z | ⟨ob, xs, z⟩
    · exact un.keep b o e z (fun z => absurd (show b ∈ ([] : List Addr) from z) List.not_mem_nil) List.not_mem_nil
    · have e1 := (hok b _ z).1
      have e2 := (hok' b _ (un.frzs b ob _ z)).1
      rw [e] at e1
      cases e1
      exact e2
theorem law_g (KX : K.In st.heap) (n1 : st.heap.Ns mainGlobals mg) (n2 : st.heap.Ns builtinsNs mb) (n3 : ∀ x : Str, x ≠ "__name__" → mb x = bootBuiltins x) (n4 : st.heap.NoLimit) (hg : st.gens = #[])
    (ha : st.heap.get? a = some (scrO us)) (hi : IntsAre us ns) (hl : ns.length ≤ sizeLine) (hr : Room k callerA) (F : ∀ b : Heap, K.In b → b.Ns mainGlobals mg → FnG P w K mg b k fa fd [x] sp) (hb : ∀ (s : Shared) (u : Value), BindsTo s fd ⟨[u], []⟩ [(x, u)])
    (hsp : ∀ H : Hp, Only H → SqL K H a (ns.map V.int) → sp [.ref a] H (fun v _ => v = .bl true) fun _ _ _ => False) :
    codeAny (model P w) callerA (.call (.ref fa) ⟨[.ref a], []⟩) (Good st) st := by
  have vi := vals_ints hi
  cases hk : K.lookup a with
  | some o =>
    have e := KX a o hk
    rw [ha] at e
    cases e
    have hS : SqL K (fun _ => none) a (ns.map V.int) := .inr ⟨_, us.toArray, _, hk, rfl, rfl, rfl, by rw [List.size_toArray, hi.length]; exact hl, by simpa using vi⟩
    exact law_at KX n1 n2 n3 n4 hg ha hr F hb (H := fun _ => none) (fun _ => .inl rfl) (hsp _ (fun _ => .inl rfl) hS) (fun b u z => by cases (show (none : Option HO) = some u from z)) (fun b z => absurd rfl z) (fun z => absurd rfl z)
  | none =>
    let H : Hp := fun b => if b = a then some (.frz (scrO us) (.lst (ns.map V.int))) else none
    have h1 : H a = some (.frz (scrO us) (.lst (ns.map V.int))) := if_pos rfl
    have h2 : ∀ b, b ≠ a → H b = none := fun b z => if_neg z
    have hO : Only H := fun b => by
      by_cases z : b = a
      · exact .inr ⟨_, _, by rw [z]; exact h1⟩
      · exact .inl (h2 b z)
    refine law_at KX n1 n2 n3 n4 hg ha hr F hb hO (hsp H hO (.inl (.inr ⟨_, h1⟩))) (fun b u z => ?_) (fun b z => ?_) fun _ => hk
    · by_cases e : b = a
      · subst e
        rw [h1] at z
        cases z
        exact ⟨ha, by rw [List.length_map]; exact hl, us, _, vi, ha⟩
      · rw [h2 b e] at z
        cases z
    · by_cases e : b = a
      · exact e
      · exact absurd (h2 b e) z
end
theorem walk_g {l : PySem.W.OpenLaw} {n k : Nat} {q : Program} {loose : List Str} {XP : (Str → Option Value) → Heap → Prop} {YP : World → Heap → Prop} {d : DefRec} {K : Params → PySem.W.Frag} {sp : PySem.W.Frag → Sp} {x : Str}
    (hn : l.most = some n) (hz : n ≤ sizeLine) (hdf : d.params.defaults = []) (hr : Room k callerA) (hY : ∀ (w : World) (h : Heap), YP w h → (K w.params).In h)
    (F : ∀ (w : World) (mg : Str → Option Value) (fa : Addr) (h : Heap), (K w.params).In h → h.Ns mainGlobals mg → mg d.name = some (.ref fa) →
      ∃ fd : FuncData, (∀ (s : Shared) (u : Value), BindsTo s fd ⟨[u], []⟩ [(x, u)]) ∧ ∀ b : Heap, (K w.params).In b → b.Ns mainGlobals mg → FnG l.prog w (K w.params) mg b k fa fd [x] (sp (K w.params)))
    (hsp : ∀ (K : PySem.W.Frag) (H : Hp) (a : Addr) (ns : List Int), ns.length ≤ n → Only H → SqL K H a (ns.map V.int) → sp K [.ref a] H (fun v _ => v = .bl true) fun _ _ _ => False) :
    PySem.W.WalkO q loose XP YP l.row.toRowW d [] (fun f vs => PySem.call f vs) := by
  refine Att.attach_call hn hdf fun w s0 s1 mg mb fa o pm cd doc a vs ns G Y ho hd hcd hmg hobj hints hlen hg => ?_
  have KX := hY w _ Y
  obtain ⟨fd, hb, hF⟩ := F w mg fa _ KX G.T.g hmg
  exact law_g KX G.T.g G.T.b G.T.builtins G.T.nolimit hg hobj hints (Nat.le_trans hlen hz) hr hF hb fun H hO hS => hsp _ H a ns hlen hO hS
/-- a test, then a word between it and what follows -/
theorem pt_cut {X : Cx} {e : Expr} {t : TT} (h : PT X e t) : PT X e (fun σ H Q => ∃ R : Bool → Hp → Prop, t σ H R ∧ ∀ b H', R b H' → Q b H') := by
  refine ⟨fun pins s σ H Q I q => ?_⟩
  obtain ⟨R, hR, hQ⟩ := q
  exact thn (h.run pins s σ H R I hR) fun b s1 ⟨H1, I1, r⟩ => ⟨H1, I1, hQ b H1 r⟩

end Lim
set_option maxHeartbeats 2000000
namespace Lim
open PySem PySem.Spec PyProof.Rows L2
/-! d.get(k, x) of a written dict -/
section
variable {X : Cx} {o e f : Expr} {td ty tx : TE} {apos cpos : Pos}
def tKGet (K : PySem.W.Frag) (w : World) (td ty tx : TE) : TE := fun σ H Q => td σ H fun x H1 => ∃ d es n, x = .ref d ∧ KDict K w d es n ∧ ty σ H1 fun y H2 => tx σ H2 fun z H3 => ∃ (k : Str) (r : Option Value), y = .str k ∧ PySem.W.nsIn K d k = some r ∧
  ((r = none ∧ Q z H3) ∨ ∃ (u : Value) (v : V), r = some u ∧ RelV v u ∧ Q v H3)
theorem pe_kget (ho : PE X o td) (he : PE X e ty) (hf : PE X f tx) (m : M2 X o "get" apos e f cpos) : PE X (.Call (.Attribute o "get" apos) [e, f] [] cpos) (tKGet X.K X.w td ty tx) := by
  refine ⟨fun pins s σ H Q I h => ?_⟩
  refine wpAny_Call_method m.base m.few m.line PySem.F.plainAttrs_dict PySem.F.slot_dict_get PySem.F.type_dict_get (thn (ho.run pins s σ H _ I h) fun u s1 ⟨x, H1, I1, rx, d, es, n, ex, D, q1⟩ => ?_)
  subst ex
  cases (show u = Value.ref d from rx)
  have hm := PySem.W.mapOf_K (prog := X.prog) (w := X.w) I1.kIn D.at_ D.lit
  refine ⟨hm.typeIs, fun b q => ?_, ?_⟩
  · cases q
    exact ⟨_, I1.kIn _ _ D.at_, rfl⟩
  rw [m.trees]
  refine Calls.callWith_builtin rfl (Calls.evalArgs_plain (Calls.spliced_cons (thn (he.run pins s1 σ H1 _ I1 q1) fun iv s2 ⟨y, H2, I2, ry, q2⟩ =>
    Calls.spliced_cons (thn (hf.run pins s2 σ H2 _ I2 q2) fun fv s3 ⟨z, H3, I3, rz, k, r, ey, hr, q3⟩ => Calls.spliced_nil ?_))))
  subst ey
  obtain ⟨t, rfl⟩ := ry
  have hm3 := PySem.W.mapOf_K (prog := X.prog) (w := X.w) I3.kIn D.at_ D.lit
  refine call_meetsIn PySem.F.slot_dict_get hm3.typeIs PySem.F.entry_dict_get (PySem.F.args_dict_get_3 _ _ _) (meets_dict_get_default (strKind X.prog X.w) d (PySem.strKind_is X.prog X.w k t) D.low fv) ⟨_, hm3, ?_⟩
  rw [PySem.W.find_K D.at_ hr]
  rcases q3 with ⟨rfl, q3⟩ | ⟨u, v, rfl, rv, q3⟩
  · exact ⟨z, H3, I3.tok _, rz, q3⟩
  · exact ⟨v, H3, I3.tok _, rv, q3⟩
end
/-! // by any divisor -/
def CDivN (i j : Int) : Prop := j ≠ 0 ∧ j.natAbs.log2 < 9000
section
variable {X : Cx}
theorem op_fdivN : OpR X (binaryOp .FloorDiv) (rI CDivN fun i j => .int (i.fdiv j)) := opI fun i j _ _ _ _ _ hc q => floordiv_int hc.1 q (.inl (PyProof.noPylong_of_log2 hc.2))
end
/-! repr of a dict with text keys and ints -/
def kvD (p : Str × Int) : PyData × PyData := (.str p.1, .int p.2)
def kvK (p : Str × Int) : Key × V := (.inr p.1, .int p.2)
theorem dict_reads {prog : Program} {w : World} {h : Heap} : ∀ {ps : List (Str × Int)} {vs : List (Key × Value)} {es : List DictEntry}, KV (ps.map kvK) vs → Pairs (mixKind prog w) es vs →
    ∃ as bs, ReadsAll h (es.map (·.key)) ((ps.map kvD).map (·.1)) as ∧ ReadsAll h (es.map (·.val)) ((ps.map kvD).map (·.2)) bs ∧ as = [] ∧ bs = []
  | [], [], [], .nil, .nil => ⟨[], [], .nil, .nil, rfl, rfl⟩
  | (x, i) :: r, (qk, qv) :: vs', ⟨ehash, ekey, eval⟩ :: es', .cons hk kr, .cons h1 h2 pr => by
    obtain ⟨as, bs, ra, rb, ea, eb⟩ := dict_reads kr pr
    obtain ⟨k1, k2⟩ := hk
    cases k1
    obtain ⟨t, rfl⟩ := (show ∃ t, qv = Value.int i t from k2)
    have hx : Value.isStrOf x ekey = true := h1
    obtain ⟨t2, e2⟩ := Value.isStrOf_shape hx
    cases (show ekey = _ from e2)
    cases (show eval = _ from h2)
    subst ea eb
    exact ⟨[], [], .cons (.str x t2) ra, .cons (.int i t) rb, rfl, rfl⟩
theorem call_reprK {X : Cx} (hgd : X.A.guards = some []) (hu : X.A.units + 100 < cLine) : CallR X (.builtin "repr") (fun xs H Q => ∃ (a : Addr) (ps : List (Str × Int)), xs = [.ref a] ∧ H a = some (.dK (ps.map kvK)) ∧ (PyData.dict (ps.map kvD)).showable = true ∧ (PyData.dict (ps.map kvD)).depth ≤ 60 ∧ (PyData.dict (ps.map kvD)).shown.length ≤ sizeLine ∧
    Q (.str (PyData.dict (ps.map kvD)).shown) H) := by
  intro pins s σ H xs us Q I r h
  obtain ⟨a, ps, rfl, hH, h1, h2, h3, q⟩ := h
  obtain ⟨u, rfl, r1⟩ := vals1 r
  cases (show u = Value.ref a from r1)
  obtain ⟨_, hd, vs, kv, o, es, ep, ho, hx, hdt, _, hp, _⟩ := dk_of I.hok hH
  obtain ⟨as, bs, ra, rb, ea, eb⟩ := dict_reads (h := s.heap) kv hp
  subst ea eb
  have rd : Reads s.heap (.ref a) (.dict (ps.map kvD)) (a :: [] ++ []) := .dict ho hx.1 hdt ra rb
  refine PySem.repr_of_reads' rd h1 (fun _ hm => ?_) hgd (by omega) (fun _ _ z => z) (fun h' u tk hk => ⟨.str _, H, I.kept hk, ⟨_, rfl⟩, q⟩) h3
  have e : sysModules = a := by simpa using hm
  rw [e] at hd
  simp at hd
end Lim
set_option maxHeartbeats 2000000
namespace Lim
open PySem PySem.Spec PyProof.Rows L2
abbrev sEva : Stmt := topS 4
abbrev sHol : Stmt := topS 5
abbrev sCal : Stmt := topS 6
/-! ### expressions -/
inductive Ex where
  | int (n : Int) | name (x : Str) | un (w : Str) (a : Ex) | bin (w : Str) (a b : Ex) | ite (a b c : Ex)
def Ex.dep : Ex → Nat
  | .int _ | .name _ => 0
  | .un _ a => a.dep + 1
  | .bin _ a b => max a.dep b.dep + 1
  | .ite a b c => max a.dep (max b.dep c.dep) + 1
/-- v is the parsed form of the expression -/
def At (K : PySem.W.Frag) (H : Hp) : Ex → V → Prop
  | .int n, v => ∃ p, v = .ref p ∧ SqT K H p [.str "int", .int n]
  | .name x, v => ∃ p, v = .ref p ∧ SqT K H p [.str "name", .str x]
  | .un w a, v => ∃ p x, v = .ref p ∧ SqT K H p [.str w, x] ∧ At K H a x
  | .bin w a b, v => ∃ p x y, v = .ref p ∧ SqT K H p [.str w, x, y] ∧ At K H a x ∧ At K H b y
  | .ite a b c, v => ∃ p x y z, v = .ref p ∧ SqT K H p [.str "if", x, y, z] ∧ At K H a x ∧ At K H b y ∧ At K H c z
theorem At.mono {K : PySem.W.Frag} {H H' : Hp} (k : ∀ p xs, SqT K H p xs → SqT K H' p xs) : ∀ {e : Ex} {v : V}, At K H e v → At K H' e v
  | .int n, v, ⟨p, e, t⟩ => ⟨p, e, k _ _ t⟩
  | .name n, v, ⟨p, e, t⟩ => ⟨p, e, k _ _ t⟩
  | .un w a, v, ⟨p, x, e, t, h⟩ => ⟨p, x, e, k _ _ t, At.mono k h⟩
  | .bin w a b, v, ⟨p, x, y, e, t, h1, h2⟩ => ⟨p, x, y, e, k _ _ t, At.mono k h1, At.mono k h2⟩
  | .ite a b c, v, ⟨p, x, y, z, e, t, h1, h2, h3⟩ => ⟨p, x, y, z, e, k _ _ t, At.mono k h1, At.mono k h2, At.mono k h3⟩
theorem At.same {K : PySem.W.Frag} {H H' : Hp} {e : Ex} {v : V} (h : At K H e v) (s : Same H H') : At K H' e v := h.mono fun _ _ t => Same.seqT s t
theorem At.stp {K : PySem.W.Frag} {H H' : Hp} {a n : Addr} {e : Ex} {v : V} (h : At K H e v) (hs : Src H a n) (s : Stp a n H H') : At K H' e v := h.mono fun _ _ t => s.tup hs t
theorem seqT_updL {K : PySem.W.Frag} {H : Hp} {p : Addr} {ys : List V} {D : Addr} {xs : List V} {o : HO} (t : SqT K H p ys) (hD : H D = some (.lst xs)) : SqT K (upd H D o) p ys := by
  rcases t with (t | ⟨o', t⟩) | t
  · have np : p ≠ D := fun e => by
      rw [e, hD] at t
      cases t
    exact .inl (.inl (by rw [upd_ne np]; exact t))
  · have np : p ≠ D := fun e => by
      rw [e, hD] at t
      cases t
    exact .inl (.inr ⟨o', by rw [upd_ne np]; exact t⟩)
  · exact .inr t
theorem At.updL {K : PySem.W.Frag} {H : Hp} {D : Addr} {xs : List V} {o : HO} {e : Ex} {v : V} (h : At K H e v) (hD : H D = some (.lst xs)) : At K (upd H D o) e v := h.mono fun _ _ t => seqT_updL t hD
def binW : List Str := ["or", "and", "=", "!=", "<", "<=", ">", ">=", "+", "-", "*", "mod", "min", "max"]
def logW : List Str := ["or", "and", "=", "!=", "<", "<=", ">", ">="]
def unW : List Str := ["neg", "not"]
def Wf (ns : List Str) : Ex → Prop
  | .int n => 0 ≤ n ∧ n ≤ 999999
  | .name x => x ∈ ns
  | .un w a => w ∈ unW ∧ Wf ns a
  | .bin w a b => w ∈ binW ∧ Wf ns a ∧ Wf ns b
  | .ite a b c => Wf ns a ∧ Wf ns b ∧ Wf ns c
def b2i (b : Bool) : Int := if b then 1 else 0
/-- whether a connection or a comparison holds -/
def hoE (w : Str) (x y : Int) : Bool :=
  if w = "or" then decide (x ≠ 0) || decide (y ≠ 0) else if w = "and" then decide (x ≠ 0) && decide (y ≠ 0) else if w = "=" then decide (x = y) else if w = "!=" then decide (x ≠ y)
  else if w = "<" then decide (x < y) else if w = "<=" then decide (x ≤ y) else if w = ">" then decide (x > y) else decide (x ≥ y)
def caE (w : Str) (x y : Int) : Int :=
  if w = "+" then x + y else if w = "-" then x - y else if w = "*" then x * y else if w = "min" then (if y < x then y else x) else if w = "max" then (if y > x then y else x) else if y ≠ 0 then x.fmod y else 0
def opE (w : Str) (x y : Int) : Int := if w ∈ logW then b2i (hoE w x y) else caE w x y
def evE (ρ : Str → Int) : Ex → Int
  | .int n => n
  | .name x => ρ x
  | .un w a => if w = "neg" then -evE ρ a else b2i (decide (evE ρ a = 0))
  | .bin w a b => opE w (evE ρ a) (evE ρ b)
  | .ite a b c => if evE ρ a ≠ 0 then evE ρ b else evE ρ c
theorem pow_sq {x : Int} {m : Nat} (h : x.natAbs < 2 ^ m) (k : m ≤ n) : x.natAbs < 2 ^ n := Nat.lt_of_lt_of_le h (Nat.pow_le_pow_right (by decide) k)
theorem b2i_lt {b : Bool} {m : Nat} (h : 0 < m) : (b2i b).natAbs < 2 ^ m := by
  have : 2 ≤ 2 ^ m := by
    have := Nat.pow_le_pow_right (n := 2) (by decide) h
    simpa using this
  cases b <;> simp [b2i] <;> omega
theorem opE_lt {w : Str} {x y : Int} {m : Nat} (hm : 0 < m) (hx : x.natAbs < 2 ^ m) (hy : y.natAbs < 2 ^ m) : (opE w x y).natAbs < 2 ^ (m + m) := by
  have h1 : 2 ^ m ≤ 2 ^ (m + m) := Nat.pow_le_pow_right (by decide) (by omega)
  have h2 : 2 ^ m + 2 ^ m ≤ 2 ^ (m + m) := by
    rw [Nat.pow_add]
    have h3 : 2 ≤ 2 ^ m := by
      have := Nat.pow_le_pow_right (n := 2) (by decide) hm
      simpa using this
    have h4 := Nat.mul_le_mul_right (2 ^ m) h3
    omega
  unfold opE
  split
  · exact b2i_lt (by omega)
  · unfold caE
    split
    · omega
    · split
      · omega
      · split
        · exact wide_lt hx hy
        · split
          · split <;> omega
          · split
            · split <;> omega
            · split
              · rename_i hy0
                have h5 : (x.fmod y).natAbs < y.natAbs := by
                  rcases Int.lt_or_gt_of_ne hy0 with g | g
                  · have e : x.fmod y = -((-x).fmod (-y)) := by rw [Int.neg_fmod_neg, Int.neg_neg]
                    have a1 := Int.fmod_nonneg_of_pos (-x) (show 0 < -y by omega)
                    have a2 := Int.fmod_lt_of_pos (-x) (show 0 < -y by omega)
                    rw [e]
                    omega
                  · have a1 := Int.fmod_lt_of_pos x g
                    have a2 := Int.fmod_nonneg_of_pos x g
                    omega
                omega
              · omega
/-- how large a value may be -/
def bnd (d : Nat) : Nat := 21 * 2 ^ d
theorem bnd_pos (d : Nat) : 0 < bnd d := Nat.mul_pos (by decide) (Nat.pow_pos (by decide))
theorem bnd_succ (d : Nat) : bnd (d + 1) = bnd d + bnd d := by
  unfold bnd
  rw [Nat.pow_succ]
  omega
theorem bnd_mono {a b : Nat} (h : a ≤ b) : bnd a ≤ bnd b := Nat.mul_le_mul_left _ (Nat.pow_le_pow_right (by decide) h)
theorem evE_lt {ρ : Str → Int} {ns : List Str} (hρ : ∀ x ∈ ns, (ρ x).natAbs ≤ 1000) : ∀ {e : Ex}, Wf ns e → (evE ρ e).natAbs < 2 ^ bnd e.dep
  | .int n, h => by
    have h1 : n.natAbs < 2 ^ 21 := by
      have := h.1
      have := h.2
      omega
    exact h1
  | .name x, h => by
    have h1 : (ρ x).natAbs < 2 ^ 21 := by
      have := hρ x h
      omega
    exact h1
  | .un w a, h => by
    have ih := evE_lt hρ h.2
    unfold evE
    show _ < 2 ^ bnd (a.dep + 1)
    split
    · rw [Int.natAbs_neg]
      exact pow_sq ih (bnd_mono (by omega))
    · exact b2i_lt (bnd_pos _)
  | .bin w a b, h => by
    have ia := pow_sq (evE_lt hρ h.2.1) (bnd_mono (Nat.le_max_left a.dep b.dep))
    have ib := pow_sq (evE_lt hρ h.2.2) (bnd_mono (Nat.le_max_right a.dep b.dep))
    show (opE w (evE ρ a) (evE ρ b)).natAbs < 2 ^ bnd (max a.dep b.dep + 1)
    rw [bnd_succ]
    exact opE_lt (bnd_pos _) ia ib
  | .ite a b c, h => by
    have ib := evE_lt hρ h.2.1
    have ic := evE_lt hρ h.2.2
    unfold evE
    show _ < 2 ^ bnd (max a.dep (max b.dep c.dep) + 1)
    split
    · exact pow_sq ib (bnd_mono (by omega))
    · exact pow_sq ic (bnd_mono (by omega))
theorem bnd_log {z : Int} {d : Nat} (h : z.natAbs < 2 ^ bnd d) (hd : d ≤ 6) : z.natAbs.log2 < 1500 := by
  have hb : bnd d ≤ 1344 := Nat.le_trans (bnd_mono hd) (by decide)
  by_cases h0 : z.natAbs = 0
  · rw [h0]
    decide
  · have := (Nat.log2_lt h0).mpr h
    omega
/-! ### tests of texts -/
theorem txt_eq {x y : Str} : decide (V.str x = V.str y) = decide (x = y) := by
  by_cases e : x = y
  · rw [e, decide_eq_true rfl, decide_eq_true rfl]
  · rw [decide_eq_false e, decide_eq_false fun z => e (V.str.inj z)]
theorem iteN {x y : Str} {p q : Prop} (h : x ≠ y) (hq : q) : if decide (V.str x = V.str y) = true then p else q := by
  rw [txt_eq, decide_eq_false h]
  exact hq
theorem iteY {x : Str} {p q : Prop} (hp : p) : if decide (V.str x = V.str x) = true then p else q := by
  rw [decide_eq_true rfl]
  exact hp
theorem ite3 {x y : Str} {p q : Prop} (hp : x = y → p) (hq : x ≠ y → q) : if decide (V.str x = V.str y) = true then p else q := by
  rw [txt_eq]
  by_cases e : x = y
  · rw [decide_eq_true e]
    exact hp e
  · rw [decide_eq_false e]
    exact hq e
theorem int_ne {x y : Int} : (!decide (V.int x = V.int y)) = decide (x ≠ y) := by
  by_cases e : x = y
  · rw [e]
    simp
  · rw [decide_eq_true e, decide_eq_false fun z => e (V.int.inj z)]
    rfl
theorem int_eq {x y : Int} : decide (V.int x = V.int y) = decide (x = y) := by
  by_cases e : x = y
  · rw [e, decide_eq_true rfl, decide_eq_true rfl]
  · rw [decide_eq_false e, decide_eq_false fun z => e (V.int.inj z)]
section
variable {P : Program} {w : World} {K : PySem.W.Frag} {mg : Str → Option Value} {base : Heap}

theorem scHol : FnScope ["sign", "first", "second"] ["sign", "first", "second"] (defScope sHol) := ⟨rfl, rfl, rfl, by decide +kernel, rfl, by decide +kernel, by decide +kernel⟩
def spHol : Sp := fun vs H Q _ => ∃ (s : Str) (x y : Int), vs = [.str s, .int x, .int y] ∧ Q (.bl (hoE s x y)) H
theorem ok_hol {f : Addr} {fd : FuncData} {k : Nat} (F : Fun K "holds" "holds" sHol f fd) : FnOk P w K mg base CX0 (k + 1) f fd ["sign", "first", "second"] spHol := by
  refine F.ok scHol (fun vs H Q E h => ?_) (fun cdv A outer s H vs Q E hr h => ?_)
  · obtain ⟨s, x, y, rfl, _⟩ := h
    rfl
  · obtain ⟨g, x, y, rfl, q⟩ := h
    refine ⟨_, (pss_cons (ps_if (pt_cmpR op_eq (pv 0) (pe_str) (nomark _)) (pss_one (ps_ret (pe_or (pe_cmpR op_ne (pv 1) pe_int (nomark _)) (pe_one (pe_cmpR op_ne (pv 2) pe_int (nomark _)))))) pss_nil)
        (pss_cons (ps_if (pt_cmpR op_eq (pv 0) (pe_str) (nomark _)) (pss_one (ps_ret (pe_and (pe_cmpR op_ne (pv 1) pe_int (nomark _)) (pe_one (pe_cmpR op_ne (pv 2) pe_int (nomark _)))))) pss_nil)
        (pss_cons (ps_if (pt_cmpR op_eq (pv 0) (pe_str) (nomark _)) (pss_one (ps_ret (pe_cmpR op_eq (pv 1) (pv 2) (nomark _)))) pss_nil)
        (pss_cons (ps_if (pt_cmpR op_eq (pv 0) (pe_str) (nomark _)) (pss_one (ps_ret (pe_cmpR op_ne (pv 1) (pv 2) (nomark _)))) pss_nil)
        (pss_cons (ps_if (pt_cmpR op_eq (pv 0) (pe_str) (nomark _)) (pss_one (ps_ret (pe_cmpR op_lt (pv 1) (pv 2) (nomark _)))) pss_nil)
        (pss_cons (ps_if (pt_cmpR op_eq (pv 0) (pe_str) (nomark _)) (pss_one (ps_ret (pe_cmpR op_le (pv 1) (pv 2) (nomark _)))) pss_nil)
        (pss_cons (ps_if (pt_cmpR op_eq (pv 0) (pe_str) (nomark _)) (pss_one (ps_ret (pe_cmpR op_gt (pv 1) (pv 2) (nomark _)))) pss_nil)
        (pss_one (ps_ret (pe_cmpR op_ge (pv 1) (pv 2) (nomark _))))))))))), ?_⟩
    unfold hoE at q
    refine ⟨_, rfl, rfl, _, rfl, ite3 (fun e => ?_) (fun e => ?_)⟩
    · rw [if_pos e] at q
      refine ⟨_, rfl, rfl, _, rfl, ?_⟩
      rw [int_ne]
      by_cases h0 : x ≠ 0
      · rw [decide_eq_true h0] at q ⊢
        exact iteT q
      · rw [decide_eq_false h0] at q ⊢
        refine iteF ⟨_, rfl, rfl, ?_⟩
        rw [int_ne]
        exact q
    · rw [if_neg e] at q
      refine ⟨_, rfl, rfl, _, rfl, ite3 (fun e => ?_) (fun e => ?_)⟩
      · rw [if_pos e] at q
        refine ⟨_, rfl, rfl, _, rfl, ?_⟩
        rw [int_ne]
        by_cases h0 : x ≠ 0
        · rw [decide_eq_true h0] at q ⊢
          refine iteT ⟨_, rfl, rfl, ?_⟩
          rw [int_ne]
          exact q
        · rw [decide_eq_false h0] at q ⊢
          exact iteF q
      · rw [if_neg e] at q
        refine ⟨_, rfl, rfl, _, rfl, ite3 (fun e => ?_) (fun e => ?_)⟩
        · rw [if_pos e] at q
          refine ⟨_, rfl, _, rfl, rfl, ?_⟩
          rw [int_eq]
          exact q
        · rw [if_neg e] at q
          refine ⟨_, rfl, rfl, _, rfl, ite3 (fun e => ?_) (fun e => ?_)⟩
          · rw [if_pos e] at q
            refine ⟨_, rfl, _, rfl, rfl, ?_⟩
            rw [int_ne]
            exact q
          · rw [if_neg e] at q
            refine ⟨_, rfl, rfl, _, rfl, ite3 (fun e => ?_) (fun e => ?_)⟩
            · rw [if_pos e] at q
              exact ⟨_, rfl, _, rfl, _, _, rfl, rfl, q⟩
            · rw [if_neg e] at q
              refine ⟨_, rfl, rfl, _, rfl, ite3 (fun e => ?_) (fun e => ?_)⟩
              · rw [if_pos e] at q
                exact ⟨_, rfl, _, rfl, _, _, rfl, rfl, q⟩
              · rw [if_neg e] at q
                refine ⟨_, rfl, rfl, _, rfl, ite3 (fun e => ?_) (fun e => ?_)⟩
                · rw [if_pos e] at q
                  exact ⟨_, rfl, _, rfl, _, _, rfl, rfl, q⟩
                · rw [if_neg e] at q
                  exact ⟨_, rfl, _, rfl, _, _, rfl, rfl, q⟩

theorem scCal : FnScope ["sign", "first", "second"] ["sign", "first", "second"] (defScope sCal) := ⟨rfl, rfl, rfl, by decide +kernel, rfl, by decide +kernel, by decide +kernel⟩
def spCal : Sp := fun vs H Q _ => ∃ (s : Str) (x y : Int) (m : Nat), vs = [.str s, .int x, .int y] ∧ x.natAbs < 2 ^ m ∧ y.natAbs < 2 ^ m ∧ 0 < m ∧ m ≤ 100000 ∧ Q (.int (caE s x y)) H
theorem ok_cal {f : Addr} {fd : FuncData} {k : Nat} (F : Fun K "calculate" "calculate" sCal f fd) (mmi : mg "min" = none) (mma : mg "max" = none) : FnOk P w K mg base CX0 (k + 1) f fd ["sign", "first", "second"] spCal := by
  refine F.ok scCal (fun vs H Q E h => ?_) (fun cdv A outer s H vs Q E hr h => ?_)
  · obtain ⟨s, x, y, m, rfl, _⟩ := h
    rfl
  · obtain ⟨g, x, y, m, rfl, hx, hy, h0, hm, q⟩ := h
    refine ⟨_, (pss_cons (ps_if (pt_cmpR op_eq (pv 0) (pe_str) (nomark _)) (pss_one (ps_ret (pe_op op_add (pv 1) (pv 2)))) pss_nil)
        (pss_cons (ps_if (pt_cmpR op_eq (pv 0) (pe_str) (nomark _)) (pss_one (ps_ret (pe_op op_sub (pv 1) (pv 2)))) pss_nil)
        (pss_cons (ps_if (pt_cmpR op_eq (pv 0) (pe_str) (nomark _)) (pss_one (ps_ret (pe_op op_mulW (pv 1) (pv 2)))) pss_nil)
        (pss_cons (ps_if (pt_cmpR op_eq (pv 0) (pe_str) (nomark _)) (pss_one (ps_ret (pe_callB (call_min2 rfl) (by rfl) mmi (by decide +kernel) (pa_cons (pv 1) (pa_cons (pv 2) pa_nil))))) pss_nil)
        (pss_cons (ps_if (pt_cmpR op_eq (pv 0) (pe_str) (nomark _)) (pss_one (ps_ret (pe_callB (call_max2 rfl) (by rfl) mma (by decide +kernel) (pa_cons (pv 1) (pa_cons (pv 2) pa_nil))))) pss_nil)
        (pss_one (ps_ret (pe_ifExp (pt_cmpR op_ne (pv 2) (pe_int) (nomark _)) (pe_op op_modN (pv 1) (pv 2)) (pe_int))))))))), ?_⟩
    unfold caE at q
    refine ⟨_, rfl, rfl, _, rfl, ite3 (fun e => ?_) (fun e => ?_)⟩
    · rw [if_pos e] at q
      exact ⟨_, rfl, _, rfl, _, _, rfl, rfl, q⟩
    · rw [if_neg e] at q
      refine ⟨_, rfl, rfl, _, rfl, ite3 (fun e => ?_) (fun e => ?_)⟩
      · rw [if_pos e] at q
        exact ⟨_, rfl, _, rfl, _, _, rfl, rfl, q⟩
      · rw [if_neg e] at q
        refine ⟨_, rfl, rfl, _, rfl, ite3 (fun e => ?_) (fun e => ?_)⟩
        · rw [if_pos e] at q
          exact ⟨_, rfl, _, rfl, _, _, rfl, rfl, wide_mul hx hy h0 h0 (by omega), q⟩
        · rw [if_neg e] at q
          refine ⟨_, rfl, rfl, _, rfl, ite3 (fun e => ?_) (fun e => ?_)⟩
          · rw [if_pos e] at q
            exact ⟨_, rfl, _, rfl, _, _, rfl, q⟩
          · rw [if_neg e] at q
            refine ⟨_, rfl, rfl, _, rfl, ite3 (fun e => ?_) (fun e => ?_)⟩
            · rw [if_pos e] at q
              exact ⟨_, rfl, _, rfl, _, _, rfl, q⟩
            · rw [if_neg e] at q
              refine ⟨_, rfl, rfl, _, rfl, ?_⟩
              rw [int_ne]
              by_cases z : y ≠ 0
              · rw [if_pos z] at q
                rw [decide_eq_true z]
                exact iteT ⟨_, rfl, _, rfl, _, _, rfl, rfl, z, q⟩
              · rw [if_neg z] at q
                rw [decide_eq_false z]
                exact iteF q

end
end Lim
set_option maxHeartbeats 2000000
namespace Lim
open PySem PySem.Spec PyProof.Rows L2
section
variable {P : Program} {w : World} {K : PySem.W.Frag} {mg : Str → Option Value} {base : Heap}

theorem scEva : FnScope ["expression", "values", "kind", "first", "second"] ["expression", "values"] (defScope sEva) := ⟨rfl, rfl, rfl, by decide +kernel, rfl, by decide +kernel, by decide +kernel⟩
/-- the values of the names -/
def EnvD (H : Hp) (vd : Addr) (ns : List Str) (ρ : Str → Int) : Prop := ∃ kvs : List (Key × V), H vd = some (.dK kvs) ∧ ∀ x ∈ ns, valV kvs (.inr x) = some (.int (ρ x)) ∧ (ρ x).natAbs ≤ 1000
def spEva (K : PySem.W.Frag) (d : Nat) : Sp := fun vs H Q _ => ∃ (v : V) (e : Ex) (vd : Addr) (ns : List Str) (ρ : Str → Int), vs = [v, .ref vd] ∧ At K H e v ∧ Wf ns e ∧ e.dep < d ∧ e.dep ≤ 6 ∧ EnvD H vd ns ρ ∧ Q (.int (evE ρ e)) H
/-- the ranks of the operators -/
structure RkF (K : PySem.W.Frag) (w : World) (dR : Addr) : Prop where
  d : ∃ es n, KDict K w dR es n
  rk : ∀ z ∈ binW, ∃ r, PySem.W.nsIn K dR z = some r ∧ ((z ∈ logW ∧ ∃ i t, r = some (.int i t) ∧ i ≤ 4) ∨ (¬ z ∈ logW ∧ (r = none ∨ ∃ i t, r = some (.int i t) ∧ 4 < i)))
theorem bin_ne : ∀ z ∈ binW, z ≠ "int" ∧ z ≠ "name" ∧ z ≠ "if" ∧ z ≠ "not" ∧ z ≠ "neg" := by decide +kernel
theorem un_is : ∀ z ∈ unW, z = "neg" ∨ z = "not" := by decide +kernel
theorem ok_eva {f dR fH fC : Addr} {fd dH dC : FuncData} {t1 t2 : Tok} {k : Nat} (F : Fun K "evaluate" "evaluate" sEva f fd) (gE : mg "evaluate" = some (.ref f)) (kE : PySem.W.keepIn K (.ref f) = true) (bE : Binds K fd ["expression", "values"] [])
    (mi : mg "int" = none) (R : RkF K w dR) (gR : mg "PAIR_RANKS" = some (.ref dR)) (gN : mg "NEGATIVE_RANK" = some (.int 7 t1)) (gC : mg "COMPARISON_RANK" = some (.int 4 t2))
    (GH : FnOk P w K mg base CX0 (k + 1) fH dH ["sign", "first", "second"] spHol) (kH : PySem.W.keepIn K (.ref fH) = true) (bH : Binds K dH ["sign", "first", "second"] []) (gH : mg "holds" = some (.ref fH))
    (GC : FnOk P w K mg base CX0 (k + 1) fC dC ["sign", "first", "second"] spCal) (kC : PySem.W.keepIn K (.ref fC) = true) (bC : Binds K dC ["sign", "first", "second"] []) (gC' : mg "calculate" = some (.ref fC)) :
    ∀ d : Nat, FnOk P w K mg base CX0 (k + 1 + d) f fd ["expression", "values"] (spEva K d) := by
  intro d
  induction d with
  | zero =>
    exact ⟨fun vs H Q E h => by obtain ⟨_, _, _, _, _, rfl, _⟩ := h; rfl, fun A outer s H ar us vs Q E hr e0 b va h => by
      obtain ⟨_, _, _, _, _, _, _, _, hd, _⟩ := h
      exact absurd hd (Nat.not_lt_zero _)⟩
  | succ d ih =>
    have GE := ih
    have GH : FnOk P w K mg base CX0 (k + 1 + d) fH dH ["sign", "first", "second"] spHol := GH.mono (by omega)
    have GC : FnOk P w K mg base CX0 (k + 1 + d) fC dC ["sign", "first", "second"] spCal := GC.mono (by omega)
    refine F.ok scEva (fun vs H Q E h => ?_) (fun cdv A outer s H vs Q E hr h => ?_)
    · obtain ⟨_, _, _, _, _, rfl, _⟩ := h
      rfl
    · obtain ⟨v, e, vd, ns, ρ, rfl, hA, hW, hd, h6, hE, q⟩ := h
      have gC := gC
      refine ⟨_, (pss_cons (ps_set (i := 2) scEva.nd rfl (.inl rfl) (pe_ix ix_tup (pv 0) (pe_int) (fun _ _ => rfl)))
        (pss_cons (ps_if (pt_cmpR op_eq (pv 2) (pe_str) (nomark _)) (pss_one (ps_ret (pe_ix ix_tup (pv 0) (pe_int) (fun _ _ => rfl)))) pss_nil)
        (pss_cons (ps_if (pt_cmpR op_eq (pv 2) (pe_str) (nomark _)) (pss_one (ps_ret (pe_dget (hu_of hr) (pv 1) (pe_ix ix_tup (pv 0) (pe_int) (fun _ _ => rfl)) (fun _ _ => rfl)))) pss_nil)
        (pss_cons (ps_set (i := 3) scEva.nd rfl (.inl rfl) (pe_call GE hr (by rfl) gE kE bE .nil pass0 (pa_cons (pe_ix ix_tup (pv 0) (pe_int) (fun _ _ => rfl)) (pa_cons (pv 1) pa_nil))))
        (pss_cons (ps_if (pt_cmpR op_eq (pv 2) (pe_str) (nomark _)) (pss_one (ps_ret (pe_call GE hr (by rfl) gE kE bE .nil pass0 (pa_cons (pe_ifExp (pt_cmpR op_ne (pv 3) (pe_int) (nomark _)) (pe_ix ix_tup (pv 0) (pe_int) (fun _ _ => rfl)) (pe_ix ix_tup (pv 0) (pe_int) (fun _ _ => rfl))) (pa_cons (pv 1) pa_nil))))) pss_nil)
        (pss_cons (ps_if (pt_cmpR op_eq (pv 2) (pe_str) (nomark _)) (pss_one (ps_ret (pe_callTy call_int1 (by rfl) mi (by decide +kernel) (pa_cons (pe_cmpR op_eq (pv 3) pe_int (nomark _)) pa_nil)))) pss_nil)
        (pss_cons (ps_if (pt_cmpR op_eq (pv 2) (pe_str) (nomark _)) (pss_one (ps_ret (pe_un un_neg (pv 3)))) pss_nil)
        (pss_cons (ps_set (i := 4) scEva.nd rfl (.inl rfl) (pe_call GE hr (by rfl) gE kE bE .nil pass0 (pa_cons (pe_ix ix_tup (pv 0) (pe_int) (fun _ _ => rfl)) (pa_cons (pv 1) pa_nil))))
        (pss_cons (ps_if (pt_cmpR op_le (pe_kget (pe_glob (v := .ref dR) (by rfl) gR rfl) (pv 2) (pe_glob (v := .int 7) (by rfl) gN ⟨_, rfl⟩) ⟨rfl, rfl, rfl, rfl⟩) (pe_glob (v := .int 4) (by rfl) gC ⟨_, rfl⟩) (nomark _)) (pss_one (ps_ret (pe_callTy call_int1 (by rfl) mi (by decide +kernel) (pa_cons (pe_call GH hr (by rfl) gH kH bH .nil pass0 (pa_cons (pv 2) (pa_cons (pv 3) (pa_cons (pv 4) pa_nil)))) pa_nil)))) pss_nil)
        (pss_one (ps_ret (pe_call GC hr (by rfl) gC' kC bC .nil pass0 (pa_cons (pv 2) (pa_cons (pv 3) (pa_cons (pv 4) pa_nil))))))))))))))), ?_⟩
      cases e with
      | int n =>
        obtain ⟨p, rfl, hT⟩ := hA
        exact ⟨_, rfl, p, _, 0, _, rfl, rfl, hT, atI_nat (j := 0) rfl, _, rfl, rfl, _, rfl, iteY ⟨_, rfl, p, _, 1, _, rfl, rfl, hT, atI_nat (j := 1) rfl, q⟩⟩
      | name x =>
        obtain ⟨p, rfl, hT⟩ := hA
        obtain ⟨kvs, hK, hk⟩ := hE
        have hx := (hk x hW).1
        refine ⟨_, rfl, p, _, 0, _, rfl, rfl, hT, atI_nat (j := 0) rfl, _, rfl, rfl, _, rfl, iteN (by decide +kernel) ⟨_, rfl, rfl, _, rfl, iteY ⟨_, rfl, _, rfl, p, _, 1, _, rfl, rfl, hT, atI_nat (j := 1) rfl, vd, _, rfl, ?_, q⟩⟩⟩
        have g := DGet.k (k := Sum.inr x) hK
        rw [hx] at g
        exact g
      | un u a =>
        obtain ⟨p, x, rfl, hT, ha⟩ := hA
        obtain ⟨hu, ha2⟩ := hW
        have hda : a.dep + 1 < d + 1 := hd
        have hd6 : a.dep + 1 ≤ 6 := h6
        refine ⟨_, rfl, p, _, 0, _, rfl, rfl, hT, atI_nat (j := 0) rfl, _, rfl, rfl, _, rfl, iteN ?_ ⟨_, rfl, rfl, _, rfl, iteN ?_ ⟨_, rfl, p, _, 1, _, rfl, rfl, hT, atI_nat (j := 1) rfl, _, rfl, x, a, vd, ns, ρ, rfl, ha, ha2, by omega, by omega, hE, ?_⟩⟩⟩
        · rcases un_is u hu with rfl | rfl <;> decide +kernel
        · rcases un_is u hu with rfl | rfl <;> decide +kernel
        · rcases un_is u hu with rfl | rfl
          · refine ⟨_, rfl, rfl, _, rfl, iteN (by decide +kernel) ⟨_, rfl, rfl, _, rfl, iteN (by decide +kernel) ⟨_, rfl, rfl, _, rfl, iteY ⟨_, rfl, _, rfl, ?_⟩⟩⟩⟩
            unfold evE at q
            rw [if_pos rfl] at q
            exact q
          · refine ⟨_, rfl, rfl, _, rfl, iteN (by decide +kernel) ⟨_, rfl, rfl, _, rfl, iteY ⟨_, rfl, rfl, ?_⟩⟩⟩
            rw [int_eq]
            unfold evE at q
            rw [if_neg (by decide +kernel)] at q
            exact .inr ⟨_, rfl, q⟩
      | ite a b c =>
        obtain ⟨p, x, y, z, rfl, hT, ha, hb, hc⟩ := hA
        obtain ⟨wa, wb, wc⟩ := hW
        have hda : max a.dep (max b.dep c.dep) + 1 < d + 1 := hd
        have hd6 : max a.dep (max b.dep c.dep) + 1 ≤ 6 := h6
        refine ⟨_, rfl, p, _, 0, _, rfl, rfl, hT, atI_nat (j := 0) rfl, _, rfl, rfl, _, rfl, iteN (by decide +kernel) ⟨_, rfl, rfl, _, rfl, iteN (by decide +kernel) ⟨_, rfl, p, _, 1, _, rfl, rfl, hT, atI_nat (j := 1) rfl, _, rfl, x, a, vd, ns, ρ, rfl, ha, wa, by omega, by omega, hE, ?_⟩⟩⟩
        refine ⟨_, rfl, rfl, _, rfl, iteY ⟨_, rfl, rfl, _, rfl, ?_⟩⟩
        rw [int_ne]
        unfold evE at q
        by_cases h0 : evE ρ a ≠ 0
        · rw [if_pos h0] at q
          rw [decide_eq_true h0]
          exact iteT ⟨_, rfl, p, _, 2, _, rfl, rfl, hT, atI_nat (j := 2) rfl, _, rfl, y, b, vd, ns, ρ, rfl, hb, wb, by omega, by omega, hE, q⟩
        · rw [if_neg h0] at q
          rw [decide_eq_false h0]
          exact iteF ⟨_, rfl, p, _, 3, _, rfl, rfl, hT, atI_nat (j := 3) rfl, _, rfl, z, c, vd, ns, ρ, rfl, hc, wc, by omega, by omega, hE, q⟩
      | bin u a b =>
        obtain ⟨p, x, y, rfl, hT, ha, hb⟩ := hA
        obtain ⟨hu, wa, wb⟩ := hW
        have hda : max a.dep b.dep + 1 < d + 1 := hd
        have hd6 : max a.dep b.dep + 1 ≤ 6 := h6
        obtain ⟨n1, n2, n3, n4, n5⟩ := bin_ne u hu
        refine ⟨_, rfl, p, _, 0, _, rfl, rfl, hT, atI_nat (j := 0) rfl, _, rfl, rfl, _, rfl, iteN n1 ⟨_, rfl, rfl, _, rfl, iteN n2 ⟨_, rfl, p, _, 1, _, rfl, rfl, hT, atI_nat (j := 1) rfl, _, rfl, x, a, vd, ns, ρ, rfl, ha, wa, by omega, by omega, hE, ?_⟩⟩⟩
        refine ⟨_, rfl, rfl, _, rfl, iteN n3 ⟨_, rfl, rfl, _, rfl, iteN n4 ⟨_, rfl, rfl, _, rfl, iteN n5 ⟨_, rfl, p, _, 2, _, rfl, rfl, hT, atI_nat (j := 2) rfl, _, rfl, y, b, vd, ns, ρ, rfl, hb, wb, by omega, by omega, hE, ?_⟩⟩⟩⟩
        have hρ : ∀ x ∈ ns, (ρ x).natAbs ≤ 1000 := by
          obtain ⟨kvs, _, hk⟩ := hE
          exact fun x hx => (hk x hx).2
        have la := pow_sq (evE_lt hρ wa) (bnd_mono (show a.dep ≤ 6 by omega))
        have lb := pow_sq (evE_lt hρ wb) (bnd_mono (show b.dep ≤ 6 by omega))
        obtain ⟨es, n, D⟩ := R.d
        obtain ⟨r, hr1, hr2⟩ := R.rk u hu
        unfold evE opE at q
        rcases hr2 with ⟨hl, i, t, rfl, hi⟩ | ⟨hl, h⟩
        · rw [if_pos hl] at q
          refine ⟨dR, es, n, rfl, D, _, rfl, u, _, rfl, hr1, .inr ⟨_, .int i, rfl, ⟨t, rfl⟩, _, _, rfl, rfl, _, rfl, ?_⟩⟩
          rw [decide_eq_true hi]
          refine iteT ⟨_, rfl, _, rfl, _, rfl, u, _, _, rfl, .inr ⟨_, rfl, ?_⟩⟩
          exact q
        · rw [if_neg hl] at q
          have fin : ∀ j : Int, 4 < j → (if decide (j ≤ 4) = true then True else True) ∧ ¬ j ≤ 4 := fun j hj => ⟨by split <;> trivial, by omega⟩
          rcases h with rfl | ⟨i, t, rfl, hi⟩
          · refine ⟨dR, es, n, rfl, D, _, rfl, u, _, rfl, hr1, .inl ⟨rfl, _, _, rfl, rfl, _, rfl, ?_⟩⟩
            rw [decide_eq_false (show ¬ ((7 : Int) ≤ 4) by decide)]
            exact iteF ⟨_, rfl, _, rfl, _, rfl, u, _, _, bnd 6, rfl, la, lb, bnd_pos _, by decide, q⟩
          · refine ⟨dR, es, n, rfl, D, _, rfl, u, _, rfl, hr1, .inr ⟨_, .int i, rfl, ⟨t, rfl⟩, _, _, rfl, rfl, _, rfl, ?_⟩⟩
            rw [decide_eq_false (show ¬ (i ≤ 4) by omega)]
            exact iteF ⟨_, rfl, _, rfl, _, rfl, u, _, _, bnd 6, rfl, la, lb, bnd_pos _, by decide, q⟩
end
end Lim
set_option maxHeartbeats 4000000
namespace Lim
open PySem PySem.Spec PyProof.Rows L2
abbrev sTwo : Stmt := topS 14
abbrev sVal : Stmt := topS 15
theorem ifF {b : Bool} {p q : Prop} (h : b = false) (hq : q) : if b = true then p else q := by
  rw [h]
  exact hq
theorem ifT {b : Bool} {p q : Prop} (h : b = true) (hp : p) : if b = true then p else q := by
  rw [h]
  exact hp

theorem oe_or (x y : Int) : opE "or" x y = b2i (decide (x ≠ 0) || decide (y ≠ 0)) := by
  unfold opE hoE
  rw [if_pos (show ("or" : Str) ∈ logW by decide +kernel), if_pos rfl]
theorem oe_and (x y : Int) : opE "and" x y = b2i (decide (x ≠ 0) && decide (y ≠ 0)) := by
  unfold opE hoE
  rw [if_pos (show ("and" : Str) ∈ logW by decide +kernel), if_neg (by decide +kernel), if_pos rfl]
theorem oe_eq (x y : Int) : opE "=" x y = b2i (decide (x = y)) := by
  unfold opE hoE
  rw [if_pos (show ("=" : Str) ∈ logW by decide +kernel), if_neg (by decide +kernel), if_neg (by decide +kernel), if_pos rfl]
theorem oe_ne (x y : Int) : opE "!=" x y = b2i (decide (x ≠ y)) := by
  unfold opE hoE
  rw [if_pos (show ("!=" : Str) ∈ logW by decide +kernel), if_neg (by decide +kernel), if_neg (by decide +kernel), if_neg (by decide +kernel), if_pos rfl]
theorem oe_lt (x y : Int) : opE "<" x y = b2i (decide (x < y)) := by
  unfold opE hoE
  rw [if_pos (show ("<" : Str) ∈ logW by decide +kernel), if_neg (by decide +kernel), if_neg (by decide +kernel), if_neg (by decide +kernel), if_neg (by decide +kernel), if_pos rfl]
theorem oe_le (x y : Int) : opE "<=" x y = b2i (decide (x ≤ y)) := by
  unfold opE hoE
  rw [if_pos (show ("<=" : Str) ∈ logW by decide +kernel), if_neg (by decide +kernel), if_neg (by decide +kernel), if_neg (by decide +kernel), if_neg (by decide +kernel), if_neg (by decide +kernel), if_pos rfl]
theorem oe_gt (x y : Int) : opE ">" x y = b2i (decide (x > y)) := by
  unfold opE hoE
  rw [if_pos (show (">" : Str) ∈ logW by decide +kernel), if_neg (by decide +kernel), if_neg (by decide +kernel), if_neg (by decide +kernel), if_neg (by decide +kernel), if_neg (by decide +kernel), if_neg (by decide +kernel), if_pos rfl]
theorem oe_ge (x y : Int) : opE ">=" x y = b2i (decide (x ≥ y)) := by
  unfold opE hoE
  rw [if_pos (show (">=" : Str) ∈ logW by decide +kernel), if_neg (by decide +kernel), if_neg (by decide +kernel), if_neg (by decide +kernel), if_neg (by decide +kernel), if_neg (by decide +kernel), if_neg (by decide +kernel), if_neg (by decide +kernel)]
theorem oe_add' (x y : Int) : opE "+" x y = x + y := by
  unfold opE caE
  rw [if_neg (show ¬ ("+" : Str) ∈ logW by decide +kernel), if_pos rfl]
theorem oe_sub' (x y : Int) : opE "-" x y = x - y := by
  unfold opE caE
  rw [if_neg (show ¬ ("-" : Str) ∈ logW by decide +kernel), if_neg (by decide +kernel), if_pos rfl]
theorem oe_mul' (x y : Int) : opE "*" x y = x * y := by
  unfold opE caE
  rw [if_neg (show ¬ ("*" : Str) ∈ logW by decide +kernel), if_neg (by decide +kernel), if_neg (by decide +kernel), if_pos rfl]
theorem oe_min' (x y : Int) : opE "min" x y = if y < x then y else x := by
  unfold opE caE
  rw [if_neg (show ¬ ("min" : Str) ∈ logW by decide +kernel), if_neg (by decide +kernel), if_neg (by decide +kernel), if_neg (by decide +kernel), if_pos rfl]
theorem oe_max' (x y : Int) : opE "max" x y = if y > x then y else x := by
  unfold opE caE
  rw [if_neg (show ¬ ("max" : Str) ∈ logW by decide +kernel), if_neg (by decide +kernel), if_neg (by decide +kernel), if_neg (by decide +kernel), if_neg (by decide +kernel), if_pos rfl]
theorem oe_mod' (x y : Int) : opE "mod" x y = if y ≠ 0 then x.fmod y else 0 := by
  unfold opE caE
  rw [if_neg (show ¬ ("mod" : Str) ∈ logW by decide +kernel), if_neg (by decide +kernel), if_neg (by decide +kernel), if_neg (by decide +kernel), if_neg (by decide +kernel), if_neg (by decide +kernel)]
theorem bl_bl {a b : Bool} : decide (V.bl a = V.bl b) = (a == b) := by cases a <;> cases b <;> rfl
theorem i1 {b : Bool} : (if b = true then (1 : Int) else 0) = b2i b := rfl
theorem l_and (x y : Int) : (if b2i (decide (y ≠ 0)) < b2i (decide (x ≠ 0)) then b2i (decide (y ≠ 0)) else b2i (decide (x ≠ 0))) = opE "and" x y := by
  rw [oe_and]
  cases decide (x ≠ 0) <;> cases decide (y ≠ 0) <;> rfl
theorem l_or (x y : Int) : (if b2i (decide (y ≠ 0)) > b2i (decide (x ≠ 0)) then b2i (decide (y ≠ 0)) else b2i (decide (x ≠ 0))) = opE "or" x y := by
  rw [oe_or]
  cases decide (x ≠ 0) <;> cases decide (y ≠ 0) <;> rfl
theorem not_dec {p q : Prop} [Decidable p] [Decidable q] (h : q ↔ ¬ p) : (decide p == false) = decide q := by
  by_cases hp : p
  · rw [decide_eq_true hp, decide_eq_false (fun z => h.mp z hp)]
    rfl
  · rw [decide_eq_false hp, decide_eq_true (h.mpr hp)]
    rfl
theorem beq_t {b : Bool} : (b == true) = b := by cases b <;> rfl
theorem two_sorted {x y : Int} {l : List Int} (h : l.Perm [x, y]) (hp : l.Pairwise (· ≤ ·)) : l = if y < x then [y, x] else [x, y] := by
  obtain ⟨a, b, rfl⟩ : ∃ a b, l = [a, b] := by
    have := h.length_eq
    match l, this with
    | [a, b], _ => exact ⟨a, b, rfl⟩
  have hab : a ≤ b := by
    have := (List.pairwise_cons.mp hp).1 b (by simp)
    exact this
  have ha : a = x ∨ a = y := by
    have := h.mem_iff (a := a)
    simpa using this
  have hb : b = x ∨ b = y := by
    have := h.mem_iff (a := b)
    simpa using this
  have hx : x = a ∨ x = b := by
    have := h.mem_iff (a := x)
    simpa using this
  have hy : y = a ∨ y = b := by
    have := h.mem_iff (a := y)
    simpa using this
  split
  · have e : a = y := by omega
    have e2 : b = x := by omega
    rw [e, e2]
  · have e : a = x := by omega
    have e2 : b = y := by omega
    rw [e, e2]
theorem fdiv_lt {x y : Int} {m : Nat} (hx : x.natAbs < 2 ^ m) (hy : y ≠ 0) : (x.fdiv y).natAbs < 2 ^ (m + 1) := by
  have e : x.fmod y = x - y * x.fdiv y := Int.fmod_def x y
  have h5 : (x.fmod y).natAbs < y.natAbs := by
    rcases Int.lt_or_gt_of_ne hy with g | g
    · have e : x.fmod y = -((-x).fmod (-y)) := by rw [Int.neg_fmod_neg, Int.neg_neg]
      have a1 := Int.fmod_nonneg_of_pos (-x) (show 0 < -y by omega)
      have a2 := Int.fmod_lt_of_pos (-x) (show 0 < -y by omega)
      rw [e]
      omega
    · have a1 := Int.fmod_lt_of_pos x g
      have a2 := Int.fmod_nonneg_of_pos x g
      omega
  generalize x.fdiv y = d at e ⊢
  generalize x.fmod y = r at e h5
  have h6 : (y * d).natAbs ≤ x.natAbs + r.natAbs := by omega
  rw [Int.natAbs_mul] at h6
  have h7 : d.natAbs ≤ x.natAbs + 1 := by
    apply Classical.byContradiction
    intro hc
    have h8 : y.natAbs * (x.natAbs + 2) ≤ y.natAbs * d.natAbs := Nat.mul_le_mul_left _ (by omega)
    have h9 : 1 * x.natAbs ≤ y.natAbs * x.natAbs := Nat.mul_le_mul_right _ (by omega)
    rw [Nat.mul_add] at h8
    omega
  rw [Nat.pow_succ]
  omega
section
variable {P : Program} {w : World} {K : PySem.W.Frag} {mg : Str → Option Value} {base : Heap}

theorem scTwo : FnScope ["operator", "first", "second"] ["operator", "first", "second"] (defScope sTwo) := ⟨rfl, rfl, rfl, by decide +kernel, rfl, by decide +kernel, by decide +kernel⟩
def spTwo : Sp := fun vs H Q _ => ∃ (s : Str) (x y : Int) (m : Nat), vs = [.str s, .int x, .int y] ∧ s ∈ binW ∧ x.natAbs < 2 ^ m ∧ y.natAbs < 2 ^ m ∧ 0 < m ∧ m ≤ 8000 ∧ ∀ H', Same H H' → Q (.int (opE s x y)) H'
theorem bin_cases {s : Str} (h : s ∈ binW) : s = "or" ∨ s = "and" ∨ s = "=" ∨ s = "!=" ∨ s = "<" ∨ s = "<=" ∨ s = ">" ∨ s = ">=" ∨ s = "+" ∨ s = "-" ∨ s = "*" ∨ s = "mod" ∨ s = "min" ∨ s = "max" := by
  unfold binW at h
  simpa only [List.mem_cons, List.not_mem_nil, or_false] using h
theorem ok_two {f : Addr} {fd : FuncData} {k : Nat} (F : Fun K "_law_two" "_law_two" sTwo f fd) (mi : mg "int" = none) (mmi : mg "min" = none) (mma : mg "max" = none) (mso : mg "sorted" = none) : FnOk P w K mg base CX0 (k + 1) f fd ["operator", "first", "second"] spTwo := by
  refine F.ok scTwo (fun vs H Q E h => ?_) (fun cdv A outer s H vs Q E hr h => ?_)
  · obtain ⟨s, x, y, m, rfl, _⟩ := h
    rfl
  · obtain ⟨g, x, y, m, rfl, hg, hx, hy, h0, hm, q⟩ := h
    refine ⟨_, (pss_cons (ps_if (pt_cmpR op_in_seq (pv 0) (pe_tup (pa_cons pe_str (pa_cons pe_str pa_nil))) (by with_unfolding_all rfl)) (pss_one (ps_ret (pe_ifExp (pt_cmpR op_eq (pv 0) (pe_str) (nomark _)) (pe_callB (call_min2 rfl) (by rfl) mmi (by decide +kernel) (pa_cons (pe_callTy call_int1 (by rfl) mi (by decide +kernel) (pa_cons (pe_cmpR op_ne (pv 1) pe_int (nomark _)) pa_nil)) (pa_cons (pe_callTy call_int1 (by rfl) mi (by decide +kernel) (pa_cons (pe_cmpR op_ne (pv 2) pe_int (nomark _)) pa_nil)) pa_nil))) (pe_callB (call_max2 rfl) (by rfl) mma (by decide +kernel) (pa_cons (pe_callTy call_int1 (by rfl) mi (by decide +kernel) (pa_cons (pe_cmpR op_ne (pv 1) pe_int (nomark _)) pa_nil)) (pa_cons (pe_callTy call_int1 (by rfl) mi (by decide +kernel) (pa_cons (pe_cmpR op_ne (pv 2) pe_int (nomark _)) pa_nil)) pa_nil)))))) pss_nil)
        (pss_cons (ps_if (pt_cmpR op_in_seq (pv 0) (pe_tup (pa_cons pe_str (pa_cons pe_str pa_nil))) (by with_unfolding_all rfl)) (pss_one (ps_ret (pe_callTy call_int1 (by rfl) mi (by decide +kernel) (pa_cons (pe_cmpR op_eq (pe_cmpR op_eq (pv 1) (pv 2) (nomark _)) (pe_cmpR op_eq (pv 0) pe_str (nomark _)) (nomark _)) pa_nil)))) pss_nil)
        (pss_cons (ps_if (pt_cmpR op_in_seq (pv 0) (pe_tup (pa_cons pe_str (pa_cons pe_str pa_nil))) (by with_unfolding_all rfl)) (pss_one (ps_ret (pe_callTy call_int1 (by rfl) mi (by decide +kernel) (pa_cons (pe_cmpR op_eq (pe_cmpR op_lt (pv 1) (pv 2) (nomark _)) (pe_cmpR op_eq (pv 0) pe_str (nomark _)) (nomark _)) pa_nil)))) pss_nil)
        (pss_cons (ps_if (pt_cmpR op_in_seq (pv 0) (pe_tup (pa_cons pe_str (pa_cons pe_str pa_nil))) (by with_unfolding_all rfl)) (pss_one (ps_ret (pe_callTy call_int1 (by rfl) mi (by decide +kernel) (pa_cons (pe_cmpR op_eq (pe_cmpR op_le (pv 1) (pv 2) (nomark _)) (pe_cmpR op_eq (pv 0) pe_str (nomark _)) (nomark _)) pa_nil)))) pss_nil)
        (pss_cons (ps_if (pt_cmpR op_in_seq (pv 0) (pe_tup (pa_cons pe_str (pa_cons pe_str pa_nil))) (by with_unfolding_all rfl)) (pss_one (ps_ret (pe_op op_add (pv 1) (pe_op op_mul (pv 2) (pe_ifExp (pt_cmpR op_eq (pv 0) (pe_str) (nomark _)) (pe_int) (pe_un un_neg pe_int)))))) pss_nil)
        (pss_cons (ps_if (pt_cmpR op_eq (pv 0) (pe_str) (nomark _)) (pss_one (ps_ret (pe_op op_mulW (pv 1) (pv 2)))) pss_nil)
        (pss_cons (ps_if (pt_cmpR op_eq (pv 0) (pe_str) (nomark _)) (pss_one (ps_ret (pe_ifExp (pt_cmpR op_eq (pv 2) (pe_int) (nomark _)) (pe_int) (pe_op op_sub (pv 1) (pe_op op_mulW (pv 2) (pe_op op_fdivN (pv 1) (pv 2))))))) pss_nil)
        (pss_one (ps_ret (pe_ix ix_list (pe_callB cr_sorted (by rfl) mso (by decide +kernel) (pa_cons (pe_lst (pa_cons (pv 1) (pa_cons (pv 2) pa_nil))) pa_nil)) (pe_callTy call_int1 (by rfl) mi (by decide +kernel) (pa_cons (pe_cmpR op_eq (pv 0) pe_str (nomark _)) pa_nil)) (fun _ _ => rfl))))))))))), ?_⟩
    have two : 2 ≤ sizeLine := by show 2 ≤ sizeLine; decide
    have hlog : y.natAbs.log2 < 9000 := by
      by_cases hz : y.natAbs = 0
      · rw [hz]
        decide
      · have := (Nat.log2_lt hz).mpr hy
        omega
    rcases bin_cases hg with rfl | rfl | rfl | rfl | rfl | rfl | rfl | rfl | rfl | rfl | rfl | rfl | rfl | rfl
    · skip
      refine ⟨_, rfl, two, fun t0 n0 => ⟨t0, _, rfl, .inr (.inl (.inl upd_same)), rfl, rfl, _, rfl, ifT (by decide +kernel) ?_⟩⟩
      refine ⟨_, rfl, rfl, _, rfl, iteN (by decide +kernel) ⟨_, rfl, rfl, .inr ⟨_, rfl, _, rfl, rfl, .inr ⟨_, rfl, _, _, rfl, ?_⟩⟩⟩⟩
      rw [int_ne, int_ne, i1, i1, l_or]
      exact q _ (same_upd n0)
    · skip
      refine ⟨_, rfl, two, fun t0 n0 => ⟨t0, _, rfl, .inr (.inl (.inl upd_same)), rfl, rfl, _, rfl, ifT (by decide +kernel) ?_⟩⟩
      refine ⟨_, rfl, rfl, _, rfl, iteY ⟨_, rfl, rfl, .inr ⟨_, rfl, _, rfl, rfl, .inr ⟨_, rfl, _, _, rfl, ?_⟩⟩⟩⟩
      rw [int_ne, int_ne, i1, i1, l_and]
      exact q _ (same_upd n0)
    · skip
      refine ⟨_, rfl, two, fun t0 n0 => ⟨t0, _, rfl, .inr (.inl (.inl upd_same)), rfl, rfl, _, rfl, ifF (by decide +kernel) ?_⟩⟩
      refine ⟨_, rfl, two, fun t1 n1 => ⟨t1, _, rfl, .inr (.inl (.inl upd_same)), rfl, rfl, _, rfl, ifT (by decide +kernel) ?_⟩⟩
      refine ⟨_, rfl, _, rfl, rfl, _, rfl, rfl, rfl, .inr ⟨_, rfl, ?_⟩⟩
      rw [i1, int_eq, txt_eq, bl_bl]
      rw [decide_eq_true (show ("=" : Str) = "=" from rfl), beq_t, ← oe_eq]
      exact q _ ((same_upd n0).trans (same_upd n1))
    · skip
      refine ⟨_, rfl, two, fun t0 n0 => ⟨t0, _, rfl, .inr (.inl (.inl upd_same)), rfl, rfl, _, rfl, ifF (by decide +kernel) ?_⟩⟩
      refine ⟨_, rfl, two, fun t1 n1 => ⟨t1, _, rfl, .inr (.inl (.inl upd_same)), rfl, rfl, _, rfl, ifT (by decide +kernel) ?_⟩⟩
      refine ⟨_, rfl, _, rfl, rfl, _, rfl, rfl, rfl, .inr ⟨_, rfl, ?_⟩⟩
      rw [i1, int_eq, txt_eq, bl_bl]
      rw [decide_eq_false (show ¬ ("!=" : Str) = "=" by decide +kernel), not_dec (show x ≠ y ↔ ¬ x = y from Iff.rfl), ← oe_ne]
      exact q _ ((same_upd n0).trans (same_upd n1))
    · skip
      refine ⟨_, rfl, two, fun t0 n0 => ⟨t0, _, rfl, .inr (.inl (.inl upd_same)), rfl, rfl, _, rfl, ifF (by decide +kernel) ?_⟩⟩
      refine ⟨_, rfl, two, fun t1 n1 => ⟨t1, _, rfl, .inr (.inl (.inl upd_same)), rfl, rfl, _, rfl, ifF (by decide +kernel) ?_⟩⟩
      refine ⟨_, rfl, two, fun t2 n2 => ⟨t2, _, rfl, .inr (.inl (.inl upd_same)), rfl, rfl, _, rfl, ifT (by decide +kernel) ?_⟩⟩
      refine ⟨_, rfl, _, rfl, _, _, rfl, rfl, _, rfl, rfl, rfl, .inr ⟨_, rfl, ?_⟩⟩
      rw [i1, txt_eq, bl_bl]
      rw [decide_eq_true (show ("<" : Str) = "<" from rfl), beq_t, ← oe_lt]
      exact q _ (((same_upd n0).trans (same_upd n1)).trans (same_upd n2))
    · skip
      refine ⟨_, rfl, two, fun t0 n0 => ⟨t0, _, rfl, .inr (.inl (.inl upd_same)), rfl, rfl, _, rfl, ifF (by decide +kernel) ?_⟩⟩
      refine ⟨_, rfl, two, fun t1 n1 => ⟨t1, _, rfl, .inr (.inl (.inl upd_same)), rfl, rfl, _, rfl, ifF (by decide +kernel) ?_⟩⟩
      refine ⟨_, rfl, two, fun t2 n2 => ⟨t2, _, rfl, .inr (.inl (.inl upd_same)), rfl, rfl, _, rfl, ifF (by decide +kernel) ?_⟩⟩
      refine ⟨_, rfl, two, fun t3 n3 => ⟨t3, _, rfl, .inr (.inl (.inl upd_same)), rfl, rfl, _, rfl, ifT (by decide +kernel) ?_⟩⟩
      refine ⟨_, rfl, _, rfl, _, _, rfl, rfl, _, rfl, rfl, rfl, .inr ⟨_, rfl, ?_⟩⟩
      rw [i1, txt_eq, bl_bl]
      rw [decide_eq_true (show ("<=" : Str) = "<=" from rfl), beq_t, ← oe_le]
      exact q _ ((((same_upd n0).trans (same_upd n1)).trans (same_upd n2)).trans (same_upd n3))
    · skip
      refine ⟨_, rfl, two, fun t0 n0 => ⟨t0, _, rfl, .inr (.inl (.inl upd_same)), rfl, rfl, _, rfl, ifF (by decide +kernel) ?_⟩⟩
      refine ⟨_, rfl, two, fun t1 n1 => ⟨t1, _, rfl, .inr (.inl (.inl upd_same)), rfl, rfl, _, rfl, ifF (by decide +kernel) ?_⟩⟩
      refine ⟨_, rfl, two, fun t2 n2 => ⟨t2, _, rfl, .inr (.inl (.inl upd_same)), rfl, rfl, _, rfl, ifF (by decide +kernel) ?_⟩⟩
      refine ⟨_, rfl, two, fun t3 n3 => ⟨t3, _, rfl, .inr (.inl (.inl upd_same)), rfl, rfl, _, rfl, ifT (by decide +kernel) ?_⟩⟩
      refine ⟨_, rfl, _, rfl, _, _, rfl, rfl, _, rfl, rfl, rfl, .inr ⟨_, rfl, ?_⟩⟩
      rw [i1, txt_eq, bl_bl]
      rw [decide_eq_false (show ¬ (">" : Str) = "<=" by decide +kernel), not_dec (show x > y ↔ ¬ x ≤ y by omega), ← oe_gt]
      exact q _ ((((same_upd n0).trans (same_upd n1)).trans (same_upd n2)).trans (same_upd n3))
    · skip
      refine ⟨_, rfl, two, fun t0 n0 => ⟨t0, _, rfl, .inr (.inl (.inl upd_same)), rfl, rfl, _, rfl, ifF (by decide +kernel) ?_⟩⟩
      refine ⟨_, rfl, two, fun t1 n1 => ⟨t1, _, rfl, .inr (.inl (.inl upd_same)), rfl, rfl, _, rfl, ifF (by decide +kernel) ?_⟩⟩
      refine ⟨_, rfl, two, fun t2 n2 => ⟨t2, _, rfl, .inr (.inl (.inl upd_same)), rfl, rfl, _, rfl, ifT (by decide +kernel) ?_⟩⟩
      refine ⟨_, rfl, _, rfl, _, _, rfl, rfl, _, rfl, rfl, rfl, .inr ⟨_, rfl, ?_⟩⟩
      rw [i1, txt_eq, bl_bl]
      rw [decide_eq_false (show ¬ (">=" : Str) = "<" by decide +kernel), not_dec (show x ≥ y ↔ ¬ x < y by omega), ← oe_ge]
      exact q _ (((same_upd n0).trans (same_upd n1)).trans (same_upd n2))
    · skip
      refine ⟨_, rfl, two, fun t0 n0 => ⟨t0, _, rfl, .inr (.inl (.inl upd_same)), rfl, rfl, _, rfl, ifF (by decide +kernel) ?_⟩⟩
      refine ⟨_, rfl, two, fun t1 n1 => ⟨t1, _, rfl, .inr (.inl (.inl upd_same)), rfl, rfl, _, rfl, ifF (by decide +kernel) ?_⟩⟩
      refine ⟨_, rfl, two, fun t2 n2 => ⟨t2, _, rfl, .inr (.inl (.inl upd_same)), rfl, rfl, _, rfl, ifF (by decide +kernel) ?_⟩⟩
      refine ⟨_, rfl, two, fun t3 n3 => ⟨t3, _, rfl, .inr (.inl (.inl upd_same)), rfl, rfl, _, rfl, ifF (by decide +kernel) ?_⟩⟩
      refine ⟨_, rfl, two, fun t4 n4 => ⟨t4, _, rfl, .inr (.inl (.inl upd_same)), rfl, rfl, _, rfl, ifT (by decide +kernel) ?_⟩⟩
      refine ⟨_, rfl, _, rfl, _, rfl, rfl, _, rfl, iteY ⟨_, _, rfl, rfl, .inr ⟨by decide, by decide⟩, _, _, rfl, rfl, ?_⟩⟩
      exact Eq.mp (congrArg (fun z => Q (.int z) _) (show opE "+" x y = x + y * 1 by rw [oe_add', Int.mul_one])) (q _ (((((same_upd n0).trans (same_upd n1)).trans (same_upd n2)).trans (same_upd n3)).trans (same_upd (o := .tup [.str "+", .str "-"]) n4)))
    · skip
      refine ⟨_, rfl, two, fun t0 n0 => ⟨t0, _, rfl, .inr (.inl (.inl upd_same)), rfl, rfl, _, rfl, ifF (by decide +kernel) ?_⟩⟩
      refine ⟨_, rfl, two, fun t1 n1 => ⟨t1, _, rfl, .inr (.inl (.inl upd_same)), rfl, rfl, _, rfl, ifF (by decide +kernel) ?_⟩⟩
      refine ⟨_, rfl, two, fun t2 n2 => ⟨t2, _, rfl, .inr (.inl (.inl upd_same)), rfl, rfl, _, rfl, ifF (by decide +kernel) ?_⟩⟩
      refine ⟨_, rfl, two, fun t3 n3 => ⟨t3, _, rfl, .inr (.inl (.inl upd_same)), rfl, rfl, _, rfl, ifF (by decide +kernel) ?_⟩⟩
      refine ⟨_, rfl, two, fun t4 n4 => ⟨t4, _, rfl, .inr (.inl (.inl upd_same)), rfl, rfl, _, rfl, ifT (by decide +kernel) ?_⟩⟩
      refine ⟨_, rfl, _, rfl, _, rfl, rfl, _, rfl, iteN (by decide +kernel) ⟨1, rfl, _, _, rfl, rfl, .inr ⟨by decide, by decide⟩, _, _, rfl, rfl, ?_⟩⟩
      exact Eq.mp (congrArg (fun z => Q (.int z) _) (show opE "-" x y = x + y * -1 by rw [oe_sub']; omega)) (q _ (((((same_upd n0).trans (same_upd n1)).trans (same_upd n2)).trans (same_upd n3)).trans (same_upd (o := .tup [.str "+", .str "-"]) n4)))
    · skip
      refine ⟨_, rfl, two, fun t0 n0 => ⟨t0, _, rfl, .inr (.inl (.inl upd_same)), rfl, rfl, _, rfl, ifF (by decide +kernel) ?_⟩⟩
      refine ⟨_, rfl, two, fun t1 n1 => ⟨t1, _, rfl, .inr (.inl (.inl upd_same)), rfl, rfl, _, rfl, ifF (by decide +kernel) ?_⟩⟩
      refine ⟨_, rfl, two, fun t2 n2 => ⟨t2, _, rfl, .inr (.inl (.inl upd_same)), rfl, rfl, _, rfl, ifF (by decide +kernel) ?_⟩⟩
      refine ⟨_, rfl, two, fun t3 n3 => ⟨t3, _, rfl, .inr (.inl (.inl upd_same)), rfl, rfl, _, rfl, ifF (by decide +kernel) ?_⟩⟩
      refine ⟨_, rfl, two, fun t4 n4 => ⟨t4, _, rfl, .inr (.inl (.inl upd_same)), rfl, rfl, _, rfl, ifF (by decide +kernel) ?_⟩⟩
      refine ⟨_, rfl, rfl, _, rfl, iteY ⟨_, rfl, _, rfl, _, _, rfl, rfl, wide_mul hx hy h0 h0 (by omega), ?_⟩⟩
      exact Eq.mp (congrArg (fun z => Q (.int z) _) (oe_mul' x y)) (q _ (((((same_upd n0).trans (same_upd n1)).trans (same_upd n2)).trans (same_upd n3)).trans (same_upd (o := .tup [.str "+", .str "-"]) n4)))
    · skip
      refine ⟨_, rfl, two, fun t0 n0 => ⟨t0, _, rfl, .inr (.inl (.inl upd_same)), rfl, rfl, _, rfl, ifF (by decide +kernel) ?_⟩⟩
      refine ⟨_, rfl, two, fun t1 n1 => ⟨t1, _, rfl, .inr (.inl (.inl upd_same)), rfl, rfl, _, rfl, ifF (by decide +kernel) ?_⟩⟩
      refine ⟨_, rfl, two, fun t2 n2 => ⟨t2, _, rfl, .inr (.inl (.inl upd_same)), rfl, rfl, _, rfl, ifF (by decide +kernel) ?_⟩⟩
      refine ⟨_, rfl, two, fun t3 n3 => ⟨t3, _, rfl, .inr (.inl (.inl upd_same)), rfl, rfl, _, rfl, ifF (by decide +kernel) ?_⟩⟩
      refine ⟨_, rfl, two, fun t4 n4 => ⟨t4, _, rfl, .inr (.inl (.inl upd_same)), rfl, rfl, _, rfl, ifF (by decide +kernel) ?_⟩⟩
      refine ⟨_, rfl, rfl, _, rfl, iteN (by decide +kernel) ?_⟩
      refine ⟨_, rfl, rfl, _, rfl, iteY ⟨_, rfl, rfl, _, rfl, ?_⟩⟩
      rw [int_eq]
      by_cases hz : y = 0
      · rw [decide_eq_true hz]
        have e := oe_mod' x y
        rw [if_neg (fun z => z hz)] at e
        refine iteT ?_
        rw [← e]
        exact q _ (((((same_upd n0).trans (same_upd n1)).trans (same_upd n2)).trans (same_upd n3)).trans (same_upd (o := .tup [.str "+", .str "-"]) n4))
      · rw [decide_eq_false hz]
        have e := oe_mod' x y
        rw [if_pos hz, Int.fmod_def] at e
        refine iteF ⟨_, rfl, _, rfl, _, rfl, _, rfl, _, _, rfl, rfl, ⟨hz, hlog⟩, _, _, rfl, rfl, wide_mul hy (fdiv_lt hx hz) h0 (by omega) (by omega), _, _, rfl, rfl, ?_⟩
        exact Eq.mp (congrArg (fun z => Q (.int z) _) e) (q _ (((((same_upd n0).trans (same_upd n1)).trans (same_upd n2)).trans (same_upd n3)).trans (same_upd (o := .tup [.str "+", .str "-"]) n4)))
    · skip
      refine ⟨_, rfl, two, fun t0 n0 => ⟨t0, _, rfl, .inr (.inl (.inl upd_same)), rfl, rfl, _, rfl, ifF (by decide +kernel) ?_⟩⟩
      refine ⟨_, rfl, two, fun t1 n1 => ⟨t1, _, rfl, .inr (.inl (.inl upd_same)), rfl, rfl, _, rfl, ifF (by decide +kernel) ?_⟩⟩
      refine ⟨_, rfl, two, fun t2 n2 => ⟨t2, _, rfl, .inr (.inl (.inl upd_same)), rfl, rfl, _, rfl, ifF (by decide +kernel) ?_⟩⟩
      refine ⟨_, rfl, two, fun t3 n3 => ⟨t3, _, rfl, .inr (.inl (.inl upd_same)), rfl, rfl, _, rfl, ifF (by decide +kernel) ?_⟩⟩
      refine ⟨_, rfl, two, fun t4 n4 => ⟨t4, _, rfl, .inr (.inl (.inl upd_same)), rfl, rfl, _, rfl, ifF (by decide +kernel) ?_⟩⟩
      refine ⟨_, rfl, rfl, _, rfl, iteN (by decide +kernel) ?_⟩
      refine ⟨_, rfl, rfl, _, rfl, iteN (by decide +kernel) ?_⟩
      refine ⟨_, rfl, _, rfl, two, fun l nl => ⟨l, [x, y], rfl, .inl (.inl upd_same), by simp, fun ns p hp hs np => ?_⟩⟩
      obtain rfl := two_sorted hp hs
      refine ⟨_, rfl, rfl, .inr ⟨_, rfl, ?_⟩⟩
      rw [txt_eq]
      have e := oe_min' x y
      have fin := q _ (((((((same_upd n0).trans (same_upd n1)).trans (same_upd n2)).trans (same_upd n3)).trans (same_upd (o := .tup [.str "+", .str "-"]) n4)).trans (same_upd (o := .lst [.int x, .int y]) nl)).trans (same_upd (o := .lst ((if y < x then [y, x] else [x, y]).map V.int)) np))
      rw [decide_eq_false (show ¬ ("min" : Str) = "max" by decide +kernel)]
      by_cases hlt : y < x
      · have el : (if y < x then [y, x] else [x, y]) = [y, x] := if_pos hlt
        rw [el] at fin ⊢
        refine ⟨p, _, 0, _, rfl, rfl, .inl (.inl upd_same), atI_nat (j := 0) rfl, ?_⟩
        rw [e] at fin
        rw [if_pos hlt] at fin
        exact fin
      · have el : (if y < x then [y, x] else [x, y]) = [x, y] := if_neg hlt
        rw [el] at fin ⊢
        refine ⟨p, _, 0, _, rfl, rfl, .inl (.inl upd_same), atI_nat (j := 0) rfl, ?_⟩
        rw [e] at fin
        rw [if_neg hlt] at fin
        exact fin
    · skip
      refine ⟨_, rfl, two, fun t0 n0 => ⟨t0, _, rfl, .inr (.inl (.inl upd_same)), rfl, rfl, _, rfl, ifF (by decide +kernel) ?_⟩⟩
      refine ⟨_, rfl, two, fun t1 n1 => ⟨t1, _, rfl, .inr (.inl (.inl upd_same)), rfl, rfl, _, rfl, ifF (by decide +kernel) ?_⟩⟩
      refine ⟨_, rfl, two, fun t2 n2 => ⟨t2, _, rfl, .inr (.inl (.inl upd_same)), rfl, rfl, _, rfl, ifF (by decide +kernel) ?_⟩⟩
      refine ⟨_, rfl, two, fun t3 n3 => ⟨t3, _, rfl, .inr (.inl (.inl upd_same)), rfl, rfl, _, rfl, ifF (by decide +kernel) ?_⟩⟩
      refine ⟨_, rfl, two, fun t4 n4 => ⟨t4, _, rfl, .inr (.inl (.inl upd_same)), rfl, rfl, _, rfl, ifF (by decide +kernel) ?_⟩⟩
      refine ⟨_, rfl, rfl, _, rfl, iteN (by decide +kernel) ?_⟩
      refine ⟨_, rfl, rfl, _, rfl, iteN (by decide +kernel) ?_⟩
      refine ⟨_, rfl, _, rfl, two, fun l nl => ⟨l, [x, y], rfl, .inl (.inl upd_same), by simp, fun ns p hp hs np => ?_⟩⟩
      obtain rfl := two_sorted hp hs
      refine ⟨_, rfl, rfl, .inr ⟨_, rfl, ?_⟩⟩
      rw [txt_eq]
      have e := oe_max' x y
      have fin := q _ (((((((same_upd n0).trans (same_upd n1)).trans (same_upd n2)).trans (same_upd n3)).trans (same_upd (o := .tup [.str "+", .str "-"]) n4)).trans (same_upd (o := .lst [.int x, .int y]) nl)).trans (same_upd (o := .lst ((if y < x then [y, x] else [x, y]).map V.int)) np))
      rw [decide_eq_true (show ("max" : Str) = "max" from rfl)]
      by_cases hlt : y < x
      · have el : (if y < x then [y, x] else [x, y]) = [y, x] := if_pos hlt
        rw [el] at fin ⊢
        refine ⟨p, _, 1, _, rfl, rfl, .inl (.inl upd_same), atI_nat (j := 1) rfl, ?_⟩
        rw [e] at fin
        rw [if_neg (show ¬ y > x by omega)] at fin
        exact fin
      · have el : (if y < x then [y, x] else [x, y]) = [x, y] := if_neg hlt
        rw [el] at fin ⊢
        refine ⟨p, _, 1, _, rfl, rfl, .inl (.inl upd_same), atI_nat (j := 1) rfl, ?_⟩
        rw [e] at fin
        have ey : (if y > x then y else x) = y := by split <;> omega
        rw [ey] at fin
        exact fin
end
end Lim
set_option maxHeartbeats 2000000
namespace Lim
open PySem PySem.Spec PyProof.Rows L2
section
variable {P : Program} {w : World} {K : PySem.W.Frag} {mg : Str → Option Value} {base : Heap}

theorem scVal : FnScope ["expression", "values", "operator", "first"] ["expression", "values"] (defScope sVal) := ⟨rfl, rfl, rfl, by decide +kernel, rfl, by decide +kernel, by decide +kernel⟩
theorem EnvD.same {H H' : Hp} {vd : Addr} {ns : List Str} {ρ : Str → Int} (h : EnvD H vd ns ρ) (s : Same H H') : EnvD H' vd ns ρ := by
  obtain ⟨kvs, h1, h2⟩ := h
  exact ⟨kvs, s _ _ h1, h2⟩
theorem EnvD.le {H : Hp} {vd : Addr} {ns : List Str} {ρ : Str → Int} (h : EnvD H vd ns ρ) : ∀ x ∈ ns, (ρ x).natAbs ≤ 1000 := by
  obtain ⟨kvs, _, hk⟩ := h
  exact fun x hx => (hk x hx).2
def spVal (K : PySem.W.Frag) (d : Nat) : Sp := fun vs H Q _ => ∃ (v : V) (e : Ex) (vd : Addr) (ns : List Str) (ρ : Str → Int), vs = [v, .ref vd] ∧ At K H e v ∧ Wf ns e ∧ e.dep < d ∧ e.dep ≤ 6 ∧ EnvD H vd ns ρ ∧ ∀ H', Same H H' → Q (.int (evE ρ e)) H'
theorem ok_val {f fT : Addr} {fd dT : FuncData} {k : Nat} (F : Fun K "_law_value" "_law_value" sVal f fd) (gE : mg "_law_value" = some (.ref f)) (kE : PySem.W.keepIn K (.ref f) = true) (bE : Binds K fd ["expression", "values"] [])
    (mi : mg "int" = none)
    (GT : FnOk P w K mg base CX0 (k + 1) fT dT ["operator", "first", "second"] spTwo) (kT : PySem.W.keepIn K (.ref fT) = true) (bT : Binds K dT ["operator", "first", "second"] []) (gT : mg "_law_two" = some (.ref fT)) :
    ∀ d : Nat, FnOk P w K mg base CX0 (k + 1 + d) f fd ["expression", "values"] (spVal K d) := by
  intro d
  induction d with
  | zero =>
    exact ⟨fun vs H Q E h => by obtain ⟨_, _, _, _, _, rfl, _⟩ := h; rfl, fun A outer s H ar us vs Q E hr e0 b va h => by
      obtain ⟨_, _, _, _, _, _, _, _, hd, _⟩ := h
      exact absurd hd (Nat.not_lt_zero _)⟩
  | succ d ih =>
    have GE := ih
    have GT : FnOk P w K mg base CX0 (k + 1 + d) fT dT ["operator", "first", "second"] spTwo := GT.mono (by omega)
    refine F.ok scVal (fun vs H Q E h => ?_) (fun cdv A outer s H vs Q E hr h => ?_)
    · obtain ⟨_, _, _, _, _, rfl, _⟩ := h
      rfl
    · obtain ⟨v, e, vd, ns, ρ, rfl, hA, hW, hd, h6, hE, q⟩ := h
      refine ⟨_, (pss_cons (ps_set (i := 2) scVal.nd rfl (.inl rfl) (pe_ix ix_tup (pv 0) (pe_int) (fun _ _ => rfl)))
        (pss_cons (ps_if (pt_cmpR op_eq (pv 2) (pe_str) (nomark _)) (pss_one (ps_ret (pe_ix ix_tup (pv 0) (pe_int) (fun _ _ => rfl)))) pss_nil)
        (pss_cons (ps_if (pt_cmpR op_eq (pv 2) (pe_str) (nomark _)) (pss_one (ps_ret (pe_dget (hu_of hr) (pv 1) (pe_ix ix_tup (pv 0) (pe_int) (fun _ _ => rfl)) (fun _ _ => rfl)))) pss_nil)
        (pss_cons (ps_if (pt_cmpR op_eq (pv 2) (pe_str) (nomark _)) (pss_one (ps_ret (pe_call GE hr (by rfl) gE kE bE .nil pass0 (pa_cons (pe_ix ix_tup (pv 0) (pe_ifExp (pt_cmpR op_ne (pe_call GE hr (by rfl) gE kE bE .nil pass0 (pa_cons (pe_ix ix_tup (pv 0) (pe_int) (fun _ _ => rfl)) (pa_cons (pv 1) pa_nil))) (pe_int) (nomark _)) (pe_int) (pe_int)) (fun _ _ => rfl)) (pa_cons (pv 1) pa_nil))))) pss_nil)
        (pss_cons (ps_set (i := 3) scVal.nd rfl (.inl rfl) (pe_call GE hr (by rfl) gE kE bE .nil pass0 (pa_cons (pe_ix ix_tup (pv 0) (pe_int) (fun _ _ => rfl)) (pa_cons (pv 1) pa_nil))))
        (pss_cons (ps_if (pt_cmpR op_eq (pv 2) (pe_str) (nomark _)) (pss_one (ps_ret (pe_op op_sub (pe_int) (pv 3)))) pss_nil)
        (pss_cons (ps_if (pt_cmpR op_eq (pv 2) (pe_str) (nomark _)) (pss_one (ps_ret (pe_callTy call_int1 (by rfl) mi (by decide +kernel) (pa_cons (pe_cmpR op_eq (pv 3) pe_int (nomark _)) pa_nil)))) pss_nil)
        (pss_one (ps_ret (pe_call GT hr (by rfl) gT kT bT .nil pass0 (pa_cons (pv 2) (pa_cons (pv 3) (pa_cons (pe_call GE hr (by rfl) gE kE bE .nil pass0 (pa_cons (pe_ix ix_tup (pv 0) (pe_int) (fun _ _ => rfl)) (pa_cons (pv 1) pa_nil))) pa_nil))))))))))))), ?_⟩
      cases e with
      | int n =>
        obtain ⟨p, rfl, hT⟩ := hA
        exact ⟨_, rfl, p, _, 0, _, rfl, rfl, hT, atI_nat (j := 0) rfl, _, rfl, rfl, _, rfl, iteY ⟨_, rfl, p, _, 1, _, rfl, rfl, hT, atI_nat (j := 1) rfl, q _ (Same.refl _)⟩⟩
      | name x =>
        obtain ⟨p, rfl, hT⟩ := hA
        obtain ⟨kvs, hK, hk⟩ := hE
        have hx := (hk x hW).1
        refine ⟨_, rfl, p, _, 0, _, rfl, rfl, hT, atI_nat (j := 0) rfl, _, rfl, rfl, _, rfl, iteN (by decide +kernel) ⟨_, rfl, rfl, _, rfl, iteY ⟨_, rfl, _, rfl, p, _, 1, _, rfl, rfl, hT, atI_nat (j := 1) rfl, vd, _, rfl, ?_, q _ (Same.refl _)⟩⟩⟩
        have g := DGet.k (k := Sum.inr x) hK
        rw [hx] at g
        exact g
      | ite a b c =>
        obtain ⟨p, x, y, z, rfl, hT, ha, hb, hc⟩ := hA
        obtain ⟨wa, wb, wc⟩ := hW
        have hda : max a.dep (max b.dep c.dep) + 1 < d + 1 := hd
        have hd6 : max a.dep (max b.dep c.dep) + 1 ≤ 6 := h6
        refine ⟨_, rfl, p, _, 0, _, rfl, rfl, hT, atI_nat (j := 0) rfl, _, rfl, rfl, _, rfl, iteN (by decide +kernel) ⟨_, rfl, rfl, _, rfl, iteN (by decide +kernel) ⟨_, rfl, rfl, _, rfl, iteY ⟨_, rfl, _, rfl, p, _, 1, _, rfl, rfl, hT, atI_nat (j := 1) rfl, _, rfl, x, a, vd, ns, ρ, rfl, ha, wa, by omega, by omega, hE, fun H1 s1 => ⟨rfl, _, rfl, ?_⟩⟩⟩⟩⟩
        have hT1 := Same.seqT s1 hT
        rw [int_ne]
        unfold evE at q
        by_cases h0 : evE ρ a ≠ 0
        · rw [if_pos h0] at q
          rw [decide_eq_true h0]
          exact iteT ⟨p, _, 2, _, rfl, rfl, hT1, atI_nat (j := 2) rfl, _, rfl, y, b, vd, ns, ρ, rfl, hb.same s1, wb, by omega, by omega, hE.same s1, fun H2 s2 => q _ (s1.trans s2)⟩
        · rw [if_neg h0] at q
          rw [decide_eq_false h0]
          exact iteF ⟨p, _, 3, _, rfl, rfl, hT1, atI_nat (j := 3) rfl, _, rfl, z, c, vd, ns, ρ, rfl, hc.same s1, wc, by omega, by omega, hE.same s1, fun H2 s2 => q _ (s1.trans s2)⟩
      | un u a =>
        obtain ⟨p, x, rfl, hT, ha⟩ := hA
        obtain ⟨hu, ha2⟩ := hW
        have hda : a.dep + 1 < d + 1 := hd
        have hd6 : a.dep + 1 ≤ 6 := h6
        refine ⟨_, rfl, p, _, 0, _, rfl, rfl, hT, atI_nat (j := 0) rfl, _, rfl, rfl, _, rfl, iteN ?_ ⟨_, rfl, rfl, _, rfl, iteN ?_ ⟨_, rfl, rfl, _, rfl, iteN ?_ ⟨_, rfl, p, _, 1, _, rfl, rfl, hT, atI_nat (j := 1) rfl, _, rfl, x, a, vd, ns, ρ, rfl, ha, ha2, by omega, by omega, hE, fun H1 s1 => ?_⟩⟩⟩⟩
        · rcases un_is u hu with rfl | rfl <;> decide +kernel
        · rcases un_is u hu with rfl | rfl <;> decide +kernel
        · rcases un_is u hu with rfl | rfl <;> decide +kernel
        · have q := q H1 s1
          rcases un_is u hu with rfl | rfl
          · refine ⟨_, rfl, rfl, _, rfl, iteY ⟨_, rfl, _, _, rfl, rfl, ?_⟩⟩
            unfold evE at q
            rw [if_pos rfl, show -evE ρ a = 0 - evE ρ a by omega] at q
            exact q
          · refine ⟨_, rfl, rfl, _, rfl, iteN (by decide +kernel) ⟨_, rfl, rfl, _, rfl, iteY ⟨_, rfl, rfl, ?_⟩⟩⟩
            rw [int_eq]
            unfold evE at q
            rw [if_neg (by decide +kernel)] at q
            exact .inr ⟨_, rfl, q⟩
      | bin u a b =>
        obtain ⟨p, x, y, rfl, hT, ha, hb⟩ := hA
        obtain ⟨hu, wa, wb⟩ := hW
        have hda : max a.dep b.dep + 1 < d + 1 := hd
        have hd6 : max a.dep b.dep + 1 ≤ 6 := h6
        obtain ⟨n1, n2, n3, n4, n5⟩ := bin_ne u hu
        have la := pow_sq (evE_lt hE.le wa) (bnd_mono (show a.dep ≤ 6 by omega))
        have lb := pow_sq (evE_lt hE.le wb) (bnd_mono (show b.dep ≤ 6 by omega))
        refine ⟨_, rfl, p, _, 0, _, rfl, rfl, hT, atI_nat (j := 0) rfl, _, rfl, rfl, _, rfl, iteN n1 ⟨_, rfl, rfl, _, rfl, iteN n2 ⟨_, rfl, rfl, _, rfl, iteN n3 ⟨_, rfl, p, _, 1, _, rfl, rfl, hT, atI_nat (j := 1) rfl, _, rfl, x, a, vd, ns, ρ, rfl, ha, wa, by omega, by omega, hE, fun H1 s1 => ?_⟩⟩⟩⟩
        have hT1 := Same.seqT s1 hT
        refine ⟨_, rfl, rfl, _, rfl, iteN n5 ⟨_, rfl, rfl, _, rfl, iteN n4 ⟨_, rfl, _, rfl, _, rfl, p, _, 2, _, rfl, rfl, hT1, atI_nat (j := 2) rfl, _, rfl, y, b, vd, ns, ρ, rfl, hb.same s1, wb, by omega, by omega, hE.same s1, fun H2 s2 => ?_⟩⟩⟩
        exact ⟨u, _, _, bnd 6, rfl, hu, la, lb, bnd_pos _, by decide, fun H3 s3 => q H3 ((s1.trans s2).trans s3)⟩

abbrev sXpr : Stmt := topS 13
abbrev nXpr : List Str := ["source", "names", "depth", "way", "parts", "operators", "k"]
theorem scXpr : FnScope nXpr ["source", "names", "depth"] (defScope sXpr) := ⟨rfl, rfl, rfl, by decide +kernel, rfl, by decide +kernel, by decide +kernel⟩
def spXpr (K : PySem.W.Frag) (d : Nat) : Sp := fun vs H Q _ => ∃ (a n l : Addr) (ns : List Str) (dp : Nat), vs = [.ref a, .ref l, .int (dp : Int)] ∧ Src H a n ∧ H l = some (.lst (ns.map V.str)) ∧ l ≠ a ∧ ns ≠ [] ∧ ns.length ≤ 1000 ∧ dp < d ∧ ∀ v e H', Stp a n H H' → At K H' e v → Wf ns e → e.dep ≤ dp → Q v H'
/-- what the parts are -/
def Parts (K : PySem.W.Frag) (H : Hp) (ns : List Str) (dp : Nat) (us : List V) : Prop := ∀ v ∈ us, ∃ e, At K H e v ∧ Wf ns e ∧ e.dep ≤ dp
theorem Parts.mono {H H' : Hp} {ns : List Str} {dp : Nat} {us : List V} (h : Parts K H ns dp us) (k : ∀ p xs, SqT K H p xs → SqT K H' p xs) : Parts K H' ns dp us := fun v hv => by
  obtain ⟨e, h1, h2, h3⟩ := h v hv
  exact ⟨e, h1.mono k, h2, h3⟩
theorem ops_in : ∀ z ∈ (["=", "!=", "<", "<=", ">", ">=", "+", "-", "*", "mod", "and", "or", "min", "max", "+", "-"] : List Str), z ∈ binW := by decide +kernel
theorem ok_xpr {f fP fC : Addr} {fd dP dC : FuncData} {k : Nat} (F : Fun K "_law_expression" "_law_expression" sXpr f fd) (gE : mg "_law_expression" = some (.ref f)) (kE : PySem.W.keepIn K (.ref f) = true) (bE : Binds K fd ["source", "names", "depth"] []) (mr : mg "range" = none)
    (GP : FnOk P w K mg base CX0 (k + 1) fP dP ["source", "many"] spPic) (kP : PySem.W.keepIn K (.ref fP) = true) (bP : Binds K dP ["source", "many"] []) (gP : mg "_law_pick" = some (.ref fP))
    (GC : FnOk P w K mg base CX0 (k + 1) fC dC ["source", "options"] (spCho K)) (kC : PySem.W.keepIn K (.ref fC) = true) (bC : Binds K dC ["source", "options"] []) (gC : mg "_law_choose" = some (.ref fC)) :
    ∀ d : Nat, FnOk P w K mg base CX0 (k + 1 + d) f fd ["source", "names", "depth"] (spXpr K d) := by
  intro d
  induction d with
  | zero =>
    exact ⟨fun vs H Q E h => by obtain ⟨_, _, _, _, _, rfl, _⟩ := h; rfl, fun A outer s H ar us vs Q E hr e0 b va h => by
      obtain ⟨_, _, _, _, _, _, _, _, _, _, _, hd, _⟩ := h
      exact absurd hd (Nat.not_lt_zero _)⟩
  | succ d ih =>
    have GE := ih
    have GP : FnOk P w K mg base CX0 (k + 1 + d) fP dP ["source", "many"] spPic := GP.mono (by omega)
    have GC : FnOk P w K mg base CX0 (k + 1 + d) fC dC ["source", "options"] (spCho K) := GC.mono (by omega)
    refine F.ok scXpr (fun vs H Q E h => ?_) (fun cdv A outer s H vs Q E hr h => ?_)
    · obtain ⟨_, _, _, _, _, rfl, _⟩ := h
      rfl
    · obtain ⟨a, n, l, ns, dp, rfl, hs, hl, hla, hne, hns, hd, q⟩ := h
      have two : 2 ≤ sizeLine := by show 2 ≤ sizeLine; decide
      have three : 3 ≤ sizeLine := by show 3 ≤ sizeLine; decide
      have four : 4 ≤ sizeLine := by show 4 ≤ sizeLine; decide
      refine ⟨_, (C8.pss_cut (ps_set (i := 3) scXpr.nd rfl (.inl rfl) (pe_ifExp (pt_cmpR op_gt (pv 2) (pe_int) (nomark _)) (pe_call GP hr (by rfl) gP kP bP .nil pass0 (pa_cons (pv 0) (pa_cons (pe_int) pa_nil))) (pe_call GP hr (by rfl) gP kP bP .nil pass0 (pa_cons (pv 0) (pa_cons (pe_int) pa_nil)))))
        (pss_cons (ps_if (pt_cmpR op_eq (pv 3) (pe_int) (nomark _)) (pss_one (ps_ret (pe_tup (pa_cons (pe_str) (pa_cons (pe_call GC hr (by rfl) gC kC bC .nil pass0 (pa_cons (pv 0) (pa_cons (pe_lst (pa_cons (pe_int) (pa_cons (pe_int) (pa_cons (pe_int) (pa_cons (pe_int) (pa_cons (pe_int) (pa_cons (pe_int) (pa_cons (pe_int) pa_nil)))))))) pa_nil))) pa_nil))))) pss_nil)
        (pss_cons (ps_if (pt_cmpR op_lt (pv 3) (pe_int) (nomark _)) (pss_one (ps_ret (pe_tup (pa_cons (pe_str) (pa_cons (pe_call GC hr (by rfl) gC kC bC .nil pass0 (pa_cons (pv 0) (pa_cons (pv 1) pa_nil))) pa_nil))))) pss_nil)
        (C8.pss_cut (ps_setLc (i := 4) (own := [("k", 6)]) (g := gName 6) (tt := tYes) (by rfl) scXpr.nd rfl rfl (sw_true rfl rfl rfl (by decide +kernel)) (pi_range1 rfl mr (pa_cons (pe_ifExp (pt_cmpR op_eq (pv 3) (pe_int) (nomark _)) (pe_int) (pe_int)) pa_nil)) (blkOk_by (N := nXpr) (sc := defScope sXpr) (by decide +kernel)) (fun _ _ _ _ _ => pg_name (i := 6) scXpr.nd rfl (.inl rfl)) (fun _ _ _ _ _ => pts_nil) (fun _ _ _ _ _ => pe_call GE hr (by rfl) gE kE bE .nil pass0 (pa_cons (pv 0) (pa_cons (pv 1) (pa_cons (pe_op op_sub (pv 2) (pe_int)) pa_nil)))))
        (pss_cons (ps_if (pt_cmpR op_eq (pv 3) (pe_int) (nomark _)) (pss_one (ps_ret (pe_tup (pa_cons (pe_str) (pa_cons (pe_ix ix_list (pv 4) (pe_int) (fun _ _ => rfl)) (pa_cons (pe_ix ix_list (pv 4) (pe_int) (fun _ _ => rfl)) (pa_cons (pe_ix ix_list (pv 4) (pe_int) (fun _ _ => rfl)) pa_nil))))))) pss_nil)
        (pss_cons (ps_if (pt_cmpR op_eq (pv 3) (pe_int) (nomark _)) (pss_one (ps_ret (pe_tup (pa_cons (pe_call GC hr (by rfl) gC kC bC .nil pass0 (pa_cons (pv 0) (pa_cons (pe_lst (pa_cons (pe_str) (pa_cons (pe_str) pa_nil))) pa_nil))) (pa_cons (pe_ix ix_list (pv 4) (pe_int) (fun _ _ => rfl)) pa_nil))))) pss_nil)
        (pss_cons (ps_set (i := 5) scXpr.nd rfl (.inl rfl) (pe_lst (pa_cons (pe_str) (pa_cons (pe_str) (pa_cons (pe_str) (pa_cons (pe_str) (pa_cons (pe_str) (pa_cons (pe_str) (pa_cons (pe_str) (pa_cons (pe_str) (pa_cons (pe_str) (pa_cons (pe_str) (pa_cons (pe_str) (pa_cons (pe_str) (pa_cons (pe_str) (pa_cons (pe_str) (pa_cons (pe_str) (pa_cons (pe_str) pa_nil))))))))))))))))))
        (pss_one (ps_ret (pe_tup (pa_cons (pe_call GC hr (by rfl) gC kC bC .nil pass0 (pa_cons (pv 0) (pa_cons (pv 5) pa_nil))) (pa_cons (pe_ix ix_list (pv 4) (pe_int) (fun _ _ => rfl)) (pa_cons (pe_ix ix_list (pv 4) (pe_int) (fun _ _ => rfl)) pa_nil))))))))))))), ?_⟩
      refine ⟨fun σ H' => ∃ r : Int, σ = [some (.ref a), some (.ref l), some (.int (dp : Int)), some (.int r), none, none, none] ∧ Stp a n H H' ∧ 0 ≤ r ∧ r < 12 ∧ (dp = 0 → r < 3), ?_, ?_⟩
      · refine ⟨_, rfl, _, _, rfl, rfl, _, rfl, ite2 (fun c => ?_) (fun c => ?_)⟩
        · exact ⟨_, rfl, a, n, _, rfl, hs, by decide, by decide, fun r H1 h0 h1 s1 => ⟨r, rfl, s1, h0, h1, fun z => by
            have c2 := of_decide_eq_true c
            omega⟩⟩
        · exact ⟨_, rfl, a, n, _, rfl, hs, by decide, by decide, fun r H1 h0 h1 s1 => ⟨r, rfl, s1, h0, by
            have h2 : r < 2 := h1
            omega, fun _ => by
            have h2 : r < 2 := h1
            omega⟩⟩
      · rintro σ H1 ⟨r, rfl, s1, hr0, hr1, hr2⟩
        have hl1 := s1.2 _ _ hl hla
        refine ⟨_, rfl, rfl, _, rfl, ?_⟩
        rw [int_eq]
        by_cases c0 : r = 0
        · rw [decide_eq_true c0]
          refine iteT ⟨_, rfl, by show 7 ≤ sizeLine; decide, fun p1 np1 => ⟨a, n, p1, _, rfl, s1.1.same (same_upd np1), .inl (.inl upd_same), s1.1.has np1, by simp, by simp, fun v H2 hv s2 => ⟨two, fun p2 np2 => ?_⟩⟩⟩
          obtain ⟨z, rfl, hz0, hz1⟩ : ∃ z : Int, v = .int z ∧ 0 ≤ z ∧ z ≤ 999999 := by
            simp at hv
            rcases hv with rfl | rfl | rfl | rfl | rfl | rfl | rfl
            all_goals exact ⟨_, rfl, by decide, by decide⟩
          exact q (.ref p2) (.int z) _ (((s1.then (same_upd np1)).trans s2).then (same_upd np2)) ⟨p2, rfl, .inl (.inl upd_same)⟩ ⟨hz0, hz1⟩ (Nat.zero_le _)
        · rw [decide_eq_false c0]
          refine iteF ⟨_, rfl, _, _, rfl, rfl, _, rfl, ite2 (fun c => ?_) (fun c => ?_)⟩
          · refine ⟨_, rfl, _, rfl, a, n, l, _, rfl, s1.1, .inl (.inl hl1), hla, by simpa using hne, by rw [List.length_map]; omega, fun v H2 hv s2 => ⟨two, fun p2 np2 => ?_⟩⟩
            obtain ⟨x, hx, rfl⟩ := List.mem_map.mp hv
            exact q (.ref p2) (.name x) _ ((s1.trans s2).then (same_upd np2)) ⟨p2, rfl, .inl (.inl upd_same)⟩ hx (Nat.zero_le _)
          · have hr3 : 3 ≤ r := by
              have : ¬ r < 3 := fun z => c (decide_eq_true z)
              omega
            have hdp : dp ≠ 0 := fun z => by
              have := hr2 z
              omega
            obtain ⟨e, rfl⟩ : ∃ e, dp = e + 1 := ⟨dp - 1, by omega⟩
            -- the parts
            refine ⟨fun σ H' => ∃ (D : Addr) (us : List V), σ = [some (.ref a), some (.ref l), some (.int ((e + 1 : Nat) : Int)), some (.int r), some (.ref D), none, none] ∧ Stp a n H H' ∧ H' D = some (.lst us) ∧ us.length = (if r = 3 then 3 else 2) ∧ Parts K H' ns e us, ?_, ?_⟩
            · refine ⟨_, rfl, rfl, _, rfl, ?_⟩
              rw [int_eq]
              by_cases c3 : r = 3
              · rw [decide_eq_true c3]
                refine iteT ⟨3, rfl, by decide, by decide, fun D nD => ?_⟩
                have hDa : D ≠ a := s1.1.has nD
                refine lc_range (n := 3) (fun i H' => ∃ us : List V, Stp a n H1 H' ∧ H' D = some (.lst us) ∧ us.length = i ∧ Parts K H' ns e us) ?_ ?_ ?_
                · exact ⟨[], .of s1.1 (same_upd nD), upd_same, rfl, fun v hv => by cases hv⟩
                · rintro i H3 hi ⟨us, s3, hD, hl', hu⟩
                  refine ⟨rfl, _, rfl, _, rfl, _, rfl, _, _, rfl, rfl, a, n, l, ns, e, congrArg (fun z => [V.ref a, V.ref l, V.int z]) (show (((e + 1 : Nat) : Int) - 1) = (e : Int) by omega), s3.1, (s1.trans s3).2 _ _ hl hla, hla, hne, hns, by omega, fun v x H4 s4 hA hW hdp2 => ?_⟩
                  have hD4 := s4.2 _ _ hD hDa
                  refine ⟨us, hD4, by rw [hl']; exact small1000 (by omega), us ++ [v], (s3.trans s4).upd s1.1 nD, upd_same, by rw [List.length_append, hl']; rfl, fun u hv' => ?_⟩
                  rcases List.mem_append.mp hv' with h | h
                  · exact ((hu.mono fun _ _ z => s4.tup s3.1 z).mono fun _ _ z => seqT_updL z hD4) u h
                  · rw [List.mem_singleton.mp h]
                    exact ⟨x, hA.updL hD4, hW, hdp2⟩
                · rintro H3 ⟨us, s3, hD, hul, hu⟩
                  exact ⟨D, us, rfl, s1.trans s3, hD, by rw [hul, if_pos c3], hu⟩
              · rw [decide_eq_false c3]
                refine iteF ⟨2, rfl, by decide, by decide, fun D nD => ?_⟩
                have hDa : D ≠ a := s1.1.has nD
                refine lc_range (n := 2) (fun i H' => ∃ us : List V, Stp a n H1 H' ∧ H' D = some (.lst us) ∧ us.length = i ∧ Parts K H' ns e us) ?_ ?_ ?_
                · exact ⟨[], .of s1.1 (same_upd nD), upd_same, rfl, fun v hv => by cases hv⟩
                · rintro i H3 hi ⟨us, s3, hD, hl', hu⟩
                  refine ⟨rfl, _, rfl, _, rfl, _, rfl, _, _, rfl, rfl, a, n, l, ns, e, congrArg (fun z => [V.ref a, V.ref l, V.int z]) (show (((e + 1 : Nat) : Int) - 1) = (e : Int) by omega), s3.1, (s1.trans s3).2 _ _ hl hla, hla, hne, hns, by omega, fun v x H4 s4 hA hW hdp2 => ?_⟩
                  have hD4 := s4.2 _ _ hD hDa
                  refine ⟨us, hD4, by rw [hl']; exact small1000 (by omega), us ++ [v], (s3.trans s4).upd s1.1 nD, upd_same, by rw [List.length_append, hl']; rfl, fun u hv' => ?_⟩
                  rcases List.mem_append.mp hv' with h | h
                  · exact ((hu.mono fun _ _ z => s4.tup s3.1 z).mono fun _ _ z => seqT_updL z hD4) u h
                  · rw [List.mem_singleton.mp h]
                    exact ⟨x, hA.updL hD4, hW, hdp2⟩
                · rintro H3 ⟨us, s3, hD, hul, hu⟩
                  exact ⟨D, us, rfl, s1.trans s3, hD, by rw [hul, if_neg c3], hu⟩
            · rintro σ H2 ⟨D, us, rfl, s2, hD, hul, hus⟩
              have hDa : D ≠ a := fun z => by
                obtain ⟨i, x, ms, e1, _⟩ := s2.1
                rw [z, e1] at hD
                cases hD
                obtain ⟨y, hy, _⟩ := hus (.int i) (by simp)
                cases y <;> (obtain ⟨p, hy⟩ := hy; first | (cases hy.1; done) | (obtain ⟨x1, hy⟩ := hy; first | (cases hy.1; done) | (obtain ⟨x2, hy⟩ := hy; first | (cases hy.1; done) | (obtain ⟨x3, hy⟩ := hy; cases hy.1))))
              refine ⟨_, rfl, rfl, _, rfl, ?_⟩
              rw [int_eq]
              by_cases c3 : r = 3
              · rw [decide_eq_true c3]
                rw [if_pos c3] at hul
                obtain ⟨v0, v1, v2, rfl⟩ : ∃ v0 v1 v2, us = [v0, v1, v2] := by
                  match us, hul with
                  | [v0, v1, v2], _ => exact ⟨v0, v1, v2, rfl⟩
                obtain ⟨e0, A0, W0, D0⟩ := hus v0 (by simp)
                obtain ⟨e1, A1, W1, D1⟩ := hus v1 (by simp)
                obtain ⟨e2, A2, W2, D2⟩ := hus v2 (by simp)
                refine iteT ⟨_, rfl, D, _, 0, _, rfl, rfl, .inl (.inl hD), atI_nat (j := 0) rfl, _, rfl, D, _, 1, _, rfl, rfl, .inl (.inl hD), atI_nat (j := 1) rfl, _, rfl, D, _, 2, _, rfl, rfl, .inl (.inl hD), atI_nat (j := 2) rfl, four, fun p np => ?_⟩
                have sp := same_upd (o := .tup [.str "if", v0, v1, v2]) np
                exact q (.ref p) (.ite e0 e1 e2) _ (s2.then sp) ⟨p, v0, v1, v2, rfl, .inl (.inl upd_same), A0.same sp, A1.same sp, A2.same sp⟩ ⟨W0, W1, W2⟩ (by show max e0.dep (max e1.dep e2.dep) + 1 ≤ e + 1; omega)
              · rw [decide_eq_false c3]
                rw [if_neg c3] at hul
                obtain ⟨v0, v1, rfl⟩ : ∃ v0 v1, us = [v0, v1] := by
                  match us, hul with
                  | [v0, v1], _ => exact ⟨v0, v1, rfl⟩
                obtain ⟨e0, A0, W0, D0⟩ := hus v0 (by simp)
                obtain ⟨e1, A1, W1, D1⟩ := hus v1 (by simp)
                refine iteF ⟨_, rfl, rfl, _, rfl, ?_⟩
                rw [int_eq]
                by_cases c4 : r = 4
                · rw [decide_eq_true c4]
                  refine iteT ⟨_, rfl, two, fun p1 np1 => ⟨a, n, p1, _, rfl, s2.1.same (same_upd np1), .inl (.inl upd_same), s2.1.has np1, by simp, by simp, fun v H3 hv s3 => ?_⟩⟩
                  have s23 := (Stp.of s2.1 (same_upd (o := .lst [.str "not", .str "neg"]) np1)).trans s3
                  have hD3 := s23.2 _ _ hD hDa
                  refine ⟨_, rfl, D, _, 0, _, rfl, rfl, .inl (.inl hD3), atI_nat (j := 0) rfl, two, fun p2 np2 => ?_⟩
                  obtain ⟨u, rfl, hu⟩ : ∃ u : Str, v = .str u ∧ u ∈ unW := by
                    simp at hv
                    rcases hv with rfl | rfl
                    · exact ⟨_, rfl, by decide +kernel⟩
                    · exact ⟨_, rfl, by decide +kernel⟩
                  have sp := same_upd (o := .tup [.str u, v0]) np2
                  exact q (.ref p2) (.un u e0) _ ((s2.trans s23).then sp) ⟨p2, v0, rfl, .inl (.inl upd_same), (A0.stp s2.1 s23).same sp⟩ ⟨hu, W0⟩ (by show e0.dep + 1 ≤ e + 1; omega)
                · rw [decide_eq_false c4]
                  refine iteF ⟨by show 16 ≤ sizeLine; decide, fun lo nlo => ?_⟩
                  have so := same_upd (o := .lst [.str "=", .str "!=", .str "<", .str "<=", .str ">", .str ">=", .str "+", .str "-", .str "*", .str "mod", .str "and", .str "or", .str "min", .str "max", .str "+", .str "-"]) nlo
                  refine ⟨_, rfl, _, rfl, a, n, lo, _, rfl, s2.1.same so, .inl (.inl upd_same), s2.1.has nlo, by simp, by simp, fun v H3 hv s3 => ?_⟩
                  have s23 := (Stp.of s2.1 so).trans s3
                  have hD3 := s23.2 _ _ hD hDa
                  refine ⟨_, rfl, D, _, 0, _, rfl, rfl, .inl (.inl hD3), atI_nat (j := 0) rfl, _, rfl, D, _, 1, _, rfl, rfl, .inl (.inl hD3), atI_nat (j := 1) rfl, three, fun p2 np2 => ?_⟩
                  obtain ⟨u, rfl, hu⟩ : ∃ u : Str, v = .str u ∧ u ∈ binW := by
                    obtain ⟨u, hu, e⟩ : ∃ u ∈ (["=", "!=", "<", "<=", ">", ">=", "+", "-", "*", "mod", "and", "or", "min", "max", "+", "-"] : List Str), V.str u = v := List.mem_map.mp hv
                    exact ⟨u, e.symm, ops_in u hu⟩
                  have sp := same_upd (o := .tup [.str u, v0, v1]) np2
                  exact q (.ref p2) (.bin u e0 e1) _ ((s2.trans s23).then sp) ⟨p2, v0, v1, rfl, .inl (.inl upd_same), (A0.stp s2.1 s23).same sp, (A1.stp s2.1 s23).same sp⟩ ⟨hu, W0, W1⟩ (by show max e0.dep e1.dep + 1 ≤ e + 1; omega)
end
end Lim
set_option maxHeartbeats 2000000
namespace Lim
open PySem PySem.Spec PyProof.Rows L2
abbrev sLaw : Stmt := topS 16
/-! dicts of names -/
theorem put_new {kvs : List (Key × V)} {k : Key} {v : V} (h : ∀ p ∈ kvs, p.1 ≠ k) : putK kvs k v = kvs ++ [(k, v)] := by
  unfold putK
  rw [if_neg]
  intro z
  obtain ⟨p, hp, e⟩ := List.any_eq_true.mp z
  exact h p hp (of_decide_eq_true e)
theorem merge_new : ∀ (more kvs : List (Key × V)), (more.map (·.1)).Nodup → (∀ p ∈ kvs, ∀ q ∈ more, p.1 ≠ q.1) → mergeK kvs more = kvs ++ more
  | [], kvs, _, _ => by simp [mergeK]
  | q :: r, kvs, hn, hd => by
    have hn' := List.nodup_cons.mp hn
    have ih := merge_new r (kvs ++ [q]) hn'.2 (fun p hp u hu => by
      rcases List.mem_append.mp hp with h | h
      · exact hd p h u (List.mem_cons_of_mem _ hu)
      · rw [List.mem_singleton.mp h]
        exact fun e => hn'.1 (by show q.1 ∈ r.map (fun x => x.1); rw [show q.1 = u.1 from e]; exact List.mem_map_of_mem hu))
    have e : putK kvs q.1 q.2 = kvs ++ [q] := put_new fun p hp => hd p hp q (List.mem_cons_self ..)
    show mergeK (putK kvs q.1 q.2) r = _
    rw [e, ih, List.append_assoc]
    rfl
theorem val_of : ∀ {qs : List (Str × Int)} {x : Str}, x ∈ qs.map (·.1) → ∃ z, valV (qs.map kvK) (.inr x) = some (.int z) ∧ ∃ q ∈ qs, q.2 = z
  | [], _, h => by cases h
  | q :: r, x, h => by
    by_cases e : q.1 = x
    · exact ⟨q.2, valV_pos (by show Sum.inr q.1 = Sum.inr x; rw [e]), q, List.mem_cons_self .., rfl⟩
    · have h2 : x ∈ r.map (·.1) := by
        rcases List.mem_cons.mp h with g | g
        · exact absurd g.symm e
        · exact g
      obtain ⟨z, h3, u, hu, h4⟩ := val_of h2
      refine ⟨z, ?_, u, List.mem_cons_of_mem _ hu, h4⟩
      rw [List.map_cons, valV_neg (fun g => e (by injection g))]
      exact h3
def rhoOf (qs : List (Str × Int)) (x : Str) : Int := match valV (qs.map kvK) (.inr x) with
  | some (.int z) => z
  | _ => 0
theorem rho_env {H : Hp} {vd : Addr} {qs : List (Str × Int)} (h : H vd = some (.dK (qs.map kvK))) (hb : ∀ q ∈ qs, q.2.natAbs ≤ 9) : EnvD H vd (qs.map (·.1)) (rhoOf qs) := by
  refine ⟨_, h, fun x hx => ?_⟩
  obtain ⟨z, h1, q, hq, e⟩ := val_of hx
  have e2 : rhoOf qs x = z := by
    unfold rhoOf
    rw [h1]
  rw [e2]
  refine ⟨h1, ?_⟩
  have := hb q hq
  rw [e] at this
  omega
theorem Paired_app {α β : Type} {R : α → β → Prop} : ∀ {xs xs' : List α} {ys ys' : List β}, Paired R xs ys → Paired R xs' ys' → Paired R (xs ++ xs') (ys ++ ys')
  | _, _, _, _, .nil, h => h
  | _, _, _, _, .cons r rs, h => .cons r (Paired_app rs h)
theorem int_shn {z : Int} (h : z.natAbs.log2 < 1500) : Shn (.int z) := by
  have e : (PyData.shown (.int z)) = Str.ofString (toString z) := by simp [PyData.shown]
  refine ⟨by simp [PyData.showable]; omega, rfl, Nat.zero_le _, ?_⟩
  rw [e]
  have h1 := int_text_length_le (a := z) (k := 1920) (by decide) (by omega)
  rw [PySem.ofString_length, sizeLine_eq]
  omega
theorem dict_show : ∀ {qs : List (Str × Int)}, (∀ q ∈ qs, q.2.natAbs ≤ 9 ∧ (reprText q.1).length ≤ 100) →
    PyData.showableKv (qs.map kvD) = true ∧ PyData.depthKv (qs.map kvD) = 0 ∧ ((PyData.shownKv (qs.map kvD)).map (·.length)).sum ≤ 2200 * qs.length ∧ (PyData.shownKv (qs.map kvD)).length = qs.length
  | [], _ => by simp [PyData.showableKv, PyData.depthKv, PyData.shownKv]
  | q :: r, h => by
    obtain ⟨h1, h2, h3, h4⟩ := dict_show (qs := r) fun u hu => h u (List.mem_cons_of_mem _ hu)
    obtain ⟨hq, hx⟩ := h q (List.mem_cons_self ..)
    have hz : q.2.natAbs < 2 ^ 200 := by omega
    have hl := int_len hz
    refine ⟨?_, ?_, ?_, ?_⟩
    · show (PyData.showable (.str q.1) && PyData.showable (.int q.2) && PyData.showableKv (r.map kvD)) = true
      rw [h1, (Shn.int hz).sh]
      rfl
    · show max (max 0 0) (PyData.depthKv (r.map kvD)) = 0
      rw [h2]
      rfl
    · rw [List.map_cons]
      show (List.map (·.length) (_ :: PyData.shownKv (r.map kvD))).sum ≤ _
      rw [List.map_cons, List.sum_cons, List.length_cons]
      have h5 : ((PyData.shown (.str q.1)) ++ (": " : Str) ++ PyData.shown (.int q.2)).length ≤ 2102 := by
        rw [strLen_append, strLen_append]
        have h6 : (PyData.shown (.str q.1)).length ≤ 100 := hx
        have h7 : ((": " : Str)).length = 2 := by decide +kernel
        omega
      have h8 : ∀ t : Str, t = (PyData.shown (.str q.1)) ++ (": " : Str) ++ PyData.shown (.int q.2) → t.length ≤ 2102 := fun t e => by
        rw [e]
        exact h5
      have h9 := h8 _ rfl
      refine Nat.le_trans (Nat.add_le_add h9 h3) ?_
      omega
    · show (_ :: PyData.shownKv (r.map kvD)).length = _
      rw [List.length_cons, h4, List.length_cons]
theorem dict_ok {qs : List (Str × Int)} (h : ∀ q ∈ qs, q.2.natAbs ≤ 9 ∧ (reprText q.1).length ≤ 100) (hl : qs.length ≤ 3) : (PyData.dict (qs.map kvD)).showable = true ∧ (PyData.dict (qs.map kvD)).depth ≤ 60 ∧ (PyData.dict (qs.map kvD)).shown.length ≤ sizeLine := by
  obtain ⟨h1, h2, h3, h4⟩ := dict_show h
  refine ⟨by rw [PyData.showable, h1], by rw [PyData.depth, h2]; decide, ?_⟩
  rw [PyData.shown]
  have h5 := dictText_len_le (PyData.shownKv (qs.map kvD))
  rw [sizeLine_eq]
  omega
section
variable {P : Program} {w : World} {K : PySem.W.Frag} {mg : Str → Option Value} {base : Heap}
abbrev nLaw : List Str := ["script", "source", "turn", "names", "expression", "time", "values", "before", "found", "name"]
theorem scLaw : FnScope nLaw ["script"] (defScope sLaw) := ⟨rfl, rfl, rfl, by decide +kernel, rfl, by decide +kernel, by decide +kernel⟩
def spLaw (K : PySem.W.Frag) : Sp := fun vs H Q _ => ∃ (a : Addr) (ns : List Int), vs = [.ref a] ∧ SqL K H a (ns.map V.int) ∧ ns.length ≤ 63 ∧ ∀ H', Q (.bl true) H'
structure Calls (P : Program) (w : World) (K : PySem.W.Frag) (mg : Str → Option Value) (base : Heap) (k : Nat) : Prop where
  sou : ∃ f fd, FnOk P w K mg base CX0 k f fd ["script"] (spSou K) ∧ mg "_law_source" = some (.ref f) ∧ PySem.W.keepIn K (.ref f) = true ∧ Binds K fd ["script"] []
  pic : ∃ f fd, FnOk P w K mg base CX0 k f fd ["source", "many"] spPic ∧ mg "_law_pick" = some (.ref f) ∧ PySem.W.keepIn K (.ref f) = true ∧ Binds K fd ["source", "many"] []
  xpr : ∃ f fd, FnOk P w K mg base CX0 k f fd ["source", "names", "depth"] (spXpr K 7) ∧ mg "_law_expression" = some (.ref f) ∧ PySem.W.keepIn K (.ref f) = true ∧ Binds K fd ["source", "names", "depth"] []
  eva : ∃ f fd, FnOk P w K mg base CX0 k f fd ["expression", "values"] (spEva K 7) ∧ mg "evaluate" = some (.ref f) ∧ PySem.W.keepIn K (.ref f) = true ∧ Binds K fd ["expression", "values"] []
  val : ∃ f fd, FnOk P w K mg base CX0 k f fd ["expression", "values"] (spVal K 7) ∧ mg "_law_value" = some (.ref f) ∧ PySem.W.keepIn K (.ref f) = true ∧ Binds K fd ["expression", "values"] []
  ide : ∃ f fd, FnG P w K mg base k f fd ["found", "expected"] (spIde K) ∧ mg "_law_equal" = some (.ref f) ∧ PySem.W.keepIn K (.ref f) = true ∧ Binds K fd ["found", "expected"] []
  range : mg "range" = none
  dict : mg "dict" = none
  repr : mg "repr" = none
/-- the names -/
structure Nms (ns : List Str) : Prop where
  nd : ns.Nodup
  ne : ns ≠ []
  le : ns.length ≤ 3
  rt : ∀ x ∈ ns, (reprText x).length ≤ 100
theorem nms_take (j : Nat) (h : 1 ≤ j) : Nms ((["x", "count", "a1"] : List Str).take j) := by
  have sub : ((["x", "count", "a1"] : List Str).take j).Sublist ["x", "count", "a1"] := List.take_sublist _ _
  refine ⟨sub.nodup (by decide +kernel), fun e => ?_, Nat.le_trans sub.length_le (by decide), fun x hx => ?_⟩
  · cases j with
    | zero => omega
    | succ j => simp at e
  · have := sub.subset hx
    simp at this
    rcases this with rfl | rfl | rfl
    all_goals decide +kernel
theorem ok_law {f : Addr} {fd : FuncData} {k : Nat} (F : Fun K "law" "law" sLaw f fd) (C : Calls P w K mg base k) : FnG P w K mg base (k + 1) f fd ["script"] (spLaw K) := by
  obtain ⟨fD, dD, GD, gD, kD, bD⟩ := C.sou
  obtain ⟨fP, dP, GP, gP, kP, bP⟩ := C.pic
  obtain ⟨fX, dX, GX, gX, kX, bX⟩ := C.xpr
  obtain ⟨fE, dE, GE, gE, kE, bE⟩ := C.eva
  obtain ⟨fU, dU, GU, gU, kU, bU⟩ := C.val
  obtain ⟨fI, dI, GI, gI, kI, bI⟩ := C.ide
  have mr := C.range
  have mdi := C.dict
  have mre := C.repr
  refine Fun_okG F scLaw (fun vs H Q E h => ?_) (fun cdv B below s H vs Q E hg hr h => ?_)
  · obtain ⟨a, ns, rfl, _⟩ := h
    rfl
  · obtain ⟨a, ns, rfl, hS, hlen, q⟩ := h
    have hun : (cxOf CX0 P w K mg base nLaw "law" (defScope sLaw) f cdv B below s H E).nox.A.units + 100 < cLine := by
      have := hr.un
      show (B.deeper _).units + 100 < cLine
      omega
    refine ⟨_, (pss_cons (ps_set (i := 1) scLaw.nd rfl (.inr rfl) (pe_call GD hr (by rfl) gD kD bD .nil pass0 (pa_cons (pv 0) pa_nil)))
        (pss_cons (ps_for PassesOwn.never rfl (pi_range1 rfl mr (pa_cons pe_int pa_nil)) (pg_name (i := 2) scLaw.nd rfl (.inl rfl)) (C8.pss_cut (ps_set (i := 3) scLaw.nd rfl (.inl rfl) (pe_slice sl_list (pe_lst (pa_cons (pe_str) (pa_cons (pe_str) (pa_cons (pe_str) pa_nil)))) (po_none) (po_some (pe_op op_add (pe_int) (pe_call GP hr (by rfl) gP kP bP .nil pass0 (pa_cons (pv 1) (pa_cons (pe_int) pa_nil)))))))
        (C8.pss_cut (ps_set (i := 4) scLaw.nd rfl (.inl rfl) (pe_call GX hr (by rfl) gX kX bX .nil pass0 (pa_cons (pv 1) (pa_cons (pv 3) (pa_cons (pe_op op_add (pe_int) (pe_call GP hr (by rfl) gP kP bP .nil pass0 (pa_cons (pv 1) (pa_cons (pe_int) pa_nil)))) pa_nil)))))
        (pss_one (ps_for PassesOwn.never rfl (pi_range1 rfl mr (pa_cons pe_int pa_nil)) (pg_name (i := 5) scLaw.nd rfl (.inl rfl)) (C8.pss_cut (ps_set (i := 6) scLaw.nd rfl (.inl rfl) (pe_callTy (call_dictP rfl) (by rfl) mdi (by decide +kernel) (pa_cons (pe_lc (own := [("name", 9)]) (g := gName 9) (tt := tYes) (by rfl) scLaw.nd (pi_list (pv 3)) (blkOk_by (N := nLaw) (sc := defScope sLaw) (by decide +kernel)) (fun _ _ _ _ _ => pg_name (i := 9) scLaw.nd rfl (.inl rfl)) (fun _ _ _ _ _ => pts_nil) (fun _ _ _ _ _ => pe_tup (pa_cons (pv 9) (pa_cons (pe_op op_sub (pe_call GP hr (by rfl) gP kP bP .nil pass0 (pa_cons (pv 1) (pa_cons (pe_int) pa_nil))) (pe_int)) pa_nil)))) pa_nil)))
        (pss_cons (ps_set (i := 7) scLaw.nd rfl (.inl rfl) (pe_callB (call_reprK hg hun) (by rfl) mre (by decide +kernel) (pa_cons (pv 6) pa_nil)))
        (pss_cons (ps_set (i := 8) scLaw.nd rfl (.inl rfl) (pe_call GE hr (by rfl) gE kE bE .nil pass0 (pa_cons (pv 4) (pa_cons (pv 6) pa_nil))))
        (pss_one (ps_if (PW.pt (pw_or (pt_not (pt_val (pe_g GI hg hr (by rfl) gI kI bI (pa_cons (pv 8) (pa_cons (pe_call GU hr (by rfl) gU kU bU .nil pass0 (pa_cons (pv 4) (pa_cons (pv 6) pa_nil))) pa_nil))))) (pw_or1 (pt_cmpR op_ne (pe_callB (call_reprK hg hun) (by rfl) mre (by decide +kernel) (pa_cons (pv 6) pa_nil)) (pv 7) (nomark _))))) (pss_one (ps_ret (pe_bl))) pss_nil))))))))))
        (pss_one (ps_ret (pe_bl))))), ?_⟩
    have two : 2 ≤ sizeLine := by show 2 ≤ sizeLine; decide
    have three : 3 ≤ sizeLine := by show 3 ≤ sizeLine; decide
    refine ⟨_, rfl, a, ns, rfl, hS, hlen, fun H0 src n sm0 nsrc nn hsrc => ?_⟩
    refine ⟨6, rfl, by decide, by decide, for_range (n := 6) (fun t σ H' => ∃ y2 y3 y4 y5 y6 y7 y8 y9 : Option V, σ = [some (.ref a), some (.ref src), y2, y3, y4, y5, y6, y7, y8, y9] ∧ Src H' src n) ⟨_, _, _, _, _, _, _, _, rfl, hsrc⟩ ?_ ?_⟩
    · rintro t σ H1 ht ⟨y2, y3, y4, y5, y6, y7, y8, y9, rfl, hs⟩
      -- names
      refine ⟨fun σ H' => ∃ (l : Addr) (xs : List Str), σ = [some (.ref a), some (.ref src), some (.int (0 + (t : Int))), some (.ref l), y4, y5, y6, y7, y8, y9] ∧ Src H' src n ∧ H' l = some (.lst (xs.map V.str)) ∧ l ≠ src ∧ Nms xs, ?_, ?_⟩
      · refine ⟨three, fun l0 nl0 => ⟨_, rfl, src, n, _, rfl, hs.same (same_upd nl0), by decide, by decide, fun r H2 h0 h1 s2 => ⟨_, _, rfl, rfl, _, rfl, l0, [.str "x", .str "count", .str "a1"], rfl, ?_, fun l nl => ?_⟩⟩⟩
        · exact .inl (.inl (s2.2 _ _ upd_same (hs.has nl0)))
        · have h1' : r < 3 := h1
          obtain ⟨j, hj⟩ : ∃ j : Nat, (1 : Int) + r = (j : Int) ∧ 1 ≤ j := ⟨(1 + r).toNat, by omega, by omega⟩
          refine ⟨l, (["x", "count", "a1"] : List Str).take j, rfl, s2.1.same (same_upd nl), ?_, s2.1.has nl, nms_take j hj.2⟩
          rw [upd_same, show (1 : Int) + r = (j : Int) from hj.1]
          rw [cut_to, List.map_take]
          rfl
      · clear y3
        rintro σ H2 ⟨l, xs, rfl, hs2, hl, hls, hN⟩
        -- the expression
        refine ⟨fun σ H' => ∃ (v : V) (e : Ex), σ = [some (.ref a), some (.ref src), some (.int (0 + (t : Int))), some (.ref l), some v, y5, y6, y7, y8, y9] ∧ Stp src n H2 H' ∧ At K H' e v ∧ Wf xs e ∧ e.dep ≤ 5, ?_, ?_⟩
        · refine ⟨_, rfl, _, rfl, _, rfl, src, n, _, rfl, hs2, by decide, by decide, fun r H3 h0 h1 s3 => ⟨_, _, rfl, rfl, ?_⟩⟩
          have h1' : r < 5 := h1
          obtain ⟨j, hj⟩ : ∃ j : Nat, (1 : Int) + r = (j : Int) ∧ j ≤ 5 := ⟨(1 + r).toNat, by omega, by omega⟩
          refine ⟨src, n, l, xs, j, congrArg (fun z => [V.ref src, V.ref l, V.int z]) hj.1, s3.1, s3.2 _ _ hl hls, hls, hN.ne, by have := hN.le; omega, by omega, fun v e H4 s4 hA hW hd => ?_⟩
          exact ⟨v, e, rfl, s3.trans s4, hA, hW, by omega⟩
        · rintro σ H3 ⟨v, e, rfl, s3, hA3, hW, hdep⟩
          have hl3 := s3.2 _ _ hl hls
          refine ⟨4, rfl, by decide, by decide, for_range (n := 4) (fun u σ H' => ∃ y5 y6 y7 y8 : Option V, σ = [some (.ref a), some (.ref src), some (.int (0 + (t : Int))), some (.ref l), some v, y5, y6, y7, y8, y9] ∧ Stp src n H3 H') ⟨_, _, _, _, rfl, .refl s3.1⟩ ?_ ?_⟩
          · rintro u σ H4 hu ⟨y5, y6, y7, y8, rfl, s4⟩
            have hl4 := s4.2 _ _ hl3 hls
            have hA4 := hA3.stp s3.1 s4
            -- the values
            refine ⟨fun σ H' => ∃ (vd : Addr) (qs : List (Str × Int)), σ = [some (.ref a), some (.ref src), some (.int (0 + (t : Int))), some (.ref l), some v, some (.int (0 + (u : Int))), some (.ref vd), y7, y8, y9] ∧ Stp src n H4 H' ∧ H' vd = some (.dK (qs.map kvK)) ∧ qs.map (·.1) = xs ∧ ∀ q ∈ qs, q.2.natAbs ≤ 9, ?_, ?_⟩
            · refine ⟨_, rfl, l, rfl, ⟨_, .inl (.inl hl4)⟩, fun D nD => ?_⟩
              have hDs : D ≠ src := s4.1.has nD
              have hlD : l ≠ D := ne_of_none hl4 nD
              refine lc_list (K := K) (a := l) (xs := xs.map V.str) (fun i H' => ∃ (ps : List Addr) (qs : List (Str × Int)), Stp src n H4 H' ∧ H' D = some (.lst (ps.map V.ref)) ∧ ps.length = i ∧ Paired (fun p (kv : Key × V) => SqT K H' p [kV kv.1, kv.2]) ps (qs.map kvK) ∧ qs.map (·.1) = xs.take i ∧ ∀ q ∈ qs, q.2.natAbs ≤ 9) ?_ ?_ ?_ ?_
              · exact ⟨[], [], .of s4.1 (same_upd nD), upd_same, rfl, .nil, rfl, fun q hq => by cases hq⟩
              · rintro i H5 _ ⟨ps, qs, s5, _⟩
                exact .inl (.inl (s5.2 _ _ hl4 hls))
              · rintro i y H5 hy ⟨ps, qs, s5, hD5, hpl, hP, hq, hb⟩
                obtain ⟨x, hx, rfl⟩ : ∃ x, xs[i]? = some x ∧ y = .str x := by
                  rw [List.getElem?_map] at hy
                  cases h : xs[i]? with
                  | none =>
                    rw [h] at hy
                    cases hy
                  | some x =>
                    rw [h] at hy
                    exact ⟨x, rfl, (Option.some.inj hy).symm⟩
                refine ⟨rfl, _, rfl, _, rfl, src, n, _, rfl, s5.1, by decide, by decide, fun r H6 h0 h1 s6 => ⟨_, _, rfl, rfl, two, fun pp np => ?_⟩⟩
                have h1' : r < 19 := h1
                have sp := same_upd (o := .tup [.str x, .int (r - 9)]) np
                have hD6 := sp _ _ (s6.2 _ _ hD5 hDs)
                refine ⟨ps.map V.ref, hD6, ?_, ps ++ [pp], qs ++ [(x, r - 9)], ((s5.trans s6).then sp).upd s4.1 nD, by rw [upd_same, List.map_append]; rfl, by rw [List.length_append, hpl]; rfl, ?_, ?_, fun q hq' => ?_⟩
                · rw [List.length_map, hpl]
                  have := (List.getElem?_eq_some_iff.mp hx).1
                  have := hN.le
                  exact small1000 (by omega)
                · have keep : ∀ (p : Addr) (zs : List V), SqT K H5 p zs → SqT K (upd (upd H6 pp (.tup [.str x, .int (r - 9)])) D (.lst (ps.map V.ref ++ [.ref pp]))) p zs := fun _ _ z => seqT_updL (Same.seqT sp (s6.tup s5.1 z)) hD6
                  rw [List.map_append]
                  refine Paired_app (Paired.mapP hP fun _ _ z => keep _ _ z) (.cons ?_ .nil)
                  exact seqT_updL (.inl (.inl upd_same)) hD6
                · rw [List.map_append, hq, List.take_add_one, hx]
                  rfl
                · rcases List.mem_append.mp hq' with h | h
                  · exact hb q h
                  · rw [List.mem_singleton.mp h]
                    show (r - 9).natAbs ≤ 9
                    omega
              · rintro H5 ⟨ps, qs, s5, hD5, hpl, hP, hq, hb⟩
                rw [List.length_map, List.take_length] at hq
                refine ⟨D, ps, _, rfl, .inl (.inl hD5), hP, fun vd nvd => ?_⟩
                have em : mergeK [] (qs.map kvK) = qs.map kvK := by
                  rw [merge_new _ _ ?_ (fun p hp => by cases hp), List.nil_append]
                  have e : (qs.map kvK).map (·.1) = (qs.map (·.1)).map Sum.inr := by
                    rw [List.map_map, List.map_map]
                    rfl
                  rw [e, hq]
                  exact List.Pairwise.map _ (fun a b h z => h (by injection z)) hN.nd
                rw [em]
                exact ⟨vd, qs, rfl, s5.then (same_upd nvd), upd_same, hq, hb⟩
            · rintro σ H5 ⟨vd, qs, rfl, s5, hvd, hq, hb⟩
              have hA5 := hA4.stp s4.1 s5
              have hE := rho_env hvd hb
              rw [hq] at hE
              obtain ⟨k1, k2, k3⟩ := dict_ok (qs := qs) (fun q hq' => ⟨hb q hq', hN.rt q.1 (by rw [← hq]; exact List.mem_map_of_mem hq')⟩) (by have := hN.le; rw [← hq, List.length_map] at this; exact this)
              refine ⟨_, rfl, vd, qs, rfl, hvd, k1, k2, k3, ?_⟩
              refine ⟨_, rfl, _, rfl, v, e, vd, xs, _, rfl, hA5, hW, by omega, by omega, hE, ?_⟩
              refine ⟨_, rfl, _, rfl, _, rfl, v, e, vd, xs, _, rfl, hA5, hW, by omega, by omega, hE, fun H6 s6 => ?_⟩
              refine ⟨_, _, _, rfl, .int _, .int _, int_shn (bnd_log (pow_sq (evE_lt hE.le hW) (bnd_mono (show e.dep ≤ 6 by omega))) (Nat.le_refl _)), true, rfl, iteF ?_⟩
              refine ⟨_, rfl, vd, qs, rfl, s6 _ _ hvd, k1, k2, k3, _, rfl, rfl, _, rfl, ?_⟩
              rw [decide_eq_true rfl]
              exact ⟨_, _, _, _, rfl, (s4.trans s5).then s6⟩
          · rintro σ H4 ⟨y5, y6, y7, y8, rfl, s4⟩
            exact ⟨_, _, _, _, _, _, _, _, rfl, s4.1⟩
    · rintro σ H1 ⟨_, _, _, _, _, _, _, _, rfl, _⟩
      exact q _
end
end Lim
set_option maxHeartbeats 8000000
namespace Lim
open PySem PySem.Spec PyProof.Rows L2
theorem all_mk {P : Program} {w : World} {K : PySem.W.Frag} {h : Heap} {mg : Str → Option Value} {fa f1 f2 f3 f4 f5 f6 f7 f8 f9 f10 f11 f12 : Addr} {od1 an1 od2 an2 od3 an3 od4 an4 od5 an5 od6 an6 od7 an7 od8 an8 od9 an9 od10 an10 od11 an11 od12 an12 : Option Addr} {sl1 sl2 sl3 sl4 sl5 sl6 sl7 sl8 sl9 sl10 sl11 sl12 : Array (Option Value)} {oc1 kV1 dc1 pm1 cd1 ct1 oc2 kV2 dc2 pm2 cd2 ct2 oc3 kV3 dc3 pm3 cd3 ct3 oc4 kV4 dc4 pm4 cd4 ct4 oc5 kV5 dc5 pm5 cd5 ct5 oc6 kV6 dc6 pm6 cd6 ct6 oc7 kV7 dc7 pm7 cd7 ct7 oc8 kV8 dc8 pm8 cd8 ct8 oc9 kV9 dc9 pm9 cd9 ct9 oc10 kV10 dc10 pm10 cd10 ct10 oc11 kV11 dc11 pm11 cd11 ct11 oc12 kV12 dc12 pm12 cd12 ct12 : Value} {dR : Addr} {dE : Array DictEntry} {dn : Nat} {tN tC : Tok} {tr0 : Tok} {tr1 : Tok} {tr2 : Tok} {tr3 : Tok} {tr4 : Tok} {tr5 : Tok} {tr6 : Tok} {tr7 : Tok} {tr8 : Tok} {tr9 : Tok} {tr10 : Tok} {tr11 : Tok} (X : K.In h) (G : h.Ns mainGlobals mg) (hfa : mg "law" = some (.ref fa))
    (a1 : PySem.W.nsIn K mainGlobals "evaluate" = some (some (.ref f1))) (l1 : K.lookup f1 = some ⟨oc1, od1, .func (PySem.W.fnOf "evaluate" "evaluate" (defArgs sEva) (defBody sEva) (defScope sEva) .none kV1 dc1 pm1 an1 cd1 ct1), sl1⟩) (c1 : PySem.W.codeIn K cd1 "evaluate" = true) (k1 : PySem.W.keepIn K (.ref f1) = true)
    (a2 : PySem.W.nsIn K mainGlobals "holds" = some (some (.ref f2))) (l2 : K.lookup f2 = some ⟨oc2, od2, .func (PySem.W.fnOf "holds" "holds" (defArgs sHol) (defBody sHol) (defScope sHol) .none kV2 dc2 pm2 an2 cd2 ct2), sl2⟩) (c2 : PySem.W.codeIn K cd2 "holds" = true) (k2 : PySem.W.keepIn K (.ref f2) = true)
    (a3 : PySem.W.nsIn K mainGlobals "calculate" = some (some (.ref f3))) (l3 : K.lookup f3 = some ⟨oc3, od3, .func (PySem.W.fnOf "calculate" "calculate" (defArgs sCal) (defBody sCal) (defScope sCal) .none kV3 dc3 pm3 an3 cd3 ct3), sl3⟩) (c3 : PySem.W.codeIn K cd3 "calculate" = true) (k3 : PySem.W.keepIn K (.ref f3) = true)
    (a4 : PySem.W.nsIn K mainGlobals "_law_mixed" = some (some (.ref f4))) (l4 : K.lookup f4 = some ⟨oc4, od4, .func (PySem.W.fnOf "_law_mixed" "_law_mixed" (defArgs sMix) (defBody sMix) (defScope sMix) .none kV4 dc4 pm4 an4 cd4 ct4), sl4⟩) (c4 : PySem.W.codeIn K cd4 "_law_mixed" = true) (k4 : PySem.W.keepIn K (.ref f4) = true)
    (a5 : PySem.W.nsIn K mainGlobals "_law_source" = some (some (.ref f5))) (l5 : K.lookup f5 = some ⟨oc5, od5, .func (PySem.W.fnOf "_law_source" "_law_source" (defArgs sSou) (defBody sSou) (defScope sSou) .none kV5 dc5 pm5 an5 cd5 ct5), sl5⟩) (c5 : PySem.W.codeIn K cd5 "_law_source" = true) (k5 : PySem.W.keepIn K (.ref f5) = true)
    (a6 : PySem.W.nsIn K mainGlobals "_law_pick" = some (some (.ref f6))) (l6 : K.lookup f6 = some ⟨oc6, od6, .func (PySem.W.fnOf "_law_pick" "_law_pick" (defArgs sPic) (defBody sPic) (defScope sPic) .none kV6 dc6 pm6 an6 cd6 ct6), sl6⟩) (c6 : PySem.W.codeIn K cd6 "_law_pick" = true) (k6 : PySem.W.keepIn K (.ref f6) = true)
    (a7 : PySem.W.nsIn K mainGlobals "_law_choose" = some (some (.ref f7))) (l7 : K.lookup f7 = some ⟨oc7, od7, .func (PySem.W.fnOf "_law_choose" "_law_choose" (defArgs sCho) (defBody sCho) (defScope sCho) .none kV7 dc7 pm7 an7 cd7 ct7), sl7⟩) (c7 : PySem.W.codeIn K cd7 "_law_choose" = true) (k7 : PySem.W.keepIn K (.ref f7) = true)
    (a8 : PySem.W.nsIn K mainGlobals "_law_equal" = some (some (.ref f8))) (l8 : K.lookup f8 = some ⟨oc8, od8, .func (PySem.W.fnOf "_law_equal" "_law_equal" (defArgs sIde) (defBody sIde) (defScope sIde) .none kV8 dc8 pm8 an8 cd8 ct8), sl8⟩) (c8 : PySem.W.codeIn K cd8 "_law_equal" = true) (k8 : PySem.W.keepIn K (.ref f8) = true)
    (a9 : PySem.W.nsIn K mainGlobals "_law_expression" = some (some (.ref f9))) (l9 : K.lookup f9 = some ⟨oc9, od9, .func (PySem.W.fnOf "_law_expression" "_law_expression" (defArgs sXpr) (defBody sXpr) (defScope sXpr) .none kV9 dc9 pm9 an9 cd9 ct9), sl9⟩) (c9 : PySem.W.codeIn K cd9 "_law_expression" = true) (k9 : PySem.W.keepIn K (.ref f9) = true)
    (a10 : PySem.W.nsIn K mainGlobals "_law_two" = some (some (.ref f10))) (l10 : K.lookup f10 = some ⟨oc10, od10, .func (PySem.W.fnOf "_law_two" "_law_two" (defArgs sTwo) (defBody sTwo) (defScope sTwo) .none kV10 dc10 pm10 an10 cd10 ct10), sl10⟩) (c10 : PySem.W.codeIn K cd10 "_law_two" = true) (k10 : PySem.W.keepIn K (.ref f10) = true)
    (a11 : PySem.W.nsIn K mainGlobals "_law_value" = some (some (.ref f11))) (l11 : K.lookup f11 = some ⟨oc11, od11, .func (PySem.W.fnOf "_law_value" "_law_value" (defArgs sVal) (defBody sVal) (defScope sVal) .none kV11 dc11 pm11 an11 cd11 ct11), sl11⟩) (c11 : PySem.W.codeIn K cd11 "_law_value" = true) (k11 : PySem.W.keepIn K (.ref f11) = true)
    (a12 : PySem.W.nsIn K mainGlobals "law" = some (some (.ref f12))) (l12 : K.lookup f12 = some ⟨oc12, od12, .func (PySem.W.fnOf "law" "law" (defArgs sLaw) (defBody sLaw) (defScope sLaw) .none kV12 dc12 pm12 an12 cd12 ct12), sl12⟩) (c12 : PySem.W.codeIn K cd12 "law" = true) (k12 : PySem.W.keepIn K (.ref f12) = true)
    (z0 : PySem.W.nsIn K mainGlobals "range" = some none)
    (z1 : PySem.W.nsIn K mainGlobals "len" = some none)
    (z2 : PySem.W.nsIn K mainGlobals "enumerate" = some none)
    (z3 : PySem.W.nsIn K mainGlobals "abs" = some none)
    (z4 : PySem.W.nsIn K mainGlobals "repr" = some none)
    (z5 : PySem.W.nsIn K mainGlobals "int" = some none)
    (z6 : PySem.W.nsIn K mainGlobals "dict" = some none)
    (z7 : PySem.W.nsIn K mainGlobals "min" = some none)
    (z8 : PySem.W.nsIn K mainGlobals "max" = some none)
    (z9 : PySem.W.nsIn K mainGlobals "sorted" = some none)
    (pG : PySem.W.nsIn K mainGlobals "PAIR_RANKS" = some (some (.ref dR)))
    (dL : K.lookup dR = some ⟨.type "dict", none, .dict dE dn, #[]⟩)
    (pN : PySem.W.nsIn K mainGlobals "NEGATIVE_RANK" = some (some (.int 7 tN)))
    (pC : PySem.W.nsIn K mainGlobals "COMPARISON_RANK" = some (some (.int 4 tC)))
    (r0 : PySem.W.nsIn K dR "or" = some (some (.int 1 tr0)))
    (r1 : PySem.W.nsIn K dR "and" = some (some (.int 2 tr1)))
    (r2 : PySem.W.nsIn K dR "=" = some (some (.int 4 tr2)))
    (r3 : PySem.W.nsIn K dR "!=" = some (some (.int 4 tr3)))
    (r4 : PySem.W.nsIn K dR "<" = some (some (.int 4 tr4)))
    (r5 : PySem.W.nsIn K dR "<=" = some (some (.int 4 tr5)))
    (r6 : PySem.W.nsIn K dR ">" = some (some (.int 4 tr6)))
    (r7 : PySem.W.nsIn K dR ">=" = some (some (.int 4 tr7)))
    (r8 : PySem.W.nsIn K dR "+" = some (some (.int 5 tr8)))
    (r9 : PySem.W.nsIn K dR "-" = some (some (.int 5 tr9)))
    (r10 : PySem.W.nsIn K dR "*" = some (some (.int 6 tr10)))
    (r11 : PySem.W.nsIn K dR "mod" = some (some (.int 6 tr11)))
    (r12 : PySem.W.nsIn K dR "min" = some none)
    (r13 : PySem.W.nsIn K dR "max" = some none)
    (dK : PySem.W.KeysLit w.params dE.toList)
    (dl : (dR == sysModules) = false) :
    ∃ fd : FuncData, (∀ (s : Shared) (u : Value), BindsTo s fd ⟨[u], []⟩ [("script", u)]) ∧ ∀ base : Heap, K.In base → base.Ns mainGlobals mg → FnG P w K mg base 11 fa fd ["script"] (spLaw K) := by
  have e := hfa.symm.trans (PySem.W.mg_of X G a12)
  cases e
  have F1 := fun_mk (st := sEva) l1 c1 k1
  have b1 := F1.binds (ps := ["expression", "values"]) fun _ _ _ _ _ _ us hl => match us, hl with | [_, _], _ => rfl
  have g1 := PySem.W.mg_of X G a1
  have F2 := fun_mk (st := sHol) l2 c2 k2
  have b2 := F2.binds (ps := ["sign", "first", "second"]) fun _ _ _ _ _ _ us hl => match us, hl with | [_, _, _], _ => rfl
  have g2 := PySem.W.mg_of X G a2
  have F3 := fun_mk (st := sCal) l3 c3 k3
  have b3 := F3.binds (ps := ["sign", "first", "second"]) fun _ _ _ _ _ _ us hl => match us, hl with | [_, _, _], _ => rfl
  have g3 := PySem.W.mg_of X G a3
  have F4 := fun_mk (st := sMix) l4 c4 k4
  have b4 := F4.binds (ps := ["number", "place"]) fun _ _ _ _ _ _ us hl => match us, hl with | [_, _], _ => rfl
  have g4 := PySem.W.mg_of X G a4
  have F5 := fun_mk (st := sSou) l5 c5 k5
  have b5 := F5.binds (ps := ["script"]) fun _ _ _ _ _ _ us hl => match us, hl with | [_], _ => rfl
  have g5 := PySem.W.mg_of X G a5
  have F6 := fun_mk (st := sPic) l6 c6 k6
  have b6 := F6.binds (ps := ["source", "many"]) fun _ _ _ _ _ _ us hl => match us, hl with | [_, _], _ => rfl
  have g6 := PySem.W.mg_of X G a6
  have F7 := fun_mk (st := sCho) l7 c7 k7
  have b7 := F7.binds (ps := ["source", "options"]) fun _ _ _ _ _ _ us hl => match us, hl with | [_, _], _ => rfl
  have g7 := PySem.W.mg_of X G a7
  have F8 := fun_mk (st := sIde) l8 c8 k8
  have b8 := F8.binds (ps := ["found", "expected"]) fun _ _ _ _ _ _ us hl => match us, hl with | [_, _], _ => rfl
  have g8 := PySem.W.mg_of X G a8
  have F9 := fun_mk (st := sXpr) l9 c9 k9
  have b9 := F9.binds (ps := ["source", "names", "depth"]) fun _ _ _ _ _ _ us hl => match us, hl with | [_, _, _], _ => rfl
  have g9 := PySem.W.mg_of X G a9
  have F10 := fun_mk (st := sTwo) l10 c10 k10
  have b10 := F10.binds (ps := ["operator", "first", "second"]) fun _ _ _ _ _ _ us hl => match us, hl with | [_, _, _], _ => rfl
  have g10 := PySem.W.mg_of X G a10
  have F11 := fun_mk (st := sVal) l11 c11 k11
  have b11 := F11.binds (ps := ["expression", "values"]) fun _ _ _ _ _ _ us hl => match us, hl with | [_, _], _ => rfl
  have g11 := PySem.W.mg_of X G a11
  have F12 := fun_mk (st := sLaw) l12 c12 k12
  have b12 := F12.binds (ps := ["script"]) fun _ _ _ _ _ _ us hl => match us, hl with | [_], _ => rfl
  have g12 := PySem.W.mg_of X G a12
  have m_range := PySem.W.mg_none_of X G z0
  have m_len := PySem.W.mg_none_of X G z1
  have m_enumerate := PySem.W.mg_none_of X G z2
  have m_abs := PySem.W.mg_none_of X G z3
  have m_repr := PySem.W.mg_none_of X G z4
  have m_int := PySem.W.mg_none_of X G z5
  have m_dict := PySem.W.mg_none_of X G z6
  have m_min := PySem.W.mg_none_of X G z7
  have m_max := PySem.W.mg_none_of X G z8
  have m_sorted := PySem.W.mg_none_of X G z9
  refine ⟨PySem.W.fnOf "law" "law" (defArgs sLaw) (defBody sLaw) (defScope sLaw) .none kV12 dc12 pm12 an12 cd12 ct12, fun s u => .of_eq rfl, fun base _ _ => ?_⟩
  have GM := PySem.W.mg_of X G pG
  have GNr := PySem.W.mg_of X G pN
  have GCr := PySem.W.mg_of X G pC
  have RR : RkF K w dR := by
    refine ⟨⟨_, _, ⟨dL, dK, dl⟩⟩, fun z hz => ?_⟩
    rcases bin_cases hz with rfl | rfl | rfl | rfl | rfl | rfl | rfl | rfl | rfl | rfl | rfl | rfl | rfl | rfl
    · exact ⟨_, r0, .inl ⟨by decide +kernel, _, _, rfl, by decide⟩⟩
    · exact ⟨_, r1, .inl ⟨by decide +kernel, _, _, rfl, by decide⟩⟩
    · exact ⟨_, r2, .inl ⟨by decide +kernel, _, _, rfl, by decide⟩⟩
    · exact ⟨_, r3, .inl ⟨by decide +kernel, _, _, rfl, by decide⟩⟩
    · exact ⟨_, r4, .inl ⟨by decide +kernel, _, _, rfl, by decide⟩⟩
    · exact ⟨_, r5, .inl ⟨by decide +kernel, _, _, rfl, by decide⟩⟩
    · exact ⟨_, r6, .inl ⟨by decide +kernel, _, _, rfl, by decide⟩⟩
    · exact ⟨_, r7, .inl ⟨by decide +kernel, _, _, rfl, by decide⟩⟩
    · exact ⟨_, r8, .inr ⟨by decide +kernel, .inr ⟨_, _, rfl, by decide⟩⟩⟩
    · exact ⟨_, r9, .inr ⟨by decide +kernel, .inr ⟨_, _, rfl, by decide⟩⟩⟩
    · exact ⟨_, r10, .inr ⟨by decide +kernel, .inr ⟨_, _, rfl, by decide⟩⟩⟩
    · exact ⟨_, r11, .inr ⟨by decide +kernel, .inr ⟨_, _, rfl, by decide⟩⟩⟩
    · exact ⟨_, r12, .inr ⟨by decide +kernel, .inl rfl⟩⟩
    · exact ⟨_, r13, .inr ⟨by decide +kernel, .inl rfl⟩⟩
  have HH : FnOk P w K mg base CX0 1 f2 _ ["sign", "first", "second"] spHol := ok_hol (k := 0) F2
  have HC : FnOk P w K mg base CX0 1 f3 _ ["sign", "first", "second"] spCal := ok_cal (k := 0) F3 m_min m_max
  have HE : FnOk P w K mg base CX0 8 f1 _ ["expression", "values"] (spEva K 7) := ok_eva (k := 0) F1 g1 k1 b1 m_int RR GM GNr GCr HH k2 b2 g2 HC k3 b3 g3 7
  have GN : FnOk P w K mg base CX0 2 f6 _ ["source", "many"] spPic := ok_pic (k := 0) F6 m_len F4 b4 g4 m_range
  have GC : FnOk P w K mg base CX0 3 f7 _ ["source", "options"] (spCho K) := ok_cho (k := 0) F7 m_len GN k6 b6 g6
  have GX : FnOk P w K mg base CX0 10 f9 _ ["source", "names", "depth"] (spXpr K 7) := ok_xpr (k := 2) F9 g9 k9 b9 m_range (GN.mono (by decide)) k6 b6 g6 GC k7 b7 g7 7
  have GT : FnOk P w K mg base CX0 1 f10 _ ["operator", "first", "second"] spTwo := ok_two (k := 0) F10 m_int m_min m_max m_sorted
  have GV : FnOk P w K mg base CX0 8 f11 _ ["expression", "values"] (spVal K 7) := ok_val (k := 0) F11 g11 k11 b11 m_int GT k10 b10 g10 7
  refine ok_law (k := 10) F12 ?_
  exact {
    sou := ⟨f5, _, (ok_sou (k := 0) F5 m_enumerate m_abs).mono (by decide), g5, k5, b5⟩
    pic := ⟨f6, _, GN.mono (by decide), g6, k6, b6⟩
    xpr := ⟨f9, _, GX, g9, k9, b9⟩
    eva := ⟨f1, _, HE.mono (by decide), g1, k1, b1⟩
    val := ⟨f11, _, GV.mono (by decide), g11, k11, b11⟩
    ide := ⟨f8, _, (ok_ide (k := 0) F8 m_repr).up (by decide), g8, k8, b8⟩
    range := m_range
    dict := m_dict
    repr := m_repr }
end Lim
open PySem PySem.W PyProof.Rows
set_option maxHeartbeats 0 in
theorem PySem.Challenge.cw_limitrun_k15_values_of_expressions_holds : PySem.Challenge.rw_limitrun_k15_values_of_expressions.Holds := by
  w_on; o_law; k_head; (case hw => w_witness2)
  k_fill
  refine Lim.walk_g (l := PySem.Challenge.rw_limitrun_k15_values_of_expressions) (n := 63) (k := 11) (x := "script") (sp := Lim.spLaw) rfl (by decide) rfl ⟨rfl, by decide, by decide⟩ (fun w h Y => PySem.W.kIn_of Y) ?F (fun _ _ a ns hl _ hS => ⟨a, ns, rfl, hS, hl, fun _ => rfl⟩)
  case F =>
    intro w mg fa h KX G hmg
    refine' Lim.all_mk KX G hmg ?a1 ?l1 ?c1 ?k1 ?a2 ?l2 ?c2 ?k2 ?a3 ?l3 ?c3 ?k3 ?a4 ?l4 ?c4 ?k4 ?a5 ?l5 ?c5 ?k5 ?a6 ?l6 ?c6 ?k6 ?a7 ?l7 ?c7 ?k7 ?a8 ?l8 ?c8 ?k8 ?a9 ?l9 ?c9 ?k9 ?a10 ?l10 ?c10 ?k10 ?a11 ?l11 ?c11 ?k11 ?a12 ?l12 ?c12 ?k12 ?z0 ?z1 ?z2 ?z3 ?z4 ?z5 ?z6 ?z7 ?z8 ?z9 ?pG ?dL ?pN ?pC ?r0 ?r1 ?r2 ?r3 ?r4 ?r5 ?r6 ?r7 ?r8 ?r9 ?r10 ?r11 ?r12 ?r13 ?dK ?dl
    (case a1 => k_is)
    (case l1 => k_is)
    (case c1 => k_is)
    (case k1 => k_is)
    (case a2 => k_is)
    (case l2 => k_is)
    (case c2 => k_is)
    (case k2 => k_is)
    (case a3 => k_is)
    (case l3 => k_is)
    (case c3 => k_is)
    (case k3 => k_is)
    (case a4 => k_is)
    (case l4 => k_is)
    (case c4 => k_is)
    (case k4 => k_is)
    (case a5 => k_is)
    (case l5 => k_is)
    (case c5 => k_is)
    (case k5 => k_is)
    (case a6 => k_is)
    (case l6 => k_is)
    (case c6 => k_is)
    (case k6 => k_is)
    (case a7 => k_is)
    (case l7 => k_is)
    (case c7 => k_is)
    (case k7 => k_is)
    (case a8 => k_is)
    (case l8 => k_is)
    (case c8 => k_is)
    (case k8 => k_is)
    (case a9 => k_is)
    (case l9 => k_is)
    (case c9 => k_is)
    (case k9 => k_is)
    (case a10 => k_is)
    (case l10 => k_is)
    (case c10 => k_is)
    (case k10 => k_is)
    (case a11 => k_is)
    (case l11 => k_is)
    (case c11 => k_is)
    (case k11 => k_is)
    (case a12 => k_is)
    (case l12 => k_is)
    (case c12 => k_is)
    (case k12 => k_is)
    (case z0 => k_is)
    (case z1 => k_is)
    (case z2 => k_is)
    (case z3 => k_is)
    (case z4 => k_is)
    (case z5 => k_is)
    (case z6 => k_is)
    (case z7 => k_is)
    (case z8 => k_is)
    (case z9 => k_is)
    (case pG => k_is)
    (case dL => k_is)
    (case pN => k_is)
    (case pC => k_is)
    (case r0 => k_is)
    (case r1 => k_is)
    (case r2 => k_is)
    (case r3 => k_is)
    (case r4 => k_is)
    (case r5 => k_is)
    (case r6 => k_is)
    (case r7 => k_is)
    (case r8 => k_is)
    (case r9 => k_is)
    (case r10 => k_is)
    (case r11 => k_is)
    (case r12 => k_is)
    (case r13 => k_is)
    (case dK => exact ⟨⟨_, _, rfl, rfl⟩, ⟨_, _, rfl, rfl⟩, ⟨_, _, rfl, rfl⟩, ⟨_, _, rfl, rfl⟩, ⟨_, _, rfl, rfl⟩, ⟨_, _, rfl, rfl⟩, ⟨_, _, rfl, rfl⟩, ⟨_, _, rfl, rfl⟩, ⟨_, _, rfl, rfl⟩, ⟨_, _, rfl, rfl⟩, ⟨_, _, rfl, rfl⟩, ⟨_, _, rfl, rfl⟩, trivial⟩)
    (case dl => decide)
#print axioms PySem.Challenge.cw_limitrun_k15_values_of_expressions_holds
