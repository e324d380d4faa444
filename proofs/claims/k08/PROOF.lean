import PyProof.Rows.All
import Wide.All
import OpenK.AllK
import Wide.FinOn
import HandS.ForMost
import HandS.Wide
import HandS.RaiseMore
import PyProof.ReprRoads
import PyProof.ReprLen
import HandS.Evl
import HandS.Codes
import HandS.TupMul
import HandS.TupAny
import KE.GoesEnum
import HandS.Defaults
import HandS.FStrTup
import KE.KExcIs
import HandS.Words
import HandS.ExcInit
import HandS.ExcValue
import HandS.ExcField
import HandS.ExcIs
import HandS.IsInst
import HandS.FStr
import HandS.Exc
import HandS.List
import PyProof.EqKinds
import HandS.TryOnly
import PySem.Challenge.RW_limitrun_k08_errors
set_option Elab.async false
set_option linter.all false
set_option maxRecDepth 100000
set_option maxHeartbeats 4000000
namespace Lim
open PySem PySem.Spec PyProof.Rows L2

/-! a def whose promise may lean on: no repr is under way around it -/
structure FnG (P : Program) (w : World) (K : PySem.W.Frag) (mg : Str → Option Value) (base : Heap) (k : Nat) (f : Addr) (fd : FuncData) (ps : List Str) (sp : Sp) : Prop where
  len : ∀ vs H Q E, sp vs H Q E → vs.length = ps.length
  go : ∀ (B : Around) (below : List Env) (s : Shared) (H : Hp) (ar : Args) (us : List Value) (vs : List V) (Q : VK) (E : XK),
    B.guards = some [] → Room k B → Env0 P w K mg base B below s H → BindsTo s fd ar (ps.zip us) → Vals vs us → sp vs H Q E →
    codeAny (model P w) B (.call (.ref f) ar) (CR CX0 below P w H s Q E) s
section
variable {P : Program} {w : World} {K : PySem.W.Frag} {mg : Str → Option Value} {base : Heap} {k : Nat} {f : Addr} {fd : FuncData} {ps : List Str} {sp : Sp}
theorem FnG.of (F : FnOk P w K mg base CX0 k f fd ps sp) : FnG P w K mg base k f fd ps sp :=
  ⟨F.len, fun B below s H ar us vs Q E _ r e b v q => F.run B below s H ar us vs Q E r e b v q⟩
theorem FnG.up {j : Nat} (F : FnG P w K mg base j f fd ps sp) (h : j ≤ k) : FnG P w K mg base k f fd ps sp :=
  ⟨F.len, fun B below s H ar us vs Q E g r e b v q => F.go B below s H ar us vs Q E g (r.mono h) e b v q⟩
theorem FnG.imp {sp' : Sp} (F : FnG P w K mg base k f fd ps sp) (h : ∀ vs H Q E, sp' vs H Q E → sp vs H Q E) : FnG P w K mg base k f fd ps sp' :=
  ⟨fun vs H Q E q => F.len _ _ _ _ (h _ _ _ _ q), fun B below s H ar us vs Q E g r e b v q => F.go B below s H ar us vs Q E g r e b v (h _ _ _ _ q)⟩

theorem deeper_guards {B : Around} {env : Env} : (B.deeper env).guards = B.guards := rfl

/-- the def's own rule -/
theorem Fun_okG {x qual : Str} {st : Stmt} {N : List Str} (F : Fun K x qual st f fd) (S : FnScope N ps (defScope st)) (len : ∀ vs H Q E, sp vs H Q E → vs.length = ps.length)
    (hb : ∀ (cdv : Value) (B : Around) (below : List Env) (s : Shared) (H : Hp) (vs : List V) (Q : VK) (E : XK), B.guards = some [] → Room k (B.deeper (envOfC qual (defScope st) s.heap.objs.size f cdv)) → sp vs H Q E →
      ∃ t, PSs (cxOf CX0 P w K mg base N qual (defScope st) f cdv B below s H E).nox (defBody st) t ∧ t { nx := fun _ H' => Q .non H', rt := Q } (start N vs) H) :
    FnG P w K mg base (k + 1) f fd ps sp := by
  obtain ⟨oc, od, kV, doc, pm, an, cdv, ct, osl, rfl, lk, hcd⟩ := F.ex
  refine ⟨len, fun B below s H ar us vs Q E hg hr ev bt va hq => ?_⟩
  have hn := len _ _ _ _ hq
  have KH : K.In s.heap := ev.mod.kin.keeps fun a o z => (ev.bs a o z).1
  have noLim : s.heap.NoLimit := ev.mod.nolimit.keeps fun a o z => (ev.bs a o z).1
  refine codeAny_call_function hr.depth (KH _ _ lk) rfl S.co S.gen rfl (PySem.W.codeRec_of KH hcd) (bt _ _ _ _ ?_)
  refine wpAny_newFunctionEnv_cells S.kind (fun ⟨y, v⟩ hy => ?_) fun env he s1 hx => ?_
  · rcases S.par y (List.of_mem_zip hy).1 with q | q
    · exact Or.inl q
    · exact Or.inr ⟨q, PySem.W.cellsFrom_some _ _ _ (Or.inl q)⟩
  · subst he
    refine ⟨noLim.keeps hx.toInCall.keep, codeAny_func ?_⟩
    obtain ⟨t, ht, hrun⟩ := hb cdv B below s H vs Q E hg (hr.deeper _) hq
    have J0 := inv_start (CX := CX0) (E := E) S hr.hd ev hn va hx
    refine wpAny_mono (ht.nox.run [] s1 (start N vs) H _ J0 hrun) (fun fl s2 hs => ?_) fun _ _ z => z
    cases fl with
    | brk =>
      obtain ⟨_, _, _, z⟩ := hs
      exact z.elim
    | cont =>
      obtain ⟨_, _, _, z⟩ := hs
      exact z.elim
    | next =>
      obtain ⟨σ1, H1, J, z⟩ := hs
      exact ⟨V.non, H1, J.os, J.bare, J.base, J.hok, rfl, z⟩
    | ret u =>
      obtain ⟨v, σ1, H1, J, rv, z⟩ := hs
      exact ⟨v, H1, J.os, J.bare, J.base, J.hok, rv, z⟩
end
section
variable {X : Cx} {k : Nat} {f : Addr} {fd : FuncData} {ps : List Str} {sp : Sp} {x : Str} {p pos : Pos} {e : Expr} {es : List Expr} {t : TA}
/-- the callee runs -/
theorem run_g {pins : List (Addr × Obj)} {σ : L2.St} {H : Hp} {s : Shared} {Q : VK} {us : List Value} {vs : List V} (F : FnG X.prog X.w X.K X.mg X.base k f fd ps sp) (hg : X.A.guards = some []) (hr : Room k X.A) (hb : Binds X.K fd ps [])
    (I : Inv X pins σ H s) (r : Vals vs us) (h : sp vs H Q E0) : wpAny (model X.prog X.w) X.A (call (.ref f) us) (EP X pins σ Q) X.xe s := by
  have hl : us.length = ps.length := r.length ▸ F.len _ _ _ _ h
  have hbt := hb s us I.kIn (by rw [List.append_nil]; exact hl)
  rw [List.append_nil] at hbt
  refine wpAny_call (codeAny_mono (F.go X.A X.stack s H ⟨us, []⟩ us vs Q E0 hg hr I.env0 hbt r h) fun res s1 z => ?_)
  match res, z with
  | .error _, z => exact False.elim z
  | .ok (.ret u), z => exact I.after z
  | .ok .next, z => exact False.elim z
  | .ok .brk, z => exact False.elim z
  | .ok .cont, z => exact False.elim z
theorem pe_g (F : FnG X.prog X.w X.K X.mg X.base k f fd ps sp) (hgd : X.A.guards = some []) (hr : Room k X.A) (hg : Gl X x) (hm : X.mg x = some (.ref f)) (hk : PySem.W.keepIn X.K (.ref f) = true) (hb : Binds X.K fd ps [])
    (ha : PA X (e :: es) t) (hdb : (x == ("__debug__" : Str)) = false := by decide) (he : starEach (e :: es) X.env = (false, eval e X.env) :: starEach es X.env := by rfl) (hpl : (backTo pos (starEach es X.env)).any (·.1) = false := by rfl) :
    PE X (.Call (.Name x p) (e :: es) [] pos) (fun σ H Q => t σ H fun vs H1 => sp vs H1 Q E0) := by
  refine ⟨fun pins s σ H Q I h => ?_⟩
  refine wpAny_Call_Name_kw (ld_glob I hg hm ?_ hdb)
  refine PySem.W.callWith_K (h₀ := X.base) I.ok.mod.kin hk ?_ he hpl
  exact thn (ha.run pos pins s σ H _ I h) fun us s1 ⟨vs, H1, I1, r, q⟩ => ⟨I1.kIn, run_g F hgd hr hb I1 r q⟩
/-- repr(x), x data -/
theorem call_reprD (hgd : X.A.guards = some []) (hu : X.A.units + 100 < cLine) : CallR X (.builtin "repr") (fun xs H Q => ∃ v d, xs = [v] ∧ Dp X.K H v d ∧ d.showable = true ∧ d.hasDict = false ∧ d.depth ≤ 60 ∧ d.shown.length ≤ sizeLine ∧ Q (.str d.shown) H) := by
  intro pins s σ H xs us Q I r h
  obtain ⟨v, d, rfl, hd, h1, h2, h3, h4, q⟩ := h
  obtain ⟨u, rfl, r1⟩ := vals1 r
  cases hd with
  | non =>
    cases r1
    exact PySem.P.repr_of_none ⟨.str _, H, I.tok _, ⟨_, rfl⟩, q⟩
  | bl b =>
    cases r1
    refine PySem.P.repr_of_bool ⟨.str _, H, I.tok _, ⟨_, rfl⟩, ?_⟩
    cases b <;> exact q
  | int i =>
    obtain ⟨t, rfl⟩ := r1
    refine PySem.P.repr_of_int ?_ ⟨.str _, H, I.tok _, ⟨_, rfl⟩, q⟩
    simpa [PyData.showable] using h1
  | str y =>
    obtain ⟨t, rfl⟩ := r1
    exact PySem.P.repr_of_str ⟨.str _, H, I.tok _, ⟨_, rfl⟩, q⟩ h4
  | lst hs ha =>
    obtain ⟨as, rd⟩ := Dp.reads I _ _ _ (.lst hs ha) r1
    cases r1
    exact PySem.repr_of_reads' rd h1 (fun z => by rw [h2] at z; cases z) hgd (by omega) (fun _ _ z => z) (fun h' u tk hk => ⟨.str _, H, I.kept hk, ⟨_, rfl⟩, q⟩) h4
  | tup hs ha =>
    obtain ⟨as, rd⟩ := Dp.reads I _ _ _ (.tup hs ha) r1
    cases r1
    exact PySem.repr_of_reads' rd h1 (fun z => by rw [h2] at z; cases z) hgd (by omega) (fun _ _ z => z) (fun h' u tk hk => ⟨.str _, H, I.kept hk, ⟨_, rfl⟩, q⟩) h4
end
/-! tuple * k for k below 2 -/
section
variable (l : Addr) (its : Array Value) (n : Nat) (dd : Option Addr) (sl : Array (Option Value)) (u : Tok)
abbrev tupO (its : Array Value) (n : Nat) (dd : Option Addr) (sl : Array (Option Value)) : Obj := { cls := .type "tuple", dict := dd, data := .seq its n, slots := sl }
theorem tmul_none (x : Int) (b0 : (decide (x < -(2 ^ 63)) || decide (x ≥ 2 ^ 63)) = false) (b1 : (its.isEmpty || x == 1) = false) (b2 : (decide (x ≤ 0) || its.isEmpty) = true) :
    Meets (Builtin.«tuple.__mul__» ⟨[.ref l, .int x u], []⟩) (fun _ R s => s.heap.get? l = some (tupO its n dd sl) ∧ R (.ok (.ret (Value.ref s.heap.objs.size))) { s with heap := s.heap.push { cls := Value.type "tuple", data := Data.seq #[] }, toks := s.toks }) := by
  refine .of_wp fun pg ww AA RR ss hh => ?_
  obtain ⟨h1, h2, h3, h4, h5⟩ := ss
  obtain ⟨hl, hh⟩ := hh
  have ix := AutoSeq1.idx_int
  have n0 := decide_eq_false (p := (decide (x < -(2 ^ 63)) || decide (x ≥ 2 ^ 63)) = true) (by rw [b0]; decide)
  have n1 := decide_eq_false (p := (its.isEmpty || x == 1) = true) (by rw [b1]; decide)
  wp_walk using wpAny_loadPart' hl
  repeat (first
    | (refine wpAny_ite_false n0 ?_; wp_walk using wpAny_loadPart' hl)
    | (refine wpAny_ite_false n1 ?_; wp_walk using wpAny_loadPart' hl)
    | (refine wpAny_ite_true (decide_eq_true b2) ?_; wp_walk using wpAny_loadPart' hl))
  exact ⟨_, rfl, hh⟩
theorem tmul_one : Meets (Builtin.«tuple.__mul__» ⟨[.ref l, .int 1 u], []⟩) (fun _ R s => s.heap.get? l = some (tupO its n dd sl) ∧ R (.ok (.ret (Value.ref l))) s) := by
  refine .of_wp fun pg ww AA RR ss hh => ?_
  obtain ⟨h1, h2, h3, h4, h5⟩ := ss
  obtain ⟨hl, hh⟩ := hh
  have ix := AutoSeq1.idx_int
  have b1 : (its.isEmpty || (1 : Int) == 1) = true := by simp
  wp_walk using wpAny_loadPart' hl
  repeat (first
    | (refine wpAny_ite_false (decide_eq_false (by decide)) ?_; wp_walk using wpAny_loadPart' hl)
    | (refine wpAny_ite_true (decide_eq_true b1) ?_; wp_walk using wpAny_loadPart' hl))
  exact ⟨_, rfl, hh⟩
end
def rRepZ (K : PySem.W.Frag) : R2 := fun x y H Q => ∃ l k xs, x = .ref l ∧ y = .int k ∧ SqT K H l xs ∧ xs ≠ [] ∧ -1000 ≤ k ∧ k ≤ 1000 ∧ xs.length ≤ 1000 ∧
  (k ≤ 0 → ∀ p, H p = none → Q (.ref p) (upd H p (.tup []))) ∧ (k = 1 → Q (.ref l) H) ∧ (2 ≤ k → ∀ p, H p = none → Q (.ref p) (upd H p (.tup (List.replicate k.toNat xs).flatten)))
section
variable {X : Cx}
theorem op_repZ : OpR X (binaryOp .Mult) (rRepZ X.K) := by
  intro pins s σ H x y v u Q I rx ry h
  obtain ⟨l, k, xs, rfl, rfl, hT, hne, h1, h2, hz, q0, q1, q2⟩ := h
  by_cases c2 : 2 ≤ k
  · exact op_repT pins s σ H _ _ v u Q I rx ry ⟨l, k, xs, rfl, rfl, hT, hne, c2, h2, hz, q2 c2⟩
  · cases rx
    obtain ⟨t, rfl⟩ := ry
    obtain ⟨its, r, ⟨⟨cls, dd, data, sl⟩, ho, hc, n, hd⟩, hs⟩ := I.tuple hT
    simp only at hc hd
    subst hc hd
    have hie : its.toArray.isEmpty = false := by
      cases its with
      | nil =>
        cases r
        exact absurd rfl hne
      | cons a b => rfl
    by_cases c1 : k = 1
    · subst c1
      refine wpAny_binaryOp_repeat_ref (T := "tuple") (U := "int") (by decide) ⟨_, ho, rfl⟩ (fun s' => typeIs_int s' 1 t) noFill_tuple_mul F.fills_int_mul F.slot_int_rmul repeat_tuple F.slot_int_index.lookup ?_
      refine call_meets F.slot_int_rmul (typeIs_int s 1 t) F.entry_int_rmul (F.args_int_rmul_2 _ _) (int_rmul_tuple 1 t l its.toArray n dd sl) ⟨ho, rfl, ⟨_, ho, rfl⟩, ?_⟩
      exact call_meets F.slot_tuple_mul ⟨_, ho, rfl⟩ F.entry_tuple_mul (F.args_tuple_mul_2 _ _) (tmul_one l its.toArray n dd sl t) ⟨ho, .ref l, H, I, rfl, q1 rfl⟩
    · have k0 : k ≤ 0 := by omega
      have b0 : (decide (k < -(2 ^ 63)) || decide (k ≥ 2 ^ 63)) = false := by
        rw [decide_eq_false (by omega), decide_eq_false (by omega)] <;> rfl
      have b1 : (its.toArray.isEmpty || k == 1) = false := by
        rw [hie, Bool.false_or]
        exact beq_eq_false_iff_ne.mpr c1
      have b2 : (decide (k ≤ 0) || its.toArray.isEmpty) = true := by
        rw [decide_eq_true k0] <;> rfl
      refine wpAny_binaryOp_repeat_ref (T := "tuple") (U := "int") (by decide) ⟨_, ho, rfl⟩ (fun s' => typeIs_int s' k t) noFill_tuple_mul F.fills_int_mul F.slot_int_rmul repeat_tuple F.slot_int_index.lookup ?_
      refine call_meets F.slot_int_rmul (typeIs_int s k t) F.entry_int_rmul (F.args_int_rmul_2 _ _) (int_rmul_tuple k t l its.toArray n dd sl) ⟨ho, rfl, ⟨_, ho, rfl⟩, ?_⟩
      refine call_meets F.slot_tuple_mul ⟨_, ho, rfl⟩ F.entry_tuple_mul (F.args_tuple_mul_2 _ _) (tmul_none l its.toArray n dd sl t k b0 b1 b2) ⟨ho, ?_⟩
      refine ⟨.ref s.heap.objs.size, _, I.laid (t' := s.toks) (o := .tup []) (fun b ob z => Heap.get?_push_of_some _ z) (Nat.le_refl _) ?_, rfl, q0 k0 _ (I.hok.fresh (Nat.le_refl _))⟩
      exact ⟨Nat.zero_le _, [], .nil, IsTup.new _ _⟩
end
/-! enumerate of a tuple -/
def Iet (K : PySem.W.Frag) (a : Addr) : It where
  go := fun i H => ∃ (xs : List V) (x : V), SqT K H a xs ∧ xs[i]? = some x
  yld := fun i H v H' => ∃ T x, v = .ref T ∧ H T = none ∧ H' = upd H T (.tup [.int (i : Nat), x]) ∧ ∀ xs, SqT K H a xs → xs[i]? = some x
  stop := fun i H => ∃ xs : List V, SqT K H a xs ∧ xs.length = i
theorem enum_new1 {v : Value} {o : Obj} {Hh : Heap → Prop} (B : Begins v o Hh) : Meets (Builtin.«enumerate.__new__» ⟨[.type "enumerate", v], []⟩) (fun _ R s => Hh s.heap ∧
      R (.ok (.ret (.ref (s.heap.push o).objs.size))) { s with heap := (s.heap.push o).push { cls := .type "enumerate", data := .fields #[.none, .bool false, .ref s.heap.objs.size, rawInt 0, .none, .none] } }) := by
  refine .of_wp fun pg ww AA RR ss hh => ?_
  obtain ⟨h1, h2, h3, h4, h5⟩ := ss
  obtain ⟨b1, hh⟩ := hh
  have sube := sub_enumerate
  have qi : ∀ {A' : Around} {E' : Value → Shared → Prop} {Q' : Value → Shared → Prop}, Q' (.ref h1.objs.size) ⟨h1.push o, h2, h3, h4, h5⟩ → wpAny (model pg ww) A' (pyIter v) Q' E' ⟨h1, h2, h3, h4, h5⟩ :=
    fun z => B.iter pg ww _ _ ⟨h1, h2, h3, h4, h5⟩ _ b1 z
  wp_walk
  refine wpAny_stack_any fun st => wpAny_pure ?_
  split
  · rename_i cc _ _ _ _ _
    cases (cc == Value.type "enumerate") <;>
      (wp_walk using qi
       exact ⟨_, rfl, hh⟩)
  · wp_walk using qi
    exact ⟨_, rfl, hh⟩
section
variable {prog : Program} {w : World} {A : Around} {E : Value → Shared → Prop} {s : Shared}
theorem call_enum1 {v : Value} {o : Obj} {Hh : Heap → Prop} {Q : Value → Shared → Prop} (B : Begins v o Hh) (b1 : Hh s.heap)
    (h : ∀ h', IsEnum h' (s.heap.objs.size + 1) s.heap.objs.size 0 .none → h'.get? s.heap.objs.size = some o → h'.objs.size = s.heap.objs.size + 2 → (∀ b o, s.heap.get? b = some o → h'.get? b = some o) → Q (.ref (s.heap.objs.size + 1)) { s with heap := h' }) :
    wpAny (model prog w) A (call (.type "enumerate") [v]) Q E s := by
  refine callType_new F.called_enumerate (by decide) (F.typeCall_enumerate_1 _) (F.newCall_enumerate_1 _) (fun obj => F.args_object_init_2 obj _) F.entry_enumerate_new (enum_new1 B) ⟨b1, ?_⟩
  have z1 : (s.heap.push o).objs.size = s.heap.objs.size + 1 := Heap.size_push ..
  show _ ∧ _
  rw [z1]
  have ie : IsEnum ((s.heap.push o).push { cls := .type "enumerate", data := .fields #[.none, .bool false, .ref s.heap.objs.size, rawInt 0, .none, .none] }) (s.heap.objs.size + 1) s.heap.objs.size 0 .none := by
    have q := Heap.get?_push_size (s.heap.push o) (o := { cls := .type "enumerate", data := .fields #[.none, .bool false, .ref s.heap.objs.size, rawInt 0, .none, .none] }) rfl
    rw [z1] at q
    exact q
  exact ⟨⟨_, ie, rfl⟩, h _ ie (Heap.get?_push_of_some _ (Heap.get?_push_size _ B.free)) (by rw [Heap.size_push, z1]) fun b o' x => Heap.get?_push_of_some _ (Heap.get?_push_of_some _ x)⟩
end
theorem turn_enumT {P : Program} {w : World} {K : PySem.W.Frag} {elts : List Expr} {kk : Nat} {tpos : Pos} (a e it : Addr) (hae : a ≠ e) (hai : a ≠ it) :
    Turn P w K (.Tuple elts kk tpos) (Iet K a) [e, it] e (fun i h => (∃ old, IsEnum h e it ((i : Nat) : Int) old) ∧ h.IsTupleIter it a i ∧ e ≠ it) where
  mem := List.mem_cons_self ..
  obj := by
    rintro i h ⟨⟨old, he⟩, ⟨o, ho, hc, hd⟩, _⟩ b hb
    rcases List.mem_cons.mp hb with rfl | hb
    · exact ⟨_, he, fun v q => nomatch q⟩
    · rw [List.mem_singleton.mp hb]
      exact ⟨o, ho, fun v q => by rw [hd] at q; cases q⟩
  keep := by
    rintro i h h' ⟨⟨old, he⟩, hi, ne⟩ k
    exact ⟨⟨old, k e (by simp) _ he⟩, hi.at fun o q => k it (by simp) o q, ne⟩
  item := by
    rintro X rfl rfl rfl hc i pins s σ H E I hf ⟨⟨old, he⟩, hit, hne⟩ ⟨xs, x, hq, hx⟩
    obtain ⟨its, rv, hT, hz⟩ := I.tuple hq
    have hT' : s.heap.IsTuple a its.toArray := hT
    obtain ⟨u, hu, ru⟩ := rv.get hx
    have le : e < s.heap.objs.size := Heap.lt_size he
    have li : it < s.heap.objs.size := by
      obtain ⟨_, q, _⟩ := hit
      exact Heap.lt_size q
    have hlt : i < its.toArray.size := by
      have := (List.getElem?_eq_some_iff.mp hu).1
      simpa using this
    refine wpAny_pyNext_enum_itemD (Draws.tuple (A := X.A.in1) (I.ok.hd hc) it a hai its.toArray) he ⟨hit, hT'⟩ hlt hne ?_ fun y h' tk hy ho hit' hnew hsz hk => ?_
    · intro hb
      rcases List.mem_cons.mp hb with q | q
      · exact hne q
      · exact hae (List.mem_singleton.mp q).symm
    · have hyu : y = u := by
        have e1 : its.toArray[i]? = some y := hy
        rw [List.getElem?_toArray, hu] at e1
        exact (Option.some.inj e1).symm
      subst hyu
      refine ⟨_, rfl, wpAny_letOwnedTupleGo_enum (s := { s with heap := h', toks := tk + 1 }) ho fun h2 he2 sb => ?_⟩
      have hT2 : h2.get? s.heap.objs.size = some { cls := .type "tuple", data := .seq #[.int i tk, y] } := (sb.2 _ (Nat.ne_of_gt le)).trans hnew
      have nob : ObjOk X.prog X.w (upd H s.heap.objs.size (.tup [.int (i : Nat), x])) h2 s.heap.objs.size (.tup [.int (i : Nat), x]) :=
        ⟨by show 2 ≤ sizeLine; decide, [.int i tk, y], .cons ⟨_, rfl⟩ (.cons ru .nil), ⟨_, hT2, rfl, _, rfl⟩⟩
      have J : Inv X pins σ (upd H s.heap.objs.size (.tup [.int (i : Nat), x])) { s with heap := h2, toks := tk + 1 } :=
        I.turnedNew (ch := [e, it]) (fun b ob hb q => (sb.2 b (fun z => hb (by simp [z]))).trans (hk b ob (fun z => hb (by simp [z])) (fun z => hb (by simp [z])) q)) hf (Nat.le_refl _) nob
      refine ⟨.ref s.heap.objs.size, _, J, rfl, ⟨_, x, rfl, I.hok.fresh (Nat.le_refl _), rfl, fun ys hy => by rw [I.tuple_inj hy hq]; exact hx⟩, ⟨⟨y, ?_⟩, hit'.1.at fun o q => (sb.2 it (Ne.symm hne)).trans q, hne⟩, fun b hb => ?_⟩
      · have e1 : ((i + 1 : Nat) : Int) = (i : Int) + 1 := by omega
        rw [e1]
        exact he2
      · have lb : b < s.heap.objs.size := by
          rcases List.mem_cons.mp hb with z | z
          · rw [z]
            exact le
          · rw [List.mem_singleton.mp z]
            exact li
        rw [upd_ne (Nat.ne_of_lt lb)]
        exact (hf b hb).1
  done := by
    rintro X rfl rfl rfl hc i pins s σ H E I hf ⟨⟨old, he⟩, hit, hne⟩ ⟨xs, hq, hx⟩
    obtain ⟨its, rv, hT, hz⟩ := I.tuple hq
    have hT' : s.heap.IsTuple a its.toArray := hT
    have hn : i = its.toArray.size := by rw [List.size_toArray, ← hx, rv.length]
    subst hn
    obtain ⟨f0, f1, f2, f3, f4, f5⟩ := hf it (by simp)
    exact wpAny_pyNext_enum_endD (Draws.tuple (A := X.A.in1) (I.ok.hd hc) it a hai its.toArray) he ⟨hit, hT'⟩ fun h' eb => ⟨rfl, I.turned (t' := s.toks) (fun b o hb q => eb b o hb q) f0 f1 f3 f4 f5⟩
  self := fun A i s Q E st h => let ⟨⟨_, he⟩, _⟩ := st; wpAny_pyIter_enum he h
def iEnumT (K : PySem.W.Frag) (ta : TA) : TI := fun σ H R => ta σ H fun vs H1 => ∃ a xs, vs = [.ref a] ∧ SqT K H1 a xs ∧ R (Iet K a) H1
theorem pi_enumT {X : Cx} {e : Expr} {ta : TA} {p pos tpos : Pos} {elts : List Expr} {kk : Nat} (hg : Gl X "enumerate") (hm : X.mg "enumerate" = none) (ha : PA X [e] ta) (hs : starEach [e] X.env = [(false, eval e X.env)] := by rfl) :
    PI X (.Tuple elts kk tpos) (.Call (.Name "enumerate" p) [e] [] pos) (iEnumT X.K ta) := by
  refine ⟨fun pins s σ H R I h => ?_⟩
  refine Call_ (ld_blt I hg hm boot_enumerate ?_)
  refine PyProof.Rows.callWith_type1 (thn (ha.run pos pins s σ H _ I h) fun us s1 ⟨vs, H1, I1, r1, q1⟩ => ?_) hs rfl
  obtain ⟨a, xs, rfl, hq, q⟩ := q1
  obtain ⟨u, rfl, ru⟩ := vals1 r1
  cases ru
  obtain ⟨its, rv, hT, hz⟩ := I1.tuple hq
  have hT' : s1.heap.IsTuple a its.toArray := hT
  have la : a < s1.heap.objs.size := by
    obtain ⟨o, ho, _⟩ := hT'
    exact Heap.lt_size ho
  refine call_enum1 (begins_tuple a its.toArray) hT' fun h' ie hit hsz hk => wpAny_pyIter_enum ie ?_
  have I2 : Inv X pins σ H1 { s1 with heap := h' } := I1.kept (t' := s1.toks) hk
  refine ⟨s1.heap.objs.size + 1, [s1.heap.objs.size + 1, s1.heap.objs.size], _, _, H1, rfl, I2, turn_enumT a (s1.heap.objs.size + 1) s1.heap.objs.size (Nat.ne_of_lt (Nat.lt_succ_of_lt la)) (Nat.ne_of_lt la), ⟨⟨.none, ie⟩, ⟨_, hit, rfl, rfl⟩, Nat.succ_ne_self _⟩, fun b hb => ?_, q⟩
  have lb : s1.heap.objs.size ≤ b := by
    rcases List.mem_cons.mp hb with z | z
    · rw [z]
      exact Nat.le_succ _
    · rw [List.mem_singleton.mp z]
      exact Nat.le_refl _
  exact I1.fpOk lb (I1.hok.fresh lb)
section
variable {K : PySem.W.Frag} {a : Addr} {xs : List V} {σ : L2.St}
/-- for i, x in enumerate(tuple) -/
theorem for_enumT {g : TG} {tb : TS} {D : Ends} {H : Hp} (Pv : Nat → L2.St → Hp → Prop) (h0 : Pv 0 σ H) (hl : ∀ i σ H, i ≤ xs.length → Pv i σ H → SqT K H a xs)
    (hs : ∀ i x σ H T, xs[i]? = some x → Pv i σ H → H T = none → g (.ref T) σ (upd H T (.tup [.int (i : Nat), x])) fun σ2 H2 => tb { D with nx := Pv (i + 1), ct := Pv (i + 1), bk := D.nx } σ2 H2) (hd : ∀ σ H, Pv xs.length σ H → D.nx σ H) :
    ∃ W : Nat → Nat → L2.St → Hp → Prop, (∃ m, W 0 m σ H) ∧ ∀ i m σ H, W i m σ H →
      ((Iet K a).stop i H ∧ D.nx σ H) ∨ ((Iet K a).go i H ∧ ∃ N : L2.St → Hp → Prop, (∀ σ' H', N σ' H' → ∃ m', m' < m ∧ W (i + 1) m' σ' H') ∧ ∀ x H', (Iet K a).yld i H x H' → g x σ H' fun σ2 H2 => tb { D with nx := N, ct := N, bk := D.nx } σ2 H2) := by
  refine ⟨fun i m σ H => i + m = xs.length ∧ Pv i σ H, ⟨xs.length, by omega, h0⟩, ?_⟩
  rintro i m σ H ⟨hm, p⟩
  have q := hl i σ H (by omega) p
  by_cases hlt : i < xs.length
  · refine .inr ⟨⟨xs, xs[i], q, List.getElem?_eq_getElem hlt⟩, Pv (i + 1), fun σ' H' p' => ⟨m - 1, by omega, by omega, p'⟩, fun v H' y => ?_⟩
    obtain ⟨T, x, rfl, hT, rfl, y⟩ := y
    exact hs i x σ H T (y xs q) p hT
  · have e : i = xs.length := by omega
    subst e
    exact .inl ⟨⟨xs, q, rfl⟩, hd σ H p⟩
/-- [.. for i, x in enumerate(tuple) ..] -/
theorem lc_enumT {g : TG} {tt : TT} {te : TE} {vs : List Nat} {H1 : Hp} {D : Addr} {Qd : Hp → Prop} (Pv : Nat → Hp → Prop) (h0 : Pv 0 (upd H1 D (.lst []))) (hl : ∀ i H, i ≤ xs.length → Pv i H → SqT K H a xs)
    (hs : ∀ i x H T, xs[i]? = some x → Pv i H → H T = none → g (.ref T) (wipe σ vs) (upd H T (.tup [.int (i : Nat), x])) fun σ2 H2 => wipe σ2 vs = wipe σ vs ∧ tt σ2 H2 fun b H3 =>
      if b = true then te σ2 H3 fun y H4 => ∃ acc, H4 D = some (.lst acc) ∧ acc.length < sizeLine ∧ Pv (i + 1) (upd H4 D (.lst (acc ++ [y]))) else Pv (i + 1) H3) (hd : ∀ H, Pv xs.length H → Qd H) :
    ∃ W : Nat → Nat → Hp → Prop, (∃ m, W 0 m (upd H1 D (.lst []))) ∧ ∀ i m H, W i m H →
      ((Iet K a).stop i H ∧ Qd H) ∨ ((Iet K a).go i H ∧ ∃ Nx : Hp → Prop, (∀ H', Nx H' → ∃ m', m' < m ∧ W (i + 1) m' H') ∧ ∀ x H', (Iet K a).yld i H x H' → g x (wipe σ vs) H' fun σ2 H2 => wipe σ2 vs = wipe σ vs ∧ tt σ2 H2 fun b H3 =>
        if b = true then te σ2 H3 fun y H4 => ∃ acc, H4 D = some (.lst acc) ∧ acc.length < sizeLine ∧ Nx (upd H4 D (.lst (acc ++ [y]))) else Nx H3) := by
  refine ⟨fun i m H => i + m = xs.length ∧ Pv i H, ⟨xs.length, by omega, h0⟩, ?_⟩
  rintro i m H ⟨hm, p⟩
  have q := hl i H (by omega) p
  by_cases hlt : i < xs.length
  · refine .inr ⟨⟨xs, xs[i], q, List.getElem?_eq_getElem hlt⟩, Pv (i + 1), fun H' p' => ⟨m - 1, by omega, by omega, p'⟩, fun v H' y => ?_⟩
    obtain ⟨T, x, rfl, hT, rfl, y⟩ := y
    exact hs i x H T (y xs q) p hT
  · have e : i = xs.length := by omega
    subst e
    exact .inl ⟨⟨xs, q, rfl⟩, hd H p⟩
end
def topS (i : Nat) : Stmt := PySem.Challenge.pw_limitrun_k08_errors.main.body.getD i (.Pass ⟨0, 0, 0, 0⟩)
abbrev sScr : Stmt := topS 18
abbrev sDrw : Stmt := topS 19
abbrev sNxt : Stmt := topS 20
abbrev sCho : Stmt := topS 21
abbrev sIde : Stmt := topS 22
theorem scScr : FnScope ["number", "index", "modulus", "found", "turn"] ["number", "index"] (defScope sScr) := ⟨rfl, rfl, rfl, by decide +kernel, rfl, by decide +kernel, by decide +kernel⟩
section
variable {P : Program} {w : World} {K : PySem.W.Frag} {mg : Str → Option Value} {base : Heap}
/-- scramble: some number, not negative -/
def spScr : Sp := fun vs H Q _ => ∃ n i : Int, vs = [.int n, .int i] ∧ ∀ r : Int, 0 ≤ r → Q (.int r) H
theorem mod20 : (20 : Int) ≠ 0 := by decide
theorem modM : (2305843009213693951 : Int) ≠ 0 := by decide
theorem fmod_lo {a : Int} : 0 ≤ a.fmod 2305843009213693951 := Int.fmod_nonneg_of_pos _ (by decide)
theorem fmod_hi {a : Int} : a.fmod 2305843009213693951 < 2305843009213693951 := Int.fmod_lt_of_pos _ (by decide)
theorem ok_scr {f : Addr} {fd : FuncData} {k : Nat} (F : Fun K "_law_scramble" "_law_scramble" sScr f fd) (mr : mg "range" = none) : FnOk P w K mg base CX0 (k + 1) f fd ["number", "index"] spScr := by
  refine F.ok scScr (fun vs H Q E h => ?_) (fun cdv A outer s H vs Q E hr h => ?_)
  · obtain ⟨n, i, rfl, _⟩ := h
    rfl
  · obtain ⟨n, i, rfl, q⟩ := h
    refine ⟨_, pss_cons (ps_set (i := 2) scScr.nd rfl (.inl rfl) pe_int)
      (pss_cons (ps_set (i := 3) scScr.nd rfl (.inl rfl) (pe_op op_modN (pe_op op_add (pe_op op_add (pe_op op_mul (pv 0) pe_int) (pe_op op_mul (pv 1) pe_int)) pe_int) (pv 2)))
      (pss_cons (ps_for PassesOwn.never rfl (pi_range1 rfl mr (pa_cons pe_int pa_nil)) (pg_name (i := 4) scScr.nd rfl (.inl rfl))
        (pss_one (ps_set (i := 3) scScr.nd rfl (.inl rfl) (pe_op op_modN (pe_op op_add (pe_op op_add (pe_op op_add (pe_op op_mul (pv 3) (pv 3)) (pe_op op_mul pe_int (pv 3))) (pe_op op_mul pe_int (pv 4))) (pv 1)) (pv 2)))))
      (pss_one (ps_ret (pe_op op_add (pe_op op_mul (pv 3) (pv 2)) (pe_op op_modN (pe_op op_add (pe_op op_mul (pv 3) pe_int) (pv 1)) (pv 2))))))), ?_⟩
    refine ⟨_, rfl, _, _, rfl, rfl, .inr ⟨by decide, by decide⟩, _, rfl, _, _, rfl, rfl, .inr ⟨by decide, by decide⟩, _, _, rfl, rfl, _, _, rfl, rfl, _, rfl, _, _, rfl, rfl, modM, ?_⟩
    refine ⟨4, rfl, by decide, by decide, for_range (n := 4) (fun t σ H' => ∃ (z : Int) (y : Option V), σ = [some (.int n), some (.int i), some (.int 2305843009213693951), some (.int z), y] ∧ 0 ≤ z ∧ z < 2305843009213693951 ∧ H' = H) ⟨_, none, rfl, fmod_lo, fmod_hi, rfl⟩ ?_ ?_⟩
    · rintro t σ H' ht ⟨z, y, rfl, h0, h1, rfl⟩
      refine ⟨_, rfl, _, rfl, _, _, rfl, rfl, .inl ⟨by omega, by omega⟩, _, rfl, _, _, rfl, rfl, .inl ⟨by decide, by decide⟩, _, _, rfl, rfl, _, rfl, _, _, rfl, rfl, .inl ⟨by decide, by decide⟩, _, _, rfl, rfl, _, rfl, _, _, rfl, rfl, _, rfl, _, _, rfl, rfl, modM, ?_⟩
      exact ⟨_, _, rfl, fmod_lo, fmod_hi, rfl⟩
    · rintro σ H' ⟨z, y, rfl, h0, h1, rfl⟩
      refine ⟨_, rfl, _, rfl, _, _, rfl, rfl, .inl ⟨by omega, by omega⟩, _, rfl, _, _, rfl, rfl, .inr ⟨by decide, by decide⟩, _, rfl, _, _, rfl, rfl, _, rfl, _, _, rfl, rfl, modM, _, _, rfl, rfl, ?_⟩
      refine q _ ?_
      have := fmod_lo (a := z * 48271 + i)
      omega

/-! the source of draws: [numbers, i, x, y], all not negative -/
def Src (H : Hp) (a n : Addr) : Prop := ∃ (i x y : Int) (ns : List Int), H a = some (.lst [.ref n, .int i, .int x, .int y]) ∧ H n = some (.lst (ns.map V.int)) ∧ (∀ z ∈ ns, 0 ≤ z) ∧ 0 ≤ i ∧ 0 ≤ x ∧ 0 ≤ y ∧ ns.length ≤ 20
/-- the source stands at a still; all else that was tracked is as it was -/
def Stp (a n : Addr) (H H' : Hp) : Prop := Src H' a n ∧ ∀ c o, H c = some o → c ≠ a → H' c = some o
theorem Stp.trans {a n : Addr} {H H1 H2 : Hp} (h : Stp a n H H1) (h2 : Stp a n H1 H2) : Stp a n H H2 := ⟨h2.1, fun c o e z => h2.2 c o (h.2 c o e z) z⟩
theorem Stp.seq {a m l : Addr} {H H' : Hp} {xs : List V} (h : Stp a m H H') (n : l ≠ a) (q : SqL K H l xs) : SqL K H' l xs := by
  rcases q with (q | ⟨o, q⟩) | q
  · exact .inl (.inl (h.2 _ _ q n))
  · exact .inl (.inr ⟨o, h.2 _ _ q n⟩)
  · exact .inr q
theorem Src.ne {H : Hp} {a n : Addr} {i x y : Int} {ns : List Int} (h : H a = some (.lst [.ref n, .int i, .int x, .int y])) (h2 : H n = some (.lst (ns.map V.int))) : n ≠ a := fun e => by
  rw [e, h] at h2
  cases ns with
  | nil => cases h2
  | cons z r => cases h2
theorem same_upd {H : Hp} {p : Addr} {o : HO} (h : H p = none) : Same H (upd H p o) := fun b x e => by
  rw [upd_ne (ne_of_none e h)]
  exact e
theorem take_min (xs : List V) (n : Nat) : xs.take (min n xs.length) = xs.take n := by
  by_cases h : n ≤ xs.length
  · rw [Nat.min_eq_left h]
  · rw [Nat.min_eq_right (by omega), List.take_length, List.take_of_length_le (by omega)]
theorem cut_to (xs : List V) (n : Nat) : cutV xs none (some (n : Int)) = xs.take n := by
  unfold cutV
  rw [HT.sIx_none, HT.sIx_nat, List.drop_zero, Nat.sub_zero, take_min]
theorem cut_mid (xs : List V) (n m : Nat) (hnm : n ≤ m) : cutV xs (some (n : Int)) (some (m : Int)) = (xs.drop n).take (m - n) := by
  unfold cutV
  rw [HT.sIx_nat, HT.sIx_nat]
  by_cases h : n ≤ xs.length
  · rw [Nat.min_eq_left h]
    by_cases h2 : m ≤ xs.length
    · rw [Nat.min_eq_left h2]
    · rw [Nat.min_eq_right (by omega), List.take_of_length_le (by rw [List.length_drop]; omega), List.take_of_length_le (by rw [List.length_drop]; omega)]
  · rw [Nat.min_eq_right (show xs.length ≤ n by omega), List.drop_of_length_le (Nat.le_refl _), List.drop_of_length_le (show xs.length ≤ n by omega), List.take_nil, List.take_nil]
theorem cut_from (xs : List V) (n : Nat) : cutV xs (some (n : Int)) none = xs.drop n := by
  unfold cutV
  rw [HT.sIx_none, HT.sIx_nat]
  by_cases h : n ≤ xs.length
  · rw [Nat.min_eq_left h, List.take_of_length_le (by rw [List.length_drop]; omega)]
  · rw [Nat.min_eq_right (by omega), List.drop_of_length_le (by omega), List.drop_of_length_le (by omega), List.take_nil]
/-- for i, x in enumerate(list) -/
theorem for_enum {a : Addr} {xs : List V} {g : TG} {tb : TS} {D : Ends} {σ : L2.St} {H : Hp} (Pv : Nat → L2.St → Hp → Prop) (h0 : Pv 0 σ H) (hl : ∀ i σ H, i ≤ xs.length → Pv i σ H → SqL K H a xs)
    (hs : ∀ i x σ H T, xs[i]? = some x → Pv i σ H → H T = none → g (.ref T) σ (upd H T (.tup [.int (i : Nat), x])) fun σ2 H2 => tb { D with nx := Pv (i + 1), ct := Pv (i + 1), bk := D.nx } σ2 H2) (hd : ∀ σ H, Pv xs.length σ H → D.nx σ H) :
    ∃ W : Nat → Nat → L2.St → Hp → Prop, (∃ m, W 0 m σ H) ∧ ∀ i m σ H, W i m σ H →
      ((Ite K a).stop i H ∧ D.nx σ H) ∨ ((Ite K a).go i H ∧ ∃ N : L2.St → Hp → Prop, (∀ σ' H', N σ' H' → ∃ m', m' < m ∧ W (i + 1) m' σ' H') ∧ ∀ x H', (Ite K a).yld i H x H' → g x σ H' fun σ2 H2 => tb { D with nx := N, ct := N, bk := D.nx } σ2 H2) := by
  refine ⟨fun i m σ H => i + m = xs.length ∧ Pv i σ H, ⟨xs.length, by omega, h0⟩, ?_⟩
  rintro i m σ H ⟨hm, p⟩
  have q := hl i σ H (by omega) p
  by_cases hlt : i < xs.length
  · refine .inr ⟨⟨xs, xs[i], q, List.getElem?_eq_getElem hlt⟩, Pv (i + 1), fun σ' H' p' => ⟨m - 1, by omega, by omega, p'⟩, fun v H' y => ?_⟩
    obtain ⟨T, x, rfl, hT, rfl, y⟩ := y
    exact hs i x σ H T (y xs q) p hT
  · have e : i = xs.length := by omega
    subst e
    exact .inl ⟨⟨xs, q, Nat.le_refl _⟩, hd σ H p⟩
/-! ### draws -/
def absI (i : Int) : Int := if i < 0 then -i else i
theorem absI_nn (i : Int) : 0 ≤ absI i := by
  unfold absI
  split <;> omega
theorem scDrw : FnScope ["script", "number", "numbers", "index"] ["script"] (defScope sDrw) := ⟨rfl, rfl, rfl, by decide +kernel, rfl, by decide +kernel, by decide +kernel⟩
def spDrw (K : PySem.W.Frag) : Sp := fun vs H Q _ => ∃ (a : Addr) (ns : List Int), vs = [.ref a] ∧ SqL K H a (ns.map V.int) ∧ ns.length ≤ 63 ∧ ∀ H' p n, Same H H' → H p = none → H n = none → Src H' p n → Q (.ref p) H'
theorem map_get {ns : List Int} {i : Nat} {y : V} (h : (ns.map V.int)[i]? = some y) : ∃ z, ns[i]? = some z ∧ y = .int z := by
  rw [List.getElem?_map] at h
  cases e : ns[i]? with
  | none =>
    rw [e] at h
    cases h
  | some z =>
    rw [e] at h
    exact ⟨z, rfl, (Option.some.inj h).symm⟩
theorem ok_drw {f : Addr} {fd : FuncData} {k : Nat} (F : Fun K "_law_draws" "_law_draws" sDrw f fd) (me : mg "enumerate" = none) (ma : mg "abs" = none) : FnOk P w K mg base CX0 (k + 1) f fd ["script"] (spDrw K) := by
  refine F.ok scDrw (fun vs H Q E h => ?_) (fun cdv A outer s H vs Q E hr h => ?_)
  · obtain ⟨a, ns, rfl, _⟩ := h
    rfl
  · obtain ⟨a, ns, rfl, hS, hlen, q⟩ := h
    refine ⟨_, pss_cons (ps_setLc (i := 2) (own := [("number", 1)]) (g := gName 1) (tt := tYes) (by rfl) scDrw.nd rfl rfl (sw_true rfl rfl rfl (by decide +kernel)) (pi_list (pe_slice sl_list (pv 0) po_none (po_some pe_int))) (blkOk_by (N := ["script", "number", "numbers", "index"]) (sc := defScope sDrw) (by decide +kernel))
        (fun _ _ _ _ _ => pg_name (i := 1) scDrw.nd rfl (.inl rfl)) (fun _ _ _ _ _ => pts_nil) (fun _ _ _ _ _ => pe_callB call_abs (by rfl) ma (by decide +kernel) (pa_cons (pv 1) pa_nil)))
      (pss_cons (ps_for PassesOwn.never rfl (pi_enum (by rfl) me (pa_cons (pe_slice sl_list (pv 0) (po_some pe_int) (po_some pe_int)) pa_nil)) (pg_tup rfl (pgs_cons (pg_name (i := 3) scDrw.nd rfl (.inl rfl)) (pgs_cons (pg_name (i := 1) scDrw.nd rfl (.inl rfl)) pgs_nil)))
        (pss_one (ps_asg (pe_op op_add (pe_ix ix_list (pv 2) (pe_op op_modN (pv 3) pe_int) (fun _ _ => rfl)) (pe_callB call_abs (by rfl) ma (by decide +kernel) (pa_cons (pv 1) pa_nil))) (pg_sub (pv 2) (pe_op op_modN (pv 3) pe_int) set_list))))
      (pss_one (ps_ret (pe_lst (pa_cons (pv 2) (pa_cons pe_int (pa_cons pe_int (pa_cons pe_int pa_nil)))))))), ?_⟩
    have e1 : cutV (ns.map V.int) none (some 20) = (ns.take 20).map V.int := by
      rw [List.map_take]
      exact cut_to _ 20
    have e2 : cutV (ns.map V.int) (some 20) (some 60) = ((ns.drop 20).take 40).map V.int := by
      rw [List.map_take, List.map_drop]
      exact cut_mid _ 20 60 (by omega)
    refine ⟨.ref a, rfl, 20, rfl, a, ns.map V.int, rfl, hS, fun c nc => ⟨c, rfl, ⟨_, .inl (.inl upd_same)⟩, fun D nD => lc_list (K := K) (a := c) (xs := (ns.take 20).map V.int)
      (fun i H' => Same H H' ∧ H' c = some (.lst ((ns.take 20).map V.int)) ∧ H' D = some (.lst ((((ns.take 20).take i).map absI).map V.int))) ?_ ?_ ?_ ?_⟩⟩
    · have ncD : c ≠ D := fun e => by
        rw [← e, upd_same] at nD
        cases nD
      refine ⟨(same_upd nc).trans (same_upd nD), ?_, upd_same⟩
      rw [upd_ne ncD, upd_same, e1]
    · exact fun i H' _ h => .inl (.inl h.2.1)
    · rintro i y H1 hy ⟨sm, hc, hD⟩
      obtain ⟨z, hz, rfl⟩ := map_get hy
      refine ⟨rfl, _, rfl, z, rfl, _, hD, ?_, fun b o e => ?_, ?_, ?_⟩
      · rw [List.length_map, List.length_map]
        exact small1000 (by simp only [List.length_take]; omega)
      · rw [upd_ne (ne_of_none e ((same_upd nc).free nD))]
        exact sm _ _ e
      · have ncD : c ≠ D := fun e => by
          rw [← e, upd_same] at nD
          cases nD
        rw [upd_ne ncD]
        exact hc
      · rw [upd_same, List.take_add_one (l := List.take 20 ns), hz]
        simp only [Option.toList, List.map_append, List.map_cons, List.map_nil]
        rfl
    · rintro H1 ⟨sm, hc, hD⟩
      rw [List.length_map, List.take_length] at hD
      have hnD : H D = none := (same_upd nc).free nD
      generalize hms : (ns.take 20).map absI = ms at hD
      have hms0 : ∀ z ∈ ms, 0 ≤ z := fun z h => by
        rw [← hms] at h
        obtain ⟨u, _, rfl⟩ := List.mem_map.mp h
        exact absI_nn u
      have hml : ms.length = min 20 ns.length := by rw [← hms, List.length_map, List.length_take]
      refine ⟨.ref a, rfl, 20, rfl, 60, rfl, a, ns.map V.int, rfl, sm.seq hS, fun c2 nc2 => ⟨c2, _, rfl, .inl (.inl upd_same), ?_⟩⟩
      have nD2 : D ≠ c2 := ne_of_none hD nc2
      refine for_enum (K := K) (a := c2) (xs := ((ns.drop 20).take 40).map V.int) (fun i σ H' => ∃ (y1 y3 : Option V) (ks : List Int), σ = [some (.ref a), y1, some (.ref D), y3] ∧ Same H H' ∧ H' c2 = some (.lst (((ns.drop 20).take 40).map V.int)) ∧ H' D = some (.lst (ks.map V.int)) ∧ ks.length = ms.length ∧ ∀ z ∈ ks, 0 ≤ z) ?_ ?_ ?_ ?_
      · refine ⟨_, none, ms, rfl, sm.trans (same_upd nc2), ?_, ?_, rfl, hms0⟩
        · rw [upd_same, e2]
        · rw [upd_ne nD2]
          exact hD
      · rintro i σ H' _ ⟨_, _, _, _, _, hc2, _⟩
        exact .inl (.inl hc2)
      · rintro i x σ H' T hx ⟨y1, y3, ks, rfl, sm', hc2, hD', hl', hn'⟩ hT
        obtain ⟨z, hz, rfl⟩ := map_get hx
        have hi : i < ((ns.drop 20).take 40).length := (List.getElem?_eq_some_iff.mp hz).1
        rw [List.length_take, List.length_drop] at hi
        have hj : i % 20 < ks.length := by
          rw [hl', hml, Nat.min_eq_left (by omega)]
          exact Nat.mod_lt _ (by decide)
        have ej : ((i : Int)).fmod 20 = ((i % 20 : Nat) : Int) := by
          rw [Int.fmod_eq_emod_of_nonneg _ (by decide)]
          omega
        have hDT : D ≠ T := ne_of_none hD' hT
        have hD2 : (upd H' T (.tup [.int (i : Nat), .int z])) D = some (.lst (ks.map V.int)) := by
          rw [upd_ne hDT]
          exact hD'
        have gk : (ks.map V.int)[i % 20]? = some (.int ks[i % 20]) := by
          rw [List.getElem?_map, List.getElem?_eq_getElem hj]
          rfl
        refine ⟨T, _, rfl, .inl (.inl upd_same), rfl, _, _, rfl, _, _, rfl, rfl, ?_⟩
        refine ⟨_, rfl, _, rfl, _, _, rfl, rfl, mod20, D, ks.map V.int, _, _, rfl, rfl, .inl (.inl hD2), at_of ej gk, _, rfl, z, rfl, _, _, rfl, rfl, ?_⟩
        refine ⟨_, rfl, _, rfl, _, _, rfl, rfl, mod20, D, ks.map V.int, _, i % 20, rfl, rfl, hD2, ?_, ?_⟩
        · rw [ej, List.length_map]
          exact Evl.ixN_nat hj
        · refine ⟨_, _, ks.set (i % 20) (ks[i % 20] + absI z), rfl, fun b o e => ?_, ?_, ?_, by rw [List.length_set, hl'], ?_⟩
          · have nb : b ≠ D := ne_of_none e hnD
            rw [upd_ne nb, upd_ne (ne_of_none (sm' _ _ e) hT)]
            exact sm' _ _ e
          · have nc2D : c2 ≠ D := nD2.symm
            rw [upd_ne nc2D, upd_ne (ne_of_none hc2 hT)]
            exact hc2
          · rw [upd_same, List.map_set]
            rfl
          · intro u hu
            rcases List.mem_or_eq_of_mem_set hu with h | rfl
            · exact hn' _ h
            · have := hn' _ (List.getElem_mem hj)
              have := absI_nn z
              omega
      · rintro σ H' ⟨y1, y3, ks, rfl, sm', hc2, hD', hl', hn'⟩
        refine ⟨_, rfl, by show 4 ≤ sizeLine; decide, fun p np => ?_⟩
        refine q _ p D (sm'.trans (same_upd np)) (sm'.free np) hnD ⟨0, 0, 0, ks, upd_same, ?_, hn', by decide, by decide, by decide, by rw [hl', hml]; omega⟩
        rw [upd_ne (ne_of_none hD' np)]
        exact hD'
end
section
variable {P : Program} {w : World} {K : PySem.W.Frag} {mg : Str → Option Value} {base : Heap}
/-! ### next -/
theorem scNxt : FnScope ["source", "bound", "numbers", "index", "number", "found"] ["source", "bound"] (defScope sNxt) := ⟨rfl, rfl, rfl, by decide +kernel, rfl, by decide +kernel, by decide +kernel⟩
def spNxt : Sp := fun vs H Q _ => ∃ (a n : Addr) (b : Int), vs = [.ref a, .int b] ∧ Src H a n ∧ 0 < b ∧ b.natAbs < 2 ^ 200 ∧ ∀ (r : Int) H', 0 ≤ r → r < b → Stp a n H H' → Q (.int r) H'
theorem dp_ints {H : Hp} : ∀ ns : List Int, DpAll K H (ns.map V.int) (ns.map PyData.int)
  | [] => .nil
  | z :: r => .cons (.int z) (dp_ints r)
theorem lay_ints : ∀ ns : List Int, PyData.canLayAll0 (ns.map PyData.int) = true
  | [] => by simp [PyData.canLayAll0]
  | z :: r => by
    have ih := lay_ints r
    simp [PyData.canLayAll0, PyData.canLay0, ih]
theorem depth_ints : ∀ ns : List Int, PyData.depthAll (ns.map PyData.int) = 0
  | [] => by simp [PyData.depthAll]
  | z :: r => by
    have ih := depth_ints r
    simp [PyData.depthAll, PyData.depth, ih]
theorem shaped_ints (ns : List Int) : SeqAt.shaped (.list (ns.map PyData.int)) = true := by
  unfold SeqAt.shaped
  simp [PyData.canLay0, PyData.depth, lay_ints, depth_ints]
theorem mod1e9 : (1000000007 : Int) ≠ 0 := by decide
/-- the source's four places -/
abbrev src4 (n : Addr) (i x y : Int) : HO := .lst [.ref n, .int i, .int x, .int y]
theorem ok_nxt {f fS : Addr} {fd fdS : FuncData} {k : Nat} (F : Fun K "_law_next" "_law_next" sNxt f fd) (ml : mg "len" = none) (FS : Fun K "_law_scramble" "_law_scramble" sScr fS fdS) (bS : Binds K fdS ["number", "index"] []) (gS : mg "_law_scramble" = some (.ref fS)) (mr : mg "range" = none) :
    FnOk P w K mg base CX0 (k + 2) f fd ["source", "bound"] spNxt := by
  have GS : FnOk P w K mg base CX0 (k + 1) fS fdS ["number", "index"] spScr := ok_scr FS mr
  refine F.ok scNxt (fun vs H Q E h => ?_) (fun cdv A outer s H vs Q E hr h => ?_)
  · obtain ⟨a, n, b, rfl, _⟩ := h
    rfl
  · obtain ⟨a, n, b, rfl, ⟨i, x, y, ns, hA, hN, hpos, hi, hx, hy, hlen⟩, hb, hb2, q⟩ := h
    have nna : n ≠ a := Src.ne hA hN
    refine ⟨_, C8.pss_cut (ps_if (pt_cmpR op_lt (pe_ix ix_list (pv 0) pe_int (fun _ _ => rfl)) (pv 1) (nomark _))
        (pss_cons (ps_par (i := 2) (j := 3) (by rfl) scNxt.nd rfl rfl (by decide) rfl rfl (pa_cons (pe_ix ix_list (pv 0) pe_int (fun _ _ => rfl)) (pa_cons (pe_ix ix_list (pv 0) pe_int (fun _ _ => rfl)) pa_nil)) (by rfl))
        (C8.pss_cut (ps_set (i := 4) scNxt.nd rfl (.inl rfl) (pe_ifExp (pt_cmpR (op_neD hr.units) (pv 2) (pe_lst pa_nil) (nomark _)) (pe_ix ix_list (pv 2) (pe_op op_modN (pv 3) (pe_callB call_len_seq (by rfl) ml PySem.boot_len (pa_cons (pv 2) pa_nil))) (fun _ _ => rfl)) pe_int))
        (C8.pss_cut (ps_if (PW.pt (pw_or (pt_cmpR op_ge (pv 3) (pe_callB call_len_seq (by rfl) ml PySem.boot_len (pa_cons (pv 2) pa_nil)) (nomark _)) (pw_or1 (pt_cmpR op_lt (pv 4) pe_int (nomark _)))))
            (pss_one (ps_set (i := 4) scNxt.nd rfl (.inl rfl) (pe_call GS hr (by rfl) gS FS.kp bS .nil pass0 (pa_cons (pe_op op_modN (pv 4) pe_int) (pa_cons (pv 3) pa_nil))))) pss_nil)
        (pss_cons (ps_asg (pe_op op_add (pv 3) pe_int) (pg_sub (pv 0) pe_int set_list))
        (pss_cons (ps_asg (pv 4) (pg_sub (pv 0) pe_int set_list))
        (pss_one (ps_asg (pv 4) (pg_sub (pv 0) pe_int set_list)))))))) pss_nil)
      (pss_cons (ps_set (i := 5) scNxt.nd rfl (.inl rfl) (pe_op op_modN (pe_ix ix_list (pv 0) pe_int (fun _ _ => rfl)) (pv 1)))
      (pss_cons (ps_asg (pe_op op_fdivW (pe_ix ix_list (pv 0) pe_int (fun _ _ => rfl)) (pv 1)) (pg_sub (pv 0) pe_int set_list))
      (pss_cons (ps_asg (pe_op op_fdivW (pe_ix ix_list (pv 0) pe_int (fun _ _ => rfl)) (pv 1)) (pg_sub (pv 0) pe_int set_list))
      (pss_one (ps_ret (pv 5)))))), ?_⟩
    refine ⟨fun σ H' => ∃ (y2 y3 y4 : Option V) (i' x' y' : Int), σ = [some (.ref a), some (.int b), y2, y3, y4, none] ∧ H' a = some (src4 n i' x' y') ∧ 0 ≤ i' ∧ 0 ≤ x' ∧ 0 ≤ y' ∧ ∀ c o, H c = some o → c ≠ a → H' c = some o, ?_, ?_⟩
    · refine ⟨.ref a, rfl, a, _, 3, _, rfl, rfl, .inl (.inl hA), atI_nat (j := 3) rfl, _, rfl, y, b, rfl, rfl, _, rfl, ite2 (fun _ => ?_) (fun _ => ?_)⟩
      · refine ⟨.ref a, rfl, a, _, 0, _, rfl, rfl, .inl (.inl hA), atI_nat (j := 0) rfl, .ref a, rfl, a, _, 1, _, rfl, rfl, .inl (.inl hA), atI_nat (j := 1) rfl, _, _, rfl, ?_⟩
        refine ⟨fun σ H' => ∃ z : Int, σ = [some (.ref a), some (.int b), some (.ref n), some (.int i), some (.int z), none] ∧ 0 ≤ z ∧ Same H H', ?_, ?_⟩
        · refine ⟨.ref n, rfl, by show 0 ≤ sizeLine; decide, fun p np => ?_⟩
          have hN1 : (upd H p (.lst [])) n = some (.lst (ns.map V.int)) := same_upd np _ _ hN
          refine ⟨.list (ns.map PyData.int), .list [], .lst (.inl (.inl hN1)) (dp_ints ns), .lst (.inl (.inl upd_same)) .nil, shaped_ints ns, shaped_ints [], _, rfl, ite2 (fun hne => ?_) (fun he => ?_)⟩
          · have nz : ns ≠ [] := fun e => by
              subst e
              revert hne
              decide +kernel
            have hl0 : 0 < ns.length := List.length_pos_iff.mpr nz
            have hj : i.toNat % ns.length < ns.length := Nat.mod_lt _ hl0
            have ej : i.fmod (ns.length : Int) = ((i.toNat % ns.length : Nat) : Int) := by
              rw [Int.fmod_eq_emod_of_nonneg _ (by omega), Int.natCast_emod]
              congr 1
              omega
            have gk : (ns.map V.int)[i.toNat % ns.length]? = some (.int ns[i.toNat % ns.length]) := by
              rw [List.getElem?_map, List.getElem?_eq_getElem hj]
              rfl
            refine ⟨.ref n, rfl, _, rfl, .ref n, rfl, n, _, rfl, .inl (.inl (.inl hN1)), _, _, rfl, rfl, ?_, n, _, _, _, rfl, rfl, .inl (.inl hN1), at_of (by rw [List.length_map]; exact ej) gk, ?_⟩
            · rw [List.length_map]
              omega
            · exact ⟨_, rfl, hpos _ (List.getElem_mem hj), same_upd np⟩
          · exact ⟨0, rfl, by decide, same_upd np⟩
        · rintro σ H1 ⟨z, rfl, hz, sm⟩
          have hN1 := sm _ _ hN
          have hA1 := sm _ _ hA
          refine ⟨fun σ H' => ∃ z : Int, σ = [some (.ref a), some (.int b), some (.ref n), some (.int i), some (.int z), none] ∧ 0 ≤ z ∧ Same H H', ?_, ?_⟩
          · refine ⟨_, rfl, .ref n, rfl, n, _, rfl, .inl (.inl (.inl hN1)), _, _, rfl, rfl, _, rfl, ite2 (fun _ => ?_) (fun _ => ?_)⟩
            · exact ⟨_, rfl, _, _, rfl, rfl, mod1e9, _, rfl, _, _, rfl, fun r h0 => ⟨r, rfl, h0, sm⟩⟩
            · refine ⟨_, rfl, _, _, rfl, rfl, _, rfl, ite2 (fun _ => ?_) (fun _ => ?_)⟩
              · exact ⟨_, rfl, _, _, rfl, rfl, mod1e9, _, rfl, _, _, rfl, fun r h0 => ⟨r, rfl, h0, sm⟩⟩
              · exact ⟨z, rfl, hz, sm⟩
          · rintro σ H2 ⟨z2, rfl, hz2, sm2⟩
            have hA2 := sm2 _ _ hA
            refine ⟨_, rfl, _, _, rfl, rfl, .ref a, rfl, a, _, _, 1, rfl, rfl, hA2, rfl, ?_⟩
            refine ⟨_, rfl, .ref a, rfl, a, _, _, 2, rfl, rfl, upd_same, rfl, ?_⟩
            refine ⟨_, rfl, .ref a, rfl, a, _, _, 3, rfl, rfl, upd_same, rfl, ?_⟩
            refine ⟨_, _, _, i + 1, z2, z2, rfl, upd_same, by omega, hz2, hz2, fun c o e ne => ?_⟩
            rw [upd_ne ne, upd_ne ne, upd_ne ne]
            exact sm2 _ _ e
      · exact ⟨none, none, none, i, x, y, rfl, hA, hi, hx, hy, fun c o e _ => e⟩
    · rintro σ H' ⟨y2, y3, y4, i', x', y', rfl, hA', hi', hx', hy', kp⟩
      have bne : b ≠ 0 := by omega
      have wd : ∀ u : Int, CDivW u b := fun u => wide_div hb hb2 (by decide) (by decide)
      refine ⟨.ref a, rfl, a, _, 2, _, rfl, rfl, .inl (.inl hA'), atI_nat (j := 2) rfl, _, rfl, _, _, rfl, rfl, bne, ?_⟩
      refine ⟨.ref a, rfl, a, _, 2, _, rfl, rfl, .inl (.inl hA'), atI_nat (j := 2) rfl, _, rfl, _, _, rfl, rfl, wd _, .ref a, rfl, a, _, _, 2, rfl, rfl, hA', rfl, ?_⟩
      refine ⟨.ref a, rfl, a, _, 3, _, rfl, rfl, .inl (.inl upd_same), atI_nat (j := 3) rfl, _, rfl, _, _, rfl, rfl, wd _, .ref a, rfl, a, _, _, 3, rfl, rfl, upd_same, rfl, ?_⟩
      refine ⟨_, rfl, q _ _ (Int.fmod_nonneg_of_pos _ hb) (Int.fmod_lt_of_pos _ hb) ⟨⟨i', x' / b, y' / b, ns, upd_same, ?_, hpos, hi', Int.ediv_nonneg hx' (by omega), Int.ediv_nonneg hy' (by omega), hlen⟩, fun c o e ne => ?_⟩⟩
      · rw [upd_ne nna, upd_ne nna]
        exact kp _ _ hN nna
      · rw [upd_ne ne, upd_ne ne]
        exact kp _ _ e ne
/-! ### choose -/
theorem scCho : FnScope ["source", "items"] ["source", "items"] (defScope sCho) := ⟨rfl, rfl, rfl, by decide +kernel, rfl, by decide +kernel, by decide +kernel⟩
def spCho (K : PySem.W.Frag) : Sp := fun vs H Q _ => ∃ (a n l : Addr) (xs : List V), vs = [.ref a, .ref l] ∧ Src H a n ∧ SqL K H l xs ∧ l ≠ a ∧ xs ≠ [] ∧ xs.length ≤ 1000000 ∧ ∀ v H', v ∈ xs → Stp a n H H' → Q v H'
theorem ok_cho {f fN : Addr} {fd fdN : FuncData} {k : Nat} (F : Fun K "_law_choose" "_law_choose" sCho f fd) (ml : mg "len" = none) (GN : FnOk P w K mg base CX0 (k + 2) fN fdN ["source", "bound"] spNxt) (kN : PySem.W.keepIn K (.ref fN) = true) (bN : Binds K fdN ["source", "bound"] []) (gN : mg "_law_next" = some (.ref fN)) :
    FnOk P w K mg base CX0 (k + 3) f fd ["source", "items"] (spCho K) := by
  refine F.ok scCho (fun vs H Q E h => ?_) (fun cdv A outer s H vs Q E hr h => ?_)
  · obtain ⟨a, n, l, xs, rfl, _⟩ := h
    rfl
  · obtain ⟨a, n, l, xs, rfl, hs, hl, hne, hx, hz, q⟩ := h
    refine ⟨_, pss_one (ps_ret (pe_ix ix_list (pv 1) (pe_call GN hr (by rfl) gN kN bN .nil pass0 (pa_cons (pv 0) (pa_cons (pe_callB call_len_seq (by rfl) ml PySem.boot_len (pa_cons (pv 1) pa_nil)) pa_nil))) (fun _ _ => rfl))), ?_⟩
    have hlp : 0 < xs.length := List.length_pos_iff.mpr hx
    refine ⟨.ref l, rfl, .ref a, rfl, .ref l, rfl, l, xs, rfl, .inl hl, a, n, _, rfl, hs, by omega, ?_, fun r H' h0 h1 st => ?_⟩
    · rw [Int.natAbs_natCast]
      exact Nat.lt_of_le_of_lt hz (by decide)
    · obtain ⟨j, rfl⟩ := Int.eq_ofNat_of_zero_le h0
      have hj : j < xs.length := by omega
      exact ⟨l, xs, _, _, rfl, rfl, st.seq hne hl, atI_nat (List.getElem?_eq_getElem hj), q _ _ (List.getElem_mem hj) st⟩
/-! ### identical -/
theorem scIde : FnScope ["found", "expected"] ["found", "expected"] (defScope sIde) := ⟨rfl, rfl, rfl, by decide +kernel, rfl, by decide +kernel, by decide +kernel⟩
/-- data that is shown -/
structure Shn (d : PyData) : Prop where
  sh : d.showable = true
  nd : d.hasDict = false
  dp : d.depth ≤ 60
  sz : d.shown.length ≤ sizeLine
def spIde (K : PySem.W.Frag) : Sp := fun vs H Q _ => ∃ (x y : V) (d : PyData), vs = [x, y] ∧ Dp K H x d ∧ Dp K H y d ∧ Shn d ∧ Q (.bl true) H
theorem ok_ide {f : Addr} {fd : FuncData} {k : Nat} (F : Fun K "_law_identical" "_law_identical" sIde f fd) (mp : mg "repr" = none) : FnG P w K mg base (k + 1) f fd ["found", "expected"] (spIde K) := by
  refine Fun_okG F scIde (fun vs H Q E h => ?_) (fun cdv A outer s H vs Q E hg hr h => ?_)
  · obtain ⟨x, y, d, rfl, _⟩ := h
    rfl
  · obtain ⟨x, y, d, rfl, hx, hy, hd, q⟩ := h
    have hun : (cxOf CX0 P w K mg base ["found", "expected"] "_law_identical" (defScope sIde) f cdv A outer s H E).nox.A.units + 100 < cLine := by
      have := hr.un
      show (A.deeper _).units + 100 < cLine
      omega
    refine ⟨_, pss_one (ps_ret (pe_cmpR op_eq (pe_callB (call_reprD hg hun) (by rfl) mp (by decide +kernel) (pa_cons (pv 0) pa_nil)) (pe_callB (call_reprD hg hun) (by rfl) mp (by decide +kernel) (pa_cons (pv 1) pa_nil)) (nomark _))), ?_⟩
    refine ⟨x, rfl, x, d, rfl, hx, hd.sh, hd.nd, hd.dp, hd.sz, y, rfl, y, d, rfl, hy, hd.sh, hd.nd, hd.dp, hd.sz, rfl, ?_⟩
    rw [decide_eq_true rfl]
    exact q
end
section
variable {P : Program} {w : World} {K : PySem.W.Frag} {mg : Str → Option Value} {base : Heap}
theorem eqv_ints : ∀ as bs : List Int, PyData.eqvAll (as.map PyData.int) (bs.map PyData.int) = decide (as = bs)
  | [], [] => by simp [PyData.eqvAll]
  | [], b :: bs => by simp [PyData.eqvAll]
  | a :: as, [] => by simp [PyData.eqvAll]
  | a :: as, b :: bs => by
    have ih := eqv_ints as bs
    rw [List.map_cons, List.map_cons]
    show (PyData.eqvAll (.int a :: as.map PyData.int) (.int b :: bs.map PyData.int)) = _
    rw [PyData.eqvAll, ih, PyData.eqv]
    by_cases e1 : a = b <;> by_cases e2 : as = bs <;> simp [e1, e2]
theorem shaped_intsT (ns : List Int) : SeqAt.shaped (.tuple (ns.map PyData.int)) = true := by
  unfold SeqAt.shaped
  simp [PyData.canLay0, PyData.depth, lay_ints, depth_ints]
theorem dp_tup {H : Hp} {a : Addr} {ns : List Int} (h : SqT K H a (ns.map V.int)) : Dp K H (.ref a) (.tuple (ns.map PyData.int)) := .tup h (dp_ints ns)
theorem eqvT (as bs : List Int) : PyData.eqv (.tuple (as.map PyData.int)) (.tuple (bs.map PyData.int)) = decide (as = bs) := by
  rw [← eqv_ints]
  simp [PyData.eqv]
end
/-! tuples joined, repeated, cut: some tuple, all else as it was -/
theorem Same.seqT {K : PySem.W.Frag} {H H' : Hp} {a : Addr} {xs : List V} (e : Same H H') (h : SqT K H a xs) : SqT K H' a xs := by
  rcases h with (h | ⟨o, h⟩) | h
  · exact .inl (.inl (e _ _ h))
  · exact .inl (.inr ⟨o, e _ _ h⟩)
  · exact .inr h
theorem Stp.seqT {K : PySem.W.Frag} {a m l : Addr} {H H' : Hp} {xs : List V} (h : Stp a m H H') (n : SqT K H l xs → l ≠ a) (q : SqT K H l xs) : SqT K H' l xs := by
  have n := n q
  rcases q with (q | ⟨o, q⟩) | q
  · exact .inl (.inl (h.2 _ _ q n))
  · exact .inl (.inr ⟨o, h.2 _ _ q n⟩)
  · exact .inr q
theorem Src.same {H H' : Hp} {a n : Addr} (h : Src H a n) (e : Same H H') : Src H' a n := by
  obtain ⟨i, x, y, ns, h1, h2, h3⟩ := h
  exact ⟨i, x, y, ns, e _ _ h1, e _ _ h2, h3⟩
theorem Stp.of {H H' : Hp} {a n : Addr} (h : Src H a n) (e : Same H H') : Stp a n H H' := ⟨h.same e, fun c o z _ => e c o z⟩
theorem Stp.refl {H : Hp} {a n : Addr} (h : Src H a n) : Stp a n H H := .of h (Same.refl H)
theorem Stp.then {H H1 H2 : Hp} {a n : Addr} (h : Stp a n H H1) (e : Same H1 H2) : Stp a n H H2 := h.trans (.of h.1 e)
section
variable {X : Cx}
def rRepU (K : PySem.W.Frag) : R2 := fun x y H Q => ∃ l k xs, x = .ref l ∧ y = .int k ∧ SqT K H l xs ∧ xs.length = 1 ∧ -1000 ≤ k ∧ k ≤ 1000 ∧ ∀ p H', Same H H' → SqT K H' p (List.replicate k.toNat xs).flatten → Q (.ref p) H'
theorem op_repU : OpR X (binaryOp .Mult) (rRepU X.K) := by
  intro pins s σ H x y v u Q I rx ry h
  obtain ⟨l, k, xs, hx, hy, hT, hl, h1, h2, q⟩ := h
  refine op_repZ pins s σ H x y v u Q I rx ry ⟨l, k, xs, hx, hy, hT, ?_, h1, h2, by omega, fun h0 p np => ?_, fun h0 => ?_, fun h0 p np => ?_⟩
  · rintro rfl
    cases hl
  · refine q p _ (same_upd np) (.inl (.inl ?_))
    have e : k.toNat = 0 := by omega
    rw [e, upd_same]
    rfl
  · refine q l H (Same.refl H) ?_
    subst h0
    have e : (List.replicate (1 : Int).toNat xs).flatten = xs := by
      show (List.replicate 1 xs).flatten = xs
      simp
    rw [e]
    exact hT
  · exact q p _ (same_upd np) (.inl (.inl upd_same))
def rCatU (K : PySem.W.Frag) : R2 := fun x y H Q => ∃ a b xs ys, x = .ref a ∧ y = .ref b ∧ SqT K H a xs ∧ SqT K H b ys ∧ xs.length + ys.length ≤ sizeLine ∧ ∀ p H', Same H H' → SqT K H' p (xs ++ ys) → Q (.ref p) H'
theorem op_catU : OpR X (binaryOp .Add) (rCatU X.K) := by
  intro pins s σ H x y v u Q I rx ry h
  obtain ⟨a, b, xs, ys, hx, hy, ha, hb, hl, q⟩ := h
  refine op_catA pins s σ H x y v u Q I rx ry ⟨a, b, xs, ys, hx, hy, ha, hb, hl, fun e => ?_, fun _ e => ?_, fun _ _ p np => ?_⟩
  · subst e
    exact q b H (Same.refl H) hb
  · subst e
    exact q a H (Same.refl H) (by rw [List.append_nil]; exact ha)
  · exact q p _ (same_upd np) (.inl (.inl upd_same))
def rSlU (K : PySem.W.Frag) : V → Option Int → Option Int → Hp → VK → Prop := fun x lo hi H Q => ∃ a xs, x = .ref a ∧ SqT K H a xs ∧ ∀ p H', Same H H' → SqT K H' p (cutV xs lo hi) → Q (.ref p) H'
theorem sl_tupU : SlR X (rSlU X.K) := by
  intro pins s σ H x v vl vu lo hi sl Q I rx i1 i2 i3 hq
  obtain ⟨a, xs, hx, ha, q⟩ := hq
  refine sl_tupA pins s σ H x v vl vu lo hi sl Q I rx i1 i2 i3 ⟨a, xs, hx, ha, fun e => ?_, fun _ p np => ?_⟩
  · refine q a H (Same.refl H) ?_
    unfold cutV
    rw [e.1, e.2, List.drop_zero, Nat.sub_zero, List.take_length]
    exact ha
  · exact q p _ (same_upd np) (.inl (.inl upd_same))
end
theorem flat_one (n : Nat) (z : Int) : (List.replicate n [V.int z]).flatten = (List.replicate n z).map V.int := by
  induction n with
  | zero => rfl
  | succ n ih =>
    rw [List.replicate_succ, List.flatten_cons, ih, List.replicate_succ]
    rfl

theorem Stp.tup {K : PySem.W.Frag} {a n l : Addr} {H H' : Hp} {xs : List V} (h : Stp a n H H') (hs : Src H a n) (q : SqT K H l xs) : SqT K H' l xs := by
  obtain ⟨i, x, y, ns, ha, _⟩ := hs
  rcases q with (q | ⟨o, q⟩) | q
  · exact .inl (.inl (h.2 _ _ q fun e => by rw [e, ha] at q; cases q))
  · exact .inl (.inr ⟨o, h.2 _ _ q fun e => by rw [e, ha] at q; cases q⟩)
  · exact .inr q
theorem Src.has {a n l : Addr} {H : Hp} (hs : Src H a n) (hl : H l = none) : l ≠ a := fun e => by
  obtain ⟨i, x, y, ns, ha, _⟩ := hs
  rw [e, ha] at hl
  cases hl
theorem Src.hasN {a n l : Addr} {H : Hp} (hs : Src H a n) (hl : H l = none) : l ≠ n := fun e => by
  obtain ⟨i, x, y, ns, _, hn, _⟩ := hs
  rw [e, hn] at hl
  cases hl
/-- an object beside the source and its numbers is changed -/
theorem Src.upd {a n l : Addr} {H : Hp} {o : HO} (hs : Src H a n) (h : l ≠ a) (h2 : l ≠ n) : Src (upd H l o) a n := by
  obtain ⟨i, x, y, ns, ha, hn, r⟩ := hs
  exact ⟨i, x, y, ns, by rw [upd_ne (Ne.symm h)]; exact ha, by rw [upd_ne (Ne.symm h2)]; exact hn, r⟩
/-- .. that was not there at the start -/
theorem Stp.upd {a n l : Addr} {H H' : Hp} {o : HO} (h : Stp a n H H') (hs : Src H a n) (hl : H l = none) : Stp a n H (upd H' l o) := by
  refine ⟨h.1.upd (hs.has hl) (hs.hasN hl), fun c o' e ne => ?_⟩
  rw [upd_ne (ne_of_none e hl)]
  exact h.2 c o' e ne

/-! ### what is shown -/
theorem log_small {z : Int} (h : z.natAbs < 2 ^ 200) : z.natAbs.log2 < 1920 := by
  by_cases h0 : z.natAbs = 0
  · rw [h0]
    decide
  · have := (Nat.log2_lt h0).mpr h
    omega
theorem int_len {z : Int} (h : z.natAbs < 2 ^ 200) : (PyData.shown (.int z)).length ≤ 2000 := by
  have e : (PyData.shown (.int z)) = Str.ofString (toString z) := by simp [PyData.shown]
  rw [e]
  have h1 := int_text_length_le (a := z) (k := 1920) (by decide) (log_small h)
  rw [PySem.ofString_length]
  omega
theorem Shn.int {z : Int} (h : z.natAbs < 2 ^ 200) : Shn (.int z) := by
  refine ⟨?_, by simp [PyData.hasDict], by simp [PyData.depth], ?_⟩
  · simpa [PyData.showable] using log_small h
  · have := int_len h
    exact Nat.le_of_lt (Nat.lt_of_le_of_lt this (by decide))
theorem ints_sh : ∀ zs : List Int, (∀ z ∈ zs, z.natAbs < 2 ^ 200) → PyData.showableAll (zs.map PyData.int) = true ∧ PyData.hasDictAll (zs.map PyData.int) = false ∧ (PyData.shownAll (zs.map PyData.int)).length = zs.length ∧ piled (PyData.shownAll (zs.map PyData.int)) ≤ 2002 * zs.length
  | [], _ => by simp [PyData.showableAll, PyData.hasDictAll, PyData.shownAll, piled]
  | z :: r, h => by
    obtain ⟨h1, h2, h3, h4⟩ := ints_sh r fun y hy => h y (List.mem_cons_of_mem _ hy)
    have hz := h z (List.mem_cons_self ..)
    have h5 := int_len hz
    rw [List.map_cons]
    refine ⟨?_, ?_, ?_, ?_⟩
    · rw [PyData.showableAll, h1, (Shn.int hz).sh]
      rfl
    · rw [PyData.hasDictAll, h2, (Shn.int hz).nd]
      rfl
    · rw [PyData.shownAll, List.length_cons, List.length_cons, h3]
    · rw [PyData.shownAll, piled_cons, List.length_cons]
      omega
theorem Shn.tup {zs : List Int} (h : ∀ z ∈ zs, z.natAbs < 2 ^ 200) (hl : zs.length ≤ 1000) : Shn (.tuple (zs.map PyData.int)) := by
  obtain ⟨h1, h2, h3, h4⟩ := ints_sh zs h
  refine ⟨by rw [PyData.showable, h1], by rw [PyData.hasDict, h2], ?_, ?_⟩
  · rw [PyData.depth, depth_ints]
    decide
  · rw [PyData.shown]
    have h5 := PySem.fmt_text (PyData.shownAll (zs.map PyData.int))
    rw [sizeLine_eq]
    omega
/-! ### the order -/
structure NZ (zs : List Int) : Prop where
  nn : ∀ z ∈ zs, 0 ≤ z
  hd : zs.head? ≠ some 0

/-! what is shown, and how long it is -/
structure Sd (d : PyData) (k n : Nat) : Prop where
  sh : d.showable = true
  nd : d.hasDict = false
  dp : d.depth ≤ k
  sz : d.shown.length ≤ n
structure SdA (ds : List PyData) (k n : Nat) : Prop where
  sh : PyData.showableAll ds = true
  nd : PyData.hasDictAll ds = false
  dp : PyData.depthAll ds ≤ k
  sz : ((PyData.shownAll ds).map (·.length)).sum + 2 * (PyData.shownAll ds).length ≤ n
theorem Sd.shn {d : PyData} {k n : Nat} (h : Sd d k n) (hk : k ≤ 60) (hn : n ≤ 10000000) : Shn d := ⟨h.sh, h.nd, Nat.le_trans h.dp hk, Nat.le_trans h.sz (Nat.le_trans hn (by rw [sizeLine_eq]; decide))⟩
theorem Sd.mono {d : PyData} {k n k' n' : Nat} (h : Sd d k n) (hk : k ≤ k') (hn : n ≤ n') : Sd d k' n' := ⟨h.sh, h.nd, Nat.le_trans h.dp hk, Nat.le_trans h.sz hn⟩
theorem SdA.mono {d : List PyData} {k n k' n' : Nat} (h : SdA d k n) (hk : k ≤ k') (hn : n ≤ n') : SdA d k' n' := ⟨h.sh, h.nd, Nat.le_trans h.dp hk, Nat.le_trans h.sz hn⟩
theorem Sd.lst {ds : List PyData} {k n : Nat} (h : SdA ds k n) : Sd (.list ds) (k + 1) (n + 3) := by
  refine ⟨by rw [PyData.showable, h.sh], by rw [PyData.hasDict, h.nd], ?_, ?_⟩
  · rw [PyData.depth]
    have := h.dp
    omega
  · rw [PyData.shown]
    have h1 := listText_len_le (PyData.shownAll ds)
    have h2 := h.sz
    omega
theorem Sd.tup {ds : List PyData} {k n : Nat} (h : SdA ds k n) : Sd (.tuple ds) (k + 1) (n + 3) := by
  refine ⟨by rw [PyData.showable, h.sh], by rw [PyData.hasDict, h.nd], ?_, ?_⟩
  · rw [PyData.depth]
    have := h.dp
    omega
  · rw [PyData.shown]
    have h1 := tupleText_len_le (PyData.shownAll ds)
    have h2 := h.sz
    omega
theorem SdA.nil {k n : Nat} : SdA [] k n := ⟨rfl, rfl, Nat.zero_le _, Nat.zero_le _⟩
theorem SdA.cons {d : PyData} {ds : List PyData} {k a b : Nat} (h : Sd d k a) (r : SdA ds k b) : SdA (d :: ds) k (a + b + 2) := by
  refine ⟨by rw [PyData.showableAll, h.sh, r.sh]; rfl, by rw [PyData.hasDictAll, h.nd, r.nd]; rfl, ?_, ?_⟩
  · rw [PyData.depthAll]
    exact Nat.max_le.mpr ⟨h.dp, r.dp⟩
  · rw [PyData.shownAll, List.map_cons, List.sum_cons, List.length_cons]
    have h1 := h.sz
    have h2 := r.sz
    omega
theorem Sd.int {z : Int} {k : Nat} (h : z.natAbs < 2 ^ 200) : Sd (.int z) k 2000 := ⟨(Shn.int h).sh, rfl, Nat.zero_le _, int_len h⟩
theorem Sd.bool {b : Bool} {k : Nat} : Sd (.bool b) k 5 := ⟨rfl, rfl, Nat.zero_le _, by cases b <;> decide +kernel⟩
theorem Sd.none {k : Nat} : Sd .none k 4 := ⟨rfl, rfl, Nat.zero_le _, by decide +kernel⟩
theorem Sd.str {x : Str} {k n : Nat} (h : (reprText x).length ≤ n) : Sd (.str x) k n := ⟨rfl, rfl, Nat.zero_le _, h⟩

/-! ### the end of a law whose def leans on: no repr is under way -/
section
variable {P : Program} {w : World} {K : PySem.W.Frag} {mg mb : Str → Option Value} {k : Nat} {fa a : Addr} {fd : FuncData} {x : Str} {sp : Sp} {st : Shared} {us : List Value} {ns : List Int}
abbrev scrO (us : List Value) : Obj := { cls := .type "list", data := .seq us.toArray }
abbrev Good (st : Shared) (r : Result) (s' : Shared) : Prop := r = .ok (.ret (.bool true)) ∧ OldK st.heap s'.heap ∧ s'.os = st.os ∧ AllBare s'.gens
theorem law_at (KX : K.In st.heap) (n1 : st.heap.Ns mainGlobals mg) (n2 : st.heap.Ns builtinsNs mb) (n3 : ∀ x : Str, x ≠ "__name__" → mb x = bootBuiltins x) (n4 : st.heap.NoLimit) (hg : st.gens = #[])
    (ha : st.heap.get? a = some (scrO us)) (hr : Room k callerA) (F : ∀ b : Heap, K.In b → b.Ns mainGlobals mg → FnG P w K mg b k fa fd [x] sp) (hb : ∀ (s : Shared) (u : Value), BindsTo s fd ⟨[u], []⟩ [(x, u)])
    {H : Hp} (hO : Only H) (hsp : sp [.ref a] H (fun v _ => v = .bl true) fun _ _ _ => False) (hok : HOk P w H st.heap) (hA : ∀ b, H b ≠ none → b = a) (hK : H a ≠ none → K.lookup a = none) :
    codeAny (model P w) callerA (.call (.ref fa) ⟨[.ref a], []⟩) (Good st) st := by
  have hid : ∀ {b : Addr} {o : Obj}, st.heap.get? b = some o → H b = none → (hidT st.heap H).get? b = some o := fun e n => hidT_get e n
  have nodict : ∀ {b : Addr} {o : Obj} {es : Array DictEntry} {m : Nat}, st.heap.get? b = some o → o.data = .dict es m → H b = none := by
    intro b o es m e d
    by_cases q : H b = none
    · exact q
    · rw [hA b q, ha] at e
      cases e
      have d' : Data.seq us.toArray _ = Data.dict es m := d
      cases d'
  have nsOf : ∀ {b : Addr} {m : Str → Option Value}, st.heap.Ns b m → (hidT st.heap H).Ns b m := by
    rintro b m ⟨o, es, ep, e, d, r⟩
    exact ⟨o, es, ep, hid e (nodict e d), d, r⟩
  have KB : K.In (hidT st.heap H) := by
    intro b o e
    refine hid (KX b o e) ?_
    by_cases q : H b = none
    · exact q
    · have eb := hA b q
      rw [eb] at e q
      rw [hK q] at e
      cases e
  obtain ⟨mc, l1, l2⟩ := n4
  have MB : Mod K mg (hidT st.heap H) := ⟨KB, nsOf n1, ⟨mb, nsOf n2, n3⟩, ⟨mc, nsOf l1, l2⟩⟩
  have ev : Env0 P w K mg (hidT st.heap H) callerA [] st H := by
    refine ⟨rfl, MB, fun b o e => of_hidT e, Nat.le_of_eq (hidT_size _ _), trivial, fun b z => ?_, hok, .of_eq hg⟩
    exact absurd (show b ∈ ([] : List Addr) from z) List.not_mem_nil
  refine codeAny_mono ((F _ KB (nsOf n1)).go callerA [] st H ⟨[.ref a], []⟩ [.ref a] [.ref a] _ _ rfl hr ev (hb st (.ref a)) (.cons rfl .nil) hsp) fun r s' h => ?_
  match r, h with
  | .error _, h => exact False.elim h
  | .ok .next, h => exact False.elim h
  | .ok .brk, h => exact False.elim h
  | .ok .cont, h => exact False.elim h
  | .ok (.ret u), h =>
    obtain ⟨v, H', os, bare, un, hok', rv, qv⟩ := h
    have qv : v = .bl true := qv
    subst qv
    obtain rfl : u = Value.bool true := rv
    refine ⟨rfl, OldK.of_keep fun b o e => ?_, os, bare⟩
    rcases hO b with z | ⟨ob, xs, z⟩
    · exact un.keep b o e z (fun z => absurd (show b ∈ ([] : List Addr) from z) List.not_mem_nil) List.not_mem_nil
    · have e1 := (hok b _ z).1
      have e2 := (hok' b _ (un.frzs b ob _ z)).1
      rw [e] at e1
      cases e1
      exact e2
theorem law_g (KX : K.In st.heap) (n1 : st.heap.Ns mainGlobals mg) (n2 : st.heap.Ns builtinsNs mb) (n3 : ∀ x : Str, x ≠ "__name__" → mb x = bootBuiltins x) (n4 : st.heap.NoLimit) (hg : st.gens = #[])
    (ha : st.heap.get? a = some (scrO us)) (hi : IntsAre us ns) (hl : ns.length ≤ sizeLine) (hr : Room k callerA) (F : ∀ b : Heap, K.In b → b.Ns mainGlobals mg → FnG P w K mg b k fa fd [x] sp) (hb : ∀ (s : Shared) (u : Value), BindsTo s fd ⟨[u], []⟩ [(x, u)])
    (hsp : ∀ H : Hp, Only H → SqL K H a (ns.map V.int) → sp [.ref a] H (fun v _ => v = .bl true) fun _ _ _ => False) :
    codeAny (model P w) callerA (.call (.ref fa) ⟨[.ref a], []⟩) (Good st) st := by
  have vi := vals_ints hi
  cases hk : K.lookup a with
  | some o =>
    have e := KX a o hk
    rw [ha] at e
    cases e
    have hS : SqL K (fun _ => none) a (ns.map V.int) := .inr ⟨_, us.toArray, _, hk, rfl, rfl, rfl, by rw [List.size_toArray, hi.length]; exact hl, by simpa using vi⟩
    exact law_at KX n1 n2 n3 n4 hg ha hr F hb (H := fun _ => none) (fun _ => .inl rfl) (hsp _ (fun _ => .inl rfl) hS) (fun b u z => by cases (show (none : Option HO) = some u from z)) (fun b z => absurd rfl z) (fun z => absurd rfl z)
  | none =>
    let H : Hp := fun b => if b = a then some (.frz (scrO us) (.lst (ns.map V.int))) else none
    have h1 : H a = some (.frz (scrO us) (.lst (ns.map V.int))) := if_pos rfl
    have h2 : ∀ b, b ≠ a → H b = none := fun b z => if_neg z
    have hO : Only H := fun b => by
      by_cases z : b = a
      · exact .inr ⟨_, _, by rw [z]; exact h1⟩
      · exact .inl (h2 b z)
    refine law_at KX n1 n2 n3 n4 hg ha hr F hb hO (hsp H hO (.inl (.inr ⟨_, h1⟩))) (fun b u z => ?_) (fun b z => ?_) fun _ => hk
    · by_cases e : b = a
      · subst e
        rw [h1] at z
        cases z
        exact ⟨ha, by rw [List.length_map]; exact hl, us, _, vi, ha⟩
      · rw [h2 b e] at z
        cases z
    · by_cases e : b = a
      · exact e
      · exact absurd (h2 b e) z
end
theorem walk_g {l : PySem.W.OpenLaw} {n k : Nat} {q : Program} {loose : List Str} {XP : (Str → Option Value) → Heap → Prop} {YP : World → Heap → Prop} {d : DefRec} {K : Params → PySem.W.Frag} {sp : PySem.W.Frag → Sp} {x : Str}
    (hn : l.most = some n) (hz : n ≤ sizeLine) (hdf : d.params.defaults = []) (hr : Room k callerA) (hY : ∀ (w : World) (h : Heap), YP w h → (K w.params).In h)
    (F : ∀ (w : World) (mg : Str → Option Value) (fa : Addr) (h : Heap), (K w.params).In h → h.Ns mainGlobals mg → mg d.name = some (.ref fa) →
      ∃ fd : FuncData, (∀ (s : Shared) (u : Value), BindsTo s fd ⟨[u], []⟩ [(x, u)]) ∧ ∀ b : Heap, (K w.params).In b → b.Ns mainGlobals mg → FnG l.prog w (K w.params) mg b k fa fd [x] (sp (K w.params)))
    (hsp : ∀ (K : PySem.W.Frag) (H : Hp) (a : Addr) (ns : List Int), ns.length ≤ n → Only H → SqL K H a (ns.map V.int) → sp K [.ref a] H (fun v _ => v = .bl true) fun _ _ _ => False) :
    PySem.W.WalkO q loose XP YP l.row.toRowW d [] (fun f vs => PySem.call f vs) := by
  refine Att.attach_call hn hdf fun w s0 s1 mg mb fa o pm cd doc a vs ns G Y ho hd hcd hmg hobj hints hlen hg => ?_
  have KX := hY w _ Y
  obtain ⟨fd, hb, hF⟩ := F w mg fa _ KX G.T.g hmg
  exact law_g KX G.T.g G.T.b G.T.builtins G.T.nolimit hg hobj hints (Nat.le_trans hlen hz) hr hF hb fun H hO hS => hsp _ H a ns hlen hO hS
/-- a test, then a word between it and what follows -/
theorem pt_cut {X : Cx} {e : Expr} {t : TT} (h : PT X e t) : PT X e (fun σ H Q => ∃ R : Bool → Hp → Prop, t σ H R ∧ ∀ b H', R b H' → Q b H') := by
  refine ⟨fun pins s σ H Q I q => ?_⟩
  obtain ⟨R, hR, hQ⟩ := q
  exact thn (h.run pins s σ H R I hR) fun b s1 ⟨H1, I1, r⟩ => ⟨H1, I1, hQ b H1 r⟩

end Lim
set_option maxHeartbeats 2000000
namespace Lim
open PySem PySem.Spec PyProof.Rows L2
/-! errors held as values: made by their class, asked for their class, read -/
section
variable {X : Cx} {x f : Str} {L C fI : Addr} {e : Expr} {es : List Expr} {ta : TA} {te : TE} {p p1 p2 pos : Pos} {pl : Sem Bool}
/-- what a class over ValueError says when its __init__ is called by its name -/
structure BaseC (K : PySem.W.Frag) (L : Addr) : Prop where
  sp : PySem.W.specialIn K (.ref L) "__getattribute__" = some (some (.builtin "type.__getattribute__"))
  rd : PySem.W.readsIn K L (.type "type") = true
  fc : PySem.W.findCls K (.ref L) (.type "type") "__init__" = some (.val (.builtin "ValueError.__init__"))
theorem pe_vebase (hg : Gl X x) (hm : X.mg x = some (.ref L)) (B : BaseC X.K L) (ha : PA X (e :: es) ta)
    (hc : eval (.Call (.Attribute (.Name x p1) "__init__" p2) (e :: es) [] pos) X.env = (do
      let v ← eval (.Name x p1) X.env
      standAt p2.atName
      let (g, first) ← holding [v] (getMethod v "__init__" pl)
      callWith pos g first (backTo pos (starEach (e :: es) X.env)) (backToKw pos (keywordEach [] X.env))) := by rfl)
    (hdb : (x == ("__debug__" : Str)) = false := by decide) (he : starEach (e :: es) X.env = (false, eval e X.env) :: starEach es X.env := by rfl) (hpl : (backTo pos (starEach es X.env)).any (·.1) = false := by rfl) :
    PE X (.Call (.Attribute (.Name x p1) "__init__" p2) (e :: es) [] pos) (tVeI X.K ta) := by
  refine ⟨fun pins s σ H Q I h => PySem.W.methodCall_KW (ld_glob I hg hm ?_ hdb) hc⟩
  refine PySem.W.method_cls I.kIn B.sp (PySem.W.cls_value I.kIn B.rd B.fc (by decide +kernel) ?_)
  show wpAny _ _ (callWith pos (Value.builtin "ValueError.__init__") [] (backTo pos (starEach (e :: es) X.env)) []) _ _ _
  refine callWith_method1 (thn (ha.run pos pins _ σ H _ (I.tok _) h) fun us s1 ⟨vs, H1, I1, r1, a, D, ws, ev, hl, T, ea, q⟩ => ?_) he hpl
  subst ev
  cases r1 with
  | @cons _ u0 _ ur ra rw' =>
    cases (show u0 = Value.ref a from ra)
    exact oinit_ok T I1 ea (by rw [← Paired.length rw', sizeLine_eq]; omega) fun t J => ⟨.non, H1, J, rfl, q⟩
/-- C(e, ..) as a value, C's own __init__ keeping sp -/
def tMkV (C : Addr) (sp : Sp) (ta : TA) : TE := fun σ H Q => ta σ H fun vs H1 => vs.length ≤ 1000 ∧ ∀ a, H1 a = none → sp (.ref a :: vs) (upd H1 a (exo a C none)) (fun v H2 => v = .non ∧ Q (.ref a) H2) (fun _ _ _ => False)
theorem pe_mkErr {k : Nat} {fd : FuncData} {ps : List Str} {sp : Sp} (T : OexC X.K C) (iC : PySem.W.findIn X.K (.ref C) "__init__" = some (some (.ref fI))) (tI : PySem.W.typeIn X.K (.ref fI) = some (.type "function"))
    (F1 : FnOk X.prog X.w X.K X.mg X.base CX0 k fI fd ps sp) (hr : Room (k + 1) X.A) (hb : Binds X.K fd ps []) (hg : Gl X x) (hm : X.mg x = some (.ref C)) (ha : PA X (e :: es) ta)
    (hdb : (x == ("__debug__" : Str)) = false := by decide) (he : starEach (e :: es) X.env = (false, eval e X.env) :: starEach es X.env := by rfl) (hpl : (backTo pos (starEach es X.env)).any (·.1) = false := by rfl) :
    PE X (.Call (.Name x p) (e :: es) [] pos) (tMkV C sp ta) := by
  refine ⟨fun pins s σ H Q I h => ?_⟩
  obtain ⟨nm, q, N, bs, bm, sn, sub, ab, col, dd, k0, k1, k2, k3, k5, hC, hbm⟩ := T.cls
  refine wpAny_Call_Name_kw (ld_glob I hg hm ?_ hdb)
  refine PySem.W.callWith_K (h₀ := X.base) I.ok.mod.kin T.kC (thn (ha.run pos pins s σ H _ I h) fun us s1 ⟨vs, H1, I1, r1, hz, q1⟩ => ⟨I1.kIn, ?_⟩) he hpl
  show wpAny _ _ (call (.ref C) us) _ _ _
  obtain ⟨hp, g, dr, tk, os⟩ := s1
  have hle : hp.objs.size ≤ hp.objs.size + 1 := Nat.le_succ _
  have hq := q1 _ (I1.hok.fresh hle)
  have kp : ∀ b o, hp.get? b = some o → ((hp.push (PySem.W.kdv_tup us)).push (PySem.HandSPX.excO C hp.objs.size)).get? b = some o := fun b o z => Heap.get?_push_of_some _ (Heap.get?_push_of_some _ z)
  have hget : ((hp.push (PySem.W.kdv_tup us)).push (PySem.HandSPX.excO C hp.objs.size)).get? (hp.objs.size + 1) = some (PySem.HandSPX.excO C hp.objs.size) := by heap_get
  have J := I1.laid (t' := tk) (a := hp.objs.size + 1) (o := exo (hp.objs.size + 1) C none) (h' := (hp.push (PySem.W.kdv_tup us)).push (PySem.HandSPX.excO C hp.objs.size)) kp hle (exo_ok hget)
  have r2 : Vals (V.ref (hp.objs.size + 1) :: vs) (Value.ref (hp.objs.size + 1) :: us) := .cons rfl r1
  have hl : ((Value.ref (hp.objs.size + 1) :: us) ++ []).length = ps.length := by
    rw [List.append_nil, ← r2.length, F1.len _ _ _ _ hq]
  have hbt := hb ⟨(hp.push (PySem.W.kdv_tup us)).push (PySem.HandSPX.excO C hp.objs.size), g, dr, tk, os⟩ (Value.ref (hp.objs.size + 1) :: us) J.kIn hl
  rw [List.append_nil] at hbt
  refine wpAny_call (PySem.HandSPX.call_own F.excBase_ValueError (fun Y => PySem.HandSPX.refsVE_contains Y bm hbm) (I1.kIn _ _ hC) (PySem.W.looks_findIn I1.kIn iC) (fun self => PySem.W.bind_fn I1.kIn self tI)
    (by rw [← Paired.length r1, sizeLine_eq]; omega) (codeAny_mono (F1.run _ X.stack _ _ ⟨Value.ref (hp.objs.size + 1) :: us, []⟩ (Value.ref (hp.objs.size + 1) :: us) _ _ (fun _ _ _ => False) (hr.make C us []) (J.env0.make C us []) hbt r2 hq) fun r s' z => ?_))
  match r, z with
  | .error er, z => exact pass0 pins σ _ _ er s' J z
  | .ok .next, z => exact False.elim z
  | .ok .brk, z => exact False.elim z
  | .ok .cont, z => exact False.elim z
  | .ok (.ret u), z =>
    obtain ⟨v, H2, J2, rv, ev, q2⟩ := J.after z
    subst ev
    exact ⟨rv, .ref (hp.objs.size + 1), H2, J2, rfl, q2⟩
/-! isinstance -/
/-- at a: an error of the class at C -/
def ErrAt (H : Hp) (a C : Addr) : Prop := H a = some (ExO (.ref C) a) ∨ ∃ d fs, H a = some (exo a C (some d)) ∧ H d = some (exd d fs)
theorem err_inst {pins : List (Addr × Obj)} {σ : L2.St} {H : Hp} {s : Shared} {a : Addr} (I : Inv X pins σ H s) (h : ErrAt H a C) : ∃ oe od, PySem.W.InstAt s.heap a oe C od := by
  rcases h with h | ⟨d, fs, h, hd⟩
  · obtain ⟨⟨oe, vs, e, z, f, _⟩, _, _⟩ := (show ObjOk X.prog X.w H s.heap a (ExO (.ref C) a) from I.hok a _ h)
    obtain ⟨oc, od, oda, osl⟩ := oe
    obtain ⟨z1, z2⟩ := z
    dsimp only at z1 z2 f
    subst z1 z2 f
    exact ⟨_, none, e, rfl, rfl, trivial⟩
  · obtain ⟨t1, ho⟩ := exo_at I.hok h
    obtain ⟨mA, hns, _⟩ := exd_at I.hok hd
    obtain ⟨o, _, _, hod, _⟩ := hns
    exact ⟨_, some o, ho, rfl, rfl, hod⟩
def rIsV (K : PySem.W.Frag) : List V → Hp → VK → Prop := fun xs H Q => ∃ (a D : Addr) (c : V) (cv : Value) (b : Bool), xs = [.ref a, c] ∧ ErrAt H a D ∧ ExcC K D ∧ ClsV c cv ∧ PySem.W.kitOne K (.ref D) cv = some b ∧ Q (.bl b) H
theorem call_isV : CallR X (.builtin "isinstance") (rIsV X.K) := by
  intro pins s σ H xs us Q I r h
  obtain ⟨a, D, c, cv, b, rfl, hH, E, hc, k, q⟩ := h
  obtain ⟨u1, u2, rfl, r1, r2⟩ := vals2 r
  cases (show u1 = Value.ref a from r1)
  obtain rfl := hc.eq r2
  obtain ⟨oe, od, J⟩ := err_inst I hH
  obtain ⟨cd, hcd, _⟩ := PySem.W.any_some E.hd
  exact PySem.W.kia_one (PySem.W.kitx_exc (by rw [hcd]; rfl) E.hg E.hk E.hs E.ha E.hn E.ht E.hm) I.kIn J k (fun z => nomatch z) fun tk => ⟨.bl b, H, I.tok tk, rfl, q⟩
/-! err.f -/
def tFldE (K : PySem.W.Frag) (f : Str) (te : TE) : TE := fun σ H Q => te σ H fun x H1 => ∃ (a D d : Addr) (fs : List (Str × V)) (v : V), x = .ref a ∧ H1 a = some (exo a D (some d)) ∧ H1 d = some (exd d fs) ∧ XfC K D ∧ PySem.W.findIn K (.ref D) f = some none ∧ fs.lookup f = some v ∧ Q v H1
theorem pe_fldE (he : PE X e te) (hb : attributeBase e f X.env (eval e X.env) = eval e X.env := by rfl) : PE X (.Attribute e f pos) (tFldE X.K f te) := by
  refine ⟨fun pins s σ H Q I h => attr_of hb (thn (he.run pins s σ H _ I h) fun u s1 hh => ?_)⟩
  obtain ⟨x, H1, I1, rx, a, D, d, fs, v, ex, ha, hd, T, hno, l, q⟩ := hh
  subst ex
  cases (show u = Value.ref a from rx)
  obtain ⟨t1, ho⟩ := exo_at I1.hok ha
  obtain ⟨mA, hns, hr⟩ := exd_at I1.hok hd
  obtain ⟨od, ho2, hl⟩ := lookIn_ns hns
  obtain ⟨w1, hw, rw'⟩ := RelO.some_of (v := v) (o := mA f) (by rw [← l]; exact hr f)
  have J : PySem.W.InstAt s1.heap a _ D (some od) := ⟨ho, rfl, rfl, ho2⟩
  exact HandSPX.exc_get I1.kIn J T.ga T.gg T.exC (PySem.W.findObj_own T.hdC hno rfl (by rw [hl, hw])) (handed_of rw') ⟨v, H1, I1.tok _, rw', q⟩
end
end Lim
set_option maxHeartbeats 2000000
namespace Lim
open PySem PySem.Spec PyProof.Rows L2
section
variable {P : Program} {w : World} {K : PySem.W.Frag} {mg : Str → Option Value} {base : Heap}
/-- a field that a message may show -/
def Fld (v : V) : Prop := (∃ i : Int, v = .int i ∧ i.natAbs < 2 ^ 200) ∨ ∃ x : Str, v = .str x ∧ x.length ≤ 100
theorem log_small' {z : Int} (h : z.natAbs < 2 ^ 200) : z.natAbs.log2 < 1920 := log_small h
theorem int_txt {z : Int} (h : z.natAbs < 2 ^ 200) : (Str.ofString (toString z)).length ≤ 2000 := by
  have e : (PyData.shown (.int z)) = Str.ofString (toString z) := by simp [PyData.shown]
  rw [← e]
  exact int_len h
/-- the promise of an __init__ that calls its base's and stores its arguments -/
def spErr (K : PySem.W.Frag) (C : Addr) (fs : List V → List (Str × V)) (n : Nat) : Sp := fun vs H Q _ => ∃ (a : Addr) (ws : List V), vs = .ref a :: ws ∧ ws.length = n ∧ (∀ v ∈ ws, Fld v) ∧ H a = some (exo a C none) ∧
  ∀ H' d, (∀ b o, H b = some o → b ≠ a → H' b = some o) → H d = none → H' a = some (exo a C (some d)) → H' d = some (exd d (fs ws)) → Q .non H'
/-- the message of one shown field -/
theorem fmt_one {X : Cx} {t : Str} {i : Nat} {v : V} {σ : L2.St} {H : Hp} {R : Str → Hp → Prop} (hv : Fld v) (hs : σ[i]? = some (some v)) (ht : t.length ≤ 100) (q : ∀ out, out.length ≤ 4000 → R out H) :
    tJs [tC (.str t), tFmt (tVar i)] Str.empty σ H R := by
  have e0 : (Str.empty ++ t).length = t.length := by
    rw [strLen_append]
    exact Nat.zero_add _
  refine ⟨t, rfl, by rw [e0]; exact Nat.le_of_lt (small1000 (by omega)), ?_⟩
  rcases hv with ⟨z, rfl, hz⟩ | ⟨y, rfl, hy⟩
  · have h1 := int_txt hz
    refine ⟨_, hs, .inr ⟨z, rfl, log_small hz, _, rfl, ?_, q _ ?_⟩⟩
    · rw [strLen_append, e0, sizeLine_eq]
      omega
    · rw [strLen_append, e0]
      omega
  · refine ⟨_, hs, .inl ⟨y, rfl, Nat.le_of_lt (small1000 (by omega)), _, rfl, ?_, q _ ?_⟩⟩
    · rw [strLen_append, e0, sizeLine_eq]
      omega
    · rw [strLen_append, e0]
      omega

abbrev sBC : Stmt := inClass (topS 3) 0
theorem scBC : FnScope ["self", "index"] ["self", "index"] (defScope sBC) := ⟨rfl, rfl, rfl, by decide +kernel, rfl, by decide +kernel, by decide +kernel⟩
def fsBC : List V → List (Str × V) := fun ws => [("index", ws.headD .non)]
theorem ok_BC {f C cL : Addr} {fd : FuncData} {k : Nat} (F : Fun K "__init__" "BadClaim.__init__" sBC f fd) (gL : mg "LimitRunError" = some (.ref cL)) (B : BaseC K cL) (T : OexC K C) (no : PySem.W.findIn K (.ref C) "index" = some none) :
    FnOk P w K mg base CX0 (k + 1) f fd ["self", "index"] (spErr K C fsBC 1) := by
  refine F.ok scBC (fun vs H Q E h => ?_) (fun cdv A outer s H vs Q E hr h => ?_)
  · obtain ⟨a, ws, rfl, hl, _⟩ := h
    simp [hl]
  · obtain ⟨a, ws, rfl, hl, hf, ha, q⟩ := h
    obtain ⟨v, rfl⟩ : ∃ v, ws = [v] := by
      match ws, hl with
      | [v], _ => exact ⟨v, rfl⟩
    refine ⟨_, (pss_cons (ps_expr (pe_vebase (by rfl) gL B (pa_cons (pv 0) (pa_cons (pe_joined (.cons pe_str (.cons (pe_fmt (pv 1)) .nil))) pa_nil))))
        (pss_one (ps_ost (pv 0) (pv 1)))), ?_⟩
    refine ⟨_, rfl, fmt_one (X := cxOf CX0 P w K mg base ["self", "index"] "BadClaim.__init__" (defScope sBC) f cdv A outer s H E) (hf v (List.mem_singleton.mpr rfl)) rfl (by decide +kernel) fun txt ht => ⟨a, C, _, rfl, by simp, T, ha, ?_⟩⟩
    refine ⟨_, rfl, _, rfl, a, C, rfl, T, no, .inl ⟨ha, fun dx nd ne => ?_⟩⟩
    refine q _ dx (fun b o hb hn => ?_) nd upd_same ?_
    · rw [upd_ne hn, upd_ne (ne_of_none hb nd)]
      exact hb
    · rw [upd_ne ne, upd_same]
      rfl

abbrev sBP : Stmt := inClass (topS 4) 0
theorem scBP : FnScope ["self", "index"] ["self", "index"] (defScope sBP) := ⟨rfl, rfl, rfl, by decide +kernel, rfl, by decide +kernel, by decide +kernel⟩
def fsBP : List V → List (Str × V) := fun ws => [("index", ws.headD .non)]
theorem ok_BP {f C cL : Addr} {fd : FuncData} {k : Nat} (F : Fun K "__init__" "BadPath.__init__" sBP f fd) (gL : mg "LimitRunError" = some (.ref cL)) (B : BaseC K cL) (T : OexC K C) (no : PySem.W.findIn K (.ref C) "index" = some none) :
    FnOk P w K mg base CX0 (k + 1) f fd ["self", "index"] (spErr K C fsBP 1) := by
  refine F.ok scBP (fun vs H Q E h => ?_) (fun cdv A outer s H vs Q E hr h => ?_)
  · obtain ⟨a, ws, rfl, hl, _⟩ := h
    simp [hl]
  · obtain ⟨a, ws, rfl, hl, hf, ha, q⟩ := h
    obtain ⟨v, rfl⟩ : ∃ v, ws = [v] := by
      match ws, hl with
      | [v], _ => exact ⟨v, rfl⟩
    refine ⟨_, (pss_cons (ps_expr (pe_vebase (by rfl) gL B (pa_cons (pv 0) (pa_cons (pe_joined (.cons pe_str (.cons (pe_fmt (pv 1)) .nil))) pa_nil))))
        (pss_one (ps_ost (pv 0) (pv 1)))), ?_⟩
    refine ⟨_, rfl, fmt_one (X := cxOf CX0 P w K mg base ["self", "index"] "BadPath.__init__" (defScope sBP) f cdv A outer s H E) (hf v (List.mem_singleton.mpr rfl)) rfl (by decide +kernel) fun txt ht => ⟨a, C, _, rfl, by simp, T, ha, ?_⟩⟩
    refine ⟨_, rfl, _, rfl, a, C, rfl, T, no, .inl ⟨ha, fun dx nd ne => ?_⟩⟩
    refine q _ dx (fun b o hb hn => ?_) nd upd_same ?_
    · rw [upd_ne hn, upd_ne (ne_of_none hb nd)]
      exact hb
    · rw [upd_ne ne, upd_same]
      rfl

abbrev sTL : Stmt := inClass (topS 5) 0
theorem scTL : FnScope ["self", "limit"] ["self", "limit"] (defScope sTL) := ⟨rfl, rfl, rfl, by decide +kernel, rfl, by decide +kernel, by decide +kernel⟩
def fsTL : List V → List (Str × V) := fun ws => [("limit", ws.headD .non)]
theorem ok_TL {f C cL : Addr} {fd : FuncData} {k : Nat} (F : Fun K "__init__" "TooLong.__init__" sTL f fd) (gL : mg "LimitRunError" = some (.ref cL)) (B : BaseC K cL) (T : OexC K C) (no : PySem.W.findIn K (.ref C) "limit" = some none) :
    FnOk P w K mg base CX0 (k + 1) f fd ["self", "limit"] (spErr K C fsTL 1) := by
  refine F.ok scTL (fun vs H Q E h => ?_) (fun cdv A outer s H vs Q E hr h => ?_)
  · obtain ⟨a, ws, rfl, hl, _⟩ := h
    simp [hl]
  · obtain ⟨a, ws, rfl, hl, hf, ha, q⟩ := h
    obtain ⟨v, rfl⟩ : ∃ v, ws = [v] := by
      match ws, hl with
      | [v], _ => exact ⟨v, rfl⟩
    refine ⟨_, (pss_cons (ps_expr (pe_vebase (by rfl) gL B (pa_cons (pv 0) (pa_cons (pe_joined (.cons pe_str (.cons (pe_fmt (pv 1)) .nil))) pa_nil))))
        (pss_one (ps_ost (pv 0) (pv 1)))), ?_⟩
    refine ⟨_, rfl, fmt_one (X := cxOf CX0 P w K mg base ["self", "limit"] "TooLong.__init__" (defScope sTL) f cdv A outer s H E) (hf v (List.mem_singleton.mpr rfl)) rfl (by decide +kernel) fun txt ht => ⟨a, C, _, rfl, by simp, T, ha, ?_⟩⟩
    refine ⟨_, rfl, _, rfl, a, C, rfl, T, no, .inl ⟨ha, fun dx nd ne => ?_⟩⟩
    refine q _ dx (fun b o hb hn => ?_) nd upd_same ?_
    · rw [upd_ne hn, upd_ne (ne_of_none hb nd)]
      exact hb
    · rw [upd_ne ne, upd_same]
      rfl

abbrev sNV : Stmt := inClass (topS 6) 0
theorem scNV : FnScope ["self", "name"] ["self", "name"] (defScope sNV) := ⟨rfl, rfl, rfl, by decide +kernel, rfl, by decide +kernel, by decide +kernel⟩
def fsNV : List V → List (Str × V) := fun ws => [("name", ws.headD .non)]
theorem ok_NV {f C cL : Addr} {fd : FuncData} {k : Nat} (F : Fun K "__init__" "NoVariable.__init__" sNV f fd) (gL : mg "LimitRunError" = some (.ref cL)) (B : BaseC K cL) (T : OexC K C) (no : PySem.W.findIn K (.ref C) "name" = some none) :
    FnOk P w K mg base CX0 (k + 1) f fd ["self", "name"] (spErr K C fsNV 1) := by
  refine F.ok scNV (fun vs H Q E h => ?_) (fun cdv A outer s H vs Q E hr h => ?_)
  · obtain ⟨a, ws, rfl, hl, _⟩ := h
    simp [hl]
  · obtain ⟨a, ws, rfl, hl, hf, ha, q⟩ := h
    obtain ⟨v, rfl⟩ : ∃ v, ws = [v] := by
      match ws, hl with
      | [v], _ => exact ⟨v, rfl⟩
    refine ⟨_, (pss_cons (ps_expr (pe_vebase (by rfl) gL B (pa_cons (pv 0) (pa_cons (pe_joined (.cons pe_str (.cons (pe_fmt (pv 1)) .nil))) pa_nil))))
        (pss_one (ps_ost (pv 0) (pv 1)))), ?_⟩
    refine ⟨_, rfl, fmt_one (X := cxOf CX0 P w K mg base ["self", "name"] "NoVariable.__init__" (defScope sNV) f cdv A outer s H E) (hf v (List.mem_singleton.mpr rfl)) rfl (by decide +kernel) fun txt ht => ⟨a, C, _, rfl, by simp, T, ha, ?_⟩⟩
    refine ⟨_, rfl, _, rfl, a, C, rfl, T, no, .inl ⟨ha, fun dx nd ne => ?_⟩⟩
    refine q _ dx (fun b o hb hn => ?_) nd upd_same ?_
    · rw [upd_ne hn, upd_ne (ne_of_none hb nd)]
      exact hb
    · rw [upd_ne ne, upd_same]
      rfl

abbrev sSY : Stmt := inClass (topS 2) 0
theorem scSY : FnScope ["self", "line", "column"] ["self", "line", "column"] (defScope sSY) := ⟨rfl, rfl, rfl, by decide +kernel, rfl, by decide +kernel, by decide +kernel⟩
def fsSY : List V → List (Str × V) := fun ws => [("column", ws.getLastD .non), ("line", ws.headD .non)]
theorem ok_SY {f C cL : Addr} {fd : FuncData} {k : Nat} (F : Fun K "__init__" "SyntaxProblem.__init__" sSY f fd) (gL : mg "LimitRunError" = some (.ref cL)) (B : BaseC K cL) (T : OexC K C) (no : PySem.W.findIn K (.ref C) "line" = some none) (no2 : PySem.W.findIn K (.ref C) "column" = some none) :
    FnOk P w K mg base CX0 (k + 1) f fd ["self", "line", "column"] (spErr K C fsSY 2) := by
  refine F.ok scSY (fun vs H Q E h => ?_) (fun cdv A outer s H vs Q E hr h => ?_)
  · obtain ⟨a, ws, rfl, hl, _⟩ := h
    simp [hl]
  · obtain ⟨a, ws, rfl, hl, hf, ha, q⟩ := h
    obtain ⟨v, u, rfl⟩ : ∃ v u, ws = [v, u] := by
      match ws, hl with
      | [v, u], _ => exact ⟨v, u, rfl⟩
    refine ⟨_, (pss_cons (ps_expr (pe_vebase (by rfl) gL B (pa_cons (pv 0) (pa_cons (pe_joined (.cons pe_str (.cons (pe_fmt (pv 1)) (.cons pe_str (.cons (pe_fmt (pv 2)) .nil))))) pa_nil))))
        (pss_cons (ps_ost (pv 0) (pv 1))
        (pss_one (ps_ost (pv 0) (pv 2))))), ?_⟩
    have hv := hf v (by simp)
    have hu := hf u (by simp)
    have big : ∀ n : Nat, n ≤ 9000 → n ≤ sizeLine := fun n h => by rw [sizeLine_eq]; omega
    have fin : ∀ out : Str, out.length ≤ 4500 → tFmt (tVar 2) [some (.ref a), some v, some u] H fun x H1 => ∃ y : Str, x = .str y ∧ (out ++ y).length ≤ sizeLine ∧ ∃ (a' D : Addr) (ws : List V), [V.ref a, .str (out ++ y)] = .ref a' :: ws ∧ ws.length ≤ 1000 ∧ OexC K D ∧ H1 a' = some (exo a' D none) ∧ tSeq (tOst K "line" (tVar 0) (tVar 1)) (tOst K "column" (tVar 0) (tVar 2)) { nx := fun x H' => Q V.non H', rt := Q } [some (.ref a), some v, some u] H1 := by
      intro out ho
      have go : tSeq (tOst K "line" (tVar 0) (tVar 1)) (tOst K "column" (tVar 0) (tVar 2)) { nx := fun x H' => Q V.non H', rt := Q } [some (.ref a), some v, some u] H := by
        refine ⟨_, rfl, _, rfl, a, C, rfl, T, no, .inl ⟨ha, fun dx nd ne => ?_⟩⟩
        have hd : (upd (upd H dx (exd dx [("line", v)])) a (exo a C (some dx))) dx = some (exd dx [("line", v)]) := by rw [upd_ne ne, upd_same]
        refine ⟨_, rfl, _, rfl, a, C, rfl, T, no2, .inr ⟨dx, _, upd_same, hd, by simp, ?_⟩⟩
        refine q _ dx (fun b o hb hn => ?_) nd ?_ upd_same
        · rw [upd_ne (ne_of_none hb nd), upd_ne hn, upd_ne (ne_of_none hb nd)]
          exact hb
        · rw [upd_ne (Ne.symm ne), upd_same]
      rcases hu with ⟨z, rfl, hz⟩ | ⟨y, rfl, hy⟩
      · have h1 := int_txt hz
        exact ⟨_, rfl, .inr ⟨z, rfl, log_small hz, _, rfl, big _ (by rw [strLen_append]; omega), a, C, _, rfl, by simp, T, ha, go⟩⟩
      · exact ⟨_, rfl, .inl ⟨y, rfl, big _ (by omega), _, rfl, big _ (by rw [strLen_append]; omega), a, C, _, rfl, by simp, T, ha, go⟩⟩
    have e0 : ∀ t : Str, (Str.empty ++ t).length = t.length := fun t => by
      rw [strLen_append]
      exact Nat.zero_add _
    have l1 : ("line " : Str).length = 5 := by decide +kernel
    have l2 : (", column " : Str).length = 9 := by decide +kernel
    refine ⟨_, rfl, _, rfl, big _ (by rw [e0, l1]; decide), ?_⟩
    rcases hv with ⟨z, rfl, hz⟩ | ⟨y, rfl, hy⟩
    · have h1 := int_txt hz
      refine ⟨_, rfl, .inr ⟨z, rfl, log_small hz, _, rfl, big _ (by rw [strLen_append, e0, l1]; omega), _, rfl, big _ (by rw [strLen_append, strLen_append, e0, l1, l2]; omega), fin _ (by rw [strLen_append, strLen_append, e0, l1, l2]; omega)⟩⟩
    · refine ⟨_, rfl, .inl ⟨y, rfl, big _ (by omega), _, rfl, big _ (by rw [strLen_append, e0, l1]; omega), _, rfl, big _ (by rw [strLen_append, strLen_append, e0, l1, l2]; omega), fin _ (by rw [strLen_append, strLen_append, e0, l1, l2]; omega)⟩⟩

abbrev sCls : Stmt := topS 23
theorem scCls : FnScope ["error", "found"] ["error"] (defScope sCls) := ⟨rfl, rfl, rfl, by decide +kernel, rfl, by decide +kernel, by decide +kernel⟩
def spCls (K : PySem.W.Frag) (c1 c2 c3 c4 c5 c6 c7 c8 c9 c10 c11 c12 c13 c14 c15 : Addr) : Sp := fun vs H Q _ => ∃ (a D : Addr) (b1 b2 b3 b4 b5 b6 b7 b8 b9 b10 b11 b12 b13 b14 b15 : Bool), vs = [.ref a] ∧ ErrAt H a D ∧ ExcC K D ∧ (PySem.W.kitOne K (.ref D) (.ref c1) = some b1 ∧ PySem.W.kitOne K (.ref D) (.ref c2) = some b2 ∧ PySem.W.kitOne K (.ref D) (.ref c3) = some b3 ∧ PySem.W.kitOne K (.ref D) (.ref c4) = some b4 ∧ PySem.W.kitOne K (.ref D) (.ref c5) = some b5 ∧ PySem.W.kitOne K (.ref D) (.ref c6) = some b6 ∧ PySem.W.kitOne K (.ref D) (.ref c7) = some b7 ∧ PySem.W.kitOne K (.ref D) (.ref c8) = some b8 ∧ PySem.W.kitOne K (.ref D) (.ref c9) = some b9 ∧ PySem.W.kitOne K (.ref D) (.ref c10) = some b10 ∧ PySem.W.kitOne K (.ref D) (.ref c11) = some b11 ∧ PySem.W.kitOne K (.ref D) (.ref c12) = some b12 ∧ PySem.W.kitOne K (.ref D) (.ref c13) = some b13 ∧ PySem.W.kitOne K (.ref D) (.ref c14) = some b14 ∧ PySem.W.kitOne K (.ref D) (.ref c15) = some b15) ∧ ∀ p H', Same H H' → H' p = some (.lst ([b1, b2, b3, b4, b5, b6, b7, b8, b9, b10, b11, b12, b13, b14, b15].map V.bl)) → Q (.ref p) H'
theorem ErrAt.same {H H' : Hp} {a C : Addr} (h : ErrAt H a C) (s : Same H H') : ErrAt H' a C := by
  rcases h with h | ⟨d, fs, h1, h2⟩
  · exact .inl (s _ _ h)
  · exact .inr ⟨d, fs, s _ _ h1, s _ _ h2⟩
theorem ok_cls {f c1 c2 c3 c4 c5 c6 c7 c8 c9 c10 c11 c12 c13 c14 c15 : Addr} {fd : FuncData} {k : Nat} (F : Fun K "_law_classes_of" "_law_classes_of" sCls f fd) (mis : mg "isinstance" = none) (g1 : mg "SyntaxProblem" = some (.ref c1)) (g2 : mg "BadClaim" = some (.ref c2)) (g3 : mg "BadPath" = some (.ref c3)) (g4 : mg "TooLong" = some (.ref c4)) (g5 : mg "NoVariable" = some (.ref c5)) (g6 : mg "InvalidOrdinal" = some (.ref c6)) (g7 : mg "NotLater" = some (.ref c7)) (g8 : mg "ZeroDivisor" = some (.ref c8)) (g9 : mg "NoEvent" = some (.ref c9)) (g10 : mg "OutOfRange" = some (.ref c10)) (g11 : mg "Incompatible" = some (.ref c11)) (g12 : mg "NotReached" = some (.ref c12)) (g13 : mg "NoBreakpoint" = some (.ref c13)) (g14 : mg "NoMark" = some (.ref c14)) (g15 : mg "InvalidCommand" = some (.ref c15)) :
    FnOk P w K mg base CX0 (k + 1) f fd ["error"] (spCls K c1 c2 c3 c4 c5 c6 c7 c8 c9 c10 c11 c12 c13 c14 c15) := by
  refine F.ok scCls (fun vs H Q E h => ?_) (fun cdv A outer s H vs Q E hr h => ?_)
  · obtain ⟨a, D, b1, b2, b3, b4, b5, b6, b7, b8, b9, b10, b11, b12, b13, b14, b15, rfl, _⟩ := h
    rfl
  · obtain ⟨a, D, b1, b2, b3, b4, b5, b6, b7, b8, b9, b10, b11, b12, b13, b14, b15, rfl, hE0, ec, ⟨k1, k2, k3, k4, k5, k6, k7, k8, k9, k10, k11, k12, k13, k14, k15⟩, q⟩ := h
    refine ⟨_, (pss_cons (ps_set (i := 1) scCls.nd rfl (.inl rfl) (pe_lst (pa_cons (pe_callB call_isV (by rfl) mis (by decide +kernel) (pa_cons (pv 0) (pa_cons (pe_glob (v := .ref c1) (by rfl) g1 rfl) pa_nil))) (pa_cons (pe_callB call_isV (by rfl) mis (by decide +kernel) (pa_cons (pv 0) (pa_cons (pe_glob (v := .ref c2) (by rfl) g2 rfl) pa_nil))) (pa_cons (pe_callB call_isV (by rfl) mis (by decide +kernel) (pa_cons (pv 0) (pa_cons (pe_glob (v := .ref c3) (by rfl) g3 rfl) pa_nil))) pa_nil)))))
        (pss_cons (ps_set (i := 1) scCls.nd rfl (.inl rfl) (pe_op op_cat (pv 1) (pe_lst (pa_cons (pe_callB call_isV (by rfl) mis (by decide +kernel) (pa_cons (pv 0) (pa_cons (pe_glob (v := .ref c4) (by rfl) g4 rfl) pa_nil))) (pa_cons (pe_callB call_isV (by rfl) mis (by decide +kernel) (pa_cons (pv 0) (pa_cons (pe_glob (v := .ref c5) (by rfl) g5 rfl) pa_nil))) (pa_cons (pe_callB call_isV (by rfl) mis (by decide +kernel) (pa_cons (pv 0) (pa_cons (pe_glob (v := .ref c6) (by rfl) g6 rfl) pa_nil))) pa_nil))))))
        (pss_cons (ps_set (i := 1) scCls.nd rfl (.inl rfl) (pe_op op_cat (pv 1) (pe_lst (pa_cons (pe_callB call_isV (by rfl) mis (by decide +kernel) (pa_cons (pv 0) (pa_cons (pe_glob (v := .ref c7) (by rfl) g7 rfl) pa_nil))) (pa_cons (pe_callB call_isV (by rfl) mis (by decide +kernel) (pa_cons (pv 0) (pa_cons (pe_glob (v := .ref c8) (by rfl) g8 rfl) pa_nil))) (pa_cons (pe_callB call_isV (by rfl) mis (by decide +kernel) (pa_cons (pv 0) (pa_cons (pe_glob (v := .ref c9) (by rfl) g9 rfl) pa_nil))) pa_nil))))))
        (pss_cons (ps_set (i := 1) scCls.nd rfl (.inl rfl) (pe_op op_cat (pv 1) (pe_lst (pa_cons (pe_callB call_isV (by rfl) mis (by decide +kernel) (pa_cons (pv 0) (pa_cons (pe_glob (v := .ref c10) (by rfl) g10 rfl) pa_nil))) (pa_cons (pe_callB call_isV (by rfl) mis (by decide +kernel) (pa_cons (pv 0) (pa_cons (pe_glob (v := .ref c11) (by rfl) g11 rfl) pa_nil))) (pa_cons (pe_callB call_isV (by rfl) mis (by decide +kernel) (pa_cons (pv 0) (pa_cons (pe_glob (v := .ref c12) (by rfl) g12 rfl) pa_nil))) pa_nil))))))
        (pss_one (ps_ret (pe_op op_cat (pv 1) (pe_lst (pa_cons (pe_callB call_isV (by rfl) mis (by decide +kernel) (pa_cons (pv 0) (pa_cons (pe_glob (v := .ref c13) (by rfl) g13 rfl) pa_nil))) (pa_cons (pe_callB call_isV (by rfl) mis (by decide +kernel) (pa_cons (pv 0) (pa_cons (pe_glob (v := .ref c14) (by rfl) g14 rfl) pa_nil))) (pa_cons (pe_callB call_isV (by rfl) mis (by decide +kernel) (pa_cons (pv 0) (pa_cons (pe_glob (v := .ref c15) (by rfl) g15 rfl) pa_nil))) pa_nil))))))))))), ?_⟩
    have three : 3 ≤ sizeLine := by show 3 ≤ sizeLine; decide
    refine ⟨_, rfl, a, D, _, _, b1, rfl, hE0, ec, .own c1, k1, _, rfl, a, D, _, _, b2, rfl, hE0, ec, .own c2, k2, _, rfl, a, D, _, _, b3, rfl, hE0, ec, .own c3, k3, three, fun l1 n1 => ?_⟩
    have s1 := same_upd (o := .lst [.bl b1, .bl b2, .bl b3]) n1
    have hE1 := hE0.same s1
    refine ⟨_, rfl, _, rfl, a, D, _, _, b4, rfl, hE1, ec, .own c4, k4, _, rfl, a, D, _, _, b5, rfl, hE1, ec, .own c5, k5, _, rfl, a, D, _, _, b6, rfl, hE1, ec, .own c6, k6, three, fun m1 z1 => ⟨l1, m1, _, _, rfl, rfl, same_upd z1 _ _ upd_same, upd_same, by show 6 ≤ sizeLine; decide, fun l2 n2 => ?_⟩⟩
    have s2 := (s1.trans (same_upd (o := .lst [.bl b4, .bl b5, .bl b6]) z1)).trans (same_upd (o := .lst ([.bl b1, .bl b2, .bl b3] ++ [.bl b4, .bl b5, .bl b6])) n2)
    have hE2 := hE0.same s2
    refine ⟨_, rfl, _, rfl, a, D, _, _, b7, rfl, hE2, ec, .own c7, k7, _, rfl, a, D, _, _, b8, rfl, hE2, ec, .own c8, k8, _, rfl, a, D, _, _, b9, rfl, hE2, ec, .own c9, k9, three, fun m2 z2 => ⟨l2, m2, _, _, rfl, rfl, same_upd z2 _ _ upd_same, upd_same, by show 9 ≤ sizeLine; decide, fun l3 n3 => ?_⟩⟩
    have s3 := (s2.trans (same_upd (o := .lst [.bl b7, .bl b8, .bl b9]) z2)).trans (same_upd (o := .lst ([.bl b1, .bl b2, .bl b3] ++ [.bl b4, .bl b5, .bl b6] ++ [.bl b7, .bl b8, .bl b9])) n3)
    have hE3 := hE0.same s3
    refine ⟨_, rfl, _, rfl, a, D, _, _, b10, rfl, hE3, ec, .own c10, k10, _, rfl, a, D, _, _, b11, rfl, hE3, ec, .own c11, k11, _, rfl, a, D, _, _, b12, rfl, hE3, ec, .own c12, k12, three, fun m3 z3 => ⟨l3, m3, _, _, rfl, rfl, same_upd z3 _ _ upd_same, upd_same, by show 12 ≤ sizeLine; decide, fun l4 n4 => ?_⟩⟩
    have s4 := (s3.trans (same_upd (o := .lst [.bl b10, .bl b11, .bl b12]) z3)).trans (same_upd (o := .lst ([.bl b1, .bl b2, .bl b3] ++ [.bl b4, .bl b5, .bl b6] ++ [.bl b7, .bl b8, .bl b9] ++ [.bl b10, .bl b11, .bl b12])) n4)
    have hE4 := hE0.same s4
    refine ⟨_, rfl, _, rfl, a, D, _, _, b13, rfl, hE4, ec, .own c13, k13, _, rfl, a, D, _, _, b14, rfl, hE4, ec, .own c14, k14, _, rfl, a, D, _, _, b15, rfl, hE4, ec, .own c15, k15, three, fun m4 z4 => ⟨l4, m4, _, _, rfl, rfl, same_upd z4 _ _ upd_same, upd_same, by show 15 ≤ sizeLine; decide, fun l5 n5 => ?_⟩⟩
    exact q l5 _ ((s4.trans (same_upd (o := .lst [.bl b13, .bl b14, .bl b15]) z4)).trans (same_upd n5)) upd_same

end
end Lim
set_option maxHeartbeats 2000000
namespace Lim
open PySem PySem.Spec PyProof.Rows L2
/-- an error that a name still holds behind its suite -/
def Kept (cls : Value) (d : Option Addr) (a : Addr) : HO := .ext fun h => ∃ oe vs, h.get? a = some oe ∧ Zc cls d oe ∧ oe.data = .fields vs
theorem kept_ok {P : Program} {w : World} {H : Hp} {h : Heap} {a : Addr} {cls : Value} {d : Option Addr} {oe : Obj} {vs : Array Value} (e : h.get? a = some oe) (z : Zc cls d oe) (f : oe.data = .fields vs) : ObjOk P w H h a (Kept cls d a) :=
  ⟨⟨oe, vs, e, z, f⟩, ⟨oe, e⟩, fun _ _ ⟨o, v, q, r⟩ k => ⟨o, v, k o q, r⟩⟩
section
variable {X : Cx} {pins : List (Addr × Obj)} {σ : L2.St} {H : Hp} {s : Shared} {a : Addr} {cls : Value} {d : Option Addr}
theorem Inv_track {oe : Obj} {vs : Array Value} (I : Inv X pins σ H s) (e : s.heap.get? a = some oe) (z : Zc cls d oe) (f : oe.data = .fields vs) (n : H a = none) (h0 : X.s_0.heap.get? a = none)
    (nL : a ≠ X.env.locals) (nc : ∀ x c, X.env.cells.lookup x = some c → c ≠ a) (np : ∀ p ∈ X.pn ++ pins, p.1 ≠ a) : Inv X pins σ (upd H a (Kept cls d a)) s := by
  have oth : ∀ {b : Addr} {o : HO}, H b = some o → b ≠ a := fun {b o} q y => by
    rw [y, n] at q
    cases q
  refine ⟨I.ok, I.os, I.bare, ⟨I.base.keep, I.base.slot, fun b o q m hx => ?_, I.base.there, fun b xs q => ?_, fun b o u q => ?_, fun b ps q => ?_⟩, I.loc, I.cell, ?_, fun x c q => ?_, fun p hp => ?_, fun b u q => ?_, I.len⟩
  · rw [upd_ne (fun y => by rw [y, h0] at q; cases q)]
    exact I.base.free b o q m hx
  · have r := I.base.tups b xs q
    rw [upd_ne (oth r)]
    exact r
  · have r := I.base.frzs b o u q
    rw [upd_ne (oth r)]
    exact r
  · obtain ⟨more, r⟩ := I.base.tbls b ps q
    exact ⟨more, by rw [upd_ne (oth r)]; exact r⟩
  · rw [upd_ne (Ne.symm nL)]
    exact I.free
  · rw [upd_ne (nc x c q)]
    exact I.freeC x c q
  · obtain ⟨p1, p2, p3⟩ := I.pin p hp
    exact ⟨p1, by rw [upd_ne (np p hp)]; exact p2, p3⟩
  · by_cases hb : b = a
    · subst hb
      rw [upd_same] at q
      cases q
      exact kept_ok e z f
    · rw [upd_ne hb] at q
      refine (I.hok b u q).stay (fun _ _ _ r => r) (fun c r => ?_) fun c xs r => ?_
      · rw [upd_ne (oth r)]
        exact r
      · rw [upd_ne (oth r)]
        exact r
end
/-- what 'except x as n' wishes, its error tracked behind the suite -/
def wKeep (K : PySem.W.Frag) (c : Value) (i : Nat) (ts : Addr → Value → Option Addr → TS) (W0 : WX) (D : Ends) : WX := fun cls d σ H =>
  ∃ b, PySem.W.exmOne K cls c = some b ∧
    (b = true → ∀ a, H a = none → ts a cls d { nx := fun σ1 H1 => H1 a = none → D.nx (σ1.set i none) (upd H1 a (Kept cls d a)), rt := D.rt, bk := fun σ1 H1 => D.bk (σ1.set i none) H1, ct := fun σ1 H1 => D.ct (σ1.set i none) H1 } (σ.set i (some (.ref a))) H) ∧
    (b = false → W0 cls d σ H)
section
variable {X : Cx} {x n : Str} {c : Value} {i : Nat} {body suite : List Stmt} {b₀ : Stmt} {np pos pos' : Pos} {tb : WX → TS} {ts : Addr → Value → Option Addr → TS} {W0 : WX}
theorem ps_try_keep (hx : X.ex = []) (hs : X.stack = X.env :: X.outer) (hf : X.env.frame = some X.env.locals) (hN : X.N.Nodup) (hi : X.N[i]? = some n) (hl : X.env.kindOf n = some .local) (hc : Names X x c) (tk : Takes X W0)
    (hb : ∀ (W : WX) (pn : List (Addr × Obj)) (xe : Value → Shared → Prop), Takes (X.tr pn xe) W → PassesOwn (model X.prog X.w) X.A X.env xe → PSs (X.tr pn xe) body (tb W))
    (hu : ∀ (a : Addr) (oe : Obj) (cls : Value) (d : Option Addr) (pn : List (Addr × Obj)), Zc cls d oe → (∃ vs, oe.data = .fields vs) → PSs (X.suite a ((a, oe) :: pn)) (b₀ :: suite) (ts a cls d)) :
    PS X (.Try body [.ExceptHandler (some (.Name x np)) (some n) (b₀ :: suite) pos'] [] [] pos) (fun D σ H => tb (wKeep X.K c i ts W0 D) D σ H) := by
  refine ⟨fun pins s σ H D I h => ?_⟩
  have ok := I.ok
  have afr : X.A.frames = some (X.env :: X.outer) := ok.frames.trans (by rw [hs])
  let hand : ExceptHandler := .ExceptHandler (some (.Name x np)) (some n) (b₀ :: suite) pos'
  let xe : Value → Shared → Prop := fun e t => wpAny (model X.prog X.w) X.A (noteFrame e X.env) (fun _ t => wpAny (model X.prog X.w) X.A (setFlight e none) (fun _ t => wpAny (model X.prog X.w) X.A (handleBy e X.env [hand]) (SP X pins D) X.xe t) X.xe t) X.xe t
  have catch_ : ∀ u t, XE (X.tr (X.pn ++ pins) xe) (wKeep X.K c i ts W0 D) u t → xe u t := by
    rintro u t ⟨a, B, sI, pi, τ, G, cls, d, rfl, J0, nb, up, sky, na, os, ag, b, hb1, hyes, hno⟩
    have J : Inv X pins τ G sI := J0.ofTry ok
    have sk : Sky B (X.env :: X.outer) a (Zc cls d) X.env.locals t.heap := hs ▸ sky
    refine Sky.land Zc.steady afr hf sk fun h3 fl up3 => ?_
    have stB : B.StaysIn h3 := fl.1
    have nB : B.get? a = none := fl.2.1
    have J3 : Inv X pins τ G { t with heap := h3 } := J.landed nb stB (up.trans up3) os ag
    obtain ⟨o3, v3, g3, z3, f3⟩ := fl.there
    have nfr : a ∉ frs (X.env :: X.outer) := fun hm => by
      obtain ⟨_, o', q, hnf⟩ := fl.2.2.1.mem hm
      rw [g3] at q
      cases q
      exact hnf _ f3
    have nL : a ≠ X.env.locals := fun z => nfr (List.mem_filterMap.mpr ⟨X.env, List.mem_cons_self, by rw [hf, z]⟩)
    have nF : a ∉ X.fs := fun hm => by
      obtain ⟨e, he, q⟩ := List.mem_filterMap.mp hm
      exact nfr (List.mem_filterMap.mpr ⟨e, List.mem_cons_of_mem _ he, q⟩)
    -- a stood nowhere before
    have nI : sI.heap.get? a = none := by
      cases q : sI.heap.get? a with
      | none => rfl
      | some o =>
        have := nb a o q (by rw [show (X.tr (X.pn ++ pins) xe).stack = X.env :: X.outer from hs]; exact nfr)
        rw [nB] at this
        cases this
    have n0 : X.s_0.heap.get? a = none := by
      cases q : X.s_0.heap.get? a with
      | none => rfl
      | some o =>
        obtain ⟨o', r⟩ := J.base.there a o q (by rw [hx]; exact List.not_mem_nil)
        rw [nI] at r
        cases r
    have nC : ∀ y k, X.env.cells.lookup y = some k → k ≠ a := fun y k q z => by
      obtain ⟨v, o, r, _⟩ := J.cell y k q
      rw [z, nI] at r
      cases r
    have nP : ∀ p ∈ X.pn ++ pins, p.1 ≠ a := fun p hp z => by
      have := (J.pin p hp).1
      rw [z, nI] at this
      cases this
    have S3 := J3.suite g3 f3 na nL nF
    refine wpAny_handleBy_cons (codeAny_handlers_test ?_) (fun q => by cases q)
    have LT : PySem.W.Looks (model X.prog X.w) h3 (typeOf (.ref a)) cls := fun A Q E s k q => wpAny_typeOf_ref (k _ _ g3) (z3.1.symm ▸ q)
    have LM := PySem.W.exm_one (M := model X.prog X.w) J3.kIn LT hb1
    have test : ∀ {Q : Value → Shared → Prop} {E : Value → Shared → Prop}, Q c { t with heap := h3 } → wpAny (model X.prog X.w) (X.A.mark (some (.ref a))) (eval (.Name x np) X.env) Q E { t with heap := h3 } := fun {Q E} q => by
      rcases hc with ⟨hg, hdb, hm | ⟨hm, hv, hnn⟩⟩
      · exact ld_glob (X := X.suite a ((a, o3) :: (X.pn ++ pins))) S3 hg hm q hdb
      · exact ld_blt (X := X.suite a ((a, o3) :: (X.pn ++ pins))) S3 hg hm hv q hnn hdb
    refine test (LM.here ?_)
    cases b with
    | false =>
      show wpAny _ X.A (handleBy (.ref a) X.env []) _ _ _
      refine wpAny_handleBy_nil ?_
      obtain ⟨_, _, _, oe, vs, T, oT, ts', he, hz, hd, h1, hr⟩ := id fl
      unfold PySem.passOn
      refine wpAny_bind (wpAny_field he hd h1 ?_)
      rw [if_neg (show ¬ ((Value.ref T == Value.none) = true) by simp)]
      have fin : wpAny (model X.prog X.w) X.A (setFlight (.ref a) X.env.frame) (fun _ t4 => wpAny (model X.prog X.w) X.A (throw (.ref a) : Sem Flow) (SP X pins D) X.xe t4) X.xe { t with heap := h3 } := by
        rw [hf]
        refine HandSPX.setFlight_upZ fl fun h4 hh4 up4 => wpAny_throw (tk _ _ ?_)
        exact ⟨a, B, sI, pins, τ, G, cls, d, rfl, J, nb, (up.trans up3).trans up4, .inr (.inr (hs ▸ hh4)), na, os, ag, hno rfl⟩
      first
        | exact wpAny_bind fin
        | exact wpAny_bind (wpAny_pure (wpAny_bind fin))
    | true =>
      refine codeAny_handlers_suite_as ?_
      refine HandSPX.lands_againZ fl fun h4 fl4 up4 => ?_
      have J4 : Inv X pins τ G { t with heap := h4 } := J.landed nb fl4.1 ((up.trans up3).trans up4) os ag
      obtain ⟨o4, v4, g4, z4, f4⟩ := fl4.there
      have S4 := J4.suite g4 f4 na nL nF
      refine store_ok (X := X.suite a ((a, o4) :: (X.pn ++ pins))) (v := .ref a) S4 hN hi (.inl hl) rfl (fun s5 S5 => ?_) (.inr hl)
      refine wpAny_mono ((hu a o4 cls d (X.pn ++ pins) z4 ⟨_, f4⟩).run [] s5 _ G _ S5 (hyes rfl a na)) (fun f s6 hsp => ?_) fun _ _ z => z.elim
      have off : ∀ {σ6 : L2.St} {H6 : Hp} {Q : Shared → Prop}, Inv (X.suite a ((a, o4) :: (X.pn ++ pins))) [] σ6 H6 s6 → (∀ s7, Inv (X.suite a ((a, o4) :: (X.pn ++ pins))) [] (σ6.set i none) H6 s7 → Q s7) →
          wpAny (model X.prog X.w) X.A (do bindName X.env n .none; unbindBehindTheSuite X.env n pos') (fun _ s7 => Q s7) X.xe s6 := fun S6 hq => gone_ok (X := X.suite a ((a, o4) :: (X.pn ++ pins))) S6 hN hi hl hq
      cases f with
      | next =>
        obtain ⟨σ6, H6, S6, q6⟩ := hsp
        refine off S6 fun s7 S7 => ?_
        obtain ⟨p1, p2, _⟩ := S7.pin (a, o4) (List.mem_append_left _ List.mem_cons_self)
        exact ⟨_, _, Inv_track (S7.unsuite ok) p1 z4 f4 p2 n0 nL nC nP, q6 p2⟩
      | brk =>
        obtain ⟨σ6, H6, S6, q6⟩ := hsp
        exact off S6 fun s7 S7 => ⟨_, _, S7.unsuite ok, q6⟩
      | cont =>
        obtain ⟨σ6, H6, S6, q6⟩ := hsp
        exact off S6 fun s7 S7 => ⟨_, _, S7.unsuite ok, q6⟩
      | ret u =>
        obtain ⟨v6, σ6, H6, S6, r6, q6⟩ := hsp
        exact off S6 fun s7 S7 => ⟨_, _, _, S7.unsuite ok, r6, q6⟩
  refine wpAny_Try_except (wpAny_mono ((hb _ (X.pn ++ pins) xe catch_ PassesOwn.looking).run [] s σ H D (I.toTry _) h) (fun f s1 hsp => ?_) fun e s1 he => he)
  cases f with
  | next =>
    obtain ⟨σ', H', J', q⟩ := hsp
    exact wpAny_execs_nil ⟨σ', H', J'.ofTry ok, q⟩
  | ret u =>
    obtain ⟨v, σ', H', J', r, q⟩ := hsp
    exact ⟨v, σ', H', J'.ofTry ok, r, q⟩
  | brk =>
    obtain ⟨σ', H', J', q⟩ := hsp
    exact ⟨σ', H', J'.ofTry ok, q⟩
  | cont =>
    obtain ⟨σ', H', J', q⟩ := hsp
    exact ⟨σ', H', J'.ofTry ok, q⟩
end
end Lim
set_option maxHeartbeats 2000000
namespace Lim
open PySem PySem.Spec PyProof.Rows L2
/-! isinstance of an error that a name holds, and a list of bools counted -/
def rIsK (K : PySem.W.Frag) : List V → Hp → VK → Prop := fun xs H Q => ∃ (a D : Addr) (c : V) (cv : Value) (b : Bool), xs = [.ref a, c] ∧ H a = some (Kept (.ref D) none a) ∧ ExcC K D ∧ ClsV c cv ∧ PySem.W.kitOne K (.ref D) cv = some b ∧ Q (.bl b) H
def rIsKT (K : PySem.W.Frag) : List V → Hp → VK → Prop := fun xs H Q => ∃ (a D tp : Addr) (cs : List V) (us : List Value) (b : Bool), xs = [.ref a, .ref tp] ∧ H a = some (Kept (.ref D) none a) ∧ ExcC K D ∧ H tp = some (.tup cs) ∧ Paired ClsV cs us ∧
  PySem.W.kitAny K (.ref D) us = some b ∧ Q (.bl b) H
section
variable {X : Cx} {pins : List (Addr × Obj)} {σ : L2.St} {H : Hp} {s : Shared} {a D : Addr}
theorem kept_at (I : Inv X pins σ H s) (h : H a = some (Kept (.ref D) none a)) : ∃ oe, PySem.W.InstAt s.heap a oe D none := by
  obtain ⟨⟨oe, vs, e, z, f⟩, _, _⟩ := (show ObjOk X.prog X.w H s.heap a (Kept (.ref D) none a) from I.hok a _ h)
  obtain ⟨oc, od, oda, osl⟩ := oe
  obtain ⟨z1, z2⟩ := z
  dsimp only at z1 z2 f
  subst z1 z2 f
  exact ⟨_, e, rfl, rfl, trivial⟩
theorem call_isK : CallR X (.builtin "isinstance") (rIsK X.K) := by
  intro pins s σ H xs us Q I r h
  obtain ⟨a, D, c, cv, b, rfl, hH, C, hc, e, q⟩ := h
  obtain ⟨u1, u2, rfl, r1, r2⟩ := vals2 r
  cases (show u1 = Value.ref a from r1)
  obtain rfl := hc.eq r2
  obtain ⟨oe, J⟩ := kept_at I hH
  exact PySem.W.kia_one (PySem.W.handS_kitx_exc C.hg C.hk C.hs C.hd C.ha C.hn C.ht C.hm) I.kIn J e (fun z => nomatch z) fun tk => ⟨.bl b, H, I.tok tk, rfl, q⟩
theorem call_isKT : CallR X (.builtin "isinstance") (rIsKT X.K) := by
  intro pins s σ H xs us Q I r h
  obtain ⟨a, D, tp, cs, ws, b, rfl, hH, C, hT, k, e, q⟩ := h
  obtain ⟨u1, u2, rfl, r1, r2⟩ := vals2 r
  cases (show u1 = Value.ref a from r1)
  cases (show u2 = Value.ref tp from r2)
  obtain ⟨oe, J⟩ := kept_at I hH
  obtain ⟨_, its, rv, o, h1, h2, n, h3⟩ := (show ObjOk X.prog X.w H s.heap tp (.tup cs) from I.hok tp _ hT)
  obtain rfl := ClsV.all k rv
  obtain ⟨oc, od, dt, sl⟩ := o
  simp only at h2 h3
  subst h2 h3
  exact PySem.W.kia_tup (PySem.W.handS_kitx_exc C.hg C.hk C.hs C.hd C.ha C.hn C.ht C.hm) I.kIn J h1 e (fun z => nomatch z) fun tk => ⟨.bl b, H, I.tok tk, rfl, q⟩
end
section
variable {K : PySem.W.Frag} {D C : Addr} {b : Bool}
theorem kit_same : PySem.W.kitOne K (.ref D) (.ref D) = some true := by
  unfold PySem.W.kitOne
  rw [if_pos (beq_self_eq_true _)]
theorem kit_ref (ne : D ≠ C) (hd : PySem.W.hasDictIn K C = true) (ht : PySem.W.typeIn K (.ref C) = some (.type "type")) (h4 : PySem.W.subIn K (.ref D) (.ref C) = some b) : PySem.W.kitOne K (.ref D) (.ref C) = some b := by
  obtain ⟨cd, hc, _⟩ := PySem.W.any_some hd
  unfold PySem.W.kitOne
  rw [if_neg (fun z => ne (by simpa using z))]
  show (if ((PySem.W.clsIn K C).isSome && PySem.W.typeIn K (.ref C) == some (.type "type")) = true then PySem.W.subIn K (.ref D) (.ref C) else none) = some b
  rw [if_pos (by rw [hc, ht]; rfl)]
  exact h4
theorem kit_type {T : String} (hm : PySem.W.kitMeta T = true) (h4 : PySem.W.subIn K (.ref D) (.type T) = some b) : PySem.W.kitOne K (.ref D) (.type T) = some b := by
  unfold PySem.W.kitOne
  rw [if_neg (by simp)]
  show (if PySem.W.kitMeta T = true then PySem.W.subIn K (.ref D) (.type T) else none) = some b
  rw [if_pos hm]
  exact h4
end
/-! bools counted -/
open PySem.SeqAt (EqAt)
def isBl (k : Bool) : Value → Bool
  | .bool b => b == k
  | _ => false
theorem bl_vals {bs : List Bool} {us : List Value} (h : Vals (bs.map V.bl) us) : us = bs.map Value.bool := by
  induction bs generalizing us with
  | nil =>
    cases h
    rfl
  | cons b r ih =>
    cases h with
    | cons rb rr =>
      rw [ih rr, show _ = Value.bool b from rb]
      rfl
theorem bl_gives {A : Around} {s : Shared} {k : Bool} {bs : List Bool} {us : List Value} (h : Vals (bs.map V.bl) us) : ∀ y ∈ us, EqAt A s y (.bool k) (isBl k y) := by
  rw [bl_vals h]
  intro y hy
  obtain ⟨b, _, rfl⟩ := List.mem_map.mp hy
  exact PySem.SeqAt.EqAt.bool_bool b k
theorem bl_count {k : Bool} {bs : List Bool} {us : List Value} (h : Vals (bs.map V.bl) us) : us.countP (isBl k) = bs.count k := by
  rw [bl_vals h, List.countP_map]
  rfl
def rCntB (K : PySem.W.Frag) : V → List V → Hp → VK → Prop := fun x xs H Q => ∃ (p : Addr) (bs : List Bool) (k : Bool), x = .ref p ∧ xs = [.bl k] ∧ SqL K H p (bs.map V.bl) ∧ Q (.int (bs.count k : Nat)) H
theorem mt_bcount {X : Cx} : MtR X "list.count" (rCntB X.K) := by
  intro pins s σ H x xs v us Q I rx rxs h
  obtain ⟨p, bs, k, rfl, rfl, hs, q⟩ := h
  cases rx
  obtain ⟨u, rfl, ru⟩ := rxs.one
  cases (show u = Value.bool k from ru)
  obtain ⟨its, rv, ⟨⟨cls, dd, data, sl⟩, n, ho, hc, hdn, hd⟩, hlen⟩ := I.list hs
  simp only at hc hd
  subst hc hd
  have ec : its.toArray.toList.countP (isBl k) = bs.count k := bl_count rv
  refine call_meets PySem.F.slot_list_count ⟨_, ho, rfl⟩ PySem.F.entry_list_count (PySem.F.args_list_count_2 _ _) (SeqAt.list_countAt p its.toArray n dd sl (.bool k) (isBl k)) ⟨ho, fun y hy => ?_, ?_⟩
  · exact bl_gives rv y (by simpa using hy)
  · refine ⟨.int (bs.count k : Nat), H, I.tok _, ⟨s.toks, ?_⟩, q⟩
    show Value.int ((its.toArray.toList.countP (isBl k) : Nat) : Int) s.toks = Value.int ((bs.count k : Nat) : Int) s.toks
    rw [ec]
end Lim
set_option maxHeartbeats 4000000
namespace Lim
open PySem PySem.Spec PyProof.Rows L2
abbrev sLaw : Stmt := topS 24
section
variable {P : Program} {w : World} {K : PySem.W.Frag} {mg : Str → Option Value} {base : Heap}
abbrev nLaw : List Str := ["script", "source", "line", "column", "index", "limit", "name", "text", "errors", "place", "error", "fields", "turn", "other"]
theorem scLaw : FnScope nLaw ["script"] (defScope sLaw) := ⟨rfl, rfl, rfl, by decide +kernel, rfl, by decide +kernel, by decide +kernel⟩
def spLaw (K : PySem.W.Frag) : Sp := fun vs H Q _ => ∃ (a : Addr) (ns : List Int), vs = [.ref a] ∧ SqL K H a (ns.map V.int) ∧ ns.length ≤ 63 ∧ ∀ H', Q (.bl true) H'
/-- what a class of the fifteen says -/
structure KitV (K : PySem.W.Frag) (cL : Addr) (cs : List Addr) (i : Nat) (C : Addr) : Prop where
  ec : ExcC K C
  lr : PySem.W.kitOne K (.ref C) (.ref cL) = some true
  ve : PySem.W.kitOne K (.ref C) (.type "ValueError") = some true
  ks : ∀ j D, cs[j]? = some D → PySem.W.kitOne K (.ref C) (.ref D) = some (decide (i = j))
structure Calls (P : Program) (w : World) (K : PySem.W.Frag) (mg : Str → Option Value) (base : Heap) (k : Nat) (cL c1 c2 c3 c4 c5 c6 c7 c8 c9 c10 c11 c12 c13 c14 c15 : Addr) : Prop where
  drw : ∃ f fd, FnOk P w K mg base CX0 k f fd ["script"] (spDrw K) ∧ mg "_law_draws" = some (.ref f) ∧ PySem.W.keepIn K (.ref f) = true ∧ Binds K fd ["script"] []
  nxt : ∃ f fd, FnOk P w K mg base CX0 k f fd ["source", "bound"] spNxt ∧ mg "_law_next" = some (.ref f) ∧ PySem.W.keepIn K (.ref f) = true ∧ Binds K fd ["source", "bound"] []
  cho : ∃ f fd, FnOk P w K mg base CX0 k f fd ["source", "items"] (spCho K) ∧ mg "_law_choose" = some (.ref f) ∧ PySem.W.keepIn K (.ref f) = true ∧ Binds K fd ["source", "items"] []
  cls : ∃ f fd, FnOk P w K mg base CX0 k f fd ["error"] (spCls K c1 c2 c3 c4 c5 c6 c7 c8 c9 c10 c11 c12 c13 c14 c15) ∧ mg "_law_classes_of" = some (.ref f) ∧ PySem.W.keepIn K (.ref f) = true ∧ Binds K fd ["error"] []
  ide : ∃ f fd, FnG P w K mg base k f fd ["found", "expected"] (spIde K) ∧ mg "_law_identical" = some (.ref f) ∧ PySem.W.keepIn K (.ref f) = true ∧ Binds K fd ["found", "expected"] []
  ini1 : ∃ fI fd, FnOk P w K mg base CX0 k fI fd ["self", "line", "column"] (spErr K c1 fsSY 2) ∧ PySem.W.findIn K (.ref c1) "__init__" = some (some (.ref fI)) ∧ PySem.W.typeIn K (.ref fI) = some (.type "function") ∧ Binds K fd ["self", "line", "column"] []
  ini2 : ∃ fI fd, FnOk P w K mg base CX0 k fI fd ["self", "index"] (spErr K c2 fsBC 1) ∧ PySem.W.findIn K (.ref c2) "__init__" = some (some (.ref fI)) ∧ PySem.W.typeIn K (.ref fI) = some (.type "function") ∧ Binds K fd ["self", "index"] []
  ini3 : ∃ fI fd, FnOk P w K mg base CX0 k fI fd ["self", "index"] (spErr K c3 fsBP 1) ∧ PySem.W.findIn K (.ref c3) "__init__" = some (some (.ref fI)) ∧ PySem.W.typeIn K (.ref fI) = some (.type "function") ∧ Binds K fd ["self", "index"] []
  ini4 : ∃ fI fd, FnOk P w K mg base CX0 k fI fd ["self", "limit"] (spErr K c4 fsTL 1) ∧ PySem.W.findIn K (.ref c4) "__init__" = some (some (.ref fI)) ∧ PySem.W.typeIn K (.ref fI) = some (.type "function") ∧ Binds K fd ["self", "limit"] []
  ini5 : ∃ fI fd, FnOk P w K mg base CX0 k fI fd ["self", "name"] (spErr K c5 fsNV 1) ∧ PySem.W.findIn K (.ref c5) "__init__" = some (some (.ref fI)) ∧ PySem.W.typeIn K (.ref fI) = some (.type "function") ∧ Binds K fd ["self", "name"] []
  g1 : mg "SyntaxProblem" = some (.ref c1)
  g2 : mg "BadClaim" = some (.ref c2)
  g3 : mg "BadPath" = some (.ref c3)
  g4 : mg "TooLong" = some (.ref c4)
  g5 : mg "NoVariable" = some (.ref c5)
  g6 : mg "InvalidOrdinal" = some (.ref c6)
  g7 : mg "NotLater" = some (.ref c7)
  g8 : mg "ZeroDivisor" = some (.ref c8)
  g9 : mg "NoEvent" = some (.ref c9)
  g10 : mg "OutOfRange" = some (.ref c10)
  g11 : mg "Incompatible" = some (.ref c11)
  g12 : mg "NotReached" = some (.ref c12)
  g13 : mg "NoBreakpoint" = some (.ref c13)
  g14 : mg "NoMark" = some (.ref c14)
  g15 : mg "InvalidCommand" = some (.ref c15)
  T1 : OexC K c1
  X1 : XfC K c1
  T2 : OexC K c2
  X2 : XfC K c2
  T3 : OexC K c3
  X3 : XfC K c3
  T4 : OexC K c4
  X4 : XfC K c4
  T5 : OexC K c5
  X5 : XfC K c5
  nline1 : PySem.W.findIn K (.ref c1) "line" = some none
  ncolumn1 : PySem.W.findIn K (.ref c1) "column" = some none
  nindex2 : PySem.W.findIn K (.ref c2) "index" = some none
  nindex3 : PySem.W.findIn K (.ref c3) "index" = some none
  nlimit4 : PySem.W.findIn K (.ref c4) "limit" = some none
  nname5 : PySem.W.findIn K (.ref c5) "name" = some none
  x6 : PySem.W.excIn K c6 [.type "ValueError", .type "Exception", .type "BaseException", .type "object"] "ValueError.__new__" = true
  kk6 : PySem.W.keepIn K (.ref c6) = true
  x7 : PySem.W.excIn K c7 [.type "ValueError", .type "Exception", .type "BaseException", .type "object"] "ValueError.__new__" = true
  kk7 : PySem.W.keepIn K (.ref c7) = true
  x8 : PySem.W.excIn K c8 [.type "ValueError", .type "Exception", .type "BaseException", .type "object"] "ValueError.__new__" = true
  kk8 : PySem.W.keepIn K (.ref c8) = true
  x9 : PySem.W.excIn K c9 [.type "ValueError", .type "Exception", .type "BaseException", .type "object"] "ValueError.__new__" = true
  kk9 : PySem.W.keepIn K (.ref c9) = true
  x10 : PySem.W.excIn K c10 [.type "ValueError", .type "Exception", .type "BaseException", .type "object"] "ValueError.__new__" = true
  kk10 : PySem.W.keepIn K (.ref c10) = true
  x11 : PySem.W.excIn K c11 [.type "ValueError", .type "Exception", .type "BaseException", .type "object"] "ValueError.__new__" = true
  kk11 : PySem.W.keepIn K (.ref c11) = true
  x12 : PySem.W.excIn K c12 [.type "ValueError", .type "Exception", .type "BaseException", .type "object"] "ValueError.__new__" = true
  kk12 : PySem.W.keepIn K (.ref c12) = true
  x13 : PySem.W.excIn K c13 [.type "ValueError", .type "Exception", .type "BaseException", .type "object"] "ValueError.__new__" = true
  kk13 : PySem.W.keepIn K (.ref c13) = true
  x14 : PySem.W.excIn K c14 [.type "ValueError", .type "Exception", .type "BaseException", .type "object"] "ValueError.__new__" = true
  kk14 : PySem.W.keepIn K (.ref c14) = true
  x15 : PySem.W.excIn K c15 [.type "ValueError", .type "Exception", .type "BaseException", .type "object"] "ValueError.__new__" = true
  kk15 : PySem.W.keepIn K (.ref c15) = true
  gL : mg "LimitRunError" = some (.ref cL)
  kv : ∀ i C, [c1, c2, c3, c4, c5, c6, c7, c8, c9, c10, c11, c12, c13, c14, c15][i]? = some C → KitV K cL [c1, c2, c3, c4, c5, c6, c7, c8, c9, c10, c11, c12, c13, c14, c15] i C
  range : mg "range" = none
  len : mg "len" = none
  isi : mg "isinstance" = none
  VE : mg "ValueError" = none
  enu : mg "enumerate" = none
theorem bl_dp {H : Hp} {a : Addr} {bs : List Bool} (h : H a = some (.lst (bs.map V.bl))) : Dp K H (.ref a) (.list (bs.map PyData.bool)) := by
  refine .lst (.inl (.inl h)) ?_
  clear h
  induction bs with
  | nil => exact .nil
  | cons b r ih => exact .cons (.bl b) ih
theorem bl_eqv : ∀ bs : List Bool, PyData.eqvAll (bs.map PyData.bool) (bs.map PyData.bool) = true
  | [] => by simp [PyData.eqvAll]
  | b :: r => by
    have ih := bl_eqv r
    rw [List.map_cons, PyData.eqvAll, ih, PyData.eqv]
    simp
theorem bl_ne (bs : List Bool) : (!PyData.eqv (.list (bs.map PyData.bool)) (.list (bs.map PyData.bool))) = false := by
  rw [PyData.eqv, bl_eqv]
  rfl
theorem bl_lay : ∀ bs : List Bool, PyData.canLayAll0 (bs.map PyData.bool) = true
  | [] => rfl
  | b :: r => by
    rw [List.map_cons, PyData.canLayAll0, bl_lay r]
    rfl
theorem bl_depth : ∀ bs : List Bool, PyData.depthAll (bs.map PyData.bool) = 0
  | [] => rfl
  | b :: r => by
    rw [List.map_cons, PyData.depthAll, bl_depth r]
    rfl
theorem bl_shaped (bs : List Bool) : SeqAt.shaped (.list (bs.map PyData.bool)) = true := by
  unfold SeqAt.shaped
  simp [PyData.canLay0, PyData.depth, bl_lay, bl_depth]
/-- errors made so far, each of its class -/
def Errs (H : Hp) (as cs : List Addr) : Prop := Paired (fun a C => ErrAt H a C) as cs
theorem Errs.same {H H' : Hp} {as cs : List Addr} (h : Errs H as cs) (s : Same H H') : Errs H' as cs := Paired.mapP h fun _ _ q => q.same s
theorem err_new {H : Hp} {a C : Addr} : ErrAt (upd H a (ExO (.ref C) a)) a C := .inl upd_same
theorem fld_int {z : Int} (h : z.natAbs < 2 ^ 200) : Fld (.int z) := .inl ⟨z, rfl, h⟩

def Five (H : Hp) (c1 c2 c3 c4 c5 e1 e2 e3 e4 e5 : Addr) (l0 l1 l2 l3 : Int) (nm : Str) : Prop :=
  (∃ q, H e1 = some (exo e1 c1 (some q)) ∧ H q = some (exd q (fsSY [.int l0, .int l1]))) ∧ (∃ q, H e2 = some (exo e2 c2 (some q)) ∧ H q = some (exd q (fsBC [.int l2]))) ∧
  (∃ q, H e3 = some (exo e3 c3 (some q)) ∧ H q = some (exd q (fsBP [.int l2]))) ∧ (∃ q, H e4 = some (exo e4 c4 (some q)) ∧ H q = some (exd q (fsTL [.int l3]))) ∧
  (∃ q, H e5 = some (exo e5 c5 (some q)) ∧ H q = some (exd q (fsNV [.str nm])))
theorem Five.same {H H' : Hp} {c1 c2 c3 c4 c5 e1 e2 e3 e4 e5 : Addr} {l0 l1 l2 l3 : Int} {nm : Str} (h : Five H c1 c2 c3 c4 c5 e1 e2 e3 e4 e5 l0 l1 l2 l3 nm) (s : Same H H') : Five H' c1 c2 c3 c4 c5 e1 e2 e3 e4 e5 l0 l1 l2 l3 nm := by
  obtain ⟨⟨q1, a1, b1⟩, ⟨q2, a2, b2⟩, ⟨q3, a3, b3⟩, ⟨q4, a4, b4⟩, ⟨q5, a5, b5⟩⟩ := h
  exact ⟨⟨q1, s _ _ a1, s _ _ b1⟩, ⟨q2, s _ _ a2, s _ _ b2⟩, ⟨q3, s _ _ a3, s _ _ b3⟩, ⟨q4, s _ _ a4, s _ _ b4⟩, ⟨q5, s _ _ a5, s _ _ b5⟩⟩
theorem Five.errs {H : Hp} {c1 c2 c3 c4 c5 e1 e2 e3 e4 e5 : Addr} {l0 l1 l2 l3 : Int} {nm : Str} (h : Five H c1 c2 c3 c4 c5 e1 e2 e3 e4 e5 l0 l1 l2 l3 nm) : Errs H [e1, e2, e3, e4, e5] [c1, c2, c3, c4, c5] := by
  obtain ⟨⟨q1, a1, b1⟩, ⟨q2, a2, b2⟩, ⟨q3, a3, b3⟩, ⟨q4, a4, b4⟩, ⟨q5, a5, b5⟩⟩ := h
  exact .cons (.inr ⟨_, _, a1, b1⟩) (.cons (.inr ⟨_, _, a2, b2⟩) (.cons (.inr ⟨_, _, a3, b3⟩) (.cons (.inr ⟨_, _, a4, b4⟩) (.cons (.inr ⟨_, _, a5, b5⟩) .nil))))
theorem fld1 {v : V} (h : Fld v) : ∀ u ∈ [v], Fld u := fun u hu => by
  rw [List.mem_singleton.mp hu]
  exact h
theorem fld2 {v v' : V} (h : Fld v) (h' : Fld v') : ∀ u ∈ [v, v'], Fld u := fun u hu => by
  rcases List.mem_cons.mp hu with e | e
  · rw [e]
    exact h
  · exact fld1 h' u e
theorem dec_int (i j : Nat) : decide (V.int (i : Int) = V.int (0 + (j : Int))) = decide (i = j) := by
  by_cases e : i = j
  · rw [e, decide_eq_true rfl, decide_eq_true (by rw [Int.zero_add])]
  · rw [decide_eq_false e, decide_eq_false fun z => e (by have := V.int.inj z; omega)]
theorem errs_at {H : Hp} {as cs : List Addr} (h : Errs H as cs) {i : Nat} {a : Addr} (ha : as[i]? = some a) : ∃ C, cs[i]? = some C ∧ ErrAt H a C := by
  unfold Errs at h
  induction h generalizing i with
  | nil => simp at ha
  | cons r _ ih =>
    cases i with
    | zero =>
      simp at ha
      subst ha
      exact ⟨_, rfl, r⟩
    | succ i => exact ih (by simpa using ha)
theorem errs_app {H : Hp} {as cs as' cs' : List Addr} (h : Errs H as cs) (h' : Errs H as' cs') : Errs H (as ++ as') (cs ++ cs') := by
  unfold Errs at *
  induction h with
  | nil => exact h'
  | cons r _ ih => exact .cons r ih
theorem same_upd_none {H H' : Hp} {a : Addr} {o : HO} (s : Same H H') (n : H a = none) : Same H (upd H' a o) := fun b u e => by
  rw [upd_ne (ne_of_none e n)]
  exact s b u e
theorem mk_same {H H' : Hp} {a C : Addr} (n : H a = none) (k : ∀ b o, (upd H a (exo a C none)) b = some o → b ≠ a → H' b = some o) : Same H H' := fun b o e => by
  have nb : b ≠ a := fun z => by
    rw [z, n] at e
    cases e
  exact k b o (by rw [upd_ne nb]; exact e) nb

theorem ok_law {f cL c1 c2 c3 c4 c5 c6 c7 c8 c9 c10 c11 c12 c13 c14 c15 : Addr} {fd : FuncData} {k : Nat} (F0 : Fun K "law" "law" sLaw f fd) (C : Calls P w K mg base k cL c1 c2 c3 c4 c5 c6 c7 c8 c9 c10 c11 c12 c13 c14 c15) : FnG P w K mg base (k + 2) f fd ["script"] (spLaw K) := by
  obtain ⟨fD, dD, GD, gD, kD, bD⟩ := C.drw
  obtain ⟨fN, dN, GN, gN, kN, bN⟩ := C.nxt
  obtain ⟨fC, dC, GC, gC, kC, bC⟩ := C.cho
  obtain ⟨fS, dS, GS, gS, kS, bS⟩ := C.cls
  obtain ⟨fZ, dZ, GZ, gZ, kZ, bZ⟩ := C.ide
  obtain ⟨f1, d1, I1, i1, t1, b1⟩ := C.ini1
  obtain ⟨f2, d2, I2, i2, t2, b2⟩ := C.ini2
  obtain ⟨f3, d3, I3, i3, t3, b3⟩ := C.ini3
  obtain ⟨f4, d4, I4, i4, t4, b4⟩ := C.ini4
  obtain ⟨f5, d5, I5, i5, t5, b5⟩ := C.ini5
  have g1 := C.g1
  have g2 := C.g2
  have g3 := C.g3
  have g4 := C.g4
  have g5 := C.g5
  have g6 := C.g6
  have g7 := C.g7
  have g8 := C.g8
  have g9 := C.g9
  have g10 := C.g10
  have g11 := C.g11
  have g12 := C.g12
  have g13 := C.g13
  have g14 := C.g14
  have g15 := C.g15
  have T1 := C.T1
  have T2 := C.T2
  have T3 := C.T3
  have T4 := C.T4
  have T5 := C.T5
  have x6 := C.x6
  have kk6 := C.kk6
  have x7 := C.x7
  have kk7 := C.kk7
  have x8 := C.x8
  have kk8 := C.kk8
  have x9 := C.x9
  have kk9 := C.kk9
  have x10 := C.x10
  have kk10 := C.kk10
  have x11 := C.x11
  have kk11 := C.kk11
  have x12 := C.x12
  have kk12 := C.kk12
  have x13 := C.x13
  have kk13 := C.kk13
  have x14 := C.x14
  have kk14 := C.kk14
  have x15 := C.x15
  have kk15 := C.kk15
  have mr := C.range
  have ml := C.len
  have mis := C.isi
  have mVE := C.VE
  have me := C.enu
  have gL := C.gL
  have GD : FnOk P w K mg base CX0 (k + 1) fD dD ["script"] (spDrw K) := GD.mono (by omega)
  have GN : FnOk P w K mg base CX0 (k + 1) fN dN ["source", "bound"] spNxt := GN.mono (by omega)
  have GC : FnOk P w K mg base CX0 (k + 1) fC dC ["source", "items"] (spCho K) := GC.mono (by omega)
  have GS : FnOk P w K mg base CX0 (k + 1) fS dS ["error"] (spCls K c1 c2 c3 c4 c5 c6 c7 c8 c9 c10 c11 c12 c13 c14 c15) := GS.mono (by omega)
  have GZ : FnG P w K mg base (k + 1) fZ dZ ["found", "expected"] (spIde K) := GZ.up (by omega)
  refine Fun_okG F0 scLaw (fun vs H Q E h => ?_) (fun cdv B below s H vs Q E hg hr h => ?_)
  · obtain ⟨a, ns, rfl, _⟩ := h
    rfl
  · obtain ⟨a, ns, rfl, hS, hlen, q⟩ := h
    refine ⟨_, (pss_cons (ps_set (i := 1) scLaw.nd rfl (.inr rfl) (pe_call GD hr (by rfl) gD kD bD .nil pass0 (pa_cons (pv 0) pa_nil)))
        (C8.pss_cut (ps_asg (pe_lc (own := [("turn", 12)]) (g := gName 12) (tt := tYes) (by rfl) scLaw.nd (pi_range1 rfl mr (pa_cons pe_int pa_nil)) (blkOk_by (N := nLaw) (sc := defScope sLaw) (by decide +kernel)) (fun _ _ _ _ _ => pg_name (i := 12) scLaw.nd rfl (.inl rfl)) (fun _ _ _ _ _ => pts_nil) (fun _ _ _ _ _ => pe_call GN hr (by rfl) gN kN bN .nil pass0 (pa_cons (pv 1) (pa_cons (pe_int) pa_nil)))) (pg_lst rfl (pgs_cons (pg_name (i := 2) scLaw.nd rfl (.inl rfl)) (pgs_cons (pg_name (i := 3) scLaw.nd rfl (.inl rfl)) (pgs_cons (pg_name (i := 4) scLaw.nd rfl (.inl rfl)) (pgs_cons (pg_name (i := 5) scLaw.nd rfl (.inl rfl)) pgs_nil))))))
        (pss_cons (ps_set (i := 6) scLaw.nd rfl (.inl rfl) (pe_call GC hr (by rfl) gC kC bC .nil pass0 (pa_cons (pv 1) (pa_cons (pe_lst (pa_cons (pe_str) (pa_cons (pe_str) (pa_cons (pe_str) pa_nil)))) pa_nil))))
        (C8.pss_cut (ps_set (i := 7) scLaw.nd rfl (.inl rfl) (pe_call GC hr (by rfl) gC kC bC .nil pass0 (pa_cons (pv 1) (pa_cons (pe_lst (pa_cons (pe_str) (pa_cons (pe_str) (pa_cons (pe_str) pa_nil)))) pa_nil))))
        (C8.pss_cut (ps_set (i := 8) scLaw.nd rfl (.inl rfl) (pe_lst (pa_cons (pe_mkErr T1 i1 t1 I1 hr b1 (by rfl) g1 (pa_cons (pv 2) (pa_cons (pv 3) pa_nil))) (pa_cons (pe_mkErr T2 i2 t2 I2 hr b2 (by rfl) g2 (pa_cons (pv 4) pa_nil)) (pa_cons (pe_mkErr T3 i3 t3 I3 hr b3 (by rfl) g3 (pa_cons (pv 4) pa_nil)) (pa_cons (pe_mkErr T4 i4 t4 I4 hr b4 (by rfl) g4 (pa_cons (pv 5) pa_nil)) (pa_cons (pe_mkErr T5 i5 t5 I5 hr b5 (by rfl) g5 (pa_cons (pv 6) pa_nil)) pa_nil)))))))
        (C8.pss_cut (ps_set (i := 8) scLaw.nd rfl (.inl rfl) (pe_op op_cat (pv 8) (pe_lst (pa_cons (pe_exc1 PySem.F.excBase_ValueError x6 g6 kk6 (by rfl) (pv 7)) (pa_cons (pe_exc1 PySem.F.excBase_ValueError x7 g7 kk7 (by rfl) (pv 7)) (pa_cons (pe_exc1 PySem.F.excBase_ValueError x8 g8 kk8 (by rfl) (pv 7)) (pa_cons (pe_exc1 PySem.F.excBase_ValueError x9 g9 kk9 (by rfl) (pv 7)) (pa_cons (pe_exc1 PySem.F.excBase_ValueError x10 g10 kk10 (by rfl) (pv 7)) pa_nil))))))))
        (C8.pss_cut (ps_set (i := 8) scLaw.nd rfl (.inl rfl) (pe_op op_cat (pv 8) (pe_lst (pa_cons (pe_exc1 PySem.F.excBase_ValueError x11 g11 kk11 (by rfl) (pv 7)) (pa_cons (pe_exc1 PySem.F.excBase_ValueError x12 g12 kk12 (by rfl) (pv 7)) (pa_cons (pe_exc1 PySem.F.excBase_ValueError x13 g13 kk13 (by rfl) (pv 7)) (pa_cons (pe_exc1 PySem.F.excBase_ValueError x14 g14 kk14 (by rfl) (pv 7)) (pa_cons (pe_exc1 PySem.F.excBase_ValueError x15 g15 kk15 (by rfl) (pv 7)) pa_nil))))))))
        (C8.pss_cut (ps_for PassesOwn.never rfl (pi_enum (by rfl) me (pa_cons (pv 8) pa_nil)) (pg_tup rfl (pgs_cons (pg_name (i := 9) scLaw.nd rfl (.inr rfl)) (pgs_cons (pg_name (i := 10) scLaw.nd rfl (.inl rfl)) pgs_nil))) (pss_cons (ps_if (pt_cmpR (op_neD hr.units) (pe_call GS hr (by rfl) gS kS bS .nil pass0 (pa_cons (pv 10) pa_nil)) (pe_lc (own := [("other", 13)]) (g := gName 13) (tt := tYes) (by rfl) scLaw.nd (pi_range1 rfl mr (pa_cons (pe_callB call_len_seq (by rfl) ml PySem.boot_len (pa_cons (pv 8) pa_nil)) pa_nil)) (blkOk_by (N := nLaw) (sc := defScope sLaw) (by decide +kernel)) (fun _ _ _ _ _ => pg_name (i := 13) scLaw.nd rfl (.inl rfl)) (fun _ _ _ _ _ => pts_nil) (fun _ _ _ _ _ => pe_cmpR op_eq (pv 9) (pv 13) (nomark _))) (nomark _)) (pss_one (ps_ret (pe_bl))) pss_nil)
        (pss_one (ps_if (PW.pt (pw_or (pt_not (pt_val (pe_callB call_isV (by rfl) mis (by decide +kernel) (pa_cons (pv 10) (pa_cons (pe_glob (v := .ref cL) (by rfl) gL rfl) pa_nil))))) (pw_or1 (pt_not (pt_val (pe_callB call_isV (by rfl) mis (by decide +kernel) (pa_cons (pv 10) (pa_cons (pe_bltn (v := .ty "ValueError") (by rfl) mVE (by decide +kernel) rfl) pa_nil)))))))) (pss_one (ps_ret (pe_bl))) pss_nil))))
        (pss_cons (ps_set (i := 11) scLaw.nd rfl (.inl rfl) (pe_lst (pa_cons (pe_fldE (pe_ix ix_list (pv 8) pe_int (fun _ _ => rfl))) (pa_cons (pe_fldE (pe_ix ix_list (pv 8) pe_int (fun _ _ => rfl))) (pa_cons (pe_fldE (pe_ix ix_list (pv 8) pe_int (fun _ _ => rfl))) (pa_cons (pe_fldE (pe_ix ix_list (pv 8) pe_int (fun _ _ => rfl))) (pa_cons (pe_fldE (pe_ix ix_list (pv 8) pe_int (fun _ _ => rfl))) (pa_cons (pe_fldE (pe_ix ix_list (pv 8) pe_int (fun _ _ => rfl))) pa_nil))))))))
        (pss_one (ps_ret (pe_g GZ hg hr (by rfl) gZ kZ bZ (pa_cons (pv 11) (pa_cons (pe_lst (pa_cons (pv 2) (pa_cons (pv 3) (pa_cons (pv 4) (pa_cons (pv 4) (pa_cons (pv 5) (pa_cons (pv 6) pa_nil))))))) pa_nil)))))))))))))), ?_⟩
    have three : 3 ≤ sizeLine := by show 3 ≤ sizeLine; decide
    have five : 5 ≤ sizeLine := by show 5 ≤ sizeLine; decide
    have six : 6 ≤ sizeLine := by show 6 ≤ sizeLine; decide
    refine ⟨_, rfl, a, ns, rfl, hS, hlen, fun H0 src n sm0 nsrc nn hsrc => ?_⟩
    -- four numbers
    refine ⟨fun σ H' => ∃ l0 l1 l2 l3 : Int, (∀ z ∈ [l0, l1, l2, l3], z.natAbs < 2 ^ 200) ∧ σ = [some (.ref a), some (.ref src), some (.int l0), some (.int l1), some (.int l2), some (.int l3), none, none, none, none, none, none, none, none] ∧ Src H' src n, ?_, ?_⟩
    · refine ⟨4, rfl, by decide, by decide, fun D nD => ?_⟩
      have hDs : D ≠ src := hsrc.has nD
      refine lc_range (n := 4) (fun i H' => ∃ vs : List V, Stp src n H0 H' ∧ H' D = some (.lst vs) ∧ vs.length = i ∧ ∀ v ∈ vs, ∃ z : Int, v = .int z ∧ z.natAbs < 2 ^ 200) ?_ ?_ ?_
      · exact ⟨[], .of hsrc (same_upd nD), upd_same, rfl, by simp⟩
      · rintro i H3 hi ⟨vs, s3, hD, hl, hv⟩
        refine ⟨rfl, _, rfl, src, n, _, rfl, s3.1, by decide, by decide, fun r H4 hr0 hr1 s4 => ?_⟩
        have hD4 := s4.2 _ _ hD hDs
        refine ⟨vs, hD4, by rw [hl]; exact small1000 (by omega), vs ++ [.int r], (s3.trans s4).upd hsrc nD, upd_same, by rw [List.length_append, hl]; rfl, fun v hv' => ?_⟩
        rcases List.mem_append.mp hv' with h | h
        · exact hv v h
        · have hr2 : r < 1000 := hr1
          exact ⟨r, List.mem_singleton.mp h, by omega⟩
      · rintro H3 ⟨vs, s3, hD, hl, hv⟩
        obtain ⟨v0, v1, v2, v3, rfl⟩ : ∃ v0 v1 v2 v3, vs = [v0, v1, v2, v3] := by
          match vs, hl with
          | [v0, v1, v2, v3], _ => exact ⟨v0, v1, v2, v3, rfl⟩
        obtain ⟨l0, rfl, h0⟩ := hv v0 (by simp)
        obtain ⟨l1, rfl, h1⟩ := hv v1 (by simp)
        obtain ⟨l2, rfl, h2⟩ := hv v2 (by simp)
        obtain ⟨l3, rfl, h3⟩ := hv v3 (by simp)
        refine ⟨D, _, rfl, .inl (.inl hD), rfl, _, _, rfl, _, _, rfl, _, _, rfl, _, _, rfl, rfl, l0, l1, l2, l3, ?_, rfl, s3.1⟩
        intro z hz
        simp at hz
        rcases hz with rfl | rfl | rfl | rfl
        · exact h0
        · exact h1
        · exact h2
        · exact h3
    · rintro σ H1 ⟨l0, l1, l2, l3, hl, rfl, hs1⟩
      have h0 := fld_int (hl l0 (by simp))
      have h1 := fld_int (hl l1 (by simp))
      have h2 := fld_int (hl l2 (by simp))
      have h3 := fld_int (hl l3 (by simp))
      refine ⟨_, rfl, three, fun p np => ⟨src, n, p, _, rfl, hs1.same (same_upd np), .inl (.inl upd_same), hs1.has np, by simp, by simp, fun v H2 hv s2 => ?_⟩⟩
      obtain ⟨nm, rfl, hnm, hnr⟩ : ∃ x : Str, v = .str x ∧ x.length ≤ 100 ∧ (reprText x).length ≤ 200 := by
        simp at hv
        rcases hv with rfl | rfl | rfl
        · exact ⟨_, rfl, by decide +kernel, by decide +kernel⟩
        · exact ⟨_, rfl, by decide +kernel, by decide +kernel⟩
        · exact ⟨_, rfl, by decide +kernel, by decide +kernel⟩
      have h4 : Fld (.str nm) := .inr ⟨nm, rfl, hnm⟩
      have hs2 := s2.1
      refine ⟨fun σ H' => ∃ tx : Str, σ = [some (.ref a), some (.ref src), some (.int l0), some (.int l1), some (.int l2), some (.int l3), some (.str nm), some (.str tx), none, none, none, none, none, none], ?_, ?_⟩
      · refine ⟨_, rfl, three, fun p np => ⟨src, n, p, _, rfl, hs2.same (same_upd np), .inl (.inl upd_same), hs2.has np, by simp, by simp, fun v H3 hv s3 => ?_⟩⟩
        simp at hv
        rcases hv with rfl | rfl | rfl
        · exact ⟨_, rfl⟩
        · exact ⟨_, rfl⟩
        · exact ⟨_, rfl⟩
      · rintro σ H3 ⟨tx, rfl⟩
        -- the first five
        refine ⟨fun σ H' => ∃ l e1 e2 e3 e4 e5 : Addr, σ = [some (.ref a), some (.ref src), some (.int l0), some (.int l1), some (.int l2), some (.int l3), some (.str nm), some (.str tx), some (.ref l), none, none, none, none, none] ∧ H' l = some (.lst [.ref e1, .ref e2, .ref e3, .ref e4, .ref e5]) ∧ Five H' c1 c2 c3 c4 c5 e1 e2 e3 e4 e5 l0 l1 l2 l3 nm, ?_, ?_⟩
        · refine ⟨_, rfl, _, rfl, by simp, fun e1 ne1 => ⟨e1, [.int l0, .int l1], rfl, rfl, fld2 h0 h1, upd_same, fun H4 q1 k4 nq1 a4 b4 => ⟨rfl, ?_⟩⟩⟩
          refine ⟨_, rfl, by simp, fun e2 ne2 => ⟨e2, [.int l2], rfl, rfl, fld1 h2, upd_same, fun H5 q2 k5 nq2 a5 b5 => ⟨rfl, ?_⟩⟩⟩
          have s5 : Same H4 H5 := mk_same ne2 k5
          refine ⟨_, rfl, by simp, fun e3 ne3 => ⟨e3, [.int l2], rfl, rfl, fld1 h2, upd_same, fun H6 q3 k6 nq3 a6 b6 => ⟨rfl, ?_⟩⟩⟩
          have s6 : Same H5 H6 := mk_same ne3 k6
          refine ⟨_, rfl, by simp, fun e4 ne4 => ⟨e4, [.int l3], rfl, rfl, fld1 h3, upd_same, fun H7 q4 k7 nq4 a7 b7 => ⟨rfl, ?_⟩⟩⟩
          have s7 : Same H6 H7 := mk_same ne4 k7
          refine ⟨_, rfl, by simp, fun e5 ne5 => ⟨e5, [.str nm], rfl, rfl, fld1 h4, upd_same, fun H8 q5 k8 nq5 a8 b8 => ⟨rfl, ?_⟩⟩⟩
          have s8 : Same H7 H8 := mk_same ne5 k8
          refine ⟨five, fun l nl => ?_⟩
          have s9 := same_upd (o := .lst [.ref e1, .ref e2, .ref e3, .ref e4, .ref e5]) nl
          have r8 := s8.trans s9
          have r7 := s7.trans r8
          have r6 := s6.trans r7
          have r5 := s5.trans r6
          exact ⟨l, e1, e2, e3, e4, e5, rfl, upd_same, ⟨q1, r5 _ _ a4, r5 _ _ b4⟩, ⟨q2, r6 _ _ a5, r6 _ _ b5⟩, ⟨q3, r7 _ _ a6, r7 _ _ b6⟩, ⟨q4, r8 _ _ a7, r8 _ _ b7⟩, ⟨q5, s9 _ _ a8, s9 _ _ b8⟩⟩
        · rintro σ H4 ⟨l, e1, e2, e3, e4, e5, rfl, hl4, hF4⟩
          refine ⟨fun σ H' => ∃ l e6 e7 e8 e9 e10 : Addr, σ = [some (.ref a), some (.ref src), some (.int l0), some (.int l1), some (.int l2), some (.int l3), some (.str nm), some (.str tx), some (.ref l), none, none, none, none, none] ∧ H' l = some (.lst [.ref e1, .ref e2, .ref e3, .ref e4, .ref e5, .ref e6, .ref e7, .ref e8, .ref e9, .ref e10]) ∧ Five H' c1 c2 c3 c4 c5 e1 e2 e3 e4 e5 l0 l1 l2 l3 nm ∧ Errs H' [e6, e7, e8, e9, e10] [c6, c7, c8, c9, c10], ?_, ?_⟩
          · refine ⟨_, rfl, ?_⟩
            refine ⟨_, rfl, fun e6 n6 => ?_⟩
            have t6 := same_upd (o := ExO (.ref c6) e6) n6
            refine ⟨_, rfl, fun e7 n7 => ?_⟩
            have t7 := same_upd (o := ExO (.ref c7) e7) n7
            refine ⟨_, rfl, fun e8 n8 => ?_⟩
            have t8 := same_upd (o := ExO (.ref c8) e8) n8
            refine ⟨_, rfl, fun e9 n9 => ?_⟩
            have t9 := same_upd (o := ExO (.ref c9) e9) n9
            refine ⟨_, rfl, fun e10 n10 => ?_⟩
            have t10 := same_upd (o := ExO (.ref c10) e10) n10
            refine ⟨five, fun m nm' => ?_⟩
            have t11 := same_upd (o := .lst [.ref e6, .ref e7, .ref e8, .ref e9, .ref e10]) nm'
            have r11 := t11
            have r10 := t10.trans r11
            have r9 := t9.trans r10
            have r8 := t8.trans r9
            have r7 := t7.trans r8
            have r6 := t6.trans r7
            refine ⟨l, m, _, _, rfl, rfl, r6 _ _ hl4, upd_same, by show 10 ≤ sizeLine; decide, fun l' nl' => ?_⟩
            have z := same_upd (o := .lst ([.ref e1, .ref e2, .ref e3, .ref e4, .ref e5] ++ [.ref e6, .ref e7, .ref e8, .ref e9, .ref e10])) nl'
            exact ⟨l', e6, e7, e8, e9, e10, rfl, upd_same, hF4.same (r6.trans z), (.cons (ErrAt.same err_new (r7.trans z)) (.cons (ErrAt.same err_new (r8.trans z)) (.cons (ErrAt.same err_new (r9.trans z)) (.cons (ErrAt.same err_new (r10.trans z)) (.cons (ErrAt.same err_new (r11.trans z)) .nil)))))⟩
          · rintro σ H5 ⟨l, e6, e7, e8, e9, e10, rfl, hl5, hF5, hE5⟩
            refine ⟨fun σ H' => ∃ l e11 e12 e13 e14 e15 : Addr, σ = [some (.ref a), some (.ref src), some (.int l0), some (.int l1), some (.int l2), some (.int l3), some (.str nm), some (.str tx), some (.ref l), none, none, none, none, none] ∧ H' l = some (.lst [.ref e1, .ref e2, .ref e3, .ref e4, .ref e5, .ref e6, .ref e7, .ref e8, .ref e9, .ref e10, .ref e11, .ref e12, .ref e13, .ref e14, .ref e15]) ∧ Five H' c1 c2 c3 c4 c5 e1 e2 e3 e4 e5 l0 l1 l2 l3 nm ∧ Errs H' [e6, e7, e8, e9, e10, e11, e12, e13, e14, e15] [c6, c7, c8, c9, c10, c11, c12, c13, c14, c15], ?_, ?_⟩
            · refine ⟨_, rfl, ?_⟩
              refine ⟨_, rfl, fun e11 n11 => ?_⟩
              have t11 := same_upd (o := ExO (.ref c11) e11) n11
              refine ⟨_, rfl, fun e12 n12 => ?_⟩
              have t12 := same_upd (o := ExO (.ref c12) e12) n12
              refine ⟨_, rfl, fun e13 n13 => ?_⟩
              have t13 := same_upd (o := ExO (.ref c13) e13) n13
              refine ⟨_, rfl, fun e14 n14 => ?_⟩
              have t14 := same_upd (o := ExO (.ref c14) e14) n14
              refine ⟨_, rfl, fun e15 n15 => ?_⟩
              have t15 := same_upd (o := ExO (.ref c15) e15) n15
              refine ⟨five, fun m nm' => ?_⟩
              have t16 := same_upd (o := .lst [.ref e11, .ref e12, .ref e13, .ref e14, .ref e15]) nm'
              have r16 := t16
              have r15 := t15.trans r16
              have r14 := t14.trans r15
              have r13 := t13.trans r14
              have r12 := t12.trans r13
              have r11 := t11.trans r12
              refine ⟨l, m, _, _, rfl, rfl, r11 _ _ hl5, upd_same, by show 15 ≤ sizeLine; decide, fun l' nl' => ?_⟩
              have z := same_upd (o := .lst ([.ref e1, .ref e2, .ref e3, .ref e4, .ref e5, .ref e6, .ref e7, .ref e8, .ref e9, .ref e10] ++ [.ref e11, .ref e12, .ref e13, .ref e14, .ref e15])) nl'
              exact ⟨l', e11, e12, e13, e14, e15, rfl, upd_same, hF5.same (r11.trans z), errs_app (hE5.same (r11.trans z)) (.cons (ErrAt.same err_new (r12.trans z)) (.cons (ErrAt.same err_new (r13.trans z)) (.cons (ErrAt.same err_new (r14.trans z)) (.cons (ErrAt.same err_new (r15.trans z)) (.cons (ErrAt.same err_new (r16.trans z)) .nil)))))⟩
            · rintro σ H6 ⟨l, e11, e12, e13, e14, e15, rfl, hl6, hF6, hE6⟩
              have hA : Errs H6 [e1, e2, e3, e4, e5, e6, e7, e8, e9, e10, e11, e12, e13, e14, e15] [c1, c2, c3, c4, c5, c6, c7, c8, c9, c10, c11, c12, c13, c14, c15] := errs_app hF6.errs hE6
              have hl6 : H6 l = some (.lst ([e1, e2, e3, e4, e5, e6, e7, e8, e9, e10, e11, e12, e13, e14, e15].map V.ref)) := hl6
              refine ⟨fun σ H' => ∃ y9 y10 : Option V, σ = [some (.ref a), some (.ref src), some (.int l0), some (.int l1), some (.int l2), some (.int l3), some (.str nm), some (.str tx), some (.ref l), y9, y10, none, none, none] ∧ Same H6 H', ?_, ?_⟩
              · generalize hAs : [e1, e2, e3, e4, e5, e6, e7, e8, e9, e10, e11, e12, e13, e14, e15] = as at hA hl6
                have hal : as.length = 15 := by rw [← hAs]; rfl
                refine ⟨_, rfl, l, as.map V.ref, rfl, .inl (.inl hl6), for_enum (K := K) (a := l) (xs := as.map V.ref) (fun i σ H' => ∃ y9 y10 : Option V, σ = [some (.ref a), some (.ref src), some (.int l0), some (.int l1), some (.int l2), some (.int l3), some (.str nm), some (.str tx), some (.ref l), y9, y10, none, none, none] ∧ Same H6 H') ⟨_, _, rfl, Same.refl _⟩ ?_ ?_ ?_⟩
                · rintro i σ H' _ ⟨_, _, _, s⟩
                  exact .inl (.inl (s _ _ hl6))
                · rintro i x σ H7 T hx ⟨y9, y10, rfl, s7⟩ nT
                  obtain ⟨e, he, rfl⟩ : ∃ e, as[i]? = some e ∧ x = .ref e := by
                    rw [List.getElem?_map] at hx
                    cases h : as[i]? with
                    | none => rw [h] at hx; cases hx
                    | some e => rw [h] at hx; exact ⟨e, rfl, (Option.some.inj hx).symm⟩
                  obtain ⟨D, hD, hED⟩ := errs_at hA he
                  have kv := C.kv i D hD
                  have s8 := s7.trans (same_upd (o := .tup [.int (i : Nat), .ref e]) nT)
                  refine ⟨T, _, rfl, .inl (.inl upd_same), rfl, _, _, rfl, _, _, rfl, rfl, ?_⟩
                  generalize upd H7 T (.tup [.int (i : Nat), .ref e]) = H8 at s8 ⊢
                  refine ⟨_, rfl, e, D, decide (i = 0), decide (i = 1), decide (i = 2), decide (i = 3), decide (i = 4), decide (i = 5), decide (i = 6), decide (i = 7), decide (i = 8), decide (i = 9), decide (i = 10), decide (i = 11), decide (i = 12), decide (i = 13), decide (i = 14), rfl, hED.same s8, kv.ec, ⟨kv.ks 0 c1 rfl, kv.ks 1 c2 rfl, kv.ks 2 c3 rfl, kv.ks 3 c4 rfl, kv.ks 4 c5 rfl, kv.ks 5 c6 rfl, kv.ks 6 c7 rfl, kv.ks 7 c8 rfl, kv.ks 8 c9 rfl, kv.ks 9 c10 rfl, kv.ks 10 c11 rfl, kv.ks 11 c12 rfl, kv.ks 12 c13 rfl, kv.ks 13 c14 rfl, kv.ks 14 c15 rfl⟩, fun p H9 s9 hp => ?_⟩
                  have s10 := s8.trans s9
                  refine ⟨_, rfl, l, _, rfl, .inl (.inl (.inl (s10 _ _ hl6))), 15, by rw [List.length_map, hal]; rfl, by decide, by decide, fun D2 nD2 => ?_⟩
                  have hpD : p ≠ D2 := fun z => by
                    rw [z, nD2] at hp
                    cases hp
                  refine lc_range (n := 15) (fun j H' => Same H9 H' ∧ H' D2 = some (.lst (((List.range j).map fun m => decide (i = m)).map V.bl))) ?_ ?_ ?_
                  · exact ⟨same_upd nD2, upd_same⟩
                  · rintro j H10 hj ⟨sj, hj2⟩
                    refine ⟨rfl, _, rfl, _, rfl, rfl, _, hj2, by simp; exact small1000 (by omega), same_upd_none sj nD2, ?_⟩
                    rw [upd_same, dec_int, List.range_succ, List.map_append, List.map_append]
                    rfl
                  · rintro H10 ⟨sj, hj2⟩
                    refine ⟨_, _, bl_dp (sj _ _ hp), bl_dp hj2, bl_shaped _, bl_shaped _, _, rfl, ?_⟩
                    rw [show [decide (i = 0), decide (i = 1), decide (i = 2), decide (i = 3), decide (i = 4), decide (i = 5), decide (i = 6), decide (i = 7), decide (i = 8), decide (i = 9), decide (i = 10), decide (i = 11), decide (i = 12), decide (i = 13), decide (i = 14)] = (List.range 15).map (fun m => decide (i = m)) from rfl, bl_ne]
                    have s11 := s10.trans sj
                    refine iteF ?_
                    refine ⟨_, rfl, e, D, _, _, true, rfl, hED.same s11, kv.ec, .own cL, kv.lr, _, rfl, iteF ⟨_, rfl, e, D, _, _, true, rfl, hED.same s11, kv.ec, .ty "ValueError", kv.ve, _, rfl, iteF ?_⟩⟩
                    exact ⟨_, _, rfl, s11⟩
                · rintro σ H' ⟨y9, y10, rfl, s⟩
                  exact ⟨_, _, rfl, s⟩
              · rintro σ H7 ⟨y9, y10, rfl, s7⟩
                obtain ⟨⟨q1, a1, b1⟩, ⟨q2, a2, b2⟩, ⟨q3, a3, b3⟩, ⟨q4, a4, b4⟩, ⟨q5, a5, b5⟩⟩ := hF6.same s7
                have hl7 := s7 _ _ hl6
                refine ⟨_, rfl, l, _, 0, _, rfl, rfl, .inl (.inl hl7), atI_nat (j := 0) rfl, e1, c1, q1, _, _, rfl, a1, b1, C.X1, C.nline1, rfl, _, rfl, l, _, 0, _, rfl, rfl, .inl (.inl hl7), atI_nat (j := 0) rfl, e1, c1, q1, _, _, rfl, a1, b1, C.X1, C.ncolumn1, rfl, _, rfl, l, _, 1, _, rfl, rfl, .inl (.inl hl7), atI_nat (j := 1) rfl, e2, c2, q2, _, _, rfl, a2, b2, C.X2, C.nindex2, rfl, _, rfl, l, _, 2, _, rfl, rfl, .inl (.inl hl7), atI_nat (j := 2) rfl, e3, c3, q3, _, _, rfl, a3, b3, C.X3, C.nindex3, rfl, _, rfl, l, _, 3, _, rfl, rfl, .inl (.inl hl7), atI_nat (j := 3) rfl, e4, c4, q4, _, _, rfl, a4, b4, C.X4, C.nlimit4, rfl, _, rfl, l, _, 4, _, rfl, rfl, .inl (.inl hl7), atI_nat (j := 4) rfl, e5, c5, q5, _, _, rfl, a5, b5, C.X5, C.nname5, rfl, six, fun lf nlf => ?_⟩
                refine ⟨_, rfl, _, rfl, _, rfl, _, rfl, _, rfl, _, rfl, _, rfl, six, fun l2' nl2 => ?_⟩
                have all : ∀ {H : Hp}, DpAll K H [.int l0, .int l1, .int l2, .int l2, .int l3, .str nm] [.int l0, .int l1, .int l2, .int l2, .int l3, .str nm] := .cons (.int _) (.cons (.int _) (.cons (.int _) (.cons (.int _) (.cons (.int _) (.cons (.str _) .nil)))))
                refine ⟨_, _, .list [.int l0, .int l1, .int l2, .int l2, .int l3, .str nm], rfl, .lst (.inl (.inl (same_upd nl2 _ _ upd_same))) all, .lst (.inl (.inl upd_same)) all, ?_, q _⟩
                exact (Sd.lst (.cons (.int (hl l0 (by simp))) (.cons (.int (hl l1 (by simp))) (.cons (.int (hl l2 (by simp))) (.cons (.int (hl l2 (by simp))) (.cons (.int (hl l3 (by simp))) (.cons (.str hnr) (SdA.nil (k := 0) (n := 0))))))))).shn (by decide) (by decide)
end
end Lim
set_option maxHeartbeats 8000000
namespace Lim
open PySem PySem.Spec PyProof.Rows L2
/-- what the text of a class directly under LimitRunError says -/
structure ClsF (K : PySem.W.Frag) (cL C : Addr) : Prop where
  lk : ∃ (nm q : Str) (N : Addr) (bs : List Value) (sn : List Str) (sub : List Value) (ab : Bool) (col : Option Bool) (dd : Option Addr) (k0 k1 k2 k3 k5 : Option Value), K.lookup C = some (excClassObj nm q C N bs [.ref cL, .type "ValueError", .type "Exception", .type "BaseException", .type "object"] true sn sub ab col dd k0 k1 k2 k3 k5 "ValueError.__new__")
  ga : PySem.W.findIn K (.ref C) "__getattribute__" = some (some (.builtin "BaseException.__getattribute__"))
  gg : PySem.W.findIn K (.ref C) "__getattr__" = some none
  gc : PySem.W.findIn K (.ref C) "__class__" = some (some (.builtin "object.__class__"))
section
variable {K : PySem.W.Frag} {cL C D : Addr}
theorem ClsF.ty (F : ClsF K cL C) : PySem.W.typeIn K (.ref C) = some (.type "type") := by
  obtain ⟨nm, q, N, bs, sn, sub, ab, col, dd, k0, k1, k2, k3, k5, h⟩ := F.lk
  show (K.lookup C).map (·.cls) = _
  rw [h]
  rfl
theorem ClsF.hd (F : ClsF K cL C) : PySem.W.hasDictIn K C = true := by
  obtain ⟨nm, q, N, bs, sn, sub, ab, col, dd, k0, k1, k2, k3, k5, h⟩ := F.lk
  unfold PySem.W.hasDictIn PySem.W.clsIn
  rw [h]
  rfl
theorem ClsF.mro (F : ClsF K cL C) (v : Value) : PySem.W.mroIn K C v = some ((Value.ref C :: [.ref cL, .type "ValueError", .type "Exception", .type "BaseException", .type "object"]).contains v) := by
  obtain ⟨nm, q, N, bs, sn, sub, ab, col, dd, k0, k1, k2, k3, k5, h⟩ := F.lk
  unfold PySem.W.mroIn PySem.W.clsIn
  rw [h]
  rfl
theorem ClsF.sub (F : ClsF K cL C) (v : Value) : PySem.W.subIn K (.ref C) v = some ((Value.ref C :: [.ref cL, .type "ValueError", .type "Exception", .type "BaseException", .type "object"]).contains v) := F.mro v
theorem ClsF.no (F : ClsF K cL C) (h1 : C ≠ D) (h2 : cL ≠ D) : PySem.W.subIn K (.ref C) (.ref D) = some false := by
  rw [F.sub]
  have e1 : ¬ D = C := Ne.symm h1
  have e2 : ¬ D = cL := Ne.symm h2
  simp [e1, e2]
theorem ClsF.ec (F : ClsF K cL C) (wn : PySem.W.specialIn K (.builtin "object.__class__") "__get__" = some (some (.builtin "getset_descriptor.__get__"))) (wt : PySem.W.takesIn K (.builtin "object.__class__") = some true) : ExcC K C :=
  ⟨F.ga, F.gg, (F.sub _).trans (by simp), F.hd, F.gc, wn, wt, (F.mro _).trans (by simp)⟩
theorem ClsF.oex (F : ClsF K cL C) (sa : PySem.W.findIn K (.ref C) "__setattr__" = some (some (.builtin "object.__setattr__"))) (kC : PySem.W.keepIn K (.ref C) = true) : OexC K C := by
  refine ⟨?_, sa, (F.sub _).trans (by simp), F.ty, kC⟩
  obtain ⟨nm, q, N, bs, sn, sub, ab, col, dd, k0, k1, k2, k3, k5, h⟩ := F.lk
  exact ⟨nm, q, N, bs, _, sn, sub, ab, col, dd, k0, k1, k2, k3, k5, h, rfl⟩
theorem ClsF.xf (F : ClsF K cL C) : XfC K C := ⟨F.ga, F.gg, (F.sub _).trans (by simp), F.hd⟩
theorem nodup_ne {l : List Addr} (h : l.Nodup) {i j : Nat} {a b : Addr} (hi : l[i]? = some a) (hj : l[j]? = some b) (n : i ≠ j) : a ≠ b := fun e => by
  subst e
  obtain ⟨h1, e1⟩ := List.getElem?_eq_some_iff.mp hi
  obtain ⟨h2, e2⟩ := List.getElem?_eq_some_iff.mp hj
  have P := List.pairwise_iff_getElem.mp h
  rcases Nat.lt_or_gt_of_ne n with g | g
  · exact P i j h1 h2 g (e1.trans e2.symm)
  · exact P j i h2 h1 g (e2.trans e1.symm)
theorem kv_of {cs : List Addr} (A : ∀ D ∈ cs, ClsF K cL D) (TL : PySem.W.typeIn K (.ref cL) = some (.type "type")) (DL : PySem.W.hasDictIn K cL = true) (nd : (cL :: cs).Nodup) (wn : PySem.W.specialIn K (.builtin "object.__class__") "__get__" = some (some (.builtin "getset_descriptor.__get__"))) (wt : PySem.W.takesIn K (.builtin "object.__class__") = some true)
    (i : Nat) (C : Addr) (h : cs[i]? = some C) : KitV K cL cs i C := by
  have F := A C (List.mem_of_getElem? h)
  have nC : cL ≠ C := nodup_ne nd (i := 0) (j := i + 1) rfl (by simpa using h) (by omega)
  refine ⟨F.ec wn wt, kit_ref (Ne.symm nC) DL TL ((F.sub _).trans (by simp)), kit_type (by decide +kernel) ((F.sub _).trans (by simp)), fun j D hj => ?_⟩
  have nD : cL ≠ D := nodup_ne nd (i := 0) (j := j + 1) rfl (by simpa using hj) (by omega)
  by_cases e : i = j
  · subst e
    rw [h] at hj
    cases hj
    rw [decide_eq_true rfl]
    exact kit_same
  · rw [decide_eq_false e]
    have G := A D (List.mem_of_getElem? hj)
    have ne : C ≠ D := nodup_ne nd (i := i + 1) (j := j + 1) (by simpa using h) (by simpa using hj) (by omega)
    exact kit_ref ne G.hd G.ty (F.no ne nD)
end
theorem all_mk {P : Program} {w : World} {K : PySem.W.Frag} {h : Heap} {mg : Str → Option Value} {fa f1 f2 f3 f4 f5 f6 f7 : Addr} {od1 an1 od2 an2 od3 an3 od4 an4 od5 an5 od6 an6 od7 an7 : Option Addr} {sl1 sl2 sl3 sl4 sl5 sl6 sl7 : Array (Option Value)} {oc1 kV1 dc1 pm1 cd1 ct1 oc2 kV2 dc2 pm2 cd2 ct2 oc3 kV3 dc3 pm3 cd3 ct3 oc4 kV4 dc4 pm4 cd4 ct4 oc5 kV5 dc5 pm5 cd5 ct5 oc6 kV6 dc6 pm6 cd6 ct6 oc7 kV7 dc7 pm7 cd7 ct7 : Value} {cL zc1 zc2 zc3 zc4 zc5 zc6 zc7 zc8 zc9 zc10 zc11 zc12 zc13 zc14 zc15 : Addr} {nm1 qq1 : Str} {N1 : Addr} {bs1 : List Value} {sn1 : List Str} {sb1 : List Value} {ab1 : Bool} {co1 : Option Bool} {dd1 : Option Addr} {uu1 uv1 uw1 uy1 uz1 : Option Value} {nm2 qq2 : Str} {N2 : Addr} {bs2 : List Value} {sn2 : List Str} {sb2 : List Value} {ab2 : Bool} {co2 : Option Bool} {dd2 : Option Addr} {uu2 uv2 uw2 uy2 uz2 : Option Value} {nm3 qq3 : Str} {N3 : Addr} {bs3 : List Value} {sn3 : List Str} {sb3 : List Value} {ab3 : Bool} {co3 : Option Bool} {dd3 : Option Addr} {uu3 uv3 uw3 uy3 uz3 : Option Value} {nm4 qq4 : Str} {N4 : Addr} {bs4 : List Value} {sn4 : List Str} {sb4 : List Value} {ab4 : Bool} {co4 : Option Bool} {dd4 : Option Addr} {uu4 uv4 uw4 uy4 uz4 : Option Value} {nm5 qq5 : Str} {N5 : Addr} {bs5 : List Value} {sn5 : List Str} {sb5 : List Value} {ab5 : Bool} {co5 : Option Bool} {dd5 : Option Addr} {uu5 uv5 uw5 uy5 uz5 : Option Value} {nm6 qq6 : Str} {N6 : Addr} {bs6 : List Value} {sn6 : List Str} {sb6 : List Value} {ab6 : Bool} {co6 : Option Bool} {dd6 : Option Addr} {uu6 uv6 uw6 uy6 uz6 : Option Value} {nm7 qq7 : Str} {N7 : Addr} {bs7 : List Value} {sn7 : List Str} {sb7 : List Value} {ab7 : Bool} {co7 : Option Bool} {dd7 : Option Addr} {uu7 uv7 uw7 uy7 uz7 : Option Value} {nm8 qq8 : Str} {N8 : Addr} {bs8 : List Value} {sn8 : List Str} {sb8 : List Value} {ab8 : Bool} {co8 : Option Bool} {dd8 : Option Addr} {uu8 uv8 uw8 uy8 uz8 : Option Value} {nm9 qq9 : Str} {N9 : Addr} {bs9 : List Value} {sn9 : List Str} {sb9 : List Value} {ab9 : Bool} {co9 : Option Bool} {dd9 : Option Addr} {uu9 uv9 uw9 uy9 uz9 : Option Value} {nm10 qq10 : Str} {N10 : Addr} {bs10 : List Value} {sn10 : List Str} {sb10 : List Value} {ab10 : Bool} {co10 : Option Bool} {dd10 : Option Addr} {uu10 uv10 uw10 uy10 uz10 : Option Value} {nm11 qq11 : Str} {N11 : Addr} {bs11 : List Value} {sn11 : List Str} {sb11 : List Value} {ab11 : Bool} {co11 : Option Bool} {dd11 : Option Addr} {uu11 uv11 uw11 uy11 uz11 : Option Value} {nm12 qq12 : Str} {N12 : Addr} {bs12 : List Value} {sn12 : List Str} {sb12 : List Value} {ab12 : Bool} {co12 : Option Bool} {dd12 : Option Addr} {uu12 uv12 uw12 uy12 uz12 : Option Value} {nm13 qq13 : Str} {N13 : Addr} {bs13 : List Value} {sn13 : List Str} {sb13 : List Value} {ab13 : Bool} {co13 : Option Bool} {dd13 : Option Addr} {uu13 uv13 uw13 uy13 uz13 : Option Value} {nm14 qq14 : Str} {N14 : Addr} {bs14 : List Value} {sn14 : List Str} {sb14 : List Value} {ab14 : Bool} {co14 : Option Bool} {dd14 : Option Addr} {uu14 uv14 uw14 uy14 uz14 : Option Value} {nm15 qq15 : Str} {N15 : Addr} {bs15 : List Value} {sn15 : List Str} {sb15 : List Value} {ab15 : Bool} {co15 : Option Bool} {dd15 : Option Addr} {uu15 uv15 uw15 uy15 uz15 : Option Value} {fi1 : Addr} {io1 ia1 : Option Addr} {is1 : Array (Option Value)} {ic1 iV1 id1 ip1 ie1 it1 : Value} {fi2 : Addr} {io2 ia2 : Option Addr} {is2 : Array (Option Value)} {ic2 iV2 id2 ip2 ie2 it2 : Value} {fi3 : Addr} {io3 ia3 : Option Addr} {is3 : Array (Option Value)} {ic3 iV3 id3 ip3 ie3 it3 : Value} {fi4 : Addr} {io4 ia4 : Option Addr} {is4 : Array (Option Value)} {ic4 iV4 id4 ip4 ie4 it4 : Value} {fi5 : Addr} {io5 ia5 : Option Addr} {is5 : Array (Option Value)} {ic5 iV5 id5 ip5 ie5 it5 : Value} (X : K.In h) (G : h.Ns mainGlobals mg) (hfa : mg "law" = some (.ref fa))
    (a1 : PySem.W.nsIn K mainGlobals "_law_scramble" = some (some (.ref f1))) (l1 : K.lookup f1 = some ⟨oc1, od1, .func (PySem.W.fnOf "_law_scramble" "_law_scramble" (defArgs sScr) (defBody sScr) (defScope sScr) .none kV1 dc1 pm1 an1 cd1 ct1), sl1⟩) (c1 : PySem.W.codeIn K cd1 "_law_scramble" = true) (k1 : PySem.W.keepIn K (.ref f1) = true)
    (a2 : PySem.W.nsIn K mainGlobals "_law_draws" = some (some (.ref f2))) (l2 : K.lookup f2 = some ⟨oc2, od2, .func (PySem.W.fnOf "_law_draws" "_law_draws" (defArgs sDrw) (defBody sDrw) (defScope sDrw) .none kV2 dc2 pm2 an2 cd2 ct2), sl2⟩) (c2 : PySem.W.codeIn K cd2 "_law_draws" = true) (k2 : PySem.W.keepIn K (.ref f2) = true)
    (a3 : PySem.W.nsIn K mainGlobals "_law_next" = some (some (.ref f3))) (l3 : K.lookup f3 = some ⟨oc3, od3, .func (PySem.W.fnOf "_law_next" "_law_next" (defArgs sNxt) (defBody sNxt) (defScope sNxt) .none kV3 dc3 pm3 an3 cd3 ct3), sl3⟩) (c3 : PySem.W.codeIn K cd3 "_law_next" = true) (k3 : PySem.W.keepIn K (.ref f3) = true)
    (a4 : PySem.W.nsIn K mainGlobals "_law_choose" = some (some (.ref f4))) (l4 : K.lookup f4 = some ⟨oc4, od4, .func (PySem.W.fnOf "_law_choose" "_law_choose" (defArgs sCho) (defBody sCho) (defScope sCho) .none kV4 dc4 pm4 an4 cd4 ct4), sl4⟩) (c4 : PySem.W.codeIn K cd4 "_law_choose" = true) (k4 : PySem.W.keepIn K (.ref f4) = true)
    (a5 : PySem.W.nsIn K mainGlobals "_law_identical" = some (some (.ref f5))) (l5 : K.lookup f5 = some ⟨oc5, od5, .func (PySem.W.fnOf "_law_identical" "_law_identical" (defArgs sIde) (defBody sIde) (defScope sIde) .none kV5 dc5 pm5 an5 cd5 ct5), sl5⟩) (c5 : PySem.W.codeIn K cd5 "_law_identical" = true) (k5 : PySem.W.keepIn K (.ref f5) = true)
    (a6 : PySem.W.nsIn K mainGlobals "_law_classes_of" = some (some (.ref f6))) (l6 : K.lookup f6 = some ⟨oc6, od6, .func (PySem.W.fnOf "_law_classes_of" "_law_classes_of" (defArgs sCls) (defBody sCls) (defScope sCls) .none kV6 dc6 pm6 an6 cd6 ct6), sl6⟩) (c6 : PySem.W.codeIn K cd6 "_law_classes_of" = true) (k6 : PySem.W.keepIn K (.ref f6) = true)
    (a7 : PySem.W.nsIn K mainGlobals "law" = some (some (.ref f7))) (l7 : K.lookup f7 = some ⟨oc7, od7, .func (PySem.W.fnOf "law" "law" (defArgs sLaw) (defBody sLaw) (defScope sLaw) .none kV7 dc7 pm7 an7 cd7 ct7), sl7⟩) (c7 : PySem.W.codeIn K cd7 "law" = true) (k7 : PySem.W.keepIn K (.ref f7) = true)
    (z0 : PySem.W.nsIn K mainGlobals "range" = some none)
    (z1 : PySem.W.nsIn K mainGlobals "len" = some none)
    (z2 : PySem.W.nsIn K mainGlobals "isinstance" = some none)
    (z3 : PySem.W.nsIn K mainGlobals "enumerate" = some none)
    (z4 : PySem.W.nsIn K mainGlobals "abs" = some none)
    (z5 : PySem.W.nsIn K mainGlobals "repr" = some none)
    (z6 : PySem.W.nsIn K mainGlobals "ValueError" = some none)
    (lG : PySem.W.nsIn K mainGlobals "LimitRunError" = some (some (.ref cL)))
    (lT : PySem.W.typeIn K (.ref cL) = some (.type "type"))
    (lD : PySem.W.hasDictIn K cL = true)
    (lS : PySem.W.specialIn K (.ref cL) "__getattribute__" = some (some (.builtin "type.__getattribute__")))
    (lR : PySem.W.readsIn K cL (.type "type") = true)
    (lF : PySem.W.findCls K (.ref cL) (.type "type") "__init__" = some (.val (.builtin "ValueError.__init__")))
    (wn : PySem.W.specialIn K (.builtin "object.__class__") "__get__" = some (some (.builtin "getset_descriptor.__get__")))
    (wt : PySem.W.takesIn K (.builtin "object.__class__") = some true)
    (aC1 : PySem.W.nsIn K mainGlobals "SyntaxProblem" = some (some (.ref zc1)))
    (x1 : K.lookup zc1 = some (excClassObj nm1 qq1 zc1 N1 bs1 [.ref cL, .type "ValueError", .type "Exception", .type "BaseException", .type "object"] true sn1 sb1 ab1 co1 dd1 uu1 uv1 uw1 uy1 uz1 "ValueError.__new__"))
    (ga1 : PySem.W.findIn K (.ref zc1) "__getattribute__" = some (some (.builtin "BaseException.__getattribute__")))
    (gg1 : PySem.W.findIn K (.ref zc1) "__getattr__" = some none)
    (gc1 : PySem.W.findIn K (.ref zc1) "__class__" = some (some (.builtin "object.__class__")))
    (kC1 : PySem.W.keepIn K (.ref zc1) = true)
    (aC2 : PySem.W.nsIn K mainGlobals "BadClaim" = some (some (.ref zc2)))
    (x2 : K.lookup zc2 = some (excClassObj nm2 qq2 zc2 N2 bs2 [.ref cL, .type "ValueError", .type "Exception", .type "BaseException", .type "object"] true sn2 sb2 ab2 co2 dd2 uu2 uv2 uw2 uy2 uz2 "ValueError.__new__"))
    (ga2 : PySem.W.findIn K (.ref zc2) "__getattribute__" = some (some (.builtin "BaseException.__getattribute__")))
    (gg2 : PySem.W.findIn K (.ref zc2) "__getattr__" = some none)
    (gc2 : PySem.W.findIn K (.ref zc2) "__class__" = some (some (.builtin "object.__class__")))
    (kC2 : PySem.W.keepIn K (.ref zc2) = true)
    (aC3 : PySem.W.nsIn K mainGlobals "BadPath" = some (some (.ref zc3)))
    (x3 : K.lookup zc3 = some (excClassObj nm3 qq3 zc3 N3 bs3 [.ref cL, .type "ValueError", .type "Exception", .type "BaseException", .type "object"] true sn3 sb3 ab3 co3 dd3 uu3 uv3 uw3 uy3 uz3 "ValueError.__new__"))
    (ga3 : PySem.W.findIn K (.ref zc3) "__getattribute__" = some (some (.builtin "BaseException.__getattribute__")))
    (gg3 : PySem.W.findIn K (.ref zc3) "__getattr__" = some none)
    (gc3 : PySem.W.findIn K (.ref zc3) "__class__" = some (some (.builtin "object.__class__")))
    (kC3 : PySem.W.keepIn K (.ref zc3) = true)
    (aC4 : PySem.W.nsIn K mainGlobals "TooLong" = some (some (.ref zc4)))
    (x4 : K.lookup zc4 = some (excClassObj nm4 qq4 zc4 N4 bs4 [.ref cL, .type "ValueError", .type "Exception", .type "BaseException", .type "object"] true sn4 sb4 ab4 co4 dd4 uu4 uv4 uw4 uy4 uz4 "ValueError.__new__"))
    (ga4 : PySem.W.findIn K (.ref zc4) "__getattribute__" = some (some (.builtin "BaseException.__getattribute__")))
    (gg4 : PySem.W.findIn K (.ref zc4) "__getattr__" = some none)
    (gc4 : PySem.W.findIn K (.ref zc4) "__class__" = some (some (.builtin "object.__class__")))
    (kC4 : PySem.W.keepIn K (.ref zc4) = true)
    (aC5 : PySem.W.nsIn K mainGlobals "NoVariable" = some (some (.ref zc5)))
    (x5 : K.lookup zc5 = some (excClassObj nm5 qq5 zc5 N5 bs5 [.ref cL, .type "ValueError", .type "Exception", .type "BaseException", .type "object"] true sn5 sb5 ab5 co5 dd5 uu5 uv5 uw5 uy5 uz5 "ValueError.__new__"))
    (ga5 : PySem.W.findIn K (.ref zc5) "__getattribute__" = some (some (.builtin "BaseException.__getattribute__")))
    (gg5 : PySem.W.findIn K (.ref zc5) "__getattr__" = some none)
    (gc5 : PySem.W.findIn K (.ref zc5) "__class__" = some (some (.builtin "object.__class__")))
    (kC5 : PySem.W.keepIn K (.ref zc5) = true)
    (aC6 : PySem.W.nsIn K mainGlobals "InvalidOrdinal" = some (some (.ref zc6)))
    (x6 : K.lookup zc6 = some (excClassObj nm6 qq6 zc6 N6 bs6 [.ref cL, .type "ValueError", .type "Exception", .type "BaseException", .type "object"] true sn6 sb6 ab6 co6 dd6 uu6 uv6 uw6 uy6 uz6 "ValueError.__new__"))
    (ga6 : PySem.W.findIn K (.ref zc6) "__getattribute__" = some (some (.builtin "BaseException.__getattribute__")))
    (gg6 : PySem.W.findIn K (.ref zc6) "__getattr__" = some none)
    (gc6 : PySem.W.findIn K (.ref zc6) "__class__" = some (some (.builtin "object.__class__")))
    (kC6 : PySem.W.keepIn K (.ref zc6) = true)
    (e6 : PySem.W.excIn K zc6 [.type "ValueError", .type "Exception", .type "BaseException", .type "object"] "ValueError.__new__" = true)
    (aC7 : PySem.W.nsIn K mainGlobals "NotLater" = some (some (.ref zc7)))
    (x7 : K.lookup zc7 = some (excClassObj nm7 qq7 zc7 N7 bs7 [.ref cL, .type "ValueError", .type "Exception", .type "BaseException", .type "object"] true sn7 sb7 ab7 co7 dd7 uu7 uv7 uw7 uy7 uz7 "ValueError.__new__"))
    (ga7 : PySem.W.findIn K (.ref zc7) "__getattribute__" = some (some (.builtin "BaseException.__getattribute__")))
    (gg7 : PySem.W.findIn K (.ref zc7) "__getattr__" = some none)
    (gc7 : PySem.W.findIn K (.ref zc7) "__class__" = some (some (.builtin "object.__class__")))
    (kC7 : PySem.W.keepIn K (.ref zc7) = true)
    (e7 : PySem.W.excIn K zc7 [.type "ValueError", .type "Exception", .type "BaseException", .type "object"] "ValueError.__new__" = true)
    (aC8 : PySem.W.nsIn K mainGlobals "ZeroDivisor" = some (some (.ref zc8)))
    (x8 : K.lookup zc8 = some (excClassObj nm8 qq8 zc8 N8 bs8 [.ref cL, .type "ValueError", .type "Exception", .type "BaseException", .type "object"] true sn8 sb8 ab8 co8 dd8 uu8 uv8 uw8 uy8 uz8 "ValueError.__new__"))
    (ga8 : PySem.W.findIn K (.ref zc8) "__getattribute__" = some (some (.builtin "BaseException.__getattribute__")))
    (gg8 : PySem.W.findIn K (.ref zc8) "__getattr__" = some none)
    (gc8 : PySem.W.findIn K (.ref zc8) "__class__" = some (some (.builtin "object.__class__")))
    (kC8 : PySem.W.keepIn K (.ref zc8) = true)
    (e8 : PySem.W.excIn K zc8 [.type "ValueError", .type "Exception", .type "BaseException", .type "object"] "ValueError.__new__" = true)
    (aC9 : PySem.W.nsIn K mainGlobals "NoEvent" = some (some (.ref zc9)))
    (x9 : K.lookup zc9 = some (excClassObj nm9 qq9 zc9 N9 bs9 [.ref cL, .type "ValueError", .type "Exception", .type "BaseException", .type "object"] true sn9 sb9 ab9 co9 dd9 uu9 uv9 uw9 uy9 uz9 "ValueError.__new__"))
    (ga9 : PySem.W.findIn K (.ref zc9) "__getattribute__" = some (some (.builtin "BaseException.__getattribute__")))
    (gg9 : PySem.W.findIn K (.ref zc9) "__getattr__" = some none)
    (gc9 : PySem.W.findIn K (.ref zc9) "__class__" = some (some (.builtin "object.__class__")))
    (kC9 : PySem.W.keepIn K (.ref zc9) = true)
    (e9 : PySem.W.excIn K zc9 [.type "ValueError", .type "Exception", .type "BaseException", .type "object"] "ValueError.__new__" = true)
    (aC10 : PySem.W.nsIn K mainGlobals "OutOfRange" = some (some (.ref zc10)))
    (x10 : K.lookup zc10 = some (excClassObj nm10 qq10 zc10 N10 bs10 [.ref cL, .type "ValueError", .type "Exception", .type "BaseException", .type "object"] true sn10 sb10 ab10 co10 dd10 uu10 uv10 uw10 uy10 uz10 "ValueError.__new__"))
    (ga10 : PySem.W.findIn K (.ref zc10) "__getattribute__" = some (some (.builtin "BaseException.__getattribute__")))
    (gg10 : PySem.W.findIn K (.ref zc10) "__getattr__" = some none)
    (gc10 : PySem.W.findIn K (.ref zc10) "__class__" = some (some (.builtin "object.__class__")))
    (kC10 : PySem.W.keepIn K (.ref zc10) = true)
    (e10 : PySem.W.excIn K zc10 [.type "ValueError", .type "Exception", .type "BaseException", .type "object"] "ValueError.__new__" = true)
    (aC11 : PySem.W.nsIn K mainGlobals "Incompatible" = some (some (.ref zc11)))
    (x11 : K.lookup zc11 = some (excClassObj nm11 qq11 zc11 N11 bs11 [.ref cL, .type "ValueError", .type "Exception", .type "BaseException", .type "object"] true sn11 sb11 ab11 co11 dd11 uu11 uv11 uw11 uy11 uz11 "ValueError.__new__"))
    (ga11 : PySem.W.findIn K (.ref zc11) "__getattribute__" = some (some (.builtin "BaseException.__getattribute__")))
    (gg11 : PySem.W.findIn K (.ref zc11) "__getattr__" = some none)
    (gc11 : PySem.W.findIn K (.ref zc11) "__class__" = some (some (.builtin "object.__class__")))
    (kC11 : PySem.W.keepIn K (.ref zc11) = true)
    (e11 : PySem.W.excIn K zc11 [.type "ValueError", .type "Exception", .type "BaseException", .type "object"] "ValueError.__new__" = true)
    (aC12 : PySem.W.nsIn K mainGlobals "NotReached" = some (some (.ref zc12)))
    (x12 : K.lookup zc12 = some (excClassObj nm12 qq12 zc12 N12 bs12 [.ref cL, .type "ValueError", .type "Exception", .type "BaseException", .type "object"] true sn12 sb12 ab12 co12 dd12 uu12 uv12 uw12 uy12 uz12 "ValueError.__new__"))
    (ga12 : PySem.W.findIn K (.ref zc12) "__getattribute__" = some (some (.builtin "BaseException.__getattribute__")))
    (gg12 : PySem.W.findIn K (.ref zc12) "__getattr__" = some none)
    (gc12 : PySem.W.findIn K (.ref zc12) "__class__" = some (some (.builtin "object.__class__")))
    (kC12 : PySem.W.keepIn K (.ref zc12) = true)
    (e12 : PySem.W.excIn K zc12 [.type "ValueError", .type "Exception", .type "BaseException", .type "object"] "ValueError.__new__" = true)
    (aC13 : PySem.W.nsIn K mainGlobals "NoBreakpoint" = some (some (.ref zc13)))
    (x13 : K.lookup zc13 = some (excClassObj nm13 qq13 zc13 N13 bs13 [.ref cL, .type "ValueError", .type "Exception", .type "BaseException", .type "object"] true sn13 sb13 ab13 co13 dd13 uu13 uv13 uw13 uy13 uz13 "ValueError.__new__"))
    (ga13 : PySem.W.findIn K (.ref zc13) "__getattribute__" = some (some (.builtin "BaseException.__getattribute__")))
    (gg13 : PySem.W.findIn K (.ref zc13) "__getattr__" = some none)
    (gc13 : PySem.W.findIn K (.ref zc13) "__class__" = some (some (.builtin "object.__class__")))
    (kC13 : PySem.W.keepIn K (.ref zc13) = true)
    (e13 : PySem.W.excIn K zc13 [.type "ValueError", .type "Exception", .type "BaseException", .type "object"] "ValueError.__new__" = true)
    (aC14 : PySem.W.nsIn K mainGlobals "NoMark" = some (some (.ref zc14)))
    (x14 : K.lookup zc14 = some (excClassObj nm14 qq14 zc14 N14 bs14 [.ref cL, .type "ValueError", .type "Exception", .type "BaseException", .type "object"] true sn14 sb14 ab14 co14 dd14 uu14 uv14 uw14 uy14 uz14 "ValueError.__new__"))
    (ga14 : PySem.W.findIn K (.ref zc14) "__getattribute__" = some (some (.builtin "BaseException.__getattribute__")))
    (gg14 : PySem.W.findIn K (.ref zc14) "__getattr__" = some none)
    (gc14 : PySem.W.findIn K (.ref zc14) "__class__" = some (some (.builtin "object.__class__")))
    (kC14 : PySem.W.keepIn K (.ref zc14) = true)
    (e14 : PySem.W.excIn K zc14 [.type "ValueError", .type "Exception", .type "BaseException", .type "object"] "ValueError.__new__" = true)
    (aC15 : PySem.W.nsIn K mainGlobals "InvalidCommand" = some (some (.ref zc15)))
    (x15 : K.lookup zc15 = some (excClassObj nm15 qq15 zc15 N15 bs15 [.ref cL, .type "ValueError", .type "Exception", .type "BaseException", .type "object"] true sn15 sb15 ab15 co15 dd15 uu15 uv15 uw15 uy15 uz15 "ValueError.__new__"))
    (ga15 : PySem.W.findIn K (.ref zc15) "__getattribute__" = some (some (.builtin "BaseException.__getattribute__")))
    (gg15 : PySem.W.findIn K (.ref zc15) "__getattr__" = some none)
    (gc15 : PySem.W.findIn K (.ref zc15) "__class__" = some (some (.builtin "object.__class__")))
    (kC15 : PySem.W.keepIn K (.ref zc15) = true)
    (e15 : PySem.W.excIn K zc15 [.type "ValueError", .type "Exception", .type "BaseException", .type "object"] "ValueError.__new__" = true)
    (sa1 : PySem.W.findIn K (.ref zc1) "__setattr__" = some (some (.builtin "object.__setattr__")))
    (iI1 : PySem.W.findIn K (.ref zc1) "__init__" = some (some (.ref fi1)))
    (iT1 : PySem.W.typeIn K (.ref fi1) = some (.type "function"))
    (iL1 : K.lookup fi1 = some ⟨ic1, io1, .func (PySem.W.fnOf "__init__" "SyntaxProblem.__init__" (defArgs sSY) (defBody sSY) (defScope sSY) .none iV1 id1 ip1 ia1 ie1 it1), is1⟩)
    (iC1 : PySem.W.codeIn K ie1 "SyntaxProblem.__init__" = true)
    (iK1 : PySem.W.keepIn K (.ref fi1) = true)
    (nline1 : PySem.W.findIn K (.ref zc1) "line" = some none)
    (ncolumn1 : PySem.W.findIn K (.ref zc1) "column" = some none)
    (sa2 : PySem.W.findIn K (.ref zc2) "__setattr__" = some (some (.builtin "object.__setattr__")))
    (iI2 : PySem.W.findIn K (.ref zc2) "__init__" = some (some (.ref fi2)))
    (iT2 : PySem.W.typeIn K (.ref fi2) = some (.type "function"))
    (iL2 : K.lookup fi2 = some ⟨ic2, io2, .func (PySem.W.fnOf "__init__" "BadClaim.__init__" (defArgs sBC) (defBody sBC) (defScope sBC) .none iV2 id2 ip2 ia2 ie2 it2), is2⟩)
    (iC2 : PySem.W.codeIn K ie2 "BadClaim.__init__" = true)
    (iK2 : PySem.W.keepIn K (.ref fi2) = true)
    (nindex2 : PySem.W.findIn K (.ref zc2) "index" = some none)
    (sa3 : PySem.W.findIn K (.ref zc3) "__setattr__" = some (some (.builtin "object.__setattr__")))
    (iI3 : PySem.W.findIn K (.ref zc3) "__init__" = some (some (.ref fi3)))
    (iT3 : PySem.W.typeIn K (.ref fi3) = some (.type "function"))
    (iL3 : K.lookup fi3 = some ⟨ic3, io3, .func (PySem.W.fnOf "__init__" "BadPath.__init__" (defArgs sBP) (defBody sBP) (defScope sBP) .none iV3 id3 ip3 ia3 ie3 it3), is3⟩)
    (iC3 : PySem.W.codeIn K ie3 "BadPath.__init__" = true)
    (iK3 : PySem.W.keepIn K (.ref fi3) = true)
    (nindex3 : PySem.W.findIn K (.ref zc3) "index" = some none)
    (sa4 : PySem.W.findIn K (.ref zc4) "__setattr__" = some (some (.builtin "object.__setattr__")))
    (iI4 : PySem.W.findIn K (.ref zc4) "__init__" = some (some (.ref fi4)))
    (iT4 : PySem.W.typeIn K (.ref fi4) = some (.type "function"))
    (iL4 : K.lookup fi4 = some ⟨ic4, io4, .func (PySem.W.fnOf "__init__" "TooLong.__init__" (defArgs sTL) (defBody sTL) (defScope sTL) .none iV4 id4 ip4 ia4 ie4 it4), is4⟩)
    (iC4 : PySem.W.codeIn K ie4 "TooLong.__init__" = true)
    (iK4 : PySem.W.keepIn K (.ref fi4) = true)
    (nlimit4 : PySem.W.findIn K (.ref zc4) "limit" = some none)
    (sa5 : PySem.W.findIn K (.ref zc5) "__setattr__" = some (some (.builtin "object.__setattr__")))
    (iI5 : PySem.W.findIn K (.ref zc5) "__init__" = some (some (.ref fi5)))
    (iT5 : PySem.W.typeIn K (.ref fi5) = some (.type "function"))
    (iL5 : K.lookup fi5 = some ⟨ic5, io5, .func (PySem.W.fnOf "__init__" "NoVariable.__init__" (defArgs sNV) (defBody sNV) (defScope sNV) .none iV5 id5 ip5 ia5 ie5 it5), is5⟩)
    (iC5 : PySem.W.codeIn K ie5 "NoVariable.__init__" = true)
    (iK5 : PySem.W.keepIn K (.ref fi5) = true)
    (nname5 : PySem.W.findIn K (.ref zc5) "name" = some none)
    (nd : (cL :: [zc1, zc2, zc3, zc4, zc5, zc6, zc7, zc8, zc9, zc10, zc11, zc12, zc13, zc14, zc15]).Nodup) :
    ∃ fd : FuncData, (∀ (s : Shared) (u : Value), BindsTo s fd ⟨[u], []⟩ [("script", u)]) ∧ ∀ base : Heap, K.In base → base.Ns mainGlobals mg → FnG P w K mg base 5 fa fd ["script"] (spLaw K) := by
  have e := hfa.symm.trans (PySem.W.mg_of X G a7)
  cases e
  have F1 := fun_mk (st := sScr) l1 c1 k1
  have b1 := F1.binds (ps := ["number", "index"]) fun _ _ _ _ _ _ us hl => match us, hl with | [_, _], _ => rfl
  have g1 := PySem.W.mg_of X G a1
  have F2 := fun_mk (st := sDrw) l2 c2 k2
  have b2 := F2.binds (ps := ["script"]) fun _ _ _ _ _ _ us hl => match us, hl with | [_], _ => rfl
  have g2 := PySem.W.mg_of X G a2
  have F3 := fun_mk (st := sNxt) l3 c3 k3
  have b3 := F3.binds (ps := ["source", "bound"]) fun _ _ _ _ _ _ us hl => match us, hl with | [_, _], _ => rfl
  have g3 := PySem.W.mg_of X G a3
  have F4 := fun_mk (st := sCho) l4 c4 k4
  have b4 := F4.binds (ps := ["source", "items"]) fun _ _ _ _ _ _ us hl => match us, hl with | [_, _], _ => rfl
  have g4 := PySem.W.mg_of X G a4
  have F5 := fun_mk (st := sIde) l5 c5 k5
  have b5 := F5.binds (ps := ["found", "expected"]) fun _ _ _ _ _ _ us hl => match us, hl with | [_, _], _ => rfl
  have g5 := PySem.W.mg_of X G a5
  have F6 := fun_mk (st := sCls) l6 c6 k6
  have b6 := F6.binds (ps := ["error"]) fun _ _ _ _ _ _ us hl => match us, hl with | [_], _ => rfl
  have g6 := PySem.W.mg_of X G a6
  have F7 := fun_mk (st := sLaw) l7 c7 k7
  have b7 := F7.binds (ps := ["script"]) fun _ _ _ _ _ _ us hl => match us, hl with | [_], _ => rfl
  have g7 := PySem.W.mg_of X G a7
  have m_range := PySem.W.mg_none_of X G z0
  have m_len := PySem.W.mg_none_of X G z1
  have m_isinstance := PySem.W.mg_none_of X G z2
  have m_enumerate := PySem.W.mg_none_of X G z3
  have m_abs := PySem.W.mg_none_of X G z4
  have m_repr := PySem.W.mg_none_of X G z5
  have m_ValueError := PySem.W.mg_none_of X G z6
  refine ⟨PySem.W.fnOf "law" "law" (defArgs sLaw) (defBody sLaw) (defScope sLaw) .none kV7 dc7 pm7 an7 cd7 ct7, fun s u => .of_eq rfl, fun base _ _ => ?_⟩
  have GN : FnOk P w K mg base CX0 2 f3 _ ["source", "bound"] spNxt := ok_nxt (k := 0) F3 m_len F1 b1 g1 m_range
  have GC : FnOk P w K mg base CX0 3 f4 _ ["source", "items"] (spCho K) := ok_cho (k := 0) F4 m_len GN k3 b3 g3
  have gL := PySem.W.mg_of X G lG
  have BL : BaseC K cL := ⟨lS, lR, lF⟩
  have h1 := PySem.W.mg_of X G aC1
  have Q1 : ClsF K cL zc1 := ⟨⟨_, _, _, _, _, _, _, _, _, _, _, _, _, _, x1⟩, ga1, gg1, gc1⟩
  have h2 := PySem.W.mg_of X G aC2
  have Q2 : ClsF K cL zc2 := ⟨⟨_, _, _, _, _, _, _, _, _, _, _, _, _, _, x2⟩, ga2, gg2, gc2⟩
  have h3 := PySem.W.mg_of X G aC3
  have Q3 : ClsF K cL zc3 := ⟨⟨_, _, _, _, _, _, _, _, _, _, _, _, _, _, x3⟩, ga3, gg3, gc3⟩
  have h4 := PySem.W.mg_of X G aC4
  have Q4 : ClsF K cL zc4 := ⟨⟨_, _, _, _, _, _, _, _, _, _, _, _, _, _, x4⟩, ga4, gg4, gc4⟩
  have h5 := PySem.W.mg_of X G aC5
  have Q5 : ClsF K cL zc5 := ⟨⟨_, _, _, _, _, _, _, _, _, _, _, _, _, _, x5⟩, ga5, gg5, gc5⟩
  have h6 := PySem.W.mg_of X G aC6
  have Q6 : ClsF K cL zc6 := ⟨⟨_, _, _, _, _, _, _, _, _, _, _, _, _, _, x6⟩, ga6, gg6, gc6⟩
  have h7 := PySem.W.mg_of X G aC7
  have Q7 : ClsF K cL zc7 := ⟨⟨_, _, _, _, _, _, _, _, _, _, _, _, _, _, x7⟩, ga7, gg7, gc7⟩
  have h8 := PySem.W.mg_of X G aC8
  have Q8 : ClsF K cL zc8 := ⟨⟨_, _, _, _, _, _, _, _, _, _, _, _, _, _, x8⟩, ga8, gg8, gc8⟩
  have h9 := PySem.W.mg_of X G aC9
  have Q9 : ClsF K cL zc9 := ⟨⟨_, _, _, _, _, _, _, _, _, _, _, _, _, _, x9⟩, ga9, gg9, gc9⟩
  have h10 := PySem.W.mg_of X G aC10
  have Q10 : ClsF K cL zc10 := ⟨⟨_, _, _, _, _, _, _, _, _, _, _, _, _, _, x10⟩, ga10, gg10, gc10⟩
  have h11 := PySem.W.mg_of X G aC11
  have Q11 : ClsF K cL zc11 := ⟨⟨_, _, _, _, _, _, _, _, _, _, _, _, _, _, x11⟩, ga11, gg11, gc11⟩
  have h12 := PySem.W.mg_of X G aC12
  have Q12 : ClsF K cL zc12 := ⟨⟨_, _, _, _, _, _, _, _, _, _, _, _, _, _, x12⟩, ga12, gg12, gc12⟩
  have h13 := PySem.W.mg_of X G aC13
  have Q13 : ClsF K cL zc13 := ⟨⟨_, _, _, _, _, _, _, _, _, _, _, _, _, _, x13⟩, ga13, gg13, gc13⟩
  have h14 := PySem.W.mg_of X G aC14
  have Q14 : ClsF K cL zc14 := ⟨⟨_, _, _, _, _, _, _, _, _, _, _, _, _, _, x14⟩, ga14, gg14, gc14⟩
  have h15 := PySem.W.mg_of X G aC15
  have Q15 : ClsF K cL zc15 := ⟨⟨_, _, _, _, _, _, _, _, _, _, _, _, _, _, x15⟩, ga15, gg15, gc15⟩
  have J1 := fun_mk (st := sSY) iL1 iC1 iK1
  have jb1 := J1.binds (ps := ["self", "line", "column"]) fun _ _ _ _ _ _ us hl => match us, hl with | [_, _, _], _ => rfl
  have O1 : OexC K zc1 := Q1.oex sa1 kC1
  have J2 := fun_mk (st := sBC) iL2 iC2 iK2
  have jb2 := J2.binds (ps := ["self", "index"]) fun _ _ _ _ _ _ us hl => match us, hl with | [_, _], _ => rfl
  have O2 : OexC K zc2 := Q2.oex sa2 kC2
  have J3 := fun_mk (st := sBP) iL3 iC3 iK3
  have jb3 := J3.binds (ps := ["self", "index"]) fun _ _ _ _ _ _ us hl => match us, hl with | [_, _], _ => rfl
  have O3 : OexC K zc3 := Q3.oex sa3 kC3
  have J4 := fun_mk (st := sTL) iL4 iC4 iK4
  have jb4 := J4.binds (ps := ["self", "limit"]) fun _ _ _ _ _ _ us hl => match us, hl with | [_, _], _ => rfl
  have O4 : OexC K zc4 := Q4.oex sa4 kC4
  have J5 := fun_mk (st := sNV) iL5 iC5 iK5
  have jb5 := J5.binds (ps := ["self", "name"]) fun _ _ _ _ _ _ us hl => match us, hl with | [_, _], _ => rfl
  have O5 : OexC K zc5 := Q5.oex sa5 kC5
  have GS : FnOk P w K mg base CX0 1 f6 _ ["error"] (spCls K zc1 zc2 zc3 zc4 zc5 zc6 zc7 zc8 zc9 zc10 zc11 zc12 zc13 zc14 zc15) := ok_cls (k := 0) F6 m_isinstance h1 h2 h3 h4 h5 h6 h7 h8 h9 h10 h11 h12 h13 h14 h15
  have AQ : ∀ D ∈ [zc1, zc2, zc3, zc4, zc5, zc6, zc7, zc8, zc9, zc10, zc11, zc12, zc13, zc14, zc15], ClsF K cL D := by
    intro D hD
    simp at hD
    rcases hD with rfl | rfl | rfl | rfl | rfl | rfl | rfl | rfl | rfl | rfl | rfl | rfl | rfl | rfl | rfl
    · exact Q1
    · exact Q2
    · exact Q3
    · exact Q4
    · exact Q5
    · exact Q6
    · exact Q7
    · exact Q8
    · exact Q9
    · exact Q10
    · exact Q11
    · exact Q12
    · exact Q13
    · exact Q14
    · exact Q15
  refine ok_law (k := 3) (cL := cL) (c1 := zc1) (c2 := zc2) (c3 := zc3) (c4 := zc4) (c5 := zc5) (c6 := zc6) (c7 := zc7) (c8 := zc8) (c9 := zc9) (c10 := zc10) (c11 := zc11) (c12 := zc12) (c13 := zc13) (c14 := zc14) (c15 := zc15) F7 ?_
  exact {
    drw := ⟨f2, _, (ok_drw (k := 0) F2 m_enumerate m_abs).mono (by decide), g2, k2, b2⟩
    nxt := ⟨f3, _, GN.mono (by decide), g3, k3, b3⟩
    cho := ⟨f4, _, GC, g4, k4, b4⟩
    cls := ⟨f6, _, GS.mono (by decide), g6, k6, b6⟩
    ide := ⟨f5, _, (ok_ide (k := 0) F5 m_repr).up (by decide), g5, k5, b5⟩
    ini1 := ⟨fi1, _, (ok_SY (k := 0) J1 gL BL O1 nline1 ncolumn1).mono (by decide), iI1, iT1, jb1⟩
    ini2 := ⟨fi2, _, (ok_BC (k := 0) J2 gL BL O2 nindex2).mono (by decide), iI2, iT2, jb2⟩
    ini3 := ⟨fi3, _, (ok_BP (k := 0) J3 gL BL O3 nindex3).mono (by decide), iI3, iT3, jb3⟩
    ini4 := ⟨fi4, _, (ok_TL (k := 0) J4 gL BL O4 nlimit4).mono (by decide), iI4, iT4, jb4⟩
    ini5 := ⟨fi5, _, (ok_NV (k := 0) J5 gL BL O5 nname5).mono (by decide), iI5, iT5, jb5⟩
    g1 := h1
    g2 := h2
    g3 := h3
    g4 := h4
    g5 := h5
    g6 := h6
    g7 := h7
    g8 := h8
    g9 := h9
    g10 := h10
    g11 := h11
    g12 := h12
    g13 := h13
    g14 := h14
    g15 := h15
    T1 := O1
    X1 := Q1.xf
    nline1 := nline1
    ncolumn1 := ncolumn1
    T2 := O2
    X2 := Q2.xf
    nindex2 := nindex2
    T3 := O3
    X3 := Q3.xf
    nindex3 := nindex3
    T4 := O4
    X4 := Q4.xf
    nlimit4 := nlimit4
    T5 := O5
    X5 := Q5.xf
    nname5 := nname5
    x6 := e6
    kk6 := kC6
    x7 := e7
    kk7 := kC7
    x8 := e8
    kk8 := kC8
    x9 := e9
    kk9 := kC9
    x10 := e10
    kk10 := kC10
    x11 := e11
    kk11 := kC11
    x12 := e12
    kk12 := kC12
    x13 := e13
    kk13 := kC13
    x14 := e14
    kk14 := kC14
    x15 := e15
    kk15 := kC15
    gL := gL
    kv := kv_of AQ lT lD nd wn wt
    range := m_range
    len := m_len
    isi := m_isinstance
    VE := m_ValueError
    enu := m_enumerate }
end Lim
open PySem PySem.W PyProof.Rows
set_option maxHeartbeats 0 in
theorem PySem.Challenge.cw_limitrun_k08_errors_holds : PySem.Challenge.rw_limitrun_k08_errors.Holds := by
  w_on; o_law; k_head; (case hw => w_witness2)
  k_fill
  refine Lim.walk_g (l := PySem.Challenge.rw_limitrun_k08_errors) (n := 63) (k := 5) (x := "script") (sp := Lim.spLaw) rfl (by decide) rfl ⟨rfl, by decide, by decide⟩ (fun w h Y => PySem.W.kIn_of Y) ?F (fun _ _ a ns hl _ hS => ⟨a, ns, rfl, hS, hl, fun _ => rfl⟩)
  case F =>
    intro w mg fa h KX G hmg
    refine' Lim.all_mk KX G hmg ?a1 ?l1 ?c1 ?k1 ?a2 ?l2 ?c2 ?k2 ?a3 ?l3 ?c3 ?k3 ?a4 ?l4 ?c4 ?k4 ?a5 ?l5 ?c5 ?k5 ?a6 ?l6 ?c6 ?k6 ?a7 ?l7 ?c7 ?k7 ?z0 ?z1 ?z2 ?z3 ?z4 ?z5 ?z6 ?lG ?lT ?lD ?lS ?lR ?lF ?wn ?wt ?aC1 ?x1 ?ga1 ?gg1 ?gc1 ?kC1 ?aC2 ?x2 ?ga2 ?gg2 ?gc2 ?kC2 ?aC3 ?x3 ?ga3 ?gg3 ?gc3 ?kC3 ?aC4 ?x4 ?ga4 ?gg4 ?gc4 ?kC4 ?aC5 ?x5 ?ga5 ?gg5 ?gc5 ?kC5 ?aC6 ?x6 ?ga6 ?gg6 ?gc6 ?kC6 ?e6 ?aC7 ?x7 ?ga7 ?gg7 ?gc7 ?kC7 ?e7 ?aC8 ?x8 ?ga8 ?gg8 ?gc8 ?kC8 ?e8 ?aC9 ?x9 ?ga9 ?gg9 ?gc9 ?kC9 ?e9 ?aC10 ?x10 ?ga10 ?gg10 ?gc10 ?kC10 ?e10 ?aC11 ?x11 ?ga11 ?gg11 ?gc11 ?kC11 ?e11 ?aC12 ?x12 ?ga12 ?gg12 ?gc12 ?kC12 ?e12 ?aC13 ?x13 ?ga13 ?gg13 ?gc13 ?kC13 ?e13 ?aC14 ?x14 ?ga14 ?gg14 ?gc14 ?kC14 ?e14 ?aC15 ?x15 ?ga15 ?gg15 ?gc15 ?kC15 ?e15 ?sa1 ?iI1 ?iT1 ?iL1 ?iC1 ?iK1 ?nline1 ?ncolumn1 ?sa2 ?iI2 ?iT2 ?iL2 ?iC2 ?iK2 ?nindex2 ?sa3 ?iI3 ?iT3 ?iL3 ?iC3 ?iK3 ?nindex3 ?sa4 ?iI4 ?iT4 ?iL4 ?iC4 ?iK4 ?nlimit4 ?sa5 ?iI5 ?iT5 ?iL5 ?iC5 ?iK5 ?nname5 ?nd
    (case a1 => k_is)
    (case l1 => k_is)
    (case c1 => k_is)
    (case k1 => k_is)
    (case a2 => k_is)
    (case l2 => k_is)
    (case c2 => k_is)
    (case k2 => k_is)
    (case a3 => k_is)
    (case l3 => k_is)
    (case c3 => k_is)
    (case k3 => k_is)
    (case a4 => k_is)
    (case l4 => k_is)
    (case c4 => k_is)
    (case k4 => k_is)
    (case a5 => k_is)
    (case l5 => k_is)
    (case c5 => k_is)
    (case k5 => k_is)
    (case a6 => k_is)
    (case l6 => k_is)
    (case c6 => k_is)
    (case k6 => k_is)
    (case a7 => k_is)
    (case l7 => k_is)
    (case c7 => k_is)
    (case k7 => k_is)
    (case z0 => k_is)
    (case z1 => k_is)
    (case z2 => k_is)
    (case z3 => k_is)
    (case z4 => k_is)
    (case z5 => k_is)
    (case z6 => k_is)
    (case lG => k_is)
    (case lT => k_is)
    (case lD => k_is)
    (case lS => k_is)
    (case lR => k_is)
    (case lF => k_is)
    (case wn => k_is)
    (case wt => k_is)
    (case aC1 => k_is)
    (case x1 => k_is)
    (case ga1 => k_is)
    (case gg1 => k_is)
    (case gc1 => k_is)
    (case kC1 => k_is)
    (case aC2 => k_is)
    (case x2 => k_is)
    (case ga2 => k_is)
    (case gg2 => k_is)
    (case gc2 => k_is)
    (case kC2 => k_is)
    (case aC3 => k_is)
    (case x3 => k_is)
    (case ga3 => k_is)
    (case gg3 => k_is)
    (case gc3 => k_is)
    (case kC3 => k_is)
    (case aC4 => k_is)
    (case x4 => k_is)
    (case ga4 => k_is)
    (case gg4 => k_is)
    (case gc4 => k_is)
    (case kC4 => k_is)
    (case aC5 => k_is)
    (case x5 => k_is)
    (case ga5 => k_is)
    (case gg5 => k_is)
    (case gc5 => k_is)
    (case kC5 => k_is)
    (case aC6 => k_is)
    (case x6 => k_is)
    (case ga6 => k_is)
    (case gg6 => k_is)
    (case gc6 => k_is)
    (case kC6 => k_is)
    (case e6 => k_exc)
    (case aC7 => k_is)
    (case x7 => k_is)
    (case ga7 => k_is)
    (case gg7 => k_is)
    (case gc7 => k_is)
    (case kC7 => k_is)
    (case e7 => k_exc)
    (case aC8 => k_is)
    (case x8 => k_is)
    (case ga8 => k_is)
    (case gg8 => k_is)
    (case gc8 => k_is)
    (case kC8 => k_is)
    (case e8 => k_exc)
    (case aC9 => k_is)
    (case x9 => k_is)
    (case ga9 => k_is)
    (case gg9 => k_is)
    (case gc9 => k_is)
    (case kC9 => k_is)
    (case e9 => k_exc)
    (case aC10 => k_is)
    (case x10 => k_is)
    (case ga10 => k_is)
    (case gg10 => k_is)
    (case gc10 => k_is)
    (case kC10 => k_is)
    (case e10 => k_exc)
    (case aC11 => k_is)
    (case x11 => k_is)
    (case ga11 => k_is)
    (case gg11 => k_is)
    (case gc11 => k_is)
    (case kC11 => k_is)
    (case e11 => k_exc)
    (case aC12 => k_is)
    (case x12 => k_is)
    (case ga12 => k_is)
    (case gg12 => k_is)
    (case gc12 => k_is)
    (case kC12 => k_is)
    (case e12 => k_exc)
    (case aC13 => k_is)
    (case x13 => k_is)
    (case ga13 => k_is)
    (case gg13 => k_is)
    (case gc13 => k_is)
    (case kC13 => k_is)
    (case e13 => k_exc)
    (case aC14 => k_is)
    (case x14 => k_is)
    (case ga14 => k_is)
    (case gg14 => k_is)
    (case gc14 => k_is)
    (case kC14 => k_is)
    (case e14 => k_exc)
    (case aC15 => k_is)
    (case x15 => k_is)
    (case ga15 => k_is)
    (case gg15 => k_is)
    (case gc15 => k_is)
    (case kC15 => k_is)
    (case e15 => k_exc)
    (case sa1 => k_is)
    (case iI1 => k_is)
    (case iT1 => k_is)
    (case iL1 => k_is)
    (case iC1 => k_is)
    (case iK1 => k_is)
    (case nline1 => k_is)
    (case ncolumn1 => k_is)
    (case sa2 => k_is)
    (case iI2 => k_is)
    (case iT2 => k_is)
    (case iL2 => k_is)
    (case iC2 => k_is)
    (case iK2 => k_is)
    (case nindex2 => k_is)
    (case sa3 => k_is)
    (case iI3 => k_is)
    (case iT3 => k_is)
    (case iL3 => k_is)
    (case iC3 => k_is)
    (case iK3 => k_is)
    (case nindex3 => k_is)
    (case sa4 => k_is)
    (case iI4 => k_is)
    (case iT4 => k_is)
    (case iL4 => k_is)
    (case iC4 => k_is)
    (case iK4 => k_is)
    (case nlimit4 => k_is)
    (case sa5 => k_is)
    (case iI5 => k_is)
    (case iT5 => k_is)
    (case iL5 => k_is)
    (case iC5 => k_is)
    (case iK5 => k_is)
    (case nname5 => k_is)
    (case nd => decide)
#print axioms PySem.Challenge.cw_limitrun_k08_errors_holds
