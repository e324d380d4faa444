import PyProof.Rows.All
import Wide.All
import OpenK.AllK
import Wide.FinOn
import HandS.ForMost
import HandS.Wide
import HandS.RaiseMore
import PyProof.ReprRoads
import HandS.Evl
import HandS.Codes
import HandS.TupMul
import HandS.TupAny
import KE.GoesEnum
import HandS.Defaults
import HandS.FStrTup
import HandS.IsInst
import HandS.Dict
import HandS.FStr
import HandS.Text
import PySem.Challenge.RW_limitrun_k05_texts_of_ordinals
set_option Elab.async false
set_option linter.all false
set_option maxRecDepth 100000
set_option maxHeartbeats 4000000
namespace Lim
open PySem PySem.Spec PyProof.Rows L2

/-! a def whose promise may lean on: no repr is under way around it -/
structure FnG (P : Program) (w : World) (K : PySem.W.Frag) (mg : Str → Option Value) (base : Heap) (k : Nat) (f : Addr) (fd : FuncData) (ps : List Str) (sp : Sp) : Prop where
  len : ∀ vs H Q E, sp vs H Q E → vs.length = ps.length
  go : ∀ (B : Around) (below : List Env) (s : Shared) (H : Hp) (ar : Args) (us : List Value) (vs : List V) (Q : VK) (E : XK),
    B.guards = some [] → Room k B → Env0 P w K mg base B below s H → BindsTo s fd ar (ps.zip us) → Vals vs us → sp vs H Q E →
    codeAny (model P w) B (.call (.ref f) ar) (CR CX0 below P w H s Q E) s
section
variable {P : Program} {w : World} {K : PySem.W.Frag} {mg : Str → Option Value} {base : Heap} {k : Nat} {f : Addr} {fd : FuncData} {ps : List Str} {sp : Sp}
theorem FnG.of (F : FnOk P w K mg base CX0 k f fd ps sp) : FnG P w K mg base k f fd ps sp :=
  ⟨F.len, fun B below s H ar us vs Q E _ r e b v q => F.run B below s H ar us vs Q E r e b v q⟩
theorem FnG.up {j : Nat} (F : FnG P w K mg base j f fd ps sp) (h : j ≤ k) : FnG P w K mg base k f fd ps sp :=
  ⟨F.len, fun B below s H ar us vs Q E g r e b v q => F.go B below s H ar us vs Q E g (r.mono h) e b v q⟩
theorem FnG.imp {sp' : Sp} (F : FnG P w K mg base k f fd ps sp) (h : ∀ vs H Q E, sp' vs H Q E → sp vs H Q E) : FnG P w K mg base k f fd ps sp' :=
  ⟨fun vs H Q E q => F.len _ _ _ _ (h _ _ _ _ q), fun B below s H ar us vs Q E g r e b v q => F.go B below s H ar us vs Q E g r e b v (h _ _ _ _ q)⟩

theorem deeper_guards {B : Around} {env : Env} : (B.deeper env).guards = B.guards := rfl

/-- the def's own rule -/
theorem Fun_okG {x qual : Str} {st : Stmt} {N : List Str} (F : Fun K x qual st f fd) (S : FnScope N ps (defScope st)) (len : ∀ vs H Q E, sp vs H Q E → vs.length = ps.length)
    (hb : ∀ (cdv : Value) (B : Around) (below : List Env) (s : Shared) (H : Hp) (vs : List V) (Q : VK) (E : XK), B.guards = some [] → Room k (B.deeper (envOfC qual (defScope st) s.heap.objs.size f cdv)) → sp vs H Q E →
      ∃ t, PSs (cxOf CX0 P w K mg base N qual (defScope st) f cdv B below s H E).nox (defBody st) t ∧ t { nx := fun _ H' => Q .non H', rt := Q } (start N vs) H) :
    FnG P w K mg base (k + 1) f fd ps sp := by
  obtain ⟨oc, od, kV, doc, pm, an, cdv, ct, osl, rfl, lk, hcd⟩ := F.ex
  refine ⟨len, fun B below s H ar us vs Q E hg hr ev bt va hq => ?_⟩
  have hn := len _ _ _ _ hq
  have KH : K.In s.heap := ev.mod.kin.keeps fun a o z => (ev.bs a o z).1
  have noLim : s.heap.NoLimit := ev.mod.nolimit.keeps fun a o z => (ev.bs a o z).1
  refine codeAny_call_function hr.depth (KH _ _ lk) rfl S.co S.gen rfl (PySem.W.codeRec_of KH hcd) (bt _ _ _ _ ?_)
  refine wpAny_newFunctionEnv_cells S.kind (fun ⟨y, v⟩ hy => ?_) fun env he s1 hx => ?_
  · rcases S.par y (List.of_mem_zip hy).1 with q | q
    · exact Or.inl q
    · exact Or.inr ⟨q, PySem.W.cellsFrom_some _ _ _ (Or.inl q)⟩
  · subst he
    refine ⟨noLim.keeps hx.toInCall.keep, codeAny_func ?_⟩
    obtain ⟨t, ht, hrun⟩ := hb cdv B below s H vs Q E hg (hr.deeper _) hq
    have J0 := inv_start (CX := CX0) (E := E) S hr.hd ev hn va hx
    refine wpAny_mono (ht.nox.run [] s1 (start N vs) H _ J0 hrun) (fun fl s2 hs => ?_) fun _ _ z => z
    cases fl with
    | brk =>
      obtain ⟨_, _, _, z⟩ := hs
      exact z.elim
    | cont =>
      obtain ⟨_, _, _, z⟩ := hs
      exact z.elim
    | next =>
      obtain ⟨σ1, H1, J, z⟩ := hs
      exact ⟨V.non, H1, J.os, J.bare, J.base, J.hok, rfl, z⟩
    | ret u =>
      obtain ⟨v, σ1, H1, J, rv, z⟩ := hs
      exact ⟨v, H1, J.os, J.bare, J.base, J.hok, rv, z⟩
end
section
variable {X : Cx} {k : Nat} {f : Addr} {fd : FuncData} {ps : List Str} {sp : Sp} {x : Str} {p pos : Pos} {e : Expr} {es : List Expr} {t : TA}
/-- the callee runs -/
theorem run_g {pins : List (Addr × Obj)} {σ : L2.St} {H : Hp} {s : Shared} {Q : VK} {us : List Value} {vs : List V} (F : FnG X.prog X.w X.K X.mg X.base k f fd ps sp) (hg : X.A.guards = some []) (hr : Room k X.A) (hb : Binds X.K fd ps [])
    (I : Inv X pins σ H s) (r : Vals vs us) (h : sp vs H Q E0) : wpAny (model X.prog X.w) X.A (call (.ref f) us) (EP X pins σ Q) X.xe s := by
  have hl : us.length = ps.length := r.length ▸ F.len _ _ _ _ h
  have hbt := hb s us I.kIn (by rw [List.append_nil]; exact hl)
  rw [List.append_nil] at hbt
  refine wpAny_call (codeAny_mono (F.go X.A X.stack s H ⟨us, []⟩ us vs Q E0 hg hr I.env0 hbt r h) fun res s1 z => ?_)
  match res, z with
  | .error _, z => exact False.elim z
  | .ok (.ret u), z => exact I.after z
  | .ok .next, z => exact False.elim z
  | .ok .brk, z => exact False.elim z
  | .ok .cont, z => exact False.elim z
theorem pe_g (F : FnG X.prog X.w X.K X.mg X.base k f fd ps sp) (hgd : X.A.guards = some []) (hr : Room k X.A) (hg : Gl X x) (hm : X.mg x = some (.ref f)) (hk : PySem.W.keepIn X.K (.ref f) = true) (hb : Binds X.K fd ps [])
    (ha : PA X (e :: es) t) (hdb : (x == ("__debug__" : Str)) = false := by decide) (he : starEach (e :: es) X.env = (false, eval e X.env) :: starEach es X.env := by rfl) (hpl : (backTo pos (starEach es X.env)).any (·.1) = false := by rfl) :
    PE X (.Call (.Name x p) (e :: es) [] pos) (fun σ H Q => t σ H fun vs H1 => sp vs H1 Q E0) := by
  refine ⟨fun pins s σ H Q I h => ?_⟩
  refine wpAny_Call_Name_kw (ld_glob I hg hm ?_ hdb)
  refine PySem.W.callWith_K (h₀ := X.base) I.ok.mod.kin hk ?_ he hpl
  exact thn (ha.run pos pins s σ H _ I h) fun us s1 ⟨vs, H1, I1, r, q⟩ => ⟨I1.kIn, run_g F hgd hr hb I1 r q⟩
/-- repr(x), x data -/
theorem call_reprD (hgd : X.A.guards = some []) (hu : X.A.units + 100 < cLine) : CallR X (.builtin "repr") (fun xs H Q => ∃ v d, xs = [v] ∧ Dp X.K H v d ∧ d.showable = true ∧ d.hasDict = false ∧ d.depth ≤ 60 ∧ d.shown.length ≤ sizeLine ∧ Q (.str d.shown) H) := by
  intro pins s σ H xs us Q I r h
  obtain ⟨v, d, rfl, hd, h1, h2, h3, h4, q⟩ := h
  obtain ⟨u, rfl, r1⟩ := vals1 r
  cases hd with
  | non =>
    cases r1
    exact PySem.P.repr_of_none ⟨.str _, H, I.tok _, ⟨_, rfl⟩, q⟩
  | bl b =>
    cases r1
    refine PySem.P.repr_of_bool ⟨.str _, H, I.tok _, ⟨_, rfl⟩, ?_⟩
    cases b <;> exact q
  | int i =>
    obtain ⟨t, rfl⟩ := r1
    refine PySem.P.repr_of_int ?_ ⟨.str _, H, I.tok _, ⟨_, rfl⟩, q⟩
    simpa [PyData.showable] using h1
  | str y =>
    obtain ⟨t, rfl⟩ := r1
    exact PySem.P.repr_of_str ⟨.str _, H, I.tok _, ⟨_, rfl⟩, q⟩ h4
  | lst hs ha =>
    obtain ⟨as, rd⟩ := Dp.reads I _ _ _ (.lst hs ha) r1
    cases r1
    exact PySem.repr_of_reads' rd h1 (fun z => by rw [h2] at z; cases z) hgd (by omega) (fun _ _ z => z) (fun h' u tk hk => ⟨.str _, H, I.kept hk, ⟨_, rfl⟩, q⟩) h4
  | tup hs ha =>
    obtain ⟨as, rd⟩ := Dp.reads I _ _ _ (.tup hs ha) r1
    cases r1
    exact PySem.repr_of_reads' rd h1 (fun z => by rw [h2] at z; cases z) hgd (by omega) (fun _ _ z => z) (fun h' u tk hk => ⟨.str _, H, I.kept hk, ⟨_, rfl⟩, q⟩) h4
end
/-! tuple * k for k below 2 -/
section
variable (l : Addr) (its : Array Value) (n : Nat) (dd : Option Addr) (sl : Array (Option Value)) (u : Tok)
abbrev tupO (its : Array Value) (n : Nat) (dd : Option Addr) (sl : Array (Option Value)) : Obj := { cls := .type "tuple", dict := dd, data := .seq its n, slots := sl }
theorem tmul_none (x : Int) (b0 : (decide (x < -(2 ^ 63)) || decide (x ≥ 2 ^ 63)) = false) (b1 : (its.isEmpty || x == 1) = false) (b2 : (decide (x ≤ 0) || its.isEmpty) = true) :
    Meets (Builtin.«tuple.__mul__» ⟨[.ref l, .int x u], []⟩) (fun _ R s => s.heap.get? l = some (tupO its n dd sl) ∧ R (.ok (.ret (Value.ref s.heap.objs.size))) { s with heap := s.heap.push { cls := Value.type "tuple", data := Data.seq #[] }, toks := s.toks }) := by
  refine .of_wp fun pg ww AA RR ss hh => ?_
  obtain ⟨h1, h2, h3, h4, h5⟩ := ss
  obtain ⟨hl, hh⟩ := hh
  have ix := AutoSeq1.idx_int
  have n0 := decide_eq_false (p := (decide (x < -(2 ^ 63)) || decide (x ≥ 2 ^ 63)) = true) (by rw [b0]; decide)
  have n1 := decide_eq_false (p := (its.isEmpty || x == 1) = true) (by rw [b1]; decide)
  wp_walk using wpAny_loadPart' hl
  repeat (first
    | (refine wpAny_ite_false n0 ?_; wp_walk using wpAny_loadPart' hl)
    | (refine wpAny_ite_false n1 ?_; wp_walk using wpAny_loadPart' hl)
    | (refine wpAny_ite_true (decide_eq_true b2) ?_; wp_walk using wpAny_loadPart' hl))
  exact ⟨_, rfl, hh⟩
theorem tmul_one : Meets (Builtin.«tuple.__mul__» ⟨[.ref l, .int 1 u], []⟩) (fun _ R s => s.heap.get? l = some (tupO its n dd sl) ∧ R (.ok (.ret (Value.ref l))) s) := by
  refine .of_wp fun pg ww AA RR ss hh => ?_
  obtain ⟨h1, h2, h3, h4, h5⟩ := ss
  obtain ⟨hl, hh⟩ := hh
  have ix := AutoSeq1.idx_int
  have b1 : (its.isEmpty || (1 : Int) == 1) = true := by simp
  wp_walk using wpAny_loadPart' hl
  repeat (first
    | (refine wpAny_ite_false (decide_eq_false (by decide)) ?_; wp_walk using wpAny_loadPart' hl)
    | (refine wpAny_ite_true (decide_eq_true b1) ?_; wp_walk using wpAny_loadPart' hl))
  exact ⟨_, rfl, hh⟩
end
def rRepZ (K : PySem.W.Frag) : R2 := fun x y H Q => ∃ l k xs, x = .ref l ∧ y = .int k ∧ SqT K H l xs ∧ xs ≠ [] ∧ -1000 ≤ k ∧ k ≤ 1000 ∧ xs.length ≤ 1000 ∧
  (k ≤ 0 → ∀ p, H p = none → Q (.ref p) (upd H p (.tup []))) ∧ (k = 1 → Q (.ref l) H) ∧ (2 ≤ k → ∀ p, H p = none → Q (.ref p) (upd H p (.tup (List.replicate k.toNat xs).flatten)))
section
variable {X : Cx}
theorem op_repZ : OpR X (binaryOp .Mult) (rRepZ X.K) := by
  intro pins s σ H x y v u Q I rx ry h
  obtain ⟨l, k, xs, rfl, rfl, hT, hne, h1, h2, hz, q0, q1, q2⟩ := h
  by_cases c2 : 2 ≤ k
  · exact op_repT pins s σ H _ _ v u Q I rx ry ⟨l, k, xs, rfl, rfl, hT, hne, c2, h2, hz, q2 c2⟩
  · cases rx
    obtain ⟨t, rfl⟩ := ry
    obtain ⟨its, r, ⟨⟨cls, dd, data, sl⟩, ho, hc, n, hd⟩, hs⟩ := I.tuple hT
    simp only at hc hd
    subst hc hd
    have hie : its.toArray.isEmpty = false := by
      cases its with
      | nil =>
        cases r
        exact absurd rfl hne
      | cons a b => rfl
    by_cases c1 : k = 1
    · subst c1
      refine wpAny_binaryOp_repeat_ref (T := "tuple") (U := "int") (by decide) ⟨_, ho, rfl⟩ (fun s' => typeIs_int s' 1 t) noFill_tuple_mul F.fills_int_mul F.slot_int_rmul repeat_tuple F.slot_int_index.lookup ?_
      refine call_meets F.slot_int_rmul (typeIs_int s 1 t) F.entry_int_rmul (F.args_int_rmul_2 _ _) (int_rmul_tuple 1 t l its.toArray n dd sl) ⟨ho, rfl, ⟨_, ho, rfl⟩, ?_⟩
      exact call_meets F.slot_tuple_mul ⟨_, ho, rfl⟩ F.entry_tuple_mul (F.args_tuple_mul_2 _ _) (tmul_one l its.toArray n dd sl t) ⟨ho, .ref l, H, I, rfl, q1 rfl⟩
    · have k0 : k ≤ 0 := by omega
      have b0 : (decide (k < -(2 ^ 63)) || decide (k ≥ 2 ^ 63)) = false := by
        rw [decide_eq_false (by omega), decide_eq_false (by omega)] <;> rfl
      have b1 : (its.toArray.isEmpty || k == 1) = false := by
        rw [hie, Bool.false_or]
        exact beq_eq_false_iff_ne.mpr c1
      have b2 : (decide (k ≤ 0) || its.toArray.isEmpty) = true := by
        rw [decide_eq_true k0] <;> rfl
      refine wpAny_binaryOp_repeat_ref (T := "tuple") (U := "int") (by decide) ⟨_, ho, rfl⟩ (fun s' => typeIs_int s' k t) noFill_tuple_mul F.fills_int_mul F.slot_int_rmul repeat_tuple F.slot_int_index.lookup ?_
      refine call_meets F.slot_int_rmul (typeIs_int s k t) F.entry_int_rmul (F.args_int_rmul_2 _ _) (int_rmul_tuple k t l its.toArray n dd sl) ⟨ho, rfl, ⟨_, ho, rfl⟩, ?_⟩
      refine call_meets F.slot_tuple_mul ⟨_, ho, rfl⟩ F.entry_tuple_mul (F.args_tuple_mul_2 _ _) (tmul_none l its.toArray n dd sl t k b0 b1 b2) ⟨ho, ?_⟩
      refine ⟨.ref s.heap.objs.size, _, I.laid (t' := s.toks) (o := .tup []) (fun b ob z => Heap.get?_push_of_some _ z) (Nat.le_refl _) ?_, rfl, q0 k0 _ (I.hok.fresh (Nat.le_refl _))⟩
      exact ⟨Nat.zero_le _, [], .nil, IsTup.new _ _⟩
end
/-! enumerate of a tuple -/
def Iet (K : PySem.W.Frag) (a : Addr) : It where
  go := fun i H => ∃ (xs : List V) (x : V), SqT K H a xs ∧ xs[i]? = some x
  yld := fun i H v H' => ∃ T x, v = .ref T ∧ H T = none ∧ H' = upd H T (.tup [.int (i : Nat), x]) ∧ ∀ xs, SqT K H a xs → xs[i]? = some x
  stop := fun i H => ∃ xs : List V, SqT K H a xs ∧ xs.length = i
theorem enum_new1 {v : Value} {o : Obj} {Hh : Heap → Prop} (B : Begins v o Hh) : Meets (Builtin.«enumerate.__new__» ⟨[.type "enumerate", v], []⟩) (fun _ R s => Hh s.heap ∧
      R (.ok (.ret (.ref (s.heap.push o).objs.size))) { s with heap := (s.heap.push o).push { cls := .type "enumerate", data := .fields #[.none, .bool false, .ref s.heap.objs.size, rawInt 0, .none, .none] } }) := by
  refine .of_wp fun pg ww AA RR ss hh => ?_
  obtain ⟨h1, h2, h3, h4, h5⟩ := ss
  obtain ⟨b1, hh⟩ := hh
  have sube := sub_enumerate
  have qi : ∀ {A' : Around} {E' : Value → Shared → Prop} {Q' : Value → Shared → Prop}, Q' (.ref h1.objs.size) ⟨h1.push o, h2, h3, h4, h5⟩ → wpAny (model pg ww) A' (pyIter v) Q' E' ⟨h1, h2, h3, h4, h5⟩ :=
    fun z => B.iter pg ww _ _ ⟨h1, h2, h3, h4, h5⟩ _ b1 z
  wp_walk
  refine wpAny_stack_any fun st => wpAny_pure ?_
  split
  · rename_i cc _ _ _ _ _
    cases (cc == Value.type "enumerate") <;>
      (wp_walk using qi
       exact ⟨_, rfl, hh⟩)
  · wp_walk using qi
    exact ⟨_, rfl, hh⟩
section
variable {prog : Program} {w : World} {A : Around} {E : Value → Shared → Prop} {s : Shared}
theorem call_enum1 {v : Value} {o : Obj} {Hh : Heap → Prop} {Q : Value → Shared → Prop} (B : Begins v o Hh) (b1 : Hh s.heap)
    (h : ∀ h', IsEnum h' (s.heap.objs.size + 1) s.heap.objs.size 0 .none → h'.get? s.heap.objs.size = some o → h'.objs.size = s.heap.objs.size + 2 → (∀ b o, s.heap.get? b = some o → h'.get? b = some o) → Q (.ref (s.heap.objs.size + 1)) { s with heap := h' }) :
    wpAny (model prog w) A (call (.type "enumerate") [v]) Q E s := by
  refine callType_new F.called_enumerate (by decide) (F.typeCall_enumerate_1 _) (F.newCall_enumerate_1 _) (fun obj => F.args_object_init_2 obj _) F.entry_enumerate_new (enum_new1 B) ⟨b1, ?_⟩
  have z1 : (s.heap.push o).objs.size = s.heap.objs.size + 1 := Heap.size_push ..
  show _ ∧ _
  rw [z1]
  have ie : IsEnum ((s.heap.push o).push { cls := .type "enumerate", data := .fields #[.none, .bool false, .ref s.heap.objs.size, rawInt 0, .none, .none] }) (s.heap.objs.size + 1) s.heap.objs.size 0 .none := by
    have q := Heap.get?_push_size (s.heap.push o) (o := { cls := .type "enumerate", data := .fields #[.none, .bool false, .ref s.heap.objs.size, rawInt 0, .none, .none] }) rfl
    rw [z1] at q
    exact q
  exact ⟨⟨_, ie, rfl⟩, h _ ie (Heap.get?_push_of_some _ (Heap.get?_push_size _ B.free)) (by rw [Heap.size_push, z1]) fun b o' x => Heap.get?_push_of_some _ (Heap.get?_push_of_some _ x)⟩
end
theorem turn_enumT {P : Program} {w : World} {K : PySem.W.Frag} {elts : List Expr} {kk : Nat} {tpos : Pos} (a e it : Addr) (hae : a ≠ e) (hai : a ≠ it) :
    Turn P w K (.Tuple elts kk tpos) (Iet K a) [e, it] e (fun i h => (∃ old, IsEnum h e it ((i : Nat) : Int) old) ∧ h.IsTupleIter it a i ∧ e ≠ it) where
  mem := List.mem_cons_self ..
  obj := by
    rintro i h ⟨⟨old, he⟩, ⟨o, ho, hc, hd⟩, _⟩ b hb
    rcases List.mem_cons.mp hb with rfl | hb
    · exact ⟨_, he, fun v q => nomatch q⟩
    · rw [List.mem_singleton.mp hb]
      exact ⟨o, ho, fun v q => by rw [hd] at q; cases q⟩
  keep := by
    rintro i h h' ⟨⟨old, he⟩, hi, ne⟩ k
    exact ⟨⟨old, k e (by simp) _ he⟩, hi.at fun o q => k it (by simp) o q, ne⟩
  item := by
    rintro X rfl rfl rfl hc i pins s σ H E I hf ⟨⟨old, he⟩, hit, hne⟩ ⟨xs, x, hq, hx⟩
    obtain ⟨its, rv, hT, hz⟩ := I.tuple hq
    have hT' : s.heap.IsTuple a its.toArray := hT
    obtain ⟨u, hu, ru⟩ := rv.get hx
    have le : e < s.heap.objs.size := Heap.lt_size he
    have li : it < s.heap.objs.size := by
      obtain ⟨_, q, _⟩ := hit
      exact Heap.lt_size q
    have hlt : i < its.toArray.size := by
      have := (List.getElem?_eq_some_iff.mp hu).1
      simpa using this
    refine wpAny_pyNext_enum_itemD (Draws.tuple (A := X.A.in1) (I.ok.hd hc) it a hai its.toArray) he ⟨hit, hT'⟩ hlt hne ?_ fun y h' tk hy ho hit' hnew hsz hk => ?_
    · intro hb
      rcases List.mem_cons.mp hb with q | q
      · exact hne q
      · exact hae (List.mem_singleton.mp q).symm
    · have hyu : y = u := by
        have e1 : its.toArray[i]? = some y := hy
        rw [List.getElem?_toArray, hu] at e1
        exact (Option.some.inj e1).symm
      subst hyu
      refine ⟨_, rfl, wpAny_letOwnedTupleGo_enum (s := { s with heap := h', toks := tk + 1 }) ho fun h2 he2 sb => ?_⟩
      have hT2 : h2.get? s.heap.objs.size = some { cls := .type "tuple", data := .seq #[.int i tk, y] } := (sb.2 _ (Nat.ne_of_gt le)).trans hnew
      have nob : ObjOk X.prog X.w (upd H s.heap.objs.size (.tup [.int (i : Nat), x])) h2 s.heap.objs.size (.tup [.int (i : Nat), x]) :=
        ⟨by show 2 ≤ sizeLine; decide, [.int i tk, y], .cons ⟨_, rfl⟩ (.cons ru .nil), ⟨_, hT2, rfl, _, rfl⟩⟩
      have J : Inv X pins σ (upd H s.heap.objs.size (.tup [.int (i : Nat), x])) { s with heap := h2, toks := tk + 1 } :=
        I.turnedNew (ch := [e, it]) (fun b ob hb q => (sb.2 b (fun z => hb (by simp [z]))).trans (hk b ob (fun z => hb (by simp [z])) (fun z => hb (by simp [z])) q)) hf (Nat.le_refl _) nob
      refine ⟨.ref s.heap.objs.size, _, J, rfl, ⟨_, x, rfl, I.hok.fresh (Nat.le_refl _), rfl, fun ys hy => by rw [I.tuple_inj hy hq]; exact hx⟩, ⟨⟨y, ?_⟩, hit'.1.at fun o q => (sb.2 it (Ne.symm hne)).trans q, hne⟩, fun b hb => ?_⟩
      · have e1 : ((i + 1 : Nat) : Int) = (i : Int) + 1 := by omega
        rw [e1]
        exact he2
      · have lb : b < s.heap.objs.size := by
          rcases List.mem_cons.mp hb with z | z
          · rw [z]
            exact le
          · rw [List.mem_singleton.mp z]
            exact li
        rw [upd_ne (Nat.ne_of_lt lb)]
        exact (hf b hb).1
  done := by
    rintro X rfl rfl rfl hc i pins s σ H E I hf ⟨⟨old, he⟩, hit, hne⟩ ⟨xs, hq, hx⟩
    obtain ⟨its, rv, hT, hz⟩ := I.tuple hq
    have hT' : s.heap.IsTuple a its.toArray := hT
    have hn : i = its.toArray.size := by rw [List.size_toArray, ← hx, rv.length]
    subst hn
    obtain ⟨f0, f1, f2, f3, f4, f5⟩ := hf it (by simp)
    exact wpAny_pyNext_enum_endD (Draws.tuple (A := X.A.in1) (I.ok.hd hc) it a hai its.toArray) he ⟨hit, hT'⟩ fun h' eb => ⟨rfl, I.turned (t' := s.toks) (fun b o hb q => eb b o hb q) f0 f1 f3 f4 f5⟩
  self := fun A i s Q E st h => let ⟨⟨_, he⟩, _⟩ := st; wpAny_pyIter_enum he h
def iEnumT (K : PySem.W.Frag) (ta : TA) : TI := fun σ H R => ta σ H fun vs H1 => ∃ a xs, vs = [.ref a] ∧ SqT K H1 a xs ∧ R (Iet K a) H1
theorem pi_enumT {X : Cx} {e : Expr} {ta : TA} {p pos tpos : Pos} {elts : List Expr} {kk : Nat} (hg : Gl X "enumerate") (hm : X.mg "enumerate" = none) (ha : PA X [e] ta) (hs : starEach [e] X.env = [(false, eval e X.env)] := by rfl) :
    PI X (.Tuple elts kk tpos) (.Call (.Name "enumerate" p) [e] [] pos) (iEnumT X.K ta) := by
  refine ⟨fun pins s σ H R I h => ?_⟩
  refine Call_ (ld_blt I hg hm boot_enumerate ?_)
  refine PyProof.Rows.callWith_type1 (thn (ha.run pos pins s σ H _ I h) fun us s1 ⟨vs, H1, I1, r1, q1⟩ => ?_) hs rfl
  obtain ⟨a, xs, rfl, hq, q⟩ := q1
  obtain ⟨u, rfl, ru⟩ := vals1 r1
  cases ru
  obtain ⟨its, rv, hT, hz⟩ := I1.tuple hq
  have hT' : s1.heap.IsTuple a its.toArray := hT
  have la : a < s1.heap.objs.size := by
    obtain ⟨o, ho, _⟩ := hT'
    exact Heap.lt_size ho
  refine call_enum1 (begins_tuple a its.toArray) hT' fun h' ie hit hsz hk => wpAny_pyIter_enum ie ?_
  have I2 : Inv X pins σ H1 { s1 with heap := h' } := I1.kept (t' := s1.toks) hk
  refine ⟨s1.heap.objs.size + 1, [s1.heap.objs.size + 1, s1.heap.objs.size], _, _, H1, rfl, I2, turn_enumT a (s1.heap.objs.size + 1) s1.heap.objs.size (Nat.ne_of_lt (Nat.lt_succ_of_lt la)) (Nat.ne_of_lt la), ⟨⟨.none, ie⟩, ⟨_, hit, rfl, rfl⟩, Nat.succ_ne_self _⟩, fun b hb => ?_, q⟩
  have lb : s1.heap.objs.size ≤ b := by
    rcases List.mem_cons.mp hb with z | z
    · rw [z]
      exact Nat.le_succ _
    · rw [List.mem_singleton.mp z]
      exact Nat.le_refl _
  exact I1.fpOk lb (I1.hok.fresh lb)
section
variable {K : PySem.W.Frag} {a : Addr} {xs : List V} {σ : L2.St}
/-- for i, x in enumerate(tuple) -/
theorem for_enumT {g : TG} {tb : TS} {D : Ends} {H : Hp} (Pv : Nat → L2.St → Hp → Prop) (h0 : Pv 0 σ H) (hl : ∀ i σ H, i ≤ xs.length → Pv i σ H → SqT K H a xs)
    (hs : ∀ i x σ H T, xs[i]? = some x → Pv i σ H → H T = none → g (.ref T) σ (upd H T (.tup [.int (i : Nat), x])) fun σ2 H2 => tb { D with nx := Pv (i + 1), ct := Pv (i + 1), bk := D.nx } σ2 H2) (hd : ∀ σ H, Pv xs.length σ H → D.nx σ H) :
    ∃ W : Nat → Nat → L2.St → Hp → Prop, (∃ m, W 0 m σ H) ∧ ∀ i m σ H, W i m σ H →
      ((Iet K a).stop i H ∧ D.nx σ H) ∨ ((Iet K a).go i H ∧ ∃ N : L2.St → Hp → Prop, (∀ σ' H', N σ' H' → ∃ m', m' < m ∧ W (i + 1) m' σ' H') ∧ ∀ x H', (Iet K a).yld i H x H' → g x σ H' fun σ2 H2 => tb { D with nx := N, ct := N, bk := D.nx } σ2 H2) := by
  refine ⟨fun i m σ H => i + m = xs.length ∧ Pv i σ H, ⟨xs.length, by omega, h0⟩, ?_⟩
  rintro i m σ H ⟨hm, p⟩
  have q := hl i σ H (by omega) p
  by_cases hlt : i < xs.length
  · refine .inr ⟨⟨xs, xs[i], q, List.getElem?_eq_getElem hlt⟩, Pv (i + 1), fun σ' H' p' => ⟨m - 1, by omega, by omega, p'⟩, fun v H' y => ?_⟩
    obtain ⟨T, x, rfl, hT, rfl, y⟩ := y
    exact hs i x σ H T (y xs q) p hT
  · have e : i = xs.length := by omega
    subst e
    exact .inl ⟨⟨xs, q, rfl⟩, hd σ H p⟩
/-- [.. for i, x in enumerate(tuple) ..] -/
theorem lc_enumT {g : TG} {tt : TT} {te : TE} {vs : List Nat} {H1 : Hp} {D : Addr} {Qd : Hp → Prop} (Pv : Nat → Hp → Prop) (h0 : Pv 0 (upd H1 D (.lst []))) (hl : ∀ i H, i ≤ xs.length → Pv i H → SqT K H a xs)
    (hs : ∀ i x H T, xs[i]? = some x → Pv i H → H T = none → g (.ref T) (wipe σ vs) (upd H T (.tup [.int (i : Nat), x])) fun σ2 H2 => wipe σ2 vs = wipe σ vs ∧ tt σ2 H2 fun b H3 =>
      if b = true then te σ2 H3 fun y H4 => ∃ acc, H4 D = some (.lst acc) ∧ acc.length < sizeLine ∧ Pv (i + 1) (upd H4 D (.lst (acc ++ [y]))) else Pv (i + 1) H3) (hd : ∀ H, Pv xs.length H → Qd H) :
    ∃ W : Nat → Nat → Hp → Prop, (∃ m, W 0 m (upd H1 D (.lst []))) ∧ ∀ i m H, W i m H →
      ((Iet K a).stop i H ∧ Qd H) ∨ ((Iet K a).go i H ∧ ∃ Nx : Hp → Prop, (∀ H', Nx H' → ∃ m', m' < m ∧ W (i + 1) m' H') ∧ ∀ x H', (Iet K a).yld i H x H' → g x (wipe σ vs) H' fun σ2 H2 => wipe σ2 vs = wipe σ vs ∧ tt σ2 H2 fun b H3 =>
        if b = true then te σ2 H3 fun y H4 => ∃ acc, H4 D = some (.lst acc) ∧ acc.length < sizeLine ∧ Nx (upd H4 D (.lst (acc ++ [y]))) else Nx H3) := by
  refine ⟨fun i m H => i + m = xs.length ∧ Pv i H, ⟨xs.length, by omega, h0⟩, ?_⟩
  rintro i m H ⟨hm, p⟩
  have q := hl i H (by omega) p
  by_cases hlt : i < xs.length
  · refine .inr ⟨⟨xs, xs[i], q, List.getElem?_eq_getElem hlt⟩, Pv (i + 1), fun H' p' => ⟨m - 1, by omega, by omega, p'⟩, fun v H' y => ?_⟩
    obtain ⟨T, x, rfl, hT, rfl, y⟩ := y
    exact hs i x H T (y xs q) p hT
  · have e : i = xs.length := by omega
    subst e
    exact .inl ⟨⟨xs, q, rfl⟩, hd H p⟩
end
def topS (i : Nat) : Stmt := PySem.Challenge.pw_limitrun_k05_texts_of_ordinals.main.body.getD i (.Pass ⟨0, 0, 0, 0⟩)
abbrev sScr : Stmt := topS 19
abbrev sDrw : Stmt := topS 20
abbrev sNxt : Stmt := topS 21
abbrev sCho : Stmt := topS 22
abbrev sIde : Stmt := topS 23
theorem scScr : FnScope ["number", "index", "modulus", "found", "turn"] ["number", "index"] (defScope sScr) := ⟨rfl, rfl, rfl, by decide +kernel, rfl, by decide +kernel, by decide +kernel⟩
section
variable {P : Program} {w : World} {K : PySem.W.Frag} {mg : Str → Option Value} {base : Heap}
/-- scramble: some number, not negative -/
def spScr : Sp := fun vs H Q _ => ∃ n i : Int, vs = [.int n, .int i] ∧ ∀ r : Int, 0 ≤ r → Q (.int r) H
theorem mod20 : (20 : Int) ≠ 0 := by decide
theorem modM : (2305843009213693951 : Int) ≠ 0 := by decide
theorem fmod_lo {a : Int} : 0 ≤ a.fmod 2305843009213693951 := Int.fmod_nonneg_of_pos _ (by decide)
theorem fmod_hi {a : Int} : a.fmod 2305843009213693951 < 2305843009213693951 := Int.fmod_lt_of_pos _ (by decide)
theorem ok_scr {f : Addr} {fd : FuncData} {k : Nat} (F : Fun K "_law_scramble" "_law_scramble" sScr f fd) (mr : mg "range" = none) : FnOk P w K mg base CX0 (k + 1) f fd ["number", "index"] spScr := by
  refine F.ok scScr (fun vs H Q E h => ?_) (fun cdv A outer s H vs Q E hr h => ?_)
  · obtain ⟨n, i, rfl, _⟩ := h
    rfl
  · obtain ⟨n, i, rfl, q⟩ := h
    refine ⟨_, pss_cons (ps_set (i := 2) scScr.nd rfl (.inl rfl) pe_int)
      (pss_cons (ps_set (i := 3) scScr.nd rfl (.inl rfl) (pe_op op_modN (pe_op op_add (pe_op op_add (pe_op op_mul (pv 0) pe_int) (pe_op op_mul (pv 1) pe_int)) pe_int) (pv 2)))
      (pss_cons (ps_for PassesOwn.never rfl (pi_range1 rfl mr (pa_cons pe_int pa_nil)) (pg_name (i := 4) scScr.nd rfl (.inl rfl))
        (pss_one (ps_set (i := 3) scScr.nd rfl (.inl rfl) (pe_op op_modN (pe_op op_add (pe_op op_add (pe_op op_add (pe_op op_mul (pv 3) (pv 3)) (pe_op op_mul pe_int (pv 3))) (pe_op op_mul pe_int (pv 4))) (pv 1)) (pv 2)))))
      (pss_one (ps_ret (pe_op op_add (pe_op op_mul (pv 3) (pv 2)) (pe_op op_modN (pe_op op_add (pe_op op_mul (pv 3) pe_int) (pv 1)) (pv 2))))))), ?_⟩
    refine ⟨_, rfl, _, _, rfl, rfl, .inr ⟨by decide, by decide⟩, _, rfl, _, _, rfl, rfl, .inr ⟨by decide, by decide⟩, _, _, rfl, rfl, _, _, rfl, rfl, _, rfl, _, _, rfl, rfl, modM, ?_⟩
    refine ⟨4, rfl, by decide, by decide, for_range (n := 4) (fun t σ H' => ∃ (z : Int) (y : Option V), σ = [some (.int n), some (.int i), some (.int 2305843009213693951), some (.int z), y] ∧ 0 ≤ z ∧ z < 2305843009213693951 ∧ H' = H) ⟨_, none, rfl, fmod_lo, fmod_hi, rfl⟩ ?_ ?_⟩
    · rintro t σ H' ht ⟨z, y, rfl, h0, h1, rfl⟩
      refine ⟨_, rfl, _, rfl, _, _, rfl, rfl, .inl ⟨by omega, by omega⟩, _, rfl, _, _, rfl, rfl, .inl ⟨by decide, by decide⟩, _, _, rfl, rfl, _, rfl, _, _, rfl, rfl, .inl ⟨by decide, by decide⟩, _, _, rfl, rfl, _, rfl, _, _, rfl, rfl, _, rfl, _, _, rfl, rfl, modM, ?_⟩
      exact ⟨_, _, rfl, fmod_lo, fmod_hi, rfl⟩
    · rintro σ H' ⟨z, y, rfl, h0, h1, rfl⟩
      refine ⟨_, rfl, _, rfl, _, _, rfl, rfl, .inl ⟨by omega, by omega⟩, _, rfl, _, _, rfl, rfl, .inr ⟨by decide, by decide⟩, _, rfl, _, _, rfl, rfl, _, rfl, _, _, rfl, rfl, modM, _, _, rfl, rfl, ?_⟩
      refine q _ ?_
      have := fmod_lo (a := z * 48271 + i)
      omega

/-! the source of draws: [numbers, i, x, y], all not negative -/
def Src (H : Hp) (a n : Addr) : Prop := ∃ (i x y : Int) (ns : List Int), H a = some (.lst [.ref n, .int i, .int x, .int y]) ∧ H n = some (.lst (ns.map V.int)) ∧ (∀ z ∈ ns, 0 ≤ z) ∧ 0 ≤ i ∧ 0 ≤ x ∧ 0 ≤ y ∧ ns.length ≤ 20
/-- the source stands at a still; all else that was tracked is as it was -/
def Stp (a n : Addr) (H H' : Hp) : Prop := Src H' a n ∧ ∀ c o, H c = some o → c ≠ a → H' c = some o
theorem Stp.trans {a n : Addr} {H H1 H2 : Hp} (h : Stp a n H H1) (h2 : Stp a n H1 H2) : Stp a n H H2 := ⟨h2.1, fun c o e z => h2.2 c o (h.2 c o e z) z⟩
theorem Stp.seq {a m l : Addr} {H H' : Hp} {xs : List V} (h : Stp a m H H') (n : l ≠ a) (q : SqL K H l xs) : SqL K H' l xs := by
  rcases q with (q | ⟨o, q⟩) | q
  · exact .inl (.inl (h.2 _ _ q n))
  · exact .inl (.inr ⟨o, h.2 _ _ q n⟩)
  · exact .inr q
theorem Src.ne {H : Hp} {a n : Addr} {i x y : Int} {ns : List Int} (h : H a = some (.lst [.ref n, .int i, .int x, .int y])) (h2 : H n = some (.lst (ns.map V.int))) : n ≠ a := fun e => by
  rw [e, h] at h2
  cases ns with
  | nil => cases h2
  | cons z r => cases h2
theorem same_upd {H : Hp} {p : Addr} {o : HO} (h : H p = none) : Same H (upd H p o) := fun b x e => by
  rw [upd_ne (ne_of_none e h)]
  exact e
theorem take_min (xs : List V) (n : Nat) : xs.take (min n xs.length) = xs.take n := by
  by_cases h : n ≤ xs.length
  · rw [Nat.min_eq_left h]
  · rw [Nat.min_eq_right (by omega), List.take_length, List.take_of_length_le (by omega)]
theorem cut_to (xs : List V) (n : Nat) : cutV xs none (some (n : Int)) = xs.take n := by
  unfold cutV
  rw [HT.sIx_none, HT.sIx_nat, List.drop_zero, Nat.sub_zero, take_min]
theorem cut_mid (xs : List V) (n m : Nat) (hnm : n ≤ m) : cutV xs (some (n : Int)) (some (m : Int)) = (xs.drop n).take (m - n) := by
  unfold cutV
  rw [HT.sIx_nat, HT.sIx_nat]
  by_cases h : n ≤ xs.length
  · rw [Nat.min_eq_left h]
    by_cases h2 : m ≤ xs.length
    · rw [Nat.min_eq_left h2]
    · rw [Nat.min_eq_right (by omega), List.take_of_length_le (by rw [List.length_drop]; omega), List.take_of_length_le (by rw [List.length_drop]; omega)]
  · rw [Nat.min_eq_right (show xs.length ≤ n by omega), List.drop_of_length_le (Nat.le_refl _), List.drop_of_length_le (show xs.length ≤ n by omega), List.take_nil, List.take_nil]
theorem cut_from (xs : List V) (n : Nat) : cutV xs (some (n : Int)) none = xs.drop n := by
  unfold cutV
  rw [HT.sIx_none, HT.sIx_nat]
  by_cases h : n ≤ xs.length
  · rw [Nat.min_eq_left h, List.take_of_length_le (by rw [List.length_drop]; omega)]
  · rw [Nat.min_eq_right (by omega), List.drop_of_length_le (by omega), List.drop_of_length_le (by omega), List.take_nil]
/-- for i, x in enumerate(list) -/
theorem for_enum {a : Addr} {xs : List V} {g : TG} {tb : TS} {D : Ends} {σ : L2.St} {H : Hp} (Pv : Nat → L2.St → Hp → Prop) (h0 : Pv 0 σ H) (hl : ∀ i σ H, i ≤ xs.length → Pv i σ H → SqL K H a xs)
    (hs : ∀ i x σ H T, xs[i]? = some x → Pv i σ H → H T = none → g (.ref T) σ (upd H T (.tup [.int (i : Nat), x])) fun σ2 H2 => tb { D with nx := Pv (i + 1), ct := Pv (i + 1), bk := D.nx } σ2 H2) (hd : ∀ σ H, Pv xs.length σ H → D.nx σ H) :
    ∃ W : Nat → Nat → L2.St → Hp → Prop, (∃ m, W 0 m σ H) ∧ ∀ i m σ H, W i m σ H →
      ((Ite K a).stop i H ∧ D.nx σ H) ∨ ((Ite K a).go i H ∧ ∃ N : L2.St → Hp → Prop, (∀ σ' H', N σ' H' → ∃ m', m' < m ∧ W (i + 1) m' σ' H') ∧ ∀ x H', (Ite K a).yld i H x H' → g x σ H' fun σ2 H2 => tb { D with nx := N, ct := N, bk := D.nx } σ2 H2) := by
  refine ⟨fun i m σ H => i + m = xs.length ∧ Pv i σ H, ⟨xs.length, by omega, h0⟩, ?_⟩
  rintro i m σ H ⟨hm, p⟩
  have q := hl i σ H (by omega) p
  by_cases hlt : i < xs.length
  · refine .inr ⟨⟨xs, xs[i], q, List.getElem?_eq_getElem hlt⟩, Pv (i + 1), fun σ' H' p' => ⟨m - 1, by omega, by omega, p'⟩, fun v H' y => ?_⟩
    obtain ⟨T, x, rfl, hT, rfl, y⟩ := y
    exact hs i x σ H T (y xs q) p hT
  · have e : i = xs.length := by omega
    subst e
    exact .inl ⟨⟨xs, q, Nat.le_refl _⟩, hd σ H p⟩
/-! ### draws -/
def absI (i : Int) : Int := if i < 0 then -i else i
theorem absI_nn (i : Int) : 0 ≤ absI i := by
  unfold absI
  split <;> omega
theorem scDrw : FnScope ["script", "number", "numbers", "index"] ["script"] (defScope sDrw) := ⟨rfl, rfl, rfl, by decide +kernel, rfl, by decide +kernel, by decide +kernel⟩
def spDrw (K : PySem.W.Frag) : Sp := fun vs H Q _ => ∃ (a : Addr) (ns : List Int), vs = [.ref a] ∧ SqL K H a (ns.map V.int) ∧ ns.length ≤ 63 ∧ ∀ H' p n, Same H H' → H p = none → H n = none → Src H' p n → Q (.ref p) H'
theorem map_get {ns : List Int} {i : Nat} {y : V} (h : (ns.map V.int)[i]? = some y) : ∃ z, ns[i]? = some z ∧ y = .int z := by
  rw [List.getElem?_map] at h
  cases e : ns[i]? with
  | none =>
    rw [e] at h
    cases h
  | some z =>
    rw [e] at h
    exact ⟨z, rfl, (Option.some.inj h).symm⟩
theorem ok_drw {f : Addr} {fd : FuncData} {k : Nat} (F : Fun K "_law_draws" "_law_draws" sDrw f fd) (me : mg "enumerate" = none) (ma : mg "abs" = none) : FnOk P w K mg base CX0 (k + 1) f fd ["script"] (spDrw K) := by
  refine F.ok scDrw (fun vs H Q E h => ?_) (fun cdv A outer s H vs Q E hr h => ?_)
  · obtain ⟨a, ns, rfl, _⟩ := h
    rfl
  · obtain ⟨a, ns, rfl, hS, hlen, q⟩ := h
    refine ⟨_, pss_cons (ps_setLc (i := 2) (own := [("number", 1)]) (g := gName 1) (tt := tYes) (by rfl) scDrw.nd rfl rfl (sw_true rfl rfl rfl (by decide +kernel)) (pi_list (pe_slice sl_list (pv 0) po_none (po_some pe_int))) (blkOk_by (N := ["script", "number", "numbers", "index"]) (sc := defScope sDrw) (by decide +kernel))
        (fun _ _ _ _ _ => pg_name (i := 1) scDrw.nd rfl (.inl rfl)) (fun _ _ _ _ _ => pts_nil) (fun _ _ _ _ _ => pe_callB call_abs (by rfl) ma (by decide +kernel) (pa_cons (pv 1) pa_nil)))
      (pss_cons (ps_for PassesOwn.never rfl (pi_enum (by rfl) me (pa_cons (pe_slice sl_list (pv 0) (po_some pe_int) (po_some pe_int)) pa_nil)) (pg_tup rfl (pgs_cons (pg_name (i := 3) scDrw.nd rfl (.inl rfl)) (pgs_cons (pg_name (i := 1) scDrw.nd rfl (.inl rfl)) pgs_nil)))
        (pss_one (ps_asg (pe_op op_add (pe_ix ix_list (pv 2) (pe_op op_modN (pv 3) pe_int) (fun _ _ => rfl)) (pe_callB call_abs (by rfl) ma (by decide +kernel) (pa_cons (pv 1) pa_nil))) (pg_sub (pv 2) (pe_op op_modN (pv 3) pe_int) set_list))))
      (pss_one (ps_ret (pe_lst (pa_cons (pv 2) (pa_cons pe_int (pa_cons pe_int (pa_cons pe_int pa_nil)))))))), ?_⟩
    have e1 : cutV (ns.map V.int) none (some 20) = (ns.take 20).map V.int := by
      rw [List.map_take]
      exact cut_to _ 20
    have e2 : cutV (ns.map V.int) (some 20) (some 60) = ((ns.drop 20).take 40).map V.int := by
      rw [List.map_take, List.map_drop]
      exact cut_mid _ 20 60 (by omega)
    refine ⟨.ref a, rfl, 20, rfl, a, ns.map V.int, rfl, hS, fun c nc => ⟨c, rfl, ⟨_, .inl (.inl upd_same)⟩, fun D nD => lc_list (K := K) (a := c) (xs := (ns.take 20).map V.int)
      (fun i H' => Same H H' ∧ H' c = some (.lst ((ns.take 20).map V.int)) ∧ H' D = some (.lst ((((ns.take 20).take i).map absI).map V.int))) ?_ ?_ ?_ ?_⟩⟩
    · have ncD : c ≠ D := fun e => by
        rw [← e, upd_same] at nD
        cases nD
      refine ⟨(same_upd nc).trans (same_upd nD), ?_, upd_same⟩
      rw [upd_ne ncD, upd_same, e1]
    · exact fun i H' _ h => .inl (.inl h.2.1)
    · rintro i y H1 hy ⟨sm, hc, hD⟩
      obtain ⟨z, hz, rfl⟩ := map_get hy
      refine ⟨rfl, _, rfl, z, rfl, _, hD, ?_, fun b o e => ?_, ?_, ?_⟩
      · rw [List.length_map, List.length_map]
        exact small1000 (by simp only [List.length_take]; omega)
      · rw [upd_ne (ne_of_none e ((same_upd nc).free nD))]
        exact sm _ _ e
      · have ncD : c ≠ D := fun e => by
          rw [← e, upd_same] at nD
          cases nD
        rw [upd_ne ncD]
        exact hc
      · rw [upd_same, List.take_add_one (l := List.take 20 ns), hz]
        simp only [Option.toList, List.map_append, List.map_cons, List.map_nil]
        rfl
    · rintro H1 ⟨sm, hc, hD⟩
      rw [List.length_map, List.take_length] at hD
      have hnD : H D = none := (same_upd nc).free nD
      generalize hms : (ns.take 20).map absI = ms at hD
      have hms0 : ∀ z ∈ ms, 0 ≤ z := fun z h => by
        rw [← hms] at h
        obtain ⟨u, _, rfl⟩ := List.mem_map.mp h
        exact absI_nn u
      have hml : ms.length = min 20 ns.length := by rw [← hms, List.length_map, List.length_take]
      refine ⟨.ref a, rfl, 20, rfl, 60, rfl, a, ns.map V.int, rfl, sm.seq hS, fun c2 nc2 => ⟨c2, _, rfl, .inl (.inl upd_same), ?_⟩⟩
      have nD2 : D ≠ c2 := ne_of_none hD nc2
      refine for_enum (K := K) (a := c2) (xs := ((ns.drop 20).take 40).map V.int) (fun i σ H' => ∃ (y1 y3 : Option V) (ks : List Int), σ = [some (.ref a), y1, some (.ref D), y3] ∧ Same H H' ∧ H' c2 = some (.lst (((ns.drop 20).take 40).map V.int)) ∧ H' D = some (.lst (ks.map V.int)) ∧ ks.length = ms.length ∧ ∀ z ∈ ks, 0 ≤ z) ?_ ?_ ?_ ?_
      · refine ⟨_, none, ms, rfl, sm.trans (same_upd nc2), ?_, ?_, rfl, hms0⟩
        · rw [upd_same, e2]
        · rw [upd_ne nD2]
          exact hD
      · rintro i σ H' _ ⟨_, _, _, _, _, hc2, _⟩
        exact .inl (.inl hc2)
      · rintro i x σ H' T hx ⟨y1, y3, ks, rfl, sm', hc2, hD', hl', hn'⟩ hT
        obtain ⟨z, hz, rfl⟩ := map_get hx
        have hi : i < ((ns.drop 20).take 40).length := (List.getElem?_eq_some_iff.mp hz).1
        rw [List.length_take, List.length_drop] at hi
        have hj : i % 20 < ks.length := by
          rw [hl', hml, Nat.min_eq_left (by omega)]
          exact Nat.mod_lt _ (by decide)
        have ej : ((i : Int)).fmod 20 = ((i % 20 : Nat) : Int) := by
          rw [Int.fmod_eq_emod_of_nonneg _ (by decide)]
          omega
        have hDT : D ≠ T := ne_of_none hD' hT
        have hD2 : (upd H' T (.tup [.int (i : Nat), .int z])) D = some (.lst (ks.map V.int)) := by
          rw [upd_ne hDT]
          exact hD'
        have gk : (ks.map V.int)[i % 20]? = some (.int ks[i % 20]) := by
          rw [List.getElem?_map, List.getElem?_eq_getElem hj]
          rfl
        refine ⟨T, _, rfl, .inl (.inl upd_same), rfl, _, _, rfl, _, _, rfl, rfl, ?_⟩
        refine ⟨_, rfl, _, rfl, _, _, rfl, rfl, mod20, D, ks.map V.int, _, _, rfl, rfl, .inl (.inl hD2), at_of ej gk, _, rfl, z, rfl, _, _, rfl, rfl, ?_⟩
        refine ⟨_, rfl, _, rfl, _, _, rfl, rfl, mod20, D, ks.map V.int, _, i % 20, rfl, rfl, hD2, ?_, ?_⟩
        · rw [ej, List.length_map]
          exact Evl.ixN_nat hj
        · refine ⟨_, _, ks.set (i % 20) (ks[i % 20] + absI z), rfl, fun b o e => ?_, ?_, ?_, by rw [List.length_set, hl'], ?_⟩
          · have nb : b ≠ D := ne_of_none e hnD
            rw [upd_ne nb, upd_ne (ne_of_none (sm' _ _ e) hT)]
            exact sm' _ _ e
          · have nc2D : c2 ≠ D := nD2.symm
            rw [upd_ne nc2D, upd_ne (ne_of_none hc2 hT)]
            exact hc2
          · rw [upd_same, List.map_set]
            rfl
          · intro u hu
            rcases List.mem_or_eq_of_mem_set hu with h | rfl
            · exact hn' _ h
            · have := hn' _ (List.getElem_mem hj)
              have := absI_nn z
              omega
      · rintro σ H' ⟨y1, y3, ks, rfl, sm', hc2, hD', hl', hn'⟩
        refine ⟨_, rfl, by show 4 ≤ sizeLine; decide, fun p np => ?_⟩
        refine q _ p D (sm'.trans (same_upd np)) (sm'.free np) hnD ⟨0, 0, 0, ks, upd_same, ?_, hn', by decide, by decide, by decide, by rw [hl', hml]; omega⟩
        rw [upd_ne (ne_of_none hD' np)]
        exact hD'
end
section
variable {P : Program} {w : World} {K : PySem.W.Frag} {mg : Str → Option Value} {base : Heap}
/-! ### next -/
theorem scNxt : FnScope ["source", "bound", "numbers", "index", "number", "found"] ["source", "bound"] (defScope sNxt) := ⟨rfl, rfl, rfl, by decide +kernel, rfl, by decide +kernel, by decide +kernel⟩
def spNxt : Sp := fun vs H Q _ => ∃ (a n : Addr) (b : Int), vs = [.ref a, .int b] ∧ Src H a n ∧ 0 < b ∧ b.natAbs < 2 ^ 200 ∧ ∀ (r : Int) H', 0 ≤ r → r < b → Stp a n H H' → Q (.int r) H'
theorem dp_ints {H : Hp} : ∀ ns : List Int, DpAll K H (ns.map V.int) (ns.map PyData.int)
  | [] => .nil
  | z :: r => .cons (.int z) (dp_ints r)
theorem lay_ints : ∀ ns : List Int, PyData.canLayAll0 (ns.map PyData.int) = true
  | [] => by simp [PyData.canLayAll0]
  | z :: r => by
    have ih := lay_ints r
    simp [PyData.canLayAll0, PyData.canLay0, ih]
theorem depth_ints : ∀ ns : List Int, PyData.depthAll (ns.map PyData.int) = 0
  | [] => by simp [PyData.depthAll]
  | z :: r => by
    have ih := depth_ints r
    simp [PyData.depthAll, PyData.depth, ih]
theorem shaped_ints (ns : List Int) : SeqAt.shaped (.list (ns.map PyData.int)) = true := by
  unfold SeqAt.shaped
  simp [PyData.canLay0, PyData.depth, lay_ints, depth_ints]
theorem mod1e9 : (1000000007 : Int) ≠ 0 := by decide
/-- the source's four places -/
abbrev src4 (n : Addr) (i x y : Int) : HO := .lst [.ref n, .int i, .int x, .int y]
theorem ok_nxt {f fS : Addr} {fd fdS : FuncData} {k : Nat} (F : Fun K "_law_next" "_law_next" sNxt f fd) (ml : mg "len" = none) (FS : Fun K "_law_scramble" "_law_scramble" sScr fS fdS) (bS : Binds K fdS ["number", "index"] []) (gS : mg "_law_scramble" = some (.ref fS)) (mr : mg "range" = none) :
    FnOk P w K mg base CX0 (k + 2) f fd ["source", "bound"] spNxt := by
  have GS : FnOk P w K mg base CX0 (k + 1) fS fdS ["number", "index"] spScr := ok_scr FS mr
  refine F.ok scNxt (fun vs H Q E h => ?_) (fun cdv A outer s H vs Q E hr h => ?_)
  · obtain ⟨a, n, b, rfl, _⟩ := h
    rfl
  · obtain ⟨a, n, b, rfl, ⟨i, x, y, ns, hA, hN, hpos, hi, hx, hy, hlen⟩, hb, hb2, q⟩ := h
    have nna : n ≠ a := Src.ne hA hN
    refine ⟨_, C8.pss_cut (ps_if (pt_cmpR op_lt (pe_ix ix_list (pv 0) pe_int (fun _ _ => rfl)) (pv 1) (nomark _))
        (pss_cons (ps_par (i := 2) (j := 3) (by rfl) scNxt.nd rfl rfl (by decide) rfl rfl (pa_cons (pe_ix ix_list (pv 0) pe_int (fun _ _ => rfl)) (pa_cons (pe_ix ix_list (pv 0) pe_int (fun _ _ => rfl)) pa_nil)) (by rfl))
        (C8.pss_cut (ps_set (i := 4) scNxt.nd rfl (.inl rfl) (pe_ifExp (pt_cmpR (op_neD hr.units) (pv 2) (pe_lst pa_nil) (nomark _)) (pe_ix ix_list (pv 2) (pe_op op_modN (pv 3) (pe_callB call_len_seq (by rfl) ml PySem.boot_len (pa_cons (pv 2) pa_nil))) (fun _ _ => rfl)) pe_int))
        (C8.pss_cut (ps_if (PW.pt (pw_or (pt_cmpR op_ge (pv 3) (pe_callB call_len_seq (by rfl) ml PySem.boot_len (pa_cons (pv 2) pa_nil)) (nomark _)) (pw_or1 (pt_cmpR op_lt (pv 4) pe_int (nomark _)))))
            (pss_one (ps_set (i := 4) scNxt.nd rfl (.inl rfl) (pe_call GS hr (by rfl) gS FS.kp bS .nil pass0 (pa_cons (pe_op op_modN (pv 4) pe_int) (pa_cons (pv 3) pa_nil))))) pss_nil)
        (pss_cons (ps_asg (pe_op op_add (pv 3) pe_int) (pg_sub (pv 0) pe_int set_list))
        (pss_cons (ps_asg (pv 4) (pg_sub (pv 0) pe_int set_list))
        (pss_one (ps_asg (pv 4) (pg_sub (pv 0) pe_int set_list)))))))) pss_nil)
      (pss_cons (ps_set (i := 5) scNxt.nd rfl (.inl rfl) (pe_op op_modN (pe_ix ix_list (pv 0) pe_int (fun _ _ => rfl)) (pv 1)))
      (pss_cons (ps_asg (pe_op op_fdivW (pe_ix ix_list (pv 0) pe_int (fun _ _ => rfl)) (pv 1)) (pg_sub (pv 0) pe_int set_list))
      (pss_cons (ps_asg (pe_op op_fdivW (pe_ix ix_list (pv 0) pe_int (fun _ _ => rfl)) (pv 1)) (pg_sub (pv 0) pe_int set_list))
      (pss_one (ps_ret (pv 5)))))), ?_⟩
    refine ⟨fun σ H' => ∃ (y2 y3 y4 : Option V) (i' x' y' : Int), σ = [some (.ref a), some (.int b), y2, y3, y4, none] ∧ H' a = some (src4 n i' x' y') ∧ 0 ≤ i' ∧ 0 ≤ x' ∧ 0 ≤ y' ∧ ∀ c o, H c = some o → c ≠ a → H' c = some o, ?_, ?_⟩
    · refine ⟨.ref a, rfl, a, _, 3, _, rfl, rfl, .inl (.inl hA), atI_nat (j := 3) rfl, _, rfl, y, b, rfl, rfl, _, rfl, ite2 (fun _ => ?_) (fun _ => ?_)⟩
      · refine ⟨.ref a, rfl, a, _, 0, _, rfl, rfl, .inl (.inl hA), atI_nat (j := 0) rfl, .ref a, rfl, a, _, 1, _, rfl, rfl, .inl (.inl hA), atI_nat (j := 1) rfl, _, _, rfl, ?_⟩
        refine ⟨fun σ H' => ∃ z : Int, σ = [some (.ref a), some (.int b), some (.ref n), some (.int i), some (.int z), none] ∧ 0 ≤ z ∧ Same H H', ?_, ?_⟩
        · refine ⟨.ref n, rfl, by show 0 ≤ sizeLine; decide, fun p np => ?_⟩
          have hN1 : (upd H p (.lst [])) n = some (.lst (ns.map V.int)) := same_upd np _ _ hN
          refine ⟨.list (ns.map PyData.int), .list [], .lst (.inl (.inl hN1)) (dp_ints ns), .lst (.inl (.inl upd_same)) .nil, shaped_ints ns, shaped_ints [], _, rfl, ite2 (fun hne => ?_) (fun he => ?_)⟩
          · have nz : ns ≠ [] := fun e => by
              subst e
              revert hne
              decide +kernel
            have hl0 : 0 < ns.length := List.length_pos_iff.mpr nz
            have hj : i.toNat % ns.length < ns.length := Nat.mod_lt _ hl0
            have ej : i.fmod (ns.length : Int) = ((i.toNat % ns.length : Nat) : Int) := by
              rw [Int.fmod_eq_emod_of_nonneg _ (by omega), Int.natCast_emod]
              congr 1
              omega
            have gk : (ns.map V.int)[i.toNat % ns.length]? = some (.int ns[i.toNat % ns.length]) := by
              rw [List.getElem?_map, List.getElem?_eq_getElem hj]
              rfl
            refine ⟨.ref n, rfl, _, rfl, .ref n, rfl, n, _, rfl, .inl (.inl (.inl hN1)), _, _, rfl, rfl, ?_, n, _, _, _, rfl, rfl, .inl (.inl hN1), at_of (by rw [List.length_map]; exact ej) gk, ?_⟩
            · rw [List.length_map]
              omega
            · exact ⟨_, rfl, hpos _ (List.getElem_mem hj), same_upd np⟩
          · exact ⟨0, rfl, by decide, same_upd np⟩
        · rintro σ H1 ⟨z, rfl, hz, sm⟩
          have hN1 := sm _ _ hN
          have hA1 := sm _ _ hA
          refine ⟨fun σ H' => ∃ z : Int, σ = [some (.ref a), some (.int b), some (.ref n), some (.int i), some (.int z), none] ∧ 0 ≤ z ∧ Same H H', ?_, ?_⟩
          · refine ⟨_, rfl, .ref n, rfl, n, _, rfl, .inl (.inl (.inl hN1)), _, _, rfl, rfl, _, rfl, ite2 (fun _ => ?_) (fun _ => ?_)⟩
            · exact ⟨_, rfl, _, _, rfl, rfl, mod1e9, _, rfl, _, _, rfl, fun r h0 => ⟨r, rfl, h0, sm⟩⟩
            · refine ⟨_, rfl, _, _, rfl, rfl, _, rfl, ite2 (fun _ => ?_) (fun _ => ?_)⟩
              · exact ⟨_, rfl, _, _, rfl, rfl, mod1e9, _, rfl, _, _, rfl, fun r h0 => ⟨r, rfl, h0, sm⟩⟩
              · exact ⟨z, rfl, hz, sm⟩
          · rintro σ H2 ⟨z2, rfl, hz2, sm2⟩
            have hA2 := sm2 _ _ hA
            refine ⟨_, rfl, _, _, rfl, rfl, .ref a, rfl, a, _, _, 1, rfl, rfl, hA2, rfl, ?_⟩
            refine ⟨_, rfl, .ref a, rfl, a, _, _, 2, rfl, rfl, upd_same, rfl, ?_⟩
            refine ⟨_, rfl, .ref a, rfl, a, _, _, 3, rfl, rfl, upd_same, rfl, ?_⟩
            refine ⟨_, _, _, i + 1, z2, z2, rfl, upd_same, by omega, hz2, hz2, fun c o e ne => ?_⟩
            rw [upd_ne ne, upd_ne ne, upd_ne ne]
            exact sm2 _ _ e
      · exact ⟨none, none, none, i, x, y, rfl, hA, hi, hx, hy, fun c o e _ => e⟩
    · rintro σ H' ⟨y2, y3, y4, i', x', y', rfl, hA', hi', hx', hy', kp⟩
      have bne : b ≠ 0 := by omega
      have wd : ∀ u : Int, CDivW u b := fun u => wide_div hb hb2 (by decide) (by decide)
      refine ⟨.ref a, rfl, a, _, 2, _, rfl, rfl, .inl (.inl hA'), atI_nat (j := 2) rfl, _, rfl, _, _, rfl, rfl, bne, ?_⟩
      refine ⟨.ref a, rfl, a, _, 2, _, rfl, rfl, .inl (.inl hA'), atI_nat (j := 2) rfl, _, rfl, _, _, rfl, rfl, wd _, .ref a, rfl, a, _, _, 2, rfl, rfl, hA', rfl, ?_⟩
      refine ⟨.ref a, rfl, a, _, 3, _, rfl, rfl, .inl (.inl upd_same), atI_nat (j := 3) rfl, _, rfl, _, _, rfl, rfl, wd _, .ref a, rfl, a, _, _, 3, rfl, rfl, upd_same, rfl, ?_⟩
      refine ⟨_, rfl, q _ _ (Int.fmod_nonneg_of_pos _ hb) (Int.fmod_lt_of_pos _ hb) ⟨⟨i', x' / b, y' / b, ns, upd_same, ?_, hpos, hi', Int.ediv_nonneg hx' (by omega), Int.ediv_nonneg hy' (by omega), hlen⟩, fun c o e ne => ?_⟩⟩
      · rw [upd_ne nna, upd_ne nna]
        exact kp _ _ hN nna
      · rw [upd_ne ne, upd_ne ne]
        exact kp _ _ e ne
/-! ### choose -/
theorem scCho : FnScope ["source", "items"] ["source", "items"] (defScope sCho) := ⟨rfl, rfl, rfl, by decide +kernel, rfl, by decide +kernel, by decide +kernel⟩
def spCho (K : PySem.W.Frag) : Sp := fun vs H Q _ => ∃ (a n l : Addr) (xs : List V), vs = [.ref a, .ref l] ∧ Src H a n ∧ SqL K H l xs ∧ l ≠ a ∧ xs ≠ [] ∧ xs.length ≤ 1000000 ∧ ∀ v H', v ∈ xs → Stp a n H H' → Q v H'
theorem ok_cho {f fN : Addr} {fd fdN : FuncData} {k : Nat} (F : Fun K "_law_choose" "_law_choose" sCho f fd) (ml : mg "len" = none) (GN : FnOk P w K mg base CX0 (k + 2) fN fdN ["source", "bound"] spNxt) (kN : PySem.W.keepIn K (.ref fN) = true) (bN : Binds K fdN ["source", "bound"] []) (gN : mg "_law_next" = some (.ref fN)) :
    FnOk P w K mg base CX0 (k + 3) f fd ["source", "items"] (spCho K) := by
  refine F.ok scCho (fun vs H Q E h => ?_) (fun cdv A outer s H vs Q E hr h => ?_)
  · obtain ⟨a, n, l, xs, rfl, _⟩ := h
    rfl
  · obtain ⟨a, n, l, xs, rfl, hs, hl, hne, hx, hz, q⟩ := h
    refine ⟨_, pss_one (ps_ret (pe_ix ix_list (pv 1) (pe_call GN hr (by rfl) gN kN bN .nil pass0 (pa_cons (pv 0) (pa_cons (pe_callB call_len_seq (by rfl) ml PySem.boot_len (pa_cons (pv 1) pa_nil)) pa_nil))) (fun _ _ => rfl))), ?_⟩
    have hlp : 0 < xs.length := List.length_pos_iff.mpr hx
    refine ⟨.ref l, rfl, .ref a, rfl, .ref l, rfl, l, xs, rfl, .inl hl, a, n, _, rfl, hs, by omega, ?_, fun r H' h0 h1 st => ?_⟩
    · rw [Int.natAbs_natCast]
      exact Nat.lt_of_le_of_lt hz (by decide)
    · obtain ⟨j, rfl⟩ := Int.eq_ofNat_of_zero_le h0
      have hj : j < xs.length := by omega
      exact ⟨l, xs, _, _, rfl, rfl, st.seq hne hl, atI_nat (List.getElem?_eq_getElem hj), q _ _ (List.getElem_mem hj) st⟩
/-! ### identical -/
theorem scIde : FnScope ["found", "expected"] ["found", "expected"] (defScope sIde) := ⟨rfl, rfl, rfl, by decide +kernel, rfl, by decide +kernel, by decide +kernel⟩
/-- data that is shown -/
structure Shn (d : PyData) : Prop where
  sh : d.showable = true
  nd : d.hasDict = false
  dp : d.depth ≤ 60
  sz : d.shown.length ≤ sizeLine
def spIde (K : PySem.W.Frag) : Sp := fun vs H Q _ => ∃ (x y : V) (d : PyData), vs = [x, y] ∧ Dp K H x d ∧ Dp K H y d ∧ Shn d ∧ Q (.bl true) H
theorem ok_ide {f : Addr} {fd : FuncData} {k : Nat} (F : Fun K "_law_identical" "_law_identical" sIde f fd) (mp : mg "repr" = none) : FnG P w K mg base (k + 1) f fd ["found", "expected"] (spIde K) := by
  refine Fun_okG F scIde (fun vs H Q E h => ?_) (fun cdv A outer s H vs Q E hg hr h => ?_)
  · obtain ⟨x, y, d, rfl, _⟩ := h
    rfl
  · obtain ⟨x, y, d, rfl, hx, hy, hd, q⟩ := h
    have hun : (cxOf CX0 P w K mg base ["found", "expected"] "_law_identical" (defScope sIde) f cdv A outer s H E).nox.A.units + 100 < cLine := by
      have := hr.un
      show (A.deeper _).units + 100 < cLine
      omega
    refine ⟨_, pss_one (ps_ret (pe_cmpR op_eq (pe_callB (call_reprD hg hun) (by rfl) mp (by decide +kernel) (pa_cons (pv 0) pa_nil)) (pe_callB (call_reprD hg hun) (by rfl) mp (by decide +kernel) (pa_cons (pv 1) pa_nil)) (nomark _))), ?_⟩
    refine ⟨x, rfl, x, d, rfl, hx, hd.sh, hd.nd, hd.dp, hd.sz, y, rfl, y, d, rfl, hy, hd.sh, hd.nd, hd.dp, hd.sz, rfl, ?_⟩
    rw [decide_eq_true rfl]
    exact q
end
section
variable {P : Program} {w : World} {K : PySem.W.Frag} {mg : Str → Option Value} {base : Heap}
theorem eqv_ints : ∀ as bs : List Int, PyData.eqvAll (as.map PyData.int) (bs.map PyData.int) = decide (as = bs)
  | [], [] => by simp [PyData.eqvAll]
  | [], b :: bs => by simp [PyData.eqvAll]
  | a :: as, [] => by simp [PyData.eqvAll]
  | a :: as, b :: bs => by
    have ih := eqv_ints as bs
    rw [List.map_cons, List.map_cons]
    show (PyData.eqvAll (.int a :: as.map PyData.int) (.int b :: bs.map PyData.int)) = _
    rw [PyData.eqvAll, ih, PyData.eqv]
    by_cases e1 : a = b <;> by_cases e2 : as = bs <;> simp [e1, e2]
theorem shaped_intsT (ns : List Int) : SeqAt.shaped (.tuple (ns.map PyData.int)) = true := by
  unfold SeqAt.shaped
  simp [PyData.canLay0, PyData.depth, lay_ints, depth_ints]
theorem dp_tup {H : Hp} {a : Addr} {ns : List Int} (h : SqT K H a (ns.map V.int)) : Dp K H (.ref a) (.tuple (ns.map PyData.int)) := .tup h (dp_ints ns)
theorem eqvT (as bs : List Int) : PyData.eqv (.tuple (as.map PyData.int)) (.tuple (bs.map PyData.int)) = decide (as = bs) := by
  rw [← eqv_ints]
  simp [PyData.eqv]
end
/-! tuples joined, repeated, cut: some tuple, all else as it was -/
theorem Same.seqT {K : PySem.W.Frag} {H H' : Hp} {a : Addr} {xs : List V} (e : Same H H') (h : SqT K H a xs) : SqT K H' a xs := by
  rcases h with (h | ⟨o, h⟩) | h
  · exact .inl (.inl (e _ _ h))
  · exact .inl (.inr ⟨o, e _ _ h⟩)
  · exact .inr h
theorem Stp.seqT {K : PySem.W.Frag} {a m l : Addr} {H H' : Hp} {xs : List V} (h : Stp a m H H') (n : SqT K H l xs → l ≠ a) (q : SqT K H l xs) : SqT K H' l xs := by
  have n := n q
  rcases q with (q | ⟨o, q⟩) | q
  · exact .inl (.inl (h.2 _ _ q n))
  · exact .inl (.inr ⟨o, h.2 _ _ q n⟩)
  · exact .inr q
theorem Src.same {H H' : Hp} {a n : Addr} (h : Src H a n) (e : Same H H') : Src H' a n := by
  obtain ⟨i, x, y, ns, h1, h2, h3⟩ := h
  exact ⟨i, x, y, ns, e _ _ h1, e _ _ h2, h3⟩
theorem Stp.of {H H' : Hp} {a n : Addr} (h : Src H a n) (e : Same H H') : Stp a n H H' := ⟨h.same e, fun c o z _ => e c o z⟩
theorem Stp.refl {H : Hp} {a n : Addr} (h : Src H a n) : Stp a n H H := .of h (Same.refl H)
theorem Stp.then {H H1 H2 : Hp} {a n : Addr} (h : Stp a n H H1) (e : Same H1 H2) : Stp a n H H2 := h.trans (.of h.1 e)
section
variable {X : Cx}
def rRepU (K : PySem.W.Frag) : R2 := fun x y H Q => ∃ l k xs, x = .ref l ∧ y = .int k ∧ SqT K H l xs ∧ xs.length = 1 ∧ -1000 ≤ k ∧ k ≤ 1000 ∧ ∀ p H', Same H H' → SqT K H' p (List.replicate k.toNat xs).flatten → Q (.ref p) H'
theorem op_repU : OpR X (binaryOp .Mult) (rRepU X.K) := by
  intro pins s σ H x y v u Q I rx ry h
  obtain ⟨l, k, xs, hx, hy, hT, hl, h1, h2, q⟩ := h
  refine op_repZ pins s σ H x y v u Q I rx ry ⟨l, k, xs, hx, hy, hT, ?_, h1, h2, by omega, fun h0 p np => ?_, fun h0 => ?_, fun h0 p np => ?_⟩
  · rintro rfl
    cases hl
  · refine q p _ (same_upd np) (.inl (.inl ?_))
    have e : k.toNat = 0 := by omega
    rw [e, upd_same]
    rfl
  · refine q l H (Same.refl H) ?_
    subst h0
    have e : (List.replicate (1 : Int).toNat xs).flatten = xs := by
      show (List.replicate 1 xs).flatten = xs
      simp
    rw [e]
    exact hT
  · exact q p _ (same_upd np) (.inl (.inl upd_same))
def rCatU (K : PySem.W.Frag) : R2 := fun x y H Q => ∃ a b xs ys, x = .ref a ∧ y = .ref b ∧ SqT K H a xs ∧ SqT K H b ys ∧ xs.length + ys.length ≤ sizeLine ∧ ∀ p H', Same H H' → SqT K H' p (xs ++ ys) → Q (.ref p) H'
theorem op_catU : OpR X (binaryOp .Add) (rCatU X.K) := by
  intro pins s σ H x y v u Q I rx ry h
  obtain ⟨a, b, xs, ys, hx, hy, ha, hb, hl, q⟩ := h
  refine op_catA pins s σ H x y v u Q I rx ry ⟨a, b, xs, ys, hx, hy, ha, hb, hl, fun e => ?_, fun _ e => ?_, fun _ _ p np => ?_⟩
  · subst e
    exact q b H (Same.refl H) hb
  · subst e
    exact q a H (Same.refl H) (by rw [List.append_nil]; exact ha)
  · exact q p _ (same_upd np) (.inl (.inl upd_same))
def rSlU (K : PySem.W.Frag) : V → Option Int → Option Int → Hp → VK → Prop := fun x lo hi H Q => ∃ a xs, x = .ref a ∧ SqT K H a xs ∧ ∀ p H', Same H H' → SqT K H' p (cutV xs lo hi) → Q (.ref p) H'
theorem sl_tupU : SlR X (rSlU X.K) := by
  intro pins s σ H x v vl vu lo hi sl Q I rx i1 i2 i3 hq
  obtain ⟨a, xs, hx, ha, q⟩ := hq
  refine sl_tupA pins s σ H x v vl vu lo hi sl Q I rx i1 i2 i3 ⟨a, xs, hx, ha, fun e => ?_, fun _ p np => ?_⟩
  · refine q a H (Same.refl H) ?_
    unfold cutV
    rw [e.1, e.2, List.drop_zero, Nat.sub_zero, List.take_length]
    exact ha
  · exact q p _ (same_upd np) (.inl (.inl upd_same))
end
theorem flat_one (n : Nat) (z : Int) : (List.replicate n [V.int z]).flatten = (List.replicate n z).map V.int := by
  induction n with
  | zero => rfl
  | succ n ih =>
    rw [List.replicate_succ, List.flatten_cons, ih, List.replicate_succ]
    rfl

abbrev sRnd : Stmt := topS 24
theorem Stp.tup {K : PySem.W.Frag} {a n l : Addr} {H H' : Hp} {xs : List V} (h : Stp a n H H') (hs : Src H a n) (q : SqT K H l xs) : SqT K H' l xs := by
  obtain ⟨i, x, y, ns, ha, _⟩ := hs
  rcases q with (q | ⟨o, q⟩) | q
  · exact .inl (.inl (h.2 _ _ q fun e => by rw [e, ha] at q; cases q))
  · exact .inl (.inr ⟨o, h.2 _ _ q fun e => by rw [e, ha] at q; cases q⟩)
  · exact .inr q
theorem Src.has {a n l : Addr} {H : Hp} (hs : Src H a n) (hl : H l = none) : l ≠ a := fun e => by
  obtain ⟨i, x, y, ns, ha, _⟩ := hs
  rw [e, ha] at hl
  cases hl
theorem Src.hasN {a n l : Addr} {H : Hp} (hs : Src H a n) (hl : H l = none) : l ≠ n := fun e => by
  obtain ⟨i, x, y, ns, _, hn, _⟩ := hs
  rw [e, hn] at hl
  cases hl
/-- an object beside the source and its numbers is changed -/
theorem Src.upd {a n l : Addr} {H : Hp} {o : HO} (hs : Src H a n) (h : l ≠ a) (h2 : l ≠ n) : Src (upd H l o) a n := by
  obtain ⟨i, x, y, ns, ha, hn, r⟩ := hs
  exact ⟨i, x, y, ns, by rw [upd_ne (Ne.symm h)]; exact ha, by rw [upd_ne (Ne.symm h2)]; exact hn, r⟩
/-- .. that was not there at the start -/
theorem Stp.upd {a n l : Addr} {H H' : Hp} {o : HO} (h : Stp a n H H') (hs : Src H a n) (hl : H l = none) : Stp a n H (upd H' l o) := by
  refine ⟨h.1.upd (hs.has hl) (hs.hasN hl), fun c o' e ne => ?_⟩
  rw [upd_ne (ne_of_none e hl)]
  exact h.2 c o' e ne
section
variable {P : Program} {w : World} {K : PySem.W.Frag} {mg : Str → Option Value} {base : Heap}
theorem scRnd : FnScope ["source", "degrees", "most", "coefficients", "index", "big"] ["source", "degrees", "most"] (defScope sRnd) := ⟨rfl, rfl, rfl, by decide +kernel, rfl, by decide +kernel, by decide +kernel⟩
structure Ordn (d m : Int) (zs : List Int) : Prop where
  len : (zs.length : Int) ≤ d
  nn : ∀ z ∈ zs, 0 ≤ z
  le : ∀ z ∈ zs, z ≤ max 2 m
  hd : zs.head? ≠ some 0
def spRnd (K : PySem.W.Frag) : Sp := fun vs H Q _ => ∃ (a n : Addr) (d m : Int), vs = [.ref a, .int d, .int m] ∧ Src H a n ∧ 0 ≤ d ∧ d ≤ 900 ∧ 0 ≤ m ∧ m.natAbs < 2 ^ 100 ∧ ∀ p H' zs, Stp a n H H' → SqT K H' p (zs.map V.int) → Ordn d m zs → Q (.ref p) H'
theorem ok_rnd {f fN fC : Addr} {fd fdN fdC : FuncData} {k : Nat} (F : Fun K "_law_random_ordinal" "_law_random_ordinal" sRnd f fd) (mr : mg "range" = none) (mt : mg "tuple" = none)
    (GN : FnOk P w K mg base CX0 (k + 3) fN fdN ["source", "bound"] spNxt) (kN : PySem.W.keepIn K (.ref fN) = true) (bN : Binds K fdN ["source", "bound"] []) (gN : mg "_law_next" = some (.ref fN))
    (GC : FnOk P w K mg base CX0 (k + 3) fC fdC ["source", "items"] (spCho K)) (kC : PySem.W.keepIn K (.ref fC) = true) (bC : Binds K fdC ["source", "items"] []) (gC : mg "_law_choose" = some (.ref fC)) :
    FnOk P w K mg base CX0 (k + 4) f fd ["source", "degrees", "most"] (spRnd K) := by
  refine F.ok scRnd (fun vs H Q E h => ?_) (fun cdv A outer s H vs Q E hr h => ?_)
  · obtain ⟨a, n, d, m, rfl, _⟩ := h
    rfl
  · obtain ⟨a, n, d, m, rfl, hs, hd0, hd1, hm0, hm1, q⟩ := h
    refine ⟨_, pss_cons (ps_set (i := 3) scRnd.nd rfl (.inl rfl) (pe_lst pa_nil))
      (C8.pss_cut (ps_for PassesOwn.never rfl (pi_range1 rfl mr (pa_cons (pe_call GN hr (by rfl) gN kN bN .nil pass0 (pa_cons (pv 0) (pa_cons (pe_op op_add (pv 1) pe_int) pa_nil))) pa_nil)) (pg_name (i := 4) scRnd.nd rfl (.inl rfl))
        (pss_cons (ps_set (i := 5) scRnd.nd rfl (.inl rfl) (pe_call GC hr (by rfl) gC kC bC .nil pass0 (pa_cons (pv 0) (pa_cons (pe_lst (pa_cons pe_int (pa_cons pe_int (pa_cons pe_int (pa_cons pe_int (pa_cons (pv 2) pa_nil)))))) pa_nil))))
        (pss_one (ps_expr (pe_bm PySem.F.plainAttrs_list PySem.F.slot_list_append PySem.F.type_list_append mt_append (pv 3) (pa_cons (pe_call GN hr (by rfl) gN kN bN .nil pass0 (pa_cons (pv 0) (pa_cons (pe_op op_add (pv 5) pe_int) pa_nil))) pa_nil))))))
      (pss_cons (ps_while PassesOwn.never (PW.pt (pw_and (pt_cmpR (op_neD hr.units) (pv 3) (pe_lst pa_nil) (nomark _)) (pw_and1 (pt_cmpR op_eq (pe_ix ix_list (pv 3) pe_int (fun _ _ => rfl)) pe_int (nomark _)))))
        (pss_one (ps_set (i := 3) scRnd.nd rfl (.inl rfl) (pe_slice sl_list (pv 3) (po_some pe_int) po_none))))
      (pss_one (ps_ret (pe_callTy call_tuple_of (by rfl) mt (by decide +kernel) (pa_cons (pv 3) pa_nil)))))), ?_⟩
    refine ⟨Nat.zero_le _, fun l hl => ?_⟩
    have hla : l ≠ a := hs.has hl
    have s0 : Stp a n H (upd H l (.lst [])) := .of hs (same_upd hl)
    refine ⟨fun σ H' => ∃ (y4 y5 : Option V) (ks : List Int), σ = [some (.ref a), some (.int d), some (.int m), some (.ref l), y4, y5] ∧ Stp a n H H' ∧ H' l = some (.lst (ks.map V.int)) ∧ (ks.length : Int) ≤ d ∧ (∀ z ∈ ks, 0 ≤ z) ∧ (∀ z ∈ ks, z ≤ max 2 m), ?_, ?_⟩
    · refine ⟨_, rfl, _, rfl, _, _, rfl, rfl, a, n, _, rfl, s0.1, by omega, by omega, fun r H1 r0 r1 s1 => ?_⟩
      have s01 := s0.trans s1
      refine ⟨r, rfl, by omega, by omega, for_range (n := r.toNat) (fun i σ H' => ∃ (y4 y5 : Option V) (ks : List Int), σ = [some (.ref a), some (.int d), some (.int m), some (.ref l), y4, y5] ∧ Stp a n H H' ∧ H' l = some (.lst (ks.map V.int)) ∧ ks.length = i ∧ (∀ z ∈ ks, 0 ≤ z) ∧ (∀ z ∈ ks, z ≤ max 2 m)) ?_ ?_ ?_⟩
      · exact ⟨none, none, [], rfl, s01, s1.2 _ _ upd_same hla, rfl, by simp, by simp⟩
      · rintro i σ H2 hi ⟨y4, y5, ks, rfl, s2, hl2, hk, hn, hm⟩
        refine ⟨_, rfl, _, rfl, by show 5 ≤ sizeLine; decide, fun p np => ⟨a, n, p, _, rfl, s2.1.same (same_upd np), .inl (.inl upd_same), s2.1.has np, by simp, by simp, fun v H3 hv s3 => ?_⟩⟩
        have s23 := (s2.then (same_upd (o := .lst [.int 0, .int 0, .int 1, .int 2, .int m]) np)).trans s3
        have hl3 : H3 l = some (.lst (ks.map V.int)) := s3.2 _ _ (same_upd np _ _ hl2) hla
        obtain ⟨bg, rfl, hb0, hb1⟩ : ∃ bg : Int, v = .int bg ∧ 0 ≤ bg ∧ bg ≤ max 2 m := by
          simp at hv
          rcases hv with rfl | rfl | rfl | rfl
          · exact ⟨0, rfl, by omega, by omega⟩
          · exact ⟨1, rfl, by omega, by omega⟩
          · exact ⟨2, rfl, by omega, by omega⟩
          · exact ⟨m, rfl, by omega, by omega⟩
        refine ⟨_, rfl, .inl ⟨rfl, _, .inl (.inl hl3)⟩, _, rfl, _, rfl, _, _, rfl, rfl, a, n, _, rfl, s3.1, by omega, by omega, fun z H4 z0 z1 s4 => ?_⟩
        have hl4 : H4 l = some (.lst (ks.map V.int)) := s4.2 _ _ hl3 hla
        refine ⟨l, _, _, rfl, rfl, hl4, ?_, ?_⟩
        · rw [List.length_map]
          exact small1000 (by omega)
        · refine ⟨_, _, ks ++ [z], rfl, (s23.trans s4).upd hs hl, ?_, by rw [List.length_append, hk]; rfl, fun u hu => ?_, fun u hu => ?_⟩
          · rw [upd_same, List.map_append]
            rfl
          · rcases List.mem_append.mp hu with h | h
            · exact hn _ h
            · rw [List.mem_singleton.mp h]
              exact z0
          · rcases List.mem_append.mp hu with h | h
            · exact hm _ h
            · rw [List.mem_singleton.mp h]
              omega
      · rintro σ H2 ⟨y4, y5, ks, rfl, s2, hl2, hk, hn, hm⟩
        exact ⟨y4, y5, ks, rfl, s2, hl2, by omega, hn, hm⟩
    · rintro σ H1 ⟨y4, y5, ks, rfl, s1, hl1, hk, hn, hm⟩
      refine ⟨fun j σ H' => ∃ (l : Addr) (ks : List Int), j = ks.length ∧ σ = [some (.ref a), some (.int d), some (.int m), some (.ref l), y4, y5] ∧ Stp a n H H' ∧ H' l = some (.lst (ks.map V.int)) ∧ (ks.length : Int) ≤ d ∧ (∀ z ∈ ks, 0 ≤ z) ∧ (∀ z ∈ ks, z ≤ max 2 m), ⟨_, l, ks, rfl, rfl, s1, hl1, hk, hn, hm⟩, ?_⟩
      rintro j σ H2 ⟨l2, ks, rfl, rfl, s2, hl2, hk, hn, hm⟩
      refine ⟨_, rfl, Nat.zero_le _, fun p np => ?_⟩
      have s3 := s2.then (same_upd (o := .lst []) np)
      have hl3 := same_upd (o := .lst []) np _ _ hl2
      have fin : ks.head? ≠ some 0 → ∀ H4, Stp a n H H4 → H4 l2 = some (.lst (ks.map V.int)) → (tRet (tCB (fun xs H_1 Q => ∃ p ys, xs = [V.ref p] ∧ (SqL K H_1 p ys ∧ (∀ (l : Addr), H_1 l = none → Q (V.ref l) (upd H_1 l (HO.tup ys))) ∨ SqT K H_1 p ys ∧ Q (V.ref p) H_1)) (tCons (tVar 3) tNil))) { nx := fun x H' => Q V.non H', rt := Q } [some (.ref a), some (.int d), some (.int m), some (.ref l2), y4, y5] H4 := by
        intro hh H4 s4 hl4
        refine ⟨_, rfl, l2, _, rfl, .inl ⟨.inl (.inl hl4), fun p np => ?_⟩⟩
        exact q p _ ks (s4.then (same_upd np)) (.inl (.inl upd_same)) ⟨hk, hn, hm, hh⟩
      refine ⟨.list (ks.map PyData.int), .list [], .lst (.inl (.inl hl3)) (dp_ints ks), .lst (.inl (.inl upd_same)) .nil, shaped_ints ks, shaped_ints [], _, rfl, ?_⟩
      have ee : PyData.eqv (.list (ks.map PyData.int)) (.list []) = decide (ks = []) := by
        rw [← eqv_ints]
        simp [PyData.eqv]
      rw [ee]
      refine ite2 (fun c => ?_) (fun c => ?_)
      · have ne : ks ≠ [] := by simpa using c
        obtain ⟨z, r, rfl⟩ : ∃ z r, ks = z :: r := by
          cases ks with
          | nil => exact absurd rfl ne
          | cons z r => exact ⟨z, r, rfl⟩
        refine ⟨_, rfl, l2, _, 0, _, rfl, rfl, .inl (.inl hl3), atI_nat (j := 0) rfl, rfl, _, rfl, ite2 (fun c2 => ?_) (fun c2 => ?_)⟩
        · refine ⟨fun σ H' => ∃ (l : Addr), σ = [some (.ref a), some (.int d), some (.int m), some (.ref l), y4, y5] ∧ Stp a n H H' ∧ H' l = some (.lst (r.map V.int)), ?_, ?_⟩
          · rintro σ' H' ⟨l3, rfl, s5, hl5⟩
            refine ⟨r.length, by simp, l3, r, rfl, rfl, s5, hl5, ?_, fun u hu => hn _ (List.mem_cons_of_mem _ hu), fun u hu => hm _ (List.mem_cons_of_mem _ hu)⟩
            rw [List.length_cons] at hk
            omega
          · refine ⟨_, rfl, 1, rfl, l2, _, rfl, .inl (.inl hl3), fun c nc => ?_⟩
            refine ⟨c, rfl, s3.then (same_upd nc), ?_⟩
            rw [upd_same]
            have e1 : cutV ((z :: r).map V.int) (some 1) none = r.map V.int := cut_from _ 1
            rw [e1]
        · refine fin (fun e => c2 ?_) _ s3 hl3
          have e' : z = 0 := Option.some.inj e
          rw [e']
          rfl
      · have e : ks = [] := by simpa using c
        exact fin (by rw [e]; simp) _ s3 hl3
end
abbrev sTrm : Stmt := topS 25
abbrev sFrm : Stmt := topS 26
abbrev sLes : Stmt := topS 29
/-- a pair of ints at a new tuple -/
def Pr (H : Hp) (v : V) (p : Int × Int) : Prop := ∃ a, v = .ref a ∧ H a = some (.tup [.int p.1, .int p.2])
def Prs (H : Hp) (vs : List V) (ps : List (Int × Int)) : Prop := Paired (Pr H) vs ps
theorem Paired.imp {α β : Type} {R S : α → β → Prop} (h : ∀ a b, R a b → S a b) : ∀ {xs : List α} {ys : List β}, Paired R xs ys → Paired S xs ys
  | _, _, .nil => .nil
  | _, _, .cons r rs => .cons (h _ _ r) (Paired.imp h rs)
theorem Paired.app {α β : Type} {R : α → β → Prop} : ∀ {xs xs' : List α} {ys ys' : List β}, Paired R xs ys → Paired R xs' ys' → Paired R (xs ++ xs') (ys ++ ys')
  | _, _, _, _, .nil, h => h
  | _, _, _, _, .cons r rs, h => .cons r (Paired.app rs h)
theorem Prs.same {H H' : Hp} {vs : List V} {ps : List (Int × Int)} (h : Prs H vs ps) (s : Same H H') : Prs H' vs ps :=
  Paired.imp (fun _ _ ⟨a, e, q⟩ => ⟨a, e, s _ _ q⟩) h
theorem Prs.stp {H H' : Hp} {a n : Addr} {vs : List V} {ps : List (Int × Int)} (h : Prs H vs ps) (hs : Src H a n) (s : Stp a n H H') : Prs H' vs ps :=
  Paired.imp (fun _ _ ⟨c, e, q⟩ => ⟨c, e, s.2 _ _ q fun z => by
    obtain ⟨i, x, y, ns, ha, _⟩ := hs
    rw [z, ha] at q
    cases q⟩) h
theorem Prs.upd {H : Hp} {l : Addr} {xs : List V} {o : HO} {vs : List V} {ps : List (Int × Int)} (h : Prs H vs ps) (hl : H l = some (.lst xs)) : Prs (upd H l o) vs ps :=
  Paired.imp (fun _ _ ⟨c, e, q⟩ => ⟨c, e, by
    have : c ≠ l := fun z => by
      rw [z, hl] at q
      cases q
    rw [upd_ne this]
    exact q⟩) h
/-- the terms: exponent and coefficient, the first i places gone through -/
def termsTo (n : Nat) : Nat → List Int → List (Int × Int)
  | _, [] => []
  | i, z :: r => if z = 0 then termsTo n (i + 1) r else ((n : Int) - 1 - i, z) :: termsTo n (i + 1) r
def terms (zs : List Int) : List (Int × Int) := termsTo zs.length 0 zs
theorem termsTo_app (n : Nat) : ∀ (xs ys : List Int) (i : Nat), termsTo n i (xs ++ ys) = termsTo n i xs ++ termsTo n (i + xs.length) ys
  | [], ys, i => rfl
  | x :: xs, ys, i => by
    show (if x = 0 then termsTo n (i + 1) (xs ++ ys) else _ :: termsTo n (i + 1) (xs ++ ys)) = _
    rw [termsTo_app n xs ys (i + 1)]
    have e : i + 1 + xs.length = i + (x :: xs).length := by
      rw [List.length_cons]
      omega
    rw [e]
    show _ = (if x = 0 then termsTo n (i + 1) xs else _ :: termsTo n (i + 1) xs) ++ _
    split <;> rfl
theorem termsTo_len (n : Nat) : ∀ (xs : List Int) (i : Nat), (termsTo n i xs).length ≤ xs.length
  | [], _ => Nat.le_refl _
  | x :: xs, i => by
    have ih := termsTo_len n xs (i + 1)
    unfold termsTo
    split
    · rw [List.length_cons]
      omega
    · rw [List.length_cons, List.length_cons]
      omega
section
variable {P : Program} {w : World} {K : PySem.W.Frag} {mg : Str → Option Value} {base : Heap}
theorem scTrm : FnScope ["ordinal", "last", "index", "number"] ["ordinal"] (defScope sTrm) := ⟨rfl, rfl, rfl, by decide +kernel, rfl, by decide +kernel, by decide +kernel⟩
def spTrm (K : PySem.W.Frag) : Sp := fun vs H Q _ => ∃ (a : Addr) (zs : List Int), vs = [.ref a] ∧ SqT K H a (zs.map V.int) ∧ zs.length ≤ 1000 ∧ ∀ D H' us, Same H H' → H D = none → H' D = some (.lst us) → Prs H' us (terms zs) → Q (.ref D) H'
theorem ok_trm {f : Addr} {fd : FuncData} {k : Nat} (F : Fun K "_law_term_list" "_law_term_list" sTrm f fd) (ml : mg "len" = none) (me : mg "enumerate" = none) : FnOk P w K mg base CX0 (k + 1) f fd ["ordinal"] (spTrm K) := by
  refine F.ok scTrm (fun vs H Q E h => ?_) (fun cdv A outer s H vs Q E hr h => ?_)
  · obtain ⟨a, zs, rfl, _⟩ := h
    rfl
  · obtain ⟨a, zs, rfl, hT, hlen, q⟩ := h
    refine ⟨_, pss_cons (ps_set (i := 1) scTrm.nd rfl (.inr rfl) (pe_op op_sub (pe_callB call_len_seq (by rfl) ml PySem.boot_len (pa_cons (pv 0) pa_nil)) pe_int))
      (pss_one (ps_ret (pe_lc (own := [("index", 2), ("number", 3)]) (g := gTup K 2 (gCons (gName 2) (gCons (gName 3) gNil))) (by rfl) scTrm.nd (pi_enumT (by rfl) me (pa_cons (pv 0) pa_nil)) (blkOk_by (N := ["ordinal", "last", "index", "number"]) (sc := defScope sTrm) (by decide +kernel))
        (fun _ _ _ _ _ => pg_tup rfl (pgs_cons (pg_name (i := 2) scTrm.nd rfl (.inl rfl)) (pgs_cons (pg_name (i := 3) scTrm.nd rfl (.inl rfl)) pgs_nil)))
        (fun _ _ _ _ _ => pts_one (pt_cmpR op_ne (pv 3) pe_int (nomark _)))
        (fun _ _ _ _ _ => pe_tup (pa_cons (pe_op op_sub (pv 1) (pv 2)) (pa_cons (pv 3) pa_nil)))))), ?_⟩
    refine ⟨_, rfl, a, _, rfl, .inr hT, _, _, rfl, rfl, ?_⟩
    rw [List.length_map]
    refine ⟨_, rfl, a, _, rfl, hT, fun D nD => lc_enumT (K := K) (a := a) (xs := zs.map V.int) (fun i H' => ∃ us, Same H H' ∧ H' D = some (.lst us) ∧ Prs H' us (termsTo zs.length 0 (zs.take i))) ?_ ?_ ?_ ?_⟩
    · exact ⟨[], same_upd nD, upd_same, .nil⟩
    · rintro i H' _ ⟨us, sm, _⟩
      exact Same.seqT sm hT
    · rintro i x H1 T hx ⟨us, sm, hD, hp⟩ nT
      obtain ⟨z, hz, rfl⟩ := map_get hx
      have hi : i < zs.length := (List.getElem?_eq_some_iff.mp hz).1
      have hDT : D ≠ T := ne_of_none hD nT
      have etk : termsTo zs.length 0 (zs.take (i + 1)) = termsTo zs.length 0 (zs.take i) ++ termsTo zs.length i [z] := by
        rw [List.take_add_one, hz, termsTo_app, List.length_take, Nat.min_eq_left (by omega), Nat.zero_add]
        rfl
      refine ⟨T, _, rfl, .inl (.inl upd_same), rfl, _, _, rfl, _, _, rfl, rfl, rfl, _, rfl, rfl, _, rfl, ?_⟩
      have sT : Same H1 (L2.upd H1 T (.tup [.int (i : Nat), .int z])) := same_upd nT
      have hD2 : (L2.upd H1 T (.tup [.int (i : Nat), .int z])) D = some (.lst us) := sT _ _ hD
      refine ite2 (fun c => ?_) (fun c => ?_)
      · have hz0 : z ≠ 0 := fun e => by
          rw [e] at c
          revert c
          decide +kernel
        refine ⟨_, rfl, _, rfl, _, _, rfl, rfl, _, rfl, by show 2 ≤ sizeLine; decide, fun p np => ?_⟩
        have sp := same_upd (o := .tup [.int ((zs.length : Int) - 1 - i), .int z]) np
        have hD3 := sp _ _ hD2
        refine ⟨us, hD3, ?_, us ++ [.ref p], fun b o e => ?_, upd_same, ?_⟩
        · have h1 := Paired.length hp
          have h2 := termsTo_len zs.length (zs.take i) 0
          rw [List.length_take] at h2
          exact small1000 (by omega)
        · rw [upd_ne (ne_of_none e nD)]
          exact sp _ _ (sT _ _ (sm _ _ e))
        · refine Prs.upd ?_ hD3
          rw [etk]
          refine Paired.app ((hp.same sT).same sp) ?_
          unfold termsTo
          rw [if_neg hz0]
          exact .cons ⟨p, rfl, upd_same⟩ .nil
      · have hz0 : z = 0 := by
          by_cases e : z = 0
          · exact e
          · exact absurd (by
              rw [decide_eq_false (fun q => e (V.int.inj q))]
              rfl) c
        refine ⟨us, sm.trans sT, hD2, ?_⟩
        rw [etk]
        have e0 : termsTo zs.length i [z] = [] := by
          unfold termsTo
          rw [if_pos hz0]
          rfl
        rw [e0, List.append_nil]
        exact hp.same sT
    · rintro H1 ⟨us, sm, hD, hp⟩
      rw [List.length_map, List.take_length] at hp
      exact q D H1 us sm nD hD hp
end
section
variable {P : Program} {w : World} {K : PySem.W.Frag} {mg : Str → Option Value} {base : Heap}
/-- the same rules with the written part said, for blocks of comprehensions -/
def rLenK (K : PySem.W.Frag) : List V → Hp → VK → Prop := fun xs H Q => ∃ p ys, xs = [.ref p] ∧ (SqL K H p ys ∨ SqT K H p ys) ∧ Q (.int ys.length) H
theorem len_K {X : Cx} (h : X.K = K) : CallR X (.builtin "len") (rLenK K) := by
  subst h
  exact call_len_seq
theorem cat_K {X : Cx} (h : X.K = K) : OpR X (binaryOp .Add) (rCatU K) := by
  subst h
  exact op_catU
theorem rep_K {X : Cx} (h : X.K = K) : OpR X (binaryOp .Mult) (rRepU K) := by
  subst h
  exact op_repU
end
/-! ### what is shown -/
theorem log_small {z : Int} (h : z.natAbs < 2 ^ 200) : z.natAbs.log2 < 1920 := by
  by_cases h0 : z.natAbs = 0
  · rw [h0]
    decide
  · have := (Nat.log2_lt h0).mpr h
    omega
theorem int_len {z : Int} (h : z.natAbs < 2 ^ 200) : (PyData.shown (.int z)).length ≤ 2000 := by
  have e : (PyData.shown (.int z)) = Str.ofString (toString z) := by simp [PyData.shown]
  rw [e]
  have h1 := int_text_length_le (a := z) (k := 1920) (by decide) (log_small h)
  rw [PySem.ofString_length]
  omega
theorem Shn.int {z : Int} (h : z.natAbs < 2 ^ 200) : Shn (.int z) := by
  refine ⟨?_, by simp [PyData.hasDict], by simp [PyData.depth], ?_⟩
  · simpa [PyData.showable] using log_small h
  · have := int_len h
    exact Nat.le_of_lt (Nat.lt_of_le_of_lt this (by decide))
theorem ints_sh : ∀ zs : List Int, (∀ z ∈ zs, z.natAbs < 2 ^ 200) → PyData.showableAll (zs.map PyData.int) = true ∧ PyData.hasDictAll (zs.map PyData.int) = false ∧ (PyData.shownAll (zs.map PyData.int)).length = zs.length ∧ piled (PyData.shownAll (zs.map PyData.int)) ≤ 2002 * zs.length
  | [], _ => by simp [PyData.showableAll, PyData.hasDictAll, PyData.shownAll, piled]
  | z :: r, h => by
    obtain ⟨h1, h2, h3, h4⟩ := ints_sh r fun y hy => h y (List.mem_cons_of_mem _ hy)
    have hz := h z (List.mem_cons_self ..)
    have h5 := int_len hz
    rw [List.map_cons]
    refine ⟨?_, ?_, ?_, ?_⟩
    · rw [PyData.showableAll, h1, (Shn.int hz).sh]
      rfl
    · rw [PyData.hasDictAll, h2, (Shn.int hz).nd]
      rfl
    · rw [PyData.shownAll, List.length_cons, List.length_cons, h3]
    · rw [PyData.shownAll, piled_cons, List.length_cons]
      omega
theorem Shn.tup {zs : List Int} (h : ∀ z ∈ zs, z.natAbs < 2 ^ 200) (hl : zs.length ≤ 1000) : Shn (.tuple (zs.map PyData.int)) := by
  obtain ⟨h1, h2, h3, h4⟩ := ints_sh zs h
  refine ⟨by rw [PyData.showable, h1], by rw [PyData.hasDict, h2], ?_, ?_⟩
  · rw [PyData.depth, depth_ints]
    decide
  · rw [PyData.shown]
    have h5 := PySem.fmt_text (PyData.shownAll (zs.map PyData.int))
    rw [sizeLine_eq]
    omega
/-! ### the order -/
structure NZ (zs : List Int) : Prop where
  nn : ∀ z ∈ zs, 0 ≤ z
  hd : zs.head? ≠ some 0

/-! ### the end of a law whose def leans on: no repr is under way -/
section
variable {P : Program} {w : World} {K : PySem.W.Frag} {mg mb : Str → Option Value} {k : Nat} {fa a : Addr} {fd : FuncData} {x : Str} {sp : Sp} {st : Shared} {us : List Value} {ns : List Int}
abbrev scrO (us : List Value) : Obj := { cls := .type "list", data := .seq us.toArray }
abbrev Good (st : Shared) (r : Result) (s' : Shared) : Prop := r = .ok (.ret (.bool true)) ∧ OldK st.heap s'.heap ∧ s'.os = st.os ∧ AllBare s'.gens
theorem law_at (KX : K.In st.heap) (n1 : st.heap.Ns mainGlobals mg) (n2 : st.heap.Ns builtinsNs mb) (n3 : ∀ x : Str, x ≠ "__name__" → mb x = bootBuiltins x) (n4 : st.heap.NoLimit) (hg : st.gens = #[])
    (ha : st.heap.get? a = some (scrO us)) (hr : Room k callerA) (F : ∀ b : Heap, K.In b → b.Ns mainGlobals mg → FnG P w K mg b k fa fd [x] sp) (hb : ∀ (s : Shared) (u : Value), BindsTo s fd ⟨[u], []⟩ [(x, u)])
    {H : Hp} (hO : Only H) (hsp : sp [.ref a] H (fun v _ => v = .bl true) fun _ _ _ => False) (hok : HOk P w H st.heap) (hA : ∀ b, H b ≠ none → b = a) (hK : H a ≠ none → K.lookup a = none) :
    codeAny (model P w) callerA (.call (.ref fa) ⟨[.ref a], []⟩) (Good st) st := by
  have hid : ∀ {b : Addr} {o : Obj}, st.heap.get? b = some o → H b = none → (hidT st.heap H).get? b = some o := fun e n => hidT_get e n
  have nodict : ∀ {b : Addr} {o : Obj} {es : Array DictEntry} {m : Nat}, st.heap.get? b = some o → o.data = .dict es m → H b = none := by
    intro b o es m e d
    by_cases q : H b = none
    · exact q
    · rw [hA b q, ha] at e
      cases e
      have d' : Data.seq us.toArray _ = Data.dict es m := d
      cases d'
  have nsOf : ∀ {b : Addr} {m : Str → Option Value}, st.heap.Ns b m → (hidT st.heap H).Ns b m := by
    rintro b m ⟨o, es, ep, e, d, r⟩
    exact ⟨o, es, ep, hid e (nodict e d), d, r⟩
  have KB : K.In (hidT st.heap H) := by
    intro b o e
    refine hid (KX b o e) ?_
    by_cases q : H b = none
    · exact q
    · have eb := hA b q
      rw [eb] at e q
      rw [hK q] at e
      cases e
  obtain ⟨mc, l1, l2⟩ := n4
  have MB : Mod K mg (hidT st.heap H) := ⟨KB, nsOf n1, ⟨mb, nsOf n2, n3⟩, ⟨mc, nsOf l1, l2⟩⟩
  have ev : Env0 P w K mg (hidT st.heap H) callerA [] st H := by
    refine ⟨rfl, MB, fun b o e => of_hidT e, Nat.le_of_eq (hidT_size _ _), trivial, fun b z => ?_, hok, .of_eq hg⟩
    exact absurd (show b ∈ ([] : List Addr) from z) List.not_mem_nil
  refine codeAny_mono ((F _ KB (nsOf n1)).go callerA [] st H ⟨[.ref a], []⟩ [.ref a] [.ref a] _ _ rfl hr ev (hb st (.ref a)) (.cons rfl .nil) hsp) fun r s' h => ?_
  match r, h with
  | .error _, h => exact False.elim h
  | .ok .next, h => exact False.elim h
  | .ok .brk, h => exact False.elim h
  | .ok .cont, h => exact False.elim h
  | .ok (.ret u), h =>
    obtain ⟨v, H', os, bare, un, hok', rv, qv⟩ := h
    have qv : v = .bl true := qv
    subst qv
    obtain rfl : u = Value.bool true := rv
    refine ⟨rfl, OldK.of_keep fun b o e => ?_, os, bare⟩
    rcases hO b with z | ⟨ob, xs, z⟩
    · exact un.keep b o e z (fun z => absurd (show b ∈ ([] : List Addr) from z) List.not_mem_nil) List.not_mem_nil
    · have e1 := (hok b _ z).1
      have e2 := (hok' b _ (un.frzs b ob _ z)).1
      rw [e] at e1
      cases e1
      exact e2
theorem law_g (KX : K.In st.heap) (n1 : st.heap.Ns mainGlobals mg) (n2 : st.heap.Ns builtinsNs mb) (n3 : ∀ x : Str, x ≠ "__name__" → mb x = bootBuiltins x) (n4 : st.heap.NoLimit) (hg : st.gens = #[])
    (ha : st.heap.get? a = some (scrO us)) (hi : IntsAre us ns) (hl : ns.length ≤ sizeLine) (hr : Room k callerA) (F : ∀ b : Heap, K.In b → b.Ns mainGlobals mg → FnG P w K mg b k fa fd [x] sp) (hb : ∀ (s : Shared) (u : Value), BindsTo s fd ⟨[u], []⟩ [(x, u)])
    (hsp : ∀ H : Hp, Only H → SqL K H a (ns.map V.int) → sp [.ref a] H (fun v _ => v = .bl true) fun _ _ _ => False) :
    codeAny (model P w) callerA (.call (.ref fa) ⟨[.ref a], []⟩) (Good st) st := by
  have vi := vals_ints hi
  cases hk : K.lookup a with
  | some o =>
    have e := KX a o hk
    rw [ha] at e
    cases e
    have hS : SqL K (fun _ => none) a (ns.map V.int) := .inr ⟨_, us.toArray, _, hk, rfl, rfl, rfl, by rw [List.size_toArray, hi.length]; exact hl, by simpa using vi⟩
    exact law_at KX n1 n2 n3 n4 hg ha hr F hb (H := fun _ => none) (fun _ => .inl rfl) (hsp _ (fun _ => .inl rfl) hS) (fun b u z => by cases (show (none : Option HO) = some u from z)) (fun b z => absurd rfl z) (fun z => absurd rfl z)
  | none =>
    let H : Hp := fun b => if b = a then some (.frz (scrO us) (.lst (ns.map V.int))) else none
    have h1 : H a = some (.frz (scrO us) (.lst (ns.map V.int))) := if_pos rfl
    have h2 : ∀ b, b ≠ a → H b = none := fun b z => if_neg z
    have hO : Only H := fun b => by
      by_cases z : b = a
      · exact .inr ⟨_, _, by rw [z]; exact h1⟩
      · exact .inl (h2 b z)
    refine law_at KX n1 n2 n3 n4 hg ha hr F hb hO (hsp H hO (.inl (.inr ⟨_, h1⟩))) (fun b u z => ?_) (fun b z => ?_) fun _ => hk
    · by_cases e : b = a
      · subst e
        rw [h1] at z
        cases z
        exact ⟨ha, by rw [List.length_map]; exact hl, us, _, vi, ha⟩
      · rw [h2 b e] at z
        cases z
    · by_cases e : b = a
      · exact e
      · exact absurd (h2 b e) z
end
theorem walk_g {l : PySem.W.OpenLaw} {n k : Nat} {q : Program} {loose : List Str} {XP : (Str → Option Value) → Heap → Prop} {YP : World → Heap → Prop} {d : DefRec} {K : Params → PySem.W.Frag} {sp : PySem.W.Frag → Sp} {x : Str}
    (hn : l.most = some n) (hz : n ≤ sizeLine) (hdf : d.params.defaults = []) (hr : Room k callerA) (hY : ∀ (w : World) (h : Heap), YP w h → (K w.params).In h)
    (F : ∀ (w : World) (mg : Str → Option Value) (fa : Addr) (h : Heap), (K w.params).In h → h.Ns mainGlobals mg → mg d.name = some (.ref fa) →
      ∃ fd : FuncData, (∀ (s : Shared) (u : Value), BindsTo s fd ⟨[u], []⟩ [(x, u)]) ∧ ∀ b : Heap, (K w.params).In b → b.Ns mainGlobals mg → FnG l.prog w (K w.params) mg b k fa fd [x] (sp (K w.params)))
    (hsp : ∀ (K : PySem.W.Frag) (H : Hp) (a : Addr) (ns : List Int), ns.length ≤ n → Only H → SqL K H a (ns.map V.int) → sp K [.ref a] H (fun v _ => v = .bl true) fun _ _ _ => False) :
    PySem.W.WalkO q loose XP YP l.row.toRowW d [] (fun f vs => PySem.call f vs) := by
  refine Att.attach_call hn hdf fun w s0 s1 mg mb fa o pm cd doc a vs ns G Y ho hd hcd hmg hobj hints hlen hg => ?_
  have KX := hY w _ Y
  obtain ⟨fd, hb, hF⟩ := F w mg fa _ KX G.T.g hmg
  exact law_g KX G.T.g G.T.b G.T.builtins G.T.nolimit hg hobj hints (Nat.le_trans hlen hz) hr hF hb fun H hO hS => hsp _ H a ns hlen hO hS
/-- a test, then a word between it and what follows -/
theorem pt_cut {X : Cx} {e : Expr} {t : TT} (h : PT X e t) : PT X e (fun σ H Q => ∃ R : Bool → Hp → Prop, t σ H R ∧ ∀ b H', R b H' → Q b H') := by
  refine ⟨fun pins s σ H Q I q => ?_⟩
  obtain ⟨R, hR, hQ⟩ := q
  exact thn (h.run pins s σ H R I hR) fun b s1 ⟨H1, I1, r⟩ => ⟨H1, I1, hQ b H1 r⟩

section
variable {P : Program} {w : World} {K : PySem.W.Frag} {mg : Str → Option Value} {base : Heap}
def prD (p : Int × Int) : PyData := .tuple [.int p.1, .int p.2]
theorem dp_prs {H : Hp} : ∀ {us : List V} {ps : List (Int × Int)}, Prs H us ps → DpAll K H us (ps.map prD)
  | _, _, .nil => .nil
  | _, _, .cons ⟨a, e, h⟩ rs => by
    subst e
    exact .cons (.tup (.inl (.inl h)) (.cons (.int _) (.cons (.int _) .nil))) (dp_prs rs)
theorem lay_prs : ∀ ps : List (Int × Int), PyData.canLayAll0 (ps.map prD) = true ∧ PyData.depthAll (ps.map prD) ≤ 1
  | [] => by simp [PyData.canLayAll0, PyData.depthAll]
  | p :: r => by
    have ih := lay_prs r
    have := ih.2
    simp [PyData.canLayAll0, PyData.canLay0, PyData.depthAll, PyData.depth, prD, ih.1]
    omega
theorem shaped_prs (ps : List (Int × Int)) : SeqAt.shaped (.list (ps.map prD)) = true := by
  have ⟨h1, h2⟩ := lay_prs ps
  unfold SeqAt.shaped
  simp [PyData.canLay0, PyData.depth, h1]
  omega
theorem eqv_nil (ds : List PyData) : PyData.eqv (.list ds) (.list []) = decide (ds = []) := by
  cases ds with
  | nil => simp [PyData.eqv, PyData.eqvAll]
  | cons d r => simp [PyData.eqv, PyData.eqvAll]
/-! ### from terms -/
def frStep (l : List Int) (p : Int × Int) : List Int := l.set (l.length - 1 - p.1.toNat) p.2
def frT (ps : List (Int × Int)) : List Int := match ps with
  | [] => []
  | p :: r => (p :: r).foldl frStep (List.replicate (p.1.toNat + 1) 0)
theorem fr_len : ∀ (ps : List (Int × Int)) (l : List Int), (ps.foldl frStep l).length = l.length
  | [], _ => rfl
  | p :: r, l => by
    rw [List.foldl_cons, fr_len r]
    exact List.length_set
theorem scFrm : FnScope ["terms", "found", "exponent", "number"] ["terms"] (defScope sFrm) := ⟨rfl, rfl, rfl, by decide +kernel, rfl, by decide +kernel, by decide +kernel⟩
structure FrOk (ps : List (Int × Int)) : Prop where
  lo : ∀ p ∈ ps, 0 ≤ p.1
  hi : ∀ p ∈ ps, ∀ e ∈ ps.head?, p.1 ≤ e.1
  mx : ∀ p ∈ ps, p.1 ≤ 900
def spFrm (K : PySem.W.Frag) : Sp := fun vs H Q _ => ∃ (a : Addr) (us : List V) (ps : List (Int × Int)), vs = [.ref a] ∧ H a = some (.lst us) ∧ Prs H us ps ∧ FrOk ps ∧ ∀ p H', Same H H' → SqT K H' p ((frT ps).map V.int) → Q (.ref p) H'
theorem Paired.at {α β : Type} {R : α → β → Prop} : ∀ {xs : List α} {ys : List β} {i : Nat} {x : α}, Paired R xs ys → xs[i]? = some x → ∃ y, ys[i]? = some y ∧ R x y
  | _, _, i, x, .nil, h => by simp at h
  | _, _, 0, x, .cons r rs, h => by
    have e := Option.some.inj h
    subst e
    exact ⟨_, rfl, r⟩
  | _, _, i + 1, x, .cons r rs, h => Paired.at (i := i) rs h
theorem ok_frm {f : Addr} {fd : FuncData} {k : Nat} (F : Fun K "_law_from_terms" "_law_from_terms" sFrm f fd) (ml : mg "len" = none) (mt : mg "tuple" = none) : FnOk P w K mg base CX0 (k + 1) f fd ["terms"] (spFrm K) := by
  refine F.ok scFrm (fun vs H Q E h => ?_) (fun cdv A outer s H vs Q E hr h => ?_)
  · obtain ⟨a, us, ps, rfl, _⟩ := h
    rfl
  · obtain ⟨a, us, ps, rfl, ha, hp, hok, q⟩ := h
    refine ⟨_, pss_cons (ps_if (pt_cmpR (op_eqD hr.units) (pv 0) (pe_lst pa_nil) (nomark _)) (pss_one (ps_ret (pe_tup pa_nil))) pss_nil)
      (pss_cons (ps_set (i := 1) scFrm.nd rfl (.inl rfl) (pe_op op_rep (pe_lst (pa_cons pe_int pa_nil)) (pe_op op_add (pe_ix ix_tup (pe_ix ix_list (pv 0) pe_int (fun _ _ => rfl)) pe_int (fun _ _ => rfl)) pe_int)))
      (pss_cons (ps_for PassesOwn.never rfl (pi_list (pv 0)) (pg_tup rfl (pgs_cons (pg_name (i := 2) scFrm.nd rfl (.inl rfl)) (pgs_cons (pg_name (i := 3) scFrm.nd rfl (.inl rfl)) pgs_nil)))
        (pss_one (ps_asg (pv 3) (pg_sub (pv 1) (pe_op op_sub (pe_op op_sub (pe_callB call_len_seq (by rfl) ml PySem.boot_len (pa_cons (pv 1) pa_nil)) pe_int) (pv 2)) set_list))))
      (pss_one (ps_ret (pe_callTy call_tuple_of (by rfl) mt (by decide +kernel) (pa_cons (pv 1) pa_nil)))))), ?_⟩
    refine ⟨_, rfl, Nat.zero_le _, fun p0 np0 => ?_⟩
    have s0 := same_upd (o := .lst []) np0
    have ha0 := s0 _ _ ha
    refine ⟨.list (ps.map prD), .list [], .lst (.inl (.inl ha0)) (dp_prs (hp.same s0)), .lst (.inl (.inl upd_same)) .nil, shaped_prs ps, shaped_prs [], _, rfl, ?_⟩
    rw [eqv_nil]
    refine ite2 (fun c => ?_) (fun c => ?_)
    · have e : ps = [] := by simpa using c
      subst e
      refine ⟨Nat.zero_le _, fun p np => q p _ (s0.trans (same_upd np)) (.inl (.inl ?_))⟩
      rw [upd_same]
      rfl
    · have e : ps ≠ [] := by simpa using c
      obtain ⟨⟨e0, c0⟩, r, rfl⟩ : ∃ p r, ps = p :: r := by
        cases ps with
        | nil => exact absurd rfl e
        | cons p r => exact ⟨p, r, rfl⟩
      obtain ⟨t0, us', hu, ht0⟩ : ∃ (t0 : Addr) (us' : List V), us = .ref t0 :: us' ∧ H t0 = some (.tup [.int e0, .int c0]) := by
        cases hp with
        | cons r1 _ =>
          obtain ⟨a', e', h'⟩ := r1
          exact ⟨a', _, by rw [e'], h'⟩
      have le0 : 0 ≤ e0 := hok.lo _ (List.mem_cons_self ..)
      have he0 : e0 ≤ 900 := hok.mx _ (List.mem_cons_self ..)
      subst hu
      refine ⟨by show 1 ≤ sizeLine; decide, fun p1 np1 => ?_⟩
      have s1 := s0.trans (same_upd (o := .lst [.int 0]) np1)
      have ha1 := s1 _ _ ha
      have ht1 := s1 _ _ ht0
      refine ⟨_, rfl, a, _, 0, _, rfl, rfl, .inl (.inl ha1), atI_nat (j := 0) rfl, t0, _, 0, _, rfl, rfl, .inl (.inl ht1), atI_nat (j := 0) rfl, _, _, rfl, rfl, ?_⟩
      have hsz : (1 : Nat) * (e0 + 1).toNat ≤ sizeLine := Nat.le_of_lt (small1000 (by omega))
      refine ⟨p1, e0 + 1, _, rfl, rfl, upd_same, by omega, by omega, hsz, fun l hl => ?_⟩
      have hlH : H l = none := s1.free hl
      have s2 := s1.trans (same_upd (o := .lst (List.replicate (e0 + 1).toNat [V.int 0]).flatten) hl)
      refine ⟨_, rfl, a, rfl, ⟨_, .inl (.inl (s2 _ _ ha))⟩, for_list (K := K) (a := a) (xs := .ref t0 :: us')
        (fun i σ H' => ∃ (y2 y3 : Option V) (zs : List Int), σ = [some (.ref a), some (.ref l), y2, y3] ∧ Same H H' ∧ H' l = some (.lst (zs.map V.int)) ∧ zs.length = e0.toNat + 1 ∧ zs = (((e0, c0) :: r).take i).foldl frStep (List.replicate (e0.toNat + 1) 0)) ?_ ?_ ?_ ?_⟩
      · refine ⟨none, none, List.replicate (e0.toNat + 1) 0, rfl, s2, ?_, List.length_replicate, rfl⟩
        rw [upd_same, flat_one, show (e0 + 1).toNat = e0.toNat + 1 by omega]
      · rintro i σ H' _ ⟨_, _, _, _, sm, _⟩
        exact .inl (.inl (sm _ _ ha))
      · rintro i x σ H' hx ⟨y2, y3, zs, rfl, sm, hl', hz, ez⟩
        obtain ⟨⟨e1, c1⟩, hy, T, rfl, hT⟩ := Paired.at hp hx
        have hm := List.mem_of_getElem? hy
        have l1 : 0 ≤ e1 := hok.lo _ hm
        have l2 : e1 ≤ e0 := hok.hi _ hm (e0, c0) rfl
        have ej : ((zs.length : Int) - 1 - e1) = ((zs.length - 1 - e1.toNat : Nat) : Int) := by omega
        refine ⟨T, _, rfl, .inl (.inl (sm _ _ hT)), rfl, _, _, rfl, _, _, rfl, rfl, ?_⟩
        refine ⟨_, rfl, _, rfl, _, rfl, l, _, rfl, .inl (.inl (.inl hl')), _, _, rfl, rfl, _, rfl, _, _, rfl, rfl, l, _, _, zs.length - 1 - e1.toNat, rfl, rfl, hl', ?_, ?_⟩
        · rw [List.length_map, ej]
          exact Evl.ixN_nat (by omega)
        · refine ⟨_, _, frStep zs (e1, c1), rfl, fun b o e => ?_, ?_, ?_, ?_⟩
          · rw [upd_ne (ne_of_none e hlH)]
            exact sm _ _ e
          · rw [upd_same]
            unfold frStep
            rw [List.map_set]
          · unfold frStep
            rw [List.length_set]
            exact hz
          · rw [List.take_add_one, hy, List.foldl_append, ← ez]
            rfl
      · rintro σ H' ⟨y2, y3, zs, rfl, sm, hl', hz, ez⟩
        have hlen : (V.ref t0 :: us').length = ((e0, c0) :: r).length := Paired.length hp
        rw [hlen, List.take_length] at ez
        refine ⟨_, rfl, l, _, rfl, .inl ⟨.inl (.inl hl'), fun p np => q p _ (sm.trans (same_upd np)) (.inl (.inl ?_))⟩⟩
        rw [upd_same, ez]
        rfl
end
/-! ### sums and products of coefficient lists -/
def zer (n : Nat) : List Int := List.replicate n 0
/-- the program's sum -/
def addP (xs ys : List Int) : List Int := if ys = [] then xs else if xs.length < ys.length then ys else xs.take (xs.length - ys.length) ++ (xs.getD (xs.length - ys.length) 0 + ys.headD 0) :: ys.tail
/-- the program's product -/
def mulP (xs ys : List Int) : List Int := if xs = [] ∨ ys = [] then [] else if ys.getLastD 0 = 0 then ys.dropLast ++ zer xs.length else ys.dropLast ++ (xs.headD 0 * ys.getLastD 0) :: xs.tail
/-- the law's sum: of terms -/
def addT (xs ys : List Int) : List Int := match terms ys with
  | [] => xs
  | (e, c) :: r => frT (((terms xs).filter fun p => decide (p.1 > e)) ++ [(e, c + (((terms xs).filter fun p => decide (p.1 = e)).map (·.2)).sum)] ++ r)
theorem set_mid (xs ys : List Int) (z u : Int) : (xs ++ u :: ys).set xs.length z = xs ++ z :: ys := by
  induction xs with
  | nil => rfl
  | cons x r ih =>
    show x :: (r ++ u :: ys).set r.length z = x :: (r ++ z :: ys)
    rw [ih]
/-- the terms of zs, at place i of n, laid over zeros -/
theorem fold_terms (n : Nat) : ∀ (zs pre post : List Int) (i : Nat), pre.length = i → i + zs.length + post.length = n → (termsTo n i zs).foldl frStep (pre ++ zer zs.length ++ post) = pre ++ zs ++ post
  | [], pre, post, i, _, _ => rfl
  | z :: r, pre, post, i, h1, h2 => by
    rw [List.length_cons] at h2
    have e0 : pre ++ zer (z :: r).length ++ post = (pre ++ [0]) ++ zer r.length ++ post := by
      show pre ++ (0 :: zer r.length) ++ post = _
      simp
    unfold termsTo
    by_cases hz : z = 0
    · rw [if_pos hz, e0, fold_terms n r (pre ++ [0]) post (i + 1) (by rw [List.length_append, h1]; rfl) (by omega), hz]
      simp
    · rw [if_neg hz, List.foldl_cons]
      have e1 : frStep (pre ++ zer (z :: r).length ++ post) ((n : Int) - 1 - i, z) = (pre ++ [z]) ++ zer r.length ++ post := by
        unfold frStep
        have hl : (pre ++ zer (z :: r).length ++ post).length = n := by
          rw [List.length_append, List.length_append, h1]
          unfold zer
          rw [List.length_replicate, List.length_cons]
          omega
        rw [hl]
        have e2 : n - 1 - ((n : Int) - 1 - i).toNat = pre.length := by omega
        show List.set _ (n - 1 - ((n : Int) - 1 - i).toNat) z = _
        rw [e2]
        have e3 : pre ++ zer (z :: r).length ++ post = pre ++ 0 :: (zer r.length ++ post) := by
          show pre ++ (0 :: zer r.length) ++ post = _
          simp
        rw [e3, set_mid]
        simp
      rw [e1, fold_terms n r (pre ++ [z]) post (i + 1) (by rw [List.length_append, h1]; rfl) (by omega)]
      simp
theorem terms_shift (n m i j : Nat) (h : (n : Int) - i = (m : Int) - j) : ∀ zs : List Int, ∀ k : Nat, termsTo n (i + k) zs = termsTo m (j + k) zs
  | [], k => rfl
  | z :: r, k => by
    unfold termsTo
    have e1 := terms_shift n m i j h r (k + 1)
    rw [show i + k + 1 = i + (k + 1) from rfl, show j + k + 1 = j + (k + 1) from rfl, e1]
    have e2 : (n : Int) - 1 - (i + k : Nat) = (m : Int) - 1 - (j + k : Nat) := by omega
    rw [e2]
theorem terms_fst (n : Nat) : ∀ (zs : List Int) (i : Nat) (p : Int × Int), p ∈ termsTo n i zs → (n : Int) - 1 - i ≥ p.1 ∧ p.1 > (n : Int) - 1 - i - zs.length ∧ p.2 ∈ zs ∧ p.2 ≠ 0
  | [], i, p, h => by cases h
  | z :: r, i, p, h => by
    unfold termsTo at h
    rw [List.length_cons]
    split at h
    · obtain ⟨h1, h2, h3, h4⟩ := terms_fst n r (i + 1) p h
      exact ⟨by omega, by omega, List.mem_cons_of_mem _ h3, h4⟩
    · rename_i hz
      rcases List.mem_cons.mp h with e | h
      · rw [e]
        exact ⟨Int.le_refl _, by show (n : Int) - 1 - i > _; omega, List.mem_cons_self .., hz⟩
      · obtain ⟨h1, h2, h3, h4⟩ := terms_fst n r (i + 1) p h
        exact ⟨by omega, by omega, List.mem_cons_of_mem _ h3, h4⟩
theorem filter_all {α : Type} {f : α → Bool} {l : List α} (h : ∀ x ∈ l, f x = true) : l.filter f = l := List.filter_eq_self.mpr h
theorem filter_none {α : Type} {f : α → Bool} {l : List α} (h : ∀ x ∈ l, f x = false) : l.filter f = [] := List.filter_eq_nil_iff.mpr fun x hx => by rw [h x hx]; decide
/-- a list with a first coefficient that is not 0: its first term -/
theorem terms_cons {z : Int} {r : List Int} (hz : z ≠ 0) : terms (z :: r) = ((r.length : Int), z) :: termsTo (r.length + 1) 1 r := by
  show (if z = 0 then termsTo (z :: r).length (0 + 1) r else (((z :: r).length : Int) - 1 - (0 : Nat), z) :: termsTo (z :: r).length (0 + 1) r) = _
  rw [if_neg hz, List.length_cons, show ((r.length + 1 : Nat) : Int) - 1 - (0 : Nat) = r.length by omega]
/-- terms laid out again: hi, one written place, the rest -/
theorem frT_join {n : Nat} {hi r : List Int} {c : Int} (hn : n = hi.length + 1 + r.length) (hh : hi = [] ∨ ∃ z t, hi = z :: t ∧ z ≠ 0) :
    frT (termsTo n 0 hi ++ [((r.length : Int), c)] ++ termsTo (r.length + 1) 1 r) = hi ++ c :: r := by
  have sh : termsTo (r.length + 1) 1 r = termsTo n (hi.length + 1) r := terms_shift (r.length + 1) n 1 (hi.length + 1) (by omega) r 0
  rw [sh]
  have key : (termsTo n 0 hi ++ [((r.length : Int), c)] ++ termsTo n (hi.length + 1) r).foldl frStep (zer n) = hi ++ c :: r := by
    rw [List.foldl_append, List.foldl_append]
    have z1 : zer n = [] ++ zer hi.length ++ zer (1 + r.length) := by
      unfold zer
      rw [List.nil_append, List.replicate_append_replicate]
      congr 1
      omega
    rw [z1, fold_terms n hi [] (zer (1 + r.length)) 0 rfl (by unfold zer; rw [List.length_replicate]; omega)]
    have z2 : zer (1 + r.length) = 0 :: zer r.length := by
      unfold zer
      rw [Nat.add_comm, List.replicate_succ]
    rw [List.nil_append, z2]
    show (termsTo n (hi.length + 1) r).foldl frStep (frStep (hi ++ 0 :: zer r.length) ((r.length : Int), c)) = _
    have e1 : frStep (hi ++ 0 :: zer r.length) ((r.length : Int), c) = (hi ++ [c]) ++ zer r.length ++ [] := by
      unfold frStep
      have hl : (hi ++ 0 :: zer r.length).length = n := by
        rw [List.length_append, List.length_cons]
        unfold zer
        rw [List.length_replicate]
        omega
      rw [hl]
      show List.set _ (n - 1 - ((r.length : Nat) : Int).toNat) c = _
      have e2 : n - 1 - ((r.length : Nat) : Int).toNat = hi.length := by omega
      rw [e2, set_mid]
      simp
    rw [e1, fold_terms n r (hi ++ [c]) [] (hi.length + 1) (by rw [List.length_append]; rfl) (by simp; omega)]
    simp
  rcases hh with e | ⟨z, t, e, hz⟩
  · subst e
    rw [List.length_nil] at hn
    rw [← key]
    show (((r.length : Int), c) :: termsTo n (0 + 1) r).foldl frStep (List.replicate (((r.length : Nat) : Int).toNat + 1) 0) = (((r.length : Int), c) :: termsTo n (0 + 1) r).foldl frStep (zer n)
    rw [show ((r.length : Nat) : Int).toNat + 1 = n by omega]
    rfl
  · subst e
    rw [← key]
    have e1 : termsTo n 0 (z :: t) = ((n : Int) - 1 - (0 : Nat), z) :: termsTo n 1 t := if_neg hz
    rw [e1]
    show (((n : Int) - 1 - (0 : Nat), z) :: (termsTo n 1 t ++ [((r.length : Int), c)] ++ termsTo n ((z :: t).length + 1) r)).foldl frStep (List.replicate (((n : Int) - 1 - (0 : Nat)).toNat + 1) 0) = (((n : Int) - 1 - (0 : Nat), z) :: (termsTo n 1 t ++ [((r.length : Int), c)] ++ termsTo n ((z :: t).length + 1) r)).foldl frStep (zer n)
    rw [List.length_cons] at hn
    rw [show ((n : Int) - 1 - (0 : Nat)).toNat + 1 = n by omega]
    rfl
theorem hd_cases {zs : List Int} (h : zs.head? ≠ some 0) : zs = [] ∨ ∃ z t, zs = z :: t ∧ z ≠ 0 := by
  cases zs with
  | nil => exact .inl rfl
  | cons z t => exact .inr ⟨z, t, rfl, fun e => h (by rw [e]; rfl)⟩
theorem frT_terms {zs : List Int} (h : zs.head? ≠ some 0) : frT (terms zs) = zs := by
  rcases hd_cases h with e | ⟨z, t, e, hz⟩
  · subst e
    rfl
  · subst e
    rw [terms_cons hz]
    exact frT_join (n := t.length + 1) (hi := []) (by rw [List.length_nil]; omega) (.inl rfl)
theorem add_same {xs ys : List Int} (hx : xs.head? ≠ some 0) (hy : ys.head? ≠ some 0) : addT xs ys = addP xs ys := by
  rcases hd_cases hy with e | ⟨z, t, e, hz⟩
  · subst e
    rfl
  · subst e
    unfold addT addP
    rw [if_neg (by simp), terms_cons hz]
    show frT (((terms xs).filter fun p => decide (p.1 > (t.length : Int))) ++ [((t.length : Int), z + (((terms xs).filter fun p => decide (p.1 = (t.length : Int))).map (·.2)).sum)] ++ termsTo (t.length + 1) 1 t) = _
    by_cases c : xs.length < (z :: t).length
    · rw [if_pos c]
      rw [List.length_cons] at c
      have f1 : (terms xs).filter (fun p => decide (p.1 > (t.length : Int))) = [] := filter_none fun p hp => by
        have := (terms_fst _ _ _ _ hp).1
        exact decide_eq_false (by omega)
      have f2 : (terms xs).filter (fun p => decide (p.1 = (t.length : Int))) = [] := filter_none fun p hp => by
        have := (terms_fst _ _ _ _ hp).1
        exact decide_eq_false (by omega)
      rw [f1, f2]
      have e0 : z + (List.map (fun x : Int × Int => x.2) []).sum = z := by simp
      rw [e0]
      exact frT_join (n := t.length + 1) (hi := []) (by rw [List.length_nil]; omega) (.inl rfl)
    · rw [if_neg c]
      rw [List.length_cons] at c
      have hlen : (z :: t).length = t.length + 1 := rfl
      rw [hlen]
      obtain ⟨hi, u, lo, hxs, hlo⟩ : ∃ hi u lo, xs = hi ++ u :: lo ∧ lo.length = t.length := by
        have h1 : xs.length - (t.length + 1) < xs.length := by omega
        refine ⟨xs.take (xs.length - (t.length + 1)), xs[xs.length - (t.length + 1)], xs.drop (xs.length - (t.length + 1) + 1), ?_, ?_⟩
        · rw [← List.drop_eq_getElem_cons h1, List.take_append_drop]
        · rw [List.length_drop]
          omega
      have hl : xs.length = hi.length + 1 + t.length := by
        rw [hxs, List.length_append, List.length_cons, hlo]
        omega
      have hsub : xs.length - (t.length + 1) = hi.length := by omega
      rw [hsub]
      have et : terms xs = termsTo xs.length 0 hi ++ (if u = 0 then [] else [((t.length : Int), u)]) ++ termsTo xs.length (hi.length + 1) lo := by
        show termsTo xs.length 0 xs = _
        conv => lhs; arg 3; rw [hxs]
        rw [termsTo_app, List.append_assoc]
        congr 1
        rw [Nat.zero_add]
        show (if u = 0 then _ else _) = _
        split
        · rfl
        · show _ :: _ = [_] ++ _
          rw [show (xs.length : Int) - 1 - hi.length = t.length by omega]
          rfl
      have f1 : (terms xs).filter (fun p => decide (p.1 > (t.length : Int))) = termsTo xs.length 0 hi := by
        rw [et, List.filter_append, List.filter_append, filter_all (fun p hp => ?_), filter_none (l := termsTo xs.length (hi.length + 1) lo) (fun p hp => ?_), filter_none (l := if u = 0 then [] else [((t.length : Int), u)]) (fun p hp => ?_)]
        · simp
        · split at hp
          · cases hp
          · rw [List.mem_singleton.mp hp]
            exact decide_eq_false (by show ¬ (t.length : Int) > t.length; omega)
        · have := (terms_fst _ _ _ _ hp).1
          exact decide_eq_false (by omega)
        · have := (terms_fst _ _ _ _ hp).2.1
          exact decide_eq_true (by omega)
      have f2 : (((terms xs).filter fun p => decide (p.1 = (t.length : Int))).map (·.2)).sum = u := by
        rw [et, List.filter_append, List.filter_append, filter_none (l := termsTo xs.length 0 hi) (fun p hp => ?_), filter_none (l := termsTo xs.length (hi.length + 1) lo) (fun p hp => ?_), filter_all (l := if u = 0 then [] else [((t.length : Int), u)]) (fun p hp => ?_)]
        · by_cases hu : u = 0
          · rw [if_pos hu, hu]
            rfl
          · rw [if_neg hu]
            simp
        · split at hp
          · cases hp
          · rw [List.mem_singleton.mp hp]
            exact decide_eq_true rfl
        · have := (terms_fst _ _ _ _ hp).1
          exact decide_eq_false (by omega)
        · have := (terms_fst _ _ _ _ hp).2.1
          exact decide_eq_false (by omega)
      rw [f1, f2]
      have g1 : xs.take hi.length = hi := by rw [hxs, List.take_left]
      have g2 : xs.getD hi.length 0 = u := by
        rw [hxs, List.getD_eq_getElem?_getD, List.getElem?_append_right (Nat.le_refl _), Nat.sub_self]
        rfl
      rw [g1, g2, Int.add_comm z u]
      refine frT_join hl ?_
      cases hi with
      | nil => exact .inl rfl
      | cons q s =>
        refine .inr ⟨q, s, rfl, fun e => hx ?_⟩
        rw [hxs, e]
        rfl
def stepP (a0 : Int) (tl : List Int) (found : List Int) (p : Int × Int) : List Int := addP found (if p.1 > 0 then p.2 :: zer (tl.length + p.1.toNat) else (a0 * p.2) :: tl)
def gP (d : Nat) (pre : List Int) (k : Nat) : List Int := if pre = [] then [] else pre ++ zer (k + d)
theorem addP_nil (z : Int) (t : List Int) : addP [] (z :: t) = z :: t := by
  unfold addP
  rw [if_neg (by simp), if_pos (by simp)]
theorem addP_zer {pre t : List Int} {z : Int} {k : Nat} (h : k = t.length + 1) : addP (pre ++ zer k) (z :: t) = pre ++ z :: t := by
  unfold addP
  have hl : (pre ++ zer k).length = pre.length + (t.length + 1) := by
    rw [List.length_append, h]
    unfold zer
    rw [List.length_replicate]
  rw [if_neg (by simp), hl, List.length_cons, if_neg (by omega), Nat.add_sub_cancel, List.take_left]
  have e : (pre ++ zer k).getD pre.length 0 = 0 := by
    rw [List.getD_eq_getElem?_getD, List.getElem?_append_right (Nat.le_refl _), Nat.sub_self, h]
    rfl
  rw [e]
  show pre ++ (0 + z) :: t = _
  rw [Int.zero_add]
theorem zer_succ (k : Nat) : zer (k + 1) = 0 :: zer k := rfl
theorem prod_at (a0 : Int) (tl : List Int) (f : Int) : ∀ (zs pre : List Int) (m : Nat), m = pre.length + zs.length + 1 → (pre = [] → (zs ++ [f]).head? ≠ some 0) →
    (termsTo m pre.length (zs ++ [f])).foldl (stepP a0 tl) (gP tl.length pre (zs.length + 1)) = pre ++ zs ++ (if f = 0 then zer (tl.length + 1) else (a0 * f) :: tl)
  | [], pre, m, hm, hh => by
    rw [List.length_nil] at hm
    show (if f = 0 then [] else [((m : Int) - 1 - pre.length, f)]).foldl (stepP a0 tl) (gP tl.length pre (0 + 1)) = _
    rw [List.append_nil]
    by_cases hf : f = 0
    · rw [if_pos hf, if_pos hf]
      have hp : pre ≠ [] := fun e => hh e (by rw [hf]; rfl)
      show gP tl.length pre (0 + 1) = _
      unfold gP
      rw [if_neg hp, show 0 + 1 + tl.length = tl.length + 1 by omega]
    · rw [if_neg hf, if_neg hf]
      show stepP a0 tl (gP tl.length pre (0 + 1)) ((m : Int) - 1 - pre.length, f) = _
      unfold stepP gP
      rw [if_neg (show ¬ (m : Int) - 1 - pre.length > 0 by omega)]
      by_cases hp : pre = []
      · rw [if_pos hp, hp]
        exact addP_nil _ _
      · rw [if_neg hp]
        exact addP_zer (by omega)
  | z :: zs, pre, m, hm, hh => by
    rw [List.length_cons] at hm
    have ih := prod_at a0 tl f zs (pre ++ [z]) m (by rw [List.length_append]; simp; omega) (fun e => by simp at e)
    have e0 : (pre ++ [z]).length = pre.length + 1 := by rw [List.length_append]; rfl
    rw [e0] at ih
    have er : pre ++ (z :: zs) = pre ++ [z] ++ zs := by simp
    rw [er, ← ih]
    show (if z = 0 then termsTo m (pre.length + 1) (zs ++ [f]) else ((m : Int) - 1 - pre.length, z) :: termsTo m (pre.length + 1) (zs ++ [f])).foldl (stepP a0 tl) (gP tl.length pre (zs.length + 1 + 1)) = _
    have g1 : gP tl.length (pre ++ [z]) (zs.length + 1) = (pre ++ [z]) ++ zer (zs.length + 1 + tl.length) := by
      unfold gP
      rw [if_neg (by simp)]
    by_cases hz : z = 0
    · rw [if_pos hz]
      have hp : pre ≠ [] := fun e => hh e (by rw [hz]; rfl)
      congr 1
      rw [g1, hz]
      unfold gP
      rw [if_neg hp, show zs.length + 1 + 1 + tl.length = (zs.length + 1 + tl.length) + 1 by omega, zer_succ]
      simp
    · rw [if_neg hz, List.foldl_cons]
      congr 1
      rw [g1]
      unfold stepP
      rw [if_pos (show (m : Int) - 1 - pre.length > 0 by omega)]
      show addP _ (z :: zer (tl.length + ((m : Int) - 1 - pre.length).toNat)) = _
      have e1 : tl.length + ((m : Int) - 1 - pre.length).toNat = zs.length + 1 + tl.length := by omega
      rw [e1]
      unfold gP
      by_cases hp : pre = []
      · rw [if_pos hp, hp]
        exact addP_nil _ _
      · rw [if_neg hp, addP_zer (by unfold zer; rw [List.length_replicate]; omega)]
        simp
theorem mul_same {a0 : Int} {tl ys : List Int} (hy : ys.head? ≠ some 0) : (terms ys).foldl (stepP a0 tl) [] = mulP (a0 :: tl) ys := by
  by_cases e : ys = []
  · subst e
    rfl
  · have e1 : ys.dropLast ++ [ys.getLast e] = ys := List.dropLast_concat_getLast e
    have hl : ys.length = ([] : List Int).length + ys.dropLast.length + 1 := by
      rw [List.length_nil, List.length_dropLast]
      have := List.length_pos_iff.mpr e
      omega
    have h := prod_at a0 tl (ys.getLast e) ys.dropLast [] ys.length hl (fun _ => by rw [e1]; exact hy)
    rw [e1] at h
    have e2 : ys.getLastD 0 = ys.getLast e := by
      rw [List.getLastD_eq_getLast?, List.getLast?_eq_getLast e]
      rfl
    show (termsTo ys.length 0 ys).foldl (stepP a0 tl) [] = _
    have h' : (termsTo ys.length 0 ys).foldl (stepP a0 tl) [] = [] ++ ys.dropLast ++ (if ys.getLast e = 0 then zer (tl.length + 1) else (a0 * ys.getLast e) :: tl) := h
    rw [h', List.nil_append]
    unfold mulP
    have hn : ¬ (a0 :: tl = [] ∨ ys = []) := by simp [e]
    rw [if_neg hn, e2]
    split <;> rfl
/-! what a sum keeps -/
theorem addP_len (xs ys : List Int) : (addP xs ys).length ≤ max xs.length ys.length := by
  unfold addP
  split
  · omega
  · split
    · omega
    · rename_i h1 h2
      rw [List.length_append, List.length_cons, List.length_take, List.length_tail]
      have := List.length_pos_iff.mpr h1
      omega
theorem addP_mem {xs ys : List Int} {z : Int} (h : z ∈ addP xs ys) : z ∈ xs ∨ z ∈ ys ∨ ∃ x y, x ∈ xs ∧ y ∈ ys ∧ z = x + y := by
  unfold addP at h
  split at h
  · exact .inl h
  · rename_i h1
    split at h
    · exact .inr (.inl h)
    · rename_i h2
      rcases List.mem_append.mp h with h | h
      · exact .inl (List.mem_of_mem_take h)
      · rcases List.mem_cons.mp h with h | h
        · refine .inr (.inr ?_)
          cases ys with
          | nil => exact absurd rfl h1
          | cons y r =>
            rw [List.length_cons] at h2 h
            have hlt : xs.length - (r.length + 1) < xs.length := by omega
            refine ⟨xs[xs.length - (r.length + 1)], y, List.getElem_mem _, List.mem_cons_self .., ?_⟩
            rw [h, List.getD_eq_getElem?_getD, List.getElem?_eq_getElem hlt]
            rfl
        · exact .inr (.inl (List.mem_of_mem_tail h))
theorem addP_nz {xs ys : List Int} (hx : NZ xs) (hy : NZ ys) : NZ (addP xs ys) := by
  refine ⟨fun z h => ?_, ?_⟩
  · rcases addP_mem h with h | h | ⟨x, y, h1, h2, rfl⟩
    · exact hx.nn z h
    · exact hy.nn z h
    · have := hx.nn x h1
      have := hy.nn y h2
      omega
  · unfold addP
    split
    · exact hx.hd
    · rename_i h1
      split
      · exact hy.hd
      · rename_i h2
        cases ys with
        | nil => exact absurd rfl h1
        | cons y r =>
          rcases hd_cases hx.hd with e | ⟨a, t, e, ha⟩
          · subst e
            simp at h2
          · subst e
            by_cases c : (a :: t).length - (y :: r).length = 0
            · rw [c, List.take_zero]
              show some (a + y) ≠ some 0
              have h3 := hx.nn a (List.mem_cons_self ..)
              have h4 := hy.nn y (List.mem_cons_self ..)
              intro q
              have := Option.some.inj q
              omega
            · obtain ⟨k, hk⟩ : ∃ k, (a :: t).length - (y :: r).length = k + 1 := ⟨_, (Nat.succ_pred c).symm⟩
              rw [hk]
              show some a ≠ some 0
              intro q
              exact ha (Option.some.inj q)
abbrev sPad : Stmt := topS 12
theorem cut_last (xs : List V) : cutV xs none (some (-1)) = xs.dropLast := by
  unfold cutV
  have e : HT.sIx xs.length xs.length (some (-1)) = xs.length - 1 := by
    show (if (-1 : Int) < 0 then ((-1 : Int) + (xs.length : Int)).toNat else min (-1 : Int).toNat xs.length) = _
    rw [if_pos (by decide)]
    omega
  rw [HT.sIx_none, e, List.drop_zero, Nat.sub_zero, List.dropLast_eq_take]
theorem size_ok {n : Nat} (h : n ≤ 1000) : n ≤ sizeLine := Nat.le_of_lt (small1000 h)
section
variable {P : Program} {w : World} {K : PySem.W.Frag} {mg : Str → Option Value} {base : Heap}
theorem ixt_K {X : Cx} (h : X.K = K) : IxR X (rIxT K) := by
  subst h
  exact ix_tup
theorem scPad : FnScope ["first", "second", "shared"] ["first", "second"] (defScope sPad) := ⟨rfl, rfl, rfl, by decide +kernel, rfl, by decide +kernel, by decide +kernel⟩
def spPad (K : PySem.W.Frag) : Sp := fun vs H Q _ => ∃ (a b : Addr) (as bs : List Int), vs = [.ref a, .ref b] ∧ SqT K H a (as.map V.int) ∧ SqT K H b (bs.map V.int) ∧ as.length ≤ 400 ∧ bs.length ≤ 400 ∧ ∀ p H', Same H H' → SqT K H' p ((addP as bs).map V.int) → Q (.ref p) H'

theorem ok_pad {f : Addr} {fd : FuncData} {k : Nat} (F : Fun K "add" "add" sPad f fd) (ml : mg "len" = none) : FnOk P w K mg base CX0 (k + 1) f fd ["first", "second"] (spPad K) := by
  refine F.ok scPad (fun vs H Q E h => ?_) (fun cdv A outer s H vs Q E hr h => ?_)
  · obtain ⟨a, b, as, bs, rfl, _⟩ := h
    rfl
  · obtain ⟨a, b, as, bs, rfl, ha, hb, la, lb, q⟩ := h
    refine ⟨_, (pss_cons (ps_if (pt_cmpR op_eq (pe_callB call_len_seq (by rfl) ml PySem.boot_len (pa_cons (pv 1) pa_nil)) (pe_int) (nomark _)) (pss_one (ps_ret (pv 0))) pss_nil)
        (pss_cons (ps_if (pt_cmpR op_lt (pe_callB call_len_seq (by rfl) ml PySem.boot_len (pa_cons (pv 0) pa_nil)) (pe_callB call_len_seq (by rfl) ml PySem.boot_len (pa_cons (pv 1) pa_nil)) (nomark _)) (pss_one (ps_ret (pv 1))) pss_nil)
        (pss_cons (ps_set (i := 2) scPad.nd rfl (.inl rfl) (pe_op op_sub (pe_callB call_len_seq (by rfl) ml PySem.boot_len (pa_cons (pv 0) pa_nil)) (pe_callB call_len_seq (by rfl) ml PySem.boot_len (pa_cons (pv 1) pa_nil))))
        (pss_one (ps_ret (pe_op op_catU (pe_op op_catU (pe_slice sl_tupU (pv 0) (po_none) (po_some (pv 2))) (pe_tup (pa_cons (pe_op op_add (pe_ix ix_tup (pv 0) (pv 2) (fun _ _ => rfl)) (pe_ix ix_tup (pv 1) (pe_int) (fun _ _ => rfl))) pa_nil))) (pe_slice sl_tupU (pv 1) (po_some (pe_int)) (po_none)))))))), ?_⟩
    refine ⟨_, rfl, b, _, rfl, .inr hb, rfl, _, rfl, ?_⟩
    rw [List.length_map]
    have fin : ∀ zs, addP as bs = zs → ∀ p H', Same H H' → SqT K H' p (zs.map V.int) → Q (.ref p) H' := by
      intro zs e p H' s t
      rw [← e] at t
      exact q p H' s t
    refine ite2 (fun c => ?_) (fun c => ?_)
    · have e : bs = [] := by
        have := V.int.inj (of_decide_eq_true c)
        exact List.eq_nil_of_length_eq_zero (by omega)
      refine ⟨_, rfl, fin as ?_ a H (Same.refl H) ha⟩
      unfold addP
      rw [if_pos e]
    · obtain ⟨y, r, rfl⟩ : ∃ y r, bs = y :: r := by
        cases bs with
        | nil => exact absurd (decide_eq_true rfl) c
        | cons y r => exact ⟨y, r, rfl⟩
      refine ⟨_, rfl, a, _, rfl, .inr ha, _, rfl, b, _, rfl, .inr hb, _, _, rfl, rfl, _, rfl, ?_⟩
      rw [List.length_map, List.length_map]
      refine ite2 (fun c2 => ?_) (fun c2 => ?_)
      · have c2' := of_decide_eq_true c2
        refine ⟨_, rfl, fin (y :: r) ?_ b H (Same.refl H) hb⟩
        unfold addP
        rw [if_neg (by simp), if_pos (by omega)]
      · have c2' : (y :: r).length ≤ as.length := by
          have h : ¬ ((as.length : Int) < ((y :: r).length : Int)) := fun z => c2 (decide_eq_true z)
          omega
        refine ⟨_, rfl, a, _, rfl, .inr ha, _, rfl, b, _, rfl, .inr hb, _, _, rfl, rfl, ?_⟩
        rw [List.length_map, List.length_map]
        obtain ⟨sh, hsh⟩ : ∃ sh : Nat, sh = as.length - (y :: r).length := ⟨_, rfl⟩
        have esh : ((as.length : Int) - ((y :: r).length : Int)) = (sh : Int) := by omega
        change gName 2 (V.int ((as.length : Int) - ((y :: r).length : Int))) _ _ _
        rw [esh]
        rw [List.length_cons] at c2' hsh
        have hlt : sh < as.length := by omega
        refine ⟨_, rfl, _, rfl, _, rfl, a, _, rfl, ha, fun p1 H1 s1 t1 => ?_⟩
        rw [cut_to, ← List.map_take] at t1
        refine ⟨_, rfl, _, rfl, a, _, _, _, rfl, rfl, Same.seqT s1 ha, atI_nat (v := .int as[sh]) (by rw [List.getElem?_map, List.getElem?_eq_getElem hlt]; rfl), _, rfl, b, _, 0, _, rfl, rfl, Same.seqT s1 hb, atI_nat (j := 0) rfl, _, _, rfl, rfl, by show 1 ≤ sizeLine; decide, fun p2 np2 => ?_⟩
        have e2 := same_upd (o := .tup [.int (as[sh] + y)]) np2
        refine ⟨p1, p2, _, _, rfl, rfl, Same.seqT e2 t1, .inl (.inl upd_same), size_ok ?_, fun p3 H3 s3 t3 => ?_⟩
        · rw [List.length_map, List.length_take, List.length_singleton]
          omega
        · have s13 := (s1.trans e2).trans s3
          refine ⟨_, rfl, 1, rfl, b, _, rfl, Same.seqT s13 hb, fun p4 H4 s4 t4 => ?_⟩
          have ec : cutV ((y :: r).map V.int) (some 1) none = r.map V.int := cut_from _ 1
          rw [ec] at t4
          refine ⟨p3, p4, _, _, rfl, rfl, Same.seqT s4 t3, t4, size_ok ?_, fun p5 H5 s5 t5 => ?_⟩
          · rw [List.length_append, List.length_map, List.length_map, List.length_take, List.length_singleton]
            rw [List.length_cons] at lb
            omega
          · refine fin (as.take sh ++ (as[sh] + y) :: r) ?_ p5 H5 ((s13.trans s4).trans s5) ?_
            · unfold addP
              rw [if_neg (by simp), List.length_cons, if_neg (by omega), ← hsh, List.getD_eq_getElem?_getD, List.getElem?_eq_getElem hlt]
              rfl
            · rw [List.map_append]
              have e3 : (as.take sh).map V.int ++ [V.int (as[sh] + y)] ++ r.map V.int = (as.take sh).map V.int ++ ((as[sh] + y) :: r).map V.int := by
                rw [List.append_assoc]
                rfl
              rw [← e3]
              exact t5

end
abbrev sPow : Stmt := topS 11
section
variable {P : Program} {w : World} {K : PySem.W.Frag} {mg : Str → Option Value} {base : Heap}
/-! ### power -/
def powL (e c : Int) : List Int := if c = 0 then [] else c :: List.replicate e.toNat 0
theorem scPow : FnScope ["exponent", "coefficient"] ["exponent", "coefficient"] (defScope sPow) := ⟨rfl, rfl, rfl, by decide +kernel, rfl, by decide +kernel, by decide +kernel⟩
def spPow (K : PySem.W.Frag) : Sp := fun vs H Q _ => ∃ (e c : Int), vs = [.int e, .int c] ∧ 0 ≤ e ∧ e ≤ 900 ∧ ∀ p H', Same H H' → SqT K H' p ((powL e c).map V.int) → Q (.ref p) H'
theorem ok_pow {f : Addr} {fd : FuncData} {k : Nat} {dvs : List V} (F : FunD K "power" "power" (defArgs sPow) (defBody sPow) (defScope sPow) dvs [] f fd) : FnOk P w K mg base CX0 (k + 1) f fd ["exponent", "coefficient"] (spPow K) := by
  refine F.ok scPow (fun vs H Q E h => ?_) (fun cdv A outer s H vs Q E hr h => ?_)
  · obtain ⟨e, c, rfl, _⟩ := h
    rfl
  · obtain ⟨e, c, rfl, h0, h1, q⟩ := h
    refine ⟨_, (show PSs (cxOf CX0 P w K mg base ["exponent", "coefficient"] "power" (defScope sPow) f cdv A outer s H E).nox (defBody sPow) _ from
      pss_cons (ps_if (pt_cmpR op_eq (pv 1) pe_int (nomark _)) (pss_one (ps_ret (pe_tup pa_nil))) pss_nil)
      (pss_one (ps_ret (pe_op op_catU (pe_tup (pa_cons (pv 1) pa_nil)) (pe_op op_repU (pe_tup (pa_cons pe_int pa_nil)) (pv 0)))))).nox, ?_⟩
    refine ⟨_, rfl, rfl, _, rfl, ite2 (fun ec => ?_) (fun ec => ?_)⟩
    · have ec' : c = 0 := V.int.inj (of_decide_eq_true ec)
      refine ⟨Nat.zero_le _, fun p np => q p _ (same_upd np) (.inl (.inl ?_))⟩
      rw [upd_same, powL, if_pos ec']
      rfl
    · have ec' : c ≠ 0 := fun z => ec (decide_eq_true (by rw [z]))
      refine ⟨_, rfl, by show 1 ≤ sizeLine; decide, fun p np => ⟨by show 1 ≤ sizeLine; decide, fun p2 np2 => ⟨_, rfl, p2, e, _, rfl, rfl, .inl (.inl upd_same), rfl, by omega, by omega, fun p3 H3 s3 t3 => ?_⟩⟩⟩
      rw [flat_one] at t3
      refine ⟨p, p3, [.int c], _, rfl, rfl, Same.seqT s3 (Same.seqT (same_upd np2) (.inl (.inl upd_same))), t3, ?_, fun p4 H4 s4 t4 => q p4 H4 ((((same_upd np).trans (same_upd np2)).trans s3).trans s4) ?_⟩
      · rw [List.length_map, List.length_replicate]
        exact Nat.le_of_lt (small1000 (by
          show 1 + e.toNat ≤ 1000
          omega))
      · rw [powL, if_neg ec']
        exact t4
end
end Lim
set_option maxHeartbeats 1000000
namespace Lim
open PySem PySem.Spec PyProof.Rows L2 TL
/-! ### the texts of terms -/
def mkS (l : List Nat) : Str := ⟨l.toArray⟩
theorem tl_mkS (l : List Nat) : tl (mkS l) = l := rfl
theorem eq_mkS {x : Str} {l : List Nat} (h : tl x = l) : x = mkS l := by
  rw [← h]
  exact (mk_tl x).symm
def baseL (e : Nat) : List Nat := if e = 1 then [119] else [119, 94] ++ numL e
def termL (e c : Nat) : List Nat := if e = 0 then numL c else if c = 1 then baseL e else baseL e ++ [42] ++ numL c
def termS (p : Int × Int) : Str := mkS (termL p.1.toNat p.2.toNat)
def termsOf (zs : List Int) : List (Int × Int) := if terms zs = [] then [(0, 0)] else terms zs
def textS (zs : List Int) : Str := Txt.join " + " ((termsOf zs).map termS)
theorem baseL_free {e s : Nat} (h : s < 48 ∨ 57 < s) (h1 : s ≠ 119) (h2 : s ≠ 94) : s ∉ baseL e := by
  unfold baseL
  split
  · simp [h1]
  · intro hm
    rcases List.mem_append.mp hm with q | q
    · simp [h1, h2] at q
    · exact numL_free h q
theorem termL_free {e c s : Nat} (h : s < 48 ∨ 57 < s) (h1 : s ≠ 119) (h2 : s ≠ 94) (h3 : s ≠ 42) : s ∉ termL e c := by
  unfold termL
  split
  · exact numL_free h
  · split
    · exact baseL_free h h1 h2
    · intro hm
      rcases List.mem_append.mp hm with q | q
      · rcases List.mem_append.mp q with q | q
        · exact baseL_free h h1 h2 q
        · simp [h3] at q
      · exact numL_free h q
theorem baseL_len {e : Nat} (h : e < 100) : (baseL e).length ≤ 4 := by
  unfold baseL
  split
  · decide
  · rw [List.length_append]
    have := numL_len (n := e) (k := 2) (by decide) (by omega)
    show 2 + (numL e).length ≤ 4
    omega
theorem termL_len {e c : Nat} (h : e < 100) (hc : c < 10 ^ 18) : (termL e c).length ≤ 30 := by
  have h1 := numL_len (n := c) (k := 18) (by decide) hc
  have h2 := baseL_len h
  unfold termL
  split
  · omega
  · split
    · omega
    · rw [List.length_append, List.length_append, List.length_singleton]
      omega
theorem sw_eq {x y : Str} (hy : tl y ≠ []) : Txt.startswith x y = pre (tl y) (tl x) := by
  have h := at_iff (x := x) hy 0
  rw [List.drop_zero] at h
  apply Bool.eq_iff_iff.mpr
  rw [← h]
  constructor
  · intro q
    have q' := Bool.and_eq_true_iff.mp q
    exact ⟨of_decide_eq_true q'.1, q'.2⟩
  · rintro ⟨q1, q2⟩
    exact Bool.and_eq_true_iff.mpr ⟨decide_eq_true q1, q2⟩
theorem sw_w_base (e : Nat) : Txt.startswith (mkS (baseL e)) "w" = true := by
  rw [sw_eq (by decide +kernel)]
  unfold baseL
  split
  · decide +kernel
  · show pre (tl "w") (119 :: 94 :: numL e) = true
    rfl
theorem sw_wp_base {e : Nat} (h : e ≠ 1) : Txt.startswith (mkS (baseL e)) "w^" = true := by
  rw [sw_eq (by decide +kernel)]
  unfold baseL
  rw [if_neg h]
  show pre (tl "w^") (119 :: 94 :: numL e) = true
  rfl
theorem sw_num (c : Nat) : Txt.startswith (mkS (numL c)) "w" = false := by
  rw [sw_eq (by decide +kernel), tl_mkS]
  cases h : numL c with
  | nil => exact absurd h (numL_ne c)
  | cons d r =>
    have hd := numL_digits c d (by rw [h]; exact List.mem_cons_self ..)
    show (List.take 1 (d :: r) == [119]) = false
    have : d ≠ 119 := by omega
    simp [this]
theorem split_text {zs : List Int} : Txt.split (textS zs) " + " = (termsOf zs).map termS := by
  unfold textS
  refine split_join (y := " + ") (s := 32) (S := [43, 32]) (by decide +kernel) (by decide +kernel) ?_ ?_
  · unfold termsOf
    split
    · simp
    · rename_i h
      simpa using h
  · intro p hp
    obtain ⟨q, _, rfl⟩ := List.mem_map.mp hp
    exact termL_free (by decide) (by decide) (by decide) (by decide)
theorem part_num (c : Nat) : Txt.partition (mkS (numL c)) "*" = (mkS (numL c), Str.empty, Str.empty) :=
  partition_none (y := "*") (s := 42) (S := []) (by decide +kernel) (numL_free (by decide))
theorem part_base (e : Nat) : Txt.partition (mkS (baseL e)) "*" = (mkS (baseL e), Str.empty, Str.empty) :=
  partition_none (y := "*") (s := 42) (S := []) (by decide +kernel) (baseL_free (by decide) (by decide) (by decide))
theorem part_both (e c : Nat) : Txt.partition (mkS (baseL e ++ [42] ++ numL c)) "*" = ((mkS (baseL e), ("*" : Str), mkS (numL c)) : Str × Str × Str) := by
  have h := partition_app (y := "*") (s := 42) (S := []) (a := mkS (baseL e)) (b := mkS (numL c)) (by decide +kernel) (baseL_free (by decide) (by decide) (by decide))
  have e1 : mkS (baseL e) ++ "*" ++ mkS (numL c) = mkS (baseL e ++ [42] ++ numL c) := eq_mkS (by
    rw [tl_append, tl_append]
    rfl)
  rw [e1] at h
  exact h
theorem num_str (n : Nat) : (Str.ofString (toString ((n : Nat) : Int))) = mkS (numL n) := eq_mkS (tl_num n)
/-- reading the terms back -/
theorem back_terms {zs : List Int} (h : zs.head? ≠ some 0) : (terms zs).foldl (stepP 1 []) [] = zs := by
  rw [mul_same h]
  by_cases e : zs = []
  · subst e
    rfl
  · have e1 := List.dropLast_concat_getLast e
    have e2 : zs.getLastD 0 = zs.getLast e := by
      rw [List.getLastD_eq_getLast?, List.getLast?_eq_getLast e]
      rfl
    have hn : ¬ (([1] : List Int) = [] ∨ zs = []) := by simp [e]
    unfold mulP
    rw [if_neg hn, e2]
    split
    · rename_i h0
      rw [h0] at e1
      exact e1
    · show zs.dropLast ++ [1 * zs.getLast e] = zs
      rw [Int.one_mul]
      exact e1
end Lim
set_option maxHeartbeats 1000000
namespace Lim
open PySem PySem.Spec PyProof.Rows L2 TL
abbrev sFmT : Stmt := topS 13
abbrev sFmO : Stmt := topS 14
abbrev sCan : Stmt := topS 30
section
variable {P : Program} {w : World} {K : PySem.W.Frag} {mg : Str → Option Value} {base : Heap}
theorem nat_small {n : Nat} (h : n < 10 ^ 18) : ((n : Int)).natAbs.log2 < 1920 := by
  refine log_small ?_
  rw [Int.natAbs_natCast]
  exact Nat.lt_of_lt_of_le h (by decide)
theorem scFmT : FnScope ["exponent", "coefficient", "base"] ["exponent", "coefficient"] (defScope sFmT) := ⟨rfl, rfl, rfl, by decide +kernel, rfl, by decide +kernel, by decide +kernel⟩
def spFmT : Sp := fun vs H Q _ => ∃ (e c : Nat), vs = [.int (e : Int), .int (c : Int)] ∧ e < 100 ∧ c < 10 ^ 18 ∧ c ≠ 0 ∧ Q (.str (mkS (termL e c))) H

theorem ok_fmT {f : Addr} {fd : FuncData} {k : Nat} (F : Fun K "format_term" "format_term" sFmT f fd) (ms : mg "str" = none) : FnOk P w K mg base CX0 (k + 1) f fd ["exponent", "coefficient"] spFmT := by
  refine F.ok scFmT (fun vs H Q E h => ?_) (fun cdv A outer s H vs Q E hr h => ?_)
  · obtain ⟨e, c, rfl, _⟩ := h
    rfl
  · obtain ⟨e, c, rfl, he, hc, hc0, q⟩ := h
    refine ⟨_, (pss_cons (ps_if (pt_cmpR op_eq (pv 0) (pe_int) (nomark _)) (pss_one (ps_ret (pe_callTy call_str_int (by rfl) ms (by decide +kernel) (pa_cons (pv 1) pa_nil)))) pss_nil)
        (C8.pss_cut (ps_set (i := 2) scFmT.nd rfl (.inl rfl) (pe_ifExp (pt_cmpR op_eq (pv 0) (pe_int) (nomark _)) (pe_str) (pe_joined (.cons (pe_str) (.cons (pe_fmt (pv 0)) .nil)))))
        (pss_one (ps_ret (pe_ifExp (pt_cmpR op_eq (pv 1) (pe_int) (nomark _)) (pv 2) (pe_joined (.cons (pe_fmt (pv 2)) (.cons (pe_str) (.cons (pe_fmt (pv 1)) .nil))))))))), ?_⟩
    have fin : ∀ x : Str, tl x = termL e c → Q (.str x) H := fun x hx => by
      rw [eq_mkS hx]
      exact q
    refine ⟨_, rfl, rfl, _, rfl, ite2 (fun c1 => ?_) (fun c1 => ?_)⟩
    · have e0 : e = 0 := by
        have := V.int.inj (of_decide_eq_true c1)
        omega
      refine ⟨_, rfl, _, rfl, nat_small hc, fin _ ?_⟩
      rw [tl_num]
      unfold termL
      rw [if_pos e0]
    · have e0 : e ≠ 0 := fun z => c1 (decide_eq_true (by rw [z]; rfl))
      have fl := baseL_len he
      refine ⟨fun σ H' => σ = [some (.int (e : Int)), some (.int (c : Int)), some (.str (mkS (baseL e)))] ∧ H' = H, ?_, ?_⟩
      · refine ⟨_, rfl, rfl, _, rfl, ite2 (fun c2 => ?_) (fun c2 => ?_)⟩
        · have e1 : e = 1 := by
            have := V.int.inj (of_decide_eq_true c2)
            omega
          subst e1
          exact ⟨rfl, rfl⟩
        · have e1 : e ≠ 1 := fun z => c2 (decide_eq_true (by rw [z]; rfl))
          have ex : ((Str.empty ++ ("w^" : Str)) ++ Str.ofString (toString (e : Int))) = mkS (baseL e) := eq_mkS (by
              rw [tl_append, tl_append, tl_num]
              unfold baseL
              rw [if_neg e1]
              rfl)
          refine ⟨_, rfl, by decide +kernel, _, rfl, .inr ⟨_, rfl, nat_small (Nat.lt_trans he (by decide)), _, rfl, ?_, ?_⟩⟩
          · rw [ex, len_tl, tl_mkS]
            exact Nat.le_trans fl (by decide +kernel)
          · refine ⟨?_, rfl⟩
            show _ = [some (V.int (e : Int)), some (.int (c : Int)), some (.str (mkS (baseL e)))]
            rw [← ex]
            rfl
      · rintro σ H' ⟨rfl, rfl⟩
        refine ⟨_, rfl, rfl, _, rfl, ite2 (fun c3 => ?_) (fun c3 => ?_)⟩
        · have e1 : c = 1 := by
            have := V.int.inj (of_decide_eq_true c3)
            omega
          refine ⟨_, rfl, fin _ ?_⟩
          rw [tl_mkS]
          unfold termL
          rw [if_neg e0, if_pos e1]
        · have e1 : c ≠ 1 := fun z => c3 (decide_eq_true (by rw [z]; rfl))
          have n1 := numL_len (n := c) (k := 18) (by decide) hc
          have l1 : (mkS (baseL e)).length ≤ sizeLine := by
            rw [len_tl, tl_mkS]
            exact Nat.le_trans fl (by decide +kernel)
          have x1 : (Str.empty ++ mkS (baseL e)) = mkS (baseL e) := eq_mkS (by rw [tl_append]; rfl)
          have x2 : (Str.empty ++ mkS (baseL e) ++ ("*" : Str)) = mkS (baseL e ++ [42]) := eq_mkS (by rw [x1, tl_append]; rfl)
          have x3 : (Str.empty ++ mkS (baseL e) ++ ("*" : Str) ++ Str.ofString (toString (c : Int))) = mkS (baseL e ++ [42] ++ numL c) := eq_mkS (by rw [x2, tl_append, tl_num]; rfl)
          refine ⟨_, rfl, .inl ⟨_, rfl, l1, _, rfl, ?_, _, rfl, ?_, _, rfl, .inr ⟨_, rfl, nat_small hc, _, rfl, ?_, ?_⟩⟩⟩
          · rw [x1]
            exact l1
          · rw [x2, len_tl, tl_mkS, List.length_append, List.length_singleton]
            exact Nat.le_trans (Nat.add_le_add_right fl 1) (by decide +kernel)
          · rw [x3, len_tl, tl_mkS, List.length_append, List.length_append, List.length_singleton]
            exact Nat.le_trans (Nat.add_le_add (Nat.add_le_add_right fl 1) n1) (by decide +kernel)
          · refine fin _ ?_
            show tl (Str.empty ++ mkS (baseL e) ++ ("*" : Str) ++ Str.ofString (toString (c : Int))) = _
            rw [x3, tl_mkS]
            unfold termL
            rw [if_neg e0, if_neg e1]
end
end Lim
set_option maxHeartbeats 1000000
namespace Lim
open PySem PySem.Spec PyProof.Rows L2 TL
section
variable {P : Program} {w : World} {K : PySem.W.Frag} {mg : Str → Option Value} {base : Heap}
theorem termS_nat (e c : Nat) : termS ((e : Int), (c : Int)) = mkS (termL e c) := rfl
theorem termS_len {e c : Nat} (h : e < 100) (hc : c < 10 ^ 18) : (termS ((e : Int), (c : Int))).length ≤ 30 := by
  rw [termS_nat, len_tl, tl_mkS]
  exact termL_len h hc
theorem textS_zero {zs : List Int} (h : terms zs = []) : textS zs = "0" := by
  unfold textS termsOf
  rw [if_pos h]
  decide +kernel
theorem termsTo_mem (n : Nat) : ∀ (zs : List Int) (i : Nat) (p : Int × Int), p ∈ termsTo n i zs → ∃ j, j < zs.length ∧ zs[j]? = some p.2 ∧ p.1 = (n : Int) - 1 - (i + j : Nat) ∧ p.2 ≠ 0
  | [], _, p, h => by cases h
  | z :: r, i, p, h => by
    have ih := termsTo_mem n r (i + 1) p
    have tail : p ∈ termsTo n (i + 1) r → ∃ j, j < (z :: r).length ∧ (z :: r)[j]? = some p.2 ∧ p.1 = (n : Int) - 1 - (i + j : Nat) ∧ p.2 ≠ 0 := fun h' => by
      obtain ⟨j, hj, hg, he, h0⟩ := ih h'
      refine ⟨j + 1, by rw [List.length_cons]; omega, hg, ?_, h0⟩
      rw [he]
      omega
    unfold termsTo at h
    split at h
    · exact tail h
    · rename_i hz
      rcases List.mem_cons.mp h with rfl | h'
      · exact ⟨0, by simp, rfl, by simp, hz⟩
      · exact tail h'
/-- the terms of an ordinal, as naturals -/
theorem terms_nat {zs : List Int} (h0 : ∀ z ∈ zs, 0 ≤ z) (h1 : ∀ z ∈ zs, z < 10 ^ 18) (hl : zs.length ≤ 100) : ∀ p ∈ terms zs, ∃ e c : Nat, p = ((e : Int), (c : Int)) ∧ e < 100 ∧ c < 10 ^ 18 ∧ c ≠ 0 := by
  rintro ⟨e, c⟩ hp
  obtain ⟨j, hj, hg, he, hc⟩ := termsTo_mem _ _ _ _ hp
  have hm : c ∈ zs := List.mem_of_getElem? hg
  have a0 := h0 _ hm
  have a1 := h1 _ hm
  have he : e = (zs.length : Int) - 1 - (0 + j : Nat) := he
  have hc : c ≠ 0 := hc
  refine ⟨e.toNat, c.toNat, ?_, by omega, by omega, by omega⟩
  rw [Int.toNat_of_nonneg a0, Int.toNat_of_nonneg (by omega)]
theorem sum_le {α : Type} (f : α → Nat) (m : Nat) : ∀ l : List α, (∀ p ∈ l, f p ≤ m) → (l.map f).sum ≤ l.length * m
  | [], _ => Nat.zero_le _
  | x :: r, h => by
    have h1 := h x (List.mem_cons_self ..)
    have h2 := sum_le f m r fun p hp => h p (List.mem_cons_of_mem _ hp)
    rw [List.map_cons, List.sum_cons, List.length_cons, Nat.add_mul]
    omega
theorem join_small {zs : List Int} (h0 : ∀ z ∈ zs, 0 ≤ z) (h1 : ∀ z ∈ zs, z < 10 ^ 18) (hl : zs.length ≤ 100) : (((terms zs).map termS).map (·.length)).sum + ((terms zs).map termS).length * (" + " : Str).length ≤ 16777216 := by
  have e1 := sum_le (fun s : Str => s.length) 30 ((terms zs).map termS) (by
    intro s hs
    obtain ⟨p, hp, rfl⟩ := List.mem_map.mp hs
    obtain ⟨e, c, rfl, he, hc, _⟩ := terms_nat h0 h1 hl p hp
    exact termS_len he hc)
  have e2 := termsTo_len zs.length zs 0
  have e2 : (terms zs).length ≤ zs.length := e2
  rw [List.length_map] at e1 ⊢
  have e3 : (" + " : Str).length = 3 := by decide +kernel
  rw [e3]
  have : (List.map (fun x => Str.length x) (List.map termS (terms zs))).sum ≤ (terms zs).length * 30 := e1
  omega
theorem scFmO : FnScope ["ordinal", "terms", "place", "coefficient"] ["ordinal"] (defScope sFmO) := ⟨rfl, rfl, rfl, by decide +kernel, rfl, by decide +kernel, by decide +kernel⟩
def Ord (zs : List Int) : Prop := zs.length ≤ 64 ∧ (∀ z ∈ zs, 0 ≤ z) ∧ (∀ z ∈ zs, z < 10 ^ 18) ∧ zs.head? ≠ some 0
def spFmO (K : PySem.W.Frag) : Sp := fun vs H Q _ => ∃ (a : Addr) (zs : List Int), vs = [.ref a] ∧ SqT K H a (zs.map V.int) ∧ Ord zs ∧ ∀ H', Same H H' → Q (.str (textS zs)) H'

theorem ok_fmO {f fT : Addr} {fd dT : FuncData} {k : Nat} (F : Fun K "format_ordinal" "format_ordinal" sFmO f fd) (ml : mg "len" = none) (me : mg "enumerate" = none)
    (GT : FnOk P w K mg base CX0 (k + 1) fT dT ["exponent", "coefficient"] spFmT) (kT : PySem.W.keepIn K (.ref fT) = true) (bT : Binds K dT ["exponent", "coefficient"] []) (gT : mg "format_term" = some (.ref fT)) :
    FnOk P w K mg base CX0 (k + 2) f fd ["ordinal"] (spFmO K) := by
  refine F.ok scFmO (fun vs H Q E h => ?_) (fun cdv A outer s H vs Q E hr h => ?_)
  · obtain ⟨a, zs, rfl, _⟩ := h
    rfl
  · obtain ⟨a, zs, rfl, hT, ⟨hlen, h0, h1, hh⟩, q⟩ := h
    refine ⟨_, (pss_cons (ps_set (i := 1) scFmO.nd rfl (.inl rfl) (pe_lst pa_nil))
        (C8.pss_cut (ps_for PassesOwn.never rfl (pi_enumT (by rfl) me (pa_cons (pv 0) pa_nil)) (pg_tup rfl (pgs_cons (pg_name (i := 2) scFmO.nd rfl (.inl rfl)) (pgs_cons (pg_name (i := 3) scFmO.nd rfl (.inl rfl)) pgs_nil))) (pss_one (ps_if (pt_cmpR op_ne (pv 3) (pe_int) (nomark _)) (pss_one (ps_expr (pe_bm PySem.F.plainAttrs_list PySem.F.slot_list_append PySem.F.type_list_append mt_append (pv 1) (pa_cons (pe_call GT hr (by rfl) gT kT bT .nil pass0 (pa_cons (pe_op op_sub (pe_op op_sub (pe_callB call_len_seq (by rfl) ml PySem.boot_len (pa_cons (pv 0) pa_nil)) (pe_int)) (pv 2)) (pa_cons (pv 3) pa_nil))) pa_nil)))) pss_nil)))
        (pss_one (ps_ret (pe_ifExp (pt_truth (pv 1) (fun _ => rfl)) (pe_join pe_str (pv 1)) (pe_str)))))), ?_⟩
    refine ⟨Nat.zero_le _, fun l nl => ?_⟩
    have sl0 := same_upd (o := .lst []) nl
    refine ⟨fun σ H' => ∃ y2 y3, σ = [some (.ref a), some (.ref l), y2, y3] ∧ Same H H' ∧ H' l = some (.lst (((terms zs).map termS).map V.str)), ?_, ?_⟩
    · refine ⟨_, rfl, a, _, rfl, Same.seqT sl0 hT, ?_⟩
      refine for_enumT (K := K) (a := a) (xs := zs.map V.int) (fun i σ H' => ∃ y2 y3, σ = [some (.ref a), some (.ref l), y2, y3] ∧ Same H H' ∧ H' l = some (.lst (((termsTo zs.length 0 (zs.take i)).map termS).map V.str))) ?_ ?_ ?_ ?_
      · exact ⟨none, none, rfl, sl0, upd_same⟩
      · rintro i σ H' _ ⟨_, _, _, sm, _⟩
        exact Same.seqT sm hT
      · rintro i x σ H1 T hx ⟨y2, y3, rfl, sm, hl⟩ nT
        obtain ⟨z, hz, rfl⟩ := map_get hx
        have hi : i < zs.length := (List.getElem?_eq_some_iff.mp hz).1
        have hm : z ∈ zs := List.mem_of_getElem? hz
        have z0 := h0 _ hm
        have z1 := h1 _ hm
        have etk : termsTo zs.length 0 (zs.take (i + 1)) = termsTo zs.length 0 (zs.take i) ++ termsTo zs.length i [z] := by
          rw [List.take_add_one, hz, termsTo_app, List.length_take, Nat.min_eq_left (by omega), Nat.zero_add]
          rfl
        have sT : Same H1 (L2.upd H1 T (.tup [.int (i : Nat), .int z])) := same_upd nT
        have hl2 := sT _ _ hl
        refine ⟨T, _, rfl, .inl (.inl upd_same), rfl, _, _, rfl, _, _, rfl, rfl, _, rfl, rfl, _, rfl, ite2 (fun c => ?_) (fun c => ?_)⟩
        · have hz0 : z ≠ 0 := fun e => by
            rw [e] at c
            revert c
            decide +kernel
          refine ⟨_, rfl, .inl ⟨rfl, _, .inl (.inl hl2)⟩, _, rfl, a, _, rfl, .inr (Same.seqT (sm.trans sT) hT), _, _, rfl, rfl, _, rfl, _, _, rfl, rfl, _, rfl, ?_⟩
          rw [List.length_map]
          refine ⟨zs.length - 1 - i, z.toNat, ?_, by omega, by omega, by omega, ?_⟩
          · rw [Int.toNat_of_nonneg z0]
            have : (zs.length : Int) - 1 - (i : Nat) = ((zs.length - 1 - i : Nat) : Int) := by omega
            rw [← this]
            rfl
          · refine ⟨l, _, _, rfl, rfl, hl2, ?_, _, _, rfl, ?_, ?_⟩
            · have h2 := termsTo_len zs.length (zs.take i) 0
              rw [List.length_take] at h2
              rw [List.length_map, List.length_map]
              exact small1000 (by omega)
            · exact fun b o e => by
                rw [upd_ne (ne_of_none e nl)]
                exact sT _ _ (sm _ _ e)
            · rw [upd_same, etk, List.map_append, List.map_append]
              unfold termsTo
              rw [if_neg hz0]
              have e1 : termS ((zs.length : Int) - 1 - (i : Nat), z) = mkS (termL (zs.length - 1 - i) z.toNat) := by
                unfold termS
                have : ((zs.length : Int) - 1 - (i : Nat)).toNat = zs.length - 1 - i := by omega
                rw [this]
              show _ = some (HO.lst (_ ++ [V.str (termS ((zs.length : Int) - 1 - (i : Nat), z))]))
              rw [e1]
        · have hz0 : z = 0 := by
            by_cases e : z = 0
            · exact e
            · exact absurd (by
                rw [decide_eq_false (fun q => e (V.int.inj q))]
                rfl) c
          refine ⟨_, _, rfl, sm.trans sT, ?_⟩
          rw [etk]
          have e0 : termsTo zs.length i [z] = [] := by
            unfold termsTo
            rw [if_pos hz0]
            rfl
          rw [e0, List.append_nil]
          exact hl2
      · rintro σ H1 ⟨y2, y3, rfl, sm, hl⟩
        rw [List.length_map, List.take_length] at hl
        exact ⟨y2, y3, rfl, sm, hl⟩
    · rintro σ H1 ⟨y2, y3, rfl, sm, hl⟩
      refine ⟨_, rfl, _, .inl ⟨_, .inl (.inl hl), rfl⟩, ?_⟩
      refine ite2 (fun c => ?_) (fun c => ?_)
      · have ne : terms zs ≠ [] := fun e => by
          rw [e] at c
          revert c
          decide +kernel
        refine ⟨⟨_, rfl⟩, _, rfl, _, l, _, rfl, rfl, .inl (.inl (.inl hl)), join_small h0 h1 (by omega), ?_⟩
        have := q H1 sm
        unfold textS termsOf at this
        rw [if_neg ne] at this
        exact this
      · have e : terms zs = [] := by
          cases h : terms zs with
          | nil => rfl
          | cons p r => exact absurd (by rw [h]; rfl) c
        have := q H1 sm
        rw [textS_zero e] at this
        exact this
end
end Lim
set_option maxHeartbeats 1000000
namespace Lim
open PySem PySem.Spec PyProof.Rows L2 TL
abbrev sPaN : Stmt := topS 15
abbrev sPaT : Stmt := topS 16
/-- for c in a text -/
theorem for_signs {x : Str} {g : TG} {tb : TS} {D : Ends} {σ : L2.St} {H : Hp} (Pv : Nat → L2.St → Hp → Prop) (h0 : Pv 0 σ H)
    (hs : ∀ i c σ H, x.cps[i]? = some c → Pv i σ H → g (.str ⟨#[c]⟩) σ H fun σ2 H2 => tb { D with nx := Pv (i + 1), ct := Pv (i + 1), bk := D.nx } σ2 H2) (hd : ∀ σ H, Pv x.cps.size σ H → D.nx σ H) :
    ∃ W : Nat → Nat → L2.St → Hp → Prop, (∃ m, W 0 m σ H) ∧ ∀ i m σ H, W i m σ H →
      ((Its x).stop i H ∧ D.nx σ H) ∨ ((Its x).go i H ∧ ∃ N : L2.St → Hp → Prop, (∀ σ' H', N σ' H' → ∃ m', m' < m ∧ W (i + 1) m' σ' H') ∧ ∀ y H', (Its x).yld i H y H' → g y σ H' fun σ2 H2 => tb { D with nx := N, ct := N, bk := D.nx } σ2 H2) := by
  refine ⟨fun i m σ H => i + m = x.cps.size ∧ Pv i σ H, ⟨x.cps.size, by omega, h0⟩, ?_⟩
  rintro i m σ H ⟨hm, p⟩
  by_cases hlt : i < x.cps.size
  · refine .inr ⟨hlt, Pv (i + 1), fun σ' H' p' => ⟨m - 1, by omega, by omega, p'⟩, fun v H' y => ?_⟩
    obtain ⟨rfl, c, hc, rfl⟩ := y
    exact hs i c σ H' hc p
  · have e : i = x.cps.size := by omega
    subst e
    exact .inl ⟨Nat.le_refl _, hd σ H p⟩
theorem digit_in : ∀ d : Fin 10, (!(!(Builtin.Str.occurrences ("0123456789" : Str) ⟨#[48 + d.val]⟩ 0 ("0123456789" : Str).length 1).isEmpty)) = false := by decide +kernel
theorem digit_in' {c : Nat} (h : 48 ≤ c ∧ c ≤ 57) : (!(!(Builtin.Str.occurrences ("0123456789" : Str) ⟨#[c]⟩ 0 ("0123456789" : Str).length 1).isEmpty)) = false := by
  have := digit_in ⟨c - 48, by omega⟩
  have e : 48 + (c - 48) = c := by omega
  rw [← e]
  exact this
section
variable {P : Program} {w : World} {K : PySem.W.Frag} {mg : Str → Option Value} {base : Heap}
theorem scPaN : FnScope ["text", "longest", "character"] ["text", "longest"] (defScope sPaN) := ⟨rfl, rfl, rfl, by decide +kernel, rfl, by decide +kernel, by decide +kernel⟩
def spPaN : Sp := fun vs H Q _ => ∃ (c m : Nat), vs = [.str (mkS (numL c)), .int (m : Int)] ∧ (numL c).length ≤ m ∧ m ≤ 100 ∧ Q (.int (c : Int)) H

theorem ok_paN {f : Addr} {fd : FuncData} {k : Nat} {tk : Tok} (F : Fun K "parse_number" "parse_number" sPaN f fd) (ml : mg "len" = none) (mi : mg "int" = none) (gD : mg "DIGITS" = some (.str "0123456789" tk)) : FnOk P w K mg base CX0 (k + 1) f fd ["text", "longest"] spPaN := by
  refine F.ok scPaN (fun vs H Q E h => ?_) (fun cdv A outer s H vs Q E hr h => ?_)
  · obtain ⟨c, m, rfl, _⟩ := h
    rfl
  · obtain ⟨c, m, rfl, hl, hm, q⟩ := h
    refine ⟨_, (pss_cons (ps_if (PW.pt (pw_or (pt_cmpR op_eq (pe_callB call_len_str (by rfl) ml PySem.boot_len (pa_cons (pv 0) pa_nil)) (pe_int) (nomark _)) (pw_or1 (pt_cmpR op_gt (pe_callB call_len_str (by rfl) ml PySem.boot_len (pa_cons (pv 0) pa_nil)) (pv 1) (nomark _))))) (pss_one ps_never) pss_nil)
        (pss_cons (ps_for PassesOwn.never rfl (pi_str (pv 0)) (pg_name (i := 2) scPaN.nd rfl (.inl rfl)) (pss_one (ps_if (pt_cmpR op_notin_str (pv 2) (pe_glob (v := .str "0123456789") (by rfl) gD ⟨_, rfl⟩) (by with_unfolding_all rfl)) (pss_one ps_never) pss_nil)))
        (pss_one (ps_ret (pe_callTy call_int_str (by rfl) mi (by decide +kernel) (pa_cons (pv 0) pa_nil)))))), ?_⟩
    have le : (mkS (numL c)).length = (numL c).length := by rw [len_tl, tl_mkS]
    have ls : (mkS (numL c)).length ≤ sizeLine := by
      rw [le]
      exact Nat.le_trans (Nat.le_trans hl hm) (by decide +kernel)
    have lp : 0 < (numL c).length := List.length_pos_iff.mpr (numL_ne c)
    refine ⟨_, rfl, _, rfl, ls, rfl, _, rfl, ite2 (fun c1 => ?_) (fun c1 => ?_)⟩
    · have := V.int.inj (of_decide_eq_true c1)
      rw [le] at this
      omega
    · refine ⟨_, rfl, _, rfl, ls, _, rfl, _, _, rfl, rfl, _, rfl, ite2 (fun c2 => ?_) (fun c2 => ?_)⟩
      · have := of_decide_eq_true c2
        rw [le] at this
        omega
      · refine ⟨_, rfl, _, rfl, for_signs (fun i σ H' => ∃ y2 : Option V, σ = [some (.str (mkS (numL c))), some (.int (m : Int)), y2] ∧ H' = H) ⟨none, rfl, rfl⟩ ?_ ?_⟩
        · rintro i d σ H' hd ⟨y2, rfl, rfl⟩
          have hd : (numL c).toArray[i]? = some d := hd
          have hm : d ∈ numL c := by
            rw [List.getElem?_toArray] at hd
            exact List.mem_of_getElem? hd
          refine ⟨_, rfl, _, _, rfl, rfl, _, rfl, ?_⟩
          rw [digit_in' (numL_digits c d hm)]
          exact ⟨_, rfl, rfl⟩
        · rintro σ H' ⟨y2, rfl, rfl⟩
          refine ⟨_, rfl, _, _, rfl, ?_, ?_, q⟩
          · rw [← num_str]
            exact int_num (by omega)
          · rw [le]
            omega

/-! ### a term -/
theorem cut2 (l : List Nat) : cutS (mkS (119 :: 94 :: l)) (some 2) none = mkS l := eq_mkS (by
  unfold cutS
  rw [HT.sIx_none, show (2 : Int) = ((2 : Nat) : Int) from rfl, HT.sIx_nat]
  have : (mkS (119 :: 94 :: l)).length = l.length + 2 := by
    rw [len_tl, tl_mkS]
    rfl
  rw [this, Nat.min_eq_left (by omega)]
  show List.take (l.length + 2 - 2) l = l
  rw [Nat.add_sub_cancel, List.take_length])
theorem sw_wp_w : Txt.startswith (mkS [119]) "w^" = false := by decide +kernel
theorem scPaT : FnScope ["text", "base", "star", "factor", "coefficient"] ["text"] (defScope sPaT) := ⟨rfl, rfl, rfl, by decide +kernel, rfl, by decide +kernel, by decide +kernel⟩
def spPaT : Sp := fun vs H Q _ => ∃ (e c : Nat), vs = [.str (mkS (termL e c))] ∧ e < 100 ∧ c < 10 ^ 18 ∧ ∀ p H', Same H H' → H' p = some (.tup [.int (e : Int), .int (c : Int)]) → Q (.ref p) H'

theorem ok_paT {f fN : Addr} {fd dN : FuncData} {k : Nat} {t1 t2 : Tok} (Fn : Fun K "parse_term" "parse_term" sPaT f fd) (gC : mg "LONGEST_COEFFICIENT" = some (.int 18 t1)) (gE : mg "LONGEST_EXPONENT" = some (.int 2 t2))
    (GN : FnOk P w K mg base CX0 (k + 1) fN dN ["text", "longest"] spPaN) (kN : PySem.W.keepIn K (.ref fN) = true) (bN : Binds K dN ["text", "longest"] []) (gN : mg "parse_number" = some (.ref fN)) :
    FnOk P w K mg base CX0 (k + 2) f fd ["text"] spPaT := by
  refine Fn.ok scPaT (fun vs H Q E h => ?_) (fun cdv A outer s H vs Q E hr h => ?_)
  · obtain ⟨e, c, rfl, _⟩ := h
    rfl
  · obtain ⟨e, c, rfl, he, hc, q⟩ := h
    refine ⟨_, (pss_cons (ps_asg (pe_partition (pv 0) pe_str) (pg_tup rfl (pgs_cons (pg_name (i := 1) scPaT.nd rfl (.inl rfl)) (pgs_cons (pg_name (i := 2) scPaT.nd rfl (.inl rfl)) (pgs_cons (pg_name (i := 3) scPaT.nd rfl (.inl rfl)) pgs_nil)))))
        (pss_cons (ps_if (pt_not (pt_val (pe_m1 F.slot_str_startswith F.type_str_startswith mt_startswith (pv 1) pe_str))) (pss_one (ps_ret (pe_tup (pa_cons (pe_int) (pa_cons (pe_call GN hr (by rfl) gN kN bN .nil pass0 (pa_cons (pv 0) (pa_cons (pe_glob (v := .int 18) (by rfl) gC ⟨_, rfl⟩) pa_nil))) pa_nil))))) pss_nil)
        (C8.pss_cut (ps_set (i := 4) scPaT.nd rfl (.inl rfl) (pe_ifExp (pt_truth (pv 2) (fun _ => rfl)) (pe_call GN hr (by rfl) gN kN bN .nil pass0 (pa_cons (pv 3) (pa_cons (pe_glob (v := .int 18) (by rfl) gC ⟨_, rfl⟩) pa_nil))) (pe_int)))
        (pss_cons (ps_if (pt_cmpR op_eq (pv 1) (pe_str) (nomark _)) (pss_one (ps_ret (pe_tup (pa_cons (pe_int) (pa_cons (pv 4) pa_nil))))) pss_nil)
        (pss_cons (ps_if (pt_not (pt_val (pe_m1 F.slot_str_startswith F.type_str_startswith mt_startswith (pv 1) pe_str))) (pss_one ps_never) pss_nil)
        (pss_one (ps_ret (pe_tup (pa_cons (pe_call GN hr (by rfl) gN kN bN .nil pass0 (pa_cons (pe_slice sl_str (pv 1) (po_some (pe_int)) (po_none)) (pa_cons (pe_glob (v := .int 2) (by rfl) gE ⟨_, rfl⟩) pa_nil))) (pa_cons (pv 4) pa_nil)))))))))), ?_⟩
    have n1 := numL_len (n := c) (k := 18) (by decide) hc
    have n2 := numL_len (n := e) (k := 2) (by decide) he
    have ts : (mkS (termL e c)).length ≤ sizeLine := by
      rw [len_tl, tl_mkS]
      exact Nat.le_trans (termL_len he hc) (by decide +kernel)
    refine ⟨_, rfl, ⟨_, rfl⟩, _, _, rfl, rfl, rfl, ts, fun T nT => ?_⟩
    have sT := same_upd (o := .tup [.str (Txt.partition (mkS (termL e c)) "*").1, .str (Txt.partition (mkS (termL e c)) "*").2.1, .str (Txt.partition (mkS (termL e c)) "*").2.2]) nT
    refine ⟨T, _, rfl, .inl (.inl upd_same), rfl, _, _, rfl, _, _, rfl, _, _, rfl, rfl, ?_⟩
    generalize hH1 : upd H T (.tup [.str (Txt.partition (mkS (termL e c)) "*").1, .str (Txt.partition (mkS (termL e c)) "*").2.1, .str (Txt.partition (mkS (termL e c)) "*").2.2]) = H1 at sT
    by_cases e0 : e = 0
    · have ht : termL e c = numL c := by
        unfold termL
        rw [if_pos e0]
      rw [ht, part_num]
      subst e0
      refine ⟨_, rfl, ⟨_, rfl⟩, _, _, rfl, rfl, _, rfl, ?_⟩
      rw [sw_num]
      refine ⟨_, rfl, c, 18, rfl, n1, by omega, by show 2 ≤ sizeLine; decide, fun p np => ?_⟩
      exact q p _ (sT.trans (same_upd np)) upd_same
    · -- the base
      have sb1 : (!Txt.startswith (mkS (baseL e)) "w") = false := by rw [sw_w_base]; rfl
      have bl : (mkS (baseL e)).length ≤ sizeLine := by
        rw [len_tl, tl_mkS]
        exact Nat.le_trans (baseL_len he) (by decide +kernel)
      have rest : ∀ (x2 x3 : V) (H2 : Hp), H2 = H1 → tSeq
                  (tIfS (tTest (tOp rEq (tVar 1) (tC (V.str (Str.ofString "w")))))
                    (tRet (tTup (tCons (tC (V.int 1)) (tCons (tVar 4) tNil)))) tNext)
                  (tSeq
                    (tIfS
                      (tNot
                        (tB
                          (tM1 (fun x xs H Q => ∃ a b, x = V.str a ∧ xs = [V.str b] ∧ Q (V.bl (Txt.startswith a b)) H)
                            (tVar 1) (tC (V.str (Str.ofString "w^"))))))
                      tNever tNext)
                    (tRet
                      (tTup
                        (tCons
                          (tCall spPaN [] E0
                            (tCons (tSl rSlS (tVar 1) (tPart (tC (V.int 2))) tNoPart) (tCons (tC (V.int 2)) tNil)))
                          (tCons (tVar 4) tNil)))))
                { nx := fun x H' => Q V.non H', rt := Q } [some (.str (mkS (termL e c))), some (.str (mkS (baseL e))), some x2, some x3, some (.int (c : Int))] H2 := by
        rintro x2 x3 H2 rfl
        refine ⟨_, rfl, rfl, _, rfl, ite2 (fun c1 => ?_) (fun c1 => ?_)⟩
        · have e1 : e = 1 := by
            apply Classical.byContradiction
            intro e1
            have h1 := V.str.inj (of_decide_eq_true c1)
            have h2 : tl (mkS (baseL e)) = tl "w" := by rw [h1]
            rw [tl_mkS] at h2
            unfold baseL at h2
            rw [if_neg e1] at h2
            cases h2
          subst e1
          exact ⟨_, rfl, by show 2 ≤ sizeLine; decide, fun p np => q p _ (sT.trans (same_upd np)) upd_same⟩
        · have e1 : e ≠ 1 := fun z => c1 (decide_eq_true (by rw [z]; rfl))
          refine ⟨_, rfl, ⟨_, rfl⟩, _, _, rfl, rfl, _, rfl, ?_⟩
          rw [sw_wp_base e1]
          have hb : mkS (baseL e) = mkS (119 :: 94 :: numL e) := by
            unfold baseL
            rw [if_neg e1]
            rfl
          refine ⟨_, rfl, 2, rfl, _, rfl, bl, ?_⟩
          rw [hb, cut2]
          exact ⟨e, 2, rfl, n2, by omega, _, rfl, by show 2 ≤ sizeLine; decide, fun p np => q p _ (sT.trans (same_upd np)) upd_same⟩
      by_cases c1 : c = 1
      · subst c1
        have hp : Txt.partition (mkS (termL e 1)) "*" = (mkS (baseL e), Str.empty, Str.empty) := by
          have ht : termL e 1 = baseL e := by
            unfold termL
            rw [if_neg e0, if_pos rfl]
          rw [ht, part_base]
        rw [hp]
        refine ⟨_, rfl, ⟨_, rfl⟩, _, _, rfl, rfl, _, rfl, ?_⟩
        rw [sw_w_base]
        refine ⟨fun σ H2 => ∃ x2 x3, σ = [some (.str (mkS (termL e 1))), some (.str (mkS (baseL e))), some x2, some x3, some (.int ((1 : Nat) : Int))] ∧ H2 = H1, ?_, ?_⟩
        · refine ⟨_, rfl, false, ⟨Nat.zero_le _, by show false = ((Str.empty.length : Int) != 0); decide +kernel⟩, ?_⟩
          exact ⟨_, _, rfl, rfl⟩
        · rintro σ H2 ⟨x2, x3, rfl, hh⟩
          exact rest _ _ _ hh
      · have hp : Txt.partition (mkS (termL e c)) "*" = (mkS (baseL e), ("*" : Str), mkS (numL c)) := by
          have ht : termL e c = baseL e ++ [42] ++ numL c := by
            unfold termL
            rw [if_neg e0, if_neg c1]
          rw [ht, part_both]
        rw [hp]
        refine ⟨_, rfl, ⟨_, rfl⟩, _, _, rfl, rfl, _, rfl, ?_⟩
        rw [sw_w_base]
        refine ⟨fun σ H2 => ∃ x2 x3, σ = [some (.str (mkS (termL e c))), some (.str (mkS (baseL e))), some x2, some x3, some (.int ((c : Nat) : Int))] ∧ H2 = H1, ?_, ?_⟩
        · refine ⟨_, rfl, true, ⟨by show (Str.ofString "*").length ≤ sizeLine; decide +kernel, by show true = (((Str.ofString "*").length : Int) != 0); decide +kernel⟩, ?_⟩
          exact ⟨_, rfl, c, 18, rfl, n1, by omega, _, _, rfl, rfl⟩
        · rintro σ H2 ⟨x2, x3, rfl, hh⟩
          exact rest _ _ _ hh

end
end Lim
set_option maxHeartbeats 1000000
namespace Lim
open PySem PySem.Spec PyProof.Rows L2 TL
abbrev sIsC : Stmt := topS 9
abbrev sIsO : Stmt := topS 10
abbrev sPaO : Stmt := topS 17
section
variable {P : Program} {w : World} {K : PySem.W.Frag} {mg : Str → Option Value} {base : Heap}
theorem ty_tupl {H : Hp} {t : Addr} {xs : List V} (h : SqT K H t xs) : TyX K H (.ref t) (.type "tuple") := by
  rcases h with (h | ⟨o, h⟩) | ⟨o, its, n, hk, hc, _⟩
  · exact .base (.tup h)
  · exact .fTuple h
  · exact .kTuple hk hc
theorem scIsC : FnScope ["thing"] ["thing"] (defScope sIsC) := ⟨rfl, rfl, rfl, by decide +kernel, rfl, by decide +kernel, by decide +kernel⟩
def spIsC : Sp := fun vs H Q _ => ∃ i : Int, vs = [.int i] ∧ 0 ≤ i ∧ i < 1000000000000000000 ∧ Q (.bl true) H

theorem ok_isC {f : Addr} {fd : FuncData} {k : Nat} {tk : Tok} (F : Fun K "is_coefficient" "is_coefficient" sIsC f fd) (mis : mg "isinstance" = none) (mbo : mg "bool" = none) (mi : mg "int" = none) (gB : mg "COEFFICIENT_BOUND" = some (.int 1000000000000000000 tk)) : FnOk P w K mg base CX0 (k + 1) f fd ["thing"] spIsC := by
  refine F.ok scIsC (fun vs H Q E h => ?_) (fun cdv A outer s H vs Q E hr h => ?_)
  · obtain ⟨i, rfl, _⟩ := h
    rfl
  · obtain ⟨i, rfl, h0, h1, q⟩ := h
    refine ⟨_, (pss_cons (ps_if (PW.pt (pw_or (pt_val (pe_callB call_isi (by rfl) mis (by decide +kernel) (pa_cons (pv 0) (pa_cons (pe_bltn (v := .ty "bool") (by rfl) mbo (by decide +kernel) rfl) pa_nil)))) (pw_or1 (pt_not (pt_val (pe_callB call_isi (by rfl) mis (by decide +kernel) (pa_cons (pv 0) (pa_cons (pe_bltn (v := .ty "int") (by rfl) mi (by decide +kernel) rfl) pa_nil)))))))) (pss_one (ps_ret (pe_bl))) pss_nil)
        (pss_one (ps_ret (pe_chain op_le op_lt pe_int (pv 0) (pe_glob (v := .int 1000000000000000000) (by rfl) gB ⟨_, rfl⟩))))), ?_⟩
    refine ⟨_, rfl, _, _, _, _, _, rfl, .ty "bool", .base (.int i), kit_ty (a := "int") (b := "bool") (r := false) (by decide +kernel), _, rfl, ?_⟩
    refine ⟨_, rfl, _, _, _, _, _, rfl, .ty "int", .base (.int i), kit_ty (a := "int") (b := "int") (r := true) (by decide +kernel), _, rfl, ?_⟩
    refine ⟨_, rfl, _, _, rfl, rfl, _, rfl, ite2 (fun c3 => ?_) (fun c3 => absurd (decide_eq_true h0) c3)⟩
    refine ⟨_, _, rfl, rfl, ?_⟩
    have e : V.bl (decide (i < 1000000000000000000)) = .bl true := by rw [decide_eq_true h1]
    show Q (V.bl (decide (i < 1000000000000000000))) H
    rw [e]
    exact q
theorem scIsO : FnScope ["thing", "item"] ["thing"] (defScope sIsO) := ⟨rfl, rfl, rfl, by decide +kernel, rfl, by decide +kernel, by decide +kernel⟩
def spIsO (K : PySem.W.Frag) : Sp := fun vs H Q _ => ∃ (t : Addr) (zs : List Int), vs = [.ref t] ∧ SqT K H t (zs.map V.int) ∧ Ord zs ∧ Q (.bl true) H

theorem ok_isO {f fC : Addr} {fd dC : FuncData} {k : Nat} {tk : Tok} (F : Fun K "is_ordinal" "is_ordinal" sIsO f fd) (mis : mg "isinstance" = none) (mt : mg "tuple" = none) (ml : mg "len" = none) (gM : mg "MOST_COEFFICIENTS" = some (.int 64 tk))
    (GC : FnOk P w K mg base CX0 (k + 1) fC dC ["thing"] spIsC) (kC : PySem.W.keepIn K (.ref fC) = true) (bC : Binds K dC ["thing"] []) (gC : mg "is_coefficient" = some (.ref fC)) : FnOk P w K mg base CX0 (k + 2) f fd ["thing"] (spIsO K) := by
  refine F.ok scIsO (fun vs H Q E h => ?_) (fun cdv A outer s H vs Q E hr h => ?_)
  · obtain ⟨t, zs, rfl, _⟩ := h
    rfl
  · obtain ⟨t, zs, rfl, ht, ⟨hlen, h0, h1, hh⟩, q⟩ := h
    refine ⟨_, (pss_cons (ps_if (PW.pt (pw_or (pt_not (pt_val (pe_callB call_isi (by rfl) mis (by decide +kernel) (pa_cons (pv 0) (pa_cons (pe_bltn (v := .ty "tuple") (by rfl) mt (by decide +kernel) rfl) pa_nil))))) (pw_or1 (pt_cmpR op_gt (pe_callB call_len_seq (by rfl) ml PySem.boot_len (pa_cons (pv 0) pa_nil)) (pe_glob (v := .int 64) (by rfl) gM ⟨_, rfl⟩) (nomark _))))) (pss_one (ps_ret (pe_bl))) pss_nil)
        (pss_cons (ps_for PassesOwn.never rfl (pi_tup (pv 0)) (pg_name (i := 1) scIsO.nd rfl (.inl rfl)) (pss_one (ps_if (pt_not (pt_val (pe_call GC hr (by rfl) gC kC bC .nil pass0 (pa_cons (pv 1) pa_nil)))) (pss_one (ps_ret (pe_bl))) pss_nil)))
        (pss_one (ps_ret (pe_or (pe_cmpR op_eq (pe_callB call_len_seq (by rfl) ml PySem.boot_len (pa_cons (pv 0) pa_nil)) pe_int (nomark _)) (pe_one (pe_cmpR op_ne (pe_ix ix_tup (pv 0) (pe_int) (fun _ _ => rfl)) pe_int (nomark _)))))))), ?_⟩
    refine ⟨_, rfl, _, _, _, _, _, rfl, .ty "tuple", ty_tupl ht, kit_ty (a := "tuple") (b := "tuple") (r := true) (by decide +kernel), _, rfl, ?_⟩
    refine ⟨_, rfl, t, _, rfl, .inr ht, _, _, rfl, rfl, _, rfl, ite2 (fun c2 => ?_) (fun c2 => ?_)⟩
    · have c2' := of_decide_eq_true c2
      rw [List.length_map] at c2'
      omega
    · refine ⟨_, rfl, t, rfl, ⟨_, ht⟩, for_tup (K := K) (a := t) (xs := zs.map V.int) (fun i σ H' => ∃ y1 : Option V, σ = [some (.ref t), y1] ∧ H' = H) ⟨none, rfl, rfl⟩ ?_ ?_ ?_⟩
      · rintro i σ H' _ ⟨_, _, rfl⟩
        exact ht
      · rintro i x σ H' hx ⟨y1, rfl, rfl⟩
        obtain ⟨z, hz, rfl⟩ := map_get hx
        have hm : z ∈ zs := List.mem_of_getElem? hz
        exact ⟨_, rfl, z, rfl, h0 _ hm, h1 _ hm, _, rfl, some (.int z), rfl, rfl⟩
      · rintro σ H' ⟨y1, rfl, rfl⟩
        refine ⟨_, rfl, t, _, rfl, .inr ht, rfl, _, rfl, ?_⟩
        refine ite2 (fun c4 => q) (fun c4 => ?_)
        obtain ⟨z, r, rfl⟩ : ∃ z r, zs = z :: r := by
          cases zs with
          | nil => exact absurd (decide_eq_true rfl) c4
          | cons z r => exact ⟨z, r, rfl⟩
        have z0 : z ≠ 0 := fun e => hh (by rw [e]; rfl)
        refine ⟨_, rfl, t, _, 0, _, rfl, rfl, ht, atI_nat (j := 0) rfl, rfl, ?_⟩
        rw [decide_eq_false (fun e => z0 (V.int.inj e))]
        exact q
/-! ### reading an ordinal -/
def stR (t : List Int) (p : Int × Int) : List Int := addP t (powL p.1 p.2)
theorem stR_len (n : Nat) : ∀ (ps : List (Int × Int)) (t : List Int), t.length ≤ n → (∀ p ∈ ps, p.1.toNat + 1 ≤ n) → (ps.foldl stR t).length ≤ n
  | [], t, h, _ => h
  | p :: r, t, h, hp => by
    refine stR_len n r _ (Nat.le_trans (addP_len _ _) (Nat.max_le.mpr ⟨h, ?_⟩)) fun q hq => hp q (List.mem_cons_of_mem _ hq)
    have := hp p (List.mem_cons_self ..)
    unfold powL
    split
    · exact Nat.zero_le _
    · rw [List.length_cons, List.length_replicate]
      exact this
theorem stR_step {t : List Int} {e c : Nat} (h : c ≠ 0) : stR t ((e : Int), (c : Int)) = stepP 1 [] t ((e : Int), (c : Int)) := by
  unfold stR stepP powL
  have h' : (c : Int) ≠ 0 := by omega
  show addP t (if (c : Int) = 0 then [] else (c : Int) :: List.replicate (e : Int).toNat 0) = addP t (if (e : Int) > 0 then (c : Int) :: zer (0 + (e : Int).toNat) else [1 * (c : Int)])
  rw [if_neg h']
  split
  · rw [Nat.zero_add]
    rfl
  · rename_i h0
    have : e = 0 := by omega
    subst this
    rw [Int.one_mul]
    rfl
theorem stR_fold : ∀ (ps : List (Int × Int)) (t : List Int), (∀ p ∈ ps, ∃ e c : Nat, p = ((e : Int), (c : Int)) ∧ e < 100 ∧ c < 10 ^ 18 ∧ c ≠ 0) → ps.foldl stR t = ps.foldl (stepP 1 []) t
  | [], _, _ => rfl
  | p :: r, t, h => by
    obtain ⟨e, c, rfl, _, _, hc⟩ := h p (List.mem_cons_self ..)
    show r.foldl stR (stR t _) = r.foldl (stepP 1 []) (stepP 1 [] t _)
    rw [stR_step hc]
    exact stR_fold r _ fun q hq => h q (List.mem_cons_of_mem _ hq)
theorem read_back {zs : List Int} (h : Ord zs) : (termsOf zs).foldl stR [] = zs := by
  obtain ⟨hl, h0, h1, hh⟩ := h
  unfold termsOf
  split
  · rename_i e
    have := back_terms hh
    rw [e] at this
    exact this
  · rw [stR_fold _ _ (terms_nat h0 h1 (by omega)), back_terms hh]
theorem termsOf_nat {zs : List Int} (h : Ord zs) : ∀ p ∈ termsOf zs, ∃ e c : Nat, p = ((e : Int), (c : Int)) ∧ e < 100 ∧ c < 10 ^ 18 := by
  obtain ⟨hl, h0, h1, hh⟩ := h
  unfold termsOf
  split
  · intro p hp
    rw [List.mem_singleton.mp hp]
    exact ⟨0, 0, rfl, by decide, by decide⟩
  · intro p hp
    obtain ⟨e, c, he, a, b, _⟩ := terms_nat h0 h1 (by omega) p hp
    exact ⟨e, c, he, a, b⟩
theorem joinL_len (S : List Nat) : ∀ ps : List (List Nat), (joinL S ps).length ≤ (ps.map (·.length)).sum + ps.length * S.length
  | [] => Nat.zero_le _
  | [p] => by
    show p.length ≤ _
    rw [List.map_cons, List.sum_cons]
    omega
  | p :: q :: r => by
    have ih := joinL_len S (q :: r)
    show (p ++ (S ++ joinL S (q :: r))).length ≤ _
    rw [List.length_append, List.length_append, List.map_cons, List.sum_cons, List.length_cons, Nat.add_mul]
    omega
theorem termsOf_len {zs : List Int} (h : Ord zs) : (termsOf zs).length ≤ 64 := by
  have e2 := termsTo_len zs.length zs 0
  have e2 : (terms zs).length ≤ zs.length := e2
  have := h.1
  unfold termsOf
  split
  · exact Nat.le_trans (Nat.le_refl 1) (by decide)
  · omega
theorem text_len {zs : List Int} (h : Ord zs) : (textS zs).length ≤ 10000 := by
  unfold textS
  rw [join_eq, len_tl, tl_join]
  have e1 := joinL_len (tl " + ") (((termsOf zs).map termS).map tl)
  have e2 := sum_le (fun l : List Nat => l.length) 30 (((termsOf zs).map termS).map tl) (by
    intro l hl
    obtain ⟨s, hs, rfl⟩ := List.mem_map.mp hl
    obtain ⟨p, hp, rfl⟩ := List.mem_map.mp hs
    obtain ⟨e, c, rfl, he, hc⟩ := termsOf_nat h p hp
    exact termL_len he hc)
  have e3 := termsOf_len h
  have e4 : (tl " + ").length = 3 := by decide +kernel
  rw [List.length_map, List.length_map] at e1 e2
  rw [e4] at e1
  have e2 : (List.map (fun x => List.length x) (List.map tl (List.map termS (termsOf zs)))).sum ≤ (termsOf zs).length * 30 := e2
  omega
abbrev nPaO : List Str := ["text", "total", "part", "exponent", "coefficient"]
theorem scPaO : FnScope nPaO ["text"] (defScope sPaO) := ⟨rfl, rfl, rfl, by decide +kernel, rfl, by decide +kernel, by decide +kernel⟩
def spPaO (K : PySem.W.Frag) : Sp := fun vs H Q _ => ∃ zs : List Int, vs = [.str (textS zs)] ∧ Ord zs ∧ ∀ p H', Same H H' → SqT K H' p (zs.map V.int) → Q (.ref p) H'

theorem ok_paO {f fT fA fW fI fF : Addr} {fd dT dA dW dI dF : FuncData} {k : Nat} (F0 : Fun K "parse_ordinal" "parse_ordinal" sPaO f fd)
    (GT : FnOk P w K mg base CX0 (k + 4) fT dT ["text"] spPaT) (kT : PySem.W.keepIn K (.ref fT) = true) (bT : Binds K dT ["text"] []) (gT : mg "parse_term" = some (.ref fT))
    (GA : FnOk P w K mg base CX0 (k + 4) fA dA ["first", "second"] (spPad K)) (kA : PySem.W.keepIn K (.ref fA) = true) (bA : Binds K dA ["first", "second"] []) (gA : mg "add" = some (.ref fA))
    (GW : FnOk P w K mg base CX0 (k + 4) fW dW ["exponent", "coefficient"] (spPow K)) (kW : PySem.W.keepIn K (.ref fW) = true) (bW : Binds K dW ["exponent", "coefficient"] []) (gW : mg "power" = some (.ref fW))
    (GI : FnOk P w K mg base CX0 (k + 4) fI dI ["thing"] (spIsO K)) (kI : PySem.W.keepIn K (.ref fI) = true) (bI : Binds K dI ["thing"] []) (gI : mg "is_ordinal" = some (.ref fI))
    (GF : FnOk P w K mg base CX0 (k + 4) fF dF ["ordinal"] (spFmO K)) (kF : PySem.W.keepIn K (.ref fF) = true) (bF : Binds K dF ["ordinal"] []) (gF : mg "format_ordinal" = some (.ref fF)) :
    FnOk P w K mg base CX0 (k + 5) f fd ["text"] (spPaO K) := by
  refine F0.ok scPaO (fun vs H Q E h => ?_) (fun cdv A outer s H vs Q E hr h => ?_)
  · obtain ⟨zs, rfl, _⟩ := h
    rfl
  · obtain ⟨zs, rfl, hz, q⟩ := h
    refine ⟨_, (pss_cons (ps_set (i := 1) scPaO.nd rfl (.inl rfl) (pe_tup pa_nil))
        (C8.pss_cut (ps_for PassesOwn.never rfl (pi_list (pe_split (pv 0) pe_str)) (pg_name (i := 2) scPaO.nd rfl (.inl rfl)) (pss_cons (ps_asg (pe_call GT hr (by rfl) gT kT bT .nil pass0 (pa_cons (pv 2) pa_nil)) (pg_tup rfl (pgs_cons (pg_name (i := 3) scPaO.nd rfl (.inl rfl)) (pgs_cons (pg_name (i := 4) scPaO.nd rfl (.inl rfl)) pgs_nil))))
        (pss_one (ps_set (i := 1) scPaO.nd rfl (.inl rfl) (pe_call GA hr (by rfl) gA kA bA .nil pass0 (pa_cons (pv 1) (pa_cons (pe_call GW hr (by rfl) gW kW bW .nil pass0 (pa_cons (pv 3) (pa_cons (pv 4) pa_nil))) pa_nil)))))))
        (pss_cons (ps_if (PW.pt (pw_or (pt_not (pt_val (pe_call GI hr (by rfl) gI kI bI .nil pass0 (pa_cons (pv 1) pa_nil)))) (pw_or1 (pt_cmpR op_ne (pe_call GF hr (by rfl) gF kF bF .nil pass0 (pa_cons (pv 1) pa_nil)) (pv 0) (nomark _))))) (pss_one ps_never) pss_nil)
        (pss_one (ps_ret (pv 1)))))), ?_⟩
    have tlen := text_len hz
    refine ⟨Nat.zero_le _, fun p0 np0 => ?_⟩
    have s0 := same_upd (o := .tup []) np0
    refine ⟨fun σ H' => ∃ y2 y3 y4 t, σ = [some (.str (textS zs)), some (.ref t), y2, y3, y4] ∧ Same H H' ∧ SqT K H' t (zs.map V.int), ?_, ?_⟩
    · refine ⟨_, rfl, ⟨_, rfl⟩, _, _, rfl, rfl, rfl, Nat.le_trans (Nat.add_le_add_right tlen 2) (by decide +kernel), fun D nD => ⟨D, rfl, ⟨_, .inl (.inl upd_same)⟩, ?_⟩⟩
      rw [split_text]
      have sD := same_upd (o := .lst (((termsOf zs).map termS).map V.str)) nD
      have hD : (upd (upd H p0 (.tup [])) D (.lst (((termsOf zs).map termS).map V.str))) D = some (.lst (((termsOf zs).map termS).map V.str)) := upd_same
      generalize upd (upd H p0 (.tup [])) D (.lst (((termsOf zs).map termS).map V.str)) = H1 at sD hD ⊢
      have s1 := s0.trans sD
      refine for_list (K := K) (a := D) (xs := ((termsOf zs).map termS).map V.str) (fun i σ H' => ∃ y2 y3 y4 t, σ = [some (.str (textS zs)), some (.ref t), y2, y3, y4] ∧ Same H1 H' ∧ SqT K H' t ((((termsOf zs).take i).foldl stR []).map V.int)) ?_ ?_ ?_ ?_
      · exact ⟨none, none, none, p0, rfl, fun _ _ h => h, .inl (.inl (sD _ _ upd_same))⟩
      · rintro i σ H' _ ⟨_, _, _, _, _, sm, _⟩
        exact .inl (.inl (sm _ _ hD))
      · rintro i x σ H2 hx ⟨y2, y3, y4, t, rfl, sm, ht⟩
        obtain ⟨s', hs', rfl⟩ : ∃ s', ((termsOf zs).map termS)[i]? = some s' ∧ x = V.str s' := by
          rw [List.getElem?_map] at hx
          cases h : ((termsOf zs).map termS)[i]? with
          | none => rw [h] at hx; cases hx
          | some s' => rw [h] at hx; exact ⟨s', rfl, (Option.some.inj hx).symm⟩
        obtain ⟨p, hp, rfl⟩ : ∃ p, (termsOf zs)[i]? = some p ∧ s' = termS p := by
          rw [List.getElem?_map] at hs'
          cases h : (termsOf zs)[i]? with
          | none => rw [h] at hs'; cases hs'
          | some p => rw [h] at hs'; exact ⟨p, rfl, (Option.some.inj hs').symm⟩
        have hm := List.mem_of_getElem? hp
        obtain ⟨e, c, rfl, he, hc⟩ := termsOf_nat hz p hm
        have etk : ((termsOf zs).take (i + 1)).foldl stR [] = stR (((termsOf zs).take i).foldl stR []) ((e : Int), (c : Int)) := by
          rw [List.take_add_one, hp, List.foldl_append]
          rfl
        have lt : (((termsOf zs).take i).foldl stR []).length ≤ 100 := stR_len 100 _ _ (Nat.zero_le _) fun p' hp' => by
          obtain ⟨e', c', rfl, he', _⟩ := termsOf_nat hz p' (List.mem_of_mem_take hp')
          show (e' : Int).toNat + 1 ≤ 100
          omega
        refine ⟨_, rfl, e, c, rfl, he, hc, fun T H3 s3 hT => ⟨T, _, rfl, .inl (.inl hT), rfl, _, _, rfl, _, _, rfl, rfl, ?_⟩⟩
        refine ⟨_, rfl, _, rfl, _, rfl, _, _, rfl, by omega, by omega, fun pw H4 s4 tw => ?_⟩
        have lw : (powL (e : Int) (c : Int)).length ≤ 100 := by
          unfold powL
          split
          · exact Nat.zero_le _
          · rw [List.length_cons, List.length_replicate]
            omega
        refine ⟨t, pw, _, _, rfl, Same.seqT (s3.trans s4) ht, tw, by omega, by omega, fun pa H5 s5 ta => ?_⟩
        refine ⟨_, _, _, pa, rfl, sm.trans (s3.trans (s4.trans s5)), ?_⟩
        rw [etk]
        exact ta
      · rintro σ H2 ⟨y2, y3, y4, t, rfl, sm, ht⟩
        rw [List.length_map, List.length_map, List.take_length, read_back hz] at ht
        exact ⟨_, _, _, t, rfl, s1.trans sm, ht⟩
    · rintro σ H1 ⟨y2, y3, y4, t, rfl, s1, ht⟩
      refine ⟨_, rfl, t, zs, rfl, ht, hz, _, rfl, ?_⟩
      refine ⟨_, rfl, t, zs, rfl, ht, hz, fun H2 s2 => ?_⟩
      refine ⟨_, rfl, rfl, _, rfl, ite2 (fun c => ?_) (fun c => ?_)⟩
      · rw [decide_eq_true rfl] at c
        cases c
      · exact ⟨_, rfl, q t H2 (s1.trans s2) (Same.seqT s2 ht)⟩
end
end Lim
set_option maxHeartbeats 1000000
namespace Lim
open PySem PySem.Spec PyProof.Rows L2 TL
section
variable {P : Program} {w : World} {K : PySem.W.Frag} {mg : Str → Option Value} {base : Heap}
theorem dp_txts {H : Hp} : ∀ ys : List Str, DpAll K H (ys.map V.str) (ys.map PyData.str)
  | [] => .nil
  | z :: r => .cons (.str z) (dp_txts r)
theorem lay_txts : ∀ ys : List Str, (∀ z ∈ ys, PyData.strOk z = true) → PyData.canLayAll0 (ys.map PyData.str) = true ∧ PyData.depthAll (ys.map PyData.str) ≤ 1
  | [], _ => by simp [PyData.canLayAll0, PyData.depthAll]
  | z :: r, h => by
    have ⟨h1, h2⟩ := lay_txts r fun y hy => h y (List.mem_cons_of_mem _ hy)
    have h3 := h z (List.mem_cons_self ..)
    simp [PyData.canLayAll0, PyData.canLay0, PyData.depthAll, PyData.depth, h1, h3, h2]
theorem shaped_txts (ys : List Str) (h : ∀ z ∈ ys, PyData.strOk z = true) : SeqAt.shaped (.list (ys.map PyData.str)) = true := by
  have ⟨h1, h2⟩ := lay_txts ys h
  unfold SeqAt.shaped
  simp [PyData.canLay0, PyData.depth, h1]
  omega
theorem numL_lt128 (n : Nat) : ∀ s ∈ numL n, s < 128 := fun s hs => by
  have := numL_digits n s hs
  omega
theorem baseL_lt (e : Nat) : ∀ s ∈ baseL e, s < 128 := by
  intro s hs
  unfold baseL at hs
  split at hs
  · simp at hs
    omega
  · rcases List.mem_append.mp hs with h | h
    · simp at h
      omega
    · exact numL_lt128 e s h
theorem termL_lt (e c : Nat) : ∀ s ∈ termL e c, s < 128 := by
  intro s hs
  unfold termL at hs
  split at hs
  · exact numL_lt128 c s hs
  · split at hs
    · exact baseL_lt e s hs
    · rcases List.mem_append.mp hs with h | h
      · rcases List.mem_append.mp h with h | h
        · exact baseL_lt e s h
        · simp at h
          omega
      · exact numL_lt128 c s h
theorem ok_of_lt {x : Str} (h : ∀ s ∈ tl x, s < 128) : PyData.strOk x = true := by
  unfold PyData.strOk
  rw [Array.all_eq_true']
  intro s hs
  have := h s (Array.mem_toList_iff.mpr hs)
  exact decide_eq_true (by omega)
theorem termS_ok (p : Int × Int) : PyData.strOk (termS p) = true := ok_of_lt (termL_lt _ _)
/-- all but one place is kept -/
def KP (l : Addr) (H H' : Hp) : Prop := ∀ b o, H b = some o → b ≠ l → H' b = some o
theorem prs_kp {l : Addr} {H H' : Hp} {vs : List V} {ps : List (Int × Int)} {xs : List V} (h : Prs H vs ps) (hl : H l = some (.lst xs)) (k : KP l H H') : Prs H' vs ps :=
  Paired.imp (fun _ _ ⟨c, e, q⟩ => ⟨c, e, k _ _ q fun z => by
    rw [z, hl] at q
    cases q⟩) h
theorem scCan : FnScope ["ordinal", "parts", "exponent", "number", "base", "factor"] ["ordinal"] (defScope sCan) := ⟨rfl, rfl, rfl, by decide +kernel, rfl, by decide +kernel, by decide +kernel⟩
def spCan (K : PySem.W.Frag) : Sp := fun vs H Q _ => ∃ (a : Addr) (zs : List Int), vs = [.ref a] ∧ SqT K H a (zs.map V.int) ∧ Ord zs ∧ ∀ H', Same H H' → Q (.str (textS zs)) H'

theorem ok_can {f fT : Addr} {fd dT : FuncData} {k : Nat} (F : Fun K "_law_canonical_text" "_law_canonical_text" sCan f fd) (ms : mg "str" = none)
    (GT : FnOk P w K mg base CX0 (k + 1) fT dT ["ordinal"] (spTrm K)) (kT : PySem.W.keepIn K (.ref fT) = true) (bT : Binds K dT ["ordinal"] []) (gT : mg "_law_term_list" = some (.ref fT)) :
    FnOk P w K mg base CX0 (k + 2) f fd ["ordinal"] (spCan K) := by
  refine F.ok scCan (fun vs H Q E h => ?_) (fun cdv A outer s H vs Q E hr h => ?_)
  · obtain ⟨a, zs, rfl, _⟩ := h
    rfl
  · obtain ⟨a, zs, rfl, hT, ho, q⟩ := h
    refine ⟨_, (pss_cons (ps_set (i := 1) scCan.nd rfl (.inl rfl) (pe_lst pa_nil))
        (C8.pss_cut (ps_for PassesOwn.never rfl (pi_list (pe_call GT hr (by rfl) gT kT bT .nil pass0 (pa_cons (pv 0) pa_nil))) (pg_tup rfl (pgs_cons (pg_name (i := 2) scCan.nd rfl (.inl rfl)) (pgs_cons (pg_name (i := 3) scCan.nd rfl (.inl rfl)) pgs_nil))) (C8.pss_cut (ps_set (i := 4) scCan.nd rfl (.inl rfl) (pe_ifExp (pt_cmpR op_gt (pv 2) (pe_int) (nomark _)) (pe_op op_add_str (pe_str) (pe_callTy call_str_int (by rfl) ms (by decide +kernel) (pa_cons (pv 2) pa_nil))) (pe_str)))
        (C8.pss_cut (ps_set (i := 5) scCan.nd rfl (.inl rfl) (pe_ifExp (pt_cmpR op_gt (pv 3) (pe_int) (nomark _)) (pe_op op_add_str (pe_str) (pe_callTy call_str_int (by rfl) ms (by decide +kernel) (pa_cons (pv 3) pa_nil))) (pe_str)))
        (pss_one (ps_expr (pe_bm PySem.F.plainAttrs_list PySem.F.slot_list_append PySem.F.type_list_append mt_append (pv 1) (pa_cons (pe_ifExp (pt_cmpR op_eq (pv 2) (pe_int) (nomark _)) (pe_callTy call_str_int (by rfl) ms (by decide +kernel) (pa_cons (pv 3) pa_nil)) (pe_op op_add_str (pv 4) (pv 5))) pa_nil)))))))
        (pss_one (ps_ret (pe_ifExp (pt_cmpR (op_neD hr.units) (pv 1) (pe_lst pa_nil) (nomark _)) (pe_join pe_str (pv 1)) (pe_str)))))), ?_⟩
    obtain ⟨hlen, h0, h1, hh⟩ := id ho
    have htn := terms_nat h0 h1 (by omega)
    have htl : (terms zs).length ≤ 64 := Nat.le_trans (termsTo_len zs.length zs 0) hlen
    refine ⟨Nat.zero_le _, fun l nl => ?_⟩
    have sl0 := same_upd (o := .lst []) nl
    refine ⟨fun σ H' => ∃ y2 y3 y4 y5, σ = [some (.ref a), some (.ref l), y2, y3, y4, y5] ∧ Same H H' ∧ H' l = some (.lst (((terms zs).map termS).map V.str)), ?_, ?_⟩
    · refine ⟨_, rfl, a, zs, rfl, Same.seqT sl0 hT, by omega, fun D H1 us s1 nD hD hp => ⟨D, rfl, ⟨_, .inl (.inl hD)⟩, ?_⟩⟩
      have hl1 : H1 l = some (.lst []) := s1 _ _ upd_same
      have hDl : D ≠ l := fun e => by
        rw [e] at nD
        exact absurd (upd_same (H := H) (a := l) (o := .lst [])) (by rw [nD]; simp)
      refine for_list (K := K) (a := D) (xs := us) (fun i σ H' => ∃ y2 y3 y4 y5, σ = [some (.ref a), some (.ref l), y2, y3, y4, y5] ∧ KP l H1 H' ∧ H' l = some (.lst ((((terms zs).take i).map termS).map V.str))) ?_ ?_ ?_ ?_
      · exact ⟨none, none, none, none, rfl, fun _ _ h _ => h, hl1⟩
      · rintro i σ H' _ ⟨_, _, _, _, _, kp, _⟩
        exact .inl (.inl (kp _ _ hD hDl))
      · rintro i x σ H2 hx ⟨y2, y3, y4, y5, rfl, kp, hl⟩
        obtain ⟨⟨e0, c0⟩, hy, T, rfl, hTT⟩ := Paired.at (prs_kp hp hl1 kp) hx
        have hm := List.mem_of_getElem? hy
        obtain ⟨e, c, hec, he, hc, hc0⟩ := htn _ hm
        cases hec
        have etk : ((terms zs).take (i + 1)).map termS = ((terms zs).take i).map termS ++ [mkS (termL e c)] := by
          rw [List.take_add_one, hy, List.map_append]
          rfl
        have ne := numL_len (n := e) (k := 2) (by decide) he
        have nc := numL_len (n := c) (k := 18) (by decide) hc
        refine ⟨T, _, rfl, .inl (.inl hTT), rfl, _, _, rfl, _, _, rfl, rfl, ?_⟩
        -- base
        refine ⟨fun σ H' => ∃ b : Str, σ = [some (.ref a), some (.ref l), some (.int (e : Int)), some (.int (c : Int)), some (.str b), y5] ∧ H' = H2 ∧ (e ≠ 0 → b = mkS (baseL e)) ∧ b.length ≤ 10, ?_, ?_⟩
        · refine ⟨_, rfl, _, _, rfl, rfl, _, rfl, ite2 (fun c1 => ?_) (fun c1 => ?_)⟩
          · have e1 : e ≠ 1 := fun z => by
              have := of_decide_eq_true c1
              omega
            have tx : tl ("w^" ++ Str.ofString (toString (e : Int))) = 119 :: 94 :: numL e := by
              rw [tl_append, tl_num]
              rfl
            have lx : ("w^" ++ Str.ofString (toString (e : Int)) : Str).length ≤ 10 := by
              rw [len_tl, tx]
              show (numL e).length + 2 ≤ 10
              omega
            refine ⟨_, rfl, _, rfl, nat_small (Nat.lt_trans he (by decide)), _, _, rfl, rfl, ?_, _, rfl, rfl, fun _ => ?_, lx⟩
            · show ("w^" : Str).length + (Str.ofString (toString (e : Int))).length ≤ sizeLine
              rw [num_str, len_tl, len_tl, tl_mkS]
              exact Nat.le_trans (Nat.add_le_add_left ne _) (by decide +kernel)
            · refine eq_mkS ?_
              rw [tx]
              unfold baseL
              rw [if_neg e1]
              rfl
          · have e1 : ¬ (1 : Int) < (e : Int) := fun z => c1 (decide_eq_true z)
            refine ⟨_, rfl, rfl, fun h => ?_, by decide +kernel⟩
            have : e = 1 := by omega
            subst this
            rfl
        · rintro σ H' ⟨b, rfl, rfl, hb, lb⟩
          refine ⟨fun σ H'' => ∃ d : Str, σ = [some (.ref a), some (.ref l), some (.int (e : Int)), some (.int (c : Int)), some (.str b), some (.str d)] ∧ H'' = H' ∧ tl d = (if c = 1 then [] else 42 :: numL c) ∧ d.length ≤ 30, ?_, ?_⟩
          · refine ⟨_, rfl, _, _, rfl, rfl, _, rfl, ite2 (fun c1 => ?_) (fun c1 => ?_)⟩
            · have e1 : c ≠ 1 := fun z => by
                have := of_decide_eq_true c1
                omega
              have tx : tl ("*" ++ Str.ofString (toString (c : Int))) = 42 :: numL c := by
                rw [tl_append, tl_num]
                rfl
              have lx : ("*" ++ Str.ofString (toString (c : Int)) : Str).length ≤ 30 := by
                rw [len_tl, tx]
                show (numL c).length + 1 ≤ 30
                omega
              refine ⟨_, rfl, _, rfl, nat_small hc, _, _, rfl, rfl, ?_, _, rfl, rfl, ?_, lx⟩
              · show ("*" : Str).length + (Str.ofString (toString (c : Int))).length ≤ sizeLine
                rw [num_str, len_tl, len_tl, tl_mkS]
                exact Nat.le_trans (Nat.add_le_add_left nc _) (by decide +kernel)
              · rw [tx, if_neg e1]
            · have e1 : ¬ (1 : Int) < (c : Int) := fun z => c1 (decide_eq_true z)
              have : c = 1 := by omega
              refine ⟨_, rfl, rfl, ?_, by decide +kernel⟩
              rw [if_pos this]
              rfl
          · rintro σ H3 ⟨d, rfl, rfl, hd, ld⟩
            have app : ∀ x : Str, tl x = termL e c → ∃ (p : Addr) (xs : List V) (v : V), V.ref l = .ref p ∧ [V.str x] = [v] ∧ H3 p = some (.lst xs) ∧ xs.length < sizeLine ∧ ∃ y2 y3 y4 y5, [some (V.ref a), some (V.ref l), some (V.int (e : Int)), some (V.int (c : Int)), some (V.str b), some (V.str d)] = [some (.ref a), some (.ref l), y2, y3, y4, y5] ∧ KP l H1 (upd H3 p (.lst (xs ++ [v]))) ∧ (upd H3 p (.lst (xs ++ [v]))) l = some (.lst ((((terms zs).take (i + 1)).map termS).map V.str)) := by
              intro x hx
              refine ⟨l, _, _, rfl, rfl, hl, ?_, _, _, _, _, rfl, ?_, ?_⟩
              · rw [List.length_map, List.length_map, List.length_take]
                exact small1000 (by omega)
              · exact fun b' o hb' ne' => by
                  rw [upd_ne ne']
                  exact kp _ _ hb' ne'
              · rw [upd_same, etk, List.map_append, eq_mkS hx]
                rfl
            refine ⟨_, rfl, .inl ⟨rfl, _, .inl (.inl hl)⟩, _, rfl, rfl, _, rfl, ite2 (fun c2 => ?_) (fun c2 => ?_)⟩
            · have e1 : e = 0 := by
                have := V.int.inj (of_decide_eq_true c2)
                omega
              refine ⟨_, rfl, _, rfl, nat_small hc, app _ ?_⟩
              rw [tl_num]
              unfold termL
              rw [if_pos e1]
            · have e1 : e ≠ 0 := fun z => c2 (decide_eq_true (by rw [z]; rfl))
              refine ⟨_, rfl, _, rfl, _, _, rfl, rfl, ?_, app _ ?_⟩
              · exact Nat.le_trans (Nat.add_le_add lb ld) (by decide +kernel)
              · rw [tl_append, hb e1, tl_mkS, hd]
                unfold termL
                rw [if_neg e1]
                by_cases z : c = 1
                · rw [if_pos z, if_pos z, List.append_nil]
                · rw [if_neg z, if_neg z, List.append_assoc]
                  rfl
      · rintro σ H2 ⟨y2, y3, y4, y5, rfl, kp, hl⟩
        have hlu : us.length = (terms zs).length := Paired.length hp
        rw [hlu, List.take_length] at hl
        refine ⟨_, _, _, _, rfl, fun b o e => ?_, hl⟩
        exact kp _ _ (s1 _ _ (sl0 _ _ e)) (ne_of_none e nl)
    · rintro σ H1 ⟨y2, y3, y4, y5, rfl, sm, hl⟩
      refine ⟨_, rfl, Nat.zero_le _, fun p0 np0 => ?_⟩
      have s0 := same_upd (o := .lst []) np0
      have hl0 := s0 _ _ hl
      refine ⟨_, .list [], .lst (.inl (.inl hl0)) (dp_txts _), .lst (.inl (.inl upd_same)) .nil, shaped_txts _ (fun z hz => by
        obtain ⟨p, _, rfl⟩ := List.mem_map.mp hz
        exact termS_ok p), shaped_txts [] (by simp), _, rfl, ?_⟩
      rw [eqv_nil]
      have qq := q _ (sm.trans s0)
      refine ite2 (fun c => ?_) (fun c => ?_)
      · have ne : terms zs ≠ [] := fun e => by
          rw [e] at c
          revert c
          decide +kernel
        refine ⟨⟨_, rfl⟩, _, rfl, _, l, _, rfl, rfl, .inl (.inl (.inl hl0)), join_small h0 h1 (by omega), ?_⟩
        unfold textS termsOf at qq
        rw [if_neg ne] at qq
        exact qq
      · have e : terms zs = [] := by
          cases h : terms zs with
          | nil => rfl
          | cons p r => exact absurd (by rw [h]; rfl) c
        rw [textS_zero e] at qq
        exact qq
end
end Lim
set_option maxHeartbeats 2000000
namespace Lim
open PySem PySem.Spec PyProof.Rows L2 TL
abbrev sLaw : Stmt := topS 31
section
variable {P : Program} {w : World} {K : PySem.W.Frag} {mg : Str → Option Value} {base : Heap}
abbrev nLaw : List Str := ["script", "source", "turn", "most", "one", "ordinal", "text"]
theorem scLaw : FnScope nLaw ["script"] (defScope sLaw) := ⟨rfl, rfl, rfl, by decide +kernel, rfl, by decide +kernel, by decide +kernel⟩
def spLaw (K : PySem.W.Frag) : Sp := fun vs H Q _ => ∃ (a : Addr) (ns : List Int), vs = [.ref a] ∧ SqL K H a (ns.map V.int) ∧ ns.length ≤ 63 ∧ ∀ H', Q (.bl true) H'
structure Calls (P : Program) (w : World) (K : PySem.W.Frag) (mg : Str → Option Value) (base : Heap) (k : Nat) : Prop where
  drw : ∃ f fd, FnOk P w K mg base CX0 k f fd ["script"] (spDrw K) ∧ mg "_law_draws" = some (.ref f) ∧ PySem.W.keepIn K (.ref f) = true ∧ Binds K fd ["script"] []
  cho : ∃ f fd, FnOk P w K mg base CX0 k f fd ["source", "items"] (spCho K) ∧ mg "_law_choose" = some (.ref f) ∧ PySem.W.keepIn K (.ref f) = true ∧ Binds K fd ["source", "items"] []
  ide : ∃ f fd, FnG P w K mg base k f fd ["found", "expected"] (spIde K) ∧ mg "_law_identical" = some (.ref f) ∧ PySem.W.keepIn K (.ref f) = true ∧ Binds K fd ["found", "expected"] []
  rnd : ∃ f fd, FnOk P w K mg base CX0 k f fd ["source", "degrees", "most"] (spRnd K) ∧ mg "_law_random_ordinal" = some (.ref f) ∧ PySem.W.keepIn K (.ref f) = true ∧ Binds K fd ["source", "degrees", "most"] []
  can : ∃ f fd, FnOk P w K mg base CX0 k f fd ["ordinal"] (spCan K) ∧ mg "_law_canonical_text" = some (.ref f) ∧ PySem.W.keepIn K (.ref f) = true ∧ Binds K fd ["ordinal"] []
  fmo : ∃ f fd, FnOk P w K mg base CX0 k f fd ["ordinal"] (spFmO K) ∧ mg "format_ordinal" = some (.ref f) ∧ PySem.W.keepIn K (.ref f) = true ∧ Binds K fd ["ordinal"] []
  pao : ∃ f fd, FnOk P w K mg base CX0 k f fd ["text"] (spPaO K) ∧ mg "parse_ordinal" = some (.ref f) ∧ PySem.W.keepIn K (.ref f) = true ∧ Binds K fd ["text"] []
  range : mg "range" = none
/-- a tuple that the law may hold -/
structure Od (K : PySem.W.Frag) (H : Hp) (v : V) (zs : List Int) : Prop where
  at_ : ∃ p, v = .ref p ∧ SqT K H p (zs.map V.int)
  nn : ∀ z ∈ zs, 0 ≤ z
  lt : ∀ z ∈ zs, z < 10 ^ 18
  len : zs.length ≤ 64
theorem Od.same {H H' : Hp} {v : V} {zs : List Int} (h : Od K H v zs) (s : Same H H') : Od K H' v zs := by
  obtain ⟨⟨p, e, t⟩, h2, h3, h4⟩ := h
  exact ⟨⟨p, e, Same.seqT s t⟩, h2, h3, h4⟩
theorem joinL_mem (S : List Nat) {s : Nat} : ∀ ps : List (List Nat), s ∈ joinL S ps → s ∈ S ∨ ∃ p ∈ ps, s ∈ p
  | [], h => by cases h
  | [p], h => .inr ⟨p, List.mem_cons_self .., h⟩
  | p :: q :: r, h => by
    have h : s ∈ p ++ (S ++ joinL S (q :: r)) := h
    rcases List.mem_append.mp h with h | h
    · exact .inr ⟨p, List.mem_cons_self .., h⟩
    · rcases List.mem_append.mp h with h | h
      · exact .inl h
      · rcases joinL_mem S (q :: r) h with h | ⟨p', hp', h⟩
        · exact .inl h
        · exact .inr ⟨p', List.mem_cons_of_mem _ hp', h⟩
theorem text_lt (zs : List Int) : ∀ s ∈ tl (textS zs), s < 128 := by
  intro s hs
  unfold textS at hs
  rw [join_eq, tl_join] at hs
  rcases joinL_mem _ _ hs with h | ⟨p, hp, h⟩
  · have e : tl " + " = [32, 43, 32] := by decide +kernel
    rw [e] at h
    simp at h
    omega
  · obtain ⟨x, hx, rfl⟩ := List.mem_map.mp hp
    obtain ⟨p, _, rfl⟩ := List.mem_map.mp hx
    exact termL_lt _ _ s h
theorem Shn.text {zs : List Int} (h : Ord zs) : Shn (.str (textS zs)) := by
  refine ⟨by simp [PyData.showable], by simp [PyData.hasDict], by simp [PyData.depth], ?_⟩
  have e : PyData.shown (.str (textS zs)) = reprText (textS zs) := by simp [PyData.shown]
  rw [e]
  have h1 := StrLaws.reprText_len (textS zs) fun c hc => Nat.lt_trans (text_lt zs c hc) (by decide)
  have h2 := text_len h
  rw [sizeLine_eq]
  omega
theorem lt_200 {z : Int} (h0 : 0 ≤ z) (h1 : z < 10 ^ 18) : z.natAbs < 2 ^ 200 := by
  have : (10 : Int) ^ 18 < 2 ^ 200 := by decide
  omega
theorem rnd_lt {d m : Int} {zs : List Int} (o : Ordn d m zs) (hm : m ≤ 999999999999999999) (hd : d ≤ 64) : (∀ z ∈ zs, z < 10 ^ 18) ∧ zs.length ≤ 64 := by
  refine ⟨fun z hz => ?_, ?_⟩
  · have h2 := o.le z hz
    have : (10 : Int) ^ 18 = 1000000000000000000 := by decide
    omega
  · have := o.len
    omega
theorem ok_law {f : Addr} {fd : FuncData} {k : Nat} (F0 : Fun K "law" "law" sLaw f fd) (C : Calls P w K mg base k) : FnG P w K mg base (k + 1) f fd ["script"] (spLaw K) := by
  obtain ⟨fD, dD, GD, gD, kD, bD⟩ := C.drw
  obtain ⟨fC, dC, GC, gC, kC, bC⟩ := C.cho
  obtain ⟨fI, dI, GI, gI, kI, bI⟩ := C.ide
  obtain ⟨fR, dR, GR, gR, kR, bR⟩ := C.rnd
  obtain ⟨fN, dN, GN, gN, kN, bN⟩ := C.can
  obtain ⟨fF, dF, GF, gF, kF, bF⟩ := C.fmo
  obtain ⟨fO, dO, GO, gO, kO, bO⟩ := C.pao
  have mr := C.range
  refine Fun_okG F0 scLaw (fun vs H Q E h => ?_) (fun cdv B below s H vs Q E hg hr h => ?_)
  · obtain ⟨a, ns, rfl, _⟩ := h
    rfl
  · obtain ⟨a, ns, rfl, hS, hlen, q⟩ := h
    refine ⟨_, (pss_cons (ps_set (i := 1) scLaw.nd rfl (.inl rfl) (pe_call GD hr (by rfl) gD kD bD .nil pass0 (pa_cons (pv 0) pa_nil)))
        (pss_cons (ps_for PassesOwn.never rfl (pi_range1 rfl mr (pa_cons pe_int pa_nil)) (pg_name (i := 2) scLaw.nd rfl (.inl rfl)) (pss_cons (ps_set (i := 3) scLaw.nd rfl (.inl rfl) (pe_call GC hr (by rfl) gC kC bC .nil pass0 (pa_cons (pv 1) (pa_cons (pe_lst (pa_cons (pe_int) (pa_cons (pe_int) (pa_cons (pe_int) (pa_cons (pe_op op_sub (pe_op op_pow (pe_int) (pe_int)) (pe_int)) pa_nil))))) pa_nil))))
        (pss_cons (ps_set (i := 4) scLaw.nd rfl (.inl rfl) (pe_call GR hr (by rfl) gR kR bR .nil pass0 (pa_cons (pv 1) (pa_cons (pe_call GC hr (by rfl) gC kC bC .nil pass0 (pa_cons (pv 1) (pa_cons (pe_lst (pa_cons (pe_int) (pa_cons (pe_int) (pa_cons (pe_int) (pa_cons (pe_int) (pa_cons (pe_int) pa_nil)))))) pa_nil))) (pa_cons (pv 3) pa_nil)))))
        (pss_one (ps_for PassesOwn.never rfl (pi_list (pe_lst (pa_cons (pv 4) (pa_cons (pe_tup pa_nil) (pa_cons (pe_tup (pa_cons (pe_int) pa_nil)) (pa_cons (pe_tup (pa_cons (pe_int) (pa_cons (pe_int) pa_nil))) (pa_cons (pe_op op_catU (pe_slice sl_tupU (pv 4) (po_none) (po_some (pe_int))) (pe_op op_repU (pe_tup (pa_cons (pe_int) pa_nil)) (pe_int))) pa_nil))))))) (pg_name (i := 5) scLaw.nd rfl (.inl rfl)) (pss_one (ps_if (pt_cut (PW.pt (pw_or (pt_cmpR (op_eqD hr.units) (pv 5) (pe_tup pa_nil) (nomark _)) (pw_or1 (pt_cmpR op_ne (pe_ix ix_tup (pv 5) (pe_int) (fun _ _ => rfl)) (pe_int) (nomark _)))))) (pss_cons (ps_set (i := 6) scLaw.nd rfl (.inl rfl) (pe_call GN hr (by rfl) gN kN bN .nil pass0 (pa_cons (pv 5) pa_nil)))
        (pss_cons (ps_if (pt_not (pt_val (pe_g GI hg hr (by rfl) gI kI bI (pa_cons (pe_call GF hr (by rfl) gF kF bF .nil pass0 (pa_cons (pv 5) pa_nil)) (pa_cons (pv 6) pa_nil))))) (pss_one (ps_ret (pe_bl))) pss_nil)
        (pss_one (ps_if (pt_not (pt_val (pe_g GI hg hr (by rfl) gI kI bI (pa_cons (pe_call GO hr (by rfl) gO kO bO .nil pass0 (pa_cons (pv 6) pa_nil)) (pa_cons (pv 5) pa_nil))))) (pss_one (ps_ret (pe_bl))) pss_nil)))) pss_nil)))))))
        (pss_one (ps_ret (pe_bl))))), ?_⟩
    refine ⟨_, rfl, a, ns, rfl, hS, hlen, fun H0 src n sm0 nsrc nn hsrc => ?_⟩
    refine ⟨8, rfl, by decide, by decide, for_range (n := 8) (fun t σ H' => ∃ y2 y3 y4 y5 y6 : Option V, σ = [some (.ref a), some (.ref src), y2, y3, y4, y5, y6] ∧ Src H' src n) ⟨_, _, _, _, _, rfl, hsrc⟩ ?_ ?_⟩
    · rintro t σ H1 ht ⟨y2, y3, y4, y5, y6, rfl, hs⟩
      -- most
      refine ⟨_, rfl, _, _, rfl, rfl, ⟨by decide, by decide, by decide⟩, _, _, rfl, rfl, by show 4 ≤ sizeLine; decide, fun p np => ⟨src, n, p, _, rfl, hs.same (same_upd np), .inl (.inl upd_same), hs.has np, by simp, by simp, fun v H2 hv s2 => ?_⟩⟩
      obtain ⟨m, rfl, hm0, hm1⟩ : ∃ m : Int, v = .int m ∧ 0 ≤ m ∧ m ≤ 999999999999999999 := by
        simp at hv
        rcases hv with rfl | rfl | rfl | rfl
        · exact ⟨1, rfl, by decide, by decide⟩
        · exact ⟨2, rfl, by decide, by decide⟩
        · exact ⟨9, rfl, by decide, by decide⟩
        · exact ⟨_, rfl, by decide, by decide⟩
      -- one
      refine ⟨_, rfl, _, rfl, by show 5 ≤ sizeLine; decide, fun p1 np1 => ⟨src, n, p1, _, rfl, s2.1.same (same_upd np1), .inl (.inl upd_same), s2.1.has np1, by simp, by simp, fun v1 H3 hv1 s3 => ?_⟩⟩
      obtain ⟨d1, rfl, h10, h11⟩ : ∃ d : Int, v1 = .int d ∧ 0 ≤ d ∧ d ≤ 64 := by
        simp at hv1
        rcases hv1 with rfl | rfl | rfl | rfl | rfl
        · exact ⟨1, rfl, by decide, by decide⟩
        · exact ⟨2, rfl, by decide, by decide⟩
        · exact ⟨3, rfl, by decide, by decide⟩
        · exact ⟨12, rfl, by decide, by decide⟩
        · exact ⟨64, rfl, by decide, by decide⟩
      refine ⟨_, rfl, src, n, d1, m, rfl, s3.1, h10, by omega, hm0, by omega, fun q1 H4 zs s4 t4 o4 => ?_⟩
      obtain ⟨w2, w3⟩ := rnd_lt o4 hm1 h11
      have hs4 := s4.1
      -- the list
      refine ⟨_, rfl, Nat.zero_le _, fun e1 n1 => ⟨by show 1 ≤ sizeLine; decide, fun e2 n2 => ⟨by show 2 ≤ sizeLine; decide, fun e3 n3 => ?_⟩⟩⟩
      have f1 := same_upd (o := .tup []) n1
      have f2 := same_upd (o := .tup [.int 1]) n2
      have f3 := same_upd (o := .tup [.int 1, .int 0]) n3
      have r1 := f2.trans f3
      have r0 := f1.trans r1
      have x1 := r1 _ _ (upd_same (H := H4) (a := e1) (o := .tup []))
      have x2 := f3 _ _ (upd_same (H := upd H4 e1 (.tup [])) (a := e2) (o := .tup [.int 1]))
      have x3 := upd_same (H := upd (upd H4 e1 (.tup [])) e2 (.tup [.int 1])) (a := e3) (o := .tup [.int 1, .int 0])
      generalize upd (upd (upd H4 e1 (.tup [])) e2 (.tup [.int 1])) e3 (.tup [.int 1, .int 0]) = H5 at r0 x1 x2 x3 ⊢
      refine ⟨_, rfl, 1, rfl, q1, _, rfl, Same.seqT r0 t4, fun p6 H6 s6 t6 => ⟨by show 1 ≤ sizeLine; decide, fun e7 n7 => ⟨e7, 5, _, rfl, rfl, .inl (.inl upd_same), rfl, by omega, by omega, fun p8 H8 s8 t8 => ?_⟩⟩⟩
      rw [flat_one] at t8
      have f7 := same_upd (o := .tup [.int 0]) n7
      have ec : cutV (zs.map V.int) none (some 1) = (zs.take 1).map V.int := by
        rw [List.map_take]
        exact cut_to _ 1
      rw [ec] at t6
      refine ⟨p6, p8, _, _, rfl, rfl, Same.seqT (f7.trans s8) t6, t8, ?_, fun p9 H9 s9 t9 => ⟨by show 5 ≤ sizeLine; decide, fun l nl => ?_⟩⟩
      · rw [List.length_map, List.length_take, List.length_map, List.length_replicate]
        exact Nat.le_trans (Nat.add_le_add_right (Nat.min_le_left 1 _) _) (by decide +kernel)
      rw [← List.map_append] at t9
      have fl := same_upd (o := .lst [.ref q1, .ref e1, .ref e2, .ref e3, .ref p9]) nl
      have r59 := ((s6.trans f7).trans s8).trans s9
      have rl := r59.trans fl
      refine ⟨l, rfl, ⟨_, .inl (.inl upd_same)⟩, ?_⟩
      have hl7 := upd_same (H := H9) (a := l) (o := .lst [.ref q1, .ref e1, .ref e2, .ref e3, .ref p9])
      have hus : ∀ v ∈ [V.ref q1, .ref e1, .ref e2, .ref e3, .ref p9], ∃ ks, Od K (upd H9 l (.lst [.ref q1, .ref e1, .ref e2, .ref e3, .ref p9])) v ks := by
        intro v hv
        simp at hv
        rcases hv with rfl | rfl | rfl | rfl | rfl
        · exact ⟨zs, ⟨q1, rfl, Same.seqT (r0.trans rl) t4⟩, o4.nn, w2, w3⟩
        · exact ⟨[], ⟨e1, rfl, .inl (.inl (rl _ _ x1))⟩, by simp, by simp, by simp⟩
        · exact ⟨[1], ⟨e2, rfl, .inl (.inl (rl _ _ x2))⟩, by simp, by simp, by simp⟩
        · exact ⟨[1, 0], ⟨e3, rfl, .inl (.inl (rl _ _ x3))⟩, by simp, by simp, by simp⟩
        · refine ⟨zs.take 1 ++ List.replicate 5 0, ⟨p9, rfl, Same.seqT fl t9⟩, fun z hz => ?_, fun z hz => ?_, ?_⟩
          · rcases List.mem_append.mp hz with h | h
            · exact o4.nn z (List.mem_of_mem_take h)
            · rw [List.eq_of_mem_replicate h]
              decide
          · rcases List.mem_append.mp hz with h | h
            · exact w2 z (List.mem_of_mem_take h)
            · rw [List.eq_of_mem_replicate h]
              decide
          · rw [List.length_append, List.length_take, List.length_replicate]
            omega
      have hs7 : Src (upd H9 l (.lst [.ref q1, .ref e1, .ref e2, .ref e3, .ref p9])) src n := hs4.same (r0.trans rl)
      generalize upd H9 l (.lst [.ref q1, .ref e1, .ref e2, .ref e3, .ref p9]) = H7 at hl7 hus hs7 ⊢
      refine for_list (K := K) (a := l) (xs := [V.ref q1, .ref e1, .ref e2, .ref e3, .ref p9]) (fun i σ H' => ∃ (z5 z6 : Option V), σ = [some (.ref a), some (.ref src), some (.int (0 + (t : Int))), some (.int m), some (.ref q1), z5, z6] ∧ Same H7 H') ⟨_, _, rfl, Same.refl _⟩ ?_ ?_ ?_
      · rintro i σ H' _ ⟨_, _, _, s⟩
        exact .inl (.inl (s _ _ hl7))
      · rintro i x σ H8 hx ⟨z5, z6, rfl, s8⟩
        obtain ⟨ks, ox⟩ := hus x (List.mem_of_getElem? hx)
        obtain ⟨⟨px, rfl, tx⟩, nx, bx, lx⟩ := ox.same s8
        refine ⟨fun b H' => Same H8 H' ∧ (b = true → Ord ks), ?_, ?_⟩
        · refine ⟨_, rfl, Nat.zero_le _, fun p8 np8 => ?_⟩
          have e8 := same_upd (o := .tup []) np8
          refine ⟨_, _, dp_tup (Same.seqT e8 tx), dp_tup (ns := []) (.inl (.inl upd_same)), shaped_intsT _, shaped_intsT [], _, rfl, ?_⟩
          rw [eqvT ks []]
          refine ite2 (fun c => ?_) (fun c => ?_)
          · have e : ks = [] := of_decide_eq_true c
            subst e
            exact ⟨e8, fun _ => ⟨by simp, by simp, by simp, by simp⟩⟩
          · have e : ks ≠ [] := fun z => c (decide_eq_true z)
            obtain ⟨z0, ks', rfl⟩ : ∃ z0 ks', ks = z0 :: ks' := by
              cases ks with
              | nil => exact absurd rfl e
              | cons z r => exact ⟨z, r, rfl⟩
            refine ⟨_, rfl, px, _, 0, _, rfl, rfl, Same.seqT e8 tx, atI_nat (j := 0) rfl, rfl, _, rfl, e8, fun hb => ⟨lx, nx, bx, fun z => ?_⟩⟩
            have z' : z0 = 0 := Option.some.inj z
            rw [z'] at hb
            revert hb
            decide +kernel
        · rintro b H9 ⟨s9, hb⟩
          refine ite2 (fun c => ?_) (fun c => ⟨_, _, rfl, s8.trans s9⟩)
          have hk := hb c
          have tx := Same.seqT s9 tx
          refine ⟨_, rfl, px, ks, rfl, tx, hk, fun H10 s10 => ?_⟩
          have tx := Same.seqT s10 tx
          refine ⟨_, rfl, px, ks, rfl, tx, hk, fun H11 s11 => ⟨_, rfl, _, _, _, rfl, .str _, .str _, Shn.text hk, true, rfl, iteF ?_⟩⟩
          have tx := Same.seqT s11 tx
          refine ⟨_, rfl, ks, rfl, hk, fun p12 H12 s12 t12 => ⟨_, rfl, _, _, _, rfl, dp_tup t12, dp_tup (Same.seqT s12 tx), Shn.tup (fun z hz => lt_200 (nx z hz) (bx z hz)) (by omega), true, rfl, iteF ?_⟩⟩
          exact ⟨_, _, rfl, (((s8.trans s9).trans s10).trans s11).trans s12⟩
      · rintro σ H' ⟨z5, z6, rfl, s⟩
        exact ⟨_, _, _, _, _, rfl, hs7.same s⟩
    · rintro σ H1 ⟨_, _, _, _, _, rfl, _⟩
      exact q _
end
end Lim
set_option maxHeartbeats 8000000
namespace Lim
open PySem PySem.Spec PyProof.Rows L2
theorem all_mk {P : Program} {w : World} {K : PySem.W.Frag} {h : Heap} {mg : Str → Option Value} {fa f1 f2 f3 f4 f5 f6 f7 f8 f9 f10 f11 f12 f13 f14 f15 f16 f17 : Addr} {od1 an1 od2 an2 od3 an3 od4 an4 od5 an5 od6 an6 od7 an7 od8 an8 od9 an9 od10 an10 od11 an11 od12 an12 od13 an13 od14 an14 od15 an15 od16 an16 od17 an17 : Option Addr} {sl1 sl2 sl3 sl4 sl5 sl6 sl7 sl8 sl9 sl10 sl11 sl12 sl13 sl14 sl15 sl16 sl17 : Array (Option Value)} {oc1 kV1 dc1 pm1 cd1 ct1 oc2 kV2 dc2 pm2 cd2 ct2 oc3 kV3 dc3 pm3 cd3 ct3 oc4 kV4 dc4 pm4 cd4 ct4 oc5 kV5 dc5 pm5 cd5 ct5 oc6 kV6 dc6 pm6 cd6 ct6 oc7 kV7 dc7 pm7 cd7 ct7 oc8 kV8 dc8 pm8 cd8 ct8 oc9 kV9 dc9 pm9 cd9 ct9 oc10 kV10 dc10 pm10 cd10 ct10 oc11 kV11 dc11 pm11 cd11 ct11 oc12 kV12 dc12 pm12 cd12 ct12 oc13 kV13 dc13 pm13 cd13 ct13 oc14 kV14 dc14 pm14 cd14 ct14 oc15 kV15 dc15 pm15 cd15 ct15 oc16 kV16 dc16 pm16 cd16 ct16 oc17 kV17 dc17 pm17 cd17 ct17 : Value} {fP fT : Addr} {odP anP dT : Option Addr} {slP slT : Array (Option Value)} {ocP kVP dcP pmP cdP ctP : Value} {tk : Tok} {mT : Nat} {tB tM tC tE tD : Tok} (X : K.In h) (G : h.Ns mainGlobals mg) (hfa : mg "law" = some (.ref fa))
    (a1 : PySem.W.nsIn K mainGlobals "is_coefficient" = some (some (.ref f1))) (l1 : K.lookup f1 = some ⟨oc1, od1, .func (PySem.W.fnOf "is_coefficient" "is_coefficient" (defArgs sIsC) (defBody sIsC) (defScope sIsC) .none kV1 dc1 pm1 an1 cd1 ct1), sl1⟩) (c1 : PySem.W.codeIn K cd1 "is_coefficient" = true) (k1 : PySem.W.keepIn K (.ref f1) = true)
    (a2 : PySem.W.nsIn K mainGlobals "is_ordinal" = some (some (.ref f2))) (l2 : K.lookup f2 = some ⟨oc2, od2, .func (PySem.W.fnOf "is_ordinal" "is_ordinal" (defArgs sIsO) (defBody sIsO) (defScope sIsO) .none kV2 dc2 pm2 an2 cd2 ct2), sl2⟩) (c2 : PySem.W.codeIn K cd2 "is_ordinal" = true) (k2 : PySem.W.keepIn K (.ref f2) = true)
    (a3 : PySem.W.nsIn K mainGlobals "add" = some (some (.ref f3))) (l3 : K.lookup f3 = some ⟨oc3, od3, .func (PySem.W.fnOf "add" "add" (defArgs sPad) (defBody sPad) (defScope sPad) .none kV3 dc3 pm3 an3 cd3 ct3), sl3⟩) (c3 : PySem.W.codeIn K cd3 "add" = true) (k3 : PySem.W.keepIn K (.ref f3) = true)
    (a4 : PySem.W.nsIn K mainGlobals "format_term" = some (some (.ref f4))) (l4 : K.lookup f4 = some ⟨oc4, od4, .func (PySem.W.fnOf "format_term" "format_term" (defArgs sFmT) (defBody sFmT) (defScope sFmT) .none kV4 dc4 pm4 an4 cd4 ct4), sl4⟩) (c4 : PySem.W.codeIn K cd4 "format_term" = true) (k4 : PySem.W.keepIn K (.ref f4) = true)
    (a5 : PySem.W.nsIn K mainGlobals "format_ordinal" = some (some (.ref f5))) (l5 : K.lookup f5 = some ⟨oc5, od5, .func (PySem.W.fnOf "format_ordinal" "format_ordinal" (defArgs sFmO) (defBody sFmO) (defScope sFmO) .none kV5 dc5 pm5 an5 cd5 ct5), sl5⟩) (c5 : PySem.W.codeIn K cd5 "format_ordinal" = true) (k5 : PySem.W.keepIn K (.ref f5) = true)
    (a6 : PySem.W.nsIn K mainGlobals "parse_number" = some (some (.ref f6))) (l6 : K.lookup f6 = some ⟨oc6, od6, .func (PySem.W.fnOf "parse_number" "parse_number" (defArgs sPaN) (defBody sPaN) (defScope sPaN) .none kV6 dc6 pm6 an6 cd6 ct6), sl6⟩) (c6 : PySem.W.codeIn K cd6 "parse_number" = true) (k6 : PySem.W.keepIn K (.ref f6) = true)
    (a7 : PySem.W.nsIn K mainGlobals "parse_term" = some (some (.ref f7))) (l7 : K.lookup f7 = some ⟨oc7, od7, .func (PySem.W.fnOf "parse_term" "parse_term" (defArgs sPaT) (defBody sPaT) (defScope sPaT) .none kV7 dc7 pm7 an7 cd7 ct7), sl7⟩) (c7 : PySem.W.codeIn K cd7 "parse_term" = true) (k7 : PySem.W.keepIn K (.ref f7) = true)
    (a8 : PySem.W.nsIn K mainGlobals "parse_ordinal" = some (some (.ref f8))) (l8 : K.lookup f8 = some ⟨oc8, od8, .func (PySem.W.fnOf "parse_ordinal" "parse_ordinal" (defArgs sPaO) (defBody sPaO) (defScope sPaO) .none kV8 dc8 pm8 an8 cd8 ct8), sl8⟩) (c8 : PySem.W.codeIn K cd8 "parse_ordinal" = true) (k8 : PySem.W.keepIn K (.ref f8) = true)
    (a9 : PySem.W.nsIn K mainGlobals "_law_scramble" = some (some (.ref f9))) (l9 : K.lookup f9 = some ⟨oc9, od9, .func (PySem.W.fnOf "_law_scramble" "_law_scramble" (defArgs sScr) (defBody sScr) (defScope sScr) .none kV9 dc9 pm9 an9 cd9 ct9), sl9⟩) (c9 : PySem.W.codeIn K cd9 "_law_scramble" = true) (k9 : PySem.W.keepIn K (.ref f9) = true)
    (a10 : PySem.W.nsIn K mainGlobals "_law_draws" = some (some (.ref f10))) (l10 : K.lookup f10 = some ⟨oc10, od10, .func (PySem.W.fnOf "_law_draws" "_law_draws" (defArgs sDrw) (defBody sDrw) (defScope sDrw) .none kV10 dc10 pm10 an10 cd10 ct10), sl10⟩) (c10 : PySem.W.codeIn K cd10 "_law_draws" = true) (k10 : PySem.W.keepIn K (.ref f10) = true)
    (a11 : PySem.W.nsIn K mainGlobals "_law_next" = some (some (.ref f11))) (l11 : K.lookup f11 = some ⟨oc11, od11, .func (PySem.W.fnOf "_law_next" "_law_next" (defArgs sNxt) (defBody sNxt) (defScope sNxt) .none kV11 dc11 pm11 an11 cd11 ct11), sl11⟩) (c11 : PySem.W.codeIn K cd11 "_law_next" = true) (k11 : PySem.W.keepIn K (.ref f11) = true)
    (a12 : PySem.W.nsIn K mainGlobals "_law_choose" = some (some (.ref f12))) (l12 : K.lookup f12 = some ⟨oc12, od12, .func (PySem.W.fnOf "_law_choose" "_law_choose" (defArgs sCho) (defBody sCho) (defScope sCho) .none kV12 dc12 pm12 an12 cd12 ct12), sl12⟩) (c12 : PySem.W.codeIn K cd12 "_law_choose" = true) (k12 : PySem.W.keepIn K (.ref f12) = true)
    (a13 : PySem.W.nsIn K mainGlobals "_law_identical" = some (some (.ref f13))) (l13 : K.lookup f13 = some ⟨oc13, od13, .func (PySem.W.fnOf "_law_identical" "_law_identical" (defArgs sIde) (defBody sIde) (defScope sIde) .none kV13 dc13 pm13 an13 cd13 ct13), sl13⟩) (c13 : PySem.W.codeIn K cd13 "_law_identical" = true) (k13 : PySem.W.keepIn K (.ref f13) = true)
    (a14 : PySem.W.nsIn K mainGlobals "_law_random_ordinal" = some (some (.ref f14))) (l14 : K.lookup f14 = some ⟨oc14, od14, .func (PySem.W.fnOf "_law_random_ordinal" "_law_random_ordinal" (defArgs sRnd) (defBody sRnd) (defScope sRnd) .none kV14 dc14 pm14 an14 cd14 ct14), sl14⟩) (c14 : PySem.W.codeIn K cd14 "_law_random_ordinal" = true) (k14 : PySem.W.keepIn K (.ref f14) = true)
    (a15 : PySem.W.nsIn K mainGlobals "_law_term_list" = some (some (.ref f15))) (l15 : K.lookup f15 = some ⟨oc15, od15, .func (PySem.W.fnOf "_law_term_list" "_law_term_list" (defArgs sTrm) (defBody sTrm) (defScope sTrm) .none kV15 dc15 pm15 an15 cd15 ct15), sl15⟩) (c15 : PySem.W.codeIn K cd15 "_law_term_list" = true) (k15 : PySem.W.keepIn K (.ref f15) = true)
    (a16 : PySem.W.nsIn K mainGlobals "_law_canonical_text" = some (some (.ref f16))) (l16 : K.lookup f16 = some ⟨oc16, od16, .func (PySem.W.fnOf "_law_canonical_text" "_law_canonical_text" (defArgs sCan) (defBody sCan) (defScope sCan) .none kV16 dc16 pm16 an16 cd16 ct16), sl16⟩) (c16 : PySem.W.codeIn K cd16 "_law_canonical_text" = true) (k16 : PySem.W.keepIn K (.ref f16) = true)
    (a17 : PySem.W.nsIn K mainGlobals "law" = some (some (.ref f17))) (l17 : K.lookup f17 = some ⟨oc17, od17, .func (PySem.W.fnOf "law" "law" (defArgs sLaw) (defBody sLaw) (defScope sLaw) .none kV17 dc17 pm17 an17 cd17 ct17), sl17⟩) (c17 : PySem.W.codeIn K cd17 "law" = true) (k17 : PySem.W.keepIn K (.ref f17) = true)
    (z0 : PySem.W.nsIn K mainGlobals "range" = some none)
    (z1 : PySem.W.nsIn K mainGlobals "len" = some none)
    (z2 : PySem.W.nsIn K mainGlobals "isinstance" = some none)
    (z3 : PySem.W.nsIn K mainGlobals "repr" = some none)
    (z4 : PySem.W.nsIn K mainGlobals "enumerate" = some none)
    (z5 : PySem.W.nsIn K mainGlobals "abs" = some none)
    (z6 : PySem.W.nsIn K mainGlobals "tuple" = some none)
    (z7 : PySem.W.nsIn K mainGlobals "bool" = some none)
    (z8 : PySem.W.nsIn K mainGlobals "int" = some none)
    (z9 : PySem.W.nsIn K mainGlobals "str" = some none)
    (aP : PySem.W.nsIn K mainGlobals "power" = some (some (.ref fP)))
    (lP : K.lookup fP = some ⟨ocP, odP, .func (PySem.W.fnOf "power" "power" (defArgs sPow) (defBody sPow) (defScope sPow) (.ref fT) kVP dcP pmP anP cdP ctP), slP⟩)
    (cP : PySem.W.codeIn K cdP "power" = true)
    (kP : PySem.W.keepIn K (.ref fP) = true)
    (tP : K.lookup fT = some ⟨.type "tuple", dT, .seq #[.int 1 tk] mT, slT⟩)
    (vB : PySem.W.nsIn K mainGlobals "COEFFICIENT_BOUND" = some (some (.int 1000000000000000000 tB)))
    (vM : PySem.W.nsIn K mainGlobals "MOST_COEFFICIENTS" = some (some (.int 64 tM)))
    (vC : PySem.W.nsIn K mainGlobals "LONGEST_COEFFICIENT" = some (some (.int 18 tC)))
    (vE : PySem.W.nsIn K mainGlobals "LONGEST_EXPONENT" = some (some (.int 2 tE)))
    (vD : PySem.W.nsIn K mainGlobals "DIGITS" = some (some (.str "0123456789" tD))) :
    ∃ fd : FuncData, (∀ (s : Shared) (u : Value), BindsTo s fd ⟨[u], []⟩ [("script", u)]) ∧ ∀ base : Heap, K.In base → base.Ns mainGlobals mg → FnG P w K mg base 6 fa fd ["script"] (spLaw K) := by
  have e := hfa.symm.trans (PySem.W.mg_of X G a17)
  cases e
  have F1 := fun_mk (st := sIsC) l1 c1 k1
  have b1 := F1.binds (ps := ["thing"]) fun _ _ _ _ _ _ us hl => match us, hl with | [_], _ => rfl
  have g1 := PySem.W.mg_of X G a1
  have F2 := fun_mk (st := sIsO) l2 c2 k2
  have b2 := F2.binds (ps := ["thing"]) fun _ _ _ _ _ _ us hl => match us, hl with | [_], _ => rfl
  have g2 := PySem.W.mg_of X G a2
  have F3 := fun_mk (st := sPad) l3 c3 k3
  have b3 := F3.binds (ps := ["first", "second"]) fun _ _ _ _ _ _ us hl => match us, hl with | [_, _], _ => rfl
  have g3 := PySem.W.mg_of X G a3
  have F4 := fun_mk (st := sFmT) l4 c4 k4
  have b4 := F4.binds (ps := ["exponent", "coefficient"]) fun _ _ _ _ _ _ us hl => match us, hl with | [_, _], _ => rfl
  have g4 := PySem.W.mg_of X G a4
  have F5 := fun_mk (st := sFmO) l5 c5 k5
  have b5 := F5.binds (ps := ["ordinal"]) fun _ _ _ _ _ _ us hl => match us, hl with | [_], _ => rfl
  have g5 := PySem.W.mg_of X G a5
  have F6 := fun_mk (st := sPaN) l6 c6 k6
  have b6 := F6.binds (ps := ["text", "longest"]) fun _ _ _ _ _ _ us hl => match us, hl with | [_, _], _ => rfl
  have g6 := PySem.W.mg_of X G a6
  have F7 := fun_mk (st := sPaT) l7 c7 k7
  have b7 := F7.binds (ps := ["text"]) fun _ _ _ _ _ _ us hl => match us, hl with | [_], _ => rfl
  have g7 := PySem.W.mg_of X G a7
  have F8 := fun_mk (st := sPaO) l8 c8 k8
  have b8 := F8.binds (ps := ["text"]) fun _ _ _ _ _ _ us hl => match us, hl with | [_], _ => rfl
  have g8 := PySem.W.mg_of X G a8
  have F9 := fun_mk (st := sScr) l9 c9 k9
  have b9 := F9.binds (ps := ["number", "index"]) fun _ _ _ _ _ _ us hl => match us, hl with | [_, _], _ => rfl
  have g9 := PySem.W.mg_of X G a9
  have F10 := fun_mk (st := sDrw) l10 c10 k10
  have b10 := F10.binds (ps := ["script"]) fun _ _ _ _ _ _ us hl => match us, hl with | [_], _ => rfl
  have g10 := PySem.W.mg_of X G a10
  have F11 := fun_mk (st := sNxt) l11 c11 k11
  have b11 := F11.binds (ps := ["source", "bound"]) fun _ _ _ _ _ _ us hl => match us, hl with | [_, _], _ => rfl
  have g11 := PySem.W.mg_of X G a11
  have F12 := fun_mk (st := sCho) l12 c12 k12
  have b12 := F12.binds (ps := ["source", "items"]) fun _ _ _ _ _ _ us hl => match us, hl with | [_, _], _ => rfl
  have g12 := PySem.W.mg_of X G a12
  have F13 := fun_mk (st := sIde) l13 c13 k13
  have b13 := F13.binds (ps := ["found", "expected"]) fun _ _ _ _ _ _ us hl => match us, hl with | [_, _], _ => rfl
  have g13 := PySem.W.mg_of X G a13
  have F14 := fun_mk (st := sRnd) l14 c14 k14
  have b14 := F14.binds (ps := ["source", "degrees", "most"]) fun _ _ _ _ _ _ us hl => match us, hl with | [_, _, _], _ => rfl
  have g14 := PySem.W.mg_of X G a14
  have F15 := fun_mk (st := sTrm) l15 c15 k15
  have b15 := F15.binds (ps := ["ordinal"]) fun _ _ _ _ _ _ us hl => match us, hl with | [_], _ => rfl
  have g15 := PySem.W.mg_of X G a15
  have F16 := fun_mk (st := sCan) l16 c16 k16
  have b16 := F16.binds (ps := ["ordinal"]) fun _ _ _ _ _ _ us hl => match us, hl with | [_], _ => rfl
  have g16 := PySem.W.mg_of X G a16
  have F17 := fun_mk (st := sLaw) l17 c17 k17
  have b17 := F17.binds (ps := ["script"]) fun _ _ _ _ _ _ us hl => match us, hl with | [_], _ => rfl
  have g17 := PySem.W.mg_of X G a17
  have m_range := PySem.W.mg_none_of X G z0
  have m_len := PySem.W.mg_none_of X G z1
  have m_isinstance := PySem.W.mg_none_of X G z2
  have m_repr := PySem.W.mg_none_of X G z3
  have m_enumerate := PySem.W.mg_none_of X G z4
  have m_abs := PySem.W.mg_none_of X G z5
  have m_tuple := PySem.W.mg_none_of X G z6
  have m_bool := PySem.W.mg_none_of X G z7
  have m_int := PySem.W.mg_none_of X G z8
  have m_str := PySem.W.mg_none_of X G z9
  refine ⟨PySem.W.fnOf "law" "law" (defArgs sLaw) (defBody sLaw) (defScope sLaw) .none kV17 dc17 pm17 an17 cd17 ct17, fun s u => .of_eq rfl, fun base _ _ => ?_⟩
  have FP : FunD K "power" "power" (defArgs sPow) (defBody sPow) (defScope sPow) [.int 1] [] fP _ := ⟨⟨ocP, odP, .ref fT, kVP, dcP, pmP, anP, cdP, ctP, slP, rfl, lP, cP, .inr ⟨by simp, fT, _, [.int 1 tk], mT, rfl, tP, rfl, .cons ⟨tk, rfl⟩ .nil⟩, .inl rfl⟩, kP⟩
  have gP := PySem.W.mg_of X G aP
  obtain ⟨d2, v2, bP⟩ := FP.binds1 (ps := ["exponent", "coefficient"]) 2 1 (by simp) rfl fun T kV doc pm an cdv ct us its h1 h2 => match us, its, h1, h2 with | [_, _], [_], _, _ => ⟨_, rfl, rfl⟩
  cases v2
  have GN : FnOk P w K mg base CX0 2 f11 _ ["source", "bound"] spNxt := ok_nxt (k := 0) F11 m_len F9 b9 g9 m_range
  have GC : FnOk P w K mg base CX0 3 f12 _ ["source", "items"] (spCho K) := ok_cho (k := 0) F12 m_len GN k11 b11 g11
  have GR : FnOk P w K mg base CX0 4 f14 _ ["source", "degrees", "most"] (spRnd K) := ok_rnd (k := 0) F14 m_range m_tuple (GN.mono (by decide)) k11 b11 g11 GC k12 b12 g12
  have GB := PySem.W.mg_of X G vB
  have GM := PySem.W.mg_of X G vM
  have GV := PySem.W.mg_of X G vC
  have GE := PySem.W.mg_of X G vE
  have GD := PySem.W.mg_of X G vD
  have HC : FnOk P w K mg base CX0 1 f1 _ ["thing"] spIsC := ok_isC (k := 0) F1 m_isinstance m_bool m_int GB
  have HO : FnOk P w K mg base CX0 2 f2 _ ["thing"] (spIsO K) := ok_isO (k := 0) F2 m_isinstance m_tuple m_len GM HC k1 b1 g1
  have HT : FnOk P w K mg base CX0 1 f4 _ ["exponent", "coefficient"] spFmT := ok_fmT (k := 0) F4 m_str
  have HF : FnOk P w K mg base CX0 2 f5 _ ["ordinal"] (spFmO K) := ok_fmO (k := 0) F5 m_len m_enumerate HT k4 b4 g4
  have HN : FnOk P w K mg base CX0 1 f6 _ ["text", "longest"] spPaN := ok_paN (k := 0) F6 m_len m_int GD
  have HP : FnOk P w K mg base CX0 2 f7 _ ["text"] spPaT := ok_paT (k := 0) F7 GV GE HN k6 b6 g6
  have HL : FnOk P w K mg base CX0 1 f15 _ ["ordinal"] (spTrm K) := ok_trm (k := 0) F15 m_len m_enumerate
  have HW : FnOk P w K mg base CX0 5 f8 _ ["text"] (spPaO K) := ok_paO (k := 0) F8 (HP.mono (by decide)) k7 b7 g7 ((ok_pad (k := 0) F3 m_len).mono (by decide)) k3 b3 g3 ((ok_pow (k := 0) FP).mono (by decide)) kP bP gP (HO.mono (by decide)) k2 b2 g2 (HF.mono (by decide)) k5 b5 g5
  refine ok_law (k := 5) F17 ?_
  exact {
    drw := ⟨f10, _, (ok_drw (k := 0) F10 m_enumerate m_abs).mono (by decide), g10, k10, b10⟩
    cho := ⟨f12, _, GC.mono (by decide), g12, k12, b12⟩
    ide := ⟨f13, _, (ok_ide (k := 0) F13 m_repr).up (by decide), g13, k13, b13⟩
    rnd := ⟨f14, _, GR.mono (by decide), g14, k14, b14⟩
    can := ⟨f16, _, (ok_can (k := 0) F16 m_str HL k15 b15 g15).mono (by decide), g16, k16, b16⟩
    fmo := ⟨f5, _, HF.mono (by decide), g5, k5, b5⟩
    pao := ⟨f8, _, HW, g8, k8, b8⟩
    range := m_range }
end Lim
open PySem PySem.W PyProof.Rows
set_option maxHeartbeats 0 in
theorem PySem.Challenge.cw_limitrun_k05_texts_of_ordinals_holds : PySem.Challenge.rw_limitrun_k05_texts_of_ordinals.Holds := by
  w_on; o_law; k_head; (case hw => w_witness2)
  k_fill
  refine Lim.walk_g (l := PySem.Challenge.rw_limitrun_k05_texts_of_ordinals) (n := 63) (k := 6) (x := "script") (sp := Lim.spLaw) rfl (by decide) rfl ⟨rfl, by decide, by decide⟩ (fun w h Y => PySem.W.kIn_of Y) ?F (fun _ _ a ns hl _ hS => ⟨a, ns, rfl, hS, hl, fun _ => rfl⟩)
  case F =>
    intro w mg fa h KX G hmg
    refine' Lim.all_mk KX G hmg ?a1 ?l1 ?c1 ?k1 ?a2 ?l2 ?c2 ?k2 ?a3 ?l3 ?c3 ?k3 ?a4 ?l4 ?c4 ?k4 ?a5 ?l5 ?c5 ?k5 ?a6 ?l6 ?c6 ?k6 ?a7 ?l7 ?c7 ?k7 ?a8 ?l8 ?c8 ?k8 ?a9 ?l9 ?c9 ?k9 ?a10 ?l10 ?c10 ?k10 ?a11 ?l11 ?c11 ?k11 ?a12 ?l12 ?c12 ?k12 ?a13 ?l13 ?c13 ?k13 ?a14 ?l14 ?c14 ?k14 ?a15 ?l15 ?c15 ?k15 ?a16 ?l16 ?c16 ?k16 ?a17 ?l17 ?c17 ?k17 ?z0 ?z1 ?z2 ?z3 ?z4 ?z5 ?z6 ?z7 ?z8 ?z9 ?aP ?lP ?cP ?kP ?tP ?vB ?vM ?vC ?vE ?vD
    (case a1 => k_is)
    (case l1 => k_is)
    (case c1 => k_is)
    (case k1 => k_is)
    (case a2 => k_is)
    (case l2 => k_is)
    (case c2 => k_is)
    (case k2 => k_is)
    (case a3 => k_is)
    (case l3 => k_is)
    (case c3 => k_is)
    (case k3 => k_is)
    (case a4 => k_is)
    (case l4 => k_is)
    (case c4 => k_is)
    (case k4 => k_is)
    (case a5 => k_is)
    (case l5 => k_is)
    (case c5 => k_is)
    (case k5 => k_is)
    (case a6 => k_is)
    (case l6 => k_is)
    (case c6 => k_is)
    (case k6 => k_is)
    (case a7 => k_is)
    (case l7 => k_is)
    (case c7 => k_is)
    (case k7 => k_is)
    (case a8 => k_is)
    (case l8 => k_is)
    (case c8 => k_is)
    (case k8 => k_is)
    (case a9 => k_is)
    (case l9 => k_is)
    (case c9 => k_is)
    (case k9 => k_is)
    (case a10 => k_is)
    (case l10 => k_is)
    (case c10 => k_is)
    (case k10 => k_is)
    (case a11 => k_is)
    (case l11 => k_is)
    (case c11 => k_is)
    (case k11 => k_is)
    (case a12 => k_is)
    (case l12 => k_is)
    (case c12 => k_is)
    (case k12 => k_is)
    (case a13 => k_is)
    (case l13 => k_is)
    (case c13 => k_is)
    (case k13 => k_is)
    (case a14 => k_is)
    (case l14 => k_is)
    (case c14 => k_is)
    (case k14 => k_is)
    (case a15 => k_is)
    (case l15 => k_is)
    (case c15 => k_is)
    (case k15 => k_is)
    (case a16 => k_is)
    (case l16 => k_is)
    (case c16 => k_is)
    (case k16 => k_is)
    (case a17 => k_is)
    (case l17 => k_is)
    (case c17 => k_is)
    (case k17 => k_is)
    (case z0 => k_is)
    (case z1 => k_is)
    (case z2 => k_is)
    (case z3 => k_is)
    (case z4 => k_is)
    (case z5 => k_is)
    (case z6 => k_is)
    (case z7 => k_is)
    (case z8 => k_is)
    (case z9 => k_is)
    (case aP => k_is)
    (case lP => k_is)
    (case cP => k_is)
    (case kP => k_is)
    (case tP => k_is)
    (case vB => k_is)
    (case vM => k_is)
    (case vC => k_is)
    (case vE => k_is)
    (case vD => k_is)
#print axioms PySem.Challenge.cw_limitrun_k05_texts_of_ordinals_holds
