import PyProof.Rows.All
import Wide.All
import OpenK.AllK
import Wide.FinOn
import HandS.ForMost
import HandS.OwnEq
import KE.KOpsOwn
import PyProof.ListMulRight
import KE.KCallOwn
import PyProof.ReprRoads
import HandS.Defaults
import HandS.HeadHook2
import HandS.IsInst
import HandS.Property
import HandS.ClsMeth
import HandS.Gcd
import HandS.FStr
import HandS.Star
import HandS.MakeKw
import HandS.Wide
import HandS.WideBits
import HandS.RaiseMore
import HandS.MakeKwOnly
import PyProof.ReprLen
import PyProof.StrLawsRepr
import HandS.Codes
import PyProof.Rows.ReprOcc
import HandS.Style
import HandS.Walk
import HandS.Head0
import HandS.Head1
import HandS.Head2
import HandS.Head3
import HandS.HeadEnd
import HandS.HeadHook1
import HandS.HeadNt
import PySem.Challenge.RW_anypoints_k11_whole_ratios_by_rows_of_de
set_option Elab.async false
set_option linter.all false
set_option maxRecDepth 100000
set_option maxHeartbeats 0
namespace Ow
open PySem PySem.Spec PyProof.Rows L2
open Builtin

theorem int_add_ref (C dx : Addr) (a : Int) (t : Tok) (l : Addr) :
    Meets (Builtin.«int.__add__» ⟨[.int a t, .ref l], []⟩) (fun _ R s => s.heap.get? l = some (PySem.W.instObj C dx) ∧ R (.ok (.ret Value.notImplemented)) s) :=
  .of_wp fun prog w A R s h => by obtain ⟨hp, g, d, tk, os⟩ := s; obtain ⟨hl, h⟩ := h; wp_walk; exact ⟨_, rfl, h⟩
theorem int_sub_ref (C dx : Addr) (a : Int) (t : Tok) (l : Addr) :
    Meets (Builtin.«int.__sub__» ⟨[.int a t, .ref l], []⟩) (fun _ R s => s.heap.get? l = some (PySem.W.instObj C dx) ∧ R (.ok (.ret Value.notImplemented)) s) :=
  .of_wp fun prog w A R s h => by obtain ⟨hp, g, d, tk, os⟩ := s; obtain ⟨hl, h⟩ := h; wp_walk; exact ⟨_, rfl, h⟩
theorem int_mul_ref (C dx : Addr) (a : Int) (t : Tok) (l : Addr) :
    Meets (Builtin.«int.__mul__» ⟨[.int a t, .ref l], []⟩) (fun _ R s => s.heap.get? l = some (PySem.W.instObj C dx) ∧ R (.ok (.ret Value.notImplemented)) s) :=
  .of_wp fun prog w A R s h => by obtain ⟨hp, g, d, tk, os⟩ := s; obtain ⟨hl, h⟩ := h; wp_walk; exact ⟨_, rfl, h⟩

section
variable {prog : Program} {w : World} {A : Around} {E : Value → Shared → Prop} {s : Shared} {K : PySem.W.Frag} {x C f : Addr} {ox : Obj} {od : Option Obj}

open PySem.W in
/-- int op instance: the int declines, the class's reflected method takes it -/
theorem bin_rint {op : Operator} {id : String} {i : Int} {t : Tok} {Q : Value → Shared → Prop} (X : K.In s.heap) (I : InstAt s.heap x ox C od) (hc : selfFirst K C = true)
    (hfT : fillsNumberSlot (.type "int") op.info.2 = pure true)
    (hl : Slot "int" (PySem.dunder op.info.2) id)
    (hs : findIn K (.ref C) (PySem.dunder op.info.2) = some (some (.ref f))) 
    {g : Addr} (hg : findIn K (.ref C) (dunderR op.info.2) = some (some (.ref g))) (hfg : isFn K (.ref g) = true)
    (hsub : subIn K (.ref C) (.type "int") = some false)
    (hd : wpAny (model prog w) A (call (.builtin id) [.int i t, .ref x]) (fun v s' => v = .notImplemented ∧ s' = s) E s)
    (h : wpAny (model prog w) A (call (.ref g) [.ref x, .int i t]) (PySem.W.CmpBack Q) E s) : wpAny (model prog w) A (binaryOp op (.int i t) (.ref x)) Q E s := by
  obtain ⟨cd, rest, hcd, hm⟩ := ksp_first hc
  rcases hi : op.info with ⟨sym, nm'⟩
  rw [hi] at hfT hl hs hg
  dsimp only at hfT hl hs hg
  have one := ksp_try X I hg hfg h
  have L1 : Looks (model prog w) s.heap (typeOf (.ref x)) (.ref C) := I.type
  have L3 : Looks (model prog w) s.heap (fillsNumberSlot (.ref C) nm') true := fills_K X hcd hm hs
  have L5 : Looks (model prog w) s.heap (isSubtype (.ref C) (.type "int")) false := looks_subIn X hsub
  have hne : (Value.type "int" == Value.ref C) = false := Bool.eq_false_iff.mpr fun q => by cases beq_iff_eq.mp q
  simp only [binaryOp, hi]
  refine wpAny_holding (wpAny_bind ?_)
  unfold binaryOp1
  refine wpAny_bind (wpAny_typeOf (typeIs_int _ _ _) (wpAny_bind (L1.here (wpAny_bind (wpAny_of_eq hfT ?_)))))
  simp only [hne, Bool.false_eq_true, if_false]
  refine wpAny_bind (L3.here ?_)
  simp only [Bool.and_self, if_true]
  refine wpAny_bind (L5.here ?_)
  have hpy : numberSlotInPython (.type "int") nm' = pure false := rfl
  simp only [Bool.false_eq_true, if_false, pure_bind, Bool.not_false, Bool.and_self, if_true, hpy]
  refine wpAny_bind (wpAny_tryMethod_declines (typeIs_int _ _ _) hl (wpAny_mono hd (fun v s' q => ⟨q.1, ?_⟩) fun _ _ e => e))
  obtain ⟨_, rfl⟩ := q
  refine wpAny_bind (wpAny_mono one (fun r s2 z => ?_) fun _ _ e => e)
  obtain ⟨v, rfl, hq⟩ := z
  refine wpAny_bind (wpAny_rule (wpAny_pure ?_))
  exact wpAny_pure hq
end
end Ow
namespace Ow
open PySem PySem.Spec PyProof.Rows L2

/-- the class at C has the operator nm as a def of its own, at f -/
structure OpOf (K : PySem.W.Frag) (C : Addr) (nm : Str) (f : Addr) : Prop where
  at_ : PySem.W.findIn K (.ref C) nm = some (some (.ref f))
  fn : PySem.W.isFn K (.ref f) = true
/-- it stands ahead of builtins, of int -/
structure Num (K : PySem.W.Frag) (C : Addr) : Prop where
  sf : PySem.W.selfFirst K C = true
  ic : PySem.W.subIn K (.type "int") (.ref C) = some false
  ci : PySem.W.subIn K (.ref C) (.type "int") = some false

theorem back {Q : Value → Shared → Prop} {v : V} {u : Value} {s : Shared} (r : RelV v u) (q : Q u s) : PySem.W.CmpBack Q u s := by
  cases v <;> (try (obtain ⟨t, r⟩ := r)) <;> (try cases r) <;> exact q

section
variable {X : Cx} {CX : CXT} {k : Nat} {C f : Addr} {fd : FuncData} {ps : List Str} {sp : Sp} {E : XK} {dvs : List V} {ds : List Value}

/-- x op y, both instances of C -/
def rOwn (C : Addr) (sp : Sp) (E : XK) : R2 := fun x y H Q => ∃ a dx fs b dy gs, x = .ref a ∧ H a = some (.ins C dx fs) ∧ y = .ref b ∧ H b = some (.ins C dy gs) ∧ sp [.ref a, .ref b] H Q E
/-- x op i -/
def rOwnI (C : Addr) (sp : Sp) (E : XK) : R2 := fun x y H Q => ∃ a dx fs i, x = .ref a ∧ H a = some (.ins C dx fs) ∧ y = .int i ∧ sp [.ref a, .int i] H Q E
/-- i op x -/
def rIOwn (C : Addr) (sp : Sp) (E : XK) : R2 := fun x y H Q => ∃ a dx fs i, y = .ref a ∧ H a = some (.ins C dx fs) ∧ x = .int i ∧ sp [.ref a, .int i] H Q E

theorem run_back {pins : List (Addr × Obj)} {σ : L2.St} {H : Hp} {s : Shared} {Q : VK} {us : List Value} {vs : List V} (F : FnOk X.prog X.w X.K X.mg X.base CX k f fd ps sp) (hr : Room k X.A) (hb : Binds X.K fd ps []) (hx : Passes CX X E)
    (I : Inv X pins σ H s) (r : Vals vs us) (h : sp vs H Q E) : wpAny (model X.prog X.w) X.A (call (.ref f) us) (PySem.W.CmpBack (EP X pins σ Q)) X.xe s := by
  refine wpAny_mono (run_fn (dvs := []) (ds := []) F hr hb .nil hx I r (by rw [List.append_nil]; exact h)) (fun u s' q => ?_) fun _ _ e => e
  obtain ⟨v, H', I', rv, q'⟩ := id q
  exact back rv q

theorem inst_of {pins : List (Addr × Obj)} {σ : L2.St} {H : Hp} {s : Shared} {a dx : Addr} {fs : List (Str × V)} (I : Inv X pins σ H s) (ea : H a = some (.ins C dx fs)) :
    ∃ od, PySem.W.InstAt s.heap a (PySem.W.instObj C dx) C (some od) := by
  obtain ⟨mA, O, _, _, _, _⟩ := ins_get I.hok ea
  obtain ⟨od, J, _⟩ := O.look
  exact ⟨od, J⟩

theorem op_own {op : Operator} (n : PySem.W.selfFirst X.K C = true) (o : OpOf X.K C (PySem.dunder op.info.2) f) (F : FnOk X.prog X.w X.K X.mg X.base CX k f fd ps sp) (hr : Room k X.A) (hb : Binds X.K fd ps []) (hx : Passes CX X E) :
    OpR X (binaryOp op) (rOwn C sp E) := by
  intro pins s σ H x y u v Q I rx ry hq
  obtain ⟨a, dx, fs, b, dy, gs, rfl, ea, rfl, eb, q⟩ := hq
  cases rx
  cases ry
  obtain ⟨od, J⟩ := inst_of I ea
  obtain ⟨od', J'⟩ := inst_of I eb
  obtain ⟨m, hF⟩ := I.fr
  exact PySem.W.binop_K hF I.ok.mod.kin J J'.type n o.at_ o.fn (run_back (vs := [.ref a, .ref b]) F hr hb hx I (.cons rfl (.cons rfl .nil)) q)

theorem op_ownI {op : Operator} {fo ro rc : Option Value} (n : Num X.K C) (o : OpOf X.K C (PySem.dunder op.info.2) f) (F : FnOk X.prog X.w X.K X.mg X.base CX k f fd ps sp) (hr : Room k X.A) (hb : Binds X.K fd ps []) (hx : Passes CX X E)
    (hrf : PySem.W.findIn X.K (.ref C) (dunderR op.info.2) = some rc) (hp : rc = none ∨ ∃ g : Addr, rc = some (.ref g))
    (h1 : PySem.W.findIn X.K (.type "int") (PySem.dunder op.info.2) = some fo) (h2 : PySem.W.findIn X.K (.type "int") (dunderR op.info.2) = some ro) :
    OpR X (binaryOp op) (rOwnI C sp E) := by
  intro pins s σ H x y u v Q I rx ry hq
  obtain ⟨a, dx, fs, i, rfl, ea, rfl, q⟩ := hq
  cases rx
  obtain ⟨t, rfl⟩ := ry
  obtain ⟨od, J⟩ := inst_of I ea
  obtain ⟨m, hF⟩ := I.fr
  exact PySem.W.ksp_binT (T := "int") hF I.ok.mod.kin J rfl n.sf o.at_ o.fn hrf hp h1 h2 n.ic (run_back (vs := [.ref a, .int i]) F hr hb hx I (.cons rfl (.cons ⟨t, rfl⟩ .nil)) q)

theorem op_Iown {op : Operator} {id : String} {g : Addr} {gd : FuncData} (n : Num X.K C) (o : OpOf X.K C (PySem.dunder op.info.2) f) (og : OpOf X.K C (dunderR op.info.2) g) (F : FnOk X.prog X.w X.K X.mg X.base CX k g gd ps sp) (hr : Room k X.A) (hb : Binds X.K gd ps []) (hx : Passes CX X E)
    (hfT : fillsNumberSlot (.type "int") op.info.2 = pure true) (hl : Slot "int" (PySem.dunder op.info.2) id)
    (hd : ∀ (s : Shared) (a dx : Addr) (i : Int) (t : Tok), s.heap.get? a = some (PySem.W.instObj C dx) → wpAny (model X.prog X.w) X.A (call (.builtin id) [.int i t, .ref a]) (fun v s' => v = .notImplemented ∧ s' = s) X.xe s) :
    OpR X (binaryOp op) (rIOwn C sp E) := by
  intro pins s σ H x y u v Q I rx ry hq
  obtain ⟨a, dx, fs, i, rfl, ea, rfl, q⟩ := hq
  cases ry
  obtain ⟨t, rfl⟩ := rx
  obtain ⟨od, J⟩ := inst_of I ea
  obtain ⟨mA, O, _, _, _, _⟩ := ins_get I.hok ea
  exact bin_rint I.kIn J n.sf hfT hl o.at_ og.at_ og.fn n.ci (hd s a dx i t O.obj) (run_back (vs := [.ref a, .int i]) F hr hb hx I (.cons rfl (.cons ⟨t, rfl⟩ .nil)) q)

theorem decl_add {X : Cx} {C : Addr} (s : Shared) (a dx : Addr) (i : Int) (t : Tok) (h : s.heap.get? a = some (PySem.W.instObj C dx)) : wpAny (model X.prog X.w) X.A (call (.builtin "int.__add__") [.int i t, .ref a]) (fun v s' => v = .notImplemented ∧ s' = s) X.xe s :=
  call_meets F.slot_int_add (typeIs_int s i t) F.entry_int_add (F.args_int_add_2 _ _) (int_add_ref C dx i t a) ⟨h, rfl, rfl⟩
theorem decl_sub {X : Cx} {C : Addr} (s : Shared) (a dx : Addr) (i : Int) (t : Tok) (h : s.heap.get? a = some (PySem.W.instObj C dx)) : wpAny (model X.prog X.w) X.A (call (.builtin "int.__sub__") [.int i t, .ref a]) (fun v s' => v = .notImplemented ∧ s' = s) X.xe s :=
  call_meets F.slot_int_sub (typeIs_int s i t) F.entry_int_sub (F.args_int_sub_2 _ _) (int_sub_ref C dx i t a) ⟨h, rfl, rfl⟩
theorem decl_mul {X : Cx} {C : Addr} (s : Shared) (a dx : Addr) (i : Int) (t : Tok) (h : s.heap.get? a = some (PySem.W.instObj C dx)) : wpAny (model X.prog X.w) X.A (call (.builtin "int.__mul__") [.int i t, .ref a]) (fun v s' => v = .notImplemented ∧ s' = s) X.xe s :=
  call_meets F.slot_int_mul (typeIs_int s i t) F.entry_int_mul (F.args_int_mul_2 _ _) (int_mul_ref C dx i t a) ⟨h, rfl, rfl⟩

/-- - x -/
def rNegOwn (C : Addr) (sp : Sp) (E : XK) : V → Hp → VK → Prop := fun x H Q => ∃ a dx fs, x = .ref a ∧ H a = some (.ins C dx fs) ∧ sp [.ref a] H Q E
theorem un_own (o : OpOf X.K C "__neg__" f) (F : FnOk X.prog X.w X.K X.mg X.base CX k f fd ps sp) (hr : Room k X.A) (hb : Binds X.K fd ps []) (hx : Passes CX X E) : UnR X (unaryOp .USub) (rNegOwn C sp E) := by
  intro pins s σ H x u Q I rx hq
  obtain ⟨a, dx, fs, rfl, ea, q⟩ := hq
  cases rx
  obtain ⟨od, J⟩ := inst_of I ea
  obtain ⟨m, hF⟩ := I.fr
  exact PySem.W.ksp_neg hF I.ok.mod.kin J o.at_ o.fn (run_fn (vs := [.ref a]) (dvs := []) (ds := []) F hr hb .nil hx I (.cons rfl .nil) q)
end
end Ow
namespace Ow
open PySem PySem.Spec PyProof.Rows L2

section
variable {X : Cx} {CX : CXT} {k : Nat} {C f : Addr} {fd : FuncData} {ps : List Str} {sp : Sp} {E : XK}

/-- a callee run from within a built-in: an around with the same frames -/
theorem run_in {A : Around} {pins : List (Addr × Obj)} {σ : L2.St} {H : Hp} {s : Shared} {Q : VK} {us : List Value} {vs : List V} (F : FnOk X.prog X.w X.K X.mg X.base CX k f fd ps sp) (hr : Room k A) (hf : A.frames = X.A.frames) (hb : Binds X.K fd ps []) (hx : Passes CX X E)
    (I : Inv X pins σ H s) (r : Vals vs us) (h : sp vs H Q E) : wpAny (model X.prog X.w) A (call (.ref f) us) (EP X pins σ Q) X.xe s := by
  have hl : us.length = ps.length := by rw [← r.length]; exact F.len _ _ _ _ h
  have e0 := I.env0
  have e1 : Env0 X.prog X.w X.K X.mg X.base A X.stack s H := ⟨hf.trans e0.frames, e0.mod, e0.bs, e0.bsz, e0.funs, e0.frf, e0.hok, e0.bare⟩
  have b := hb s us I.kIn (by rw [List.append_nil]; exact hl)
  rw [List.append_nil] at b
  refine wpAny_call (codeAny_mono (F.run A X.stack s H ⟨us, []⟩ us vs Q E hr e1 b r h) fun res s' hq => ?_)
  cases res with
  | error err => exact hx pins σ H s err s' I hq
  | ok fl => cases fl with
    | ret u => exact I.after hq
    | next => exact hq.elim
    | brk => exact hq.elim
    | cont => exact hq.elim

/-- repr(x), str(x) of an instance: its own def, which tells a text -/
def rShow (C : Addr) (sp : Sp) (E : XK) : List V → Hp → VK → Prop := fun vs H Q => ∃ a dx fs, vs = [.ref a] ∧ H a = some (.ins C dx fs) ∧ sp [.ref a] H (fun v H' => ∃ z, v = .str z ∧ Q (.str z) H') E

theorem shown_back {pins : List (Addr × Obj)} {σ : L2.St} {Q : VK} {u : Value} {s' : Shared} (h : EP X pins σ (fun v H' => ∃ z, v = .str z ∧ Q (.str z) H') u s') : PySem.W.StrBack (EP X pins σ Q) u s' := by
  obtain ⟨v, H', I', rv, z, rfl, q⟩ := h
  obtain ⟨t, rfl⟩ := rv
  exact ⟨.str z, H', I', ⟨t, rfl⟩, q⟩

theorem call_repr_own (o : OpOf X.K C "__repr__" f) (F : FnOk X.prog X.w X.K X.mg X.base CX k f fd ps sp) (hr : Room (k + 1) X.A) (hb : Binds X.K fd ps []) (hx : Passes CX X E) : CallR X (.builtin "repr") (rShow C sp E) := by
  intro pins s σ H vs us Q I r hq
  obtain ⟨a, dx, fs, rfl, ea, q⟩ := hq
  obtain ⟨u, rfl, ru⟩ := vals1 r
  cases ru
  obtain ⟨od, J⟩ := inst_of I ea
  obtain ⟨m, hF⟩ := I.fr
  exact PySem.W.repr_K hr.in1.units0 hF I.ok.mod.kin J o.at_ o.fn (wpAny_mono (run_in (vs := [.ref a]) F hr.in1 rfl hb hx I (.cons rfl .nil) q) (fun _ _ z => shown_back z) fun _ _ e => e)

theorem call_str_own (o : OpOf X.K C "__str__" f) (F : FnOk X.prog X.w X.K X.mg X.base CX k f fd ps sp) (hr : Room (k + 2) X.A) (hb : Binds X.K fd ps []) (hx : Passes CX X E) : CallR X (.type "str") (rShow C sp E) := by
  intro pins s σ H vs us Q I r hq
  obtain ⟨a, dx, fs, rfl, ea, q⟩ := hq
  obtain ⟨u, rfl, ru⟩ := vals1 r
  cases ru
  obtain ⟨od, J⟩ := inst_of I ea
  exact PySem.W.kso_call hr.in1.in1.units0 I.kIn J o.at_ o.fn (wpAny_mono (run_in (vs := [.ref a]) F hr.in1.in1 rfl hb hx I (.cons rfl .nil) q) (fun _ _ z => shown_back z) fun _ _ e => e)

/-- repr of data, where nothing is being shown -/
def rData (K : PySem.W.Frag) : List V → Hp → VK → Prop := fun vs H Q => ∃ a d, vs = [.ref a] ∧ Dp K H (.ref a) d ∧ d.showable = true ∧ d.hasDict = false ∧ d.depth ≤ 20 ∧ d.shown.length ≤ sizeLine ∧ Q (.str d.shown) H
theorem call_repr_data (hg : X.A.guards = some []) (hr : Room 0 X.A) : CallR X (.builtin "repr") (rData X.K) := by
  intro pins s σ H vs us Q I r hq
  obtain ⟨a, d, rfl, hd, hs, hn, hdp, hz, q⟩ := hq
  obtain ⟨u, rfl, ru⟩ := vals1 r
  obtain ⟨as, rd⟩ := Dp.reads I d _ _ hd ru
  cases ru
  have hu := hr.units
  exact repr_of_reads' rd hs (PyData.noDict_hsm hn) hg (by omega) (fun _ _ e => e) (fun h' u tk hk => ⟨.str d.shown, H, I.kept hk, ⟨u, rfl⟩, q⟩) hz
end
end Ow
/-! A promise of a def that is only called where nothing is being shown (no guard stands on the stack): FnG. -/
namespace Ow
open PySem PySem.Spec PyProof.Rows L2

structure FnG (P : Program) (w : World) (K : PySem.W.Frag) (mg : Str → Option Value) (base : Heap) (CX : CXT) (k : Nat) (f : Addr) (fd : FuncData) (ps : List Str) (sp : Sp) : Prop where
  len : ∀ vs H Q E, sp vs H Q E → vs.length = ps.length
  run : ∀ (A : Around) (out : List Env) (s : Shared) (H : Hp) (gs : Args) (us : List Value) (vs : List V) (Q : VK) (E : XK),
    Room k A → A.guards = some [] → Env0 P w K mg base A out s H → BindsTo s fd gs (ps.zip us) → Vals vs us → sp vs H Q E →
    codeAny (model P w) A (.call (.ref f) gs) (CR CX out P w H s Q E) s

section
variable {P : Program} {w : World} {K : PySem.W.Frag} {mg : Str → Option Value} {base : Heap} {CX : CXT} {k : Nat} {f : Addr} {fd : FuncData} {ps N : List Str} {sp : Sp}
variable {x qual : Str} {pa : Arguments} {bd : List Stmt} {sc : Scope} {dvs : List V} {kws : List (Str × V)}

theorem FnG.mono {j : Nat} (F : FnG P w K mg base CX j f fd ps sp) (h : j ≤ k) : FnG P w K mg base CX k f fd ps sp :=
  ⟨F.len, fun A out s H gs us vs Q E hr => F.run A out s H gs us vs Q E (hr.mono h)⟩

theorem guards_deeper (A : Around) (env : Env) : (A.deeper env).guards = A.guards := rfl

/-- the rule, as FunD.ok, the body run where no guard stands -/
theorem fnG_ok (F : FunD K x qual pa bd sc dvs kws f fd) (S : FnScope N ps sc) (len : ∀ vs H Q E, sp vs H Q E → vs.length = ps.length)
    (body : ∀ (cdv : Value) (A : Around) (out : List Env) (s : Shared) (H : Hp) (vs : List V) (Q : VK) (E : XK),
      Room k (A.deeper (envOfC qual sc s.heap.objs.size f cdv)) → (A.deeper (envOfC qual sc s.heap.objs.size f cdv)).guards = some [] → sp vs H Q E →
      ∃ t, PSs (cxOf CX P w K mg base N qual sc f cdv A out s H E) bd t ∧ t { nx := fun _ H' => Q .non H', rt := Q } (start N vs) H) :
    FnG P w K mg base CX (k + 1) f fd ps sp := by
  obtain ⟨oc, od, dV, kV, doc, pm, an, cdv, ct, osl, rfl, lk, hcd, _, _⟩ := F.ex
  refine ⟨len, fun A out s H gs us vs Q E hr hg e0 hb r hsp => ?_⟩
  have bs1 : ∀ b o, base.get? b = some o → s.heap.get? b = some o := fun b o e => (e0.bs b o e).1
  have kinds : ∀ q ∈ ps.zip us, sc.names.lookup q.1 = some .local ∨ (sc.names.lookup q.1 = some .cell ∧
      ((cellsFrom (s.heap.objs.size + 1) sc.names []).lookup q.1).isSome = true) := by
    rintro ⟨n, v⟩ hq
    cases S.par n (List.of_mem_zip hq).1 with
    | inl z => exact Or.inl z
    | inr z => exact Or.inr ⟨z, PySem.W.cellsFrom_some _ _ _ (Or.inl z)⟩
  refine codeAny_call_function hr.depth ((e0.mod.kin.keeps bs1) _ _ lk) rfl S.co S.gen rfl
    (PySem.W.codeRec_of (e0.mod.kin.keeps bs1) hcd) (hb _ _ _ _ (wpAny_newFunctionEnv_cells S.kind kinds fun env he t1 ent => ?_))
  cases he
  obtain ⟨t, ht, hq⟩ := body cdv A out s H vs Q E (hr.deeper _) hg hsp
  have I : Inv (cxOf CX P w K mg base N qual sc f cdv A out s H E) [] (start N vs) H t1 := inv_start S hr.hd e0 (len _ _ _ _ hsp) r ent
  refine ⟨(e0.mod.nolimit.keeps bs1).keeps ent.toInCall.keep, codeAny_func (wpAny_mono (ht.run [] t1 _ H _ I hq) (fun fl t2 got => ?_) fun _ _ z => z)⟩
  cases fl with
  | ret u =>
    obtain ⟨v, _, G, J, rv, q⟩ := got
    exact ⟨v, G, J.os, J.bare, J.base, J.hok, rv, q⟩
  | next =>
    obtain ⟨_, G, J, q⟩ := got
    exact ⟨V.non, G, J.os, J.bare, J.base, J.hok, rfl, q⟩
  | brk => exact got.elim fun _ z => z.elim fun _ z => z.2.elim
  | cont => exact got.elim fun _ z => z.elim fun _ z => z.2.elim

end

section
variable {X : Cx} {CX : CXT} {k : Nat} {f : Addr} {fd : FuncData} {ps : List Str} {sp : Sp} {E : XK} {x : Str} {p pos : Pos} {e : Expr} {es : List Expr} {t : TA}
theorem runG {pins : List (Addr × Obj)} {σ : L2.St} {H : Hp} {s : Shared} {Q : VK} {us : List Value} {vs : List V} (F : FnG X.prog X.w X.K X.mg X.base CX k f fd ps sp) (hr : Room k X.A) (hg : X.A.guards = some []) (hb : Binds X.K fd ps []) (hx : Passes CX X E)
    (I : Inv X pins σ H s) (r : Vals vs us) (h : sp vs H Q E) : wpAny (model X.prog X.w) X.A (call (.ref f) us) (EP X pins σ Q) X.xe s := by
  have hl : us.length = ps.length := by rw [← r.length]; exact F.len _ _ _ _ h
  have b := hb s us I.kIn (by rw [List.append_nil]; exact hl)
  rw [List.append_nil] at b
  refine wpAny_call (codeAny_mono (F.run X.A X.stack s H ⟨us, []⟩ us vs Q E hr hg I.env0 b r h) fun res s' hq => ?_)
  cases res with
  | error err => exact hx pins σ H s err s' I hq
  | ok fl => cases fl with
    | ret u => exact I.after hq
    | next => exact hq.elim
    | brk => exact hq.elim
    | cont => exact hq.elim

theorem pe_callG (F : FnG X.prog X.w X.K X.mg X.base CX k f fd ps sp) (hr : Room k X.A) (hgu : X.A.guards = some []) (hg : Gl X x) (hm : X.mg x = some (.ref f)) (hk : PySem.W.keepIn X.K (.ref f) = true) (hb : Binds X.K fd ps []) (hx : Passes CX X E)
    (ha : PA X (e :: es) t) (hdb : (x == ("__debug__" : Str)) = false := by decide) (he : starEach (e :: es) X.env = (false, eval e X.env) :: starEach es X.env := by rfl) (hpl : (backTo pos (starEach es X.env)).any (·.1) = false := by rfl) :
    PE X (.Call (.Name x p) (e :: es) [] pos) (tCall sp [] E t) := by
  refine ⟨fun pins s σ H Q I h => wpAny_Call_Name_kw (ld_glob I hg hm ?_ hdb)⟩
  refine PySem.W.callWith_K (h₀ := X.base) I.ok.mod.kin hk (thn (ha.run pos pins s σ H _ I h) fun us s1 got => ?_) he hpl
  obtain ⟨vs, H1, I1, r, q⟩ := got
  rw [List.append_nil] at q
  exact ⟨I1.kIn, runG F hr hgu hb hx I1 r q⟩
end

section
/-- the law's own call, by such a promise -/
theorem law_callG {P : Program} {w : World} {K : PySem.W.Frag} {mg mb : Str → Option Value} {CX : CXT} {k : Nat} {fa a : Addr} {fd : FuncData} {x : Str} {sp : Sp} {t0 : Shared} {us : List Value} {ns : List Int}
    (KX : K.In t0.heap) (hns : t0.heap.Ns mainGlobals mg) (hb : t0.heap.Ns builtinsNs mb) (hbb : ∀ x : Str, x ≠ "__name__" → mb x = bootBuiltins x) (hlim : t0.heap.NoLimit) (hgen : t0.gens = #[])
    (ha : t0.heap.get? a = some { cls := .type "list", data := .seq us.toArray }) (hi : IntsAre us ns) (hl : ns.length ≤ sizeLine) (hr : Room k callerA)
    (F : ∀ base : Heap, K.In base → base.Ns mainGlobals mg → FnG P w K mg base CX k fa fd [x] sp) (hbind : ∀ (s : Shared) (u : Value), BindsTo s fd ⟨[u], []⟩ [(x, u)])
    (hsp : ∀ H : Hp, Only H → SqL K H a (ns.map V.int) → sp [.ref a] H (fun v _ => v = .bl true) fun _ _ _ => False)
    (hCX : ∀ H e s', CX [] H t0 (fun _ _ _ => False) e s' → False) :
    codeAny (model P w) callerA (.call (.ref fa) ⟨[.ref a], []⟩) (fun r s' => r = .ok (.ret (.bool true)) ∧ OldK t0.heap s'.heap ∧ s'.os = t0.os ∧ AllBare s'.gens) t0 := by
  have vals := vals_ints hi
  suffices main : ∀ G : Hp, Only G → SqL K G a (ns.map V.int) → HOk P w G t0.heap → (∀ b, G b ≠ none → b = a) → (G a ≠ none → K.lookup a = none) →
      codeAny (model P w) callerA (.call (.ref fa) ⟨[.ref a], []⟩) (fun r s' => r = .ok (.ret (.bool true)) ∧ OldK t0.heap s'.heap ∧ s'.os = t0.os ∧ AllBare s'.gens) t0 by
    cases hk : K.lookup a with
    | some o =>
      have eo := KX a o hk
      rw [ha] at eo
      cases eo
      refine main (fun _ => none) (fun _ => Or.inl rfl) (Or.inr ⟨_, us.toArray, _, hk, rfl, rfl, rfl, ?_, ?_⟩) (fun _ _ z => nomatch z) (fun _ z => absurd rfl z) (fun z => absurd rfl z)
      · rw [List.size_toArray, hi.length]; exact hl
      · simpa using vals
    | none =>
      have there : ∀ b : Addr, b = a → (fun b => if b = a then some (HO.frz { cls := .type "list", data := .seq us.toArray } (.lst (ns.map V.int))) else none) b = some (HO.frz { cls := .type "list", data := .seq us.toArray } (.lst (ns.map V.int))) := fun b e => if_pos e
      have away : ∀ b : Addr, b ≠ a → (fun b => if b = a then some (HO.frz { cls := .type "list", data := .seq us.toArray } (.lst (ns.map V.int))) else none) b = none := fun b e => if_neg e
      refine main (fun b => if b = a then some (HO.frz { cls := .type "list", data := .seq us.toArray } (.lst (ns.map V.int))) else none) (fun b => ?_) (Or.inl (Or.inr ⟨_, there a rfl⟩)) (fun b u z => ?_) (fun b z => ?_) fun _ => hk
      · exact (Classical.em (b = a)).elim (fun e => Or.inr ⟨_, _, there b e⟩) fun e => Or.inl (away b e)
      · cases Classical.em (b = a) with
        | inl e =>
          have z' := (there b e).symm.trans z
          cases z'
          subst e
          exact ⟨ha, by rw [List.length_map]; exact hl, us, _, vals, ha⟩
        | inr e => exact nomatch (away b e).symm.trans z
      · exact Classical.byContradiction fun e => z (away b e)
  intro G hO hS hok hA hK
  have free : ∀ {b : Addr} {o : Obj}, t0.heap.get? b = some o → (∀ es ep, o.data = .dict es ep → G b = none) := fun {b o} e es ep d => by
    cases q : G b with
    | none => rfl
    | some u =>
      cases hA b (by rw [q]; exact nofun)
      rw [ha] at e
      cases e
      exact nomatch (d : Data.seq us.toArray _ = Data.dict es ep)
  have spaces : ∀ {b : Addr} {m : Str → Option Value}, t0.heap.Ns b m → (hidT t0.heap G).Ns b m := fun {b m} h => by
    obtain ⟨o, es, ep, e, d, r⟩ := h
    exact ⟨o, es, ep, hidT_get e (free e es ep d), d, r⟩
  have KB : K.In (hidT t0.heap G) := fun b o e => hidT_get (KX b o e) (by
    cases q : G b with
    | none => rfl
    | some u =>
      cases hA b (by rw [q]; exact nofun)
      rw [hK (by rw [q]; exact nofun)] at e
      exact nomatch e)
  have e0 : Env0 P w K mg (hidT t0.heap G) callerA [] t0 G := by
    refine ⟨rfl, ⟨KB, spaces hns, ⟨mb, spaces hb, hbb⟩, ?_⟩, fun _ _ e => of_hidT e, Nat.le_of_eq (hidT_size _ _), trivial, fun b z => absurd (show b ∈ ([] : List Addr) from z) List.not_mem_nil, hok, .of_eq hgen⟩
    obtain ⟨mc, h1, h2⟩ := hlim
    exact ⟨mc, spaces h1, h2⟩
  refine codeAny_mono ((F _ KB (spaces hns)).run callerA [] t0 G ⟨[.ref a], []⟩ [.ref a] [.ref a] _ _ hr rfl e0 (hbind t0 (.ref a)) (.cons rfl .nil) (hsp G hO hS)) fun res s' h => ?_
  cases res with
  | error err => exact (hCX G err s' h).elim
  | ok fl => cases fl with
    | next => exact h.elim
    | brk => exact h.elim
    | cont => exact h.elim
    | ret u =>
      obtain ⟨v, G', os, bare, un, hok', rv, q⟩ := h
      cases (show v = .bl true from q)
      cases (show u = Value.bool true from rv)
      refine ⟨rfl, OldK.of_keep fun b o e => ?_, os, bare⟩
      cases hO b with
      | inl n => exact un.keep b o e n (fun z => absurd (show b ∈ ([] : List Addr) from z) List.not_mem_nil) List.not_mem_nil
      | inr z =>
        obtain ⟨ob, xs, z⟩ := z
        have k1 := (hok b _ z).1
        rw [e] at k1
        cases k1
        exact (hok' b _ (un.frzs b _ _ z)).1

theorem walk_ofG {l : PySem.W.OpenLaw} {n k : Nat} {q : Program} {loose : List Str} {XP : (Str → Option Value) → Heap → Prop} {YP : World → Heap → Prop} {d : DefRec} {CX : CXT} {x : Str}
    (hn : l.most = some n) (hn2 : n ≤ sizeLine) (hdf : d.params.defaults = []) (hr : Room k callerA)
    (F : ∀ (w : World) (mg : Str → Option Value) (fa : Addr) (h : Heap), YP w h → h.Ns mainGlobals mg → mg d.name = some (.ref fa) →
      ∃ (K : PySem.W.Frag) (fd : FuncData) (sp : Sp), K.In h ∧ (∀ (s : Shared) (u : Value), BindsTo s fd ⟨[u], []⟩ [(x, u)]) ∧
        (∀ (H : Hp) (a : Addr) (ns : List Int), ns.length ≤ n → Only H → SqL K H a (ns.map V.int) → sp [.ref a] H (fun v _ => v = .bl true) fun _ _ _ => False) ∧
        ∀ base : Heap, K.In base → base.Ns mainGlobals mg → FnG l.prog w K mg base CX k fa fd [x] sp)
    (hCX : ∀ (H : Hp) (s : Shared) (e : Value) (s' : Shared), CX [] H s (fun _ _ _ => False) e s' → False) :
    PySem.W.WalkO q loose XP YP l.row.toRowW d [] (fun f vs => PySem.call f vs) := by
  refine Att.attach_call hn hdf fun w t t0 mg mb fa o pm cd doc a us ns T Y _ _ _ hmg hobj hints hlen hgen => ?_
  obtain ⟨K, fd, sp, KX, hb, hsp, hF⟩ := F w mg fa _ Y T.T.g hmg
  exact law_callG KX T.T.g T.T.b T.T.builtins T.T.nolimit hgen hobj hints (Nat.le_trans hlen hn2) hr hF hb (fun H hO hS => hsp H a ns hlen hO hS) fun H e s' => hCX H t0 e s'
end
end Ow
/-! Fractions in lowest terms, as plain integers. -/
namespace Rm
def sg (b : Int) : Int := if 0 < b then 1 else -1
def byv (t b : Int) : Int := (Int.gcd t b : Int) * sg b
def low (t b : Int) : Int × Int := (t.fdiv (byv t b), b.fdiv (byv t b))
structure Lw (n d : Int) : Prop where
  pos : 0 < d
  cop : Int.gcd n d = 1

theorem sg_ne (b : Int) : sg b ≠ 0 := by unfold sg; split <;> omega
theorem gcd_pos {t b : Int} (hb : b ≠ 0) : 0 < Int.gcd t b := Int.gcd_pos_of_ne_zero_right t hb
theorem byv_ne {t b : Int} (hb : b ≠ 0) : byv t b ≠ 0 := by
  have h := gcd_pos (t := t) hb
  unfold byv sg
  split <;> omega
theorem byv_eq {t b : Int} (hb : b ≠ 0) : (if b < 0 then -(Int.gcd t b : Int) else (Int.gcd t b : Int)) = byv t b := by
  unfold byv sg
  by_cases h : b < 0
  · rw [if_pos h, if_neg (by omega)]; omega
  · rw [if_neg h, if_pos (by omega)]; omega
theorem byv_natAbs {t b : Int} : (byv t b).natAbs = Int.gcd t b := by
  unfold byv sg
  split <;> simp [Int.natAbs_mul]
theorem byv_le {t b : Int} (hb : b ≠ 0) : (byv t b).natAbs ≤ b.natAbs := by
  rw [byv_natAbs]
  exact Nat.le_of_dvd (by omega) (Nat.gcd_dvd_right _ _)
theorem byv_dvd_t (t b : Int) : byv t b ∣ t := by
  have h : (Int.gcd t b : Int) ∣ t := Int.gcd_dvd_left ..
  unfold byv sg
  split
  · rw [Int.mul_one]; exact h
  · rw [Int.mul_neg, Int.mul_one]; exact Int.neg_dvd.mpr h
theorem byv_dvd_b (t b : Int) : byv t b ∣ b := by
  have h : (Int.gcd t b : Int) ∣ b := Int.gcd_dvd_right ..
  unfold byv sg
  split
  · rw [Int.mul_one]; exact h
  · rw [Int.mul_neg, Int.mul_one]; exact Int.neg_dvd.mpr h
theorem fdiv_mul_of_dvd {t g : Int} (h : g ∣ t) : t.fdiv g * g = t := Int.fdiv_mul_cancel h
theorem low_t {t b : Int} : (low t b).1 * byv t b = t := fdiv_mul_of_dvd (byv_dvd_t t b)
theorem low_b {t b : Int} : (low t b).2 * byv t b = b := fdiv_mul_of_dvd (byv_dvd_b t b)
theorem low_lw (t : Int) {b : Int} (hb : b ≠ 0) : Lw (low t b).1 (low t b).2 := by
  have e1 := low_t (t := t) (b := b)
  have e2 := low_b (t := t) (b := b)
  have hg := gcd_pos (t := t) hb
  refine ⟨?_, ?_⟩
  · unfold byv sg at e2
    by_cases h : 0 < b
    · rw [if_pos h, Int.mul_one] at e2
      have : 0 < (low t b).2 * (Int.gcd t b : Int) := by rw [e2]; exact h
      exact Int.pos_of_mul_pos_left this (by omega) |> fun z => z
    · rw [if_neg h, Int.mul_neg, Int.mul_one, Int.mul_neg] at e2
      have : 0 < (low t b).2 * (Int.gcd t b : Int) := by omega
      exact Int.pos_of_mul_pos_left this (by omega)
  · have e : Int.gcd ((low t b).1 * byv t b) ((low t b).2 * byv t b) = Int.gcd t b := by rw [e1, e2]
    rw [Int.gcd_mul_right, byv_natAbs] at e
    exact Nat.eq_of_mul_eq_mul_right hg (by rw [e, Nat.one_mul])
theorem byv_lw {n d : Int} (h : Lw n d) : byv n d = 1 := by
  unfold byv sg
  rw [h.cop, if_pos h.pos]
  rfl
theorem low_id {n d : Int} (h : Lw n d) : low n d = (n, d) := by
  unfold low
  rw [byv_lw h, Int.fdiv_one, Int.fdiv_one]
theorem lw_int (n : Int) : Lw n 1 := ⟨by omega, by simp⟩
theorem low_int (n : Int) : low n 1 = (n, 1) := low_id (lw_int n)
theorem lw_neg {n d : Int} (h : Lw n d) : Lw (-n) d := ⟨h.pos, by rw [Int.neg_gcd]; exact h.cop⟩
theorem low_neg {n d : Int} (h : Lw n d) : low (-n) d = (-n, d) := low_id (lw_neg h)
theorem natAbs_le_mul {a g : Int} (hg : g ≠ 0) : a.natAbs ≤ (a * g).natAbs := by
  rw [Int.natAbs_mul]
  exact Nat.le_mul_of_pos_right _ (by omega)
theorem low_le1 (t : Int) {b : Int} (hb : b ≠ 0) : (low t b).1.natAbs ≤ t.natAbs := by
  have := natAbs_le_mul (a := (low t b).1) (byv_ne (t := t) hb)
  rw [low_t] at this
  exact this
theorem low_le2 (t : Int) {b : Int} (hb : b ≠ 0) : (low t b).2.natAbs ≤ b.natAbs := by
  have := natAbs_le_mul (a := (low t b).2) (byv_ne (t := t) hb)
  rw [low_b] at this
  exact this

/-! sums, differences, products of fractions -/
def plus (a b : Int × Int) : Int × Int := low (a.1 * b.2 + b.1 * a.2) (a.2 * b.2)
def minus (a b : Int × Int) : Int × Int := low (a.1 * b.2 - b.1 * a.2) (a.2 * b.2)
def times (a b : Int × Int) : Int × Int := low (a.1 * b.1) (a.2 * b.2)
def over (a b : Int × Int) : Int × Int := low (a.1 * b.2) (a.2 * b.1)

/-- below 2 ^ k -/
def Bd (k : Nat) (x : Int) : Prop := x.natAbs < 2 ^ k
theorem Bd.mono {j k : Nat} {x : Int} (h : Bd j x) (l : j ≤ k) : Bd k x := Nat.lt_of_lt_of_le h (Nat.pow_le_pow_right (by decide) l)
theorem Bd.neg {k : Nat} {x : Int} (h : Bd k x) : Bd k (-x) := by unfold Bd at *; rw [Int.natAbs_neg]; exact h
theorem Bd.mul {j k : Nat} {x y : Int} (h : Bd j x) (h' : Bd k y) : Bd (j + k) (x * y) := by
  unfold Bd at *
  rw [Int.natAbs_mul, Nat.pow_add]
  exact Nat.mul_lt_mul'' h h'
theorem Bd.add {k : Nat} {x y : Int} (h : Bd k x) (h' : Bd k y) : Bd (k + 1) (x + y) := by
  unfold Bd at *
  have := Int.natAbs_add_le x y
  rw [Nat.pow_succ]
  omega
theorem Bd.sub {k : Nat} {x y : Int} (h : Bd k x) (h' : Bd k y) : Bd (k + 1) (x - y) := by
  rw [Int.sub_eq_add_neg]
  exact h.add h'.neg
theorem Bd.le {k : Nat} {x y : Int} (h : Bd k y) (l : x.natAbs ≤ y.natAbs) : Bd k x := Nat.lt_of_le_of_lt l h
theorem Bd.log2 {k : Nat} {x : Int} (h : Bd k x) (hk : 0 < k) : x.natAbs.log2 < k := by
  unfold Bd at h
  by_cases h0 : x.natAbs = 0
  · rw [h0]; simpa using hk
  · exact (Nat.log2_lt h0).mpr h
theorem bd_low1 {k : Nat} {t b : Int} (hb : b ≠ 0) (h : Bd k t) : Bd k (low t b).1 := h.le (low_le1 t hb)
theorem bd_low2 {k : Nat} {t b : Int} (hb : b ≠ 0) (h : Bd k b) : Bd k (low t b).2 := h.le (low_le2 t hb)
theorem mul_ne {a b : Int} (ha : 0 < a) (hb : 0 < b) : a * b ≠ 0 := Int.ne_of_gt (Int.mul_pos ha hb)
theorem bd_one {k : Nat} (h : 0 < k) : Bd k 1 := by
  unfold Bd
  exact Nat.one_lt_two_pow (by omega)
theorem bd_zero {k : Nat} : Bd k 0 := by
  unfold Bd
  exact Nat.pow_pos (by decide)
end Rm
namespace Ra
open PySem PySem.Spec PyProof.Rows L2 Ow

/-! ### the text by places -/
def top (i : Nat) : Stmt := PySem.Challenge.pw_anypoints_k11_whole_ratios_by_rows_of_de.main.body.getD i (.Pass ⟨0, 0, 0, 0⟩)
abbrev sIsInt : Stmt := top 8
abbrev sAsRatio : Stmt := top 9
abbrev sInit : Stmt := inClass (top 10) 0
abbrev sTop : Stmt := inClass (top 10) 1
abbrev sBottom : Stmt := inClass (top 10) 2
abbrev sSign : Stmt := inClass (top 10) 3
abbrev sTotal : Stmt := inClass (top 10) 4
abbrev sAdd : Stmt := inClass (top 10) 5
abbrev sRadd : Stmt := inClass (top 10) 6
abbrev sSub : Stmt := inClass (top 10) 7
abbrev sRsub : Stmt := inClass (top 10) 8
abbrev sMul : Stmt := inClass (top 10) 9
abbrev sRmul : Stmt := inClass (top 10) 10
abbrev sNeg : Stmt := inClass (top 10) 11
abbrev sOver : Stmt := inClass (top 10) 12
abbrev sBelow : Stmt := inClass (top 10) 13
abbrev sEq : Stmt := inClass (top 10) 14
abbrev sStr : Stmt := inClass (top 10) 15
abbrev sRepr : Stmt := inClass (top 10) 16
abbrev FnP (K : PySem.W.Frag) (x qual : Str) (st : Stmt) (dvs : List V) (f : Addr) (fd : FuncData) : Prop := FunD K x qual (defArgs st) (defBody st) (defScope st) dvs [] f fd

/-! ### what a ratio looks like -/
theorem bt_ : ¬ (("_bottom" : Str) = "_top") := by decide +kernel
theorem tb_ : ¬ (("_top" : Str) = "_bottom") := by decide +kernel
def rf (n d : Int) : List (Str × V) := putF "_bottom" (.int d) (putF "_top" (.int n) [])
theorem rf_top (n d : Int) : (rf n d).lookup ("_top" : Str) = some (.int n) := by
  unfold rf; rw [lookup_putF, if_neg tb_, lookup_putF, if_pos rfl]
theorem rf_bottom (n d : Int) : (rf n d).lookup ("_bottom" : Str) = some (.int d) := by
  unfold rf; rw [lookup_putF, if_pos rfl]
theorem rf_no (n d : Int) {m : Str} (h1 : ¬ m = "_bottom") (h2 : ¬ m = "_top") : (rf n d).lookup m = none := by
  unfold rf; rw [lookup_putF, if_neg h1, lookup_putF, if_neg h2]; rfl
def RatAt (C : Addr) (H : Hp) (p : Addr) (n d : Int) : Prop := ∃ dx, H p = some (.ins C dx (rf n d))
theorem RatAt.same {C : Addr} {H H' : Hp} {p : Addr} {n d : Int} (h : RatAt C H p n d) (s : Same H H') : RatAt C H' p n d := by
  obtain ⟨dx, e⟩ := h
  exact ⟨dx, s _ _ e⟩

/-! ### what the walk asks of the class -/
structure RT (K : PySem.W.Frag) (mg : Str → Option Value) (C : Addr) : Prop where
  cl : Cls K C
  nT : NoAttr K C "_top"
  nB : NoAttr K C "_bottom"
  mgC : mg "Ratio" = some (.ref C)
  num : Num K C
  ca : PySem.W.findIn K (.ref C) "__class__" = some (some (.builtin "object.__class__"))
  cg : PySem.W.specialIn K (.builtin "object.__class__") "__get__" = some (some (.builtin "getset_descriptor.__get__"))
  ct : PySem.W.takesIn K (.builtin "object.__class__") = some true
  cm : PySem.W.mroIn K C (.type "object") = some true
  kCC : PySem.W.kitOne K (.ref C) (.ref C) = some true
  kIC : PySem.W.kitOne K (.type "int") (.ref C) = some false
  isi : mg "isinstance" = none
  int : mg "int" = none
  bool : mg "bool" = none
  str : mg "str" = none
  gcd : mg "gcd" = some (.builtin "math.gcd")

/-- a def that others call by its name -/
structure Dfn (P : Program) (w : World) (K : PySem.W.Frag) (mg : Str → Option Value) (base : Heap) (k : Nat) (x : Str) (ps : List Str) (sp : Sp) : Prop where
  ex : ∃ f fd, FnOk P w K mg base CX0 k f fd ps sp ∧ mg x = some (.ref f) ∧ PySem.W.keepIn K (.ref f) = true ∧ Binds K fd ps []
theorem pe_use {X : Cx} {k : Nat} {x : Str} {ps : List Str} {sp : Sp} {p pos : Pos} {e : Expr} {es : List Expr} {t : TA} (D : Dfn X.prog X.w X.K X.mg X.base k x ps sp) (hr : Room k X.A) (hg : Gl X x) (ha : PA X (e :: es) t)
    (hdb : (x == ("__debug__" : Str)) = false := by decide) (he : starEach (e :: es) X.env = (false, eval e X.env) :: starEach es X.env := by rfl) (hpl : (backTo pos (starEach es X.env)).any (·.1) = false := by rfl) :
    PE X (.Call (.Name x p) (e :: es) [] pos) (tCall sp [] E0 t) := by
  obtain ⟨f, fd, F, hm, hk, hb⟩ := D.ex
  exact pe_call F hr hg hm hk hb .nil pass0 ha hdb he hpl

section
variable {P : Program} {w : World} {K : PySem.W.Frag} {mg : Str → Option Value} {base : Heap}

/-! ### is_integer -/
def spInt (K : PySem.W.Frag) : Sp := fun vs H Q _ => ∃ (x : V) (t : Value) (a b : Bool), vs = [x] ∧ TyX K H x t ∧ PySem.W.kitOne K t (.type "int") = some a ∧ PySem.W.kitOne K t (.type "bool") = some b ∧ Q (.bl (a && !b)) H
theorem scInt : FnScope ["value"] ["value"] (defScope sIsInt) := ⟨rfl, rfl, rfl, by decide +kernel, rfl, by decide +kernel, by decide +kernel⟩
theorem ok_isint {f C : Addr} {fd : FuncData} (F : FnP K "is_integer" "is_integer" sIsInt [] f fd) (T : RT K mg C) : FnOk P w K mg base CX0 1 f fd ["value"] (spInt K) := by
  refine F.ok scInt (fun vs H Q E h => ?_) (fun cdv A outer s H vs Q E hr h => ?_)
  · obtain ⟨x, t, a, b, rfl, _⟩ := h
    rfl
  · obtain ⟨x, t, a, b, rfl, ty, ha, hb, q⟩ := h
    refine ⟨_, PSs.nox (pss_one (ps_ret (pe_and (pe_callB call_isi (by rfl) T.isi boot_isinstance (pa_cons (pv 0) (pa_cons (pe_bltn (v := .ty "int") rfl T.int PyProof.Rows.boot_int rfl) pa_nil)))
      (pe_one (pe_not (pe_callB call_isi (by rfl) T.isi boot_isinstance (pa_cons (pv 0) (pa_cons (pe_bltn (v := .ty "bool") rfl T.bool PyProof.Rows.boot_bool rfl) pa_nil)))))))), ?_⟩
    refine ⟨_, rfl, x, .ty "int", t, _, a, rfl, .ty _, ty, ha, a, rfl, ?_⟩
    cases a with
    | false => exact q
    | true => exact ⟨_, rfl, x, .ty "bool", t, _, b, rfl, .ty _, ty, hb, b, rfl, q⟩
theorem kII : PySem.W.kitOne K (.type "int") (.type "int") = some true := kit_ty (by decide +kernel)
theorem kIB : PySem.W.kitOne K (.type "int") (.type "bool") = some false := kit_ty (by decide +kernel)
end
end Ra
namespace Ra
open PySem PySem.Spec PyProof.Rows L2 Ow Rm

/-- // by an integer of either sign -/
def CDivZ (_ j : Int) : Prop := j ≠ 0 ∧ j.natAbs.log2 < 9000
section
variable {X : Cx}
theorem op_fdivZ : OpR X (binaryOp .FloorDiv) (rI CDivZ fun i j => .int (i.fdiv j)) := opI fun i j _ _ _ _ _ hc q => floordiv_int hc.1 q (.inl (PyProof.noPylong_of_log2 hc.2))
theorem cdivZ {t b : Int} {k : Nat} (hb : b ≠ 0) (h : Bd k b) (h0 : 0 < k) (h9 : k ≤ 9000) : CDivZ t (byv t b) :=
  ⟨byv_ne hb, Nat.lt_of_lt_of_le (Bd.log2 (h.le (byv_le hb)) h0) h9⟩
theorem cdivZ' {x t b : Int} {k : Nat} (hb : b ≠ 0) (h : Bd k b) (h0 : 0 < k) (h9 : k ≤ 9000) : CDivZ x (byv t b) :=
  ⟨byv_ne hb, Nat.lt_of_lt_of_le (Bd.log2 (h.le (byv_le hb)) h0) h9⟩
end

section
variable {P : Program} {w : World} {K : PySem.W.Frag} {mg : Str → Option Value} {base : Heap}
abbrev DInt (P : Program) (w : World) (K : PySem.W.Frag) (mg : Str → Option Value) (base : Heap) : Prop := Dfn P w K mg base 1 "is_integer" ["value"] (spInt K)

/-! ### Ratio(n, d) -/
def spInit (C : Addr) : Sp := fun vs H Q _ => ∃ (p dx : Addr) (n d : Int), vs = [.ref p, .int n, .int d] ∧ d ≠ 0 ∧ Bd 8000 d ∧ H p = some (.ins C dx []) ∧ Q .non (upd H p (.ins C dx (rf (low n d).1 (low n d).2)))
theorem scInit : FnScope ["self", "top", "bottom", "shared"] ["self", "top", "bottom"] (defScope sInit) := ⟨rfl, rfl, rfl, by decide +kernel, rfl, by decide +kernel, by decide +kernel⟩
theorem ok_init {f C : Addr} {fd : FuncData} (F : FnP K "__init__" "Ratio.__init__" sInit [.int 1] f fd) (T : RT K mg C) (D : DInt P w K mg base) : FnOk P w K mg base CX0 2 f fd ["self", "top", "bottom"] (spInit C) := by
  refine F.ok scInit (fun vs H Q E h => ?_) (fun cdv A outer s H vs Q E hr h => ?_)
  · obtain ⟨p, dx, n, d, rfl, _⟩ := h
    rfl
  · obtain ⟨p, dx, n, d, rfl, hd, hb, hp, q⟩ := h
    have ne0 : decide (V.int d = V.int 0) = false := decide_eq_false fun z => hd (by cases z; rfl)
    refine ⟨_, PSs.nox (pss_cons (ps_if (pt_not (pt_val (pe_use D hr rfl (pa_cons (pv 1) pa_nil)))) pss_never pss_nil)
      (pss_cons (ps_if (PW.pt (pw_or (pt_not (pt_val (pe_use D hr rfl (pa_cons (pv 2) pa_nil)))) (pw_or1 (pt_cmpR op_eq (pv 2) pe_int (nomark _))))) pss_never pss_nil)
      (pss_cons (ps_set (i := 3) scInit.nd rfl (Or.inl rfl) (pe_callBfun cr_gcd rfl T.gcd (pa_cons (pv 1) (pa_cons (pv 2) pa_nil))))
      (pss_cons (ps_if (pt_cmpR op_lt (pv 2) pe_int (nomark _)) (pss_one (ps_set (i := 3) scInit.nd rfl (Or.inl rfl) (pe_un un_neg (pv 3)))) pss_nil)
      (pss_cons (ps_fld (pv 0) (pe_op op_fdivZ (pv 1) (pv 3)) rfl)
      (pss_one (ps_fld (pv 0) (pe_op op_fdivZ (pv 2) (pv 3)) rfl))))))), ?_⟩
    have fin : ∀ g : Int, g = byv n d → (tSeq (sFld K (tVar 0) (tOp (rI CDivZ fun i j => .int (i.fdiv j)) (tVar 1) (tVar 3)) "_top") (sFld K (tVar 0) (tOp (rI CDivZ fun i j => .int (i.fdiv j)) (tVar 2) (tVar 3)) "_bottom"))
        { nx := fun _ H' => Q .non H', rt := Q } [some (.ref p), some (.int n), some (.int d), some (.int g)] H := by
      rintro g rfl
      refine ⟨_, rfl, _, rfl, _, _, rfl, rfl, cdivZ' hd hb (by decide) (by decide), _, rfl, p, C, dx, [], rfl, hp, T.cl, T.nT, (by show 0 < 1000; decide), ?_⟩
      refine ⟨_, rfl, _, rfl, _, _, rfl, rfl, cdivZ' hd hb (by decide) (by decide), _, rfl, p, C, dx, _, rfl, upd_same, T.cl, T.nB, (by show 1 < 1000; decide), ?_⟩
      rw [upd_upd]
      exact q
    refine ⟨_, rfl, ?_⟩
    refine ⟨_, .type "int", true, false, rfl, .base (.int _), kII, kIB, true, rfl, ?_⟩
    refine iteF ?_
    refine ⟨_, rfl, ?_⟩
    refine ⟨_, .type "int", true, false, rfl, .base (.int _), kII, kIB, true, rfl, ?_⟩
    refine iteF ?_
    refine ⟨_, rfl, rfl, _, rfl, ?_⟩
    rw [ne0]
    refine iteF ?_
    refine ⟨_, rfl, _, rfl, n, d, rfl, ?_⟩
    refine ⟨_, rfl, _, _, rfl, rfl, _, rfl, ?_⟩
    have hg := byv_eq (t := n) hd
    refine ite2 (fun c => ?_) (fun c => ?_)
    · have c' : d < 0 := of_decide_eq_true c
      rw [if_pos c'] at hg
      exact ⟨_, rfl, _, rfl, fin _ hg⟩
    · have c' : ¬ d < 0 := fun z => c (decide_eq_true z)
      rw [if_neg c'] at hg
      exact fin _ hg
end
end Ra
namespace Ra
open PySem PySem.Spec PyProof.Rows L2 Ow Rm

/-- a number: a ratio, or an integer -/
def NumAt (C : Addr) (H : Hp) (v : V) (n d : Int) : Prop := (∃ p, v = .ref p ∧ RatAt C H p n d) ∨ (v = .int n ∧ d = 1)
theorem NumAt.same {C : Addr} {H H' : Hp} {v : V} {n d : Int} (h : NumAt C H v n d) (s : Same H H') : NumAt C H' v n d := by
  rcases h with ⟨p, e, r⟩ | ⟨e, r⟩
  · exact .inl ⟨p, e, r.same s⟩
  · exact .inr ⟨e, r⟩
theorem same_upd {H : Hp} {p : Addr} {o : HO} (h : H p = none) : Same H (upd H p o) := fun b u e => by
  rw [upd_ne (ne_of_none e h)]
  exact e

/-- Ratio(..), as others make it -/
structure RMk (P : Program) (w : World) (K : PySem.W.Frag) (mg : Str → Option Value) (base : Heap) (C : Addr) : Prop where
  ex : ∃ f fd, Mk K C f ∧ FnOk P w K mg base CX0 2 f fd ["self", "top", "bottom"] (spInit C) ∧ Binds K fd ["self", "top", "bottom"] [] ∧ (∃ ds, Vals [V.int 1] ds ∧ Binds K fd ["self", "top", "bottom"] ds) ∧
    (∃ g gV, KBn K fd ["self", "top", "bottom"] 1 ["bottom", "top"] g gV ∧ ∀ a b c, gV [a] [b, c] = [a, c, b])
/-- a property, as others read it -/
structure Prp (P : Program) (w : World) (K : PySem.W.Frag) (mg : Str → Option Value) (base : Heap) (C : Addr) (x : Str) (sp : Sp) : Prop where
  ex : ∃ p g fd, PropOf K C x p g ∧ FnOk P w K mg base CX0 1 g fd ["self"] sp ∧ Binds K fd ["self"] []
def spTop (C : Addr) : Sp := fun vs H Q _ => ∃ p n d, vs = [.ref p] ∧ RatAt C H p n d ∧ Q (.int n) H
def spBottom (C : Addr) : Sp := fun vs H Q _ => ∃ p n d, vs = [.ref p] ∧ RatAt C H p n d ∧ Q (.int d) H
def spSign (C : Addr) : Sp := fun vs H Q _ => ∃ p n d, vs = [.ref p] ∧ RatAt C H p n d ∧ Q (.int n.sign) H

section
variable {X : Cx} {C : Addr} {x : Str} {sp : Sp} {p pos : Pos} {e e2 : Expr} {t : TA} {ta tb : TE}
theorem pe_rat2 (M : RMk X.prog X.w X.K X.mg X.base C) (hr : Room 3 X.A) (hg : Gl X "Ratio") (hm : X.mg "Ratio" = some (.ref C)) (ha : PE X e ta) (hb : PE X e2 tb)
    (he : starEach [e, e2] X.env = (false, eval e X.env) :: starEach [e2] X.env := by rfl) (he2 : starEach [e2] X.env = (false, eval e2 X.env) :: starEach [] X.env := by rfl) (hpl : (backTo pos (starEach [e2] X.env)).any (·.1) = false := by rfl) :
    PE X (.Call (.Name "Ratio" p) [e, e2] [] pos) (tMake C (spInit C) [] E0 (tCons ta (tCons tb tNil))) := by
  obtain ⟨f, fd, m, F, b2, _, _⟩ := M.ex
  exact pe_make m F hr hg hm b2 .nil pass0 (pa_cons ha (pa_cons hb pa_nil he2) he) (by decide) he hpl
theorem pe_rat1 (M : RMk X.prog X.w X.K X.mg X.base C) (hr : Room 3 X.A) (hg : Gl X "Ratio") (hm : X.mg "Ratio" = some (.ref C)) (ha : PE X e ta)
    (he : starEach [e] X.env = (false, eval e X.env) :: starEach [] X.env := by rfl) (hpl : (backTo pos (starEach [] X.env)).any (·.1) = false := by rfl) :
    PE X (.Call (.Name "Ratio" p) [e] [] pos) (tMake C (spInit C) [.int 1] E0 (tCons ta tNil)) := by
  obtain ⟨f, fd, m, F, _, ⟨ds, hv, b1⟩, _⟩ := M.ex
  exact pe_make m F hr hg hm b1 hv pass0 (pa_cons ha pa_nil he) (by decide) he hpl
theorem pe_prp (D : Prp X.prog X.w X.K X.mg X.base C x sp) (he : PE X e ta) (c : Cls X.K C) (hr : Room 2 X.A) (hab : attributeBase e x X.env (eval e X.env) = eval e X.env) : PE X (.Attribute e x pos) (tProp C sp [] E0 ta) := by
  obtain ⟨p, g, fd, hp, F, hb⟩ := D.ex
  exact pe_prop he c hp F hr hb .nil pass0 hab
end

/-- a new ratio, as its maker reads it -/
theorem rat_new {C : Addr} {H : Hp} {n d : Int} {Q : Addr → Hp → Prop} (hd : d ≠ 0) (hb : Bd 8000 d) (q : ∀ p H', RatAt C H' p (low n d).1 (low n d).2 → Same H H' → H p = none → Q p H') :
    ∀ x dx, H x = none → H dx = none → dx ≠ x → spInit C [.ref x, .int n, .int d] (upd (upd H dx (.own x)) x (.ins C dx [])) (fun v H2 => v = .non ∧ Q x H2) E0 := by
  intro x dx hx hdx ne
  refine ⟨x, dx, n, d, rfl, hd, hb, upd_same, rfl, ?_⟩
  refine q x _ ⟨dx, upd_same⟩ (fun b o e => ?_) hx
  rw [upd_upd, upd_ne (ne_of_none e hx), upd_ne (ne_of_none e hdx)]
  exact e

section
variable {P : Program} {w : World} {K : PySem.W.Frag} {mg : Str → Option Value} {base : Heap}

/-! ### properties -/
theorem scTop : FnScope ["self"] ["self"] (defScope sTop) := ⟨rfl, rfl, rfl, by decide +kernel, rfl, by decide +kernel, by decide +kernel⟩
theorem scBottom : FnScope ["self"] ["self"] (defScope sBottom) := ⟨rfl, rfl, rfl, by decide +kernel, rfl, by decide +kernel, by decide +kernel⟩
theorem scSign : FnScope ["self"] ["self"] (defScope sSign) := ⟨rfl, rfl, rfl, by decide +kernel, rfl, by decide +kernel, by decide +kernel⟩
theorem ok_top {f C : Addr} {fd : FuncData} (F : FnP K "top" "Ratio.top" sTop [] f fd) (T : RT K mg C) : FnOk P w K mg base CX0 1 f fd ["self"] (spTop C) := by
  refine F.ok scTop (fun vs H Q E h => ?_) (fun cdv A outer s H vs Q E hr h => ?_)
  · obtain ⟨p, n, d, rfl, _⟩ := h
    rfl
  · obtain ⟨p, n, d, rfl, ⟨dx, hp⟩, q⟩ := h
    exact ⟨_, PSs.nox (pss_one (ps_ret (pe_fld (pv 0) rfl))), _, rfl, p, C, dx, _, _, rfl, hp, T.cl, T.nT, rf_top _ _, q⟩
theorem ok_bottom {f C : Addr} {fd : FuncData} (F : FnP K "bottom" "Ratio.bottom" sBottom [] f fd) (T : RT K mg C) : FnOk P w K mg base CX0 1 f fd ["self"] (spBottom C) := by
  refine F.ok scBottom (fun vs H Q E h => ?_) (fun cdv A outer s H vs Q E hr h => ?_)
  · obtain ⟨p, n, d, rfl, _⟩ := h
    rfl
  · obtain ⟨p, n, d, rfl, ⟨dx, hp⟩, q⟩ := h
    exact ⟨_, PSs.nox (pss_one (ps_ret (pe_fld (pv 0) rfl))), _, rfl, p, C, dx, _, _, rfl, hp, T.cl, T.nB, rf_bottom _ _, q⟩
theorem ok_sign {f C : Addr} {fd : FuncData} (F : FnP K "sign" "Ratio.sign" sSign [] f fd) (T : RT K mg C) : FnOk P w K mg base CX0 1 f fd ["self"] (spSign C) := by
  refine F.ok scSign (fun vs H Q E h => ?_) (fun cdv A outer s H vs Q E hr h => ?_)
  · obtain ⟨p, n, d, rfl, _⟩ := h
    rfl
  · obtain ⟨p, n, d, rfl, ⟨dx, hp⟩, q⟩ := h
    refine ⟨_, PSs.nox (pss_cons (ps_if (pt_cmpR op_lt (pe_fld (pv 0) rfl) pe_int (nomark _)) (pss_one (ps_ret (pe_un un_neg pe_int))) pss_nil)
      (pss_cons (ps_if (pt_cmpR op_gt (pe_fld (pv 0) rfl) pe_int (nomark _)) (pss_one (ps_ret pe_int)) pss_nil)
      (pss_one (ps_ret pe_int)))), ?_⟩
    refine ⟨_, rfl, p, C, dx, _, _, rfl, hp, T.cl, T.nT, rf_top _ _, _, _, rfl, rfl, _, rfl, ?_⟩
    refine ite2 (fun c => ?_) (fun c => ?_)
    · have c' : n < 0 := of_decide_eq_true c
      refine ⟨_, rfl, ?_⟩
      rw [Int.sign_eq_neg_one_of_neg c'] at q
      exact q
    · have c' : ¬ n < 0 := fun z => c (decide_eq_true z)
      refine ⟨_, rfl, p, C, dx, _, _, rfl, hp, T.cl, T.nT, rf_top _ _, _, _, rfl, rfl, _, rfl, ?_⟩
      refine ite2 (fun e => ?_) (fun e => ?_)
      · have e' : 0 < n := of_decide_eq_true e
        rw [Int.sign_eq_one_of_pos e'] at q
        exact q
      · have e' : ¬ 0 < n := fun z => e (decide_eq_true z)
        have e0 : n = 0 := by omega
        rw [e0] at q
        exact q

/-! ### as_ratio -/
def spAs (C : Addr) : Sp := fun vs H Q _ => ∃ v n d, vs = [v] ∧ NumAt C H v n d ∧ ∀ q H', RatAt C H' q n d → Same H H' → Q (.ref q) H'
theorem scAs : FnScope ["value"] ["value"] (defScope sAsRatio) := ⟨rfl, rfl, rfl, by decide +kernel, rfl, by decide +kernel, by decide +kernel⟩
theorem ok_as {f C : Addr} {fd : FuncData} (F : FnP K "as_ratio" "as_ratio" sAsRatio [] f fd) (T : RT K mg C) (M : RMk P w K mg base C) : FnOk P w K mg base CX0 4 f fd ["value"] (spAs C) := by
  refine F.ok scAs (fun vs H Q E h => ?_) (fun cdv A outer s H vs Q E hr h => ?_)
  · obtain ⟨v, n, d, rfl, _⟩ := h
    rfl
  · obtain ⟨v, n, d, rfl, hv, q⟩ := h
    refine ⟨_, PSs.nox (pss_cons (ps_if (pt_val (pe_callB call_isi (by rfl) T.isi boot_isinstance (pa_cons (pv 0) (pa_cons (pe_glob (v := .ref C) rfl T.mgC rfl) pa_nil)))) (pss_one (ps_ret (pv 0))) pss_nil)
      (pss_one (ps_ret (pe_rat1 M hr rfl T.mgC (pv 0))))), ?_⟩
    rcases hv with ⟨p, rfl, ⟨dx, hp⟩⟩ | ⟨rfl, rfl⟩
    · refine ⟨_, rfl, _, .ref C, .ref C, _, true, rfl, .own C, .base (.ins hp T.cl T.ca T.cg T.ct T.cm), T.kCC, true, rfl, ?_⟩
      refine iteT ?_
      exact ⟨_, rfl, q p H ⟨dx, hp⟩ (Same.refl H)⟩
    · refine ⟨_, rfl, _, .ref C, .type "int", _, false, rfl, .own C, .base (.int n), T.kIC, false, rfl, ?_⟩
      refine iteF ?_
      refine ⟨_, rfl, ?_⟩
      refine rat_new (by decide) (bd_one (by decide)) fun p H' r sm _ => ?_
      rw [low_int] at r
      exact q p H' r sm
end
end Ra
namespace Ra
open PySem PySem.Spec PyProof.Rows L2 Ow Rm

/-- a number in lowest terms, not too great -/
structure Nm (C : Addr) (H : Hp) (v : V) (n d : Int) : Prop where
  at_ : NumAt C H v n d
  lw : Lw n d
  b1 : Bd 2500 n
  b2 : Bd 2500 d
theorem Nm.same {C : Addr} {H H' : Hp} {v : V} {n d : Int} (h : Nm C H v n d) (s : Same H H') : Nm C H' v n d := ⟨h.at_.same s, h.lw, h.b1, h.b2⟩
theorem Nm.rat {C : Addr} {H : Hp} {p : Addr} {n d : Int} (h : Nm C H (.ref p) n d) : RatAt C H p n d := by
  rcases h.at_ with ⟨q, e, r⟩ | ⟨e, _⟩
  · cases e
    exact r
  · exact nomatch e
theorem cmul {j k : Nat} {x y : Int} (h : Bd j x) (h' : Bd k y) (hj : 0 < j := by decide) (hk : 0 < k := by decide) (l : j + k ≤ 1000000 := by decide) : CMulW x y := by
  have a := h.log2 hj
  have b := h'.log2 hk
  unfold CMulW
  omega
def spBin (op : Int × Int → Int × Int → Int × Int) (C : Addr) : Sp := fun vs H Q _ => ∃ p v n d m e, vs = [.ref p, v] ∧ Nm C H (.ref p) n d ∧ Nm C H v m e ∧
  ∀ q H', RatAt C H' q (op (n, d) (m, e)).1 (op (n, d) (m, e)).2 → Same H H' → Q (.ref q) H'
def spNeg (C : Addr) : Sp := fun vs H Q _ => ∃ p n d, vs = [.ref p] ∧ Nm C H (.ref p) n d ∧ ∀ q H', RatAt C H' q (-n) d → Same H H' → Q (.ref q) H'

section
variable {P : Program} {w : World} {K : PySem.W.Frag} {mg : Str → Option Value} {base : Heap}
abbrev DAs (P : Program) (w : World) (K : PySem.W.Frag) (mg : Str → Option Value) (base : Heap) (C : Addr) : Prop := Dfn P w K mg base 4 "as_ratio" ["value"] (spAs C)
abbrev PT_ (P : Program) (w : World) (K : PySem.W.Frag) (mg : Str → Option Value) (base : Heap) (C : Addr) : Prop := Prp P w K mg base C "top" (spTop C)
abbrev PB_ (P : Program) (w : World) (K : PySem.W.Frag) (mg : Str → Option Value) (base : Heap) (C : Addr) : Prop := Prp P w K mg base C "bottom" (spBottom C)
abbrev PS_ (P : Program) (w : World) (K : PySem.W.Frag) (mg : Str → Option Value) (base : Heap) (C : Addr) : Prop := Prp P w K mg base C "sign" (spSign C)

theorem scAdd : FnScope ["self", "other", "right", "top"] ["self", "other"] (defScope sAdd) := ⟨rfl, rfl, rfl, by decide +kernel, rfl, by decide +kernel, by decide +kernel⟩
theorem ok_add {f C : Addr} {fd : FuncData} (F : FnP K "__add__" "Ratio.__add__" sAdd [] f fd) (T : RT K mg C) (M : RMk P w K mg base C) (D : DAs P w K mg base C) (pT : PT_ P w K mg base C) (pB : PB_ P w K mg base C) :
    FnOk P w K mg base CX0 5 f fd ["self", "other"] (spBin plus C) := by
  refine F.ok scAdd (fun vs H Q E h => ?_) (fun cdv A outer s H vs Q E hr h => ?_)
  · obtain ⟨p, v, n, d, m, e, rfl, _⟩ := h
    rfl
  · obtain ⟨p, v, n, d, m, e, rfl, hp, hv, q⟩ := h
    have hr2 := hr.mono (by decide : 2 ≤ 4)
    have hr3 := hr.mono (by decide : 3 ≤ 4)
    refine ⟨_, PSs.nox (pss_cons (ps_set (i := 2) scAdd.nd rfl (Or.inl rfl) (pe_use D hr rfl (pa_cons (pv 1) pa_nil)))
      (pss_cons (ps_set (i := 3) scAdd.nd rfl (Or.inl rfl) (pe_op op_add (pe_op op_mulW (pe_fld (pv 0) rfl) (pe_prp pB (pv 2) T.cl hr2 rfl)) (pe_op op_mulW (pe_prp pT (pv 2) T.cl hr2 rfl) (pe_fld (pv 0) rfl))))
      (pss_one (ps_ret (pe_rat2 M hr3 rfl T.mgC (pv 3) (pe_op op_mulW (pe_fld (pv 0) rfl) (pe_prp pB (pv 2) T.cl hr2 rfl))))))), ?_⟩
    refine ⟨_, rfl, v, m, e, rfl, hv.at_, fun r H1 hr1 s1 => ?_⟩
    obtain ⟨dx, h1⟩ := (hp.rat.same s1)
    obtain ⟨dy, h2⟩ := id hr1
    refine ⟨_, rfl, p, C, dx, _, _, rfl, h1, T.cl, T.nT, rf_top _ _, _, rfl, r, dy, _, rfl, h2, r, m, e, rfl, hr1, _, _, rfl, rfl, cmul hp.b1 hv.b2, ?_⟩
    refine ⟨_, rfl, r, dy, _, rfl, h2, r, m, e, rfl, hr1, _, rfl, p, C, dx, _, _, rfl, h1, T.cl, T.nB, rf_bottom _ _, _, _, rfl, rfl, cmul hv.b1 hp.b2, _, _, rfl, rfl, ?_⟩
    refine ⟨_, rfl, _, rfl, p, C, dx, _, _, rfl, h1, T.cl, T.nB, rf_bottom _ _, _, rfl, r, dy, _, rfl, h2, r, m, e, rfl, hr1, _, _, rfl, rfl, cmul hp.b2 hv.b2, ?_⟩
    exact rat_new (mul_ne hp.lw.pos hv.lw.pos) ((hp.b2.mul hv.b2).mono (by decide)) fun z H2 hz s2 _ => q z H2 hz (s1.trans s2)

theorem scMul : FnScope ["self", "other", "right"] ["self", "other"] (defScope sMul) := ⟨rfl, rfl, rfl, by decide +kernel, rfl, by decide +kernel, by decide +kernel⟩
theorem ok_mul {f C : Addr} {fd : FuncData} (F : FnP K "__mul__" "Ratio.__mul__" sMul [] f fd) (T : RT K mg C) (M : RMk P w K mg base C) (D : DAs P w K mg base C) (pT : PT_ P w K mg base C) (pB : PB_ P w K mg base C) :
    FnOk P w K mg base CX0 5 f fd ["self", "other"] (spBin times C) := by
  refine F.ok scMul (fun vs H Q E h => ?_) (fun cdv A outer s H vs Q E hr h => ?_)
  · obtain ⟨p, v, n, d, m, e, rfl, _⟩ := h
    rfl
  · obtain ⟨p, v, n, d, m, e, rfl, hp, hv, q⟩ := h
    have hr2 := hr.mono (by decide : 2 ≤ 4)
    have hr3 := hr.mono (by decide : 3 ≤ 4)
    refine ⟨_, PSs.nox (pss_cons (ps_set (i := 2) scMul.nd rfl (Or.inl rfl) (pe_use D hr rfl (pa_cons (pv 1) pa_nil)))
      (pss_one (ps_ret (pe_rat2 M hr3 rfl T.mgC (pe_op op_mulW (pe_fld (pv 0) rfl) (pe_prp pT (pv 2) T.cl hr2 rfl)) (pe_op op_mulW (pe_fld (pv 0) rfl) (pe_prp pB (pv 2) T.cl hr2 rfl)))))), ?_⟩
    refine ⟨_, rfl, v, m, e, rfl, hv.at_, fun r H1 hr1 s1 => ?_⟩
    obtain ⟨dx, h1⟩ := (hp.rat.same s1)
    obtain ⟨dy, h2⟩ := id hr1
    refine ⟨_, rfl, p, C, dx, _, _, rfl, h1, T.cl, T.nT, rf_top _ _, _, rfl, r, dy, _, rfl, h2, r, m, e, rfl, hr1, _, _, rfl, rfl, cmul hp.b1 hv.b1, ?_⟩
    refine ⟨_, rfl, p, C, dx, _, _, rfl, h1, T.cl, T.nB, rf_bottom _ _, _, rfl, r, dy, _, rfl, h2, r, m, e, rfl, hr1, _, _, rfl, rfl, cmul hp.b2 hv.b2, ?_⟩
    exact rat_new (mul_ne hp.lw.pos hv.lw.pos) ((hp.b2.mul hv.b2).mono (by decide)) fun z H2 hz s2 _ => q z H2 hz (s1.trans s2)

theorem scNeg : FnScope ["self"] ["self"] (defScope sNeg) := ⟨rfl, rfl, rfl, by decide +kernel, rfl, by decide +kernel, by decide +kernel⟩
theorem ok_neg {f C : Addr} {fd : FuncData} (F : FnP K "__neg__" "Ratio.__neg__" sNeg [] f fd) (T : RT K mg C) (M : RMk P w K mg base C) : FnOk P w K mg base CX0 4 f fd ["self"] (spNeg C) := by
  refine F.ok scNeg (fun vs H Q E h => ?_) (fun cdv A outer s H vs Q E hr h => ?_)
  · obtain ⟨p, n, d, rfl, _⟩ := h
    rfl
  · obtain ⟨p, n, d, rfl, hp, q⟩ := h
    refine ⟨_, PSs.nox (pss_one (ps_ret (pe_rat2 M hr rfl T.mgC (pe_un un_neg (pe_fld (pv 0) rfl)) (pe_fld (pv 0) rfl)))), ?_⟩
    obtain ⟨dx, h1⟩ := hp.rat
    refine ⟨_, rfl, p, C, dx, _, _, rfl, h1, T.cl, T.nT, rf_top _ _, _, rfl, _, rfl, p, C, dx, _, _, rfl, h1, T.cl, T.nB, rf_bottom _ _, ?_⟩
    refine rat_new (by have := hp.lw.pos; omega) (hp.b2.mono (by decide)) fun z H2 hz s2 _ => ?_
    rw [low_neg hp.lw] at hz
    exact q z H2 hz s2

theorem scOver : FnScope ["self", "other", "right"] ["self", "other"] (defScope sOver) := ⟨rfl, rfl, rfl, by decide +kernel, rfl, by decide +kernel, by decide +kernel⟩
/-- over: by a number that is not 0 -/
def spOver (C : Addr) : Sp := fun vs H Q _ => ∃ p v n d m e, vs = [.ref p, v] ∧ Nm C H (.ref p) n d ∧ Nm C H v m e ∧ m ≠ 0 ∧
  ∀ q H', RatAt C H' q (over (n, d) (m, e)).1 (over (n, d) (m, e)).2 → Same H H' → Q (.ref q) H'
theorem ok_over {f C : Addr} {fd : FuncData} (F : FnP K "over" "Ratio.over" sOver [] f fd) (T : RT K mg C) (M : RMk P w K mg base C) (D : DAs P w K mg base C) (pT : PT_ P w K mg base C) (pB : PB_ P w K mg base C) (pS : PS_ P w K mg base C) :
    FnOk P w K mg base CX0 5 f fd ["self", "other"] (spOver C) := by
  refine F.ok scOver (fun vs H Q E h => ?_) (fun cdv A outer s H vs Q E hr h => ?_)
  · obtain ⟨p, v, n, d, m, e, rfl, _⟩ := h
    rfl
  · obtain ⟨p, v, n, d, m, e, rfl, hp, hv, hm, q⟩ := h
    have hr2 := hr.mono (by decide : 2 ≤ 4)
    have hr3 := hr.mono (by decide : 3 ≤ 4)
    refine ⟨_, PSs.nox (pss_cons (ps_set (i := 2) scOver.nd rfl (Or.inl rfl) (pe_use D hr rfl (pa_cons (pv 1) pa_nil)))
      (pss_cons (ps_if (pt_cmpR op_eq (pe_prp pS (pv 2) T.cl hr2 rfl) pe_int (nomark _)) pss_never pss_nil)
      (pss_one (ps_ret (pe_rat2 M hr3 rfl T.mgC (pe_op op_mulW (pe_fld (pv 0) rfl) (pe_prp pB (pv 2) T.cl hr2 rfl)) (pe_op op_mulW (pe_fld (pv 0) rfl) (pe_prp pT (pv 2) T.cl hr2 rfl))))))), ?_⟩
    refine ⟨_, rfl, v, m, e, rfl, hv.at_, fun r H1 hr1 s1 => ?_⟩
    obtain ⟨dx, h1⟩ := (hp.rat.same s1)
    obtain ⟨dy, h2⟩ := id hr1
    have hs : decide (V.int m.sign = V.int 0) = false := decide_eq_false fun z => hm (Int.sign_eq_zero_iff_zero.mp (V.int.inj z))
    refine ⟨_, rfl, r, dy, _, rfl, h2, r, m, e, rfl, hr1, rfl, _, rfl, ?_⟩
    rw [hs]
    refine iteF ?_
    refine ⟨_, rfl, p, C, dx, _, _, rfl, h1, T.cl, T.nT, rf_top _ _, _, rfl, r, dy, _, rfl, h2, r, m, e, rfl, hr1, _, _, rfl, rfl, cmul hp.b1 hv.b2, ?_⟩
    refine ⟨_, rfl, p, C, dx, _, _, rfl, h1, T.cl, T.nB, rf_bottom _ _, _, rfl, r, dy, _, rfl, h2, r, m, e, rfl, hr1, _, _, rfl, rfl, cmul hp.b2 hv.b1, ?_⟩
    exact rat_new (Int.mul_ne_zero (by have := hp.lw.pos; omega) hm) ((hp.b2.mul hv.b1).mono (by decide)) fun z H2 hz s2 _ => q z H2 hz (s1.trans s2)
end
end Ra
namespace Ra
open PySem PySem.Spec PyProof.Rows L2 Ow Rm

/-- an operator of the class at C, as others use it -/
structure OpX (P : Program) (w : World) (K : PySem.W.Frag) (mg : Str → Option Value) (base : Heap) (C : Addr) (op : Operator) (k : Nat) (sp : Sp) : Prop where
  ex : ∃ f fd, OpOf K C (PySem.dunder op.info.2) f ∧ FnOk P w K mg base CX0 k f fd ["self", "other"] sp ∧ Binds K fd ["self", "other"] []
  rf : ∃ rc, PySem.W.findIn K (.ref C) (dunderR op.info.2) = some rc ∧ (rc = none ∨ ∃ g : Addr, rc = some (.ref g))
  i1 : ∃ fo, PySem.W.findIn K (.type "int") (PySem.dunder op.info.2) = some fo
  i2 : ∃ ro, PySem.W.findIn K (.type "int") (dunderR op.info.2) = some ro
/-- its reflected one -/
structure OpY (P : Program) (w : World) (K : PySem.W.Frag) (mg : Str → Option Value) (base : Heap) (C : Addr) (op : Operator) (k : Nat) (sp : Sp) : Prop where
  at_ : ∃ f, OpOf K C (PySem.dunder op.info.2) f
  ex : ∃ g gd, OpOf K C (dunderR op.info.2) g ∧ FnOk P w K mg base CX0 k g gd ["self", "other"] sp ∧ Binds K gd ["self", "other"] []
structure OpN (P : Program) (w : World) (K : PySem.W.Frag) (mg : Str → Option Value) (base : Heap) (C : Addr) (k : Nat) (sp : Sp) : Prop where
  ex : ∃ f fd, OpOf K C "__neg__" f ∧ FnOk P w K mg base CX0 k f fd ["self"] sp ∧ Binds K fd ["self"] []

/-- ratio op number -/
def rNm (C : Addr) (sp : Sp) : R2 := fun x y H Q => ∃ p n d m e, x = .ref p ∧ RatAt C H p n d ∧ NumAt C H y m e ∧ sp [.ref p, y] H Q E0
section
variable {X : Cx} {C : Addr} {op : Operator} {k : Nat} {sp : Sp}
theorem op_nm (O : OpX X.prog X.w X.K X.mg X.base C op k sp) (n : Num X.K C) (hr : Room k X.A) : OpR X (binaryOp op) (rNm C sp) := by
  obtain ⟨f, fd, o, F, hb⟩ := O.ex
  obtain ⟨rc, h1, h2⟩ := O.rf
  obtain ⟨fo, h3⟩ := O.i1
  obtain ⟨ro, h4⟩ := O.i2
  intro pins s σ H x y u v Q I rx ry hq
  obtain ⟨p, a, b, m, e, rfl, ⟨dx, hp⟩, hy, q⟩ := hq
  rcases hy with ⟨r, rfl, ⟨dy, hr'⟩⟩ | ⟨rfl, _⟩
  · exact op_own n.sf o F hr hb pass0 pins s σ H _ _ u v Q I rx ry ⟨p, dx, _, r, dy, _, rfl, hp, rfl, hr', q⟩
  · exact op_ownI n o F hr hb pass0 h1 h2 h3 h4 pins s σ H _ _ u v Q I rx ry ⟨p, dx, _, m, rfl, hp, rfl, q⟩
theorem op_radd (O : OpY X.prog X.w X.K X.mg X.base C .Add k sp) (n : Num X.K C) (hr : Room k X.A) : OpR X (binaryOp .Add) (rIOwn C sp E0) := by
  obtain ⟨f, o⟩ := O.at_
  obtain ⟨g, gd, og, F, hb⟩ := O.ex
  exact op_Iown n o og F hr hb pass0 PySem.F.fills_int_add PySem.F.slot_int_add decl_add
theorem op_rsub (O : OpY X.prog X.w X.K X.mg X.base C .Sub k sp) (n : Num X.K C) (hr : Room k X.A) : OpR X (binaryOp .Sub) (rIOwn C sp E0) := by
  obtain ⟨f, o⟩ := O.at_
  obtain ⟨g, gd, og, F, hb⟩ := O.ex
  exact op_Iown n o og F hr hb pass0 PySem.F.fills_int_sub PySem.F.slot_int_sub decl_sub
theorem op_rmul (O : OpY X.prog X.w X.K X.mg X.base C .Mult k sp) (n : Num X.K C) (hr : Room k X.A) : OpR X (binaryOp .Mult) (rIOwn C sp E0) := by
  obtain ⟨f, o⟩ := O.at_
  obtain ⟨g, gd, og, F, hb⟩ := O.ex
  exact op_Iown n o og F hr hb pass0 PySem.F.fills_int_mul PySem.F.slot_int_mul decl_mul
theorem un_nm (O : OpN X.prog X.w X.K X.mg X.base C k sp) (hr : Room k X.A) : UnR X (unaryOp .USub) (rNegOwn C sp E0) := by
  obtain ⟨f, fd, o, F, hb⟩ := O.ex
  exact un_own o F hr hb pass0
end

theorem plus_neg (n d m e : Int) : plus (n, d) (-m, e) = minus (n, d) (m, e) := by
  unfold plus minus
  simp only [Int.neg_mul, Int.sub_eq_add_neg]
theorem plus_rsub (n d m : Int) : plus (-n, d) (m, 1) = minus (m, 1) (n, d) := by
  unfold plus minus
  simp only [Int.mul_one, Int.one_mul, Int.sub_eq_add_neg]
  rw [Int.add_comm]
theorem nm_neg {C : Addr} {H : Hp} {q p : Addr} {n d : Int} {v : V} (h : Nm C H v n d) {H' : Hp} (r : RatAt C H' q (-n) d) : Nm C H' (.ref q) (-n) d := ⟨.inl ⟨q, rfl, r⟩, lw_neg h.lw, h.b1.neg, h.b2⟩
theorem nm_rat {C : Addr} {H H' : Hp} {q : Addr} {n d : Int} {v : V} (h : Nm C H v n d) (r : RatAt C H' q n d) : Nm C H' (.ref q) n d := ⟨.inl ⟨q, rfl, r⟩, h.lw, h.b1, h.b2⟩

section
variable {P : Program} {w : World} {K : PySem.W.Frag} {mg : Str → Option Value} {base : Heap}
/-- i op x -/
def spRef (op : Int × Int → Int × Int → Int × Int) (C : Addr) : Sp := fun vs H Q _ => ∃ p n d m, vs = [.ref p, .int m] ∧ Nm C H (.ref p) n d ∧ Bd 2500 m ∧
  ∀ q H', RatAt C H' q (op (n, d) (m, 1)).1 (op (n, d) (m, 1)).2 → Same H H' → Q (.ref q) H'
def spRsub (C : Addr) : Sp := fun vs H Q _ => ∃ p n d m, vs = [.ref p, .int m] ∧ Nm C H (.ref p) n d ∧ Bd 2500 m ∧
  ∀ q H', RatAt C H' q (minus (m, 1) (n, d)).1 (minus (m, 1) (n, d)).2 → Same H H' → Q (.ref q) H'
theorem nm_int {C : Addr} {H : Hp} {m : Int} (h : Bd 2500 m) : Nm C H (.int m) m 1 := ⟨.inr ⟨rfl, rfl⟩, lw_int m, h, bd_one (by decide)⟩

theorem scRadd : FnScope ["self", "other"] ["self", "other"] (defScope sRadd) := ⟨rfl, rfl, rfl, by decide +kernel, rfl, by decide +kernel, by decide +kernel⟩
theorem ok_radd {f C : Addr} {fd : FuncData} (F : FnP K "__radd__" "Ratio.__radd__" sRadd [] f fd) (T : RT K mg C) (O : OpX P w K mg base C .Add 5 (spBin plus C)) : FnOk P w K mg base CX0 6 f fd ["self", "other"] (spRef plus C) := by
  refine F.ok scRadd (fun vs H Q E h => ?_) (fun cdv A outer s H vs Q E hr h => ?_)
  · obtain ⟨p, n, d, m, rfl, _⟩ := h
    rfl
  · obtain ⟨p, n, d, m, rfl, hp, hm, q⟩ := h
    exact ⟨_, PSs.nox (pss_one (ps_ret (pe_op (op_nm O T.num hr) (pv 0) (pv 1)))), _, rfl, _, rfl, p, n, d, m, 1, rfl, hp.rat, .inr ⟨rfl, rfl⟩, p, _, n, d, m, 1, rfl, hp, nm_int hm, q⟩
theorem scRmul : FnScope ["self", "other"] ["self", "other"] (defScope sRmul) := ⟨rfl, rfl, rfl, by decide +kernel, rfl, by decide +kernel, by decide +kernel⟩
theorem ok_rmul {f C : Addr} {fd : FuncData} (F : FnP K "__rmul__" "Ratio.__rmul__" sRmul [] f fd) (T : RT K mg C) (O : OpX P w K mg base C .Mult 5 (spBin times C)) : FnOk P w K mg base CX0 6 f fd ["self", "other"] (spRef times C) := by
  refine F.ok scRmul (fun vs H Q E h => ?_) (fun cdv A outer s H vs Q E hr h => ?_)
  · obtain ⟨p, n, d, m, rfl, _⟩ := h
    rfl
  · obtain ⟨p, n, d, m, rfl, hp, hm, q⟩ := h
    exact ⟨_, PSs.nox (pss_one (ps_ret (pe_op (op_nm O T.num hr) (pv 0) (pv 1)))), _, rfl, _, rfl, p, n, d, m, 1, rfl, hp.rat, .inr ⟨rfl, rfl⟩, p, _, n, d, m, 1, rfl, hp, nm_int hm, q⟩
theorem scSub : FnScope ["self", "other"] ["self", "other"] (defScope sSub) := ⟨rfl, rfl, rfl, by decide +kernel, rfl, by decide +kernel, by decide +kernel⟩
theorem ok_sub {f C : Addr} {fd : FuncData} (F : FnP K "__sub__" "Ratio.__sub__" sSub [] f fd) (T : RT K mg C) (O : OpX P w K mg base C .Add 5 (spBin plus C)) (N : OpN P w K mg base C 4 (spNeg C)) (D : DAs P w K mg base C) :
    FnOk P w K mg base CX0 6 f fd ["self", "other"] (spBin minus C) := by
  refine F.ok scSub (fun vs H Q E h => ?_) (fun cdv A outer s H vs Q E hr h => ?_)
  · obtain ⟨p, v, n, d, m, e, rfl, _⟩ := h
    rfl
  · obtain ⟨p, v, n, d, m, e, rfl, hp, hv, q⟩ := h
    have hr4 := hr.mono (by decide : 4 ≤ 5)
    refine ⟨_, PSs.nox (pss_one (ps_ret (pe_op (op_nm O T.num hr) (pv 0) (pe_un (un_nm N hr4) (pe_use D hr4 rfl (pa_cons (pv 1) pa_nil)))))), ?_⟩
    refine ⟨_, rfl, _, rfl, v, m, e, rfl, hv.at_, fun r H1 h1 s1 => ?_⟩
    obtain ⟨dx, hx⟩ := id h1
    refine ⟨r, dx, _, rfl, hx, r, m, e, rfl, nm_rat hv h1, fun z H2 h2 s2 => ?_⟩
    refine ⟨p, n, d, -m, e, rfl, hp.rat.same (s1.trans s2), .inl ⟨z, rfl, h2⟩, p, _, n, d, -m, e, rfl, hp.same (s1.trans s2), nm_neg (p := p) hv h2, fun y H3 h3 s3 => ?_⟩
    rw [plus_neg] at h3
    exact q y H3 h3 ((s1.trans s2).trans s3)
theorem scRsub : FnScope ["self", "other"] ["self", "other"] (defScope sRsub) := ⟨rfl, rfl, rfl, by decide +kernel, rfl, by decide +kernel, by decide +kernel⟩
theorem ok_rsub {f C : Addr} {fd : FuncData} (F : FnP K "__rsub__" "Ratio.__rsub__" sRsub [] f fd) (T : RT K mg C) (O : OpX P w K mg base C .Add 5 (spBin plus C)) (N : OpN P w K mg base C 4 (spNeg C)) :
    FnOk P w K mg base CX0 6 f fd ["self", "other"] (spRsub C) := by
  refine F.ok scRsub (fun vs H Q E h => ?_) (fun cdv A outer s H vs Q E hr h => ?_)
  · obtain ⟨p, n, d, m, rfl, _⟩ := h
    rfl
  · obtain ⟨p, n, d, m, rfl, hp, hm, q⟩ := h
    have hr4 := hr.mono (by decide : 4 ≤ 5)
    refine ⟨_, PSs.nox (pss_one (ps_ret (pe_op (op_nm O T.num hr) (pe_un (un_nm N hr4) (pv 0)) (pv 1)))), ?_⟩
    obtain ⟨dx, hx⟩ := hp.rat
    refine ⟨_, rfl, p, dx, _, rfl, hx, p, n, d, rfl, hp, fun z H2 h2 s2 => ?_⟩
    refine ⟨_, rfl, z, -n, d, m, 1, rfl, h2, .inr ⟨rfl, rfl⟩, z, _, -n, d, m, 1, rfl, nm_neg (p := p) hp h2, nm_int hm, fun y H3 h3 s3 => ?_⟩
    rw [plus_rsub] at h3
    exact q y H3 h3 (s2.trans s3)

/-! ### texts -/
def it (n : Int) : Str := Str.ofString (toString n)
def txt (n d : Int) : Str := if d = 1 then it n else (it n ++ "/") ++ it d
def shw (n d : Int) : Str := ((("Ratio(" ++ it n) ++ ", ") ++ it d) ++ ")"
def spText (g : Int → Int → Str) (C : Addr) : Sp := fun vs H Q _ => ∃ p n d, vs = [.ref p] ∧ RatAt C H p n d ∧ Bd 1900 n ∧ Bd 1900 d ∧ Q (.str (g n d)) H
theorem it_len {n : Int} (h : Bd 1900 n) : (it n).length ≤ 1901 := by
  have e := int_text_length_le (a := n) (k := 1900) (by decide) (h.log2 (by decide))
  unfold it
  rw [PySem.ofString_length]
  exact e
theorem lt1920 {n : Int} (h : Bd 1900 n) : n.natAbs.log2 < 1920 := Nat.lt_trans (h.log2 (by decide)) (by decide)
theorem len1 : (Str.ofString "/").length = 1 := by decide +kernel
theorem len2 : (Str.ofString ", ").length = 2 := by decide +kernel
theorem len3 : (Str.ofString ")").length = 1 := by decide +kernel
theorem len6 : (Str.ofString "Ratio(").length = 6 := by decide +kernel
theorem line (n : Nat) (h : n ≤ 100000) : n ≤ sizeLine := Nat.le_trans h (by decide)

theorem scStr : FnScope ["self"] ["self"] (defScope sStr) := ⟨rfl, rfl, rfl, by decide +kernel, rfl, by decide +kernel, by decide +kernel⟩
theorem ok_str {f C : Addr} {fd : FuncData} (F : FnP K "__str__" "Ratio.__str__" sStr [] f fd) (T : RT K mg C) : FnOk P w K mg base CX0 1 f fd ["self"] (spText txt C) := by
  refine F.ok scStr (fun vs H Q E h => ?_) (fun cdv A outer s H vs Q E hr h => ?_)
  · obtain ⟨p, n, d, rfl, _⟩ := h
    rfl
  · obtain ⟨p, n, d, rfl, ⟨dx, hp⟩, hn, hd, q⟩ := h
    refine ⟨_, PSs.nox (pss_cons (ps_if (pt_cmpR op_eq (pe_fld (pv 0) rfl) pe_int (nomark _)) (pss_one (ps_ret (pe_callTy call_str_int rfl T.str PyProof.Rows.boot_str (pa_cons (pe_fld (pv 0) rfl) pa_nil)))) pss_nil)
      (pss_one (ps_ret (pe_joined (.cons (pe_fmt (pe_fld (pv 0) rfl)) (.cons pe_str (.cons (pe_fmt (pe_fld (pv 0) rfl)) .nil))))))), ?_⟩
    have h1 := it_len hn
    have h2 := it_len hd
    refine ⟨_, rfl, p, C, dx, _, _, rfl, hp, T.cl, T.nB, rf_bottom _ _, rfl, _, rfl, ?_⟩
    refine ite2 (fun c => ?_) (fun c => ?_)
    · have c' : d = 1 := V.int.inj (of_decide_eq_true c)
      unfold txt at q
      rw [if_pos c'] at q
      exact ⟨_, rfl, p, C, dx, _, _, rfl, hp, T.cl, T.nT, rf_top _ _, n, rfl, lt1920 hn, q⟩
    · have c' : ¬ d = 1 := fun z => c (decide_eq_true (by rw [z]))
      unfold txt at q
      rw [if_neg c'] at q
      refine ⟨_, rfl, p, C, dx, _, _, rfl, hp, T.cl, T.nT, rf_top _ _, .inr ⟨n, rfl, lt1920 hn, _, rfl, ?_, ?_⟩⟩
      · rw [PySem.Str.empty_append]
        exact line _ (Nat.le_trans h1 (by decide))
      refine ⟨_, rfl, ?_, ?_⟩
      · rw [PySem.Str.empty_append, strLen_append, len1]
        exact line _ (Nat.le_trans (Nat.add_le_add_right h1 1) (by decide))
      refine ⟨_, rfl, p, C, dx, _, _, rfl, hp, T.cl, T.nB, rf_bottom _ _, .inr ⟨d, rfl, lt1920 hd, _, rfl, ?_, ?_⟩⟩
      · rw [PySem.Str.empty_append, strLen_append, strLen_append, len1]
        exact line _ (Nat.le_trans (Nat.add_le_add (Nat.add_le_add_right h1 1) h2) (by decide))
      · rw [PySem.Str.empty_append]
        exact q
theorem scRepr : FnScope ["self"] ["self"] (defScope sRepr) := ⟨rfl, rfl, rfl, by decide +kernel, rfl, by decide +kernel, by decide +kernel⟩
theorem ok_repr {f C : Addr} {fd : FuncData} (F : FnP K "__repr__" "Ratio.__repr__" sRepr [] f fd) (T : RT K mg C) : FnOk P w K mg base CX0 1 f fd ["self"] (spText shw C) := by
  refine F.ok scRepr (fun vs H Q E h => ?_) (fun cdv A outer s H vs Q E hr h => ?_)
  · obtain ⟨p, n, d, rfl, _⟩ := h
    rfl
  · obtain ⟨p, n, d, rfl, ⟨dx, hp⟩, hn, hd, q⟩ := h
    refine ⟨_, PSs.nox (pss_one (ps_ret (pe_joined (.cons pe_str (.cons (pe_fmt (pe_fld (pv 0) rfl)) (.cons pe_str (.cons (pe_fmt (pe_fld (pv 0) rfl)) (.cons pe_str .nil)))))))), ?_⟩
    have h1 := it_len hn
    have h2 := it_len hd
    refine ⟨_, rfl, ?_, ?_⟩
    · rw [PySem.Str.empty_append, len6]
      exact line _ (by decide)
    refine ⟨_, rfl, p, C, dx, _, _, rfl, hp, T.cl, T.nT, rf_top _ _, .inr ⟨n, rfl, lt1920 hn, _, rfl, ?_, ?_⟩⟩
    · rw [PySem.Str.empty_append, strLen_append, len6]
      exact line _ (Nat.le_trans (Nat.add_le_add_left h1 6) (by decide))
    refine ⟨_, rfl, ?_, ?_⟩
    · rw [PySem.Str.empty_append, strLen_append, strLen_append, len6, len2]
      exact line _ (Nat.le_trans (Nat.add_le_add_right (Nat.add_le_add_left h1 6) 2) (by decide))
    refine ⟨_, rfl, p, C, dx, _, _, rfl, hp, T.cl, T.nB, rf_bottom _ _, .inr ⟨d, rfl, lt1920 hd, _, rfl, ?_, ?_⟩⟩
    · rw [PySem.Str.empty_append, strLen_append, strLen_append, strLen_append, len6, len2]
      exact line _ (Nat.le_trans (Nat.add_le_add (Nat.add_le_add_right (Nat.add_le_add_left h1 6) 2) h2) (by decide))
    refine ⟨_, rfl, ?_, ?_⟩
    · rw [PySem.Str.empty_append, strLen_append, strLen_append, strLen_append, strLen_append, len6, len2, len3]
      exact line _ (Nat.le_trans (Nat.add_le_add_right (Nat.add_le_add (Nat.add_le_add_right (Nat.add_le_add_left h1 6) 2) h2) 1) (by decide))
    · rw [PySem.Str.empty_append]
      exact q
end
end Ra
namespace Ra
open PySem PySem.Spec PyProof.Rows L2 Ow Rm

/-- x(e), x a local name that holds the class at C -/
def tMakeL (i : Nat) (C : Addr) (sp : Sp) (dvs : List V) (E : XK) (t : TA) : TE := fun σ H Q => σ[i]? = some (some (.ref C)) ∧ tMake C sp dvs E t σ H Q
section
variable {X : Cx} {CX : CXT} {k i : Nat} {C f : Addr} {fd : FuncData} {ps : List Str} {sp : Sp} {dvs : List V} {ds : List Value} {E : XK} {x : Str} {p pos : Pos} {e : Expr} {es : List Expr} {t : TA}
theorem pe_makeL (M : Mk X.K C f) (F : FnOk X.prog X.w X.K X.mg X.base CX k f fd ps sp) (hr : Room (k + 1) X.A) (hN : X.N[i]? = some x) (hv : Vis X.env.scope x) (hb : Binds X.K fd ps ds) (hd : Vals dvs ds) (hx : Passes CX X E) (ha : PA X (e :: es) t)
    (hdb : (x == ("__debug__" : Str)) = false := by decide) (hcd : (x == ("__classdict__" : Str)) = false := by decide)
    (he : starEach (e :: es) X.env = (false, eval e X.env) :: starEach es X.env := by rfl) (hpl : (backTo pos (starEach es X.env)).any (·.1) = false := by rfl) : PE X (.Call (.Name x p) (e :: es) [] pos) (tMakeL i C sp dvs E t) := by
  refine ⟨fun pins s σ H Q I h => ?_⟩
  obtain ⟨hs, ht⟩ := h
  have var := (pe_var (pos := p) hN hv hdb hcd).run pins s σ H (fun v H1 => v = .ref C ∧ H1 = H) I ⟨.ref C, hs, rfl, rfl⟩
  refine wpAny_Call_Name_kw (thn var fun u s1 got => ?_)
  obtain ⟨v, H1, I1, r1, q1⟩ := got
  obtain ⟨rfl, rfl⟩ := q1
  cases r1
  refine PySem.W.callWith_K (h₀ := X.base) I.ok.mod.kin M.kp (thn (ha.run pos pins s1 σ _ _ I1 ht) fun us s2 got => ?_) he hpl
  obtain ⟨vs, H2, I2, r, q⟩ := got
  exact ⟨I2.kIn, run_make M F hr hb hd hx I2 r q⟩
end

section
variable {X : Cx} {CX : CXT} {k : Nat} {C p g : Addr} {mc : Value} {sp : Sp} {E : XK} {o e : Expr} {es : List Expr} {f m : Str} {pos apos : Pos} {ta : TE} {t : TA} {pl : Sem Bool}
open ClX in
/-- C.m(), m a classmethod -/
theorem pe_cmeth0 (he : PE X o ta) (r : CRead X.K C mc) (c : CMet X.K C mc m p g) (F : FnR X.prog X.w X.K X.mg X.base CX k g sp) (hr : Room k X.A) (hx : Passes CX X E)
    (ht : eval (.Call (.Attribute o m apos) [] [] pos) X.env = (do
      let ov ← eval o X.env
      standAt apos.atName
      let (f, first) ← holding [ov] (getMethod ov m pl)
      callWith pos f first (backTo pos (starEach [] X.env)) (backToKw pos (keywordEach [] X.env))) := by rfl) :
    PE X (.Call (.Attribute o m apos) [] [] pos) (tCMeth C sp E ta tNil) := by
  refine ⟨fun pins s σ H Q I h => PySem.W.methodCall_KW (pl := pl) (thn (he.run pins s σ H _ I h) fun u s1 got => ?_) ht⟩
  obtain ⟨x, H1, I1, rx, rfl, q⟩ := got
  cases rx
  refine getmethcm_ok I1 r c fun s2 I2 => ?_
  exact PySem.W.callWith_M0 ⟨pin_at I2, I2.kIn⟩ c.fi (run_cm (us := []) (vs := []) F hr hx I2 .nil q)
end

/-! ### Ratio.total -/
/-- a number in lowest terms, a small one -/
structure Sm (C : Addr) (H : Hp) (v : V) (n d : Int) : Prop where
  at_ : NumAt C H v n d
  lw : Lw n d
  b1 : Bd 300 n
  b2 : Bd 300 d
theorem Sm.same {C : Addr} {H H' : Hp} {v : V} {n d : Int} (h : Sm C H v n d) (s : Same H H') : Sm C H' v n d := ⟨h.at_.same s, h.lw, h.b1, h.b2⟩
theorem Sm.nm {C : Addr} {H : Hp} {v : V} {n d : Int} (h : Sm C H v n d) : Nm C H v n d := ⟨h.at_, h.lw, h.b1.mono (by decide), h.b2.mono (by decide)⟩
def Sms (C : Addr) (H : Hp) (xs : List V) (ps : List (Int × Int)) : Prop := xs.length = ps.length ∧ ∀ (i : Nat) (x : V) (p : Int × Int), xs[i]? = some x → ps[i]? = some p → Sm C H x p.1 p.2
theorem Sms.same {C : Addr} {H H' : Hp} {xs : List V} {ps : List (Int × Int)} (h : Sms C H xs ps) (s : Same H H') : Sms C H' xs ps := ⟨h.1, fun i x p h1 h2 => (h.2 i x p h1 h2).same s⟩
def sumP (ps : List (Int × Int)) : Int × Int := ps.foldl plus (0, 1)
/-- how great the sum of some may be -/
structure SB (i : Nat) (a : Int × Int) : Prop where
  lw : Lw a.1 a.2
  b1 : Bd (1 + 301 * i) a.1
  b2 : Bd (1 + 301 * i) a.2
theorem sb_zero : SB 0 (0, 1) := ⟨lw_int 0, bd_zero, bd_one (by decide)⟩
theorem sb_plus {i : Nat} {a p : Int × Int} (h : SB i a) (lp : Lw p.1 p.2) (b1 : Bd 300 p.1) (b2 : Bd 300 p.2) : SB (i + 1) (plus a p) := by
  have hd : a.2 * p.2 ≠ 0 := mul_ne h.lw.pos lp.pos
  refine ⟨low_lw _ hd, bd_low1 hd ?_, bd_low2 hd ?_⟩
  · have x := (h.b1.mul b2).add ((b1.mul h.b2).mono (show 300 + (1 + 301 * i) ≤ 1 + 301 * i + 300 by omega))
    exact x.mono (by omega)
  · exact (h.b2.mul b2).mono (by omega)
theorem sumP_snoc (ps : List (Int × Int)) (p : Int × Int) : sumP (ps ++ [p]) = plus (sumP ps) p := by
  unfold sumP
  rw [List.foldl_append]
  rfl
theorem sb_sum {C : Addr} {H : Hp} {xs : List V} {ps : List (Int × Int)} (h : Sms C H xs ps) : ∀ i, i ≤ ps.length → SB i (sumP (ps.take i)) := by
  intro i
  induction i with
  | zero =>
    intro _
    rw [List.take_zero]
    exact sb_zero
  | succ i ih =>
    intro hi
    have hlt : i < ps.length := hi
    have hx : i < xs.length := by rw [h.1]; exact hlt
    have s := h.2 i xs[i] ps[i] (List.getElem?_eq_getElem hx) (List.getElem?_eq_getElem hlt)
    rw [List.take_succ, List.getElem?_eq_getElem hlt]
    show SB (i + 1) (sumP (ps.take i ++ [ps[i]]))
    rw [sumP_snoc]
    exact sb_plus (ih (Nat.le_of_lt hlt)) s.lw s.b1 s.b2
theorem sb_nm {C : Addr} {H : Hp} {q : Addr} {i : Nat} {a : Int × Int} (h : SB i a) (hi : i ≤ 6) (r : RatAt C H q a.1 a.2) : Nm C H (.ref q) a.1 a.2 :=
  ⟨.inl ⟨q, rfl, r⟩, h.lw, h.b1.mono (by omega), h.b2.mono (by omega)⟩

section
variable {P : Program} {w : World} {K : PySem.W.Frag} {mg : Str → Option Value} {base : Heap}
/-- its body's promise: cls, the tuple of the numbers -/
def spTot0 (K : PySem.W.Frag) (C : Addr) : Sp := fun vs H Q _ => ∃ (t : Addr) (xs : List V) (ps : List (Int × Int)), vs = [.ref C, .ref t] ∧ SqT K H t xs ∧ xs.length ≤ 6 ∧ Sms C H xs ps ∧
  ∀ q H', RatAt C H' q (sumP ps).1 (sumP ps).2 → Same H H' → Q (.ref q) H'
def spTot (C : Addr) : Sp := fun vs H Q _ => ∃ (xs : List V) (ps : List (Int × Int)), vs = .ref C :: xs ∧ xs.length ≤ 6 ∧ Sms C H xs ps ∧
  ∀ q H', RatAt C H' q (sumP ps).1 (sumP ps).2 → Same H H' → Q (.ref q) H'
theorem scTot : FnScope ["cls", "numbers", "found", "number"] ["cls", "numbers"] (defScope sTotal) := ⟨rfl, rfl, rfl, by decide +kernel, rfl, by decide +kernel, by decide +kernel⟩
theorem same_sqt {H H' : Hp} {a : Addr} {xs : List V} (s : Same H H') (h : SqT K H a xs) : SqT K H' a xs := SqT.ext h s
theorem ok_total {f C : Addr} {fd : FuncData} (F : FnP K "total" "Ratio.total" sTotal [] f fd) (T : RT K mg C) (M : RMk P w K mg base C) (O : OpX P w K mg base C .Add 5 (spBin plus C)) :
    FnR P w K mg base CX0 6 f (spTot C) := by
  obtain ⟨oc, od, dV, kV, doc, pm, an, cdv, ct, osl, rfl, lk, hcd, hD, _⟩ := F.ex
  have hdV : dV = .none := by
    rcases hD with ⟨_, e⟩ | ⟨e, _⟩
    · exact e
    · exact absurd rfl e
  subst hdV
  have G := StX.fn_star (k := 5) (sp := spTot0 K C) (CX := CX0) (P := P) (w := w) (mg := mg) (base := base) (ps := ["cls"]) (pv := "numbers") lk hcd scTot StX.cxUp_none
    (StX.bind_star1 (B := fun us => bindArgs _ ⟨us, []⟩) (fun a => rfl) (fun a r rs => rfl)) (fun A outer s H vs Q E hr h => ?_)
  · refine G.imp fun vs H Q E h => ?_
    obtain ⟨xs, ps, rfl, hl, hs, q⟩ := h
    refine ⟨[.ref C], xs, rfl, rfl, line _ (Nat.le_trans hl (by decide)), fun p hp => ?_⟩
    have sm : Same H (upd H p (.tup xs)) := same_upd hp
    exact ⟨p, xs, ps, rfl, SqT.of upd_same, hl, hs.same sm, fun z H' r s' => q z H' r (sm.trans s')⟩
  · obtain ⟨t, xs, ps, rfl, ht, hl, hs, q⟩ := h
    obtain ⟨f1, fd1, m, Fi, b2, ⟨ds, hv, b1⟩, _⟩ := M.ex
    have hr3 := hr.mono (by decide : 3 ≤ 5)
    refine ⟨_, PSs.nox (pss_cons (ps_set (i := 2) scTot.nd rfl (Or.inl rfl) (pe_makeL (i := 0) m Fi hr3 rfl (Or.inl rfl) b1 hv pass0 (pa_cons pe_int pa_nil)))
      (pss_cons (ps_for PassesOwn.never rfl (pi_tup (pv 1)) (pg_name (i := 3) scTot.nd rfl (Or.inl rfl)) (pss_one (ps_set (i := 2) scTot.nd rfl (Or.inl rfl) (pe_op (op_nm O T.num hr) (pv 2) (pv 3)))))
      (pss_one (ps_ret (pv 2))))), ?_⟩
    refine ⟨rfl, ?_⟩
    refine rat_new (by decide) (bd_one (by decide)) fun z0 H1 r0 s1 _ => ?_
    rw [low_int] at r0
    refine ⟨_, rfl, t, rfl, ⟨xs, same_sqt s1 ht⟩, for_tup (K := K) (a := t) (xs := xs) (fun i σ H' => ∃ (z : Addr) (v : Option V), σ = [some (.ref C), some (.ref t), some (.ref z), v] ∧ Same H H' ∧ RatAt C H' z (sumP (ps.take i)).1 (sumP (ps.take i)).2)
      ⟨z0, none, rfl, s1, by rw [List.take_zero]; exact r0⟩ (fun i σ H' _ h => ?_) ?_ ?_⟩
    · obtain ⟨_, _, _, s2, _⟩ := h
      exact same_sqt s2 ht
    · rintro i x σ H' hx ⟨z, v, rfl, s2, rz⟩
      have hi : i < ps.length := by
        rw [← hs.1]
        exact (List.getElem?_eq_some_iff.mp hx).1
      have sx := (hs.same s2).2 i x ps[i] hx (List.getElem?_eq_getElem hi)
      have hi6 : i ≤ 6 := by have := hs.1; omega
      refine ⟨_, rfl, _, rfl, z, _, _, _, _, rfl, rz, sx.at_, z, _, _, _, _, _, rfl, sb_nm (sb_sum hs i (Nat.le_of_lt hi)) hi6 rz, sx.nm, fun y H2 h2 s3 => ?_⟩
      refine ⟨y, _, rfl, s2.trans s3, ?_⟩
      rw [List.take_succ, List.getElem?_eq_getElem hi]
      show RatAt C H2 y (sumP (ps.take i ++ [ps[i]])).1 (sumP (ps.take i ++ [ps[i]])).2
      rw [sumP_snoc]
      exact h2
    · rintro σ H' ⟨z, v, rfl, s2, rz⟩
      rw [hs.1, List.take_length] at rz
      exact ⟨_, rfl, q z H' rz s2⟩
end
end Ra
namespace La
open PySem PySem.Spec PyProof.Rows L2 Ow Rm Ra

abbrev sPot : Stmt := top 12
abbrev sDraw : Stmt := top 13
abbrev sPick : Stmt := top 14
abbrev sCommon : Stmt := top 15
abbrev sLow : Stmt := top 16
abbrev sPlus : Stmt := top 17
abbrev sMinus : Stmt := top 18
abbrev sTimes : Stmt := top 19
abbrev sInteger : Stmt := top 20
abbrev sParts : Stmt := top 21
abbrev sIs : Stmt := top 22
abbrev sOfTwo : Stmt := top 23
abbrev sOfInteger : Stmt := top 24
abbrev sTotalOf : Stmt := top 25
abbrev sOfSome : Stmt := top 26
abbrev sDeed : Stmt := top 27
abbrev sRight : Stmt := top 28
abbrev sLaw : Stmt := top 29

structure LT (mg : Str → Option Value) : Prop where
  len : mg "len" = none
  abs : mg "abs" = none
  max : mg "max" = none
  min : mg "min" = none
  int : mg "int" = none
  dm : mg "divmod" = none
  range : mg "range" = none
  all : mg "all" = none
  zip : mg "zip" = none
  repr : mg "repr" = none
  str : mg "str" = none
  isi : mg "isinstance" = none

/-- a pot: two numbers, the first one from 0 on -/
def Pot (H : Hp) (p : Addr) : Prop := ∃ a b : Int, H p = some (.lst [.int a, .int b]) ∧ 0 ≤ a
/-- all but the pot at p is as it was -/
structure Stp (p : Addr) (H H' : Hp) : Prop where
  keep : ∀ q o, q ≠ p → H q = some o → H' q = some o
  pot : Pot H' p
theorem Stp.trans {p : Addr} {H H1 H2 : Hp} (a : Stp p H H1) (b : Stp p H1 H2) : Stp p H H2 := ⟨fun q o n e => b.keep q o n (a.keep q o n e), b.pot⟩
theorem Stp.refl {p : Addr} {H : Hp} (h : Pot H p) : Stp p H H := ⟨fun _ _ _ e => e, h⟩
theorem Pot.same {H H' : Hp} {p : Addr} (h : Pot H p) (s : Same H H') : Pot H' p := by
  obtain ⟨a, b, e, h0⟩ := h
  exact ⟨a, b, s _ _ e, h0⟩
theorem Stp.of {p : Addr} {H H' : Hp} (s : Same H H') (h : Pot H p) : Stp p H H' := ⟨fun _ _ _ e => s _ _ e, h.same s⟩
theorem Stp.sm {p : Addr} {H H1 H2 : Hp} (a : Stp p H H1) (s : Same H1 H2) : Stp p H H2 := a.trans (Stp.of s a.pot)

section
variable {P : Program} {w : World} {K : PySem.W.Frag} {mg : Str → Option Value} {base : Heap}

/-! ### _law_pot -/
def spPot (K : PySem.W.Frag) : Sp := fun vs H Q _ => ∃ (a : Addr) (ns : List Int) (k : Int), vs = [.ref a, .int k] ∧ SqL K H a (ns.map V.int) ∧ 0 ≤ k ∧ ∀ p x y, 0 ≤ x → H p = none → Q (.ref p) (upd H p (.lst [.int x, .int y]))
theorem scPot : FnScope ["_law_script", "_law_k", "_law_cell"] ["_law_script", "_law_k"] (defScope sPot) := ⟨rfl, rfl, rfl, by decide +kernel, rfl, by decide +kernel, by decide +kernel⟩
theorem ok_pot {f : Addr} {fd : FuncData} (F : FnP K "_law_pot" "_law_pot" sPot [] f fd) (T : LT mg) : FnOk P w K mg base CX0 1 f fd ["_law_script", "_law_k"] (spPot K) := by
  refine F.ok scPot (fun vs H Q E h => ?_) (fun cdv A outer s H vs Q E hr h => ?_)
  · obtain ⟨a, ns, k, rfl, _⟩ := h
    rfl
  · obtain ⟨a, ns, k, rfl, hs, hk, q⟩ := h
    refine ⟨_, PSs.nox (pss_cons (ps_set (i := 2) scPot.nd rfl (Or.inl rfl) (pe_ifExp (pt_cmpR op_lt (pv 1) (pe_callB call_len_seq (by rfl) T.len PySem.boot_len (pa_cons (pv 0) pa_nil)) (nomark _))
        (pe_callB call_abs (by rfl) T.abs PyProof.Rows.boot_abs (pa_cons (pe_ix ix_list (pv 0) (pv 1) (fun _ _ => rfl)) pa_nil))
        (pe_op op_add (pe_op op_mul pe_int (pv 1)) pe_int)))
      (pss_one (ps_ret (pe_lst (pa_cons (pe_callB (call_max2 rfl) (by rfl) T.max PyProof.Rows.boot_max (pa_cons pe_int (pa_cons (pe_op op_sub (pv 2) (pe_op op_pow pe_int pe_int)) pa_nil)))
        (pa_cons (pe_op op_add (pe_op op_mod (pe_callTy call_int1 rfl T.int PyProof.Rows.boot_int (pa_cons
          (pe_op op_add (pe_op op_add (pe_op op_mul (pe_op op_mod (pe_callTy call_int1 rfl T.int PyProof.Rows.boot_int (pa_cons (pv 2) pa_nil)) pe_int) pe_int) (pe_op op_mul pe_int (pv 1))) pe_int) pa_nil)) pe_int) pe_int) pa_nil)))))), ?_⟩
    have fin : ∀ c : Int, (tRet (tLst (tCons (tCB (fun xs H Q => ∃ i j, xs = [V.int i, V.int j] ∧ Q (.int (if j > i then j else i)) H) (tCons (tC (.int 0)) (tCons (tOp (rI0 fun i j => .int (i - j)) (tVar 2) (tOp (rI CPow fun i j => .int (i ^ j.toNat)) (tC (.int 10)) (tC (.int 18)))) tNil)))
        (tCons (tOp (rI0 fun i j => .int (i + j)) (tOp (rI (fun _ j => 0 < j) fun i j => .int (i % j)) (tCB (fun xs H Q => (∃ i, xs = [V.int i] ∧ Q (.int i) H) ∨ ∃ k, xs = [V.bl k] ∧ Q (.int (if k then 1 else 0)) H) (tCons
          (tOp (rI0 fun i j => .int (i + j)) (tOp (rI0 fun i j => .int (i + j)) (tOp (rI CMul fun i j => .int (i * j)) (tOp (rI (fun _ j => 0 < j) fun i j => .int (i % j)) (tCB (fun xs H Q => (∃ i, xs = [V.int i] ∧ Q (.int i) H) ∨ ∃ k, xs = [V.bl k] ∧ Q (.int (if k then 1 else 0)) H) (tCons (tVar 2) tNil)) (tC (.int 2147483563))) (tC (.int 40361))) (tOp (rI CMul fun i j => .int (i * j)) (tC (.int 9103)) (tVar 1))) (tC (.int 71))) tNil)) (tC (.int 2147483497))) (tC (.int 1))) tNil))))
        { nx := fun _ H' => Q .non H', rt := Q } [some (.ref a), some (.int k), some (.int c)] H := by
      intro c
      refine ⟨_, rfl, _, _, rfl, rfl, ⟨by decide, by decide, by decide⟩, _, _, rfl, rfl, _, _, rfl, ?_⟩
      refine ⟨_, rfl, .inl ⟨_, rfl, _, _, rfl, rfl, (by show (0 : Int) < 2147483563; decide), _, _, rfl, rfl, .inr ⟨by decide, by decide⟩, ?_⟩⟩
      refine ⟨_, rfl, _, _, rfl, rfl, .inl ⟨by decide, by decide⟩, _, _, rfl, rfl, _, _, rfl, rfl, .inl ⟨_, rfl, _, _, rfl, rfl, (by show (0 : Int) < 2147483497; decide), _, _, rfl, rfl, (by show 2 ≤ sizeLine; decide), fun p hp => ?_⟩⟩
      refine q p _ _ ?_ hp
      by_cases h : c - 10 ^ (18 : Int).toNat > 0
      · rw [if_pos h]; omega
      · rw [if_neg h]; omega
    refine ⟨_, rfl, _, rfl, a, _, rfl, .inl hs, _, _, rfl, rfl, _, rfl, ?_⟩
    refine ite2 (fun c => ?_) (fun c => ?_)
    · have c' : k < ((ns.map V.int).length : Int) := of_decide_eq_true c
      rw [List.length_map] at c'
      obtain ⟨j, rfl⟩ : ∃ j : Nat, k = (j : Int) := ⟨k.toNat, by omega⟩
      have hj : j < ns.length := by omega
      refine ⟨_, rfl, _, rfl, a, _, _, _, rfl, rfl, hs, atI_nat (v := V.int ns[j]) (by rw [List.getElem?_map, List.getElem?_eq_getElem hj]; rfl), _, rfl, ?_⟩
      exact fin _
    · refine ⟨_, rfl, _, _, rfl, rfl, .inl ⟨by decide, by decide⟩, _, _, rfl, rfl, ?_⟩
      exact fin _

/-! ### _law_draw -/
def spDraw : Sp := fun vs H Q _ => ∃ (p : Addr) (m : Int), vs = [.ref p, .int m] ∧ Pot H p ∧ 0 < m ∧ Bd 8000 m ∧ ∀ r H', 0 ≤ r → r < m → Stp p H H' → Q (.int r) H'
theorem scDraw : FnScope ["_law_pot_here", "_law_many", "_law_digit"] ["_law_pot_here", "_law_many"] (defScope sDraw) := ⟨rfl, rfl, rfl, by decide +kernel, rfl, by decide +kernel, by decide +kernel⟩
theorem stp_set {p : Addr} {H : Hp} {a b : Int} (h : 0 ≤ a) {o : HO} {H1 : Hp} (k : ∀ q u, q ≠ p → H q = some u → H1 q = some u) : Stp p H (upd H1 p (.lst [.int a, .int b])) :=
  ⟨fun q u n e => by rw [upd_ne n]; exact k q u n e, ⟨a, b, upd_same, h⟩⟩
theorem ok_draw {f : Addr} {fd : FuncData} (F : FnP K "_law_draw" "_law_draw" sDraw [] f fd) (T : LT mg) : FnOk P w K mg base CX0 1 f fd ["_law_pot_here", "_law_many"] spDraw := by
  refine F.ok scDraw (fun vs H Q E h => ?_) (fun cdv A outer s H vs Q E hr h => ?_)
  · obtain ⟨p, m, rfl, _⟩ := h
    rfl
  · obtain ⟨p, m, rfl, ⟨a, b, hp, h0⟩, hm, bm, q⟩ := h
    have ix0 : ∀ x y : Int, atI [V.int x, V.int y] 0 = some (.int x) := fun x y => rfl
    have ix1 : ∀ x y : Int, atI [V.int x, V.int y] 1 = some (.int y) := fun x y => rfl
    refine ⟨_, PSs.nox (pss_cons (ps_if (pt_cmpR op_gt (pe_ix ix_list (pv 0) pe_int (fun _ _ => rfl)) pe_int (nomark _))
        (pss_cons (ps_asg (pe_callB call_divmodW (by rfl) T.dm PyProof.Rows.boot_divmod (pa_cons (pe_ix ix_list (pv 0) pe_int (fun _ _ => rfl)) (pa_cons (pv 1) pa_nil)))
          (pg_tup (by rfl) (pgs_cons (pg_sub (pv 0) pe_int set_list) (pgs_cons (pg_name (i := 2) scDraw.nd rfl (.inl rfl)) pgs_nil))))
        (pss_one (ps_ret (pv 2)))) pss_nil)
      (pss_cons (ps_asg (pe_op op_mod (pe_callTy call_int1 rfl T.int PyProof.Rows.boot_int (pa_cons (pe_op op_add (pe_op op_mul (pe_ix ix_list (pv 0) pe_int (fun _ _ => rfl)) pe_int) pe_int) pa_nil)) pe_int) (pg_sub (pv 0) pe_int set_list))
      (pss_one (ps_ret (pe_op op_mod (pe_callTy call_int1 rfl T.int PyProof.Rows.boot_int (pa_cons (pe_op op_fdiv (pe_op op_mod (pe_callTy call_int1 rfl T.int PyProof.Rows.boot_int (pa_cons (pe_op op_mul (pe_ix ix_list (pv 0) pe_int (fun _ _ => rfl)) (pe_ix ix_list (pv 0) pe_int (fun _ _ => rfl))) pa_nil)) pe_int) pe_int) pa_nil)) (pv 1)))))), ?_⟩
    refine ⟨_, rfl, p, _, _, _, rfl, rfl, SqL.of hp, ix0 _ _, _, _, rfl, rfl, _, rfl, ?_⟩
    refine ite2 (fun c => ?_) (fun c => ?_)
    · refine ⟨_, rfl, p, _, _, _, rfl, rfl, SqL.of hp, ix0 _ _, _, rfl, _, _, rfl, ⟨hm, PyProof.noPylong_of_log2 (Nat.lt_trans (bm.log2 (by decide)) (by decide))⟩, fun t ht => ?_⟩
      have ntp : p ≠ t := ne_of_none hp ht
      refine ⟨t, _, rfl, SqT.of upd_same, rfl, _, _, rfl, _, rfl, p, _, _, _, rfl, rfl, (by rw [upd_ne ntp]; exact hp), rfl, _, _, rfl, rfl, ?_⟩
      refine ⟨_, rfl, q _ _ (Int.emod_nonneg _ (by omega)) (Int.emod_lt_of_pos _ hm) ?_⟩
      exact stp_set (o := .lst []) (Int.ediv_nonneg h0 (by omega)) fun z u n e => by rw [upd_ne (ne_of_none e ht)]; exact e
    · refine ⟨_, rfl, p, _, _, _, rfl, rfl, SqL.of hp, ix1 _ _, _, _, rfl, rfl, .inr ⟨by decide, by decide⟩, _, _, rfl, rfl, .inl ⟨_, rfl, _, _, rfl, rfl, (by show (0 : Int) < 2147483549; decide), ?_⟩⟩
      refine ⟨_, rfl, p, _, _, _, rfl, rfl, hp, rfl, ?_⟩
      have e2 : 0 ≤ (b * 46021 + 15013) % 2147483549 := Int.emod_nonneg _ (by decide)
      have e3 : (b * 46021 + 15013) % 2147483549 < 2147483549 := Int.emod_lt_of_pos _ (by decide)
      refine ⟨_, rfl, p, _, _, _, rfl, rfl, SqL.of upd_same, ix1 _ _, _, rfl, p, _, _, _, rfl, rfl, SqL.of upd_same, ix1 _ _, _, _, rfl, rfl, .inl ⟨by omega, by omega⟩, .inl ⟨_, rfl, _, _, rfl, rfl, (by show (0 : Int) < 2147483477; decide), _, _, rfl, rfl, ⟨by decide, by decide⟩, .inl ⟨_, rfl, _, rfl, _, _, rfl, rfl, hm, ?_⟩⟩⟩
      refine q _ _ (Int.emod_nonneg _ (by omega)) (Int.emod_lt_of_pos _ hm) ?_
      exact stp_set (o := .lst []) h0 fun z u n e => e
end
end La
namespace La
open PySem PySem.Spec PyProof.Rows L2 Ow Rm Ra
section
variable {P : Program} {w : World} {K : PySem.W.Frag} {mg : Str → Option Value} {base : Heap}
abbrev DDraw (P : Program) (w : World) (K : PySem.W.Frag) (mg : Str → Option Value) (base : Heap) : Prop := Dfn P w K mg base 1 "_law_draw" ["_law_pot_here", "_law_many"] spDraw

/-! ### _law_pick -/
def spPick : Sp := fun vs H Q _ => ∃ (p l : Addr) (xs : List V), vs = [.ref p, .ref l] ∧ Pot H p ∧ l ≠ p ∧ H l = some (.lst xs) ∧ 0 < xs.length ∧ xs.length ≤ 1000 ∧ ∀ (j : Nat) (x : V) (H' : Hp), xs[j]? = some x → Stp p H H' → Q x H'
theorem scPick : FnScope ["_law_pot_here", "_law_some"] ["_law_pot_here", "_law_some"] (defScope sPick) := ⟨rfl, rfl, rfl, by decide +kernel, rfl, by decide +kernel, by decide +kernel⟩
theorem bd_nat {n k : Nat} (h : n < 2 ^ k) : Bd k (n : Int) := by unfold Bd; rw [Int.natAbs_natCast]; exact h
theorem bd_small {x : Int} {k : Nat} (h0 : 0 ≤ x) (h : x < 2 ^ 60) (hk : 60 ≤ k) : Bd k x := by
  refine Bd.mono (j := 60) ?_ hk
  unfold Bd
  have : (2 : Int) ^ 60 = 1152921504606846976 := by decide
  have : (2 : Nat) ^ 60 = 1152921504606846976 := by decide
  omega
theorem lt60 {n : Nat} (h : n ≤ 1000) : (n : Int) < 2 ^ 60 := by
  have : (2 : Int) ^ 60 = 1152921504606846976 := by decide
  omega
theorem ok_pick {f : Addr} {fd : FuncData} (F : FnP K "_law_pick" "_law_pick" sPick [] f fd) (T : LT mg) (D : DDraw P w K mg base) : FnOk P w K mg base CX0 2 f fd ["_law_pot_here", "_law_some"] spPick := by
  refine F.ok scPick (fun vs H Q E h => ?_) (fun cdv A outer s H vs Q E hr h => ?_)
  · obtain ⟨p, l, xs, rfl, _⟩ := h
    rfl
  · obtain ⟨p, l, xs, rfl, hp, n, hl, h0, h1, q⟩ := h
    refine ⟨_, PSs.nox (pss_one (ps_ret (pe_ix ix_list (pv 1) (pe_use D hr rfl (pa_cons (pv 0) (pa_cons (pe_callB call_len_seq (by rfl) T.len PySem.boot_len (pa_cons (pv 1) pa_nil)) pa_nil))) (fun _ _ => rfl)))), ?_⟩
    refine ⟨_, rfl, _, rfl, _, rfl, l, _, rfl, .inl (SqL.of hl), p, _, rfl, hp, by omega, bd_small (by omega) (lt60 (by omega)) (by decide), fun r H' r0 r1 st => ?_⟩
    obtain ⟨j, rfl⟩ : ∃ j : Nat, r = (j : Int) := ⟨r.toNat, by omega⟩
    have hj : j < xs.length := by omega
    exact ⟨l, xs, _, _, rfl, rfl, SqL.of (st.keep l _ n hl), atI_nat (List.getElem?_eq_getElem hj), q j _ H' (List.getElem?_eq_getElem hj) st⟩

/-! ### _law_common -/
def spCommon : Sp := fun vs H Q _ => ∃ a b : Int, vs = [.int a, .int b] ∧ Q (.int (Int.gcd a b : Nat)) H
theorem scCommon : FnScope ["_law_one", "_law_two"] ["_law_one", "_law_two"] (defScope sCommon) := ⟨rfl, rfl, rfl, by decide +kernel, rfl, by decide +kernel, by decide +kernel⟩
theorem abs_eq (a : Int) : (if a < 0 then -a else a) = (a.natAbs : Int) := by
  by_cases h : a < 0
  · rw [if_pos h]; omega
  · rw [if_neg h]; omega
theorem ok_common {f : Addr} {fd : FuncData} (F : FnP K "_law_common" "_law_common" sCommon [] f fd) (T : LT mg) : FnOk P w K mg base CX0 1 f fd ["_law_one", "_law_two"] spCommon := by
  refine F.ok scCommon (fun vs H Q E h => ?_) (fun cdv A outer s H vs Q E hr h => ?_)
  · obtain ⟨a, b, rfl, _⟩ := h
    rfl
  · obtain ⟨a, b, rfl, q⟩ := h
    refine ⟨_, PSs.nox (pss_cons (ps_par (i := 0) (j := 1) rfl scCommon.nd rfl rfl (by decide) rfl rfl (pa_cons (pe_callB call_abs (by rfl) T.abs PyProof.Rows.boot_abs (pa_cons (pv 0) pa_nil)) (pa_cons (pe_callB call_abs (by rfl) T.abs PyProof.Rows.boot_abs (pa_cons (pv 1) pa_nil)) pa_nil)) rfl)
      (pss_cons (ps_while PassesOwn.never (pt_cmpR op_gt (pv 1) pe_int (nomark _)) (pss_one (ps_par (i := 0) (j := 1) rfl scCommon.nd rfl rfl (by decide) rfl rfl (pa_cons (pv 1) (pa_cons (pe_op op_mod (pe_callTy call_int1 rfl T.int PyProof.Rows.boot_int (pa_cons (pv 0) pa_nil)) (pv 1)) pa_nil)) rfl)))
      (pss_one (ps_ret (pv 0))))), ?_⟩
    refine ⟨_, rfl, a, rfl, _, rfl, b, rfl, _, _, rfl, ?_⟩
    refine while_by (fun σ H' => ∃ m n : Nat, σ = [some (.int m), some (.int n)] ∧ H' = H ∧ Nat.gcd m n = Int.gcd a b) (fun σ _ => match σ with | [_, some (.int n)] => n.toNat | _ => 0) ⟨a.natAbs, b.natAbs, ?_, rfl, rfl⟩ ?_ ?_
    · rw [abs_eq, abs_eq]; rfl
    · rintro σ H' ⟨m, n, rfl, rfl, hg⟩
      refine ⟨_, rfl, _, _, rfl, rfl, _, rfl, ?_⟩
      refine ite2 (fun c => ?_) (fun c => ?_)
      · have c' : 0 < (n : Int) := of_decide_eq_true c
        refine ⟨_, rfl, _, rfl, .inl ⟨_, rfl, _, rfl, _, _, rfl, rfl, c', _, _, rfl, ?_⟩⟩
        have hn : 0 < n := by omega
        refine ⟨⟨n, m % n, ?_, rfl, ?_⟩, ?_⟩
        · show [some (V.int (n : Int)), some (V.int ((m : Int) % (n : Int)))] = _
          rw [Int.natCast_emod]
        · rw [← hg, Nat.gcd_comm n (m % n), ← Nat.gcd_rec, Nat.gcd_comm]
        · show (((m : Int) % (n : Int)).toNat) < ((n : Int).toNat)
          have h1 := Int.emod_lt_of_pos (m : Int) c'
          have h2 := Int.emod_nonneg (m : Int) (show (n : Int) ≠ 0 by omega)
          omega
      · have c' : ¬ 0 < (n : Int) := fun z => c (decide_eq_true z)
        have hn : n = 0 := by omega
        subst hn
        rw [Nat.gcd_zero_right] at hg
        refine ⟨_, rfl, ?_⟩
        rw [hg]
        exact q
    · intro σ H' Q1 Q2 hq h
      obtain ⟨v, hv, i, j, hi, hj, k, hk, q1⟩ := h
      exact ⟨v, hv, i, j, hi, hj, k, hk, hq _ _ q1⟩

/-! ### pairs -/
def PairAt (H : Hp) (p : Addr) (a : Int × Int) : Prop := H p = some (.tup [.int a.1, .int a.2])
theorem PairAt.same {H H' : Hp} {p : Addr} {a : Int × Int} (h : PairAt H p a) (s : Same H H') : PairAt H' p a := s _ _ h
def spLow : Sp := fun vs H Q _ => ∃ u l : Int, vs = [.int u, .int l] ∧ l ≠ 0 ∧ Bd 8000 l ∧ ∀ p H', PairAt H' p (low u l) → Same H H' → H p = none → Q (.ref p) H'
theorem scLow : FnScope ["_law_up", "_law_low_here", "_law_by"] ["_law_up", "_law_low_here"] (defScope sLow) := ⟨rfl, rfl, rfl, by decide +kernel, rfl, by decide +kernel, by decide +kernel⟩
theorem ok_low {f : Addr} {fd : FuncData} (F : FnP K "_law_low" "_law_low" sLow [] f fd) (D : Dfn P w K mg base 1 "_law_common" ["_law_one", "_law_two"] spCommon) : FnOk P w K mg base CX0 2 f fd ["_law_up", "_law_low_here"] spLow := by
  refine F.ok scLow (fun vs H Q E h => ?_) (fun cdv A outer s H vs Q E hr h => ?_)
  · obtain ⟨u, l, rfl, _⟩ := h
    rfl
  · obtain ⟨u, l, rfl, hl, hb, q⟩ := h
    refine ⟨_, PSs.nox (pss_cons (ps_set (i := 2) scLow.nd rfl (Or.inl rfl) (pe_op op_mul (pe_use D hr rfl (pa_cons (pv 0) (pa_cons (pv 1) pa_nil))) (pe_ifExp (pt_cmpR op_gt (pv 1) pe_int (nomark _)) pe_int (pe_un un_neg pe_int))))
      (pss_one (ps_ret (pe_tup (pa_cons (pe_op op_fdivZ (pv 0) (pv 2)) (pa_cons (pe_op op_fdivZ (pv 1) (pv 2)) pa_nil)))))), ?_⟩
    have fin : ∀ g : Int, g = byv u l → tRet (tTup (tCons (tOp (rI CDivZ fun i j => .int (i.fdiv j)) (tVar 0) (tVar 2)) (tCons (tOp (rI CDivZ fun i j => .int (i.fdiv j)) (tVar 1) (tVar 2)) tNil)))
        { nx := fun _ H' => Q .non H', rt := Q } [some (.int u), some (.int l), some (.int g)] H := by
      rintro g rfl
      refine ⟨_, rfl, _, rfl, _, _, rfl, rfl, cdivZ' hl hb (by decide) (by decide), _, rfl, _, rfl, _, _, rfl, rfl, cdivZ' hl hb (by decide) (by decide), (by show 2 ≤ sizeLine; decide), fun p hp => ?_⟩
      exact q p _ upd_same (same_upd hp) hp
    refine ⟨_, rfl, _, rfl, u, l, rfl, ?_⟩
    refine ⟨_, rfl, _, _, rfl, rfl, _, rfl, ?_⟩
    refine ite2 (fun c => ?_) (fun c => ?_)
    · have c' : 0 < l := of_decide_eq_true c
      refine ⟨_, _, rfl, rfl, .inr ⟨by decide, by decide⟩, fin _ ?_⟩
      unfold byv sg
      rw [if_pos c']
    · have c' : ¬ 0 < l := fun z => c (decide_eq_true z)
      refine ⟨_, rfl, _, _, rfl, rfl, .inr ⟨by decide, by decide⟩, fin _ ?_⟩
      unfold byv sg
      rw [if_neg c']
end
end La
namespace La
open PySem PySem.Spec PyProof.Rows L2 Ow Rm Ra
/-- a pair of the law: in lowest terms, not too great -/
structure Pr (H : Hp) (p : Addr) (a : Int × Int) : Prop where
  at_ : PairAt H p a
  lw : Lw a.1 a.2
  b1 : Bd 2500 a.1
  b2 : Bd 2500 a.2
theorem Pr.same {H H' : Hp} {p : Addr} {a : Int × Int} (h : Pr H p a) (s : Same H H') : Pr H' p a := ⟨h.at_.same s, h.lw, h.b1, h.b2⟩
theorem PairAt.st {H H' : Hp} {p q : Addr} {a : Int × Int} (h : PairAt H p a) (hp : Pot H q) (s : Stp q H H') : PairAt H' p a := by
  obtain ⟨x, y, e, _⟩ := hp
  exact s.keep p _ (fun z => by rw [z] at h; exact nomatch (Option.some.inj (h.symm.trans e))) h
theorem Pr.st {H H' : Hp} {p q : Addr} {a : Int × Int} (h : Pr H p a) (hp : Pot H q) (s : Stp q H H') : Pr H' p a := ⟨h.at_.st hp s, h.lw, h.b1, h.b2⟩
theorem RatAt.st {C : Addr} {H H' : Hp} {p q : Addr} {n d : Int} (h : RatAt C H p n d) (hp : Pot H q) (s : Stp q H H') : RatAt C H' p n d := by
  obtain ⟨x, y, e, _⟩ := hp
  obtain ⟨dx, h⟩ := h
  exact ⟨dx, s.keep p _ (fun z => by rw [z] at h; exact nomatch (Option.some.inj (h.symm.trans e))) h⟩
theorem NumAt.st {C : Addr} {H H' : Hp} {v : V} {q : Addr} {n d : Int} (h : NumAt C H v n d) (hp : Pot H q) (s : Stp q H H') : NumAt C H' v n d := by
  rcases h with ⟨p, e, r⟩ | ⟨e, r⟩
  · exact .inl ⟨p, e, RatAt.st r hp s⟩
  · exact .inr ⟨e, r⟩

section
variable {P : Program} {w : World} {K : PySem.W.Frag} {mg : Str → Option Value} {base : Heap}
abbrev DLow (P : Program) (w : World) (K : PySem.W.Frag) (mg : Str → Option Value) (base : Heap) : Prop := Dfn P w K mg base 2 "_law_low" ["_law_up", "_law_low_here"] spLow
abbrev DPick (P : Program) (w : World) (K : PySem.W.Frag) (mg : Str → Option Value) (base : Heap) : Prop := Dfn P w K mg base 2 "_law_pick" ["_law_pot_here", "_law_some"] spPick

def spP2 (op : Int × Int → Int × Int → Int × Int) : Sp := fun vs H Q _ => ∃ (p q : Addr) (a b : Int × Int), vs = [.ref p, .ref q] ∧ Pr H p a ∧ Pr H q b ∧ ∀ r H', PairAt H' r (op a b) → Same H H' → H r = none → Q (.ref r) H'
theorem ix2_0 (a : Int × Int) : atI [V.int a.1, V.int a.2] 0 = some (.int a.1) := rfl
theorem ix2_1 (a : Int × Int) : atI [V.int a.1, V.int a.2] 1 = some (.int a.2) := rfl
theorem scPlus : FnScope ["_law_a", "_law_b"] ["_law_a", "_law_b"] (defScope sPlus) := ⟨rfl, rfl, rfl, by decide +kernel, rfl, by decide +kernel, by decide +kernel⟩
theorem ok_plus {f : Addr} {fd : FuncData} (F : FnP K "_law_plus" "_law_plus" sPlus [] f fd) (D : DLow P w K mg base) : FnOk P w K mg base CX0 3 f fd ["_law_a", "_law_b"] (spP2 plus) := by
  refine F.ok scPlus (fun vs H Q E h => ?_) (fun cdv A outer s H vs Q E hr h => ?_)
  · obtain ⟨p, q, a, b, rfl, _⟩ := h
    rfl
  · obtain ⟨p, q, a, b, rfl, ha, hb, k⟩ := h
    refine ⟨_, PSs.nox (pss_one (ps_ret (pe_use D hr rfl (pa_cons (pe_op op_add (pe_op op_mulW (pe_ix ix_tup (pv 0) pe_int (fun _ _ => rfl)) (pe_ix ix_tup (pv 1) pe_int (fun _ _ => rfl))) (pe_op op_mulW (pe_ix ix_tup (pv 1) pe_int (fun _ _ => rfl)) (pe_ix ix_tup (pv 0) pe_int (fun _ _ => rfl))))
      (pa_cons (pe_op op_mulW (pe_ix ix_tup (pv 0) pe_int (fun _ _ => rfl)) (pe_ix ix_tup (pv 1) pe_int (fun _ _ => rfl))) pa_nil))))), ?_⟩
    have sa : SqT K H p [.int a.1, .int a.2] := SqT.of ha.at_
    have sb : SqT K H q [.int b.1, .int b.2] := SqT.of hb.at_
    refine ⟨_, rfl, p, _, _, _, rfl, rfl, sa, ix2_0 a, _, rfl, q, _, _, _, rfl, rfl, sb, ix2_1 b, _, _, rfl, rfl, cmul ha.b1 hb.b2, _, rfl, q, _, _, _, rfl, rfl, sb, ix2_0 b, _, rfl, p, _, _, _, rfl, rfl, sa, ix2_1 a, _, _, rfl, rfl, cmul hb.b1 ha.b2, _, _, rfl, rfl,
      _, rfl, p, _, _, _, rfl, rfl, sa, ix2_1 a, _, rfl, q, _, _, _, rfl, rfl, sb, ix2_1 b, _, _, rfl, rfl, cmul ha.b2 hb.b2, _, _, rfl, mul_ne ha.lw.pos hb.lw.pos, (ha.b2.mul hb.b2).mono (by decide), k⟩
theorem scMinus : FnScope ["_law_a", "_law_b"] ["_law_a", "_law_b"] (defScope sMinus) := ⟨rfl, rfl, rfl, by decide +kernel, rfl, by decide +kernel, by decide +kernel⟩
theorem ok_minus {f : Addr} {fd : FuncData} (F : FnP K "_law_minus" "_law_minus" sMinus [] f fd) (D : DLow P w K mg base) : FnOk P w K mg base CX0 3 f fd ["_law_a", "_law_b"] (spP2 minus) := by
  refine F.ok scMinus (fun vs H Q E h => ?_) (fun cdv A outer s H vs Q E hr h => ?_)
  · obtain ⟨p, q, a, b, rfl, _⟩ := h
    rfl
  · obtain ⟨p, q, a, b, rfl, ha, hb, k⟩ := h
    refine ⟨_, PSs.nox (pss_one (ps_ret (pe_use D hr rfl (pa_cons (pe_op op_sub (pe_op op_mulW (pe_ix ix_tup (pv 0) pe_int (fun _ _ => rfl)) (pe_ix ix_tup (pv 1) pe_int (fun _ _ => rfl))) (pe_op op_mulW (pe_ix ix_tup (pv 1) pe_int (fun _ _ => rfl)) (pe_ix ix_tup (pv 0) pe_int (fun _ _ => rfl))))
      (pa_cons (pe_op op_mulW (pe_ix ix_tup (pv 0) pe_int (fun _ _ => rfl)) (pe_ix ix_tup (pv 1) pe_int (fun _ _ => rfl))) pa_nil))))), ?_⟩
    have sa : SqT K H p [.int a.1, .int a.2] := SqT.of ha.at_
    have sb : SqT K H q [.int b.1, .int b.2] := SqT.of hb.at_
    refine ⟨_, rfl, p, _, _, _, rfl, rfl, sa, ix2_0 a, _, rfl, q, _, _, _, rfl, rfl, sb, ix2_1 b, _, _, rfl, rfl, cmul ha.b1 hb.b2, _, rfl, q, _, _, _, rfl, rfl, sb, ix2_0 b, _, rfl, p, _, _, _, rfl, rfl, sa, ix2_1 a, _, _, rfl, rfl, cmul hb.b1 ha.b2, _, _, rfl, rfl,
      _, rfl, p, _, _, _, rfl, rfl, sa, ix2_1 a, _, rfl, q, _, _, _, rfl, rfl, sb, ix2_1 b, _, _, rfl, rfl, cmul ha.b2 hb.b2, _, _, rfl, mul_ne ha.lw.pos hb.lw.pos, (ha.b2.mul hb.b2).mono (by decide), k⟩
theorem scTimes : FnScope ["_law_a", "_law_b"] ["_law_a", "_law_b"] (defScope sTimes) := ⟨rfl, rfl, rfl, by decide +kernel, rfl, by decide +kernel, by decide +kernel⟩
theorem ok_times {f : Addr} {fd : FuncData} (F : FnP K "_law_times" "_law_times" sTimes [] f fd) (D : DLow P w K mg base) : FnOk P w K mg base CX0 3 f fd ["_law_a", "_law_b"] (spP2 times) := by
  refine F.ok scTimes (fun vs H Q E h => ?_) (fun cdv A outer s H vs Q E hr h => ?_)
  · obtain ⟨p, q, a, b, rfl, _⟩ := h
    rfl
  · obtain ⟨p, q, a, b, rfl, ha, hb, k⟩ := h
    refine ⟨_, PSs.nox (pss_one (ps_ret (pe_use D hr rfl (pa_cons (pe_op op_mulW (pe_ix ix_tup (pv 0) pe_int (fun _ _ => rfl)) (pe_ix ix_tup (pv 1) pe_int (fun _ _ => rfl)))
      (pa_cons (pe_op op_mulW (pe_ix ix_tup (pv 0) pe_int (fun _ _ => rfl)) (pe_ix ix_tup (pv 1) pe_int (fun _ _ => rfl))) pa_nil))))), ?_⟩
    have sa : SqT K H p [.int a.1, .int a.2] := SqT.of ha.at_
    have sb : SqT K H q [.int b.1, .int b.2] := SqT.of hb.at_
    refine ⟨_, rfl, p, _, _, _, rfl, rfl, sa, ix2_0 a, _, rfl, q, _, _, _, rfl, rfl, sb, ix2_0 b, _, _, rfl, rfl, cmul ha.b1 hb.b1,
      _, rfl, p, _, _, _, rfl, rfl, sa, ix2_1 a, _, rfl, q, _, _, _, rfl, rfl, sb, ix2_1 b, _, _, rfl, rfl, cmul ha.b2 hb.b2, _, _, rfl, mul_ne ha.lw.pos hb.lw.pos, (ha.b2.mul hb.b2).mono (by decide), k⟩

/-! ### integers, parts -/
def spInteger : Sp := fun vs H Q _ => ∃ p : Addr, vs = [.ref p] ∧ Pot H p ∧ ∀ n H', Bd 60 n → Stp p H H' → Q (.int n) H'
theorem scInteger : FnScope ["_law_pot_here", "_law_found"] ["_law_pot_here"] (defScope sInteger) := ⟨rfl, rfl, rfl, by decide +kernel, rfl, by decide +kernel, by decide +kernel⟩
theorem stp_new {p q : Addr} {H : Hp} {o : HO} (h : Pot H p) (hq : H q = none) : Stp p H (upd H q o) := Stp.of (same_upd hq) h
theorem pot_ne {p q : Addr} {H : Hp} (h : Pot H p) (hq : H q = none) : q ≠ p := by
  obtain ⟨a, b, e, _⟩ := h
  exact (ne_of_none e hq).symm
theorem sizes7 (j : Nat) (x : V) (h : ([.int 2, .int 3, .int 6, .int 13, .int 100, .int (10 ^ (6 : Int).toNat), .int (10 ^ (12 : Int).toNat)] : List V)[j]? = some x) : ∃ m : Int, x = .int m ∧ 0 < m ∧ m ≤ 1000000000000 := by
  rcases j with _ | _ | _ | _ | _ | _ | _ | j
  · cases h; exact ⟨_, rfl, by decide, by decide⟩
  · cases h; exact ⟨_, rfl, by decide, by decide⟩
  · cases h; exact ⟨_, rfl, by decide, by decide⟩
  · cases h; exact ⟨_, rfl, by decide, by decide⟩
  · cases h; exact ⟨_, rfl, by decide, by decide⟩
  · cases h; exact ⟨_, rfl, by decide, by decide⟩
  · cases h; exact ⟨_, rfl, by decide, by decide⟩
  · exact nomatch h
theorem e60 : (2 : Int) ^ 60 = 1152921504606846976 := by decide
theorem ok_integer {f : Addr} {fd : FuncData} (F : FnP K "_law_integer" "_law_integer" sInteger [] f fd) (D : DDraw P w K mg base) (G : DPick P w K mg base) : FnOk P w K mg base CX0 3 f fd ["_law_pot_here"] spInteger := by
  refine F.ok scInteger (fun vs H Q E h => ?_) (fun cdv A outer s H vs Q E hr h => ?_)
  · obtain ⟨p, rfl, _⟩ := h
    rfl
  · obtain ⟨p, rfl, hp, q⟩ := h
    have hr1 := hr.mono (by decide : 1 ≤ 2)
    refine ⟨_, PSs.nox (pss_cons (ps_set (i := 1) scInteger.nd rfl (Or.inl rfl) (pe_use D hr1 rfl (pa_cons (pv 0) (pa_cons (pe_use G hr rfl (pa_cons (pv 0) (pa_cons (pe_lst (pa_cons pe_int (pa_cons pe_int (pa_cons pe_int (pa_cons pe_int (pa_cons pe_int (pa_cons (pe_op op_pow pe_int pe_int) (pa_cons (pe_op op_pow pe_int pe_int) pa_nil)))))))) pa_nil))) pa_nil))))
      (pss_one (ps_ret (pe_ifExp (pt_cmpR op_eq (pe_use D hr1 rfl (pa_cons (pv 0) (pa_cons pe_int pa_nil))) pe_int (nomark _)) (pe_un un_neg (pv 1)) (pv 1))))), ?_⟩
    refine ⟨_, rfl, _, rfl, _, _, rfl, rfl, ⟨by decide, by decide, by decide⟩, _, _, rfl, rfl, ⟨by decide, by decide, by decide⟩, (by show 7 ≤ sizeLine; decide), fun l hl => ?_⟩
    have s0 := fun o => stp_new (o := o) hp hl
    refine ⟨p, l, _, rfl, (s0 _).pot, pot_ne hp hl, upd_same, (by show 0 < 7; decide), (by show 7 ≤ 1000; decide), fun j x H1 hx s1 => ?_⟩
    obtain ⟨m, rfl, m0, m1⟩ := sizes7 j x hx
    have e := e60
    refine ⟨p, m, rfl, s1.pot, m0, bd_small (by omega) (by omega) (by decide), fun r H2 r0 r1 s2 => ?_⟩
    have br : Bd 60 r := bd_small r0 (by omega) (by decide)
    refine ⟨_, rfl, p, 2, rfl, s2.pot, (by decide), bd_small (by decide) (by decide) (by decide), fun z H3 z0 z1 s3 => ?_⟩
    have st := (((s0 _).trans s1).trans s2).trans s3
    refine ⟨rfl, _, rfl, ?_⟩
    refine ite2 (fun c => ?_) (fun c => ?_)
    · exact ⟨_, rfl, _, rfl, q _ _ br.neg st⟩
    · exact ⟨_, rfl, q _ _ br st⟩

def spParts : Sp := fun vs H Q _ => ∃ p : Addr, vs = [.ref p] ∧ Pot H p ∧ ∀ (t : Addr) (u l : Int) (H' : Hp), Bd 60 u → Bd 60 l → l ≠ 0 → PairAt H' t (u, l) → Stp p H H' → Q (.ref t) H'
theorem scParts : FnScope ["_law_pot_here", "_law_up", "_law_low_here"] ["_law_pot_here"] (defScope sParts) := ⟨rfl, rfl, rfl, by decide +kernel, rfl, by decide +kernel, by decide +kernel⟩
theorem three (j : Nat) (x : V) (h : ([.int 1, .int (-1), .int 7] : List V)[j]? = some x) : ∃ m : Int, x = .int m ∧ m ≠ 0 ∧ Bd 60 m := by
  rcases j with _ | _ | _ | j
  · cases h; exact ⟨1, rfl, by decide, bd_small (by decide) (by decide) (by decide)⟩
  · cases h; exact ⟨-1, rfl, by decide, (bd_one (k := 60) (by decide)).neg⟩
  · cases h; exact ⟨7, rfl, by decide, bd_small (by decide) (by decide) (by decide)⟩
  · exact nomatch h
theorem ok_parts {f : Addr} {fd : FuncData} (F : FnP K "_law_parts" "_law_parts" sParts [] f fd) (D : Dfn P w K mg base 3 "_law_integer" ["_law_pot_here"] spInteger) (G : DPick P w K mg base) : FnOk P w K mg base CX0 4 f fd ["_law_pot_here"] spParts := by
  refine F.ok scParts (fun vs H Q E h => ?_) (fun cdv A outer s H vs Q E hr h => ?_)
  · obtain ⟨p, rfl, _⟩ := h
    rfl
  · obtain ⟨p, rfl, hp, q⟩ := h
    have hr2 := hr.mono (by decide : 2 ≤ 3)
    refine ⟨_, PSs.nox (pss_cons (ps_par (i := 1) (j := 2) rfl scParts.nd rfl rfl (by decide) rfl rfl (pa_cons (pe_use D hr rfl (pa_cons (pv 0) pa_nil)) (pa_cons (pe_use D hr rfl (pa_cons (pv 0) pa_nil)) pa_nil)) rfl)
      (pss_one (ps_ret (pe_tup (pa_cons (pv 1) (pa_cons (pe_ifExp (pt_cmpR op_ne (pv 2) pe_int (nomark _)) (pv 2) (pe_use G hr2 rfl (pa_cons (pv 0) (pa_cons (pe_lst (pa_cons pe_int (pa_cons (pe_un un_neg pe_int) (pa_cons pe_int pa_nil)))) pa_nil)))) pa_nil)))))), ?_⟩
    refine ⟨_, rfl, p, rfl, hp, fun u H1 bu s1 => ?_⟩
    refine ⟨_, rfl, p, rfl, s1.pot, fun l H2 bl s2 => ⟨_, _, rfl, ?_⟩⟩
    refine ⟨_, rfl, _, rfl, rfl, _, rfl, ?_⟩
    have st := s1.trans s2
    by_cases hl : l = 0
    · have e : (!decide (V.int l = V.int 0)) = false := by rw [hl]; rfl
      rw [e]
      refine iteF ?_
      refine ⟨_, rfl, _, rfl, (by show 3 ≤ sizeLine; decide), fun t ht => ?_⟩
      have s3 := fun o => stp_new (o := o) s2.pot ht
      refine ⟨p, t, _, rfl, (s3 _).pot, pot_ne s2.pot ht, upd_same, (by show 0 < 3; decide), (by show 3 ≤ 1000; decide), fun j x H3 hx s4 => ?_⟩
      obtain ⟨m, rfl, m0, bm⟩ := three j x hx
      refine ⟨by show 2 ≤ sizeLine; decide, fun t2 ht2 => ?_⟩
      exact q t2 u m _ bu bm m0 upd_same (((st.trans (s3 _)).trans s4).trans (stp_new s4.pot ht2))
    · have e : (!decide (V.int l = V.int 0)) = true := by rw [decide_eq_false (fun z => hl (V.int.inj z))]; rfl
      rw [e]
      refine iteT ?_
      refine ⟨_, rfl, (by show 2 ≤ sizeLine; decide), fun t ht => ?_⟩
      exact q t u l _ bu bl hl upd_same (st.trans (stp_new s2.pot ht))
end
end La
namespace La
open PySem PySem.Spec PyProof.Rows L2 Ow Rm Ra

/-! ### texts are texts -/
def Sane (x : Str) : Prop := ∀ c ∈ x.cps.toList, c < 16 ^ 8
theorem sane_of (z : String) : Sane (Str.ofString z) := by
  intro c hc
  rw [signs_ofString] at hc
  obtain ⟨ch, _, rfl⟩ := List.mem_map.mp hc
  exact ch.val.toNat_lt
theorem sane_app {x y : Str} (hx : Sane x) (hy : Sane y) : Sane (x ++ y) := by
  intro c hc
  rw [Str.cps_append, Array.toList_append] at hc
  rcases List.mem_append.mp hc with h | h
  · exact hx c h
  · exact hy c h
theorem sane_txt (n d : Int) : Sane (txt n d) := by
  unfold txt
  split
  · exact sane_of _
  · exact sane_app (sane_app (sane_of _) (sane_of _)) (sane_of _)
theorem sane_shw (n d : Int) : Sane (shw n d) := sane_app (sane_app (sane_app (sane_app (sane_of _) (sane_of _)) (sane_of _)) (sane_of _)) (sane_of _)
theorem txt_len {n d : Int} (hn : Bd 1900 n) (hd : Bd 1900 d) : (txt n d).length ≤ 3803 := by
  have h1 := it_len hn
  have h2 := it_len hd
  unfold txt
  split
  · omega
  · rw [strLen_append, strLen_append, len1]; omega
theorem shw_len {n d : Int} (hn : Bd 1900 n) (hd : Bd 1900 d) : (shw n d).length ≤ 3811 := by
  have h1 := it_len hn
  have h2 := it_len hd
  unfold shw
  rw [strLen_append, strLen_append, strLen_append, strLen_append, len6, len2, len3]; omega
/-- what is shown of a ratio -/
def five (n d : Int) : PyData := .list [.int n, .int d, .int n.sign, .str (txt n d), .str (shw n d)]
theorem sign_log (n : Int) : n.sign.natAbs.log2 < 1920 := by
  have h : n.sign.natAbs ≤ 1 := by
    rcases Int.lt_trichotomy n 0 with h | h | h
    · rw [Int.sign_eq_neg_one_of_neg h]; decide
    · rw [h]; decide
    · rw [Int.sign_eq_one_of_pos h]; decide
  have : n.sign.natAbs < 2 ^ 1 := by omega
  by_cases h0 : n.sign.natAbs = 0
  · rw [h0]; decide
  · exact Nat.lt_trans ((Nat.log2_lt h0).mpr this) (by decide)
theorem five_show {n d : Int} (hn : Bd 1900 n) (hd : Bd 1900 d) : (five n d).showable = true := by
  unfold five
  simp only [PyData.showable, PyData.showableAll, decide_eq_true (lt1920 hn), decide_eq_true (lt1920 hd), decide_eq_true (sign_log n), Bool.and_self]
theorem five_dict (n d : Int) : (five n d).hasDict = false := by
  unfold five
  simp only [PyData.hasDict, PyData.hasDictAll, Bool.or_self]
theorem five_depth (n d : Int) : (five n d).depth ≤ 20 := by
  unfold five
  simp only [PyData.depth, PyData.depthAll]
  decide
theorem sign_len (n : Int) : (it n.sign).length ≤ 3 := by
  rcases Int.lt_trichotomy n 0 with h | h | h
  · rw [Int.sign_eq_neg_one_of_neg h]; decide +kernel
  · rw [h]; decide +kernel
  · rw [Int.sign_eq_one_of_pos h]; decide +kernel
theorem five_len {n d : Int} (hn : Bd 1900 n) (hd : Bd 1900 d) : (five n d).shown.length ≤ sizeLine := by
  have h1 : (Str.ofString (toString n)).length ≤ 1901 := it_len hn
  have h2 : (Str.ofString (toString d)).length ≤ 1901 := it_len hd
  have h3 : (Str.ofString (toString n.sign)).length ≤ 3 := sign_len n
  have h4 := StrLaws.reprText_len (txt n d) (sane_txt n d)
  have h5 := StrLaws.reprText_len (shw n d) (sane_shw n d)
  have h6 := txt_len hn hd
  have h7 := shw_len hn hd
  unfold five
  simp only [PyData.shown, PyData.shownAll]
  refine Nat.le_trans (listText_len_le _) ?_
  simp only [List.map_cons, List.map_nil, List.sum_cons, List.sum_nil, List.length_cons, List.length_nil]
  refine line _ ?_
  omega

/-- a def that shows an instance -/
structure ShX (P : Program) (w : World) (K : PySem.W.Frag) (mg : Str → Option Value) (base : Heap) (C : Addr) (nm : Str) (g : Int → Int → Str) : Prop where
  ex : ∃ f fd, OpOf K C nm f ∧ FnOk P w K mg base CX0 1 f fd ["self"] (spText g C) ∧ Binds K fd ["self"] []
section
variable {X : Cx} {C : Addr} {g : Int → Int → Str}
theorem shown_repr (O : ShX X.prog X.w X.K X.mg X.base C "__repr__" g) (hr : Room 2 X.A) : CallR X (.builtin "repr") (rShow C (spText g C) E0) := by
  obtain ⟨f, fd, o, F, hb⟩ := O.ex
  exact call_repr_own o F hr hb pass0
theorem shown_str (O : ShX X.prog X.w X.K X.mg X.base C "__str__" g) (hr : Room 3 X.A) : CallR X (.type "str") (rShow C (spText g C) E0) := by
  obtain ⟨f, fd, o, F, hb⟩ := O.ex
  exact call_str_own o F hr hb pass0
end
theorem dp_five {K : PySem.W.Frag} {H : Hp} {p : Addr} {n d : Int} (h : H p = some (.lst [.int n, .int d, .int n.sign, .str (txt n d), .str (shw n d)])) : Dp K H (.ref p) (five n d) :=
  .lst (SqL.of h) (.cons (.int _) (.cons (.int _) (.cons (.int _) (.cons (.str _) (.cons (.str _) .nil)))))
theorem sign_of (n : Int) : (if decide (0 < n) = true then (1 : Int) else 0) - (if decide (n < 0) = true then (1 : Int) else 0) = n.sign := by
  rcases Int.lt_trichotomy n 0 with h | h | h
  · rw [Int.sign_eq_neg_one_of_neg h, decide_eq_false (by omega), decide_eq_true h]; rfl
  · rw [h]; rfl
  · rw [Int.sign_eq_one_of_pos h, decide_eq_true h, decide_eq_false (by omega)]; rfl

/-! ### _law_is -/
section
variable {P : Program} {w : World} {K : PySem.W.Frag} {mg : Str → Option Value} {base : Heap}
def spIs (C : Addr) : Sp := fun vs H Q _ => ∃ (p q : Addr) (a : Int × Int), vs = [.ref p, .ref q] ∧ RatAt C H p a.1 a.2 ∧ PairAt H q a ∧ Bd 1900 a.1 ∧ Bd 1900 a.2 ∧ ∀ H', Same H H' → Q (.bl true) H'
theorem scIs : FnScope ["_law_made", "_law_due", "_law_up", "_law_low_here", "_law_sign", "_law_text", "_law_shown", "_law_told"] ["_law_made", "_law_due"] (defScope sIs) := ⟨rfl, rfl, rfl, by decide +kernel, rfl, by decide +kernel, by decide +kernel⟩
theorem ok_is {f C : Addr} {fd : FuncData} (F : FnP K "_law_is" "_law_is" sIs [] f fd) (T : RT K mg C) (L : LT mg) (pT : PT_ P w K mg base C) (pB : PB_ P w K mg base C) (pS : PS_ P w K mg base C)
    (oS : ShX P w K mg base C "__str__" txt) (oR : ShX P w K mg base C "__repr__" shw) : FnG P w K mg base CX0 4 f fd ["_law_made", "_law_due"] (spIs C) := by
  refine fnG_ok (k := 3) F scIs (fun vs H Q E h => ?_) (fun cdv A outer s H vs Q E hr hg h => ?_)
  · obtain ⟨p, q, a, rfl, _⟩ := h
    rfl
  · obtain ⟨p, q, ⟨n, d⟩, rfl, hp, hq, hn, hd, k⟩ := h
    have hr2 := hr.mono (by decide : 2 ≤ 3)
    have hr0 := hr.mono (by decide : 0 ≤ 3)
    refine ⟨_, PSs.nox (pss_cons (ps_asg (pv 1) (pg_tup (by rfl) (pgs_cons (pg_name (i := 2) scIs.nd rfl (.inl rfl)) (pgs_cons (pg_name (i := 3) scIs.nd rfl (.inl rfl)) pgs_nil))))
      (pss_cons (ps_set (i := 4) scIs.nd rfl (Or.inl rfl) (pe_op op_sub (pe_callTy call_int1 rfl L.int PyProof.Rows.boot_int (pa_cons (pe_cmpR op_gt (pv 2) pe_int (nomark _)) pa_nil)) (pe_callTy call_int1 rfl L.int PyProof.Rows.boot_int (pa_cons (pe_cmpR op_lt (pv 2) pe_int (nomark _)) pa_nil))))
      (C8.pss_cut (ps_set (i := 5) scIs.nd rfl (Or.inl rfl) (pe_ifExp (pt_cmpR op_eq (pv 3) pe_int (nomark _)) (pe_callTy call_str_int rfl L.str PyProof.Rows.boot_str (pa_cons (pv 2) pa_nil))
        (pe_op op_add_str (pe_op op_add_str (pe_callTy call_str_int rfl L.str PyProof.Rows.boot_str (pa_cons (pv 2) pa_nil)) pe_str) (pe_callTy call_str_int rfl L.str PyProof.Rows.boot_str (pa_cons (pv 3) pa_nil)))))
      (pss_cons (ps_set (i := 6) scIs.nd rfl (Or.inl rfl) (pe_op op_add_str (pe_op op_add_str (pe_op op_add_str (pe_op op_add_str pe_str (pe_callTy call_str_int rfl L.str PyProof.Rows.boot_str (pa_cons (pv 2) pa_nil))) pe_str) (pe_callTy call_str_int rfl L.str PyProof.Rows.boot_str (pa_cons (pv 3) pa_nil))) pe_str))
      (pss_cons (ps_set (i := 7) scIs.nd rfl (Or.inl rfl) (pe_lst (pa_cons (pe_prp pT (pv 0) T.cl hr2 rfl) (pa_cons (pe_prp pB (pv 0) T.cl hr2 rfl) (pa_cons (pe_prp pS (pv 0) T.cl hr2 rfl)
        (pa_cons (pe_callTy (shown_str oS hr) rfl L.str PyProof.Rows.boot_str (pa_cons (pv 0) pa_nil)) (pa_cons (pe_callB (shown_repr oR hr2) (by rfl) L.repr PyProof.Rows.boot_repr (pa_cons (pv 0) pa_nil)) pa_nil)))))))
      (pss_one (ps_ret (pe_and (pe_callB call_isi (by rfl) L.isi boot_isinstance (pa_cons (pv 0) (pa_cons (pe_glob (v := .ref C) rfl T.mgC rfl) pa_nil)))
        (pe_one (pe_cmpR op_eq (pe_callB (call_repr_data hg hr0) (by rfl) L.repr PyProof.Rows.boot_repr (pa_cons (pv 7) pa_nil))
          (pe_callB (call_repr_data hg hr0) (by rfl) L.repr PyProof.Rows.boot_repr (pa_cons (pe_lst (pa_cons (pv 2) (pa_cons (pv 3) (pa_cons (pv 4) (pa_cons (pv 5) (pa_cons (pv 6) pa_nil)))))) pa_nil)) (nomark _))))))))))), ?_⟩
    have h1 := it_len hn
    have h2 := it_len hd
    have l1 := lt1920 hn
    have l2 := lt1920 hd
    obtain ⟨dx, hx⟩ := id hp
    refine ⟨_, rfl, q, _, rfl, SqT.of hq, rfl, _, _, rfl, _, _, rfl, rfl, ?_⟩
    refine ⟨_, rfl, _, _, rfl, rfl, .inr ⟨_, rfl, _, rfl, _, _, rfl, rfl, .inr ⟨_, rfl, _, _, rfl, rfl, ?_⟩⟩⟩
    refine ⟨fun σ' H' => σ' = [some (.ref p), some (.ref q), some (.int n), some (.int d), some (.int n.sign), some (.str (txt n d)), none, none] ∧ H' = H, ?_, ?_⟩
    · refine ⟨_, rfl, rfl, _, rfl, ?_⟩
      rw [← sign_of n]
      refine ite2 (fun c => ?_) (fun c => ?_)
      · have c' : d = 1 := V.int.inj (of_decide_eq_true c)
        unfold txt
        rw [if_pos c']
        exact ⟨_, rfl, n, rfl, l1, rfl, rfl⟩
      · have c' : ¬ d = 1 := fun z => c (decide_eq_true (by rw [z]))
        unfold txt
        rw [if_neg c']
        refine ⟨_, rfl, n, rfl, l1, _, _, rfl, rfl, ?_, _, rfl, d, rfl, l2, _, _, rfl, rfl, ?_, rfl, rfl⟩
        · exact line _ (Nat.le_trans (Nat.add_le_add_right h1 1) (by decide))
        · rw [strLen_append]
          exact line _ (Nat.le_trans (Nat.add_le_add (Nat.add_le_add_right h1 1) h2) (by decide))
    · rintro σ' H' ⟨rfl, rfl⟩
      refine ⟨_, rfl, n, rfl, l1, _, _, rfl, rfl, ?_, _, _, rfl, rfl, ?_, _, rfl, d, rfl, l2, _, _, rfl, rfl, ?_, _, _, rfl, rfl, ?_, ?_⟩
      · exact line _ (Nat.le_trans (Nat.add_le_add_left h1 6) (by decide))
      · rw [strLen_append]
        exact line _ (Nat.le_trans (Nat.add_le_add_right (Nat.add_le_add_left h1 6) 2) (by decide))
      · rw [strLen_append, strLen_append]
        exact line _ (Nat.le_trans (Nat.add_le_add (Nat.add_le_add_right (Nat.add_le_add_left h1 6) 2) h2) (by decide))
      · rw [strLen_append, strLen_append, strLen_append]
        exact line _ (Nat.le_trans (Nat.add_le_add_right (Nat.add_le_add (Nat.add_le_add_right (Nat.add_le_add_left h1 6) 2) h2) 1) (by decide))
      refine ⟨_, rfl, p, dx, _, rfl, hx, p, n, d, rfl, hp, _, rfl, p, dx, _, rfl, hx, p, n, d, rfl, hp, _, rfl, p, dx, _, rfl, hx, p, n, d, rfl, hp, ?_⟩
      refine ⟨_, rfl, p, dx, _, rfl, hx, p, n, d, rfl, hp, hn, hd, _, rfl, _, rfl, p, dx, _, rfl, hx, p, n, d, rfl, hp, hn, hd, _, rfl, (by show 5 ≤ sizeLine; decide), fun t ht => ?_⟩
      have s1 : Same H' (upd H' t (.lst [.int n, .int d, .int n.sign, .str (txt n d), .str (shw n d)])) := same_upd ht
      refine ⟨_, rfl, _, .ref C, .ref C, _, true, rfl, .own C, .base (.ins (s1 _ _ hx) T.cl T.ca T.cg T.ct T.cm), T.kCC, true, rfl, ?_⟩
      refine iteT ?_
      refine ⟨_, rfl, t, five n d, rfl, dp_five upd_same, five_show hn hd, five_dict n d, five_depth n d, five_len hn hd, ?_⟩
      refine ⟨_, rfl, _, rfl, _, rfl, _, rfl, _, rfl, (by show 5 ≤ sizeLine; decide), fun t2 ht2 => ?_⟩
      refine ⟨t2, five n d, rfl, dp_five upd_same, five_show hn hd, five_dict n d, five_depth n d, five_len hn hd, rfl, ?_⟩
      have e : decide (V.str (five n d).shown = V.str (five n d).shown) = true := decide_eq_true rfl
      show Q (V.bl (decide (V.str (five n d).shown = V.str (five n d).shown))) _
      rw [e]
      exact k _ (s1.trans (same_upd ht2))
end
end La
namespace Ra
open PySem PySem.Spec PyProof.Rows L2 Ow Rm
/-- o.m(k = v, ..), a method of an instance of the class at C -/
def tMethK (C : Addr) (m : Str) (n : Nat) (sp : Sp) (gV : List V → List V → List V) (E : XK) (ta : TE) (tk : TA) : TE := fun σ H Q => ta σ H fun x H1 => ∃ a dx fs, x = .ref a ∧ H1 a = some (.ins C dx fs) ∧ fs.lookup m = none ∧
  tk σ H1 fun zs H2 => zs.length = n ∧ sp (gV [x] zs) H2 Q E
section
variable {X : Cx} {CX : CXT} {k : Nat} {C f : Addr} {fd : FuncData} {ps ks : List Str} {sp : Sp} {E : XK} {m : Str} {pos apos : Pos} {o : Expr} {kws : List Keyword} {ta : TE} {tk : TA} {g : List Value → List Value → List Value} {gV : List V → List V → List V}
theorem pe_methK0 {pl : Sem Bool} (he : PE X o ta) (c : Cls X.K C) (hm : Meth X.K C m f) (F : FnOk X.prog X.w X.K X.mg X.base CX k f fd ps sp) (hr : Room k X.A) (hb : KBn X.K fd ps 1 ks g gV) (hx : Passes CX X E) (hkw : PK X kws tk)
    (hall : (backToKw pos (keywordEach kws X.env)).all (·.1.isSome) = true := by rfl) (hks : (backToKw pos (keywordEach kws X.env)).filterMap (·.1) = ks := by rfl)
    (hpl : ((backTo pos (starEach [] X.env)).any (·.1) || (backToKw pos (keywordEach kws X.env)).any (·.1.isNone)) = false := by rfl)
    (ht : eval (.Call (.Attribute o m apos) [] kws pos) X.env = (do
      let ov ← eval o X.env
      standAt apos.atName
      let (f, first) ← holding [ov] (getMethod ov m pl)
      callWith pos f first (backTo pos (starEach [] X.env)) (backToKw pos (keywordEach kws X.env))) := by rfl) :
    PE X (.Call (.Attribute o m apos) [] kws pos) (tMethK C m ks.length sp gV E ta tk) := by
  refine ⟨fun pins s σ H Q I h => PySem.W.methodCall_KW (pl := pl) (thn (he.run pins s σ H _ I h) fun u s1 got => ?_) ht⟩
  obtain ⟨x, H1, I1, rx, a, dx, fs, rfl, ea, l, q⟩ := got
  cases rx
  refine getmeth_ok I1 ea c hm l (PySem.W.callWith_KW0 (h₀ := X.base) (first := [.ref a]) I.ok.mod.kin hm.kp hall (thn (hkw.run pos pins s1 σ H1 _ I1 q) fun ws s2 got => ?_) hpl)
  obtain ⟨zs, H2, I2, rz, hl, q2⟩ := got
  refine ⟨I2.kIn, ?_⟩
  rw [hks]
  exact run_fnN (us := [.ref a]) (vs := [.ref a]) F hr hb hx I2 (.cons rfl .nil) rz rfl hl q2
end
theorem kb_plain {K : PySem.W.Frag} {x qual : Str} {pa : Arguments} {bd : List Stmt} {sc : Scope} {kws : List (Str × V)} {f : Addr} {fd : FuncData} {ps : List Str} (F : FunD K x qual pa bd sc [] kws f fd) (n : Nat) (ks : List Str)
    (h : ∀ (kV doc pm : Value) (an : Option Addr) (cdv ct : Value) (us ws : List Value), us.length = n → ws.length = ks.length → bindArgs (PySem.W.fnOf x qual pa bd sc .none kV doc pm an cdv ct) ⟨us, ks.zip ws⟩ = pure (ps.zip (us ++ ws))) :
    KBn K fd ps n ks (fun us ws => us ++ ws) (fun vs zs => vs ++ zs) := by
  obtain ⟨oc, od, dV, kV, doc, pm, an, cdv, ct, osl, rfl, lk, hcd, hD, hK⟩ := F.ex
  rcases hD with ⟨_, rfl⟩ | ⟨e, _⟩
  · exact ⟨fun s us ws _ l1 l2 => .of_eq (h kV doc pm an cdv ct us ws l1 l2), fun a b => a.append b⟩
  · exact absurd rfl e
/-- a method, as others call it, by position and by the name of its one argument -/
structure MtX (P : Program) (w : World) (K : PySem.W.Frag) (mg : Str → Option Value) (base : Heap) (C : Addr) (m : Str) (k : Nat) (sp : Sp) : Prop where
  ex : ∃ f fd, Meth K C m f ∧ FnOk P w K mg base CX0 k f fd ["self", "other"] sp ∧ Binds K fd ["self", "other"] [] ∧ KBn K fd ["self", "other"] 1 ["other"] (fun us ws => us ++ ws) (fun vs zs => vs ++ zs)
end Ra

namespace La
open PySem PySem.Spec PyProof.Rows L2 Ow Rm Ra
/-- a ratio of the bag and its pair -/
structure En (C : Addr) (H : Hp) (o q : Addr) (a : Int × Int) : Prop where
  r : RatAt C H o a.1 a.2
  p : PairAt H q a
  lw : Lw a.1 a.2
  b1 : Bd 300 a.1
  b2 : Bd 300 a.2
theorem En.same {C : Addr} {H H' : Hp} {o q : Addr} {a : Int × Int} (h : En C H o q a) (s : Same H H') : En C H' o q a := ⟨h.r.same s, h.p.same s, h.lw, h.b1, h.b2⟩
theorem En.st {C : Addr} {H H' : Hp} {o q p : Addr} {a : Int × Int} (h : En C H o q a) (hp : Pot H p) (s : Stp p H H') : En C H' o q a := ⟨RatAt.st h.r hp s, h.p.st hp s, h.lw, h.b1, h.b2⟩
theorem En.nm {C : Addr} {H : Hp} {o q : Addr} {a : Int × Int} (h : En C H o q a) : Nm C H (.ref o) a.1 a.2 := ⟨.inl ⟨o, rfl, h.r⟩, h.lw, h.b1.mono (by decide), h.b2.mono (by decide)⟩
theorem En.pr {C : Addr} {H : Hp} {o q : Addr} {a : Int × Int} (h : En C H o q a) : Pr H q a := ⟨h.p, h.lw, h.b1.mono (by decide), h.b2.mono (by decide)⟩
/-- what a deed hands back: a ratio and what is due, in a tuple -/
def Res (C : Addr) (H : Hp) (v : V) : Prop := ∃ (t m q : Addr) (c : Int × Int), v = .ref t ∧ H t = some (.tup [.ref m, .ref q]) ∧ RatAt C H m c.1 c.2 ∧ PairAt H q c ∧ Lw c.1 c.2 ∧ Bd 1900 c.1 ∧ Bd 1900 c.2
structure Ok2 (c : Int × Int) : Prop where
  lw : Lw c.1 c.2
  b1 : Bd 1900 c.1
  b2 : Bd 1900 c.2
theorem ok_plus2 {a b : Int × Int} {j k : Nat} (la : Lw a.1 a.2) (lb : Lw b.1 b.2) (a1 : Bd j a.1) (a2 : Bd j a.2) (b1 : Bd k b.1) (b2 : Bd k b.2) (h : j + k + 1 ≤ 1900 := by decide) : Ok2 (plus a b) := by
  have hd := mul_ne la.pos lb.pos
  refine ⟨low_lw _ hd, bd_low1 hd ?_, bd_low2 hd ((a2.mul b2).mono (by omega))⟩
  exact ((a1.mul b2).add ((b1.mul a2).mono (show k + j ≤ j + k by omega))).mono h
theorem ok_minus2 {a b : Int × Int} {j k : Nat} (la : Lw a.1 a.2) (lb : Lw b.1 b.2) (a1 : Bd j a.1) (a2 : Bd j a.2) (b1 : Bd k b.1) (b2 : Bd k b.2) (h : j + k + 1 ≤ 1900 := by decide) : Ok2 (minus a b) := by
  have hd := mul_ne la.pos lb.pos
  refine ⟨low_lw _ hd, bd_low1 hd ?_, bd_low2 hd ((a2.mul b2).mono (by omega))⟩
  exact ((a1.mul b2).sub ((b1.mul a2).mono (show k + j ≤ j + k by omega))).mono h
theorem ok_times2 {a b : Int × Int} {j k : Nat} (la : Lw a.1 a.2) (lb : Lw b.1 b.2) (a1 : Bd j a.1) (a2 : Bd j a.2) (b1 : Bd k b.1) (b2 : Bd k b.2) (h : j + k + 1 ≤ 1900 := by decide) : Ok2 (times a b) := by
  have hd := mul_ne la.pos lb.pos
  exact ⟨low_lw _ hd, bd_low1 hd ((a1.mul b1).mono (by omega)), bd_low2 hd ((a2.mul b2).mono (by omega))⟩
theorem ok_over2 {a b : Int × Int} {j k : Nat} (la : Lw a.1 a.2) (hb : b.1 ≠ 0) (a1 : Bd j a.1) (a2 : Bd j a.2) (b1 : Bd k b.1) (b2 : Bd k b.2) (h : j + k + 1 ≤ 1900 := by decide) : Ok2 (over a b) := by
  have hd : a.2 * b.1 ≠ 0 := Int.mul_ne_zero (by have := la.pos; omega) hb
  exact ⟨low_lw _ hd, bd_low1 hd ((a1.mul b2).mono (by omega)), bd_low2 hd ((a2.mul b1).mono (by omega))⟩
theorem res_mk {C : Addr} {H : Hp} {t m q : Addr} {c : Int × Int} (ht : H t = none) (hm : RatAt C H m c.1 c.2) (hq : PairAt H q c) (o : Ok2 c) : Res C (upd H t (.tup [.ref m, .ref q])) (.ref t) :=
  ⟨t, m, q, c, rfl, upd_same, hm.same (same_upd ht), hq.same (same_upd ht), o.lw, o.b1, o.b2⟩

section
variable {P : Program} {w : World} {K : PySem.W.Frag} {mg : Str → Option Value} {base : Heap}
/-- all operators of the class -/
structure Ops (P : Program) (w : World) (K : PySem.W.Frag) (mg : Str → Option Value) (base : Heap) (C : Addr) : Prop where
  add : OpX P w K mg base C .Add 5 (spBin plus C)
  sub : OpX P w K mg base C .Sub 6 (spBin minus C)
  mul : OpX P w K mg base C .Mult 5 (spBin times C)
  radd : OpY P w K mg base C .Add 6 (spRef plus C)
  rsub : OpY P w K mg base C .Sub 6 (spRsub C)
  rmul : OpY P w K mg base C .Mult 6 (spRef times C)
  neg : OpN P w K mg base C 4 (spNeg C)
  over : MtX P w K mg base C "over" 5 (spOver C)
structure Fns (P : Program) (w : World) (K : PySem.W.Frag) (mg : Str → Option Value) (base : Heap) : Prop where
  draw : Dfn P w K mg base 1 "_law_draw" ["_law_pot_here", "_law_many"] spDraw
  low : Dfn P w K mg base 2 "_law_low" ["_law_up", "_law_low_here"] spLow
  plus : Dfn P w K mg base 3 "_law_plus" ["_law_a", "_law_b"] (spP2 plus)
  minus : Dfn P w K mg base 3 "_law_minus" ["_law_a", "_law_b"] (spP2 minus)
  times : Dfn P w K mg base 3 "_law_times" ["_law_a", "_law_b"] (spP2 times)
  integer : Dfn P w K mg base 3 "_law_integer" ["_law_pot_here"] spInteger
  parts : Dfn P w K mg base 4 "_law_parts" ["_law_pot_here"] spParts

def spOfTwo (C : Addr) : Sp := fun vs H Q _ => ∃ (p o t qa qb : Addr) (a b : Int × Int), vs = [.ref p, .ref o, .ref t, .ref qa, .ref qb] ∧ Pot H p ∧ En C H o qa a ∧ En C H t qb b ∧ ∀ v H', Stp p H H' → Res C H' v → Q v H'
theorem scOfTwo : FnScope ["_law_pot_here", "_law_one", "_law_two", "_law_a", "_law_b", "_law_way", "_law_made"] ["_law_pot_here", "_law_one", "_law_two", "_law_a", "_law_b"] (defScope sOfTwo) := ⟨rfl, rfl, rfl, by decide +kernel, rfl, by decide +kernel, by decide +kernel⟩
theorem over_no (n d : Int) : (rf n d).lookup ("over" : Str) = none := rf_no n d (by decide +kernel) (by decide +kernel)
theorem stp_tup {p t : Addr} {H : Hp} {o : HO} (h : Pot H p) (ht : H t = none) : Stp p H (upd H t o) := Stp.of (same_upd ht) h
theorem ok_oftwo {f C : Addr} {fd : FuncData} (F : FnP K "_law_of_two" "_law_of_two" sOfTwo [] f fd) (T : RT K mg C) (O : Ops P w K mg base C) (G : Fns P w K mg base) :
    FnOk P w K mg base CX0 7 f fd ["_law_pot_here", "_law_one", "_law_two", "_law_a", "_law_b"] (spOfTwo C) := by
  refine F.ok scOfTwo (fun vs H Q E h => ?_) (fun cdv A outer s H vs Q E hr h => ?_)
  · obtain ⟨p, o, t, qa, qb, a, b, rfl, _⟩ := h
    rfl
  · obtain ⟨p, o, t, qa, qb, a, b, rfl, hp, ha, hb, q⟩ := h
    have hr1 := hr.mono (by decide : 1 ≤ 6)
    have hr2 := hr.mono (by decide : 2 ≤ 6)
    have hr3 := hr.mono (by decide : 3 ≤ 6)
    have hr4 := hr.mono (by decide : 4 ≤ 6)
    have hr5 := hr.mono (by decide : 5 ≤ 6)
    obtain ⟨f1, fd1, mt, Fo, bo, ko⟩ := O.over.ex
    refine ⟨_, PSs.nox (pss_cons (ps_set (i := 5) scOfTwo.nd rfl (Or.inl rfl) (pe_use G.draw hr1 rfl (pa_cons (pv 0) (pa_cons pe_int pa_nil))))
      (pss_cons (ps_if (pt_cmpR op_eq (pv 5) pe_int (nomark _)) (pss_one (ps_ret (pe_tup (pa_cons (pe_op (op_nm O.add T.num hr5) (pv 1) (pv 2)) (pa_cons (pe_use G.plus hr3 rfl (pa_cons (pv 3) (pa_cons (pv 4) pa_nil))) pa_nil))))) pss_nil)
      (pss_cons (ps_if (pt_cmpR op_eq (pv 5) pe_int (nomark _)) (pss_one (ps_ret (pe_tup (pa_cons (pe_op (op_nm O.sub T.num hr) (pv 1) (pv 2)) (pa_cons (pe_use G.minus hr3 rfl (pa_cons (pv 3) (pa_cons (pv 4) pa_nil))) pa_nil))))) pss_nil)
      (pss_cons (ps_if (pt_cmpR op_eq (pv 5) pe_int (nomark _)) (pss_one (ps_ret (pe_tup (pa_cons (pe_op (op_nm O.mul T.num hr5) (pv 1) (pv 2)) (pa_cons (pe_use G.times hr3 rfl (pa_cons (pv 3) (pa_cons (pv 4) pa_nil))) pa_nil))))) pss_nil)
      (pss_cons (ps_if (PW.pt (pw_or (pt_cmpR op_eq (pv 5) pe_int (nomark _)) (pw_or1 (pt_cmpR op_eq (pe_ix ix_tup (pv 4) pe_int (fun _ _ => rfl)) pe_int (nomark _)))))
        (pss_one (ps_ret (pe_tup (pa_cons (pe_un (un_nm O.neg hr4) (pv 1)) (pa_cons (pe_tup (pa_cons (pe_un un_neg (pe_ix ix_tup (pv 3) pe_int (fun _ _ => rfl))) (pa_cons (pe_ix ix_tup (pv 3) pe_int (fun _ _ => rfl)) pa_nil))) pa_nil))))) pss_nil)
      (C8.pss_cut (ps_set (i := 6) scOfTwo.nd rfl (Or.inl rfl) (pe_ifExp (pt_cmpR op_eq (pe_use G.draw hr1 rfl (pa_cons (pv 0) (pa_cons pe_int pa_nil))) pe_int (nomark _))
        (pe_meth (pv 1) T.cl mt Fo hr5 bo .nil pass0 (pa_cons (pv 2) pa_nil)) (pe_methK0 (pv 1) T.cl mt Fo hr5 ko pass0 (pk_cons (pv 2) pk_nil))))
      (pss_one (ps_ret (pe_tup (pa_cons (pv 6) (pa_cons (pe_use G.low hr2 rfl (pa_cons (pe_op op_mulW (pe_ix ix_tup (pv 3) pe_int (fun _ _ => rfl)) (pe_ix ix_tup (pv 4) pe_int (fun _ _ => rfl))) (pa_cons (pe_op op_mulW (pe_ix ix_tup (pv 3) pe_int (fun _ _ => rfl)) (pe_ix ix_tup (pv 4) pe_int (fun _ _ => rfl))) pa_nil))) pa_nil))))))))))), ?_⟩
    refine ⟨_, rfl, p, 5, rfl, hp, (by decide), bd_small (by decide) (by decide) (by decide), fun z H1 z0 z1 s1 => ?_⟩
    have hp1 := s1.pot
    have ha1 := ha.st hp s1
    have hb1 := hb.st hp s1
    have dz : ∀ c : Int, decide (V.int z = V.int c) = (z == c) := fun c => dec_int
    refine ⟨_, rfl, rfl, _, rfl, ?_⟩
    refine ite2 (fun c => ?_) (fun c => ?_)
    · refine ⟨_, rfl, _, rfl, o, _, _, _, _, rfl, ha1.r, .inl ⟨t, rfl, hb1.r⟩, o, _, _, _, _, _, rfl, ha1.nm, hb1.nm, fun m H2 hm s2 => ?_⟩
      refine ⟨_, rfl, _, rfl, qa, qb, a, b, rfl, ha1.pr.same s2, hb1.pr.same s2, fun r H3 hr' s3 _ => ⟨by show 2 ≤ sizeLine; decide, fun u hu => ?_⟩⟩
      exact q _ _ (((s1.sm s2).sm s3).trans (stp_tup ((hp1.same s2).same s3) hu)) (res_mk hu (hm.same s3) hr' (ok_plus2 ha.lw hb.lw ha.b1 ha.b2 hb.b1 hb.b2))
    refine ⟨_, rfl, rfl, _, rfl, ?_⟩
    refine ite2 (fun c => ?_) (fun c => ?_)
    · refine ⟨_, rfl, _, rfl, o, _, _, _, _, rfl, ha1.r, .inl ⟨t, rfl, hb1.r⟩, o, _, _, _, _, _, rfl, ha1.nm, hb1.nm, fun m H2 hm s2 => ?_⟩
      refine ⟨_, rfl, _, rfl, qa, qb, a, b, rfl, ha1.pr.same s2, hb1.pr.same s2, fun r H3 hr' s3 _ => ⟨by show 2 ≤ sizeLine; decide, fun u hu => ?_⟩⟩
      exact q _ _ (((s1.sm s2).sm s3).trans (stp_tup ((hp1.same s2).same s3) hu)) (res_mk hu (hm.same s3) hr' (ok_minus2 ha.lw hb.lw ha.b1 ha.b2 hb.b1 hb.b2))
    refine ⟨_, rfl, rfl, _, rfl, ?_⟩
    refine ite2 (fun c => ?_) (fun c => ?_)
    · refine ⟨_, rfl, _, rfl, o, _, _, _, _, rfl, ha1.r, .inl ⟨t, rfl, hb1.r⟩, o, _, _, _, _, _, rfl, ha1.nm, hb1.nm, fun m H2 hm s2 => ?_⟩
      refine ⟨_, rfl, _, rfl, qa, qb, a, b, rfl, ha1.pr.same s2, hb1.pr.same s2, fun r H3 hr' s3 _ => ⟨by show 2 ≤ sizeLine; decide, fun u hu => ?_⟩⟩
      exact q _ _ (((s1.sm s2).sm s3).trans (stp_tup ((hp1.same s2).same s3) hu)) (res_mk hu (hm.same s3) hr' (ok_times2 ha.lw hb.lw ha.b1 ha.b2 hb.b1 hb.b2))
    have sqa : SqT K H1 qa [.int a.1, .int a.2] := SqT.of ha1.p
    have sqb : SqT K H1 qb [.int b.1, .int b.2] := SqT.of hb1.p
    obtain ⟨dx, hx⟩ := ha1.r
    have negs : tRet (tTup (tCons (tUn (rNegOwn C (spNeg C) E0) (tVar 1)) (tCons (tTup (tCons (tUn (rU fun i => .int (-i)) (tOp (rIxT K) (tVar 3) (tC (.int 0)))) (tCons (tOp (rIxT K) (tVar 3) (tC (.int 1))) tNil))) tNil)))
        { nx := fun _ H' => Q .non H', rt := Q } [some (.ref p), some (.ref o), some (.ref t), some (.ref qa), some (.ref qb), some (.int z), none] H1 := by
      refine ⟨_, rfl, o, dx, _, rfl, hx, o, _, _, rfl, ha1.nm, fun m H2 hm s2 => ?_⟩
      refine ⟨_, rfl, qa, _, _, _, rfl, rfl, same_sqt s2 sqa, ix2_0 a, _, rfl, _, rfl, qa, _, _, _, rfl, rfl, same_sqt s2 sqa, ix2_1 a, (by show 2 ≤ sizeLine; decide), fun r hr' => ⟨by show 2 ≤ sizeLine; decide, fun u hu => ?_⟩⟩
      have s3 : Same H2 (upd H2 r (.tup [.int (-a.1), .int a.2])) := same_upd hr'
      exact q _ _ (((s1.sm s2).sm s3).trans (stp_tup ((hp1.same s2).same s3) hu)) (res_mk (c := (-a.1, a.2)) hu (hm.same s3) upd_same ⟨lw_neg ha.lw, (ha.b1.mono (by decide)).neg, ha.b2.mono (by decide)⟩)
    refine ⟨_, rfl, rfl, _, rfl, ?_⟩
    by_cases c3 : z = 3
    · rw [decide_eq_true (by rw [c3])]
      exact iteT negs
    rw [decide_eq_false (fun y => c3 (V.int.inj y))]
    refine iteF ?_
    refine ⟨_, rfl, qb, _, _, _, rfl, rfl, sqb, ix2_0 b, rfl, _, rfl, ?_⟩
    by_cases c0 : b.1 = 0
    · rw [decide_eq_true (by rw [c0])]
      exact iteT negs
    rw [decide_eq_false (fun y => c0 (V.int.inj y))]
    refine iteF ?_
    refine ⟨fun σ' H' => ∃ m, σ' = [some (.ref p), some (.ref o), some (.ref t), some (.ref qa), some (.ref qb), some (.int z), some (.ref m)] ∧ Stp p H1 H' ∧ RatAt C H' m (over a b).1 (over a b).2, ?_, ?_⟩
    · refine ⟨_, rfl, p, 2, rfl, hp1, (by decide), bd_small (by decide) (by decide) (by decide), fun y H2 y0 y1 s2 => ?_⟩
      have ha2 := ha1.st hp1 s2
      have hb2 := hb1.st hp1 s2
      obtain ⟨dy, hy⟩ := ha2.r
      refine ⟨rfl, _, rfl, ?_⟩
      refine ite2 (fun c => ?_) (fun c => ?_)
      · exact ⟨_, rfl, o, dy, _, rfl, hy, over_no _ _, _, rfl, o, _, _, _, _, _, rfl, ha2.nm, hb2.nm, c0, fun m H3 hm s3 => ⟨m, rfl, s2.sm s3, hm⟩⟩
      · exact ⟨_, rfl, o, dy, _, rfl, hy, over_no _ _, _, rfl, rfl, o, _, _, _, _, _, rfl, ha2.nm, hb2.nm, c0, fun m H3 hm s3 => ⟨m, rfl, s2.sm s3, hm⟩⟩
    · rintro σ' H' ⟨m, rfl, s2, hm⟩
      have ha2 := ha1.st hp1 s2
      have hb2 := hb1.st hp1 s2
      have sa2 : SqT K H' qa [.int a.1, .int a.2] := SqT.of ha2.p
      have sb2 : SqT K H' qb [.int b.1, .int b.2] := SqT.of hb2.p
      refine ⟨_, rfl, _, rfl, qa, _, _, _, rfl, rfl, sa2, ix2_0 a, _, rfl, qb, _, _, _, rfl, rfl, sb2, ix2_1 b, _, _, rfl, rfl, cmul ha.b1 hb.b2, _, rfl, qa, _, _, _, rfl, rfl, sa2, ix2_1 a, _, rfl, qb, _, _, _, rfl, rfl, sb2, ix2_0 b, _, _, rfl, rfl, cmul ha.b2 hb.b1,
        _, _, rfl, Int.mul_ne_zero (by have := ha.lw.pos; omega) c0, (ha.b2.mul hb.b1).mono (by decide), fun r H3 hr' s3 _ => ⟨by show 2 ≤ sizeLine; decide, fun u hu => ?_⟩⟩
      exact q _ _ (((s1.trans s2).sm s3).trans (stp_tup (s2.pot.same s3) hu)) (res_mk hu (hm.same s3) hr' (ok_over2 ha.lw c0 ha.b1 ha.b2 hb.b1 hb.b2))
end
end La
namespace La
open PySem PySem.Spec PyProof.Rows L2 Ow Rm Ra
section
variable {P : Program} {w : World} {K : PySem.W.Frag} {mg : Str → Option Value} {base : Heap}
def spOfInt (C : Addr) : Sp := fun vs H Q _ => ∃ (p o qa : Addr) (a : Int × Int), vs = [.ref p, .ref o, .ref qa] ∧ Pot H p ∧ En C H o qa a ∧ ∀ v H', Stp p H H' → Res C H' v → Q v H'
theorem scOfInt : FnScope ["_law_pot_here", "_law_one", "_law_a", "_law_n", "_law_way", "_law_b"] ["_law_pot_here", "_law_one", "_law_a"] (defScope sOfInteger) := ⟨rfl, rfl, rfl, by decide +kernel, rfl, by decide +kernel, by decide +kernel⟩
theorem over_int (a : Int × Int) (n : Int) : over a (n, 1) = low a.1 (a.2 * n) := by
  unfold over
  simp only [Int.mul_one]
theorem ok_ofint {f C : Addr} {fd : FuncData} (F : FnP K "_law_of_integer" "_law_of_integer" sOfInteger [] f fd) (T : RT K mg C) (O : Ops P w K mg base C) (G : Fns P w K mg base) :
    FnOk P w K mg base CX0 7 f fd ["_law_pot_here", "_law_one", "_law_a"] (spOfInt C) := by
  refine F.ok scOfInt (fun vs H Q E h => ?_) (fun cdv A outer s H vs Q E hr h => ?_)
  · obtain ⟨p, o, qa, a, rfl, _⟩ := h
    rfl
  · obtain ⟨p, o, qa, a, rfl, hp, ha, q⟩ := h
    have hr1 := hr.mono (by decide : 1 ≤ 6)
    have hr2 := hr.mono (by decide : 2 ≤ 6)
    have hr3 := hr.mono (by decide : 3 ≤ 6)
    have hr5 := hr.mono (by decide : 5 ≤ 6)
    obtain ⟨f1, fd1, mt, Fo, bo, ko⟩ := O.over.ex
    refine ⟨_, PSs.nox (pss_cons (ps_par (i := 3) (j := 4) rfl scOfInt.nd rfl rfl (by decide) rfl rfl (pa_cons (pe_use G.integer hr3 rfl (pa_cons (pv 0) pa_nil)) (pa_cons (pe_use G.draw hr1 rfl (pa_cons (pv 0) (pa_cons pe_int pa_nil))) pa_nil)) rfl)
      (pss_cons (ps_set (i := 5) scOfInt.nd rfl (Or.inl rfl) (pe_tup (pa_cons (pv 3) (pa_cons pe_int pa_nil))))
      (pss_cons (ps_if (pt_cmpR op_lt (pv 4) pe_int (nomark _)) (pss_one (ps_ret (pe_tup (pa_cons (pe_ifExp (pt_cmpR op_eq (pv 4) pe_int (nomark _)) (pe_op (op_nm O.add T.num hr5) (pv 1) (pv 3)) (pe_op (op_radd O.radd T.num hr) (pv 3) (pv 1))) (pa_cons (pe_use G.plus hr3 rfl (pa_cons (pv 2) (pa_cons (pv 5) pa_nil))) pa_nil))))) pss_nil)
      (pss_cons (ps_if (pt_cmpR op_eq (pv 4) pe_int (nomark _)) (pss_one (ps_ret (pe_tup (pa_cons (pe_op (op_nm O.sub T.num hr) (pv 1) (pv 3)) (pa_cons (pe_use G.minus hr3 rfl (pa_cons (pv 2) (pa_cons (pv 5) pa_nil))) pa_nil))))) pss_nil)
      (pss_cons (ps_if (pt_cmpR op_eq (pv 4) pe_int (nomark _)) (pss_one (ps_ret (pe_tup (pa_cons (pe_op (op_rsub O.rsub T.num hr) (pv 3) (pv 1)) (pa_cons (pe_use G.minus hr3 rfl (pa_cons (pv 5) (pa_cons (pv 2) pa_nil))) pa_nil))))) pss_nil)
      (pss_cons (ps_if (PW.pt (pw_or (pt_cmpR op_lt (pv 4) pe_int (nomark _)) (pw_or1 (pt_cmpR op_eq (pv 3) pe_int (nomark _)))))
        (pss_one (ps_ret (pe_tup (pa_cons (pe_ifExp (pt_cmpR op_eq (pv 4) pe_int (nomark _)) (pe_op (op_nm O.mul T.num hr5) (pv 1) (pv 3)) (pe_op (op_rmul O.rmul T.num hr) (pv 3) (pv 1))) (pa_cons (pe_use G.times hr3 rfl (pa_cons (pv 2) (pa_cons (pv 5) pa_nil))) pa_nil))))) pss_nil)
      (pss_one (ps_ret (pe_tup (pa_cons (pe_meth (pv 1) T.cl mt Fo hr5 bo .nil pass0 (pa_cons (pv 3) pa_nil)) (pa_cons (pe_use G.low hr2 rfl (pa_cons (pe_ix ix_tup (pv 2) pe_int (fun _ _ => rfl)) (pa_cons (pe_op op_mulW (pe_ix ix_tup (pv 2) pe_int (fun _ _ => rfl)) (pv 3)) pa_nil))) pa_nil))))))))))), ?_⟩
    refine ⟨_, rfl, p, rfl, hp, fun n H0 bn s0 => ?_⟩
    refine ⟨_, rfl, p, 7, rfl, s0.pot, (by decide), bd_small (by decide) (by decide) (by decide), fun z H1 z0 z1 s01 => ⟨_, _, rfl, ?_⟩⟩
    have s1 := s0.trans s01
    refine ⟨_, rfl, (by show 2 ≤ sizeLine; decide), fun qb hqb => ?_⟩
    have sb0 : Same H1 (upd H1 qb (.tup [.int n, .int 1])) := same_upd hqb
    generalize hH2 : upd H1 qb (.tup [.int n, .int 1]) = H2 at sb0
    have hb2 : PairAt H2 qb (n, 1) := by rw [← hH2]; exact upd_same
    have s2 := s1.sm sb0
    have hp2 := s2.pot
    have ha2 := ha.st hp s2
    have bn3 : Bd 300 n := bn.mono (by decide)
    have bn25 : Bd 2500 n := bn.mono (by decide)
    have prb : Pr H2 qb (n, 1) := ⟨hb2, lw_int n, bn25, bd_one (by decide)⟩
    obtain ⟨dx, hx⟩ := ha2.r
    refine ⟨_, rfl, _, _, rfl, rfl, _, rfl, ?_⟩
    refine ite2 (fun c => ?_) (fun c => ?_)
    · have rest : ∀ m H3, RatAt C H3 m (plus a (n, 1)).1 (plus a (n, 1)).2 → Same H2 H3 → (tCons (tCall (spP2 plus) [] E0 (tCons (tVar 2) (tCons (tVar 5) tNil))) tNil) [some (.ref p), some (.ref o), some (.ref qa), some (.int n), some (.int z), some (.ref qb)] H3
          (fun xs H4 => (V.ref m :: xs).length ≤ sizeLine ∧ ∀ u, H4 u = none → Q (.ref u) (upd H4 u (.tup (V.ref m :: xs)))) := by
        intro m H3 hm s3
        refine ⟨_, rfl, _, rfl, qa, qb, a, (n, 1), rfl, ha2.pr.same s3, prb.same s3, fun r H4 hr' s4 _ => ⟨by show 2 ≤ sizeLine; decide, fun u hu => ?_⟩⟩
        exact q _ _ (((s2.sm s3).sm s4).trans (stp_tup ((hp2.same s3).same s4) hu)) (res_mk hu (hm.same s4) hr' (ok_plus2 ha.lw (lw_int n) ha.b1 ha.b2 bn3 (bd_one (by decide))))
      refine ⟨_, rfl, rfl, _, rfl, ?_⟩
      refine ite2 (fun c => ?_) (fun c => ?_)
      · exact ⟨_, rfl, _, rfl, o, _, _, _, _, rfl, ha2.r, .inr ⟨rfl, rfl⟩, o, _, _, _, n, 1, rfl, ha2.nm, nm_int bn25, fun m H3 hm s3 => rest m H3 hm s3⟩
      · exact ⟨_, rfl, _, rfl, o, dx, _, n, rfl, hx, rfl, o, _, _, n, rfl, ha2.nm, bn25, fun m H3 hm s3 => rest m H3 hm s3⟩
    refine ⟨_, rfl, rfl, _, rfl, ?_⟩
    refine ite2 (fun c => ?_) (fun c => ?_)
    · refine ⟨_, rfl, _, rfl, o, _, _, _, _, rfl, ha2.r, .inr ⟨rfl, rfl⟩, o, _, _, _, n, 1, rfl, ha2.nm, nm_int bn25, fun m H3 hm s3 => ?_⟩
      refine ⟨_, rfl, _, rfl, qa, qb, a, (n, 1), rfl, ha2.pr.same s3, prb.same s3, fun r H4 hr' s4 _ => ⟨by show 2 ≤ sizeLine; decide, fun u hu => ?_⟩⟩
      exact q _ _ (((s2.sm s3).sm s4).trans (stp_tup ((hp2.same s3).same s4) hu)) (res_mk hu (hm.same s4) hr' (ok_minus2 ha.lw (lw_int n) ha.b1 ha.b2 bn3 (bd_one (by decide))))
    refine ⟨_, rfl, rfl, _, rfl, ?_⟩
    refine ite2 (fun c => ?_) (fun c => ?_)
    · refine ⟨_, rfl, _, rfl, o, dx, _, n, rfl, hx, rfl, o, _, _, n, rfl, ha2.nm, bn25, fun m H3 hm s3 => ?_⟩
      refine ⟨_, rfl, _, rfl, qb, qa, (n, 1), a, rfl, prb.same s3, ha2.pr.same s3, fun r H4 hr' s4 _ => ⟨by show 2 ≤ sizeLine; decide, fun u hu => ?_⟩⟩
      exact q _ _ (((s2.sm s3).sm s4).trans (stp_tup ((hp2.same s3).same s4) hu)) (res_mk hu (hm.same s4) hr' (ok_minus2 (lw_int n) ha.lw bn3 (bd_one (by decide)) ha.b1 ha.b2))
    have muls : tRet (tTup (tCons (tIf (tTest (tOp rEq (tVar 4) (tC (.int 4)))) (tOp (rNm C (spBin times C)) (tVar 1) (tVar 3)) (tOp (rIOwn C (spRef times C) E0) (tVar 3) (tVar 1))) (tCons (tCall (spP2 times) [] E0 (tCons (tVar 2) (tCons (tVar 5) tNil))) tNil)))
        { nx := fun _ H' => Q .non H', rt := Q } [some (.ref p), some (.ref o), some (.ref qa), some (.int n), some (.int z), some (.ref qb)] H2 := by
      have rest : ∀ m H3, RatAt C H3 m (times a (n, 1)).1 (times a (n, 1)).2 → Same H2 H3 → (tCons (tCall (spP2 times) [] E0 (tCons (tVar 2) (tCons (tVar 5) tNil))) tNil) [some (.ref p), some (.ref o), some (.ref qa), some (.int n), some (.int z), some (.ref qb)] H3
          (fun xs H4 => (V.ref m :: xs).length ≤ sizeLine ∧ ∀ u, H4 u = none → Q (.ref u) (upd H4 u (.tup (V.ref m :: xs)))) := by
        intro m H3 hm s3
        refine ⟨_, rfl, _, rfl, qa, qb, a, (n, 1), rfl, ha2.pr.same s3, prb.same s3, fun r H4 hr' s4 _ => ⟨by show 2 ≤ sizeLine; decide, fun u hu => ?_⟩⟩
        exact q _ _ (((s2.sm s3).sm s4).trans (stp_tup ((hp2.same s3).same s4) hu)) (res_mk hu (hm.same s4) hr' (ok_times2 ha.lw (lw_int n) ha.b1 ha.b2 bn3 (bd_one (by decide))))
      refine ⟨_, rfl, rfl, _, rfl, ?_⟩
      refine ite2 (fun c => ?_) (fun c => ?_)
      · exact ⟨_, rfl, _, rfl, o, _, _, _, _, rfl, ha2.r, .inr ⟨rfl, rfl⟩, o, _, _, _, n, 1, rfl, ha2.nm, nm_int bn25, fun m H3 hm s3 => rest m H3 hm s3⟩
      · exact ⟨_, rfl, _, rfl, o, dx, _, n, rfl, hx, rfl, o, _, _, n, rfl, ha2.nm, bn25, fun m H3 hm s3 => rest m H3 hm s3⟩
    refine ⟨_, rfl, _, _, rfl, rfl, _, rfl, ?_⟩
    by_cases c6 : z < 6
    · rw [decide_eq_true c6]
      exact iteT muls
    rw [decide_eq_false c6]
    refine iteF ?_
    refine ⟨_, rfl, rfl, _, rfl, ?_⟩
    by_cases c0 : n = 0
    · rw [decide_eq_true (by rw [c0])]
      exact iteT muls
    rw [decide_eq_false (fun y => c0 (V.int.inj y))]
    refine iteF ?_
    refine ⟨_, rfl, o, dx, _, rfl, hx, over_no _ _, _, rfl, o, _, _, _, n, 1, rfl, ha2.nm, nm_int bn25, c0, fun m H3 hm s3 => ?_⟩
    have sa3 : SqT K H3 qa [.int a.1, .int a.2] := SqT.of (ha2.p.same s3)
    refine ⟨_, rfl, qa, _, _, _, rfl, rfl, sa3, ix2_0 a, _, rfl, qa, _, _, _, rfl, rfl, sa3, ix2_1 a, _, rfl, _, _, rfl, rfl, cmul ha.b2 bn, _, _, rfl, Int.mul_ne_zero (by have := ha.lw.pos; omega) c0, (ha.b2.mul bn).mono (by decide), fun r H4 hr' s4 _ => ⟨by show 2 ≤ sizeLine; decide, fun u hu => ?_⟩⟩
    rw [over_int] at hm
    have ok : Ok2 (low a.1 (a.2 * n)) := by rw [← over_int]; exact ok_over2 ha.lw c0 ha.b1 ha.b2 bn3 (bd_one (by decide))
    exact q _ _ (((s2.sm s3).sm s4).trans (stp_tup ((hp2.same s3).same s4) hu)) (res_mk hu (hm.same s4) hr' ok)
end
end La
namespace Ow
open PySem PySem.Spec PyProof.Rows L2
open AutoSeq1 (wpAny_loadPart')
open MeetsSeq MeetsSeq2 MeetsSeq3 SeqRoads2
section
variable {prog : Program} {w : World} {A : Around} {R : Result → Shared → Prop}
/-- two lists of unlike lengths -/
theorem list_ne_len (l b : Addr) {items items2 : Array Value} {n n2 : Nat} (hsz : items.size ≠ items2.size) {s : Shared} (hl : s.heap.get? l = some { cls := .type "list", data := .seq items n }) (hb : s.heap.get? b = some { cls := .type "list", data := .seq items2 n2 })
    (fin : R (.ok (.ret (.bool false))) s) : wpAny (model prog w) A.in1 (Builtin.«list.__eq__» ⟨[.ref l, .ref b], []⟩) (GQ.FinOf prog w A R) (fun e s' => R (.error e) s') s := by
  obtain ⟨hp, g, d, tk, os⟩ := s
  have f3 := AutoSeq1.sub_list_list
  have hne : (items.size != items2.size) = true := by simpa using hsz
  wp_walk using wpAny_loadPart' hl, wpAny_loadPart' hb
  exact fin
end
section
variable {prog : Program} {w : World} {A : Around} {E : Value → Shared → Prop} {s : Shared}
theorem rc_ne_len {l b : Addr} {items items2 : Array Value} {n n2 : Nat} {Q : Value → Shared → Prop} (hu : A.units < cLine) (hsz : items.size ≠ items2.size) (hl : s.heap.get? l = some { cls := .type "list", data := .seq items n }) (hb : s.heap.get? b = some { cls := .type "list", data := .seq items2 n2 })
    (fin : Q (.bool false) s) : wpAny (model prog w) A (richCompare .Eq (.ref l) (.ref b)) Q E s := by
  refine wpAny_richCompare_same_room (op := .Eq) ⟨_, hl, rfl⟩ ⟨_, hb, rfl⟩ F.slot_list_eq (GQ.call_here F.slot_list_eq ⟨_, hl, rfl⟩ F.entry_list_eq (F.args_list_eq_2 _ _) ?_) hu
  exact list_ne_len (R := wants (fun v s' => v ≠ .notImplemented ∧ Q v s') E) l b hsz hl hb ⟨(fun x => nomatch x), fin⟩
end
/-- xs == [] -/
def rEqNil : R2 := fun x y H Q => ∃ a b xs, x = .ref a ∧ y = .ref b ∧ H a = some (.lst xs) ∧ H b = some (.lst []) ∧ ∀ H', Ext H H' → Q (.bl xs.isEmpty) H'
theorem op_eqNil {X : Cx} (hr : Room 1 X.A) : OpR X (compareOp .Eq) rEqNil := by
  intro pins s σ H x y v u Q I rx ry hq
  obtain ⟨a, b, xs, rfl, rfl, ha, hb, q⟩ := hq
  cases xs with
  | nil =>
    exact op_eqG (rcG_list mon_flat eqG_flat) hr pins s σ H _ _ v u Q I rx ry ⟨⟨a, b, [], [], rfl, rfl, ha, hb, Prs.nil⟩, q⟩
  | cons z zs =>
    cases rx
    cases ry
    obtain ⟨_, its, k, r, e⟩ := I.hok a _ ha
    obtain ⟨_, its2, k2, r2, e2⟩ := I.hok b _ hb
    have n1 : its.length = zs.length + 1 := by rw [← r.length]; rfl
    have n2 : its2.length = 0 := by rw [← r2.length]; rfl
    show wpAny (model X.prog X.w) X.A (richCompare .Eq (.ref a) (.ref b)) (EP X pins σ Q) X.xe s
    refine rc_ne_len hr.units0 (by rw [List.size_toArray, List.size_toArray]; omega) e e2 ⟨.bl false, H, I, rfl, q H Ext.rfl'⟩
end Ow
namespace La
open PySem PySem.Spec PyProof.Rows L2 Ow Rm Ra
/-! ### a list changed elsewhere -/
theorem RatAt.updl {C : Addr} {H : Hp} {l q : Addr} {xs : List V} {o : HO} {n d : Int} (hl : H l = some (.lst xs)) (h : RatAt C H q n d) : RatAt C (upd H l o) q n d := by
  obtain ⟨dx, h⟩ := h
  exact ⟨dx, by rw [upd_ne (ne_of h hl (fun z => nomatch z))]; exact h⟩
theorem NumAt.updl {C : Addr} {H : Hp} {l : Addr} {v : V} {xs : List V} {o : HO} {n d : Int} (hl : H l = some (.lst xs)) (h : NumAt C H v n d) : NumAt C (upd H l o) v n d := by
  rcases h with ⟨p, e, r⟩ | ⟨e, r⟩
  · exact .inl ⟨p, e, RatAt.updl hl r⟩
  · exact .inr ⟨e, r⟩
theorem Sm.updl {C : Addr} {H : Hp} {l : Addr} {v : V} {xs : List V} {o : HO} {n d : Int} (hl : H l = some (.lst xs)) (h : Sm C H v n d) : Sm C (upd H l o) v n d := ⟨NumAt.updl hl h.at_, h.lw, h.b1, h.b2⟩
theorem PairAt.updl {H : Hp} {l q : Addr} {xs : List V} {o : HO} {a : Int × Int} (hl : H l = some (.lst xs)) (h : PairAt H q a) : PairAt (upd H l o) q a := by
  have e : H q = some (.tup [.int a.1, .int a.2]) := h
  show upd H l o q = _
  rw [upd_ne (ne_of e hl (fun z => nomatch z))]
  exact e
theorem Sm.st {C : Addr} {H H' : Hp} {v : V} {q : Addr} {n d : Int} (h : Sm C H v n d) (hp : Pot H q) (s : Stp q H H') : Sm C H' v n d := ⟨NumAt.st h.at_ hp s, h.lw, h.b1, h.b2⟩
theorem Sms.st {C : Addr} {H H' : Hp} {q : Addr} {xs : List V} {ps : List (Int × Int)} (h : Sms C H xs ps) (hp : Pot H q) (s : Stp q H H') : Sms C H' xs ps := ⟨h.1, fun i x p h1 h2 => Sm.st (h.2 i x p h1 h2) hp s⟩
theorem Sms.snoc {C : Addr} {H : Hp} {l : Addr} {xs ys : List V} {o : HO} {ps : List (Int × Int)} {v : V} {c : Int × Int} (hl : H l = some (.lst ys)) (h : Sms C H xs ps) (hv : Sm C H v c.1 c.2) : Sms C (upd H l o) (xs ++ [v]) (ps ++ [c]) := by
  refine ⟨by rw [List.length_append, List.length_append, h.1]; rfl, fun i x p h1 h2 => Sm.updl hl ?_⟩
  by_cases hi : i < xs.length
  · rw [List.getElem?_append_left hi] at h1
    rw [List.getElem?_append_left (by rw [← h.1]; exact hi)] at h2
    exact h.2 i x p h1 h2
  · rw [List.getElem?_append_right (by omega)] at h1
    rw [List.getElem?_append_right (by rw [← h.1]; omega)] at h2
    have e1 : i - xs.length = 0 := by
      have := (List.getElem?_eq_some_iff.mp h1).1
      rw [List.length_singleton] at this
      omega
    rw [e1] at h1
    rw [← h.1, e1] at h2
    cases h1
    cases h2
    exact hv

/-- Ratio.total, as others call it -/
structure TotX (P : Program) (w : World) (K : PySem.W.Frag) (mg : Str → Option Value) (base : Heap) (C : Addr) : Prop where
  ex : ∃ mc p g, ClX.CRead K C mc ∧ ClX.CMet K C mc "total" p g ∧ FnR P w K mg base CX0 6 g (spTot C)
section
variable {P : Program} {w : World} {K : PySem.W.Frag} {mg : Str → Option Value} {base : Heap}
def spTotalOf (C : Addr) : Sp := fun vs H Q _ => ∃ (l : Addr) (xs : List V) (ps : List (Int × Int)), vs = [.ref l] ∧ H l = some (.lst xs) ∧ xs.length ≤ 4 ∧ Sms C H xs ps ∧ ∀ q H', RatAt C H' q (sumP ps).1 (sumP ps).2 → Same H H' → Q (.ref q) H'
theorem scTotalOf : FnScope ["_law_row"] ["_law_row"] (defScope sTotalOf) := ⟨rfl, rfl, rfl, by decide +kernel, rfl, by decide +kernel, by decide +kernel⟩
theorem ok_totalof {f C : Addr} {fd : FuncData} (F : FnP K "_law_total" "_law_total" sTotalOf [] f fd) (T : RT K mg C) (L : LT mg) (Z : TotX P w K mg base C) : FnOk P w K mg base CX0 7 f fd ["_law_row"] (spTotalOf C) := by
  refine F.ok scTotalOf (fun vs H Q E h => ?_) (fun cdv A outer s H vs Q E hr h => ?_)
  · obtain ⟨l, xs, ps, rfl, _⟩ := h
    rfl
  · obtain ⟨l, xs, ps, rfl, hl, h4, hs, q⟩ := h
    have hr1 := hr.mono (by decide : 1 ≤ 6)
    obtain ⟨mc, p, g, rd, cm, G⟩ := Z.ex
    refine ⟨_, PSs.nox (pss_cons (ps_if (pt_cmpR op_lt (pe_callB call_len_seq (by rfl) L.len PySem.boot_len (pa_cons (pv 0) pa_nil)) pe_int (nomark _))
        (pss_one (ps_ret (pe_ifExp (pt_cmpR (op_eqNil hr1) (pv 0) (pe_lst pa_nil) (nomark _)) (pe_cmeth0 (pe_glob (v := .ref C) rfl T.mgC rfl) rd cm G hr pass0)
          (ClX.pe_cmeth (pe_glob (v := .ref C) rfl T.mgC rfl) rd cm G hr pass0 (pa_cons (pe_ix ix_list (pv 0) pe_int (fun _ _ => rfl)) pa_nil))))) pss_nil)
      (pss_cons (ps_if (pt_cmpR op_eq (pe_callB call_len_seq (by rfl) L.len PySem.boot_len (pa_cons (pv 0) pa_nil)) pe_int (nomark _))
        (pss_one (ps_ret (ClX.pe_cmeth (pe_glob (v := .ref C) rfl T.mgC rfl) rd cm G hr pass0 (pa_cons (pe_ix ix_list (pv 0) pe_int (fun _ _ => rfl)) (pa_cons (pe_ix ix_list (pv 0) pe_int (fun _ _ => rfl)) pa_nil))))) pss_nil)
      (pss_cons (ps_if (pt_cmpR op_eq (pe_callB call_len_seq (by rfl) L.len PySem.boot_len (pa_cons (pv 0) pa_nil)) pe_int (nomark _))
        (pss_one (ps_ret (ClX.pe_cmeth (pe_glob (v := .ref C) rfl T.mgC rfl) rd cm G hr pass0 (pa_cons (pe_ix ix_list (pv 0) pe_int (fun _ _ => rfl)) (pa_cons (pe_ix ix_list (pv 0) pe_int (fun _ _ => rfl)) (pa_cons (pe_ix ix_list (pv 0) pe_int (fun _ _ => rfl)) pa_nil)))))) pss_nil)
      (pss_one (ps_ret (ClX.pe_cmeth (pe_glob (v := .ref C) rfl T.mgC rfl) rd cm G hr pass0 (pa_cons (pe_ix ix_list (pv 0) pe_int (fun _ _ => rfl)) (pa_cons (pe_ix ix_list (pv 0) pe_int (fun _ _ => rfl)) (pa_cons (pe_ix ix_list (pv 0) pe_int (fun _ _ => rfl)) (pa_cons (pe_ix ix_list (pv 0) pe_int (fun _ _ => rfl)) pa_nil)))))))))), ?_⟩
    have sl : SqL K H l xs := SqL.of hl
    have fin : ∀ ys, ys = xs → spTot C (.ref C :: ys) H Q E0 := by
      rintro ys rfl
      exact ⟨ys, ps, rfl, Nat.le_trans h4 (by decide), hs, q⟩
    rcases xs with _ | ⟨a, _ | ⟨b, _ | ⟨c, _ | ⟨d, _ | ⟨e, xs⟩⟩⟩⟩⟩
    · refine ⟨_, rfl, l, _, rfl, .inl sl, _, _, rfl, rfl, _, rfl, ?_⟩
      refine iteT ?_
      refine ⟨_, rfl, Nat.zero_le _, fun t ht => ?_⟩
      refine ⟨l, t, _, rfl, rfl, (same_upd ht) _ _ hl, upd_same, fun H' e => ⟨_, rfl, ?_⟩⟩
      refine iteT ?_
      have se : Same H H' := (same_upd ht).trans e
      refine ⟨rfl, [], ps, rfl, by decide, hs.same se, fun z H2 hz s2 => q z H2 hz (se.trans s2)⟩
    · refine ⟨_, rfl, l, _, rfl, .inl sl, _, _, rfl, rfl, _, rfl, ?_⟩
      refine iteT ?_
      refine ⟨_, rfl, Nat.zero_le _, fun t ht => ?_⟩
      refine ⟨l, t, _, rfl, rfl, (same_upd ht) _ _ hl, upd_same, fun H' e => ⟨_, rfl, ?_⟩⟩
      refine iteF ?_
      have se : Same H H' := (same_upd ht).trans e
      refine ⟨rfl, _, rfl, l, _, _, _, rfl, rfl, SqL.of (se _ _ hl), rfl, [a], ps, rfl, by show 1 ≤ 6; decide, hs.same se, fun z H2 hz s2 => q z H2 hz (se.trans s2)⟩
    · refine ⟨_, rfl, l, _, rfl, .inl sl, _, _, rfl, rfl, _, rfl, ?_⟩
      refine iteF ?_
      refine ⟨_, rfl, l, _, rfl, .inl sl, rfl, _, rfl, ?_⟩
      refine iteT ?_
      exact ⟨rfl, _, rfl, l, _, _, _, rfl, rfl, sl, rfl, _, rfl, l, _, _, _, rfl, rfl, sl, rfl, fin [a, b] rfl⟩
    · refine ⟨_, rfl, l, _, rfl, .inl sl, _, _, rfl, rfl, _, rfl, ?_⟩
      refine iteF ?_
      refine ⟨_, rfl, l, _, rfl, .inl sl, rfl, _, rfl, ?_⟩
      refine iteF ?_
      refine ⟨_, rfl, l, _, rfl, .inl sl, rfl, _, rfl, ?_⟩
      refine iteT ?_
      exact ⟨rfl, _, rfl, l, _, _, _, rfl, rfl, sl, rfl, _, rfl, l, _, _, _, rfl, rfl, sl, rfl, _, rfl, l, _, _, _, rfl, rfl, sl, rfl, fin [a, b, c] rfl⟩
    · refine ⟨_, rfl, l, _, rfl, .inl sl, _, _, rfl, rfl, _, rfl, ?_⟩
      refine iteF ?_
      refine ⟨_, rfl, l, _, rfl, .inl sl, rfl, _, rfl, ?_⟩
      refine iteF ?_
      refine ⟨_, rfl, l, _, rfl, .inl sl, rfl, _, rfl, ?_⟩
      refine iteF ?_
      exact ⟨rfl, _, rfl, l, _, _, _, rfl, rfl, sl, rfl, _, rfl, l, _, _, _, rfl, rfl, sl, rfl, _, rfl, l, _, _, _, rfl, rfl, sl, rfl, _, rfl, l, _, _, _, rfl, rfl, sl, rfl, fin [a, b, c, d] rfl⟩
    · exact absurd h4 (by show ¬ (xs.length + 1 + 1 + 1 + 1 + 1 ≤ 4); omega)

/-! ### the bag -/
structure Bag (C : Addr) (H : Hp) (p bg ps : Addr) (es : List (Addr × Addr × (Int × Int))) : Prop where
  hb : H bg = some (.lst (es.map fun e => V.ref e.1))
  hp : H ps = some (.lst (es.map fun e => V.ref e.2.1))
  nb : bg ≠ p
  np : ps ≠ p
  en : ∀ e ∈ es, En C H e.1 e.2.1 e.2.2
theorem Bag.st {C : Addr} {H H' : Hp} {p bg ps : Addr} {es : List (Addr × Addr × (Int × Int))} (h : Bag C H p bg ps es) (hp : Pot H p) (s : Stp p H H') : Bag C H' p bg ps es :=
  ⟨s.keep _ _ h.nb h.hb, s.keep _ _ h.np h.hp, h.nb, h.np, fun e he => (h.en e he).st hp s⟩
theorem Bag.at1 {C : Addr} {H : Hp} {p bg ps : Addr} {es : List (Addr × Addr × (Int × Int))} (h : Bag C H p bg ps es) {j : Nat} (hj : j < es.length) : atI (es.map fun e => V.ref e.1) (j : Int) = some (.ref es[j].1) :=
  atI_nat (by rw [List.getElem?_map, List.getElem?_eq_getElem hj]; rfl)
theorem Bag.at2 {C : Addr} {H : Hp} {p bg ps : Addr} {es : List (Addr × Addr × (Int × Int))} (h : Bag C H p bg ps es) {j : Nat} (hj : j < es.length) : atI (es.map fun e => V.ref e.2.1) (j : Int) = some (.ref es[j].2.1) :=
  atI_nat (by rw [List.getElem?_map, List.getElem?_eq_getElem hj]; rfl)
theorem Bag.get {C : Addr} {H : Hp} {p bg ps : Addr} {es : List (Addr × Addr × (Int × Int))} (h : Bag C H p bg ps es) {j : Nat} (hj : j < es.length) : En C H es[j].1 es[j].2.1 es[j].2.2 := h.en _ (List.getElem_mem hj)
theorem lt_of_draw {n : Nat} {r : Int} (h0 : 0 ≤ r) (h1 : r < ((n : Nat) : Int)) : ∃ j : Nat, r = (j : Int) ∧ j < n := ⟨r.toNat, by omega, by omega⟩

def spDeed (C : Addr) : Sp := fun vs H Q _ => ∃ (p bg ps : Addr) (es : List (Addr × Addr × (Int × Int))), vs = [.ref p, .ref bg, .ref ps] ∧ Pot H p ∧ Bag C H p bg ps es ∧ 0 < es.length ∧ es.length ≤ 1000 ∧ ∀ v H', Stp p H H' → Res C H' v → Q v H'
end
end La
namespace La
open PySem PySem.Spec PyProof.Rows L2 Ow Rm Ra
theorem En.updl {C : Addr} {H : Hp} {l o q : Addr} {xs : List V} {u : HO} {a : Int × Int} (hl : H l = some (.lst xs)) (h : En C H o q a) : En C (upd H l u) o q a := ⟨RatAt.updl hl h.r, PairAt.updl hl h.p, h.lw, h.b1, h.b2⟩
section
variable {P : Program} {w : World} {K : PySem.W.Frag} {mg : Str → Option Value} {base : Heap}
theorem scOfSome : FnScope ["_law_pot_here", "_law_bag", "_law_pairs", "_law_some", "_law_due", "_law_turn", "_law_at", "_law_n", "_law_is_whole"] ["_law_pot_here", "_law_bag", "_law_pairs"] (defScope sOfSome) := ⟨rfl, rfl, rfl, by decide +kernel, rfl, by decide +kernel, by decide +kernel⟩
/-- between two turns: the sum so far -/
structure Sofar (C : Addr) (p : Addr) (H H' : Hp) (i : Nat) (sm du : Addr) (xs : List V) (cs : List (Int × Int)) : Prop where
  st : Stp p H H'
  at_ : H' sm = some (.lst xs)
  new : H sm = none
  sms : Sms C H' xs cs
  len : xs.length = i
  du : PairAt H' du (sumP cs)
theorem ok_ofsome {f C : Addr} {fd : FuncData} (F : FnP K "_law_of_some" "_law_of_some" sOfSome [] f fd) (L : LT mg) (G : Fns P w K mg base) (D : Dfn P w K mg base 7 "_law_total" ["_law_row"] (spTotalOf C)) :
    FnOk P w K mg base CX0 8 f fd ["_law_pot_here", "_law_bag", "_law_pairs"] (spDeed C) := by
  refine F.ok scOfSome (fun vs H Q E h => ?_) (fun cdv A outer s H vs Q E hr h => ?_)
  · obtain ⟨p, bg, ps, es, rfl, _⟩ := h
    rfl
  · obtain ⟨p, bg, ps, es, rfl, hp, hB, e0, e1, q⟩ := h
    have hr1 := hr.mono (by decide : 1 ≤ 7)
    have hr3 := hr.mono (by decide : 3 ≤ 7)
    refine ⟨_, PSs.nox (pss_cons (ps_par (i := 3) (j := 4) rfl scOfSome.nd rfl rfl (by decide) rfl rfl (pa_cons (pe_lst pa_nil) (pa_cons (pe_tup (pa_cons pe_int (pa_cons pe_int pa_nil))) pa_nil)) rfl)
      (pss_cons (ps_for PassesOwn.never rfl (pi_range1 rfl L.range (pa_cons (pe_use G.draw hr1 rfl (pa_cons (pv 0) (pa_cons pe_int pa_nil))) pa_nil)) (pg_name (i := 5) scOfSome.nd rfl (Or.inl rfl))
        (pss_cons (ps_par (i := 6) (j := 7) rfl scOfSome.nd rfl rfl (by decide) rfl rfl (pa_cons (pe_use G.draw hr1 rfl (pa_cons (pv 0) (pa_cons (pe_callB call_len_seq (by rfl) L.len PySem.boot_len (pa_cons (pv 1) pa_nil)) pa_nil))) (pa_cons (pe_use G.integer hr3 rfl (pa_cons (pv 0) pa_nil)) pa_nil)) rfl)
        (pss_cons (ps_set (i := 8) scOfSome.nd rfl (Or.inl rfl) (pe_cmpR op_eq (pe_use G.draw hr1 rfl (pa_cons (pv 0) (pa_cons pe_int pa_nil))) pe_int (nomark _)))
        (pss_cons (ps_expr (pe_bm PySem.F.plainAttrs_list PySem.F.slot_list_append PySem.F.type_list_append mt_append (pv 3) (pa_cons (pe_ifExp (pt_val (pv 8)) (pv 7) (pe_ix ix_list (pv 1) (pv 6) (fun _ _ => rfl))) pa_nil)))
        (pss_one (ps_set (i := 4) scOfSome.nd rfl (Or.inl rfl) (pe_use G.plus hr3 rfl (pa_cons (pv 4) (pa_cons (pe_ifExp (pt_val (pv 8)) (pe_tup (pa_cons (pv 7) (pa_cons pe_int pa_nil))) (pe_ix ix_list (pv 2) (pv 6) (fun _ _ => rfl))) pa_nil)))))))))
      (pss_one (ps_ret (pe_tup (pa_cons (pe_use D hr rfl (pa_cons (pv 3) pa_nil)) (pa_cons (pv 4) pa_nil))))))), ?_⟩
    refine ⟨Nat.zero_le _, fun sm hsm => ⟨by show 2 ≤ sizeLine; decide, fun du hdu => ⟨_, _, rfl, ?_⟩⟩⟩
    have nsd : sm ≠ du := fun z => by rw [z, ← z, upd_same] at hdu; cases hdu
    have hdu0 : H du = none := by rw [upd_ne nsd.symm] at hdu; exact hdu
    have s0 : Stp p H (upd (upd H sm (.lst [])) du (.tup [.int 0, .int 1])) := (stp_new hp hsm).trans (stp_new (hp.same (same_upd hsm)) hdu)
    refine ⟨_, rfl, p, 5, rfl, s0.pot, (by decide), bd_small (by decide) (by decide) (by decide), fun z H1 z0 z1 s01 => ⟨z, rfl, by omega, by omega, ?_⟩⟩
    have s1 := s0.trans s01
    have k1 : H1 sm = some (.lst []) := s01.keep sm _ (pot_ne hp hsm) (by rw [upd_ne nsd]; exact upd_same)
    have k2 : PairAt H1 du (0, 1) := s01.keep du _ (pot_ne hp hdu0) upd_same
    refine for_range (lo := 0) (n := z.toNat) (fun i σ H' => ∃ (du : Addr) (xs : List V) (cs : List (Int × Int)) (v5 v6 v7 v8 : Option V),
      σ = [some (.ref p), some (.ref bg), some (.ref ps), some (.ref sm), some (.ref du), v5, v6, v7, v8] ∧ Sofar C p H H' i sm du xs cs)
      ⟨du, [], [], _, _, _, _, rfl, s1, k1, hsm, ⟨rfl, fun i x c h => by simp at h⟩, rfl, k2⟩ ?_ ?_
    · rintro i σ H' hi ⟨du, xs, cs, v5, v6, v7, v8, rfl, S⟩
      have hB' := hB.st hp S.st
      have npm : sm ≠ p := pot_ne hp hsm
      refine ⟨_, rfl, _, rfl, bg, _, rfl, .inl (SqL.of hB'.hb), p, _, rfl, S.st.pot, by rw [List.length_map]; omega, bd_small (by omega) (by rw [List.length_map]; exact lt60 e1) (by decide), fun r H2 r0 r1 s2 => ?_⟩
      rw [List.length_map] at r1
      obtain ⟨j, rfl, hj⟩ := lt_of_draw r0 r1
      refine ⟨_, rfl, p, rfl, s2.pot, fun n H3 bn s3 => ⟨_, _, rfl, ?_⟩⟩
      refine ⟨_, rfl, p, 3, rfl, s3.pot, (by decide), bd_small (by decide) (by decide) (by decide), fun y H4 y0 y1 s4 => ⟨rfl, ?_⟩⟩
      have s24 := (s2.trans s3).trans s4
      have hB4 := hB'.st S.st.pot s24
      have at4 := s24.keep sm _ npm S.at_
      have sms4 := La.Sms.st S.sms S.st.pot s24
      have du4 := PairAt.st S.du S.st.pot s24
      have E := hB4.get hj
      have sbi := sb_sum sms4 cs.length (Nat.le_refl _)
      rw [List.take_length] at sbi
      have hlen : cs.length = i := by rw [← S.sms.1]; exact S.len
      have hi4 : i < 4 := by omega
      have prd : Pr H4 du (sumP cs) := ⟨du4, sbi.lw, sbi.b1.mono (by omega), sbi.b2.mono (by omega)⟩
      have fin : ∀ (v : V) (c : Int × Int) (H5 : Hp) (qc : Addr), Sm C H4 v c.1 c.2 → Same (upd H4 sm (.lst (xs ++ [v]))) H5 → Pr H5 qc c →
          spP2 plus [.ref du, .ref qc] H5 (fun x H6 => (∃ (du : Addr) (xs : List V) (cs : List (Int × Int)) (v5 v6 v7 v8 : Option V),
            [some (.ref p), some (.ref bg), some (.ref ps), some (.ref sm), some x, some (.int (0 + (i : Int))), some (.int (j : Int)), some (.int n), some (.bl (decide (V.int y = V.int 0)))] = [some (.ref p), some (.ref bg), some (.ref ps), some (.ref sm), some (.ref du), v5, v6, v7, v8] ∧ Sofar C p H H6 (i + 1) sm du xs cs)) E0 := by
        intro v c H5 qc hv s5 hc
        have hpot4 : Pot (upd H4 sm (.lst (xs ++ [v]))) p := by
          obtain ⟨a, b, e, h0⟩ := s24.pot
          exact ⟨a, b, by rw [upd_ne npm.symm]; exact e, h0⟩
        refine ⟨du, qc, sumP cs, c, rfl, ⟨(PairAt.updl at4 du4).same s5, prd.lw, prd.b1, prd.b2⟩, hc, fun r H6 hr6 s6 _ => ⟨r, xs ++ [v], cs ++ [c], _, _, _, _, rfl, ?_⟩⟩
        have s56 := s5.trans s6
        refine ⟨⟨fun x o nx ex => s56 _ _ ?_, hpot4.same s56⟩, s56 _ _ upd_same, hsm, (Sms.snoc at4 sms4 hv).same s56, ?_, ?_⟩
        · rw [upd_ne (ne_of_none ex hsm)]
          exact s24.keep x o nx (S.st.keep x o nx ex)
        · rw [List.length_append, S.len]; rfl
        · rw [sumP_snoc]
          exact hr6
      by_cases c0 : y = 0
      · have ed : decide (V.int y = V.int 0) = true := decide_eq_true (by rw [c0])
        rw [ed] at fin ⊢
        refine ⟨_, rfl, .inl ⟨rfl, _, SqL.of at4⟩, _, rfl, true, rfl, ?_⟩
        refine iteT ?_
        refine ⟨_, rfl, sm, xs, _, rfl, rfl, at4, Nat.lt_of_le_of_lt (show xs.length ≤ 1000 by rw [S.len]; omega) (by decide), ?_⟩
        refine ⟨_, rfl, _, rfl, true, rfl, ?_⟩
        refine iteT ?_
        refine ⟨_, rfl, by show 2 ≤ sizeLine; decide, fun qc hqc => ?_⟩
        exact fin (.int n) (n, 1) _ qc ⟨.inr ⟨rfl, rfl⟩, lw_int n, bn.mono (by decide), bd_one (by decide)⟩ (same_upd hqc) ⟨upd_same, lw_int n, bn.mono (by decide), bd_one (by decide)⟩
      · have ed : decide (V.int y = V.int 0) = false := decide_eq_false (fun z => c0 (V.int.inj z))
        rw [ed] at fin ⊢
        refine ⟨_, rfl, .inl ⟨rfl, _, SqL.of at4⟩, _, rfl, false, rfl, ?_⟩
        refine iteF ?_
        refine ⟨_, rfl, _, rfl, bg, _, _, _, rfl, rfl, SqL.of hB4.hb, hB4.at1 hj, ?_⟩
        refine ⟨sm, xs, _, rfl, rfl, at4, Nat.lt_of_le_of_lt (show xs.length ≤ 1000 by rw [S.len]; omega) (by decide), ?_⟩
        refine ⟨_, rfl, _, rfl, false, rfl, ?_⟩
        refine iteF ?_
        have nps : ps ≠ sm := ne_of_none hB.hp hsm
        refine ⟨_, rfl, _, rfl, ps, _, _, _, rfl, rfl, SqL.of (by rw [upd_ne nps]; exact hB4.hp), hB4.at2 hj, ?_⟩
        exact fin (.ref es[j].1) es[j].2.2 _ es[j].2.1 ⟨.inl ⟨_, rfl, E.r⟩, E.lw, E.b1, E.b2⟩ (Same.refl _) (En.updl at4 E).pr
    · rintro σ H' ⟨du, xs, cs, v5, v6, v7, v8, rfl, S⟩
      have sbi := sb_sum S.sms cs.length (Nat.le_refl _)
      rw [List.take_length] at sbi
      have hlen : cs.length = z.toNat := by rw [← S.sms.1]; exact S.len
      have h4 : z.toNat ≤ 4 := by omega
      refine ⟨_, rfl, sm, xs, cs, rfl, S.at_, by rw [S.len]; exact h4, S.sms, fun m H2 hm s2 => ?_⟩
      refine ⟨_, rfl, by show 2 ≤ sizeLine; decide, fun u hu => ?_⟩
      exact q _ _ ((S.st.sm s2).trans (stp_tup (S.st.pot.same s2) hu)) (res_mk hu hm (S.du.same s2) ⟨sbi.lw, sbi.b1.mono (by omega), sbi.b2.mono (by omega)⟩)
end
end La
namespace La
open PySem PySem.Spec PyProof.Rows L2 Ow Rm Ra
section
variable {P : Program} {w : World} {K : PySem.W.Frag} {mg : Str → Option Value} {base : Heap}
theorem scDeed : FnScope ["_law_pot_here", "_law_bag", "_law_pairs", "_law_at", "_law_on", "_law_way"] ["_law_pot_here", "_law_bag", "_law_pairs"] (defScope sDeed) := ⟨rfl, rfl, rfl, by decide +kernel, rfl, by decide +kernel, by decide +kernel⟩
theorem ok_deed {f C : Addr} {fd : FuncData} (F : FnP K "_law_deed" "_law_deed" sDeed [] f fd) (L : LT mg) (G : Fns P w K mg base)
    (D2 : Dfn P w K mg base 7 "_law_of_two" ["_law_pot_here", "_law_one", "_law_two", "_law_a", "_law_b"] (spOfTwo C))
    (D1 : Dfn P w K mg base 7 "_law_of_integer" ["_law_pot_here", "_law_one", "_law_a"] (spOfInt C))
    (D0 : Dfn P w K mg base 8 "_law_of_some" ["_law_pot_here", "_law_bag", "_law_pairs"] (spDeed C)) :
    FnOk P w K mg base CX0 9 f fd ["_law_pot_here", "_law_bag", "_law_pairs"] (spDeed C) := by
  refine F.ok scDeed (fun vs H Q E h => ?_) (fun cdv A outer s H vs Q E hr h => ?_)
  · obtain ⟨p, bg, ps, es, rfl, _⟩ := h
    rfl
  · obtain ⟨p, bg, ps, es, rfl, hp, hB, e0, e1, q⟩ := h
    have hr1 := hr.mono (by decide : 1 ≤ 8)
    have hr7 := hr.mono (by decide : 7 ≤ 8)
    refine ⟨_, PSs.nox (pss_cons (ps_par3 (i := 3) (j := 4) (l := 5) rfl scDeed.nd rfl rfl rfl (by decide) (by decide) (by decide) rfl rfl rfl
        (pa_cons (pe_use G.draw hr1 rfl (pa_cons (pv 0) (pa_cons (pe_callB call_len_seq (by rfl) L.len PySem.boot_len (pa_cons (pv 1) pa_nil)) pa_nil)))
        (pa_cons (pe_use G.draw hr1 rfl (pa_cons (pv 0) (pa_cons (pe_callB call_len_seq (by rfl) L.len PySem.boot_len (pa_cons (pv 1) pa_nil)) pa_nil)))
        (pa_cons (pe_use G.draw hr1 rfl (pa_cons (pv 0) (pa_cons pe_int pa_nil))) pa_nil))) rfl)
      (pss_cons (ps_if (pt_cmpR op_lt (pv 5) pe_int (nomark _)) (pss_one (ps_ret (pe_use D2 hr7 rfl (pa_cons (pv 0) (pa_cons (pe_ix ix_list (pv 1) (pv 3) (fun _ _ => rfl)) (pa_cons (pe_ix ix_list (pv 1) (pv 4) (fun _ _ => rfl)) (pa_cons (pe_ix ix_list (pv 2) (pv 3) (fun _ _ => rfl)) (pa_cons (pe_ix ix_list (pv 2) (pv 4) (fun _ _ => rfl)) pa_nil)))))))) pss_nil)
      (pss_cons (ps_if (pt_cmpR op_lt (pv 5) pe_int (nomark _)) (pss_one (ps_ret (pe_use D1 hr7 rfl (pa_cons (pv 0) (pa_cons (pe_ix ix_list (pv 1) (pv 3) (fun _ _ => rfl)) (pa_cons (pe_ix ix_list (pv 2) (pv 3) (fun _ _ => rfl)) pa_nil)))))) pss_nil)
      (pss_one (ps_ret (pe_use D0 hr rfl (pa_cons (pv 0) (pa_cons (pv 1) (pa_cons (pv 2) pa_nil))))))))), ?_⟩
    refine ⟨_, rfl, _, rfl, bg, _, rfl, .inl (SqL.of hB.hb), p, _, rfl, hp, by rw [List.length_map]; omega, bd_small (by omega) (by rw [List.length_map]; exact lt60 e1) (by decide), fun r H1 r0 r1 s1 => ?_⟩
    rw [List.length_map] at r1
    obtain ⟨i, rfl, hi⟩ := lt_of_draw r0 r1
    have hB1 := hB.st hp s1
    refine ⟨_, rfl, _, rfl, bg, _, rfl, .inl (SqL.of hB1.hb), p, _, rfl, s1.pot, by rw [List.length_map]; omega, bd_small (by omega) (by rw [List.length_map]; exact lt60 e1) (by decide), fun r H2 r0 r1 s2 => ?_⟩
    rw [List.length_map] at r1
    obtain ⟨j, rfl, hj⟩ := lt_of_draw r0 r1
    refine ⟨_, rfl, p, 5, rfl, s2.pot, (by decide), bd_small (by decide) (by decide) (by decide), fun z H3 z0 z1 s3 => ⟨_, _, _, rfl, ?_⟩⟩
    have st := (s1.trans s2).trans s3
    have hB3 := hB.st hp st
    refine ⟨_, rfl, _, _, rfl, rfl, _, rfl, ?_⟩
    refine ite2 (fun c => ?_) (fun c => ?_)
    · refine ⟨_, rfl, _, rfl, _, rfl, bg, _, _, _, rfl, rfl, SqL.of hB3.hb, hB3.at1 hi, _, rfl, _, rfl, bg, _, _, _, rfl, rfl, SqL.of hB3.hb, hB3.at1 hj, _, rfl, _, rfl, ps, _, _, _, rfl, rfl, SqL.of hB3.hp, hB3.at2 hi, _, rfl, _, rfl, ps, _, _, _, rfl, rfl, SqL.of hB3.hp, hB3.at2 hj, ?_⟩
      exact ⟨p, _, _, _, _, _, _, rfl, st.pot, hB3.get hi, hB3.get hj, fun v H' s4 hv => q v H' (st.trans s4) hv⟩
    refine ⟨_, rfl, _, _, rfl, rfl, _, rfl, ?_⟩
    refine ite2 (fun c => ?_) (fun c => ?_)
    · refine ⟨_, rfl, _, rfl, _, rfl, bg, _, _, _, rfl, rfl, SqL.of hB3.hb, hB3.at1 hi, _, rfl, _, rfl, ps, _, _, _, rfl, rfl, SqL.of hB3.hp, hB3.at2 hi, ?_⟩
      exact ⟨p, _, _, _, rfl, st.pot, hB3.get hi, fun v H' s4 hv => q v H' (st.trans s4) hv⟩
    · exact ⟨_, rfl, _, rfl, _, rfl, p, bg, ps, es, rfl, st.pot, hB3, e0, e1, fun v H' s4 hv => q v H' (st.trans s4) hv⟩
end
end La
namespace La
open PySem PySem.Spec PyProof.Rows L2 Ow Rm Ra
/-- where the bag stands -/
structure Tst (C : Addr) (p : Addr) (H H' : Hp) (bg ps : Addr) (es : List (Addr × Addr × (Int × Int))) : Prop where
  st : Stp p H H'
  B : Bag C H' p bg ps es
  nb : H bg = none
  np : H ps = none
  ne : bg ≠ ps
theorem Tst.go {C p : Addr} {H H' H2 : Hp} {bg ps : Addr} {es : List (Addr × Addr × (Int × Int))} (t : Tst C p H H' bg ps es) (s : Stp p H' H2) : Tst C p H H2 bg ps es :=
  ⟨t.st.trans s, t.B.st t.st.pot s, t.nb, t.np, t.ne⟩
theorem pot_updl {H : Hp} {p l : Addr} {o : HO} (n : l ≠ p) (h : Pot H p) : Pot (upd H l o) p := by
  obtain ⟨a, b, e, h0⟩ := h
  exact ⟨a, b, by rw [upd_ne n.symm]; exact e, h0⟩
/-- both lists one longer -/
theorem Tst.app {C p : Addr} {H H2 H4 : Hp} {bg ps m q : Addr} {es : List (Addr × Addr × (Int × Int))} {a : Int × Int} (t : Tst C p H H2 bg ps es) (hm : RatAt C H2 m a.1 a.2)
    (s : Same (upd H2 bg (.lst ((es.map fun e => V.ref e.1) ++ [.ref m]))) H4) (hq : PairAt H4 q a) (lw : Lw a.1 a.2) (b1 : Bd 300 a.1) (b2 : Bd 300 a.2) :
    Tst C p H (upd H4 ps (.lst ((es.map fun e => V.ref e.2.1) ++ [.ref q]))) bg ps (es ++ [(m, q, a)]) := by
  have hps4 : H4 ps = some (.lst (es.map fun e => V.ref e.2.1)) := s _ _ (by rw [upd_ne t.ne.symm]; exact t.B.hp)
  have hbg4 : H4 bg = some (.lst ((es.map fun e => V.ref e.1) ++ [.ref m])) := s _ _ upd_same
  refine ⟨⟨fun x o nx ex => ?_, ?_⟩, ⟨?_, ?_, t.B.nb, t.B.np, fun e he => ?_⟩, t.nb, t.np, t.ne⟩
  · rw [upd_ne (ne_of_none ex t.np)]
    refine s _ _ ?_
    rw [upd_ne (ne_of_none ex t.nb)]
    exact t.st.keep x o nx ex
  · exact pot_updl t.B.np ((pot_updl t.B.nb t.st.pot).same s)
  · rw [upd_ne t.ne, List.map_append]
    exact hbg4
  · rw [upd_same, List.map_append]
    rfl
  · rcases List.mem_append.mp he with h | h
    · exact En.updl hps4 ((En.updl t.B.hb (t.B.en e h)).same s)
    · rw [List.mem_singleton] at h
      subst h
      exact ⟨RatAt.updl hps4 ((RatAt.updl t.B.hb hm).same s), PairAt.updl hps4 hq, lw, b1, b2⟩

/-- a def of the law that is only called where nothing is being shown -/
structure DfnG (P : Program) (w : World) (K : PySem.W.Frag) (mg : Str → Option Value) (base : Heap) (k : Nat) (x : Str) (ps : List Str) (sp : Sp) : Prop where
  ex : ∃ f fd, FnG P w K mg base CX0 k f fd ps sp ∧ mg x = some (.ref f) ∧ PySem.W.keepIn K (.ref f) = true ∧ Binds K fd ps []
theorem pe_useG {X : Cx} {k : Nat} {x : Str} {ps : List Str} {sp : Sp} {p pos : Pos} {e : Expr} {es : List Expr} {t : TA} (D : DfnG X.prog X.w X.K X.mg X.base k x ps sp) (hr : Room k X.A) (hgu : X.A.guards = some []) (hg : Gl X x) (ha : PA X (e :: es) t)
    (hdb : (x == ("__debug__" : Str)) = false := by decide) (he : starEach (e :: es) X.env = (false, eval e X.env) :: starEach es X.env := by rfl) (hpl : (backTo pos (starEach es X.env)).any (·.1) = false := by rfl) :
    PE X (.Call (.Name x p) (e :: es) [] pos) (tCall sp [] E0 t) := by
  obtain ⟨f, fd, F, hm, hk, hb⟩ := D.ex
  exact pe_callG F hr hgu hg hm hk hb pass0 ha hdb he hpl

/-- bounds: at most sixty digits -/
theorem bd60 {x : Int} (h : (x.natAbs : Int) < 10 ^ (60 : Int).toNat) : Bd 300 x := by
  have e : (10 : Int) ^ (60 : Int).toNat = ((10 ^ 60 : Nat) : Int) := by decide
  rw [e] at h
  have h2 : x.natAbs < 10 ^ 60 := by omega
  exact Bd.mono (j := 200) (Nat.lt_trans h2 (by decide)) (by decide)
theorem max_lt {a b c : Int} (h : (if b > a then b else a) < c) : a < c ∧ b < c := by
  split at h <;> omega

section
variable {P : Program} {w : World} {K : PySem.W.Frag} {mg : Str → Option Value} {base : Heap}
def spRight : Sp := fun vs H Q _ => ∃ p, vs = [.ref p] ∧ Pot H p ∧ ∀ H', Stp p H H' → Q (.bl true) H'
abbrev nRight : List Str := ["_law_pot_here", "_law_bag", "_law_pairs", "_law_turn", "_law_up", "_law_low_here", "_law_made", "_law_due", "_law_n", "_law_one"]
theorem scRight : FnScope nRight ["_law_pot_here"] (defScope sRight) := ⟨rfl, rfl, rfl, by decide +kernel, rfl, by decide +kernel, by decide +kernel⟩
/-- the def's last row: all that is in the bag is as it was -/
theorem all_true (n : Nat) : (List.replicate n true).all id = true := by
  rw [List.all_replicate]
  split <;> rfl
end
end La
namespace La
open PySem PySem.Spec PyProof.Rows L2 Ow Rm Ra
section
variable {P : Program} {w : World} {K : PySem.W.Frag} {mg : Str → Option Value} {base : Heap}
theorem stp_updl {p l : Addr} {H H' : Hp} {xs : List V} {o : HO} (s : Stp p H H') (n : l ≠ p) (hl : H l = none) : Stp p H (upd H' l o) :=
  ⟨fun x u nx ex => by rw [upd_ne (ne_of_none ex hl)]; exact s.keep x u nx ex, pot_updl n s.pot⟩
theorem Tst.updl {C p bg ps l : Addr} {H H' : Hp} {xs : List V} {o : HO} {es : List (Addr × Addr × (Int × Int))} (t : Tst C p H H' bg ps es) (hl : H' l = some (.lst xs)) (h0 : H l = none) (n : l ≠ p) (n1 : l ≠ bg) (n2 : l ≠ ps) : Tst C p H (upd H' l o) bg ps es :=
  ⟨stp_updl (xs := xs) t.st n h0, ⟨by rw [upd_ne n1.symm]; exact t.B.hb, by rw [upd_ne n2.symm]; exact t.B.hp, t.B.nb, t.B.np, fun e he => En.updl hl (t.B.en e he)⟩, t.nb, t.np, t.ne⟩
theorem tYes_at {σ : L2.St} {H : Hp} {A B : Hp → Prop} (h : A H) : tYes σ H fun b H3 => if b = true then A H3 else B H3 := by
  show (if true = true then A H else B H)
  rw [if_pos rfl]
  exact h
theorem rat_newK {C : Addr} {H : Hp} {n d : Int} {Q : Addr → Hp → Prop} {gV : List V → List V → List V} (gve : ∀ a b c, gV [a] [b, c] = [a, c, b]) (hd : d ≠ 0) (hb : Bd 8000 d) (q : ∀ p H', RatAt C H' p (low n d).1 (low n d).2 → Same H H' → H p = none → Q p H') :
    ∀ x dx, H x = none → H dx = none → dx ≠ x → spInit C (gV [.ref x] [.int d, .int n]) (upd (upd H dx (.own x)) x (.ins C dx [])) (fun v H2 => v = .non ∧ Q x H2) E0 := by
  intro x dx
  rw [gve]
  exact rat_new hd hb q x dx
theorem ok_right {f C : Addr} {fd : FuncData} (F : FnP K "_law_right" "_law_right" sRight [] f fd) (T : RT K mg C) (L : LT mg) (G : Fns P w K mg base) (M : RMk P w K mg base C)
    (D : Dfn P w K mg base 9 "_law_deed" ["_law_pot_here", "_law_bag", "_law_pairs"] (spDeed C))
    (I : DfnG P w K mg base 4 "_law_is" ["_law_made", "_law_due"] (spIs C)) :
    FnG P w K mg base CX0 10 f fd ["_law_pot_here"] spRight := by
  refine fnG_ok (k := 9) F scRight (fun vs H Q E h => ?_) (fun cdv A outer s H vs Q E hr hg h => ?_)
  · obtain ⟨p, rfl, _⟩ := h
    rfl
  · obtain ⟨p, rfl, hp, q⟩ := h
    have hr2 := hr.mono (by decide : 2 ≤ 9)
    have hr3 := hr.mono (by decide : 3 ≤ 9)
    have hr4 := hr.mono (by decide : 4 ≤ 9)
    obtain ⟨fm, fmd, mk, Fm, _, _, g, gV, kb, gve⟩ := id M.ex
    refine ⟨_, PSs.nox (pss_cons (ps_par (i := 1) (j := 2) rfl scRight.nd rfl rfl (by decide) rfl rfl (pa_cons (pe_lst pa_nil) (pa_cons (pe_lst pa_nil) pa_nil)) rfl)
      (pss_cons (ps_for PassesOwn.never rfl (pi_range1 rfl L.range (pa_cons pe_int pa_nil)) (pg_name (i := 3) scRight.nd rfl (Or.inl rfl))
        (pss_cons (ps_asg (pe_use G.parts hr4 rfl (pa_cons (pv 0) pa_nil)) (pg_tup (by rfl) (pgs_cons (pg_name (i := 4) scRight.nd rfl (.inl rfl)) (pgs_cons (pg_name (i := 5) scRight.nd rfl (.inl rfl)) pgs_nil))))
        (C8.pss_cut (ps_expr (pe_bm PySem.F.plainAttrs_list PySem.F.slot_list_append PySem.F.type_list_append mt_append (pv 1) (pa_cons (pe_ifExp (pt_cmpR op_gt (pv 3) pe_int (nomark _)) (pe_rat2 M hr3 rfl T.mgC (pv 4) (pv 5))
            (pe_makeK0 mk Fm hr3 rfl T.mgC kb pass0 (pk_cons (pv 5) (pk_cons (pv 4) pk_nil)))) pa_nil)))
        (pss_one (ps_expr (pe_bm PySem.F.plainAttrs_list PySem.F.slot_list_append PySem.F.type_list_append mt_append (pv 2) (pa_cons (pe_use G.low hr2 rfl (pa_cons (pv 4) (pa_cons (pv 5) pa_nil))) pa_nil)))))))
      (pss_cons (ps_for PassesOwn.never rfl (pi_range1 rfl L.range (pa_cons pe_int pa_nil)) (pg_name (i := 3) scRight.nd rfl (Or.inl rfl))
        (pss_cons (ps_asg (pe_use D hr rfl (pa_cons (pv 0) (pa_cons (pv 1) (pa_cons (pv 2) pa_nil)))) (pg_tup (by rfl) (pgs_cons (pg_name (i := 6) scRight.nd rfl (.inl rfl)) (pgs_cons (pg_name (i := 7) scRight.nd rfl (.inl rfl)) pgs_nil))))
        (pss_cons (ps_if (pt_not (pt_val (pe_useG I hr4 hg rfl (pa_cons (pv 6) (pa_cons (pv 7) pa_nil))))) pss_never pss_nil)
        (pss_one (ps_if (pt_cmpR op_lt (pe_callB (call_max2 rfl) (by rfl) L.max PyProof.Rows.boot_max (pa_cons (pe_callB call_abs (by rfl) L.abs PyProof.Rows.boot_abs (pa_cons (pe_ix ix_tup (pv 7) pe_int (fun _ _ => rfl)) pa_nil)) (pa_cons (pe_ix ix_tup (pv 7) pe_int (fun _ _ => rfl)) pa_nil))) (pe_op op_pow pe_int pe_int) (nomark _))
          (pss_cons (ps_expr (pe_bm PySem.F.plainAttrs_list PySem.F.slot_list_append PySem.F.type_list_append mt_append (pv 1) (pa_cons (pv 6) pa_nil)))
          (pss_one (ps_expr (pe_bm PySem.F.plainAttrs_list PySem.F.slot_list_append PySem.F.type_list_append mt_append (pv 2) (pa_cons (pv 7) pa_nil))))) pss_nil)))))
      (pss_cons (ps_set (i := 8) scRight.nd rfl (Or.inl rfl) (pe_use G.integer (hr.mono (by decide : 3 ≤ 9)) rfl (pa_cons (pv 0) pa_nil)))
      (pss_one (ps_ret (pe_and (pe_useG I hr4 hg rfl (pa_cons (pe_rat1 M hr3 rfl T.mgC (pv 8)) (pa_cons (pe_tup (pa_cons (pv 8) (pa_cons pe_int pa_nil))) pa_nil)))
        (pe_one (pe_callB (cr_all rfl) (by rfl) L.all PyProof.Rows.boot_all (pa_cons (pe_lc (g := gTup K 2 (gCons (gName 9) (gCons (gName 7) gNil))) rfl scRight.nd (pi_zip rfl L.zip (pa_cons (pv 1) (pa_cons (pv 2) pa_nil))) (blkOk_by (own := [("_law_one", 9), ("_law_due", 7)]) (by show blkC nRight (defScope sRight) _ _ = true; decide +kernel))
          (fun _ _ _ _ _ => pg_tup (by rfl) (pgs_cons (pg_name (i := 9) scRight.nd rfl (.inl rfl)) (pgs_cons (pg_name (i := 7) scRight.nd rfl (.inl rfl)) pgs_nil)))
          (fun _ _ _ _ _ => pts_nil)
          (fun _ _ _ _ _ => pe_useG I hr4 hg rfl (pa_cons (pv 9) (pa_cons (pv 7) pa_nil)))) pa_nil)))))))))), ?_⟩
    refine ⟨Nat.zero_le _, fun bg hbg => ⟨Nat.zero_le _, fun ps hps => ⟨_, _, rfl, ?_⟩⟩⟩
    have ne : bg ≠ ps := fun z => by rw [z, ← z, upd_same] at hps; cases hps
    have hps0 : H ps = none := by rw [upd_ne ne.symm] at hps; exact hps
    have t0 : Tst C p H (upd (upd H bg (.lst [])) ps (.lst [])) bg ps [] :=
      ⟨(stp_new hp hbg).trans (stp_new (hp.same (same_upd hbg)) hps), ⟨by rw [upd_ne ne]; exact upd_same, upd_same, pot_ne hp hbg, pot_ne hp hps0, fun e he => absurd he (List.not_mem_nil)⟩, hbg, hps0, ne⟩
    refine ⟨4, rfl, by decide, by decide, ?_⟩
    refine for_range (lo := 0) (n := 4) (fun i σ H' => ∃ (es : List (Addr × Addr × (Int × Int))) (v3 v4 v5 : Option V),
      σ = [some (.ref p), some (.ref bg), some (.ref ps), v3, v4, v5, none, none, none, none] ∧ Tst C p H H' bg ps es ∧ es.length = i)
      ⟨[], _, _, _, rfl, t0, rfl⟩ ?_ ?_
    · rintro i σ H' hi ⟨es, v3, v4, v5, rfl, t, hes⟩
      refine ⟨_, rfl, p, rfl, t.st.pot, fun tp u l H1 bu bl hl hpa s1 => ⟨tp, _, rfl, SqT.of hpa, rfl, _, _, rfl, _, _, rfl, rfl, ?_⟩⟩
      have t1 := t.go s1
      have ll : (es.map fun e => V.ref e.1).length = i := by rw [List.length_map]; exact hes
      have ll2 : (es.map fun e => V.ref e.2.1).length = i := by rw [List.length_map]; exact hes
      refine ⟨fun σ' H' => ∃ (m : Addr) (H2 : Hp), σ' = [some (.ref p), some (.ref bg), some (.ref ps), some (.int (0 + (i : Int))), some (.int u), some (.int l), none, none, none, none] ∧ Same H1 H2 ∧ RatAt C H2 m (low u l).1 (low u l).2 ∧
        H' = upd H2 bg (.lst ((es.map fun e => V.ref e.1) ++ [.ref m])), ?_, ?_⟩
      · refine ⟨_, rfl, .inl ⟨rfl, _, SqL.of t1.B.hb⟩, _, rfl, _, _, rfl, rfl, _, rfl, ?_⟩
        refine ite2 (fun c => ?_) (fun c => ?_)
        · refine ⟨_, rfl, _, rfl, ?_⟩
          refine rat_new hl (bl.mono (by decide)) fun m H2 hm s2 _ => ?_
          exact ⟨bg, _, _, rfl, rfl, s2 _ _ t1.B.hb, Nat.lt_of_le_of_lt (show (es.map fun e => V.ref e.1).length ≤ 1000 by rw [ll]; omega) (by decide), m, H2, rfl, s2, hm, rfl⟩
        · refine ⟨_, rfl, _, rfl, rfl, rfl, ?_⟩
          refine rat_newK gve hl (bl.mono (by decide)) fun m H2 hm s2 _ => ?_
          exact ⟨bg, _, _, rfl, rfl, s2 _ _ t1.B.hb, Nat.lt_of_le_of_lt (show (es.map fun e => V.ref e.1).length ≤ 1000 by rw [ll]; omega) (by decide), m, H2, rfl, s2, hm, rfl⟩
      · rintro σ' H' ⟨m, H2, rfl, s2, hm, rfl⟩
        have t2 := t1.go (Stp.of s2 t1.st.pot)
        have hps2 : upd H2 bg (.lst ((es.map fun e => V.ref e.1) ++ [.ref m])) ps = some (.lst (es.map fun e => V.ref e.2.1)) := by rw [upd_ne ne.symm]; exact t2.B.hp
        refine ⟨_, rfl, .inl ⟨rfl, _, SqL.of hps2⟩, _, rfl, _, rfl, u, l, rfl, hl, bl.mono (by decide), fun qa H4 hqa s4 _ => ?_⟩
        refine ⟨ps, _, _, rfl, rfl, s4 _ _ hps2, Nat.lt_of_le_of_lt (show (es.map fun e => V.ref e.2.1).length ≤ 1000 by rw [ll2]; omega) (by decide), ?_⟩
        refine ⟨es ++ [(m, qa, low u l)], _, _, _, rfl, t2.app hm s4 hqa (low_lw u hl) (bd_low1 hl (bu.mono (by decide))) (bd_low2 hl (bl.mono (by decide))), ?_⟩
        rw [List.length_append, hes]
        rfl
    · rintro σ H' ⟨es, v3, v4, v5, rfl, t, hes⟩
      refine ⟨18, rfl, by decide, by decide, ?_⟩
      refine for_range (lo := 0) (n := 18) (fun i σ H' => ∃ (es : List (Addr × Addr × (Int × Int))) (v3 v4 v5 v6 v7 : Option V),
        σ = [some (.ref p), some (.ref bg), some (.ref ps), v3, v4, v5, v6, v7, none, none] ∧ Tst C p H H' bg ps es ∧ 4 ≤ es.length ∧ es.length ≤ 4 + i)
        ⟨es, _, _, _, _, _, rfl, t, by omega, by omega⟩ ?_ ?_
      · rintro i σ H' hi ⟨es, v3, v4, v5, v6, v7, rfl, t, h4, hes⟩
        refine ⟨_, rfl, _, rfl, _, rfl, p, bg, ps, es, rfl, t.st.pot, t.B, by omega, by omega, fun v H1 s1 hv => ?_⟩
        obtain ⟨tp, m, qa, a, rfl, htp, hm, hqa, lw, b1, b2⟩ := hv
        refine ⟨tp, _, rfl, SqT.of htp, rfl, _, _, rfl, _, _, rfl, rfl, ?_⟩
        have t1 := t.go s1
        refine ⟨_, rfl, _, rfl, m, qa, a, rfl, hm, hqa, b1, b2, fun H2 s2 => ⟨true, rfl, ?_⟩⟩
        refine iteF ?_
        have t2 := t1.go (Stp.of s2 t1.st.pot)
        have hm2 := hm.same s2
        have hqa2 := hqa.same s2
        have sq : SqT K H2 qa [.int a.1, .int a.2] := SqT.of hqa2
        refine ⟨_, rfl, qa, _, _, _, rfl, rfl, sq, ix2_0 a, a.1, rfl, _, rfl, qa, _, _, _, rfl, rfl, sq, ix2_1 a, _, _, rfl, _, _, rfl, rfl, ⟨by decide, by decide, by decide⟩, _, _, rfl, rfl, _, rfl, ?_⟩
        have ll : (es.map fun e => V.ref e.1).length = es.length := List.length_map ..
        have ll2 : (es.map fun e => V.ref e.2.1).length = es.length := List.length_map ..
        refine ite2 (fun c => ?_) (fun c => ?_)
        · have c' := max_lt (of_decide_eq_true c)
          rw [abs_eq] at c'
          have hps2 : upd H2 bg (.lst ((es.map fun e => V.ref e.1) ++ [.ref m])) ps = some (.lst (es.map fun e => V.ref e.2.1)) := by rw [upd_ne ne.symm]; exact t2.B.hp
          refine ⟨_, rfl, .inl ⟨rfl, _, SqL.of t2.B.hb⟩, _, rfl, bg, _, _, rfl, rfl, t2.B.hb, Nat.lt_of_le_of_lt (show (es.map fun e => V.ref e.1).length ≤ 1000 by rw [ll]; omega) (by decide), ?_⟩
          refine ⟨_, rfl, .inl ⟨rfl, _, SqL.of hps2⟩, _, rfl, ps, _, _, rfl, rfl, hps2, Nat.lt_of_le_of_lt (show (es.map fun e => V.ref e.2.1).length ≤ 1000 by rw [ll2]; omega) (by decide), ?_⟩
          refine ⟨es ++ [(m, qa, a)], _, _, _, _, _, rfl, t2.app hm2 (Same.refl _) (PairAt.updl t2.B.hb hqa2) lw (bd60 c'.1) (bd60 ?_), ?_, ?_⟩
          · have hp2 := lw.pos
            have e : (a.2.natAbs : Int) = a.2 := by omega
            rw [e]
            exact c'.2
          · rw [List.length_append]; omega
          · rw [List.length_append]
            show es.length + 1 ≤ 4 + (i + 1)
            omega
        · exact ⟨es, _, _, _, _, _, rfl, t2, h4, by omega⟩
      · rintro σ H' ⟨es, v3, v4, v5, v6, v7, rfl, t, h4, hes⟩
        refine ⟨_, rfl, p, rfl, t.st.pot, fun n H1 bn s1 => ?_⟩
        have t1 := t.go s1
        refine ⟨_, rfl, rat_new (by decide) (bd_one (by decide)) fun m H2 hm s2 _ => ?_⟩
        rw [low_int] at hm
        refine ⟨_, rfl, by show 2 ≤ sizeLine; decide, fun qa hqa => ?_⟩
        have s3 : Same H2 (upd H2 qa (.tup [.int n, .int 1])) := same_upd hqa
        refine ⟨m, qa, (n, 1), rfl, hm.same s3, upd_same, bn.mono (by decide), bd_one (by decide), fun H4 s4 => ⟨true, rfl, ?_⟩⟩
        refine iteT ?_
        have t4 := t1.go ((Stp.of s2 t1.st.pot).trans ((Stp.of s3 (t1.st.pot.same s2)).trans (Stp.of s4 ((t1.st.pot.same s2).same s3))))
        refine ⟨_, rfl, _, rfl, bg, ps, _, _, rfl, SqL.of t4.B.hb, SqL.of t4.B.hp, fun D hD => ?_⟩
        have hD0 : H D = none := by
          cases e : H D with
          | none => rfl
          | some o =>
            by_cases hx : D = p
            · obtain ⟨x, y, z, _⟩ := t4.st.pot
              rw [hx, z] at hD
              exact nomatch hD
            · rw [t4.st.keep D o hx e] at hD
              exact nomatch hD
        have nDp : D ≠ p := pot_ne t4.st.pot hD
        have nDb : D ≠ bg := fun z => by rw [z, t4.B.hb] at hD; exact nomatch hD
        have nDs : D ≠ ps := fun z => by rw [z, t4.B.hp] at hD; exact nomatch hD
        refine lc_it (walk_zip (xs := es.map fun e => V.ref e.1) (ys := es.map fun e => V.ref e.2.1) (n := es.length) (by rw [List.length_map, List.length_map]; omega))
          (fun i H' => Tst C p H H' bg ps es ∧ H' D = some (.lst ((List.replicate i true).map V.bl)) ∧ i ≤ es.length) ⟨⟨⟨stp_updl (xs := []) t4.st nDp hD0 |>.keep, pot_updl nDp t4.st.pot⟩, ?_, t4.nb, t4.np, t4.ne⟩, upd_same, Nat.zero_le _⟩ ?_ ?_ ?_
        · exact ⟨by rw [upd_ne nDb.symm]; exact t4.B.hb, by rw [upd_ne nDs.symm]; exact t4.B.hp, t4.B.nb, t4.B.np, fun e he => (t4.B.en e he).same (same_upd hD)⟩
        · intro i H' _ h
          exact ⟨SqL.of h.1.B.hb, SqL.of h.1.B.hp⟩
        · rintro i v H5 H6 hi ⟨t5, hD5, _⟩ ⟨Tp, x, y, rfl, hTp, rfl, hx, hy⟩
          replace hx : (es.map fun e => V.ref e.1)[i]? = some x := hx
          replace hy : (es.map fun e => V.ref e.2.1)[i]? = some y := hy
          rw [List.getElem?_map, List.getElem?_eq_getElem hi] at hx hy
          cases hx
          cases hy
          have E := t5.B.get hi
          have s6 : Same H5 (upd H5 Tp (.tup [.ref es[i].1, .ref es[i].2.1])) := same_upd hTp
          refine ⟨Tp, _, rfl, SqT.of upd_same, rfl, _, _, rfl, _, _, rfl, rfl, rfl, ?_⟩
          refine tYes_at ?_
          refine ⟨_, rfl, _, rfl, es[i].1, es[i].2.1, es[i].2.2, rfl, (E.same s6).r, (E.same s6).p, E.b1.mono (by decide), E.b2.mono (by decide), fun H7 s7 => ?_⟩
          have hD7 := s7 _ _ (s6 _ _ hD5)
          have t7 := t5.go ((Stp.of s6 t5.st.pot).trans (Stp.of s7 (t5.st.pot.same s6)))
          refine ⟨_, hD7, ?_, t7.updl hD7 hD0 nDp nDb nDs, ?_, hi⟩
          · rw [List.length_map, List.length_replicate]
            exact Nat.lt_of_le_of_lt (show i ≤ 1000 by omega) (by decide)
          · rw [upd_same, List.replicate_succ', List.map_append]
            rfl
        · rintro H' ⟨t5, hD5, _⟩
          refine ⟨D, List.replicate es.length true, rfl, SqL.of hD5, ?_⟩
          rw [all_true]
          exact q _ t5.st
end
end La
namespace La
open PySem PySem.Spec PyProof.Rows L2 Ow Rm Ra
section
variable {P : Program} {w : World} {K : PySem.W.Frag} {mg : Str → Option Value} {base : Heap}
abbrev nLaw : List Str := ["_law_script", "_law_k"]
theorem scLaw : FnScope nLaw ["_law_script"] (defScope sLaw) := ⟨rfl, rfl, rfl, by decide +kernel, rfl, by decide +kernel, by decide +kernel⟩
def spLaw (K : PySem.W.Frag) : Sp := fun vs H Q _ => ∃ (a : Addr) (ns : List Int), vs = [.ref a] ∧ ns.length ≤ 63 ∧ SqL K H a (ns.map V.int) ∧ ∀ H', Q (.bl true) H'
theorem ok_law {f : Addr} {fd : FuncData} (F : FnP K "law" "law" sLaw [] f fd) (L : LT mg)
    (D : Dfn P w K mg base 1 "_law_pot" ["_law_script", "_law_k"] (spPot K)) (R : DfnG P w K mg base 10 "_law_right" ["_law_pot_here"] spRight) :
    FnG P w K mg base CX0 11 f fd ["_law_script"] (spLaw K) := by
  refine fnG_ok (k := 10) F scLaw (fun vs H Q E h => ?_) (fun cdv A outer s H vs Q E hr hg h => ?_)
  · obtain ⟨a, ns, rfl, _⟩ := h
    rfl
  · obtain ⟨a, ns, rfl, hn, hs, q⟩ := h
    have hr1 := hr.mono (by decide : 1 ≤ 10)
    refine ⟨_, PSs.nox (pss_one (ps_ret (pe_callB (cr_all rfl) (by rfl) L.all PyProof.Rows.boot_all (pa_cons (pe_lc rfl scLaw.nd
        (pi_range1 rfl L.range (pa_cons (pe_callB (call_max2 rfl) (by rfl) L.max PyProof.Rows.boot_max (pa_cons pe_int (pa_cons (pe_callB (call_min2 rfl) (by rfl) L.min PyProof.Rows.boot_min (pa_cons (pe_callB call_len_seq (by rfl) L.len PySem.boot_len (pa_cons (pv 0) pa_nil)) (pa_cons pe_int pa_nil))) pa_nil))) pa_nil))
          (blkOk_by (own := [("_law_k", 1)]) (by show blkC nLaw (defScope sLaw) _ _ = true; decide +kernel))
          (fun _ _ _ _ _ => pg_name (i := 1) scLaw.nd rfl (.inl rfl))
          (fun _ _ _ _ _ => pts_nil)
          (fun _ _ _ _ _ => pe_useG R hr hg rfl (pa_cons (pe_use D hr1 rfl (pa_cons (pv 0) (pa_cons (pv 1) pa_nil))) pa_nil))) pa_nil)))), ?_⟩
    refine ⟨_, rfl, a, _, rfl, .inl hs, _, _, rfl, _, _, rfl, ?_⟩
    generalize hN : (ns.map V.int).length = n
    have hb : ∀ r : Int, r = (if (if (3 : Int) < (n : Int) then (3 : Int) else (n : Int)) > 1 then (if (3 : Int) < (n : Int) then (3 : Int) else (n : Int)) else 1) → 0 ≤ r ∧ r ≤ 3 := by
      intro r e
      subst e
      split <;> split <;> omega
    obtain ⟨r0, r3⟩ := hb _ rfl
    generalize (if (if (3 : Int) < (n : Int) then (3 : Int) else (n : Int)) > 1 then (if (3 : Int) < (n : Int) then (3 : Int) else (n : Int)) else 1) = r at r0 r3 ⊢
    refine ⟨r, rfl, Int.le_trans (by decide) r0, Int.lt_of_le_of_lt r3 (by decide), fun D0 hD => ?_⟩
    refine lc_range (lo := 0) (n := r.toNat) (fun i H' => Same H H' ∧ H' D0 = some (.lst ((List.replicate i true).map V.bl))) ⟨same_upd hD, upd_same⟩ ?_ ?_
    · rintro i H5 hi ⟨s5, hD5⟩
      refine ⟨rfl, tYes_at ?_⟩
      refine ⟨_, rfl, _, rfl, a, ns, _, rfl, SqL.ext hs s5, by omega, fun p x y hx hp => ?_⟩
      refine ⟨p, rfl, ⟨x, y, upd_same, hx⟩, fun H7 s7 => ?_⟩
      have nDp : D0 ≠ p := ne_of_none hD5 hp
      have hD7 := s7.keep D0 _ nDp (by rw [upd_ne nDp]; exact hD5)
      refine ⟨_, hD7, ?_, fun b o e => ?_, ?_⟩
      · rw [List.length_map, List.length_replicate]
        exact Nat.lt_of_le_of_lt (show i ≤ 1000 by omega) (by decide)
      · have e5 := s5 _ _ e
        have n1 : b ≠ p := ne_of_none e5 hp
        have n2 : b ≠ D0 := ne_of_none e hD
        rw [upd_ne n2]
        exact s7.keep b o n1 (by rw [upd_ne n1]; exact e5)
      · rw [upd_same, List.replicate_succ', List.map_append]
        rfl
    · rintro H' ⟨s5, hD5⟩
      refine ⟨D0, List.replicate r.toNat true, rfl, SqL.of hD5, ?_⟩
      rw [all_true]
      exact q _
end
end La
/-! What the text's top leaves behind, as tests of the written part of the heap. -/
namespace Hd
open PySem PySem.Spec PyProof.Rows L2 Ow Rm Ra La
abbrev Fr := PySem.W.Frag
abbrev Ask := Fr → Bool
/-- the tests' answers, what stands at each def -/
def look (cs : List Ask) (ds : List He5.DefA) (K : Fr) : He.AlD := (cs.all (fun c => c K) && ds.all (fun d => d.ok K), ds.map (fun d => He5.fnA K (d.at_ K)))
def good (ds : List He5.DefA) : He.AlD := (true, ds.map (fun d => d.val))
def Says (cs : List Ask) (ds : List He5.DefA) (K : Fr) : Prop := look cs ds K = good ds
def lookG (n : Nat) (cs : List Ask) (ds : List He5.DefA) (g : Addr → Option Obj) : He.AlD := look cs ds (He.frG g (He5.asA g n))
def hkOf (n : Nat) (cs : List Ask) (ds : List He5.DefA) : PySem.W.Hook :=
  { α := He.AlD, obs := fun s => lookG n cs ds s.heap.get?, val := fun _ => good ds, says := fun _ h => ∃ K : Fr, K.In h ∧ Says cs ds K,
    of := fun _ _ e => ⟨_, He.frG_in, e⟩, keeps := fun _ _ _ z k => z.elim fun K c => ⟨K, PySem.W.Frag.In.keeps c.1 k, c.2⟩ }
theorem lookG_eq {n : Nat} {cs : List Ask} {ds : List He5.DefA} {g : Addr → Option Obj} {s : Shared} (h : ∀ a, g a = s.heap.get? a) : lookG n cs ds g = (hkOf n cs ds).obs s := by
  rw [show g = s.heap.get? from funext h]
  rfl
theorem Says.ask {cs : List Ask} {ds : List He5.DefA} {K : Fr} (c : Says cs ds K) (i : Nat) {a : Ask} (h : cs[i]? = some a := by rfl) : a K = true := by
  have c1 := congrArg Prod.fst c
  exact List.all_eq_true.mp (He.ba c1).1 a (List.mem_of_getElem? h)
theorem Says.dfn {cs : List Ask} {ds : List He5.DefA} {K : Fr} (c : Says cs ds K) (i : Nat) {d : He5.DefA} (h : ds[i]? = some d := by rfl) : ∃ fd, FunD K d.name d.qual d.params d.body d.scope (d.dvs K) (d.kws K) (d.at_ K) fd := by
  have c1 := List.all_eq_true.mp (He.ba (congrArg Prod.fst c)).2 d (List.mem_of_getElem? h)
  have c2 : (ds.map (fun d => He5.fnA K (d.at_ K)))[i]? = (ds.map (fun d => d.val))[i]? := congrArg (fun z : He.AlD => z.2[i]?) c
  rw [List.getElem?_map, List.getElem?_map, h] at c2
  exact He5.DefA.funD (Option.some.inj c2) c1

/-! ### where things are -/
def ca (K : Fr) : Addr := He.ga K "Ratio"
def pa (x : Str) (K : Fr) : Addr := He.ma K (ca K) x
def geta (x : Str) (K : Fr) : Addr := match PySem.W.recIn K (pa x K) "property" with
  | some (.ref g :: _) => g
  | _ => 0
def aGlo (x : Str) : Ask := fun K => (He.Fa.glo x).ok K
def aFree (x : Str) : Ask := fun K => (He.Fa.free x).ok K
def aGcd : Ask := fun K => He.eqO (PySem.W.nsIn K mainGlobals "gcd") (some (some (.builtin "math.gcd")))
def aNum : Ask := fun K => PySem.W.selfFirst K (ca K) && (decide (PySem.W.subIn K (.type "int") (.ref (ca K)) = some false) && decide (PySem.W.subIn K (.ref (ca K)) (.type "int") = some false))
def aIs1 : Ask := fun K => He.eqO (PySem.W.findIn K (.ref (ca K)) "__class__") (some (some (.builtin "object.__class__"))) && (He.eqO (PySem.W.specialIn K (.builtin "object.__class__") "__get__") (some (some (.builtin "getset_descriptor.__get__"))) &&
  decide (PySem.W.takesIn K (.builtin "object.__class__") = some true))
def aIs2 : Ask := fun K => decide (PySem.W.mroIn K (ca K) (.type "object") = some true) && (decide (PySem.W.kitOne K (.ref (ca K)) (.ref (ca K)) = some true) && decide (PySem.W.kitOne K (.type "int") (.ref (ca K)) = some false))
def aPrp (x : Str) : Ask := fun K => He.eqO (PySem.W.findIn K (.ref (ca K)) x) (some (some (.ref (pa x K)))) && (He.eqO (PySem.W.specialIn K (.ref (pa x K)) "__get__") (some (some (.builtin "property.__get__"))) &&
  (decide (PySem.W.takesIn K (.ref (pa x K)) = some true) && (match PySem.W.recIn K (pa x K) "property" with
    | some (.ref _ :: _) => true
    | _ => false)))
def aOp (x : Str) : Ask := fun K => He.eqO (PySem.W.findIn K (.ref (ca K)) x) (some (some (.ref (pa x K)))) && PySem.W.isFn K (.ref (pa x K))
def aInt (x : Str) : Ask := fun K => (PySem.W.findIn K (.type "int") x).isSome
def aTot : Ask := fun K => He5.wrapB K (ca K) "classmethod" "classmethod.__get__" "total" && PySem.W.fnIn K (He5.wf K (ca K) "classmethod" "total")
def aRd : Ask := fun K => PySem.W.readsIn K (ca K) (.type "type")

section
variable {K : Fr}
theorem num_of (c : aNum K = true) : Num K (ca K) :=
  have h := He.ba c
  have h2 := He.ba h.2
  ⟨h.1, of_decide_eq_true h2.1, of_decide_eq_true h2.2⟩
theorem prp_of {x : Str} (c : aPrp x K = true) : PropOf K (ca K) x (pa x K) (geta x K) := by
  obtain ⟨h1, h⟩ := He.ba c
  obtain ⟨h2, h⟩ := He.ba h
  obtain ⟨h3, h4⟩ := He.ba h
  refine ⟨He.eqO_ok h1, He.eqO_ok h2, of_decide_eq_true h3, ?_⟩
  unfold geta
  split at h4
  · rename_i g r e
    exact ⟨r, by rw [e]⟩
  · exact nomatch h4
theorem op_of {x : Str} (c : aOp x K = true) : OpOf K (ca K) x (pa x K) := ⟨He.eqO_ok (He.ba c).1, (He.ba c).2⟩
theorem int_of {x : Str} (c : aInt x K = true) : ∃ v, PySem.W.findIn K (.type "int") x = some v := Option.isSome_iff_exists.mp c
theorem tot_of (c : aTot K = true) : ClX.CMet K (ca K) (.type "type") "total" (pa "total" K) (He5.wf K (ca K) "classmethod" "total") := He5.cmet_of (He.ba c).1 (He.ba c).2
theorem rd_of (c : aRd K = true) : ClX.CRead K (ca K) (.type "type") := by
  have c0 : PySem.W.readsIn K (ca K) (.type "type") = true := c
  refine ⟨c0, ?_⟩
  unfold PySem.W.readsIn at c0
  simp only [Bool.and_eq_true, beq_iff_eq] at c0
  unfold PySem.W.specialIn
  rw [c0.1.1.1.2]
  exact c0.1.1.2
end
/-! ### the defs, where they stand -/
def gD (x : Str) (st : Stmt) : He5.DefA := ⟨fun K => He.ga K x, x, x, defArgs st, defBody st, defScope st, [], []⟩
def mD (x q : Str) (st : Stmt) : He5.DefA := ⟨pa x, x, q, defArgs st, defBody st, defScope st, [], []⟩
def pD (x q : Str) (st : Stmt) : He5.DefA := ⟨geta x, x, q, defArgs st, defBody st, defScope st, [], []⟩
def ds : List He5.DefA := [gD "is_integer" sIsInt, gD "as_ratio" sAsRatio, ⟨pa "__init__", "__init__", "Ratio.__init__", defArgs sInit, defBody sInit, defScope sInit, [.int 1], []⟩,
  pD "top" "Ratio.top" sTop, pD "bottom" "Ratio.bottom" sBottom, pD "sign" "Ratio.sign" sSign,
  ⟨fun K => He5.wf K (ca K) "classmethod" "total", "total", "Ratio.total", defArgs sTotal, defBody sTotal, defScope sTotal, [], []⟩,
  mD "__add__" "Ratio.__add__" sAdd, mD "__radd__" "Ratio.__radd__" sRadd, mD "__sub__" "Ratio.__sub__" sSub, mD "__rsub__" "Ratio.__rsub__" sRsub, mD "__mul__" "Ratio.__mul__" sMul, mD "__rmul__" "Ratio.__rmul__" sRmul,
  mD "__neg__" "Ratio.__neg__" sNeg, mD "over" "Ratio.over" sOver, mD "__str__" "Ratio.__str__" sStr, mD "__repr__" "Ratio.__repr__" sRepr,
  gD "_law_pot" sPot, gD "_law_draw" sDraw, gD "_law_pick" sPick, gD "_law_common" sCommon, gD "_law_low" sLow, gD "_law_plus" sPlus, gD "_law_minus" sMinus, gD "_law_times" sTimes, gD "_law_integer" sInteger, gD "_law_parts" sParts,
  gD "_law_is" sIs, gD "_law_of_two" sOfTwo, gD "_law_of_integer" sOfInteger, gD "_law_total" sTotalOf, gD "_law_of_some" sOfSome, gD "_law_deed" sDeed, gD "_law_right" sRight, gD "law" sLaw]

def cs : List Ask := [
  aGlo "is_integer", aGlo "as_ratio", aGlo "Ratio", aGlo "_law_pot", aGlo "_law_draw", aGlo "_law_pick",
  aGlo "_law_common", aGlo "_law_low", aGlo "_law_plus", aGlo "_law_minus", aGlo "_law_times", aGlo "_law_integer",
  aGlo "_law_parts", aGlo "_law_is", aGlo "_law_of_two", aGlo "_law_of_integer", aGlo "_law_total", aGlo "_law_of_some",
  aGlo "_law_deed", aGlo "_law_right", aGlo "law", aFree "isinstance", aFree "int", aFree "bool",
  aFree "str", aFree "len", aFree "abs", aFree "max", aFree "min", aFree "divmod",
  aFree "range", aFree "all", aFree "zip", aFree "repr", aGcd, fun K => (He.Fa.cls "Ratio").ok K,
  fun K => (He.Fa.noat "Ratio" "_top").ok K, fun K => (He.Fa.noat "Ratio" "_bottom").ok K, fun K => (He.Fa.mkr "Ratio").ok K, aNum, aIs1, aIs2,
  fun K => (He.Fa.meth "Ratio" "over").ok K, aTot, aRd, aPrp "top", aPrp "bottom", aPrp "sign",
  aOp "__add__", aOp "__radd__", aOp "__sub__", aOp "__rsub__", aOp "__mul__", aOp "__rmul__",
  aOp "__neg__", aOp "__str__", aOp "__repr__", aInt "__add__", aInt "__radd__", aInt "__sub__",
  aInt "__rsub__", aInt "__mul__", aInt "__rmul__"]
end Hd
namespace Hd
open PySem PySem.Spec PyProof.Rows L2 Ow Rm Ra La
section
variable {P : Program} {w : World} {K : Fr} {h : Heap} {mg : Str → Option Value} {f : Addr}
/-- Ratio(bottom=.., top=..): the parameters' order -/
def mix {α : Type} (us its ws : List α) : List α := match us, ws with
  | [a], [b, c] => [a, c, b]
  | _, _ => []
theorem mix_ok {vs ds zs : List V} {us its ws : List Value} (h1 : Vals vs us) (h2 : Vals ds its) (h3 : Vals zs ws) : Vals (mix vs ds zs) (mix us its ws) := by
  cases h1 with
  | nil => exact .nil
  | cons a r1 => cases r1 with
    | cons _ _ => exact .nil
    | nil => cases h3 with
      | nil => exact .nil
      | cons b r3 => cases r3 with
        | nil => exact .nil
        | cons c r4 => cases r4 with
          | cons _ _ => exact .nil
          | nil => exact .cons a (.cons c (.cons b .nil))
theorem facts (X : K.In h) (G : h.Ns mainGlobals mg) (hfa : mg ("law" : Str) = some (.ref f)) (c : Says cs ds K) :
    ∃ fd : FuncData, (∀ (s : Shared) (v : Value), BindsTo s fd ⟨[v], []⟩ [("_law_script", v)]) ∧ ∀ base : Heap, K.In base → base.Ns mainGlobals mg → FnG P w K mg base CX0 11 f fd ["_law_script"] (spLaw K) := by
  obtain ⟨fd0, F0⟩ := c.dfn 0 rfl
  have F0 : FnP K "is_integer" "is_integer" sIsInt [] (He.ga K "is_integer") fd0 := F0
  obtain ⟨fd1, F1⟩ := c.dfn 1 rfl
  have F1 : FnP K "as_ratio" "as_ratio" sAsRatio [] (He.ga K "as_ratio") fd1 := F1
  obtain ⟨fd2, F2⟩ := c.dfn 2 rfl
  have F2 : FnP K "__init__" "Ratio.__init__" sInit [.int 1] (pa "__init__" K) fd2 := F2
  obtain ⟨fd3, F3⟩ := c.dfn 3 rfl
  have F3 : FnP K "top" "Ratio.top" sTop [] (geta "top" K) fd3 := F3
  obtain ⟨fd4, F4⟩ := c.dfn 4 rfl
  have F4 : FnP K "bottom" "Ratio.bottom" sBottom [] (geta "bottom" K) fd4 := F4
  obtain ⟨fd5, F5⟩ := c.dfn 5 rfl
  have F5 : FnP K "sign" "Ratio.sign" sSign [] (geta "sign" K) fd5 := F5
  obtain ⟨fd6, F6⟩ := c.dfn 6 rfl
  have F6 : FnP K "total" "Ratio.total" sTotal [] (He5.wf K (ca K) "classmethod" "total") fd6 := F6
  obtain ⟨fd7, F7⟩ := c.dfn 7 rfl
  have F7 : FnP K "__add__" "Ratio.__add__" sAdd [] (pa "__add__" K) fd7 := F7
  obtain ⟨fd8, F8⟩ := c.dfn 8 rfl
  have F8 : FnP K "__radd__" "Ratio.__radd__" sRadd [] (pa "__radd__" K) fd8 := F8
  obtain ⟨fd9, F9⟩ := c.dfn 9 rfl
  have F9 : FnP K "__sub__" "Ratio.__sub__" sSub [] (pa "__sub__" K) fd9 := F9
  obtain ⟨fd10, F10⟩ := c.dfn 10 rfl
  have F10 : FnP K "__rsub__" "Ratio.__rsub__" sRsub [] (pa "__rsub__" K) fd10 := F10
  obtain ⟨fd11, F11⟩ := c.dfn 11 rfl
  have F11 : FnP K "__mul__" "Ratio.__mul__" sMul [] (pa "__mul__" K) fd11 := F11
  obtain ⟨fd12, F12⟩ := c.dfn 12 rfl
  have F12 : FnP K "__rmul__" "Ratio.__rmul__" sRmul [] (pa "__rmul__" K) fd12 := F12
  obtain ⟨fd13, F13⟩ := c.dfn 13 rfl
  have F13 : FnP K "__neg__" "Ratio.__neg__" sNeg [] (pa "__neg__" K) fd13 := F13
  obtain ⟨fd14, F14⟩ := c.dfn 14 rfl
  have F14 : FnP K "over" "Ratio.over" sOver [] (pa "over" K) fd14 := F14
  obtain ⟨fd15, F15⟩ := c.dfn 15 rfl
  have F15 : FnP K "__str__" "Ratio.__str__" sStr [] (pa "__str__" K) fd15 := F15
  obtain ⟨fd16, F16⟩ := c.dfn 16 rfl
  have F16 : FnP K "__repr__" "Ratio.__repr__" sRepr [] (pa "__repr__" K) fd16 := F16
  obtain ⟨fd17, F17⟩ := c.dfn 17 rfl
  have F17 : FnP K "_law_pot" "_law_pot" sPot [] (He.ga K "_law_pot") fd17 := F17
  obtain ⟨fd18, F18⟩ := c.dfn 18 rfl
  have F18 : FnP K "_law_draw" "_law_draw" sDraw [] (He.ga K "_law_draw") fd18 := F18
  obtain ⟨fd19, F19⟩ := c.dfn 19 rfl
  have F19 : FnP K "_law_pick" "_law_pick" sPick [] (He.ga K "_law_pick") fd19 := F19
  obtain ⟨fd20, F20⟩ := c.dfn 20 rfl
  have F20 : FnP K "_law_common" "_law_common" sCommon [] (He.ga K "_law_common") fd20 := F20
  obtain ⟨fd21, F21⟩ := c.dfn 21 rfl
  have F21 : FnP K "_law_low" "_law_low" sLow [] (He.ga K "_law_low") fd21 := F21
  obtain ⟨fd22, F22⟩ := c.dfn 22 rfl
  have F22 : FnP K "_law_plus" "_law_plus" sPlus [] (He.ga K "_law_plus") fd22 := F22
  obtain ⟨fd23, F23⟩ := c.dfn 23 rfl
  have F23 : FnP K "_law_minus" "_law_minus" sMinus [] (He.ga K "_law_minus") fd23 := F23
  obtain ⟨fd24, F24⟩ := c.dfn 24 rfl
  have F24 : FnP K "_law_times" "_law_times" sTimes [] (He.ga K "_law_times") fd24 := F24
  obtain ⟨fd25, F25⟩ := c.dfn 25 rfl
  have F25 : FnP K "_law_integer" "_law_integer" sInteger [] (He.ga K "_law_integer") fd25 := F25
  obtain ⟨fd26, F26⟩ := c.dfn 26 rfl
  have F26 : FnP K "_law_parts" "_law_parts" sParts [] (He.ga K "_law_parts") fd26 := F26
  obtain ⟨fd27, F27⟩ := c.dfn 27 rfl
  have F27 : FnP K "_law_is" "_law_is" sIs [] (He.ga K "_law_is") fd27 := F27
  obtain ⟨fd28, F28⟩ := c.dfn 28 rfl
  have F28 : FnP K "_law_of_two" "_law_of_two" sOfTwo [] (He.ga K "_law_of_two") fd28 := F28
  obtain ⟨fd29, F29⟩ := c.dfn 29 rfl
  have F29 : FnP K "_law_of_integer" "_law_of_integer" sOfInteger [] (He.ga K "_law_of_integer") fd29 := F29
  obtain ⟨fd30, F30⟩ := c.dfn 30 rfl
  have F30 : FnP K "_law_total" "_law_total" sTotalOf [] (He.ga K "_law_total") fd30 := F30
  obtain ⟨fd31, F31⟩ := c.dfn 31 rfl
  have F31 : FnP K "_law_of_some" "_law_of_some" sOfSome [] (He.ga K "_law_of_some") fd31 := F31
  obtain ⟨fd32, F32⟩ := c.dfn 32 rfl
  have F32 : FnP K "_law_deed" "_law_deed" sDeed [] (He.ga K "_law_deed") fd32 := F32
  obtain ⟨fd33, F33⟩ := c.dfn 33 rfl
  have F33 : FnP K "_law_right" "_law_right" sRight [] (He.ga K "_law_right") fd33 := F33
  obtain ⟨fd34, F34⟩ := c.dfn 34 rfl
  have F34 : FnP K "law" "law" sLaw [] (He.ga K "law") fd34 := F34
  have gl : ∀ x : Str, aGlo x K = true → mg x = some (.ref (He.ga K x)) := fun x e => He.glo_ok X G e
  have fr : ∀ x : Str, aFree x K = true → mg x = none := fun x e => He.free_ok X G e
  have e := hfa.symm.trans (gl "law" (c.ask 20 rfl))
  cases e
  have is1 := He.ba (show (_ && _) = true from c.ask 40 rfl)
  have is2 := He.ba (show (_ && _) = true from c.ask 41 rfl)
  have T : RT K mg (ca K) := ⟨He.cls_ok (c.ask 35 rfl), He.noat_ok (c.ask 36 rfl), He.noat_ok (c.ask 37 rfl), gl "Ratio" (c.ask 2 rfl), num_of (c.ask 39 rfl), He.eqO_ok is1.1, He.eqO_ok (He.ba is1.2).1, of_decide_eq_true (He.ba is1.2).2,
    of_decide_eq_true is2.1, of_decide_eq_true (He.ba is2.2).1, of_decide_eq_true (He.ba is2.2).2, fr _ (c.ask 21 rfl), fr _ (c.ask 22 rfl), fr _ (c.ask 23 rfl), fr _ (c.ask 24 rfl), PySem.W.mg_of X G (He.eqO_ok (c.ask 34 rfl))⟩
  have L : LT mg := ⟨fr _ (c.ask 25 rfl), fr _ (c.ask 26 rfl), fr _ (c.ask 27 rfl), fr _ (c.ask 28 rfl), fr _ (c.ask 22 rfl), fr _ (c.ask 29 rfl), fr _ (c.ask 30 rfl), fr _ (c.ask 31 rfl), fr _ (c.ask 32 rfl), fr _ (c.ask 33 rfl), fr _ (c.ask 24 rfl), fr _ (c.ask 21 rfl)⟩
  have b0 : Binds K fd0 ["value"] [] := F0.bindsN fun _ _ _ _ _ _ us hl => match us, hl with | [_], _ => rfl
  have b1 : Binds K fd1 ["value"] [] := F1.bindsN fun _ _ _ _ _ _ us hl => match us, hl with | [_], _ => rfl
  have b3 : Binds K fd3 ["self"] [] := F3.bindsN fun _ _ _ _ _ _ us hl => match us, hl with | [_], _ => rfl
  have b4 : Binds K fd4 ["self"] [] := F4.bindsN fun _ _ _ _ _ _ us hl => match us, hl with | [_], _ => rfl
  have b5 : Binds K fd5 ["self"] [] := F5.bindsN fun _ _ _ _ _ _ us hl => match us, hl with | [_], _ => rfl
  have b7 : Binds K fd7 ["self", "other"] [] := F7.bindsN fun _ _ _ _ _ _ us hl => match us, hl with | [_, _], _ => rfl
  have b8 : Binds K fd8 ["self", "other"] [] := F8.bindsN fun _ _ _ _ _ _ us hl => match us, hl with | [_, _], _ => rfl
  have b9 : Binds K fd9 ["self", "other"] [] := F9.bindsN fun _ _ _ _ _ _ us hl => match us, hl with | [_, _], _ => rfl
  have b10 : Binds K fd10 ["self", "other"] [] := F10.bindsN fun _ _ _ _ _ _ us hl => match us, hl with | [_, _], _ => rfl
  have b11 : Binds K fd11 ["self", "other"] [] := F11.bindsN fun _ _ _ _ _ _ us hl => match us, hl with | [_, _], _ => rfl
  have b12 : Binds K fd12 ["self", "other"] [] := F12.bindsN fun _ _ _ _ _ _ us hl => match us, hl with | [_, _], _ => rfl
  have b13 : Binds K fd13 ["self"] [] := F13.bindsN fun _ _ _ _ _ _ us hl => match us, hl with | [_], _ => rfl
  have b14 : Binds K fd14 ["self", "other"] [] := F14.bindsN fun _ _ _ _ _ _ us hl => match us, hl with | [_, _], _ => rfl
  have b15 : Binds K fd15 ["self"] [] := F15.bindsN fun _ _ _ _ _ _ us hl => match us, hl with | [_], _ => rfl
  have b16 : Binds K fd16 ["self"] [] := F16.bindsN fun _ _ _ _ _ _ us hl => match us, hl with | [_], _ => rfl
  have b17 : Binds K fd17 ["_law_script", "_law_k"] [] := F17.bindsN fun _ _ _ _ _ _ us hl => match us, hl with | [_, _], _ => rfl
  have b18 : Binds K fd18 ["_law_pot_here", "_law_many"] [] := F18.bindsN fun _ _ _ _ _ _ us hl => match us, hl with | [_, _], _ => rfl
  have b19 : Binds K fd19 ["_law_pot_here", "_law_some"] [] := F19.bindsN fun _ _ _ _ _ _ us hl => match us, hl with | [_, _], _ => rfl
  have b20 : Binds K fd20 ["_law_one", "_law_two"] [] := F20.bindsN fun _ _ _ _ _ _ us hl => match us, hl with | [_, _], _ => rfl
  have b21 : Binds K fd21 ["_law_up", "_law_low_here"] [] := F21.bindsN fun _ _ _ _ _ _ us hl => match us, hl with | [_, _], _ => rfl
  have b22 : Binds K fd22 ["_law_a", "_law_b"] [] := F22.bindsN fun _ _ _ _ _ _ us hl => match us, hl with | [_, _], _ => rfl
  have b23 : Binds K fd23 ["_law_a", "_law_b"] [] := F23.bindsN fun _ _ _ _ _ _ us hl => match us, hl with | [_, _], _ => rfl
  have b24 : Binds K fd24 ["_law_a", "_law_b"] [] := F24.bindsN fun _ _ _ _ _ _ us hl => match us, hl with | [_, _], _ => rfl
  have b25 : Binds K fd25 ["_law_pot_here"] [] := F25.bindsN fun _ _ _ _ _ _ us hl => match us, hl with | [_], _ => rfl
  have b26 : Binds K fd26 ["_law_pot_here"] [] := F26.bindsN fun _ _ _ _ _ _ us hl => match us, hl with | [_], _ => rfl
  have b27 : Binds K fd27 ["_law_made", "_law_due"] [] := F27.bindsN fun _ _ _ _ _ _ us hl => match us, hl with | [_, _], _ => rfl
  have b28 : Binds K fd28 ["_law_pot_here", "_law_one", "_law_two", "_law_a", "_law_b"] [] := F28.bindsN fun _ _ _ _ _ _ us hl => match us, hl with | [_, _, _, _, _], _ => rfl
  have b29 : Binds K fd29 ["_law_pot_here", "_law_one", "_law_a"] [] := F29.bindsN fun _ _ _ _ _ _ us hl => match us, hl with | [_, _, _], _ => rfl
  have b30 : Binds K fd30 ["_law_row"] [] := F30.bindsN fun _ _ _ _ _ _ us hl => match us, hl with | [_], _ => rfl
  have b31 : Binds K fd31 ["_law_pot_here", "_law_bag", "_law_pairs"] [] := F31.bindsN fun _ _ _ _ _ _ us hl => match us, hl with | [_, _, _], _ => rfl
  have b32 : Binds K fd32 ["_law_pot_here", "_law_bag", "_law_pairs"] [] := F32.bindsN fun _ _ _ _ _ _ us hl => match us, hl with | [_, _, _], _ => rfl
  have b33 : Binds K fd33 ["_law_pot_here"] [] := F33.bindsN fun _ _ _ _ _ _ us hl => match us, hl with | [_], _ => rfl
  have bL := FunD.bindsA (ps := ["_law_script"]) F34 fun _ _ _ _ _ _ us hl => match us, hl with | [_], _ => rfl
  refine ⟨fd34, fun s v => bL s [v] rfl, fun base _ _ => ?_⟩
  have dInt : Dfn P w K mg base 1 "is_integer" ["value"] (spInt K) := ⟨⟨_, fd0, ok_isint F0 T, gl _ (c.ask 0 rfl), F0.kp, b0⟩⟩
  have iN : FnOk P w K mg base CX0 2 (pa "__init__" K) fd2 ["self", "top", "bottom"] (spInit (ca K)) := ok_init F2 T dInt
  have M : RMk P w K mg base (ca K) := by
    obtain ⟨ds2, hv2, hb2⟩ := F2.binds1 (ps := ["self", "top", "bottom"]) 3 1 (by simp) rfl fun T kV doc pm an cdv ct us its h1 h2 => match us, h1, its, h2 with | [_, _, _], _, [_], _ => ⟨_, rfl, rfl⟩
    cases hv2
    obtain ⟨ds1, hv1, hb1⟩ := F2.binds1 (ps := ["self", "top", "bottom"]) 2 0 (by simp) rfl fun T kV doc pm an cdv ct us its h1 h2 => match us, h1, its, h2 with | [_, _], _, [_], _ => ⟨_, rfl, rfl⟩
    obtain ⟨its2, kb2⟩ := F2.kbindsD (ps := ["self", "top", "bottom"]) 1 ["bottom", "top"] mix (by simp) mix_ok fun T kV doc pm an cdv ct us its ws h1 h2 h3 => match us, h1, its, h2, ws, h3 with | [_], _, [_], _, [_, _], _ => ⟨_, rfl, rfl⟩
    exact ⟨⟨pa "__init__" K, fd2, He.mkr_ok (c.ask 38 rfl), iN, hb2, ⟨ds1, hv1, hb1⟩, _, _, kb2, fun _ _ _ => rfl⟩⟩
  have dAs : Dfn P w K mg base 4 "as_ratio" ["value"] (spAs (ca K)) := ⟨⟨_, fd1, ok_as F1 T M, gl _ (c.ask 1 rfl), F1.kp, b1⟩⟩
  have pT : Prp P w K mg base (ca K) "top" (spTop (ca K)) := ⟨⟨_, _, fd3, prp_of (c.ask 45 rfl), ok_top F3 T, b3⟩⟩
  have pB : Prp P w K mg base (ca K) "bottom" (spBottom (ca K)) := ⟨⟨_, _, fd4, prp_of (c.ask 46 rfl), ok_bottom F4 T, b4⟩⟩
  have pS : Prp P w K mg base (ca K) "sign" (spSign (ca K)) := ⟨⟨_, _, fd5, prp_of (c.ask 47 rfl), ok_sign F5 T, b5⟩⟩
  have oA : OpX P w K mg base (ca K) .Add 5 (spBin plus (ca K)) := ⟨⟨_, fd7, op_of (c.ask 48 rfl), ok_add F7 T M dAs pT pB, b7⟩, ⟨_, (op_of (x := "__radd__") (c.ask 49 rfl)).at_, .inr ⟨_, rfl⟩⟩, int_of (x := "__add__") (c.ask 57 rfl), int_of (x := "__radd__") (c.ask 58 rfl)⟩
  have oM : OpX P w K mg base (ca K) .Mult 5 (spBin times (ca K)) := ⟨⟨_, fd11, op_of (c.ask 52 rfl), ok_mul F11 T M dAs pT pB, b11⟩, ⟨_, (op_of (x := "__rmul__") (c.ask 53 rfl)).at_, .inr ⟨_, rfl⟩⟩, int_of (x := "__mul__") (c.ask 61 rfl), int_of (x := "__rmul__") (c.ask 62 rfl)⟩
  have oN : OpN P w K mg base (ca K) 4 (spNeg (ca K)) := ⟨⟨_, fd13, op_of (c.ask 54 rfl), ok_neg F13 T M, b13⟩⟩
  have oS : OpX P w K mg base (ca K) .Sub 6 (spBin minus (ca K)) := ⟨⟨_, fd9, op_of (c.ask 50 rfl), ok_sub F9 T oA oN dAs, b9⟩, ⟨_, (op_of (x := "__rsub__") (c.ask 51 rfl)).at_, .inr ⟨_, rfl⟩⟩, int_of (x := "__sub__") (c.ask 59 rfl), int_of (x := "__rsub__") (c.ask 60 rfl)⟩
  have yA : OpY P w K mg base (ca K) .Add 6 (spRef plus (ca K)) := ⟨⟨_, op_of (x := "__add__") (c.ask 48 rfl)⟩, ⟨_, fd8, op_of (x := "__radd__") (c.ask 49 rfl), ok_radd F8 T oA, b8⟩⟩
  have yM : OpY P w K mg base (ca K) .Mult 6 (spRef times (ca K)) := ⟨⟨_, op_of (x := "__mul__") (c.ask 52 rfl)⟩, ⟨_, fd12, op_of (x := "__rmul__") (c.ask 53 rfl), ok_rmul F12 T oM, b12⟩⟩
  have yS : OpY P w K mg base (ca K) .Sub 6 (spRsub (ca K)) := ⟨⟨_, op_of (x := "__sub__") (c.ask 50 rfl)⟩, ⟨_, fd10, op_of (x := "__rsub__") (c.ask 51 rfl), ok_rsub F10 T oA oN, b10⟩⟩
  have kO := kb_plain (ps := ["self", "other"]) F14 1 ["other"] fun kV doc pm an cdv ct us ws h1 h2 => match us, h1, ws, h2 with | [_], _, [_], _ => rfl
  have mO : MtX P w K mg base (ca K) "over" 5 (spOver (ca K)) := ⟨⟨_, fd14, He.meth_ok (c.ask 42 rfl), ok_over F14 T M dAs pT pB pS, b14, kO⟩⟩
  have O : Ops P w K mg base (ca K) := ⟨oA, oS, oM, yA, yS, yM, oN, mO⟩
  have sS : ShX P w K mg base (ca K) "__str__" txt := ⟨⟨_, fd15, op_of (c.ask 55 rfl), ok_str F15 T, b15⟩⟩
  have sR : ShX P w K mg base (ca K) "__repr__" shw := ⟨⟨_, fd16, op_of (c.ask 56 rfl), ok_repr F16 T, b16⟩⟩
  have Z : TotX P w K mg base (ca K) := ⟨⟨_, _, _, rd_of (c.ask 44 rfl), tot_of (c.ask 43 rfl), ok_total F6 T M oA⟩⟩
  have dPot : Dfn P w K mg base 1 "_law_pot" ["_law_script", "_law_k"] (spPot K) := ⟨⟨_, fd17, ok_pot F17 L, gl _ (c.ask 3 rfl), F17.kp, b17⟩⟩
  have dDraw : Dfn P w K mg base 1 "_law_draw" ["_law_pot_here", "_law_many"] spDraw := ⟨⟨_, fd18, ok_draw F18 L, gl _ (c.ask 4 rfl), F18.kp, b18⟩⟩
  have dPick : Dfn P w K mg base 2 "_law_pick" ["_law_pot_here", "_law_some"] spPick := ⟨⟨_, fd19, ok_pick F19 L dDraw, gl _ (c.ask 5 rfl), F19.kp, b19⟩⟩
  have dCommon : Dfn P w K mg base 1 "_law_common" ["_law_one", "_law_two"] spCommon := ⟨⟨_, fd20, ok_common F20 L, gl _ (c.ask 6 rfl), F20.kp, b20⟩⟩
  have dLow : Dfn P w K mg base 2 "_law_low" ["_law_up", "_law_low_here"] spLow := ⟨⟨_, fd21, ok_low F21 dCommon, gl _ (c.ask 7 rfl), F21.kp, b21⟩⟩
  have dPlus : Dfn P w K mg base 3 "_law_plus" ["_law_a", "_law_b"] (spP2 plus) := ⟨⟨_, fd22, ok_plus F22 dLow, gl _ (c.ask 8 rfl), F22.kp, b22⟩⟩
  have dMinus : Dfn P w K mg base 3 "_law_minus" ["_law_a", "_law_b"] (spP2 minus) := ⟨⟨_, fd23, ok_minus F23 dLow, gl _ (c.ask 9 rfl), F23.kp, b23⟩⟩
  have dTimes : Dfn P w K mg base 3 "_law_times" ["_law_a", "_law_b"] (spP2 times) := ⟨⟨_, fd24, ok_times F24 dLow, gl _ (c.ask 10 rfl), F24.kp, b24⟩⟩
  have dInteger : Dfn P w K mg base 3 "_law_integer" ["_law_pot_here"] spInteger := ⟨⟨_, fd25, ok_integer F25 dDraw dPick, gl _ (c.ask 11 rfl), F25.kp, b25⟩⟩
  have dParts : Dfn P w K mg base 4 "_law_parts" ["_law_pot_here"] spParts := ⟨⟨_, fd26, ok_parts F26 dInteger dPick, gl _ (c.ask 12 rfl), F26.kp, b26⟩⟩
  have Gs : Fns P w K mg base := ⟨dDraw, dLow, dPlus, dMinus, dTimes, dInteger, dParts⟩
  have dIs : DfnG P w K mg base 4 "_law_is" ["_law_made", "_law_due"] (spIs (ca K)) := ⟨⟨_, fd27, ok_is F27 T L pT pB pS sS sR, gl _ (c.ask 13 rfl), F27.kp, b27⟩⟩
  have dTwo : Dfn P w K mg base 7 "_law_of_two" ["_law_pot_here", "_law_one", "_law_two", "_law_a", "_law_b"] (spOfTwo (ca K)) := ⟨⟨_, fd28, ok_oftwo F28 T O Gs, gl _ (c.ask 14 rfl), F28.kp, b28⟩⟩
  have dInte : Dfn P w K mg base 7 "_law_of_integer" ["_law_pot_here", "_law_one", "_law_a"] (spOfInt (ca K)) := ⟨⟨_, fd29, ok_ofint F29 T O Gs, gl _ (c.ask 15 rfl), F29.kp, b29⟩⟩
  have dTot : Dfn P w K mg base 7 "_law_total" ["_law_row"] (spTotalOf (ca K)) := ⟨⟨_, fd30, ok_totalof F30 T L Z, gl _ (c.ask 16 rfl), F30.kp, b30⟩⟩
  have dSome : Dfn P w K mg base 8 "_law_of_some" ["_law_pot_here", "_law_bag", "_law_pairs"] (spDeed (ca K)) := ⟨⟨_, fd31, ok_ofsome F31 L Gs dTot, gl _ (c.ask 17 rfl), F31.kp, b31⟩⟩
  have dDeed : Dfn P w K mg base 9 "_law_deed" ["_law_pot_here", "_law_bag", "_law_pairs"] (spDeed (ca K)) := ⟨⟨_, fd32, ok_deed F32 L Gs dTwo dInte dSome, gl _ (c.ask 18 rfl), F32.kp, b32⟩⟩
  have dRight : DfnG P w K mg base 10 "_law_right" ["_law_pot_here"] spRight := ⟨⟨_, fd33, ok_right F33 T L Gs M dDeed dIs, gl _ (c.ask 19 rfl), F33.kp, b33⟩⟩
  exact ok_law F34 L dPot dRight
end
end Hd
/-! The head of the row: its top run in the kernel. -/
namespace Hd
open PySem PySem.Spec PyProof.Rows L2
abbrev ORow : PySem.W.OpenRow := PySem.W.OpenLaw.row PySem.Challenge.rw_anypoints_k11_whole_ratios_by_rows_of_de
abbrev hk : PySem.W.Hook := hkOf 5 cs ds
def ob (s : PySem.W.SharedT) : He.AlD := lookG 5 cs ds (HandSHeadRun.getT s)
theorem ob_eq (s : PySem.W.SharedT) : ob s = hk.obs s.abs := lookG_eq (HandSHeadRun.getT_eq s)
def loose : List Str := ["_wall", "__name__", "PointsError", "InvalidNumber", "StateError", "DividedByZero", "is_integer", "as_ratio", "Ratio", "_law_pot", "_law_draw", "_law_pick", "_law_common", "_law_low", "_law_plus",
  "_law_minus", "_law_times", "_law_integer", "_law_parts", "_law_is", "_law_of_two", "_law_of_integer", "_law_total", "_law_of_some", "_law_deed", "_law_right"]
end Hd
namespace Hd
open PySem PySem.Spec PyProof.Rows L2
abbrev qv : Program := PySem.W.view ORow.prog [0, 29]
theorem run (w : World) : HandSHeadRun.RunEqI ORow qv hk ob 30000 loose w := by
  unfold HandSHeadRun.RunEqI
  kernel_rfl
end Hd
open PySem PySem.W PySem.Calls PyProof.Rows
theorem PySem.Challenge.cw_anypoints_k11_whole_ratios_by_rows_of_de_holds : PySem.Challenge.rw_anypoints_k11_whole_ratios_by_rows_of_de.Holds := by
  w_on; o_law
  refine HandSHeadRun.head_imp (r := Hd.ORow) (q := Hd.qv) (H := Hd.hk) (ob := Hd.ob) (M := 30000) (loose := Hd.loose) (d := HandSHeadRun.topDef Hd.ORow.prog 29) (kwd := []) Hd.ob_eq Hd.run
    (by kernel_rfl) (by kernel_rfl) (by kernel_rfl) (by rfl) (by first | assumption | decide +kernel) (by decide +kernel) ⟨rfl, rfl, rfl, rfl, rfl, by decide +kernel⟩ ?hw ?hc
  case hw => w_witness2
  case hc =>
    refine Ow.walk_ofG (l := PySem.Challenge.rw_anypoints_k11_whole_ratios_by_rows_of_de) (n := 63) (k := 11) (x := "_law_script") (CX := L2.CX0) rfl (by decide) (by kernel_rfl) ⟨rfl, by decide, by decide⟩ ?F (fun _ _ _ _ z => z)
    intro w mg fa h Y G hmg0
    obtain ⟨K, KX, c⟩ := Y
    have hmg : mg ("law" : PySem.Str) = some (.ref fa) := by
      have e : (HandSHeadRun.topDef Hd.ORow.prog 29).name = ("law" : PySem.Str) := by kernel_rfl
      rw [← e]
      exact hmg0
    obtain ⟨fd, hb, hF⟩ := Hd.facts (P := (PySem.Challenge.rw_anypoints_k11_whole_ratios_by_rows_of_de).prog) (w := w) KX G hmg c
    exact ⟨K, fd, La.spLaw K, KX, hb, fun H a ns hl _ hS => ⟨a, ns, rfl, hl, hS, fun _ => rfl⟩, hF⟩
