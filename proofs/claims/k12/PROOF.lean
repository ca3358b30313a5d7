import PyProof.Rows.All
import Wide.All
import OpenK.AllK
import Wide.FinOn
import HandS.ForMost
import HandS.OwnEq
import KE.KOpsOwn
import PyProof.ListMulRight
import KE.KCallOwn
import PyProof.ReprRoads
import HandS.Defaults
import HandS.HeadHook2
import KE.GoesMore
import KE.GoesEnum
import PyProof.EnumMake
import PyProof.EnumFor
import PyProof.Draws
import HandS.Walk
import HandS.IsInst
import PyProof.InstEq
import HandS.Star
import HandS.Dict
import HandS.Property
import HandS.ClsMeth
import HandS.MakeKw
import HandS.Head0
import HandS.Head1
import HandS.Head2
import HandS.Head3
import HandS.HeadEnd
import HandS.HeadHook1
import HandS.HeadNt
import HandS.Gcd
import HandS.FStr
import HandS.Wide
import HandS.WideBits
import HandS.RaiseMore
import HandS.Text
import PyProof.ReprLen
import PyProof.StrLawsRepr
import PyProof.Rows.ReprOcc
import HandS.Deep
import PySem.Challenge.RW_anypoints_k12_ratios_compared
set_option Elab.async false
set_option linter.all false
set_option maxRecDepth 100000
set_option maxHeartbeats 0
namespace Ow
open PySem PySem.Spec PyProof.Rows L2
open Builtin

theorem int_add_ref (C dx : Addr) (a : Int) (t : Tok) (l : Addr) :
    Meets (Builtin.«int.__add__» ⟨[.int a t, .ref l], []⟩) (fun _ R s => s.heap.get? l = some (PySem.W.instObj C dx) ∧ R (.ok (.ret Value.notImplemented)) s) :=
  .of_wp fun prog w A R s h => by obtain ⟨hp, g, d, tk, os⟩ := s; obtain ⟨hl, h⟩ := h; wp_walk; exact ⟨_, rfl, h⟩
theorem int_sub_ref (C dx : Addr) (a : Int) (t : Tok) (l : Addr) :
    Meets (Builtin.«int.__sub__» ⟨[.int a t, .ref l], []⟩) (fun _ R s => s.heap.get? l = some (PySem.W.instObj C dx) ∧ R (.ok (.ret Value.notImplemented)) s) :=
  .of_wp fun prog w A R s h => by obtain ⟨hp, g, d, tk, os⟩ := s; obtain ⟨hl, h⟩ := h; wp_walk; exact ⟨_, rfl, h⟩
theorem int_mul_ref (C dx : Addr) (a : Int) (t : Tok) (l : Addr) :
    Meets (Builtin.«int.__mul__» ⟨[.int a t, .ref l], []⟩) (fun _ R s => s.heap.get? l = some (PySem.W.instObj C dx) ∧ R (.ok (.ret Value.notImplemented)) s) :=
  .of_wp fun prog w A R s h => by obtain ⟨hp, g, d, tk, os⟩ := s; obtain ⟨hl, h⟩ := h; wp_walk; exact ⟨_, rfl, h⟩

section
variable {prog : Program} {w : World} {A : Around} {E : Value → Shared → Prop} {s : Shared} {K : PySem.W.Frag} {x C f : Addr} {ox : Obj} {od : Option Obj}

open PySem.W in
/-- int op instance: the int declines, the class's reflected method takes it -/
theorem bin_rint {op : Operator} {id : String} {i : Int} {t : Tok} {Q : Value → Shared → Prop} (X : K.In s.heap) (I : InstAt s.heap x ox C od) (hc : selfFirst K C = true)
    (hfT : fillsNumberSlot (.type "int") op.info.2 = pure true)
    (hl : Slot "int" (PySem.dunder op.info.2) id)
    (hs : findIn K (.ref C) (PySem.dunder op.info.2) = some (some (.ref f))) 
    {g : Addr} (hg : findIn K (.ref C) (dunderR op.info.2) = some (some (.ref g))) (hfg : isFn K (.ref g) = true)
    (hsub : subIn K (.ref C) (.type "int") = some false)
    (hd : wpAny (model prog w) A (call (.builtin id) [.int i t, .ref x]) (fun v s' => v = .notImplemented ∧ s' = s) E s)
    (h : wpAny (model prog w) A (call (.ref g) [.ref x, .int i t]) (PySem.W.CmpBack Q) E s) : wpAny (model prog w) A (binaryOp op (.int i t) (.ref x)) Q E s := by
  obtain ⟨cd, rest, hcd, hm⟩ := ksp_first hc
  rcases hi : op.info with ⟨sym, nm'⟩
  rw [hi] at hfT hl hs hg
  dsimp only at hfT hl hs hg
  have one := ksp_try X I hg hfg h
  have L1 : Looks (model prog w) s.heap (typeOf (.ref x)) (.ref C) := I.type
  have L3 : Looks (model prog w) s.heap (fillsNumberSlot (.ref C) nm') true := fills_K X hcd hm hs
  have L5 : Looks (model prog w) s.heap (isSubtype (.ref C) (.type "int")) false := looks_subIn X hsub
  have hne : (Value.type "int" == Value.ref C) = false := Bool.eq_false_iff.mpr fun q => by cases beq_iff_eq.mp q
  simp only [binaryOp, hi]
  refine wpAny_holding (wpAny_bind ?_)
  unfold binaryOp1
  refine wpAny_bind (wpAny_typeOf (typeIs_int _ _ _) (wpAny_bind (L1.here (wpAny_bind (wpAny_of_eq hfT ?_)))))
  simp only [hne, Bool.false_eq_true, if_false]
  refine wpAny_bind (L3.here ?_)
  simp only [Bool.and_self, if_true]
  refine wpAny_bind (L5.here ?_)
  have hpy : numberSlotInPython (.type "int") nm' = pure false := rfl
  simp only [Bool.false_eq_true, if_false, pure_bind, Bool.not_false, Bool.and_self, if_true, hpy]
  refine wpAny_bind (wpAny_tryMethod_declines (typeIs_int _ _ _) hl (wpAny_mono hd (fun v s' q => ⟨q.1, ?_⟩) fun _ _ e => e))
  obtain ⟨_, rfl⟩ := q
  refine wpAny_bind (wpAny_mono one (fun r s2 z => ?_) fun _ _ e => e)
  obtain ⟨v, rfl, hq⟩ := z
  refine wpAny_bind (wpAny_rule (wpAny_pure ?_))
  exact wpAny_pure hq
end
end Ow
namespace Ow
open PySem PySem.Spec PyProof.Rows L2

/-- the class at C has the operator nm as a def of its own, at f -/
structure OpOf (K : PySem.W.Frag) (C : Addr) (nm : Str) (f : Addr) : Prop where
  at_ : PySem.W.findIn K (.ref C) nm = some (some (.ref f))
  fn : PySem.W.isFn K (.ref f) = true
/-- it stands ahead of builtins, of int -/
structure Num (K : PySem.W.Frag) (C : Addr) : Prop where
  sf : PySem.W.selfFirst K C = true
  ic : PySem.W.subIn K (.type "int") (.ref C) = some false
  ci : PySem.W.subIn K (.ref C) (.type "int") = some false

theorem back {Q : Value → Shared → Prop} {v : V} {u : Value} {s : Shared} (r : RelV v u) (q : Q u s) : PySem.W.CmpBack Q u s := by
  cases v <;> (try (obtain ⟨t, r⟩ := r)) <;> (try cases r) <;> exact q

section
variable {X : Cx} {CX : CXT} {k : Nat} {C f : Addr} {fd : FuncData} {ps : List Str} {sp : Sp} {E : XK} {dvs : List V} {ds : List Value}

/-- x op y, both instances of C -/
def rOwn (C : Addr) (sp : Sp) (E : XK) : R2 := fun x y H Q => ∃ a dx fs b dy gs, x = .ref a ∧ H a = some (.ins C dx fs) ∧ y = .ref b ∧ H b = some (.ins C dy gs) ∧ sp [.ref a, .ref b] H Q E
/-- x op i -/
def rOwnI (C : Addr) (sp : Sp) (E : XK) : R2 := fun x y H Q => ∃ a dx fs i, x = .ref a ∧ H a = some (.ins C dx fs) ∧ y = .int i ∧ sp [.ref a, .int i] H Q E
/-- i op x -/
def rIOwn (C : Addr) (sp : Sp) (E : XK) : R2 := fun x y H Q => ∃ a dx fs i, y = .ref a ∧ H a = some (.ins C dx fs) ∧ x = .int i ∧ sp [.ref a, .int i] H Q E

theorem run_back {pins : List (Addr × Obj)} {σ : L2.St} {H : Hp} {s : Shared} {Q : VK} {us : List Value} {vs : List V} (F : FnOk X.prog X.w X.K X.mg X.base CX k f fd ps sp) (hr : Room k X.A) (hb : Binds X.K fd ps []) (hx : Passes CX X E)
    (I : Inv X pins σ H s) (r : Vals vs us) (h : sp vs H Q E) : wpAny (model X.prog X.w) X.A (call (.ref f) us) (PySem.W.CmpBack (EP X pins σ Q)) X.xe s := by
  refine wpAny_mono (run_fn (dvs := []) (ds := []) F hr hb .nil hx I r (by rw [List.append_nil]; exact h)) (fun u s' q => ?_) fun _ _ e => e
  obtain ⟨v, H', I', rv, q'⟩ := id q
  exact back rv q

theorem inst_of {pins : List (Addr × Obj)} {σ : L2.St} {H : Hp} {s : Shared} {a dx : Addr} {fs : List (Str × V)} (I : Inv X pins σ H s) (ea : H a = some (.ins C dx fs)) :
    ∃ od, PySem.W.InstAt s.heap a (PySem.W.instObj C dx) C (some od) := by
  obtain ⟨mA, O, _, _, _, _⟩ := ins_get I.hok ea
  obtain ⟨od, J, _⟩ := O.look
  exact ⟨od, J⟩

theorem op_own {op : Operator} (n : PySem.W.selfFirst X.K C = true) (o : OpOf X.K C (PySem.dunder op.info.2) f) (F : FnOk X.prog X.w X.K X.mg X.base CX k f fd ps sp) (hr : Room k X.A) (hb : Binds X.K fd ps []) (hx : Passes CX X E) :
    OpR X (binaryOp op) (rOwn C sp E) := by
  intro pins s σ H x y u v Q I rx ry hq
  obtain ⟨a, dx, fs, b, dy, gs, rfl, ea, rfl, eb, q⟩ := hq
  cases rx
  cases ry
  obtain ⟨od, J⟩ := inst_of I ea
  obtain ⟨od', J'⟩ := inst_of I eb
  obtain ⟨m, hF⟩ := I.fr
  exact PySem.W.binop_K hF I.ok.mod.kin J J'.type n o.at_ o.fn (run_back (vs := [.ref a, .ref b]) F hr hb hx I (.cons rfl (.cons rfl .nil)) q)

theorem op_ownI {op : Operator} {fo ro rc : Option Value} (n : Num X.K C) (o : OpOf X.K C (PySem.dunder op.info.2) f) (F : FnOk X.prog X.w X.K X.mg X.base CX k f fd ps sp) (hr : Room k X.A) (hb : Binds X.K fd ps []) (hx : Passes CX X E)
    (hrf : PySem.W.findIn X.K (.ref C) (dunderR op.info.2) = some rc) (hp : rc = none ∨ ∃ g : Addr, rc = some (.ref g))
    (h1 : PySem.W.findIn X.K (.type "int") (PySem.dunder op.info.2) = some fo) (h2 : PySem.W.findIn X.K (.type "int") (dunderR op.info.2) = some ro) :
    OpR X (binaryOp op) (rOwnI C sp E) := by
  intro pins s σ H x y u v Q I rx ry hq
  obtain ⟨a, dx, fs, i, rfl, ea, rfl, q⟩ := hq
  cases rx
  obtain ⟨t, rfl⟩ := ry
  obtain ⟨od, J⟩ := inst_of I ea
  obtain ⟨m, hF⟩ := I.fr
  exact PySem.W.ksp_binT (T := "int") hF I.ok.mod.kin J rfl n.sf o.at_ o.fn hrf hp h1 h2 n.ic (run_back (vs := [.ref a, .int i]) F hr hb hx I (.cons rfl (.cons ⟨t, rfl⟩ .nil)) q)

theorem op_Iown {op : Operator} {id : String} {g : Addr} {gd : FuncData} (n : Num X.K C) (o : OpOf X.K C (PySem.dunder op.info.2) f) (og : OpOf X.K C (dunderR op.info.2) g) (F : FnOk X.prog X.w X.K X.mg X.base CX k g gd ps sp) (hr : Room k X.A) (hb : Binds X.K gd ps []) (hx : Passes CX X E)
    (hfT : fillsNumberSlot (.type "int") op.info.2 = pure true) (hl : Slot "int" (PySem.dunder op.info.2) id)
    (hd : ∀ (s : Shared) (a dx : Addr) (i : Int) (t : Tok), s.heap.get? a = some (PySem.W.instObj C dx) → wpAny (model X.prog X.w) X.A (call (.builtin id) [.int i t, .ref a]) (fun v s' => v = .notImplemented ∧ s' = s) X.xe s) :
    OpR X (binaryOp op) (rIOwn C sp E) := by
  intro pins s σ H x y u v Q I rx ry hq
  obtain ⟨a, dx, fs, i, rfl, ea, rfl, q⟩ := hq
  cases ry
  obtain ⟨t, rfl⟩ := rx
  obtain ⟨od, J⟩ := inst_of I ea
  obtain ⟨mA, O, _, _, _, _⟩ := ins_get I.hok ea
  exact bin_rint I.kIn J n.sf hfT hl o.at_ og.at_ og.fn n.ci (hd s a dx i t O.obj) (run_back (vs := [.ref a, .int i]) F hr hb hx I (.cons rfl (.cons ⟨t, rfl⟩ .nil)) q)

theorem decl_add {X : Cx} {C : Addr} (s : Shared) (a dx : Addr) (i : Int) (t : Tok) (h : s.heap.get? a = some (PySem.W.instObj C dx)) : wpAny (model X.prog X.w) X.A (call (.builtin "int.__add__") [.int i t, .ref a]) (fun v s' => v = .notImplemented ∧ s' = s) X.xe s :=
  call_meets F.slot_int_add (typeIs_int s i t) F.entry_int_add (F.args_int_add_2 _ _) (int_add_ref C dx i t a) ⟨h, rfl, rfl⟩
theorem decl_sub {X : Cx} {C : Addr} (s : Shared) (a dx : Addr) (i : Int) (t : Tok) (h : s.heap.get? a = some (PySem.W.instObj C dx)) : wpAny (model X.prog X.w) X.A (call (.builtin "int.__sub__") [.int i t, .ref a]) (fun v s' => v = .notImplemented ∧ s' = s) X.xe s :=
  call_meets F.slot_int_sub (typeIs_int s i t) F.entry_int_sub (F.args_int_sub_2 _ _) (int_sub_ref C dx i t a) ⟨h, rfl, rfl⟩
theorem decl_mul {X : Cx} {C : Addr} (s : Shared) (a dx : Addr) (i : Int) (t : Tok) (h : s.heap.get? a = some (PySem.W.instObj C dx)) : wpAny (model X.prog X.w) X.A (call (.builtin "int.__mul__") [.int i t, .ref a]) (fun v s' => v = .notImplemented ∧ s' = s) X.xe s :=
  call_meets F.slot_int_mul (typeIs_int s i t) F.entry_int_mul (F.args_int_mul_2 _ _) (int_mul_ref C dx i t a) ⟨h, rfl, rfl⟩

/-- - x -/
def rNegOwn (C : Addr) (sp : Sp) (E : XK) : V → Hp → VK → Prop := fun x H Q => ∃ a dx fs, x = .ref a ∧ H a = some (.ins C dx fs) ∧ sp [.ref a] H Q E
theorem un_own (o : OpOf X.K C "__neg__" f) (F : FnOk X.prog X.w X.K X.mg X.base CX k f fd ps sp) (hr : Room k X.A) (hb : Binds X.K fd ps []) (hx : Passes CX X E) : UnR X (unaryOp .USub) (rNegOwn C sp E) := by
  intro pins s σ H x u Q I rx hq
  obtain ⟨a, dx, fs, rfl, ea, q⟩ := hq
  cases rx
  obtain ⟨od, J⟩ := inst_of I ea
  obtain ⟨m, hF⟩ := I.fr
  exact PySem.W.ksp_neg hF I.ok.mod.kin J o.at_ o.fn (run_fn (vs := [.ref a]) (dvs := []) (ds := []) F hr hb .nil hx I (.cons rfl .nil) q)
end
end Ow
namespace Ow
open PySem PySem.Spec PyProof.Rows L2

section
variable {X : Cx} {CX : CXT} {k : Nat} {C f : Addr} {fd : FuncData} {ps : List Str} {sp : Sp} {E : XK}

/-- a callee run from within a built-in: an around with the same frames -/
theorem run_in {A : Around} {pins : List (Addr × Obj)} {σ : L2.St} {H : Hp} {s : Shared} {Q : VK} {us : List Value} {vs : List V} (F : FnOk X.prog X.w X.K X.mg X.base CX k f fd ps sp) (hr : Room k A) (hf : A.frames = X.A.frames) (hb : Binds X.K fd ps []) (hx : Passes CX X E)
    (I : Inv X pins σ H s) (r : Vals vs us) (h : sp vs H Q E) : wpAny (model X.prog X.w) A (call (.ref f) us) (EP X pins σ Q) X.xe s := by
  have hl : us.length = ps.length := by rw [← r.length]; exact F.len _ _ _ _ h
  have e0 := I.env0
  have e1 : Env0 X.prog X.w X.K X.mg X.base A X.stack s H := ⟨hf.trans e0.frames, e0.mod, e0.bs, e0.bsz, e0.funs, e0.frf, e0.hok, e0.bare⟩
  have b := hb s us I.kIn (by rw [List.append_nil]; exact hl)
  rw [List.append_nil] at b
  refine wpAny_call (codeAny_mono (F.run A X.stack s H ⟨us, []⟩ us vs Q E hr e1 b r h) fun res s' hq => ?_)
  cases res with
  | error err => exact hx pins σ H s err s' I hq
  | ok fl => cases fl with
    | ret u => exact I.after hq
    | next => exact hq.elim
    | brk => exact hq.elim
    | cont => exact hq.elim

/-- repr(x), str(x) of an instance: its own def, which tells a text -/
def rShow (C : Addr) (sp : Sp) (E : XK) : List V → Hp → VK → Prop := fun vs H Q => ∃ a dx fs, vs = [.ref a] ∧ H a = some (.ins C dx fs) ∧ sp [.ref a] H (fun v H' => ∃ z, v = .str z ∧ Q (.str z) H') E

theorem shown_back {pins : List (Addr × Obj)} {σ : L2.St} {Q : VK} {u : Value} {s' : Shared} (h : EP X pins σ (fun v H' => ∃ z, v = .str z ∧ Q (.str z) H') u s') : PySem.W.StrBack (EP X pins σ Q) u s' := by
  obtain ⟨v, H', I', rv, z, rfl, q⟩ := h
  obtain ⟨t, rfl⟩ := rv
  exact ⟨.str z, H', I', ⟨t, rfl⟩, q⟩

theorem call_repr_own (o : OpOf X.K C "__repr__" f) (F : FnOk X.prog X.w X.K X.mg X.base CX k f fd ps sp) (hr : Room (k + 1) X.A) (hb : Binds X.K fd ps []) (hx : Passes CX X E) : CallR X (.builtin "repr") (rShow C sp E) := by
  intro pins s σ H vs us Q I r hq
  obtain ⟨a, dx, fs, rfl, ea, q⟩ := hq
  obtain ⟨u, rfl, ru⟩ := vals1 r
  cases ru
  obtain ⟨od, J⟩ := inst_of I ea
  obtain ⟨m, hF⟩ := I.fr
  exact PySem.W.repr_K hr.in1.units0 hF I.ok.mod.kin J o.at_ o.fn (wpAny_mono (run_in (vs := [.ref a]) F hr.in1 rfl hb hx I (.cons rfl .nil) q) (fun _ _ z => shown_back z) fun _ _ e => e)

theorem call_str_own (o : OpOf X.K C "__str__" f) (F : FnOk X.prog X.w X.K X.mg X.base CX k f fd ps sp) (hr : Room (k + 2) X.A) (hb : Binds X.K fd ps []) (hx : Passes CX X E) : CallR X (.type "str") (rShow C sp E) := by
  intro pins s σ H vs us Q I r hq
  obtain ⟨a, dx, fs, rfl, ea, q⟩ := hq
  obtain ⟨u, rfl, ru⟩ := vals1 r
  cases ru
  obtain ⟨od, J⟩ := inst_of I ea
  exact PySem.W.kso_call hr.in1.in1.units0 I.kIn J o.at_ o.fn (wpAny_mono (run_in (vs := [.ref a]) F hr.in1.in1 rfl hb hx I (.cons rfl .nil) q) (fun _ _ z => shown_back z) fun _ _ e => e)

/-- repr of data, where nothing is being shown -/
def rData (K : PySem.W.Frag) : List V → Hp → VK → Prop := fun vs H Q => ∃ a d, vs = [.ref a] ∧ Dp K H (.ref a) d ∧ d.showable = true ∧ d.hasDict = false ∧ d.depth ≤ 20 ∧ d.shown.length ≤ sizeLine ∧ Q (.str d.shown) H
theorem call_repr_data (hg : X.A.guards = some []) (hr : Room 0 X.A) : CallR X (.builtin "repr") (rData X.K) := by
  intro pins s σ H vs us Q I r hq
  obtain ⟨a, d, rfl, hd, hs, hn, hdp, hz, q⟩ := hq
  obtain ⟨u, rfl, ru⟩ := vals1 r
  obtain ⟨as, rd⟩ := Dp.reads I d _ _ hd ru
  cases ru
  have hu := hr.units
  exact repr_of_reads' rd hs (PyData.noDict_hsm hn) hg (by omega) (fun _ _ e => e) (fun h' u tk hk => ⟨.str d.shown, H, I.kept hk, ⟨u, rfl⟩, q⟩) hz
end
end Ow
/-! A promise of a def that is only called where nothing is being shown (no guard stands on the stack): FnG. -/
namespace Ow
open PySem PySem.Spec PyProof.Rows L2

structure FnG (P : Program) (w : World) (K : PySem.W.Frag) (mg : Str → Option Value) (base : Heap) (CX : CXT) (k : Nat) (f : Addr) (fd : FuncData) (ps : List Str) (sp : Sp) : Prop where
  len : ∀ vs H Q E, sp vs H Q E → vs.length = ps.length
  run : ∀ (A : Around) (out : List Env) (s : Shared) (H : Hp) (gs : Args) (us : List Value) (vs : List V) (Q : VK) (E : XK),
    Room k A → A.guards = some [] → Env0 P w K mg base A out s H → BindsTo s fd gs (ps.zip us) → Vals vs us → sp vs H Q E →
    codeAny (model P w) A (.call (.ref f) gs) (CR CX out P w H s Q E) s

section
variable {P : Program} {w : World} {K : PySem.W.Frag} {mg : Str → Option Value} {base : Heap} {CX : CXT} {k : Nat} {f : Addr} {fd : FuncData} {ps N : List Str} {sp : Sp}
variable {x qual : Str} {pa : Arguments} {bd : List Stmt} {sc : Scope} {dvs : List V} {kws : List (Str × V)}

theorem FnG.mono {j : Nat} (F : FnG P w K mg base CX j f fd ps sp) (h : j ≤ k) : FnG P w K mg base CX k f fd ps sp :=
  ⟨F.len, fun A out s H gs us vs Q E hr => F.run A out s H gs us vs Q E (hr.mono h)⟩

theorem guards_deeper (A : Around) (env : Env) : (A.deeper env).guards = A.guards := rfl

/-- the rule, as FunD.ok, the body run where no guard stands -/
theorem fnG_ok (F : FunD K x qual pa bd sc dvs kws f fd) (S : FnScope N ps sc) (len : ∀ vs H Q E, sp vs H Q E → vs.length = ps.length)
    (body : ∀ (cdv : Value) (A : Around) (out : List Env) (s : Shared) (H : Hp) (vs : List V) (Q : VK) (E : XK),
      Room k (A.deeper (envOfC qual sc s.heap.objs.size f cdv)) → (A.deeper (envOfC qual sc s.heap.objs.size f cdv)).guards = some [] → sp vs H Q E →
      ∃ t, PSs (cxOf CX P w K mg base N qual sc f cdv A out s H E) bd t ∧ t { nx := fun _ H' => Q .non H', rt := Q } (start N vs) H) :
    FnG P w K mg base CX (k + 1) f fd ps sp := by
  obtain ⟨oc, od, dV, kV, doc, pm, an, cdv, ct, osl, rfl, lk, hcd, _, _⟩ := F.ex
  refine ⟨len, fun A out s H gs us vs Q E hr hg e0 hb r hsp => ?_⟩
  have bs1 : ∀ b o, base.get? b = some o → s.heap.get? b = some o := fun b o e => (e0.bs b o e).1
  have kinds : ∀ q ∈ ps.zip us, sc.names.lookup q.1 = some .local ∨ (sc.names.lookup q.1 = some .cell ∧
      ((cellsFrom (s.heap.objs.size + 1) sc.names []).lookup q.1).isSome = true) := by
    rintro ⟨n, v⟩ hq
    cases S.par n (List.of_mem_zip hq).1 with
    | inl z => exact Or.inl z
    | inr z => exact Or.inr ⟨z, PySem.W.cellsFrom_some _ _ _ (Or.inl z)⟩
  refine codeAny_call_function hr.depth ((e0.mod.kin.keeps bs1) _ _ lk) rfl S.co S.gen rfl
    (PySem.W.codeRec_of (e0.mod.kin.keeps bs1) hcd) (hb _ _ _ _ (wpAny_newFunctionEnv_cells S.kind kinds fun env he t1 ent => ?_))
  cases he
  obtain ⟨t, ht, hq⟩ := body cdv A out s H vs Q E (hr.deeper _) hg hsp
  have I : Inv (cxOf CX P w K mg base N qual sc f cdv A out s H E) [] (start N vs) H t1 := inv_start S hr.hd e0 (len _ _ _ _ hsp) r ent
  refine ⟨(e0.mod.nolimit.keeps bs1).keeps ent.toInCall.keep, codeAny_func (wpAny_mono (ht.run [] t1 _ H _ I hq) (fun fl t2 got => ?_) fun _ _ z => z)⟩
  cases fl with
  | ret u =>
    obtain ⟨v, _, G, J, rv, q⟩ := got
    exact ⟨v, G, J.os, J.bare, J.base, J.hok, rv, q⟩
  | next =>
    obtain ⟨_, G, J, q⟩ := got
    exact ⟨V.non, G, J.os, J.bare, J.base, J.hok, rfl, q⟩
  | brk => exact got.elim fun _ z => z.elim fun _ z => z.2.elim
  | cont => exact got.elim fun _ z => z.elim fun _ z => z.2.elim

end

section
variable {X : Cx} {CX : CXT} {k : Nat} {f : Addr} {fd : FuncData} {ps : List Str} {sp : Sp} {E : XK} {x : Str} {p pos : Pos} {e : Expr} {es : List Expr} {t : TA}
theorem runG {pins : List (Addr × Obj)} {σ : L2.St} {H : Hp} {s : Shared} {Q : VK} {us : List Value} {vs : List V} (F : FnG X.prog X.w X.K X.mg X.base CX k f fd ps sp) (hr : Room k X.A) (hg : X.A.guards = some []) (hb : Binds X.K fd ps []) (hx : Passes CX X E)
    (I : Inv X pins σ H s) (r : Vals vs us) (h : sp vs H Q E) : wpAny (model X.prog X.w) X.A (call (.ref f) us) (EP X pins σ Q) X.xe s := by
  have hl : us.length = ps.length := by rw [← r.length]; exact F.len _ _ _ _ h
  have b := hb s us I.kIn (by rw [List.append_nil]; exact hl)
  rw [List.append_nil] at b
  refine wpAny_call (codeAny_mono (F.run X.A X.stack s H ⟨us, []⟩ us vs Q E hr hg I.env0 b r h) fun res s' hq => ?_)
  cases res with
  | error err => exact hx pins σ H s err s' I hq
  | ok fl => cases fl with
    | ret u => exact I.after hq
    | next => exact hq.elim
    | brk => exact hq.elim
    | cont => exact hq.elim

theorem pe_callG (F : FnG X.prog X.w X.K X.mg X.base CX k f fd ps sp) (hr : Room k X.A) (hgu : X.A.guards = some []) (hg : Gl X x) (hm : X.mg x = some (.ref f)) (hk : PySem.W.keepIn X.K (.ref f) = true) (hb : Binds X.K fd ps []) (hx : Passes CX X E)
    (ha : PA X (e :: es) t) (hdb : (x == ("__debug__" : Str)) = false := by decide) (he : starEach (e :: es) X.env = (false, eval e X.env) :: starEach es X.env := by rfl) (hpl : (backTo pos (starEach es X.env)).any (·.1) = false := by rfl) :
    PE X (.Call (.Name x p) (e :: es) [] pos) (tCall sp [] E t) := by
  refine ⟨fun pins s σ H Q I h => wpAny_Call_Name_kw (ld_glob I hg hm ?_ hdb)⟩
  refine PySem.W.callWith_K (h₀ := X.base) I.ok.mod.kin hk (thn (ha.run pos pins s σ H _ I h) fun us s1 got => ?_) he hpl
  obtain ⟨vs, H1, I1, r, q⟩ := got
  rw [List.append_nil] at q
  exact ⟨I1.kIn, runG F hr hgu hb hx I1 r q⟩
end

section
/-- the law's own call, by such a promise -/
theorem law_callG {P : Program} {w : World} {K : PySem.W.Frag} {mg mb : Str → Option Value} {CX : CXT} {k : Nat} {fa a : Addr} {fd : FuncData} {x : Str} {sp : Sp} {t0 : Shared} {us : List Value} {ns : List Int}
    (KX : K.In t0.heap) (hns : t0.heap.Ns mainGlobals mg) (hb : t0.heap.Ns builtinsNs mb) (hbb : ∀ x : Str, x ≠ "__name__" → mb x = bootBuiltins x) (hlim : t0.heap.NoLimit) (hgen : t0.gens = #[])
    (ha : t0.heap.get? a = some { cls := .type "list", data := .seq us.toArray }) (hi : IntsAre us ns) (hl : ns.length ≤ sizeLine) (hr : Room k callerA)
    (F : ∀ base : Heap, K.In base → base.Ns mainGlobals mg → FnG P w K mg base CX k fa fd [x] sp) (hbind : ∀ (s : Shared) (u : Value), BindsTo s fd ⟨[u], []⟩ [(x, u)])
    (hsp : ∀ H : Hp, Only H → SqL K H a (ns.map V.int) → sp [.ref a] H (fun v _ => v = .bl true) fun _ _ _ => False)
    (hCX : ∀ H e s', CX [] H t0 (fun _ _ _ => False) e s' → False) :
    codeAny (model P w) callerA (.call (.ref fa) ⟨[.ref a], []⟩) (fun r s' => r = .ok (.ret (.bool true)) ∧ OldK t0.heap s'.heap ∧ s'.os = t0.os ∧ AllBare s'.gens) t0 := by
  have vals := vals_ints hi
  suffices main : ∀ G : Hp, Only G → SqL K G a (ns.map V.int) → HOk P w G t0.heap → (∀ b, G b ≠ none → b = a) → (G a ≠ none → K.lookup a = none) →
      codeAny (model P w) callerA (.call (.ref fa) ⟨[.ref a], []⟩) (fun r s' => r = .ok (.ret (.bool true)) ∧ OldK t0.heap s'.heap ∧ s'.os = t0.os ∧ AllBare s'.gens) t0 by
    cases hk : K.lookup a with
    | some o =>
      have eo := KX a o hk
      rw [ha] at eo
      cases eo
      refine main (fun _ => none) (fun _ => Or.inl rfl) (Or.inr ⟨_, us.toArray, _, hk, rfl, rfl, rfl, ?_, ?_⟩) (fun _ _ z => nomatch z) (fun _ z => absurd rfl z) (fun z => absurd rfl z)
      · rw [List.size_toArray, hi.length]; exact hl
      · simpa using vals
    | none =>
      have there : ∀ b : Addr, b = a → (fun b => if b = a then some (HO.frz { cls := .type "list", data := .seq us.toArray } (.lst (ns.map V.int))) else none) b = some (HO.frz { cls := .type "list", data := .seq us.toArray } (.lst (ns.map V.int))) := fun b e => if_pos e
      have away : ∀ b : Addr, b ≠ a → (fun b => if b = a then some (HO.frz { cls := .type "list", data := .seq us.toArray } (.lst (ns.map V.int))) else none) b = none := fun b e => if_neg e
      refine main (fun b => if b = a then some (HO.frz { cls := .type "list", data := .seq us.toArray } (.lst (ns.map V.int))) else none) (fun b => ?_) (Or.inl (Or.inr ⟨_, there a rfl⟩)) (fun b u z => ?_) (fun b z => ?_) fun _ => hk
      · exact (Classical.em (b = a)).elim (fun e => Or.inr ⟨_, _, there b e⟩) fun e => Or.inl (away b e)
      · cases Classical.em (b = a) with
        | inl e =>
          have z' := (there b e).symm.trans z
          cases z'
          subst e
          exact ⟨ha, by rw [List.length_map]; exact hl, us, _, vals, ha⟩
        | inr e => exact nomatch (away b e).symm.trans z
      · exact Classical.byContradiction fun e => z (away b e)
  intro G hO hS hok hA hK
  have free : ∀ {b : Addr} {o : Obj}, t0.heap.get? b = some o → (∀ es ep, o.data = .dict es ep → G b = none) := fun {b o} e es ep d => by
    cases q : G b with
    | none => rfl
    | some u =>
      cases hA b (by rw [q]; exact nofun)
      rw [ha] at e
      cases e
      exact nomatch (d : Data.seq us.toArray _ = Data.dict es ep)
  have spaces : ∀ {b : Addr} {m : Str → Option Value}, t0.heap.Ns b m → (hidT t0.heap G).Ns b m := fun {b m} h => by
    obtain ⟨o, es, ep, e, d, r⟩ := h
    exact ⟨o, es, ep, hidT_get e (free e es ep d), d, r⟩
  have KB : K.In (hidT t0.heap G) := fun b o e => hidT_get (KX b o e) (by
    cases q : G b with
    | none => rfl
    | some u =>
      cases hA b (by rw [q]; exact nofun)
      rw [hK (by rw [q]; exact nofun)] at e
      exact nomatch e)
  have e0 : Env0 P w K mg (hidT t0.heap G) callerA [] t0 G := by
    refine ⟨rfl, ⟨KB, spaces hns, ⟨mb, spaces hb, hbb⟩, ?_⟩, fun _ _ e => of_hidT e, Nat.le_of_eq (hidT_size _ _), trivial, fun b z => absurd (show b ∈ ([] : List Addr) from z) List.not_mem_nil, hok, .of_eq hgen⟩
    obtain ⟨mc, h1, h2⟩ := hlim
    exact ⟨mc, spaces h1, h2⟩
  refine codeAny_mono ((F _ KB (spaces hns)).run callerA [] t0 G ⟨[.ref a], []⟩ [.ref a] [.ref a] _ _ hr rfl e0 (hbind t0 (.ref a)) (.cons rfl .nil) (hsp G hO hS)) fun res s' h => ?_
  cases res with
  | error err => exact (hCX G err s' h).elim
  | ok fl => cases fl with
    | next => exact h.elim
    | brk => exact h.elim
    | cont => exact h.elim
    | ret u =>
      obtain ⟨v, G', os, bare, un, hok', rv, q⟩ := h
      cases (show v = .bl true from q)
      cases (show u = Value.bool true from rv)
      refine ⟨rfl, OldK.of_keep fun b o e => ?_, os, bare⟩
      cases hO b with
      | inl n => exact un.keep b o e n (fun z => absurd (show b ∈ ([] : List Addr) from z) List.not_mem_nil) List.not_mem_nil
      | inr z =>
        obtain ⟨ob, xs, z⟩ := z
        have k1 := (hok b _ z).1
        rw [e] at k1
        cases k1
        exact (hok' b _ (un.frzs b _ _ z)).1

theorem walk_ofG {l : PySem.W.OpenLaw} {n k : Nat} {q : Program} {loose : List Str} {XP : (Str → Option Value) → Heap → Prop} {YP : World → Heap → Prop} {d : DefRec} {CX : CXT} {x : Str}
    (hn : l.most = some n) (hn2 : n ≤ sizeLine) (hdf : d.params.defaults = []) (hr : Room k callerA)
    (F : ∀ (w : World) (mg : Str → Option Value) (fa : Addr) (h : Heap), YP w h → h.Ns mainGlobals mg → mg d.name = some (.ref fa) →
      ∃ (K : PySem.W.Frag) (fd : FuncData) (sp : Sp), K.In h ∧ (∀ (s : Shared) (u : Value), BindsTo s fd ⟨[u], []⟩ [(x, u)]) ∧
        (∀ (H : Hp) (a : Addr) (ns : List Int), ns.length ≤ n → Only H → SqL K H a (ns.map V.int) → sp [.ref a] H (fun v _ => v = .bl true) fun _ _ _ => False) ∧
        ∀ base : Heap, K.In base → base.Ns mainGlobals mg → FnG l.prog w K mg base CX k fa fd [x] sp)
    (hCX : ∀ (H : Hp) (s : Shared) (e : Value) (s' : Shared), CX [] H s (fun _ _ _ => False) e s' → False) :
    PySem.W.WalkO q loose XP YP l.row.toRowW d [] (fun f vs => PySem.call f vs) := by
  refine Att.attach_call hn hdf fun w t t0 mg mb fa o pm cd doc a us ns T Y _ _ _ hmg hobj hints hlen hgen => ?_
  obtain ⟨K, fd, sp, KX, hb, hsp, hF⟩ := F w mg fa _ Y T.T.g hmg
  exact law_callG KX T.T.g T.T.b T.T.builtins T.T.nolimit hgen hobj hints (Nat.le_trans hlen hn2) hr hF hb (fun H hO hS => hsp H a ns hlen hO hS) fun H e s' => hCX H t0 e s'
end
end Ow
/-! enumerate of a tuple. -/
namespace Ow
open PySem PySem.Spec PyProof.Rows L2

theorem newE (t : Addr) (its : Array Value) :
    Meets (Builtin.«enumerate.__new__» ⟨[.type "enumerate", .ref t], []⟩) (fun _ R s => s.heap.IsTuple t its ∧
      R (.ok (.ret (.ref (s.heap.push ⟨.type "tuple_iterator", none, .fields #[.ref t, .int 0 0], #[]⟩).objs.size)))
        { s with heap := (s.heap.push ⟨.type "tuple_iterator", none, .fields #[.ref t, .int 0 0], #[]⟩).push ⟨.type "enumerate", none, .fields #[.none, .bool false, .ref s.heap.objs.size, rawInt 0, .none, .none], #[]⟩ }) :=
  .of_wp fun prog w A R s h => by
    obtain ⟨hp, g, d, tk, os⟩ := s
    obtain ⟨h1, h⟩ := h
    have hsub := sub_enumerate
    have q1 : ∀ {B : Around} {E : Value → Shared → Prop} {Q : Value → Shared → Prop}, Q (.ref hp.objs.size) ⟨hp.push ⟨.type "tuple_iterator", none, .fields #[.ref t, .int 0 0], #[]⟩, g, d, tk, os⟩ → wpAny (model prog w) B (pyIter (.ref t)) Q E ⟨hp, g, d, tk, os⟩ :=
      fun q => (begins_tuple t its).iter prog w _ _ ⟨hp, g, d, tk, os⟩ _ h1 q
    wp_walk using q1
    refine wpAny_stack_any fun st => wpAny_pure ?_
    split
    · rename_i c _ _ _ _ _
      cases (c == Value.type "enumerate") <;> (wp_walk using q1; exact ⟨_, rfl, h⟩)
    · wp_walk using q1
      exact ⟨_, rfl, h⟩

section
variable {prog : Program} {w : World} {A : Around} {E : Value → Shared → Prop} {s : Shared}
theorem call_enumT {t : Addr} {its : Array Value} {Q : Value → Shared → Prop} (ht : s.heap.IsTuple t its)
    (h : ∀ h', IsEnum h' (s.heap.objs.size + 1) s.heap.objs.size 0 .none → h'.IsTupleIter s.heap.objs.size t 0 → h'.objs.size = s.heap.objs.size + 2 →
      (∀ b o, s.heap.get? b = some o → h'.get? b = some o) → Q (.ref (s.heap.objs.size + 1)) { s with heap := h' }) :
    wpAny (model prog w) A (call (.type "enumerate") [.ref t]) Q E s := by
  refine callType_new F.called_enumerate (by decide) (F.typeCall_enumerate_1 _) (F.newCall_enumerate_1 _) (fun obj => F.args_object_init_2 obj _) F.entry_enumerate_new (newE t its) ⟨ht, ?_⟩
  generalize e1 : (⟨.type "tuple_iterator", none, .fields #[.ref t, .int 0 0], #[]⟩ : Obj) = o1
  generalize e2 : (⟨.type "enumerate", none, .fields #[.none, .bool false, .ref s.heap.objs.size, rawInt 0, .none, .none], #[]⟩ : Obj) = o2
  have f1 : o1.isFreed = false := by rw [← e1]; rfl
  have f2 : o2.isFreed = false := by rw [← e2]; rfl
  have hz : (s.heap.push o1).objs.size = s.heap.objs.size + 1 := Heap.size_push ..
  have g2 : ((s.heap.push o1).push o2).get? (s.heap.objs.size + 1) = some o2 := by
    have z := Heap.get?_push_size (s.heap.push o1) f2
    rw [hz] at z
    exact z
  have g1 : ((s.heap.push o1).push o2).get? s.heap.objs.size = some o1 := Heap.get?_push_of_some _ (Heap.get?_push_size _ f1)
  show _ ∧ _
  rw [hz]
  refine ⟨⟨_, g2, by rw [← e2]⟩, h _ (by rw [← e2] at g2 ⊢; exact g2) ⟨o1, g1, by rw [← e1], by rw [← e1]; rfl⟩ (by rw [Heap.size_push, hz]) fun b o x => Heap.get?_push_of_some _ (Heap.get?_push_of_some _ x)⟩
end

/-- the tuple at a, each item with its place in a new pair -/
def IteT (K : PySem.W.Frag) (a : Addr) : It :=
  ⟨fun i H => ∃ (xs : List V) (x : V), SqT K H a xs ∧ xs[i]? = some x, fun i H v H' => ∃ T x, v = .ref T ∧ H T = none ∧ H' = upd H T (.tup [.int (i : Nat), x]) ∧ ∀ xs, SqT K H a xs → xs[i]? = some x, fun i H => ∃ xs : List V, SqT K H a xs ∧ xs.length = i⟩
theorem turn_enumT {P : Program} {w : World} {K : PySem.W.Frag} {elts : List Expr} {kk : Nat} {tpos : Pos} (a e it : Addr) :
    Turn P w K (.Tuple elts kk tpos) (IteT K a) [e, it] e (fun i h => (∃ old, IsEnum h e it ((i : Nat) : Int) old) ∧ h.IsTupleIter it a i ∧ e ≠ it ∧ a ≠ it ∧ e ≠ a) where
  mem := by simp
  obj := fun i h st b hb => by
    obtain ⟨⟨old, he⟩, ⟨o, ho, hc, hd⟩, _⟩ := st
    rcases (by simpa using hb : b = e ∨ b = it) with rfl | rfl
    · exact ⟨_, he, fun v q => nomatch q⟩
    · exact ⟨o, ho, fun v q => by rw [hd] at q; cases q⟩
  keep := fun i h h' st k => by
    obtain ⟨⟨old, he⟩, hi, hne⟩ := st
    exact ⟨⟨old, k e (by simp) _ he⟩, hi.at fun o q => k it (by simp) o q, hne⟩
  item := by
    intro X hP hw hK hc i pins s σ H E I hf st hg
    subst hP hw hK
    obtain ⟨⟨old, he⟩, hit, hne, na, nea⟩ := st
    obtain ⟨xs, x, hq, hx⟩ := hg
    obtain ⟨its, rv, p, hz⟩ := I.tuple hq
    obtain ⟨u, hu, ru⟩ := rv.get hx
    have hel : e < s.heap.objs.size := Heap.lt_size he
    have hil : it < s.heap.objs.size := by obtain ⟨_, q, _⟩ := hit; exact Heap.lt_size q
    have hlt : i < its.toArray.size := by simpa using (List.getElem?_eq_some_iff.mp hu).1
    have DD := Draws.tuple (prog := X.prog) (w := X.w) (A := X.A.in1) (show X.A.in1.handled = none from I.ok.hd hc) it a na its.toArray
    refine wpAny_pyNext_enum_itemD DD he ⟨hit, p⟩ hlt hne (by simp [hne, nea]) fun y h' tk hy ho hst hT hsz hk => ?_
    have ey : y = u := by
      have : its.toArray[i]? = some u := by simpa using hu
      rw [this] at hy
      exact (Option.some.inj hy).symm
    subst ey
    refine ⟨_, rfl, wpAny_letOwnedTupleGo_enum (s := { s with heap := h', toks := tk + 1 }) ho fun h'' he' sb => ?_⟩
    have hT2 : h''.get? s.heap.objs.size = some { cls := .type "tuple", data := .seq #[.int i tk, y] } := (sb.2 _ (Nat.ne_of_gt hel)).trans hT
    have new : ObjOk X.prog X.w (upd H s.heap.objs.size (.tup [.int (i : Nat), x])) h'' s.heap.objs.size (.tup [.int (i : Nat), x]) :=
      ⟨by show 2 ≤ sizeLine; decide, [.int i tk, y], .cons ⟨_, rfl⟩ (.cons ru .nil), ⟨_, hT2, rfl, _, rfl⟩⟩
    have I1 : Inv X pins σ (upd H s.heap.objs.size (.tup [.int (i : Nat), x])) { s with heap := h'', toks := tk + 1 } :=
      I.turnedNew (ch := [e, it]) (fun b ob hb q => (sb.2 b (fun z => hb (by simp [z]))).trans (hk b ob (fun z => hb (by simp [z])) (fun z => hb (by simp [z])) q)) hf (Nat.le_refl _) new
    refine ⟨.ref s.heap.objs.size, _, I1, rfl, ⟨_, x, rfl, I.hok.fresh (Nat.le_refl _), rfl, fun ys hy => by rw [I.tuple_inj hy hq]; exact hx⟩, ⟨⟨y, ?_⟩, hst.1.at fun o q => (sb.2 it (Ne.symm hne)).trans q, hne, na, nea⟩, fun b hb => ?_⟩
    · rw [show ((i + 1 : Nat) : Int) = (i : Int) + 1 by omega]
      exact he'
    · have hb' : b < s.heap.objs.size := by
        rcases (by simpa using hb : b = e ∨ b = it) with rfl | rfl
        · exact hel
        · exact hil
      rw [upd_ne (Nat.ne_of_lt hb')]
      exact (hf b hb).1
  done := by
    intro X hP hw hK hc i pins s σ H E I hf st hg
    subst hP hw hK
    obtain ⟨⟨old, he⟩, hit, hne, na, nea⟩ := st
    obtain ⟨xs, hq, hx⟩ := hg
    obtain ⟨its, rv, p, hz⟩ := I.tuple hq
    obtain ⟨f0, f1, f2, f3, f4, f5⟩ := hf it (by simp)
    have hl := rv.length
    have hn : its.toArray.size = i := by rw [List.size_toArray, ← hl]; exact hx
    have DD := Draws.tuple (prog := X.prog) (w := X.w) (A := X.A.in1) (show X.A.in1.handled = none from I.ok.hd hc) it a na its.toArray
    exact wpAny_pyNext_enum_endD DD he ⟨by rw [hn]; exact hit, p⟩ fun h' eb => ⟨rfl, I.turned (t' := s.toks) (fun b o hb q => eb b o hb q) f0 f1 f3 f4 f5⟩
  self := fun A i s Q E st h => by
    obtain ⟨⟨_, he⟩, _⟩ := st
    exact wpAny_pyIter_enum he h
def iEnumT (K : PySem.W.Frag) (ta : TA) : TI := fun σ H R => ta σ H fun vs H1 => ∃ a xs, vs = [.ref a] ∧ SqT K H1 a xs ∧ R (IteT K a) H1
theorem pi_enumT {X : Cx} {e : Expr} {ta : TA} {p pos tpos : Pos} {elts : List Expr} {kk : Nat} (hg : Gl X "enumerate") (hm : X.mg "enumerate" = none) (ha : PA X [e] ta) (hs : starEach [e] X.env = [(false, eval e X.env)] := by rfl) :
    PI X (.Tuple elts kk tpos) (.Call (.Name "enumerate" p) [e] [] pos) (iEnumT X.K ta) := by
  refine ⟨fun pins s σ H R I h => ?_⟩
  refine Call_ (ld_blt I hg hm boot_enumerate (PyProof.Rows.callWith_type1 (thn (ha.run pos pins s σ H _ I h) fun us s1 got => ?_) hs rfl))
  obtain ⟨vs, H1, I1, r1, a, xs, rfl, hq, q⟩ := got
  obtain ⟨u, rfl, ru⟩ := vals1 r1
  cases ru
  obtain ⟨its, rv, p', hz⟩ := I1.tuple hq
  obtain ⟨oa, hoa, _⟩ := id p'
  have hal : a < s1.heap.objs.size := Heap.lt_size hoa
  refine call_enumT (show s1.heap.IsTuple a its.toArray from p') fun h' he hit hsz hk => wpAny_pyIter_enum he ?_
  have I2 : Inv X pins σ H1 { s1 with heap := h' } := I1.kept (t' := s1.toks) hk
  refine ⟨s1.heap.objs.size + 1, [s1.heap.objs.size + 1, s1.heap.objs.size], _, _, H1, rfl, I2, turn_enumT a (s1.heap.objs.size + 1) s1.heap.objs.size, ⟨⟨.none, he⟩, hit, Nat.succ_ne_self _, Nat.ne_of_lt hal, Nat.ne_of_gt (Nat.lt_succ_of_lt hal)⟩, fun b hb => ?_, q⟩
  have hle : s1.heap.objs.size ≤ b := by
    rcases (by simpa using hb : b = s1.heap.objs.size + 1 ∨ b = s1.heap.objs.size) with rfl | rfl
    · exact Nat.le_add_right _ _
    · exact Nat.le_refl _
  exact I1.fpOk hle (I1.hok.fresh hle)
theorem walk_enumT {K : PySem.W.Frag} {a : Addr} {xs : List V} : Walk (IteT K a) xs.length (fun H => SqT K H a xs) (YPair (fun i => some (.int (i : Nat))) (fun i => xs[i]?)) := by
  refine ⟨fun i H hi q => ⟨xs, xs[i], q, List.getElem?_eq_getElem hi⟩, fun H q => ⟨xs, q, rfl⟩, fun i H v H' hi q y => ?_⟩
  obtain ⟨T, x, h1, h2, h3, h4⟩ := y
  exact ⟨T, .int (i : Nat), x, h1, h2, h3, rfl, h4 xs q⟩
end Ow
/-! == of an instance of an own class with whatever else. -/
namespace Ow
open PySem PySem.Spec PyProof.Rows L2
section
variable {X : Cx} {CX : CXT} {k : Nat} {C f : Addr} {fd : FuncData} {ps : List Str} {sp : Sp} {E : XK}
/-- x == y, x an instance of C with its own ==, y of a type t that is no subclass of it -/
def rEqI (K : PySem.W.Frag) (C : Addr) (sp : Sp) (E : XK) : R2 := fun x y H Q => ∃ a dx fs t, x = .ref a ∧ H a = some (.ins C dx fs) ∧ TyX K H y t ∧ PySem.W.notFirst K C t = true ∧ sp [.ref a, y] H Q E
theorem op_eqI (o : OpOf X.K C "__eq__" f) (F : FnOk X.prog X.w X.K X.mg X.base CX k f fd ps sp) (hr : Room k X.A) (hb : Binds X.K fd ps []) (hx : Passes CX X E) : OpR X (compareOp .Eq) (rEqI X.K C sp E) := by
  intro pins s σ H x y u v Q I rx ry hq
  obtain ⟨a, dx, fs, t, rfl, ea, ty, hn, q⟩ := hq
  cases rx
  obtain ⟨od, J⟩ := inst_of I ea
  obtain ⟨m, hF⟩ := I.fr
  obtain ⟨P, kx, hp, _⟩ := kit_of I ry ty
  exact PySem.W.cmp_ofEq (PySem.W.cmp_K (op := .Eq) hr.units0 hF I.ok.mod.kin J (kx.ty _ _ I.kIn hp) hn o.at_ o.fn (run_back (vs := [.ref a, y]) F hr hb hx I (.cons rfl (.cons ry .nil)) q))
end
end Ow
namespace Ow
open PySem PySem.Spec PyProof.Rows L2
section
variable {prog : Program} {w : World} {A : Around} {E : Value → Shared → Prop} {s : Shared} {K : PySem.W.Frag} {x C f : Addr} {ox : Obj} {od : Option Obj}
open PySem.W in
/-- a built-in on the left declines, the instance's own == decides -/
theorem eq_right {T id : String} {v : Value} {Q : Value → Shared → Prop} (hu : A.units < cLine) (X : K.In s.heap) (I : InstAt s.heap x ox C od) (hv : s.TypeIs v T) (hone : oneThing? .Eq v (.ref x) = none)
    (hsub : subIn K (.ref C) (.type T) = some false) (slot : Slot T "__eq__" id) (hd : wpAny (model prog w) A (call (.builtin id) [v, .ref x]) (fun r s' => r = .notImplemented ∧ s' = s) E s)
    (hs : findIn K (.ref C) "__eq__" = some (some (.ref f))) (hf : isFn K (.ref f) = true) (h : wpAny (model prog w) A (call (.ref f) [.ref x, v]) (PySem.W.CmpBack Q) E s) : wpAny (model prog w) A (richCompare .Eq v (.ref x)) Q E s := by
  have one : wpAny (model prog w) A (tryCompare (.ref x) (cmpInfo .Eq).2.2 v) (fun r s' => ∃ y, r = some y ∧ Q y s') E s := by
    unfold tryCompare
    refine wpAny_bind (ifBound_K X I hs hf (wpAny_mono h (fun y s' hy => ?_) fun _ _ e => e))
    cases y <;> first | exact hy.elim | exact wpAny_pure ⟨_, rfl, hy⟩
  unfold richCompare
  simp only [hone]
  refine wpAny_holding (wpAny_bind (wpAny_cRoomFor hu ?_))
  refine wpAny_bind (wpAny_typeOf hv (wpAny_bind (I.type.here ?_)))
  have ne : (Value.type T != Value.ref C) = true := rfl
  rw [if_pos ne]
  refine wpAny_bind ((looks_subIn X hsub).here ?_)
  simp only [Bool.false_eq_true, if_false]
  refine wpAny_bind (wpAny_tryCompare_declines hv slot (wpAny_mono hd (fun r s' q => ⟨q.1, ?_⟩) fun _ _ e => e))
  obtain ⟨_, rfl⟩ := q
  simp only [Bool.not_false, if_true]
  refine wpAny_bind (wpAny_mono one (fun r s' z => ?_) fun _ _ e => e)
  obtain ⟨y, rfl, hq⟩ := z
  exact wpAny_pure hq
end
end Ow
namespace Ow
open PySem PySem.Spec PyProof.Rows L2
open Builtin
theorem int_eq_ref (C dx : Addr) (a : Int) (t : Tok) (l : Addr) :
    Meets (Builtin.«int.__eq__» ⟨[.int a t, .ref l], []⟩) (fun _ R s => s.heap.get? l = some (PySem.W.instObj C dx) ∧ R (.ok (.ret Value.notImplemented)) s) :=
  .of_wp fun prog w A R s h => by obtain ⟨hp, g, d, tk, os⟩ := s; obtain ⟨hl, h⟩ := h; wp_walk; exact ⟨_, rfl, h⟩
theorem str_eq_ref (C dx : Addr) (a : Str) (t : Tok) (l : Addr) :
    Meets (Builtin.«str.__eq__» ⟨[.str a t, .ref l], []⟩) (fun _ R s => s.heap.get? l = some (PySem.W.instObj C dx) ∧ R (.ok (.ret Value.notImplemented)) s) :=
  .of_wp fun prog w A R s h => by obtain ⟨hp, g, d, tk, os⟩ := s; obtain ⟨hl, h⟩ := h; wp_walk; exact ⟨_, rfl, h⟩
section
variable {X : Cx} {CX : CXT} {k : Nat} {C f : Addr} {fd : FuncData} {ps : List Str} {sp : Sp} {E : XK}
/-- i == x, x an instance with its own == -/
def rEqIr (C : Addr) (sp : Sp) (E : XK) : R2 := fun v y H Q => ∃ a dx fs i, v = .int i ∧ y = .ref a ∧ H a = some (.ins C dx fs) ∧ sp [.ref a, .int i] H Q E
def rEqSr (C : Addr) (sp : Sp) (E : XK) : R2 := fun v y H Q => ∃ a dx fs z, v = .str z ∧ y = .ref a ∧ H a = some (.ins C dx fs) ∧ sp [.ref a, .str z] H Q E
theorem op_eqIr (o : OpOf X.K C "__eq__" f) (hsub : PySem.W.subIn X.K (.ref C) (.type "int") = some false) (F : FnOk X.prog X.w X.K X.mg X.base CX k f fd ps sp) (hr : Room k X.A) (hb : Binds X.K fd ps []) (hx : Passes CX X E) : OpR X (compareOp .Eq) (rEqIr C sp E) := by
  intro pins s σ H v y u w_ Q I rx ry hq
  obtain ⟨a, dx, fs, i, rfl, rfl, ea, q⟩ := hq
  obtain ⟨t, rfl⟩ := rx
  cases ry
  obtain ⟨od, J⟩ := inst_of I ea
  obtain ⟨mA, O, _⟩ := ins_get I.hok ea
  exact PySem.W.cmp_ofEq (eq_right hr.units0 I.kIn J (typeIs_int s i t) rfl hsub PySem.F.slot_int_eq
    (call_meets PySem.F.slot_int_eq (typeIs_int s i t) PySem.F.entry_int_eq (PySem.F.args_int_eq_2 _ _) (int_eq_ref C dx i t a) ⟨O.obj, rfl, rfl⟩)
    o.at_ o.fn (run_back (vs := [.ref a, .int i]) F hr hb hx I (.cons rfl (.cons ⟨t, rfl⟩ .nil)) q))
theorem op_eqSr (o : OpOf X.K C "__eq__" f) (hsub : PySem.W.subIn X.K (.ref C) (.type "str") = some false) (F : FnOk X.prog X.w X.K X.mg X.base CX k f fd ps sp) (hr : Room k X.A) (hb : Binds X.K fd ps []) (hx : Passes CX X E) : OpR X (compareOp .Eq) (rEqSr C sp E) := by
  intro pins s σ H v y u w_ Q I rx ry hq
  obtain ⟨a, dx, fs, z, rfl, rfl, ea, q⟩ := hq
  obtain ⟨t, rfl⟩ := rx
  cases ry
  obtain ⟨od, J⟩ := inst_of I ea
  obtain ⟨mA, O, _⟩ := ins_get I.hok ea
  exact PySem.W.cmp_ofEq (eq_right hr.units0 I.kIn J (typeIs_str s z t) rfl hsub PySem.F.slot_str_eq
    (call_meets PySem.F.slot_str_eq (typeIs_str s z t) PySem.F.entry_str_eq (PySem.F.args_str_eq_2 _ _) (str_eq_ref C dx z t a) ⟨O.obj, rfl, rfl⟩)
    o.at_ o.fn (run_back (vs := [.ref a, .str z]) F hr hb hx I (.cons rfl (.cons ⟨t, rfl⟩ .nil)) q))
end
end Ow
/-! built-ins on the left of ==, an instance on the right: they decline. -/
namespace Ow
open PySem PySem.Spec PyProof.Rows L2
open Builtin
theorem bool_eq_ref (C dx : Addr) (b : Bool) (l : Addr) :
    Meets (Builtin.«int.__eq__» ⟨[.bool b, .ref l], []⟩) (fun _ R s => s.heap.get? l = some (PySem.W.instObj C dx) ∧ R (.ok (.ret Value.notImplemented)) s) :=
  .of_wp fun prog w A R s h => by obtain ⟨hp, g, d, tk, os⟩ := s; obtain ⟨hl, h⟩ := h; wp_walk; exact ⟨_, rfl, h⟩
theorem non_eq_ref (C dx : Addr) (l : Addr) :
    Meets (Builtin.«NoneType.__eq__» ⟨[.none, .ref l], []⟩) (fun _ R s => s.heap.get? l = some (PySem.W.instObj C dx) ∧ R (.ok (.ret Value.notImplemented)) s) :=
  .of_wp fun prog w A R s h => by obtain ⟨hp, g, d, tk, os⟩ := s; obtain ⟨hl, h⟩ := h; wp_walk; exact ⟨_, rfl, h⟩
end Ow
/-! != of an instance whose class has an own == and no own !=. -/
namespace Ow
open PySem PySem.Spec PyProof.Rows L2
open Builtin
section
variable {prog : Program} {w : World} {A : Around} {E : Value → Shared → Prop} {s : Shared} {K : PySem.W.Frag} {x C f : Addr} {ox : Obj} {od : Option Obj} {y : Value}
open PySem.W in
theorem check_ne (X : K.In s.heap) (I : InstAt s.heap x ox C od) (hm : mroIn K C (.type "object") = some true) {Q : Unit → Shared → Prop} (q : Q () s) :
    wpAny (model prog w) A (checkBuiltinCall "object.__ne__" ⟨[.ref x, y], []⟩) Q E s := by
  simp only [checkBuiltinCall, F.cmpKind_ne, F.cmpSplit_ne]
  refine wpAny_bind ?_
  unfold isInstance
  refine wpAny_bind (I.type.here ?_)
  refine (looks_mroIn X hm).here ?_
  simp only [Bool.not_true, Bool.false_eq_true, if_false]
  exact wpAny_of_eq (F.cmpArgs_ne (.ref x) y) q
open PySem.W in
theorem body_ne (hu : A.units < cLine) (X : K.In s.heap) (I : InstAt s.heap x ox C od) (hs : findIn K (.ref C) "__eq__" = some (some (.ref f))) (hf : isFn K (.ref f) = true) {Q : Fin → Shared → Prop}
    (h : wpAny (model prog w) A (call (.ref f) [.ref x, y]) (fun v s' => ∃ b, v = .bool b ∧ Q (.done (.ret (.bool (!b)))) s') E s) :
    wpAny (model prog w) A (Builtin.«object.__ne__» ⟨[.ref x, y], []⟩) Q E s := by
  unfold Builtin.«object.__ne__»
  repeat (first
    | with_reducible refine wpAny_cRoomFor hu ?_
    | (refine wpAny_bind (m := callSpecialIfBound? (.ref x) (Str.ofString "__eq__") [y]) (ifBound_K X I hs hf (wpAny_mono h (fun r s' hr => by
        obtain ⟨b, rfl, hq⟩ := hr
        repeat (first | exact hq | exact wpAny_pure hq | exact wpAny_truthy_bool hq | (refine wpAny_bind (m := truthy (.bool _)) (wpAny_truthy_bool ?_)) | wp_step)) fun _ _ e => e)))
    | wp_step)
open PySem.W in
theorem ifBound_ne {M : Model} {Q : Option Value → Shared → Prop} (X : K.In s.heap) (I : InstAt s.heap x ox C od) (hne : findIn K (.ref C) "__ne__" = some (some (.builtin "object.__ne__")))
    (h : wpAny M A (call (.builtin "object.__ne__") [.ref x, y]) (fun v => Q (some v)) E s) : wpAny M A (callSpecialIfBound? (.ref x) "__ne__" [y]) Q E s := by
  simp only [callSpecialIfBound?, bindSpecialIfBound?]
  refine wpAny_holding (wpAny_bind (wpAny_bind (wpAny_bind (I.type.here ((looks_findIn X hne).here ?_)))))
  simp only [F.cmp_object.ne.bind]
  refine wpAny_bind (wpAny_askSetting (wpAny_ite ?_))
  have fin : wpAny M A (call (.builtin "object.__ne__") ([.ref x] ++ [y]) >>= fun v => pure (some v)) Q E s := wpAny_bind (wpAny_mono h (fun v s' q => wpAny_pure q) fun _ _ e => e)
  split
  · exact wpAny_bind (wpAny_pure (wpAny_pure fin))
  · exact wpAny_tryCatch (wpAny_bind (wpAny_pure (wpAny_pure fin)))
open PySem.W in
theorem rc_ne (hu : A.units + 1 < cLine) {tb : Value} (X : K.In s.heap) (I : InstAt s.heap x ox C od) (hb : Looks (model prog w) s.heap (typeOf y) tb) (hn : notFirst K C tb = true) (hm : mroIn K C (.type "object") = some true)
    (hne : findIn K (.ref C) "__ne__" = some (some (.builtin "object.__ne__"))) (hs : findIn K (.ref C) "__eq__" = some (some (.ref f))) (hf : isFn K (.ref f) = true) {Q : Value → Shared → Prop}
    (h : wpAny (model prog w) A.in1 (call (.ref f) [.ref x, y]) (fun v s' => ∃ b, v = .bool b ∧ Q (.bool (!b)) s') E s) : wpAny (model prog w) A (richCompare .NotEq (.ref x) y) Q E s := by
  have go : wpAny (model prog w) A (call (.builtin "object.__ne__") [.ref x, y]) (fun v s' => ∃ b, v = .bool b ∧ Q (.bool b) s') E s := by
    refine wpAny_call (codeAny_call_builtin F.cmp_object.ne.plain F.cmpEntry_ne (check_ne X I hm (body_ne (A := A.in1) hu X I hs hf (wpAny_mono h (fun v s' hv => ?_) fun _ _ e => e))))
    obtain ⟨b, rfl, hq⟩ := hv
    exact ⟨b, rfl, _, rfl, hq⟩
  have one : wpAny (model prog w) A (tryCompare (.ref x) (cmpInfo .NotEq).2.1 y) (fun r s' => ∃ v, r = some v ∧ Q v s') E s := by
    unfold tryCompare
    refine wpAny_bind (ifBound_ne X I hne (wpAny_mono go (fun v s' q => ?_) fun _ _ e => e))
    obtain ⟨b, rfl, hq⟩ := q
    exact wpAny_pure ⟨_, rfl, hq⟩
  have ends : ∀ next : Option Value → Sem Value, (∀ v s', Q v s' → wpAny (model prog w) A (next (some v)) Q E s') → wpAny (model prog w) A (tryCompare (.ref x) (cmpInfo .NotEq).2.1 y >>= next) Q E s :=
    fun next hk => wpAny_bind (wpAny_mono one (fun r s' z => z.elim fun v zv => zv.1 ▸ hk v s' zv.2) fun _ _ e => e)
  unfold richCompare
  simp only [oneThing_ref]
  refine wpAny_holding (wpAny_bind (wpAny_cRoomFor (Nat.lt_of_succ_lt hu) (wpAny_bind (I.type.here (wpAny_bind (hb.here ?_))))))
  by_cases same : tb = .ref C
  · rw [if_neg (by rw [same]; simp)]
    exact wpAny_bind (wpAny_pure (ends _ fun v s' hq => wpAny_pure hq))
  · have esub : subIn K tb (.ref C) = some false := by
      have y := hn
      unfold notFirst at y
      rw [beq_false_of_ne same, Bool.false_or] at y
      exact beq_iff_eq.mp y
    rw [if_pos (by simpa using fun z : Value.ref C = tb => same z.symm)]
    exact wpAny_bind ((looks_subIn X esub).here (ends _ fun v s' hq => wpAny_pure hq))
end
section
variable {X : Cx} {CX : CXT} {k : Nat} {C f : Addr} {fd : FuncData} {ps : List Str} {sp : Sp} {E : XK}
/-- x != y, x an instance of C with its own ==, which tells a truth -/
def rNeI (K : PySem.W.Frag) (C : Addr) (sp : Sp) (E : XK) : R2 := fun x y H Q => ∃ a dx fs t, x = .ref a ∧ H a = some (.ins C dx fs) ∧ TyX K H y t ∧ PySem.W.notFirst K C t = true ∧ sp [.ref a, y] H (fun v H' => ∃ b, v = .bl b ∧ Q (.bl (!b)) H') E
theorem op_neI (o : OpOf X.K C "__eq__" f) (hne : PySem.W.findIn X.K (.ref C) "__ne__" = some (some (.builtin "object.__ne__"))) (hm : PySem.W.mroIn X.K C (.type "object") = some true)
    (F : FnOk X.prog X.w X.K X.mg X.base CX k f fd ps sp) (hr : Room (k + 1) X.A) (hb : Binds X.K fd ps []) (hx : Passes CX X E) : OpR X (compareOp .NotEq) (rNeI X.K C sp E) := by
  intro pins s σ H x y u v Q I rx ry hq
  obtain ⟨a, dx, fs, t, rfl, ea, ty, hn, q⟩ := hq
  cases rx
  obtain ⟨od, J⟩ := inst_of I ea
  obtain ⟨P, kx, hp, _⟩ := kit_of I ry ty
  refine PySem.W.cmp_ofNotEq (rc_ne (by have := hr.in1.units0; exact this) I.kIn J (kx.ty _ _ I.kIn hp) hn hm hne o.at_ o.fn ?_)
  refine wpAny_mono (run_in (vs := [.ref a, y]) F hr.in1 rfl hb hx I (.cons rfl (.cons ry .nil)) q) (fun z s' got => ?_) fun _ _ e => e
  obtain ⟨v, H', I', rv, b, rfl, q'⟩ := got
  cases (show z = Value.bool b from rv)
  exact ⟨b, rfl, .bl (!b), H', I', rfl, q'⟩
end
end Ow
/-! lists, tuples on the left of ==, an instance on the right: they decline. -/
namespace Ow
open PySem PySem.Spec PyProof.Rows L2
open Builtin
section
variable {prog : Program} {w : World} {A : Around} {K : PySem.W.Frag} {x C : Addr} {ox : Obj} {od : Option Obj}
theorem not_inst {E : Value → Shared → Prop} {s : Shared} {T : String} {Q : Bool → Shared → Prop} (X : K.In s.heap) (I : PySem.W.InstAt s.heap x ox C od) (hsub : PySem.W.subIn K (.ref C) (.type T) = some false) (q : Q false s) : wpAny (model prog w) A (isInstance (.ref x) (.type T)) Q E s := by
  unfold isInstance
  exact wpAny_bind (I.type.here ((PySem.W.looks_subIn X hsub).here q))
theorem list_decl {R : Result → Shared → Prop} {s : Shared} {l : Addr} (X : K.In s.heap) (I : PySem.W.InstAt s.heap x ox C od) (hsub : PySem.W.subIn K (.ref C) (.type "list") = some false) (q : R (.ok (.ret Value.notImplemented)) s) :
    wpAny (model prog w) A.in1 (Builtin.«list.__eq__» ⟨[.ref l, .ref x], []⟩) (GQ.FinOf prog w A R) (fun e s' => R (.error e) s') s := by
  obtain ⟨hp, g, d, tk, os⟩ := s
  have isI : ∀ {B : Around} {E : Value → Shared → Prop} {Q : Bool → Shared → Prop}, Q false ⟨hp, g, d, tk, os⟩ → wpAny (model prog w) B (isInstance (.ref x) (.type "list")) Q E ⟨hp, g, d, tk, os⟩ := fun z => not_inst X I hsub z
  wp_walk using isI
  exact q
theorem tup_decl {R : Result → Shared → Prop} {s : Shared} {l : Addr} (X : K.In s.heap) (I : PySem.W.InstAt s.heap x ox C od) (hsub : PySem.W.subIn K (.ref C) (.type "tuple") = some false) (q : R (.ok (.ret Value.notImplemented)) s) :
    wpAny (model prog w) A.in1 (Builtin.«tuple.__eq__» ⟨[.ref l, .ref x], []⟩) (GQ.FinOf prog w A R) (fun e s' => R (.error e) s') s := by
  obtain ⟨hp, g, d, tk, os⟩ := s
  have isI : ∀ {B : Around} {E : Value → Shared → Prop} {Q : Bool → Shared → Prop}, Q false ⟨hp, g, d, tk, os⟩ → wpAny (model prog w) B (isInstance (.ref x) (.type "tuple")) Q E ⟨hp, g, d, tk, os⟩ := fun z => not_inst X I hsub z
  wp_walk using isI
  exact q
end
section
variable {X : Cx} {CX : CXT} {k : Nat} {C f : Addr} {fd : FuncData} {ps : List Str} {sp : Sp} {E : XK}
/-- l == x, l a list, x an instance with its own == -/
def rEqLr (C : Addr) (sp : Sp) (E : XK) : R2 := fun v y H Q => ∃ a dx fs l xs, v = .ref l ∧ H l = some (.lst xs) ∧ y = .ref a ∧ H a = some (.ins C dx fs) ∧ sp [.ref a, .ref l] H Q E
def rEqTr (C : Addr) (sp : Sp) (E : XK) : R2 := fun v y H Q => ∃ a dx fs l xs, v = .ref l ∧ H l = some (.tup xs) ∧ y = .ref a ∧ H a = some (.ins C dx fs) ∧ sp [.ref a, .ref l] H Q E
theorem op_eqLr (o : OpOf X.K C "__eq__" f) (hsub : PySem.W.subIn X.K (.ref C) (.type "list") = some false) (F : FnOk X.prog X.w X.K X.mg X.base CX k f fd ps sp) (hr : Room k X.A) (hb : Binds X.K fd ps []) (hx : Passes CX X E) : OpR X (compareOp .Eq) (rEqLr C sp E) := by
  intro pins s σ H v y u w_ Q I rx ry hq
  obtain ⟨a, dx, fs, l, xs, rfl, hl, rfl, ea, q⟩ := hq
  cases rx
  cases ry
  obtain ⟨od, J⟩ := inst_of I ea
  obtain ⟨its, rv, pl, _⟩ := I.list (SqL.of hl)
  obtain ⟨ob, ho, hc, _⟩ := pl.isList
  have hT : s.TypeIs (.ref l) "list" := ⟨ob, ho, hc⟩
  refine PySem.W.cmp_ofEq (eq_right hr.units0 I.kIn J hT (oneThing_ref _ _ _) hsub PySem.F.slot_list_eq ?_
    o.at_ o.fn (run_back (vs := [.ref a, .ref l]) F hr hb hx I (.cons rfl (.cons rfl .nil)) q))
  exact GQ.call_here PySem.F.slot_list_eq hT PySem.F.entry_list_eq (PySem.F.args_list_eq_2 _ _) (list_decl (R := wants (fun v s' => v = .notImplemented ∧ s' = s) X.xe) I.kIn J hsub ⟨rfl, rfl⟩)
theorem op_eqTr (o : OpOf X.K C "__eq__" f) (hsub : PySem.W.subIn X.K (.ref C) (.type "tuple") = some false) (F : FnOk X.prog X.w X.K X.mg X.base CX k f fd ps sp) (hr : Room k X.A) (hb : Binds X.K fd ps []) (hx : Passes CX X E) : OpR X (compareOp .Eq) (rEqTr C sp E) := by
  intro pins s σ H v y u w_ Q I rx ry hq
  obtain ⟨a, dx, fs, l, xs, rfl, hl, rfl, ea, q⟩ := hq
  cases rx
  cases ry
  obtain ⟨od, J⟩ := inst_of I ea
  obtain ⟨its, rv, pl, _⟩ := I.tuple (SqT.of hl)
  obtain ⟨ob, ho, hc, _⟩ := id pl
  have hT : s.TypeIs (.ref l) "tuple" := ⟨ob, ho, hc⟩
  refine PySem.W.cmp_ofEq (eq_right hr.units0 I.kIn J hT (oneThing_ref _ _ _) hsub PySem.F.slot_tuple_eq ?_
    o.at_ o.fn (run_back (vs := [.ref a, .ref l]) F hr hb hx I (.cons rfl (.cons rfl .nil)) q))
  exact GQ.call_here PySem.F.slot_tuple_eq hT PySem.F.entry_tuple_eq (PySem.F.args_tuple_eq_2 _ _) (tup_decl (R := wants (fun v s' => v = .notImplemented ∧ s' = s) X.xe) I.kIn J hsub ⟨rfl, rfl⟩)
/-- None == x, b == x -/
def rEqNr (C : Addr) (sp : Sp) (E : XK) : R2 := fun v y H Q => ∃ a dx fs, v = .non ∧ y = .ref a ∧ H a = some (.ins C dx fs) ∧ sp [.ref a, .non] H Q E
def rEqBr (C : Addr) (sp : Sp) (E : XK) : R2 := fun v y H Q => ∃ a dx fs b, v = .bl b ∧ y = .ref a ∧ H a = some (.ins C dx fs) ∧ sp [.ref a, .bl b] H Q E
theorem op_eqNr (o : OpOf X.K C "__eq__" f) (hsub : PySem.W.subIn X.K (.ref C) (.type "NoneType") = some false) (F : FnOk X.prog X.w X.K X.mg X.base CX k f fd ps sp) (hr : Room k X.A) (hb : Binds X.K fd ps []) (hx : Passes CX X E) : OpR X (compareOp .Eq) (rEqNr C sp E) := by
  intro pins s σ H v y u w_ Q I rx ry hq
  obtain ⟨a, dx, fs, rfl, rfl, ea, q⟩ := hq
  cases rx
  cases ry
  obtain ⟨od, J⟩ := inst_of I ea
  obtain ⟨mA, O, _⟩ := ins_get I.hok ea
  have hT : s.TypeIs Value.none "NoneType" := rfl
  exact PySem.W.cmp_ofEq (eq_right hr.units0 I.kIn J hT rfl hsub PySem.F.slot_NoneType_eq
    (call_meets PySem.F.slot_NoneType_eq hT PySem.F.entry_NoneType_eq (PySem.F.args_NoneType_eq_2 _ _) (non_eq_ref C dx a) ⟨O.obj, rfl, rfl⟩)
    o.at_ o.fn (run_back (vs := [.ref a, .non]) F hr hb hx I (.cons rfl (.cons rfl .nil)) q))
theorem op_eqBr (o : OpOf X.K C "__eq__" f) (hsub : PySem.W.subIn X.K (.ref C) (.type "bool") = some false) (F : FnOk X.prog X.w X.K X.mg X.base CX k f fd ps sp) (hr : Room k X.A) (hb : Binds X.K fd ps []) (hx : Passes CX X E) : OpR X (compareOp .Eq) (rEqBr C sp E) := by
  intro pins s σ H v y u w_ Q I rx ry hq
  obtain ⟨a, dx, fs, b, rfl, rfl, ea, q⟩ := hq
  cases (show u = Value.bool b from rx)
  cases ry
  obtain ⟨od, J⟩ := inst_of I ea
  obtain ⟨mA, O, _⟩ := ins_get I.hok ea
  have hT : s.TypeIs (Value.bool b) "bool" := rfl
  exact PySem.W.cmp_ofEq (eq_right hr.units0 I.kIn J hT rfl hsub PySem.F.slot_bool_eq
    (call_meets PySem.F.slot_bool_eq hT PySem.F.entry_int_eq (PySem.F.args_int_eq_2 _ _) (bool_eq_ref C dx b a) ⟨O.obj, rfl, rfl⟩)
    o.at_ o.fn (run_back (vs := [.ref a, .bl b]) F hr hb hx I (.cons rfl (.cons rfl .nil)) q))
end
end Ow
namespace Ow
open PySem PySem.Spec PyProof.Rows L2
open Builtin
section
variable {prog : Program} {w : World} {A : Around} {K : PySem.W.Frag} {x C : Addr} {ox : Obj} {od : Option Obj}
theorem dict_decl {R : Result → Shared → Prop} {s : Shared} {l : Addr} (X : K.In s.heap) (I : PySem.W.InstAt s.heap x ox C od) (hT : s.TypeIs (.ref l) "dict") (hsub : PySem.W.subIn K (.ref C) (.type "dict") = some false) (q : R (.ok (.ret Value.notImplemented)) s) :
    wpAny (model prog w) A.in1 (Builtin.«dict.__eq__» ⟨[.ref l, .ref x], []⟩) (GQ.FinOf prog w A R) (fun e s' => R (.error e) s') s := by
  obtain ⟨hp, g, d, tk, os⟩ := s
  have isI : ∀ {B : Around} {E : Value → Shared → Prop} {Q : Bool → Shared → Prop}, Q false ⟨hp, g, d, tk, os⟩ → wpAny (model prog w) B (isInstance (.ref x) (.type "dict")) Q E ⟨hp, g, d, tk, os⟩ := fun z => not_inst X I hsub z
  wp_walk using isI
  exact q
end
section
variable {X : Cx} {CX : CXT} {k : Nat} {C f : Addr} {fd : FuncData} {ps : List Str} {sp : Sp} {E : XK}
/-- d == x, d a dict, x an instance with its own == -/
def rEqDr (C : Addr) (sp : Sp) (E : XK) : R2 := fun v y H Q => ∃ a dx fs l kvs, v = .ref l ∧ H l = some (.dK kvs) ∧ y = .ref a ∧ H a = some (.ins C dx fs) ∧ sp [.ref a, .ref l] H Q E
theorem op_eqDr (o : OpOf X.K C "__eq__" f) (hsub : PySem.W.subIn X.K (.ref C) (.type "dict") = some false) (F : FnOk X.prog X.w X.K X.mg X.base CX k f fd ps sp) (hr : Room k X.A) (hb : Binds X.K fd ps []) (hx : Passes CX X E) : OpR X (compareOp .Eq) (rEqDr C sp E) := by
  intro pins s σ H v y u w_ Q I rx ry hq
  obtain ⟨a, dx, fs, l, kvs, rfl, hl, rfl, ea, q⟩ := hq
  cases rx
  cases ry
  obtain ⟨od, J⟩ := inst_of I ea
  obtain ⟨_, _, _, _, ob, _, _, ho, ex, _⟩ := I.hok l _ hl
  have hT : s.TypeIs (.ref l) "dict" := ⟨ob, ho, ex.1⟩
  refine PySem.W.cmp_ofEq (eq_right hr.units0 I.kIn J hT (oneThing_ref _ _ _) hsub PySem.F.slot_dict_eq ?_
    o.at_ o.fn (run_back (vs := [.ref a, .ref l]) F hr hb hx I (.cons rfl (.cons rfl .nil)) q))
  exact GQ.call_here PySem.F.slot_dict_eq hT PySem.F.entry_dict_eq (PySem.F.args_dict_eq_2 _ _) (dict_decl (R := wants (fun v s' => v = .notImplemented ∧ s' = s) X.xe) I.kIn J hT hsub ⟨rfl, rfl⟩)
end
end Ow
/-! ==, in, index of lists whose items have their own ==, the answer a truth. -/
namespace Ow
open PySem PySem.Spec PyProof.Rows L2 PySem.SeqAt
open AutoSeq1 (wpAny_loadPart')
open MeetsSeq MeetsSeq2 MeetsSeq3 SeqRoads2
section
variable {prog : Program} {w : World} {A : Around} {R : Result → Shared → Prop}
abbrev FO (prog : Program) (w : World) (A : Around) (R : Result → Shared → Prop) := GQ.FinOf prog w A R
/-- a list of N items stands at l; each item beside the value answers e i -/
def HasI (prog : Program) (w : World) (A : Around) (E : Value → Shared → Prop) (l : Addr) (x : Value) (N : Nat) (e : Nat → Bool) (I : Shared → Prop) : Prop :=
  ∀ s, I s → ∃ (items : Array Value) (n : Nat), s.heap.get? l = some { cls := .type "list", data := .seq items n } ∧ items.size = N ∧
    ∀ (i : Nat) (h : i < items.size), wpAny (model prog w) A.in1 (eqBool items[i] x) (fun r s' => r = e i ∧ I s') E s
theorem has_loop (l : Addr) (x : Value) (N : Nat) (e : Nat → Bool) (I : Shared → Prop) (hl : HasI prog w A (fun e s' => R (.error e) s') l x N e I) (k : Nat) :
    ∀ i : Nat, N - i = k → ∀ s, I s → (∀ s', I s' → R (.ok (.ret (.bool (((List.range N).drop i).any e)))) s') →
      wpAny (model prog w) A.in1 (Builtin.«list.__contains__.loop» ⟨[.ref l, x, rawInt i], []⟩) (FO prog w A R) (fun e s' => R (.error e) s') s := by
  induction k with
  | zero =>
    intro i hk s h fin
    obtain ⟨items, n, g1, hs, _⟩ := hl _ h
    have q := fin s h
    obtain ⟨hp, g, d, tk, os⟩ := s
    wp_walk using wpAny_loadPart' g1
    have hi : items[((i : Nat) : Int).toNat]? = none := by simp; omega
    have hd : (List.range N).drop i = [] := by simp; omega
    rw [hd] at q
    rw [hi]
    wp_walk
    exact q
  | succ k ih =>
    intro i hk s h fin
    obtain ⟨items, n, g1, hs, turn⟩ := hl _ h
    have hlt : i < items.size := by omega
    have tr := turn i hlt
    have hd : (List.range N).drop i = i :: (List.range N).drop (i + 1) := by simp [List.drop_eq_getElem_cons, show i < N by omega]
    rw [hd] at fin
    obtain ⟨hp, g, d, tk, os⟩ := s
    wp_walk using wpAny_loadPart' g1
    have hi : items[((i : Nat) : Int).toNat]? = some items[i] := by simp [hlt]
    rw [hi]
    refine wpAny_bind (wpAny_mono tr (fun r s2 q2 => ?_) fun _ _ z => z)
    obtain ⟨rfl, q2⟩ := q2
    cases hb : e i with
    | true =>
      have q := fin s2 q2
      rw [List.any_cons, hb] at q
      obtain ⟨hp2, g2, d2, tk2, os2⟩ := s2
      wp_walk
      exact q
    | false =>
      have hrec := ih (i + 1) (by omega) s2 q2 (fun s' q => by
        have z := fin s' q
        rw [List.any_cons, hb, Bool.false_or] at z
        exact z)
      have hc : ((i : Int) + 1) = ((i + 1 : Nat) : Int) := by push_cast; rfl
      obtain ⟨hp2, g2, d2, tk2, os2⟩ := s2
      wp_walk
      rw [hc]
      exact ⟨plainId_quiet plain_contains_loop _, codeAny_builtin entry_contains_loop (by
        rw [Around.under_plainId plain_contains_loop _]
        exact hrec)⟩
theorem has_all (l : Addr) (x : Value) (N : Nat) (e : Nat → Bool) (I : Shared → Prop) (hl : HasI prog w A (fun e s' => R (.error e) s') l x N e I) {s : Shared} (h : I s)
    (fin : ∀ s', I s' → R (.ok (.ret (.bool ((List.range N).any e)))) s') : wpAny (model prog w) A.in1 (Builtin.«list.__contains__» ⟨[.ref l, x], []⟩) (FO prog w A R) (fun e s' => R (.error e) s') s := by
  obtain ⟨items, n, g1, hs, _⟩ := hl _ h
  have hrec := has_loop (R := R) l x N e I hl _ 0 rfl s h (by simpa using fin)
  obtain ⟨hp, g, d, tk, os⟩ := s
  wp_walk using wpAny_loadPart' g1
  exact ⟨plainId_quiet plain_contains_loop _, codeAny_builtin entry_contains_loop (by
    rw [Around.under_plainId plain_contains_loop _]
    exact hrec)⟩
/-- the index of the first that answers True -/
theorem ix_loop (l : Addr) (x : Value) (N : Nat) (e : Nat → Bool) (I : Shared → Prop) (hl : HasI prog w A (fun e s' => R (.error e) s') l x N e I) (upto : Int) (j : Nat) (hj : j < N) (hu : (j : Int) < upto) (hit : e j = true) (k : Nat) :
    ∀ i : Nat, j - i = k → i ≤ j → (∀ m, i ≤ m → m < j → e m = false) → ∀ s, I s → (∀ s', I s' → R (.ok (.ret (.int j s'.toks))) { s' with toks := s'.toks + 1 }) →
      wpAny (model prog w) A.in1 (Builtin.«list.index.loop» ⟨[.ref l, x, rawInt i, rawInt upto], []⟩) (FO prog w A R) (fun e s' => R (.error e) s') s := by
  induction k with
  | zero =>
    intro i hk hij hno s h fin
    obtain ⟨items, n, g1, hs, turn⟩ := hl _ h
    have hij' : i = j := by omega
    subst hij'
    have hlt : i < items.size := by omega
    have tr := turn i hlt
    obtain ⟨hp, g, d, tk, os⟩ := s
    wp_walk using wpAny_loadPart' g1
    have hi : (if (i : Int) < upto then items[((i : Nat) : Int).toNat]? else none) = some items[i] := by simp [hu, hlt]
    rw [hi]
    refine wpAny_bind (wpAny_mono tr (fun r s2 q2 => ?_) fun _ _ z => z)
    obtain ⟨rfl, q2⟩ := q2
    have q := fin s2 q2
    rw [hit]
    obtain ⟨hp2, g2, d2, tk2, os2⟩ := s2
    wp_walk
    exact q
  | succ k ih =>
    intro i hk hij hno s h fin
    obtain ⟨items, n, g1, hs, turn⟩ := hl _ h
    have hlt : i < items.size := by omega
    have hst : (i : Int) < upto := by omega
    have tr := turn i hlt
    obtain ⟨hp, g, d, tk, os⟩ := s
    wp_walk using wpAny_loadPart' g1
    have hi : (if (i : Int) < upto then items[((i : Nat) : Int).toNat]? else none) = some items[i] := by simp [hst, hlt]
    have hc : ((i : Int) + 1) = ((i + 1 : Nat) : Int) := by push_cast; rfl
    rw [hi]
    refine wpAny_bind (wpAny_mono tr (fun r s2 q2 => ?_) fun _ _ z => z)
    obtain ⟨rfl, q2⟩ := q2
    rw [hno i (Nat.le_refl _) (by omega)]
    have hrec := ih (i + 1) (by omega) (by omega) (fun m h1 h2 => hno m (by omega) h2) s2 q2 fin
    obtain ⟨hp2, g2, d2, tk2, os2⟩ := s2
    wp_walk
    rw [hc]
    exact ⟨plainId_quiet plain_index_loop _, codeAny_builtin entry_index_loop (by
      rw [Around.under_plainId plain_index_loop _]
      exact hrec)⟩
theorem ix_all (l : Addr) (x : Value) (N : Nat) (e : Nat → Bool) (I : Shared → Prop) (hl : HasI prog w A (fun e s' => R (.error e) s') l x N e I) (j : Nat) (hj : j < N) (hsm : (j : Int) < 2 ^ 63 - 1) (hit : e j = true) (hno : ∀ m, m < j → e m = false)
    {s : Shared} (h : I s) (fin : ∀ s', I s' → R (.ok (.ret (.int j s'.toks))) { s' with toks := s'.toks + 1 }) : wpAny (model prog w) A.in1 (Builtin.«list.index» ⟨[.ref l, x], []⟩) (FO prog w A R) (fun e s' => R (.error e) s') s := by
  obtain ⟨items, n, g1, hs, _⟩ := hl _ h
  have hrec := ix_loop (R := R) l x N e I hl (2 ^ 63 - 1) j hj hsm hit _ 0 rfl (Nat.zero_le _) (fun m _ h2 => hno m h2) s h fin
  obtain ⟨hp, g, d, tk, os⟩ := s
  wp_walk using wpAny_loadPart' g1
  have a1 : ((fun i : Int => if i < 0 then max 0 (i + (items.size : Int)) else i) ((none : Option Int).getD 0)) = ((0 : Nat) : Int) := by simp
  have a2 : ((fun i : Int => if i < 0 then max 0 (i + (items.size : Int)) else i) ((none : Option Int).getD (2 ^ 63 - 1))) = 2 ^ 63 - 1 := by simp
  rw [a1, a2]
  exact ⟨plainId_quiet plain_index_loop _, codeAny_builtin entry_index_loop (by
    rw [Around.under_plainId plain_index_loop _]
    exact hrec)⟩
/-- two lists of N items stand at l and b; the i-th two answer e i -/
def TwoI (prog : Program) (w : World) (A : Around) (E : Value → Shared → Prop) (l b : Addr) (N : Nat) (e : Nat → Bool) (I : Shared → Prop) : Prop :=
  ∀ s, I s → ∃ (items items2 : Array Value) (n n2 : Nat), s.heap.get? l = some { cls := .type "list", data := .seq items n } ∧ s.heap.get? b = some { cls := .type "list", data := .seq items2 n2 } ∧ items.size = N ∧ items2.size = N ∧
    ∀ (i : Nat) (h1 : i < items.size) (h2 : i < items2.size), wpAny (model prog w) A.in1 (eqBool items[i] items2[i]) (fun r s' => r = e i ∧ I s') E s
theorem two_loop (l b : Addr) (N : Nat) (e : Nat → Bool) (I : Shared → Prop) (hl : TwoI prog w A (fun e s' => R (.error e) s') l b N e I) (k : Nat) :
    ∀ i : Nat, N - i = k → ∀ s, I s → (∀ s', I s' → R (.ok (.ret (.bool (((List.range N).drop i).all e)))) s') →
      wpAny (model prog w) A.in1 (Builtin.«list.__eq__.loop» ⟨[.ref l, .ref b, rawInt i, rawInt 2], []⟩) (FO prog w A R) (fun e s' => R (.error e) s') s := by
  induction k with
  | zero =>
    intro i hk s h fin
    obtain ⟨items, items2, n, n2, g1, g2, hs1, hs2, _⟩ := hl _ h
    have q := fin s h
    obtain ⟨hp, g, d, tk, os⟩ := s
    wp_walk using wpAny_loadPart' g1, wpAny_loadPart' g2
    have hi1 : items[((i : Nat) : Int).toNat]? = none := by simp; omega
    have hi2 : items2[((i : Nat) : Int).toNat]? = none := by simp; omega
    have hd : (List.range N).drop i = [] := by simp; omega
    rw [hd] at q
    rw [hi1, hi2]
    wp_walk using wpAny_loadPart' g1, wpAny_loadPart' g2
    show R (.ok (.ret (.bool (items.size == items2.size)))) _
    rw [hs1, hs2]
    simpa using q
  | succ k ih =>
    intro i hk s h fin
    obtain ⟨items, items2, n, n2, g1, g2, hs1, hs2, turn⟩ := hl _ h
    have hlt : i < items.size := by omega
    have hlt2 : i < items2.size := by omega
    have tr := turn i hlt hlt2
    have hd : (List.range N).drop i = i :: (List.range N).drop (i + 1) := by simp [List.drop_eq_getElem_cons, show i < N by omega]
    rw [hd] at fin
    obtain ⟨hp, g, d, tk, os⟩ := s
    wp_walk using wpAny_loadPart' g1, wpAny_loadPart' g2
    have hi1 : items[((i : Nat) : Int).toNat]? = some items[i] := by simp [hlt]
    have hi2 : items2[((i : Nat) : Int).toNat]? = some items2[i] := by simp [hlt2]
    have hc : ((i : Int) + 1) = ((i + 1 : Nat) : Int) := by push_cast; rfl
    rw [hi1, hi2]
    refine wpAny_bind (wpAny_mono tr (fun r s2 q2 => ?_) fun _ _ z => z)
    obtain ⟨rfl, q2⟩ := q2
    cases hb : e i with
    | true =>
      have hrec := ih (i + 1) (by omega) s2 q2 (fun s' q => by
        have z := fin s' q
        rw [List.all_cons, hb, Bool.true_and] at z
        exact z)
      obtain ⟨hp2, g3, d2, tk2, os2⟩ := s2
      wp_walk
      rw [hc]
      exact ⟨plainId_quiet plain_eq_loop _, codeAny_builtin entry_eq_loop (by
        rw [Around.under_plainId plain_eq_loop _]
        exact hrec)⟩
    | false =>
      have q := fin s2 q2
      rw [List.all_cons, hb, Bool.false_and] at q
      obtain ⟨jt, jt2, m, m2, k1, k2, ks1, ks2, _⟩ := hl _ q2
      have lt3 : i < jt.size := by omega
      have lt4 : i < jt2.size := by omega
      have hj1 : jt[((i : Nat) : Int).toNat]? = some jt[i] := by simp [lt3]
      have hj2 : jt2[((i : Nat) : Int).toNat]? = some jt2[i] := by simp [lt4]
      obtain ⟨hp2, g3, d2, tk2, os2⟩ := s2
      wp_walk using wpAny_loadPart' k1, wpAny_loadPart' k2
      rw [hj1, hj2]
      wp_walk
      exact q
theorem two_all (l b : Addr) (N : Nat) (e : Nat → Bool) (I : Shared → Prop) (hl : TwoI prog w A (fun e s' => R (.error e) s') l b N e I) {s : Shared} (h : I s)
    (fin : ∀ s', I s' → R (.ok (.ret (.bool ((List.range N).all e)))) s') : wpAny (model prog w) A.in1 (Builtin.«list.__eq__» ⟨[.ref l, .ref b], []⟩) (FO prog w A R) (fun e s' => R (.error e) s') s := by
  obtain ⟨items, items2, n, n2, g1, g2, hs1, hs2, _⟩ := hl _ h
  have hrec := two_loop (R := R) l b N e I hl _ 0 rfl s h (by simpa using fin)
  obtain ⟨hp, g, d, tk, os⟩ := s
  have f3 := AutoSeq1.sub_list_list
  have hne : ¬ (items.size != items2.size) = true := by simp [hs1, hs2]
  wp_walk using wpAny_loadPart' g1, wpAny_loadPart' g2
  exact ⟨plainId_quiet plain_eq_loop _, codeAny_builtin entry_eq_loop (by
    rw [Around.under_plainId plain_eq_loop _]
    exact hrec)⟩
end
end Ow
namespace Ow
open PySem PySem.Spec PyProof.Rows L2
/-- how two values compare by ==: the answer -/
abbrev EqD := V → V → Bool → Hp → Prop
def MonB (D : EqD) : Prop := ∀ x y b H H', Ext H H' → D x y b H → D x y b H'
def EqB (X : Cx) (n : Nat) (D : EqD) : Prop :=
  ∀ (A : Around) (pins : List (Addr × Obj)) (s : Shared) (σ : L2.St) (H : Hp) (x y : V) (u v : Value) (b : Bool), Sub X n A → Inv X pins σ H s → RelV x u → RelV y v → D x y b H →
    wpAny (model X.prog X.w) A (eqBool u v) (fun r s' => r = b ∧ LoopI X pins σ H s') X.xe s
section
variable {X : Cx} {n : Nat} {D : EqD}
/-- what the own == is asked and answers -/
structure OwnB (K : PySem.W.Frag) (C : Addr) (sp : Sp) (E : XK) (D : EqD) : Prop where
  ex : ∀ x y b H, D x y b H → ∃ a c dx fs t, x = .ref a ∧ y = .ref c ∧ H a = some (.ins C dx fs) ∧ TyX K H y t ∧ PySem.W.notFirst K C t = true ∧ (a = c → b = true) ∧ ∀ Q : VK, (∀ H', Ext H H' → Q (.bl b) H') → sp [.ref a, .ref c] H Q E
theorem eqB_own {CX : CXT} {C f : Addr} {fd : FuncData} {ps : List Str} {sp : Sp} {E : XK} (W : OwnB X.K C sp E D) (o : OpOf X.K C "__eq__" f) (F : FnOk X.prog X.w X.K X.mg X.base CX n f fd ps sp) (hb : Binds X.K fd ps []) (hx : Passes CX X E) : EqB X n D := by
  intro A pins s σ H x y u v b sb I rx ry d
  obtain ⟨a, c, dx, fs, t, rfl, rfl, ea, ty, hn, hac, hsp⟩ := W.ex _ _ _ _ d
  cases rx
  cases ry
  by_cases hab : a = c
  · subst hab
    rw [hac rfl]
    exact SeqAt.EqAt.same (A := A) (s := s) (.ref a) X.prog X.w X.xe _ ⟨rfl, H, I, Ext.rfl'⟩
  · obtain ⟨od, J⟩ := inst_of I ea
    obtain ⟨m, hF⟩ := I.fr
    obtain ⟨P, kx, hp, _⟩ := kit_of I (show RelV (.ref c) (.ref c) from rfl) ty
    have call := run_in F sb.room sb.fr hb hx I (vs := [.ref a, .ref c]) (.cons rfl (.cons rfl .nil)) (hsp (fun z H' => z = .bl b ∧ Ext H H') fun H' e => ⟨rfl, e⟩)
    refine GQ.eqBool_refG hab (PySem.W.cmp_K (op := .Eq) (Q := fun r s' => ∃ q, r = .bool q ∧ q = b ∧ LoopI X pins σ H s') sb.room.units0 hF I.ok.mod.kin J (kx.ty _ _ I.kIn hp) hn o.at_ o.fn (wpAny_mono call (fun z s' q => ?_) fun _ _ e => e))
    obtain ⟨z', H', I', rz, ez, e⟩ := q
    cases ez
    cases rz
    exact back (v := .bl b) rfl ⟨b, rfl, rfl, H', I', e⟩
theorem hasI_of (hD : MonB D) (h : EqB X n D) {A : Around} (sb : Sub X (n + 1) A) {pins : List (Addr × Obj)} {σ : L2.St} {H : Hp} {p : Addr} {xs : List V} {x : V} {u : Value} {e : Nat → Bool} (hp : H p = some (.lst xs)) (rx : RelV x u)
    (d : ∀ (i : Nat) z, xs[i]? = some z → D z x (e i) H) : HasI X.prog X.w A X.xe p u xs.length e (LoopI X pins σ H) := by
  intro s' q
  obtain ⟨H1, I1, e1⟩ := id q
  obtain ⟨z, its, k, r, g⟩ := I1.hok p _ (e1 _ _ hp)
  refine ⟨its.toArray, k, g, by rw [List.size_toArray, ← r.length], fun i hi => ?_⟩
  have hl : i < xs.length := by rw [r.length]; simpa using hi
  obtain ⟨w1, hw, rw1⟩ := r.get (List.getElem?_eq_getElem hl)
  have g1 : its[i]? = some its.toArray[i] := by
    have h1' : i < its.length := by simpa using hi
    rw [List.getElem?_eq_getElem h1']; simp
  rw [g1] at hw
  rw [Option.some.inj hw]
  refine wpAny_mono (h A.in1 pins s' σ H1 _ _ _ _ _ sb.in1 I1 rw1 rx (hD _ _ _ _ _ e1 (d i _ (List.getElem?_eq_getElem hl)))) (fun r2 s2 q2 => ?_) fun _ _ z => z
  obtain ⟨hr2, H2, I2, e2⟩ := q2
  exact ⟨hr2, H2, I2, e1.trans e2⟩
/-- x in xs -/
def rInB (D : EqD) : R2 := fun x y H Q => ∃ (p : Addr) (xs : List V) (es : Nat → Bool), y = .ref p ∧ H p = some (.lst xs) ∧ (∀ (i : Nat) z, xs[i]? = some z → D z x (es i) H) ∧ ∀ H', Ext H H' → Q (.bl ((List.range xs.length).any es)) H'
theorem op_inB (hD : MonB D) (h : EqB X n D) (hr : Room (n + 1) X.A) : OpR X (compareOp .In) (rInB D) := by
  intro pins s σ H x y u v Q I rx ry hq
  obtain ⟨p, xs, es, rfl, hp, d, q⟩ := hq
  cases ry
  obtain ⟨z, its, k, r, g⟩ := I.hok p _ hp
  have HI := hasI_of (pins := pins) (σ := σ) hD h (A := X.A) ⟨hr, rfl⟩ hp rx d
  show wpAny (model X.prog X.w) X.A (do return Value.bool (← contains (Value.ref p) u) : Sem Value) (EP X pins σ Q) X.xe s
  refine wpAny_bind (wpAny_contains_slot ⟨_, g, rfl⟩ PySem.F.slot_list_contains (wpAny_mono (GQ.call_here (Q := fun v s' => v = .bool ((List.range xs.length).any es) ∧ LoopI X pins σ H s') PySem.F.slot_list_contains ⟨_, g, rfl⟩ PySem.F.entry_list_contains (PySem.F.args_list_contains_2 _ _)
    (has_all (R := wants (fun v s' => v = .bool ((List.range xs.length).any es) ∧ LoopI X pins σ H s') X.xe) p u xs.length es (LoopI X pins σ H) HI ⟨H, I, Ext.rfl'⟩ fun s' q => ⟨rfl, q⟩)) (fun v s' hv => ?_) fun _ _ e => e))
  obtain ⟨rfl, H', I', e'⟩ := hv
  exact wpAny_truthy_bool (wpAny_pure ⟨.bl _, H', I', rfl, q H' e'⟩)
/-- xs.index(x): the first that is equal -/
def rIxB (D : EqD) : V → List V → Hp → VK → Prop := fun x vs H Q => ∃ (p : Addr) (xs : List V) (y : V) (es : Nat → Bool) (j : Nat), x = .ref p ∧ vs = [y] ∧ H p = some (.lst xs) ∧ (∀ (i : Nat) z, xs[i]? = some z → D z y (es i) H) ∧ j < xs.length ∧ es j = true ∧ (∀ m, m < j → es m = false) ∧ ∀ H', Ext H H' → Q (.int (j : Nat)) H'
theorem mt_indexB (hD : MonB D) (h : EqB X n D) (hr : Room (n + 1) X.A) : MtR X "list.index" (rIxB D) := by
  intro pins s σ H x xs v us Q I rx rxs hq
  obtain ⟨p, ys, y, es, j, rfl, rfl, hp, d, hj, hit, hno, q⟩ := hq
  cases rx
  cases rxs with
  | cons ry rt =>
    rename_i uy ut
    cases rt
    obtain ⟨z, its, k, r, g⟩ := I.hok p _ hp
    have HI := hasI_of (pins := pins) (σ := σ) hD h (A := X.A) ⟨hr, rfl⟩ hp ry d
    have hsl := sizeLine_eq
    have hz : ys.length ≤ sizeLine := z
    refine GQ.call_here (Q := EP X pins σ Q) PySem.F.slot_list_index ⟨_, g, rfl⟩ PySem.F.entry_list_index (PySem.F.args_list_index_2 _ _)
      (ix_all (R := wants (EP X pins σ Q) X.xe) p uy ys.length es (LoopI X pins σ H) HI j hj (by omega) hit hno ⟨H, I, Ext.rfl'⟩ fun s' q2 => ?_)
    obtain ⟨H', I', e'⟩ := q2
    exact ⟨.int (j : Nat), H', I'.tok _, ⟨_, rfl⟩, q H' e'⟩
/-- xs == ys, lists of one length -/
def DListB (D : EqD) : EqD := fun x y b H => ∃ (a c : Addr) (xs ys : List V) (es : Nat → Bool), x = .ref a ∧ y = .ref c ∧ H a = some (.lst xs) ∧ H c = some (.lst ys) ∧ xs.length = ys.length ∧ (∀ (i : Nat) z w, xs[i]? = some z → ys[i]? = some w → D z w (es i) H) ∧ b = (List.range xs.length).all es
def rEqB (D : EqD) : R2 := fun x y H Q => ∃ b, D x y b H ∧ ∀ H', Ext H H' → Q (.bl b) H'
theorem twoI_of (hD : MonB D) (h : EqB X n D) {A : Around} (sb : Sub X (n + 1) A) {pins : List (Addr × Obj)} {σ : L2.St} {H : Hp} {a c : Addr} {xs ys : List V} {e : Nat → Bool} (ha : H a = some (.lst xs)) (hc : H c = some (.lst ys)) (hl : xs.length = ys.length)
    (d : ∀ (i : Nat) z w, xs[i]? = some z → ys[i]? = some w → D z w (e i) H) : TwoI X.prog X.w A X.xe a c xs.length e (LoopI X pins σ H) := by
  intro s' q
  obtain ⟨H1, I1, e1⟩ := id q
  obtain ⟨z, its, k, r, g⟩ := I1.hok a _ (e1 _ _ ha)
  obtain ⟨z2, its2, k2, r2, g2⟩ := I1.hok c _ (e1 _ _ hc)
  refine ⟨its.toArray, its2.toArray, k, k2, g, g2, by rw [List.size_toArray, ← r.length], by rw [List.size_toArray, ← r2.length, hl], fun i hi hi2 => ?_⟩
  have hl1 : i < xs.length := by rw [r.length]; simpa using hi
  have hl2 : i < ys.length := by rw [r2.length]; simpa using hi2
  obtain ⟨w1, hw, rw1⟩ := r.get (List.getElem?_eq_getElem hl1)
  obtain ⟨w2, hw2, rw2⟩ := r2.get (List.getElem?_eq_getElem hl2)
  have k1 : its[i]? = some its.toArray[i] := by
    have h1' : i < its.length := by simpa using hi
    rw [List.getElem?_eq_getElem h1']; simp
  have k2 : its2[i]? = some its2.toArray[i] := by
    have h1' : i < its2.length := by simpa using hi2
    rw [List.getElem?_eq_getElem h1']; simp
  rw [k1] at hw
  rw [k2] at hw2
  rw [Option.some.inj hw, Option.some.inj hw2]
  refine wpAny_mono (h A.in1 pins s' σ H1 _ _ _ _ _ sb.in1 I1 rw1 rw2 (hD _ _ _ _ _ e1 (d i _ _ (List.getElem?_eq_getElem hl1) (List.getElem?_eq_getElem hl2)))) (fun r2 s2 q2 => ?_) fun _ _ z => z
  obtain ⟨hr2, H2, I2, e2⟩ := q2
  exact ⟨hr2, H2, I2, e1.trans e2⟩
theorem rcB_list (hD : MonB D) (h : EqB X n D) {A : Around} (sb : Sub X (n + 1) A) {pins : List (Addr × Obj)} {s : Shared} {σ : L2.St} {H : Hp} {x y : V} {u v : Value} {b : Bool} (I : Inv X pins σ H s) (rx : RelV x u) (ry : RelV y v) (d : DListB D x y b H) :
    wpAny (model X.prog X.w) A (richCompare .Eq u v) (fun r s' => r = .bool b ∧ LoopI X pins σ H s') X.xe s := by
  obtain ⟨a, c, xs, ys, es, rfl, rfl, ha, hc, hl, d, rfl⟩ := d
  cases rx
  cases ry
  obtain ⟨z, its, k, r, g⟩ := I.hok a _ ha
  obtain ⟨z2, its2, k2, r2, g2⟩ := I.hok c _ hc
  have TI := twoI_of (pins := pins) (σ := σ) hD h (A := A) sb ha hc hl d
  refine wpAny_richCompare_same_room (op := .Eq) ⟨_, g, rfl⟩ ⟨_, g2, rfl⟩ PySem.F.slot_list_eq (GQ.call_here PySem.F.slot_list_eq ⟨_, g, rfl⟩ PySem.F.entry_list_eq (PySem.F.args_list_eq_2 _ _) ?_) sb.room.units0
  exact two_all (R := wants (fun v s' => v ≠ .notImplemented ∧ v = .bool ((List.range xs.length).all es) ∧ LoopI X pins σ H s') X.xe) a c xs.length es (LoopI X pins σ H) TI ⟨H, I, Ext.rfl'⟩ (fun s' q => ⟨(fun x => nomatch x), rfl, q⟩)
theorem op_eqLB (hD : MonB D) (h : EqB X n D) (hr : Room (n + 1) X.A) : OpR X (compareOp .Eq) (rEqB (DListB D)) := by
  intro pins s σ H x y u v Q I rx ry hq
  obtain ⟨b, d, q⟩ := hq
  refine PySem.W.cmp_ofEq (wpAny_mono (rcB_list hD h (A := X.A) ⟨hr, rfl⟩ I rx ry d) (fun r s' z => ?_) fun _ _ e => e)
  obtain ⟨rfl, H', I', e⟩ := z
  exact ⟨.bl b, H', I', rfl, q H' e⟩
theorem op_or {f : Value → Value → Sem Value} {r r' : R2} (a : OpR X f r) (b : OpR X f r') : OpR X f (fun x y H Q => r x y H Q ∨ r' x y H Q) := fun pins s σ H x y v u Q I rx ry h =>
  h.elim (a pins s σ H x y v u Q I rx ry) (b pins s σ H x y v u Q I rx ry)
end
end Ow
/-! Fractions in lowest terms, as plain integers. -/
namespace Rm
def sg (b : Int) : Int := if 0 < b then 1 else -1
def byv (t b : Int) : Int := (Int.gcd t b : Int) * sg b
def low (t b : Int) : Int × Int := (t.fdiv (byv t b), b.fdiv (byv t b))
structure Lw (n d : Int) : Prop where
  pos : 0 < d
  cop : Int.gcd n d = 1

theorem sg_ne (b : Int) : sg b ≠ 0 := by unfold sg; split <;> omega
theorem gcd_pos {t b : Int} (hb : b ≠ 0) : 0 < Int.gcd t b := Int.gcd_pos_of_ne_zero_right t hb
theorem byv_ne {t b : Int} (hb : b ≠ 0) : byv t b ≠ 0 := by
  have h := gcd_pos (t := t) hb
  unfold byv sg
  split <;> omega
theorem byv_eq {t b : Int} (hb : b ≠ 0) : (if b < 0 then -(Int.gcd t b : Int) else (Int.gcd t b : Int)) = byv t b := by
  unfold byv sg
  by_cases h : b < 0
  · rw [if_pos h, if_neg (by omega)]; omega
  · rw [if_neg h, if_pos (by omega)]; omega
theorem byv_natAbs {t b : Int} : (byv t b).natAbs = Int.gcd t b := by
  unfold byv sg
  split <;> simp [Int.natAbs_mul]
theorem byv_le {t b : Int} (hb : b ≠ 0) : (byv t b).natAbs ≤ b.natAbs := by
  rw [byv_natAbs]
  exact Nat.le_of_dvd (by omega) (Nat.gcd_dvd_right _ _)
theorem byv_dvd_t (t b : Int) : byv t b ∣ t := by
  have h : (Int.gcd t b : Int) ∣ t := Int.gcd_dvd_left ..
  unfold byv sg
  split
  · rw [Int.mul_one]; exact h
  · rw [Int.mul_neg, Int.mul_one]; exact Int.neg_dvd.mpr h
theorem byv_dvd_b (t b : Int) : byv t b ∣ b := by
  have h : (Int.gcd t b : Int) ∣ b := Int.gcd_dvd_right ..
  unfold byv sg
  split
  · rw [Int.mul_one]; exact h
  · rw [Int.mul_neg, Int.mul_one]; exact Int.neg_dvd.mpr h
theorem fdiv_mul_of_dvd {t g : Int} (h : g ∣ t) : t.fdiv g * g = t := Int.fdiv_mul_cancel h
theorem low_t {t b : Int} : (low t b).1 * byv t b = t := fdiv_mul_of_dvd (byv_dvd_t t b)
theorem low_b {t b : Int} : (low t b).2 * byv t b = b := fdiv_mul_of_dvd (byv_dvd_b t b)
theorem low_lw (t : Int) {b : Int} (hb : b ≠ 0) : Lw (low t b).1 (low t b).2 := by
  have e1 := low_t (t := t) (b := b)
  have e2 := low_b (t := t) (b := b)
  have hg := gcd_pos (t := t) hb
  refine ⟨?_, ?_⟩
  · unfold byv sg at e2
    by_cases h : 0 < b
    · rw [if_pos h, Int.mul_one] at e2
      have : 0 < (low t b).2 * (Int.gcd t b : Int) := by rw [e2]; exact h
      exact Int.pos_of_mul_pos_left this (by omega) |> fun z => z
    · rw [if_neg h, Int.mul_neg, Int.mul_one, Int.mul_neg] at e2
      have : 0 < (low t b).2 * (Int.gcd t b : Int) := by omega
      exact Int.pos_of_mul_pos_left this (by omega)
  · have e : Int.gcd ((low t b).1 * byv t b) ((low t b).2 * byv t b) = Int.gcd t b := by rw [e1, e2]
    rw [Int.gcd_mul_right, byv_natAbs] at e
    exact Nat.eq_of_mul_eq_mul_right hg (by rw [e, Nat.one_mul])
theorem byv_lw {n d : Int} (h : Lw n d) : byv n d = 1 := by
  unfold byv sg
  rw [h.cop, if_pos h.pos]
  rfl
theorem low_id {n d : Int} (h : Lw n d) : low n d = (n, d) := by
  unfold low
  rw [byv_lw h, Int.fdiv_one, Int.fdiv_one]
theorem lw_int (n : Int) : Lw n 1 := ⟨by omega, by simp⟩
theorem low_int (n : Int) : low n 1 = (n, 1) := low_id (lw_int n)
theorem lw_neg {n d : Int} (h : Lw n d) : Lw (-n) d := ⟨h.pos, by rw [Int.neg_gcd]; exact h.cop⟩
theorem low_neg {n d : Int} (h : Lw n d) : low (-n) d = (-n, d) := low_id (lw_neg h)
theorem natAbs_le_mul {a g : Int} (hg : g ≠ 0) : a.natAbs ≤ (a * g).natAbs := by
  rw [Int.natAbs_mul]
  exact Nat.le_mul_of_pos_right _ (by omega)
theorem low_le1 (t : Int) {b : Int} (hb : b ≠ 0) : (low t b).1.natAbs ≤ t.natAbs := by
  have := natAbs_le_mul (a := (low t b).1) (byv_ne (t := t) hb)
  rw [low_t] at this
  exact this
theorem low_le2 (t : Int) {b : Int} (hb : b ≠ 0) : (low t b).2.natAbs ≤ b.natAbs := by
  have := natAbs_le_mul (a := (low t b).2) (byv_ne (t := t) hb)
  rw [low_b] at this
  exact this

/-! sums, differences, products of fractions -/
def plus (a b : Int × Int) : Int × Int := low (a.1 * b.2 + b.1 * a.2) (a.2 * b.2)
def minus (a b : Int × Int) : Int × Int := low (a.1 * b.2 - b.1 * a.2) (a.2 * b.2)
def times (a b : Int × Int) : Int × Int := low (a.1 * b.1) (a.2 * b.2)
def over (a b : Int × Int) : Int × Int := low (a.1 * b.2) (a.2 * b.1)

/-- below 2 ^ k -/
def Bd (k : Nat) (x : Int) : Prop := x.natAbs < 2 ^ k
theorem Bd.mono {j k : Nat} {x : Int} (h : Bd j x) (l : j ≤ k) : Bd k x := Nat.lt_of_lt_of_le h (Nat.pow_le_pow_right (by decide) l)
theorem Bd.neg {k : Nat} {x : Int} (h : Bd k x) : Bd k (-x) := by unfold Bd at *; rw [Int.natAbs_neg]; exact h
theorem Bd.mul {j k : Nat} {x y : Int} (h : Bd j x) (h' : Bd k y) : Bd (j + k) (x * y) := by
  unfold Bd at *
  rw [Int.natAbs_mul, Nat.pow_add]
  exact Nat.mul_lt_mul'' h h'
theorem Bd.add {k : Nat} {x y : Int} (h : Bd k x) (h' : Bd k y) : Bd (k + 1) (x + y) := by
  unfold Bd at *
  have := Int.natAbs_add_le x y
  rw [Nat.pow_succ]
  omega
theorem Bd.sub {k : Nat} {x y : Int} (h : Bd k x) (h' : Bd k y) : Bd (k + 1) (x - y) := by
  rw [Int.sub_eq_add_neg]
  exact h.add h'.neg
theorem Bd.le {k : Nat} {x y : Int} (h : Bd k y) (l : x.natAbs ≤ y.natAbs) : Bd k x := Nat.lt_of_le_of_lt l h
theorem Bd.log2 {k : Nat} {x : Int} (h : Bd k x) (hk : 0 < k) : x.natAbs.log2 < k := by
  unfold Bd at h
  by_cases h0 : x.natAbs = 0
  · rw [h0]; simpa using hk
  · exact (Nat.log2_lt h0).mpr h
theorem bd_low1 {k : Nat} {t b : Int} (hb : b ≠ 0) (h : Bd k t) : Bd k (low t b).1 := h.le (low_le1 t hb)
theorem bd_low2 {k : Nat} {t b : Int} (hb : b ≠ 0) (h : Bd k b) : Bd k (low t b).2 := h.le (low_le2 t hb)
theorem mul_ne {a b : Int} (ha : 0 < a) (hb : 0 < b) : a * b ≠ 0 := Int.ne_of_gt (Int.mul_pos ha hb)
theorem bd_one {k : Nat} (h : 0 < k) : Bd k 1 := by
  unfold Bd
  exact Nat.one_lt_two_pow (by omega)
theorem bd_zero {k : Nat} : Bd k 0 := by
  unfold Bd
  exact Nat.pow_pos (by decide)
end Rm
/-! Displays of many things of a kind O, read while I holds. -/
namespace Ow
open PySem PySem.Spec PyProof.Rows L2
def OdE (O : Hp → V → Prop) (I : Hp → Prop) (σ : L2.St) (te : TE) : Prop := ∀ (H : Hp) (Q : VK), I H → (∀ v H', O H' v → Same H H' → Q v H') → te σ H Q
def OdA (O : Hp → V → Prop) (I : Hp → Prop) (σ : L2.St) (t : TA) (n : Nat) : Prop := ∀ (H : Hp) (Q : List V → Hp → Prop), I H → (∀ vs H', vs.length = n → (∀ v ∈ vs, O H' v) → Same H H' → Q vs H') → t σ H Q
def StV (O : Hp → V → Prop) : Prop := ∀ H H' v, O H v → Same H H' → O H' v
def StI (I : Hp → Prop) : Prop := ∀ H H', I H → Same H H' → I H'
theorem sm_upd {H : Hp} {p : Addr} {o : HO} (h : H p = none) : Same H (upd H p o) := fun b u e => by
  rw [upd_ne (ne_of_none e h)]
  exact e
theorem tyof_same {K : PySem.W.Frag} {H H' : Hp} {x : V} {t : Value} (s : Same H H') (h : TyOf K H x t) : TyOf K H' x t := by
  cases h with
  | non => exact .non
  | bl b => exact .bl b
  | int i => exact .int i
  | str z => exact .str z
  | flt z => exact .flt z
  | lst e => exact .lst (s _ _ e)
  | frz e => exact .frz (s _ _ e)
  | tup e => exact .tup (s _ _ e)
  | dK e => exact .dK (s _ _ e)
  | dT e => exact .dT (s _ _ e)
  | ins e a b c d g => exact .ins (s _ _ e) a b c d g
theorem ty_ext {K : PySem.W.Frag} {H H' : Hp} {x : V} {t : Value} (s : Same H H') (h : TyX K H x t) : TyX K H' x t := by
  cases h with
  | base b => exact .base (tyof_same s b)
  | byt b => exact .byt b
  | set e => exact .set (s _ _ e)
  | kList e c => exact .kList e c
  | kTuple e c => exact .kTuple e c
  | kDict e c => exact .kDict e c
  | fTuple e => exact .fTuple (s _ _ e)
  | fDict e => exact .fDict (s _ _ e)
section
variable {O : Hp → V → Prop} {I : Hp → Prop} {σ : L2.St} {te : TE} {t : TA} {n : Nat}
theorem od_nil : OdA O I σ tNil 0 := fun H Q _ h => h [] H rfl (fun v hv => absurd hv List.not_mem_nil) (Same.refl H)
theorem od_cons (hO : StV O) (hI : StI I) (a : OdE O I σ te) (b : OdA O I σ t n) : OdA O I σ (tCons te t) (n + 1) := fun H Q i h => a H _ i fun v H1 h1 s1 => b H1 _ (hI _ _ i s1) fun vs H2 hl h2 s2 =>
  h (v :: vs) H2 (by rw [List.length_cons, hl]) (fun y hy => by
    rcases List.mem_cons.mp hy with e | e
    · rw [e]; exact hO _ _ _ h1 s2
    · exact h2 y e) (s1.trans s2)
/-- what is told by a constant -/
theorem od_c {v : V} (h : ∀ H, I H → O H v) : OdE O I σ (tC v) := fun H Q i k => k v H (h H i) (Same.refl H)
theorem od_var {i : Nat} {v : V} (e : σ[i]? = some (some v)) (h : ∀ H, I H → O H v) : OdE O I σ (tVar i) := fun H Q j k => ⟨v, e, k v H (h H j) (Same.refl H)⟩
/-- a list, a tuple of what leaves all else as it was -/
def QuA (I : Hp → Prop) (σ : L2.St) (t : TA) : Prop := ∀ (H : Hp) (Q : List V → Hp → Prop), I H → (∀ vs H', vs.length ≤ 9 → Same H H' → Q vs H') → t σ H Q
theorem qu_nil : QuA I σ tNil := fun H Q _ h => h [] H (by decide) (Same.refl H)
theorem qu_c (v : V) : QuA I σ (tCons (tC v) tNil) := fun H Q _ h => h [v] H (by show 1 ≤ 9; decide) (Same.refl H)
theorem qu_c2 (v w : V) : QuA I σ (tCons (tC v) (tCons (tC w) tNil)) := fun H Q _ h => h [v, w] H (by show 2 ≤ 9; decide) (Same.refl H)
theorem qu_v {i : Nat} {v : V} (e : σ[i]? = some (some v)) : QuA I σ (tCons (tVar i) tNil) := fun H Q _ h => ⟨v, e, h [v] H (by show 1 ≤ 9; decide) (Same.refl H)⟩
theorem od_lst (q : QuA I σ t) (h : ∀ (H : Hp) (p : Addr) (xs : List V), H p = some (.lst xs) → O H (.ref p)) : OdE O I σ (tLst t) := fun H Q i k => q H _ i fun vs H1 hl s1 => ⟨Nat.le_trans hl (by decide), fun p hp => k _ _ (h _ p vs upd_same) (s1.trans (sm_upd hp))⟩
theorem od_tup (q : QuA I σ t) (h : ∀ (H : Hp) (p : Addr) (xs : List V), H p = some (.tup xs) → O H (.ref p)) : OdE O I σ (tTup t) := fun H Q i k => q H _ i fun vs H1 hl s1 => ⟨Nat.le_trans hl (by decide), fun p hp => k _ _ (h _ p vs upd_same) (s1.trans (sm_upd hp))⟩
theorem od_dict (h : ∀ (H : Hp) (p : Addr) (kvs : List (Key × V)), H p = some (.dK kvs) → O H (.ref p)) : OdE O I σ tDNewK := fun H Q i k p hp => k _ _ (h _ p [] upd_same) (sm_upd hp)
theorem od_disp (z : Key) {tk : TE} {v : V} (hk : ∀ (H : Hp) (Q : VK), Q (kV z) H → tk σ H Q) (h : ∀ (H : Hp) (p : Addr) (kvs : List (Key × V)), H p = some (.dK kvs) → O H (.ref p)) : OdE O I σ (tDisp [(tk, tC v)]) := fun H Q i k p hp =>
  hk _ _ ⟨upd_same, [(z, v)], by cases z <;> rfl, (by show 1 ≤ 15; decide), k _ _ (h _ p _ upd_same) (by rw [upd_upd]; exact sm_upd hp)⟩
theorem od_seq {g : TG} {b : TS} {D : Ends} {H : Hp} (hn : n ≤ 100) (i : I H) (o : OdA O I σ t n)
    (h : ∀ vs H1 l, vs.length = n → (∀ v ∈ vs, O H1 v) → Same H H1 → H1 l = none → g (.ref l) σ (upd H1 l (.lst vs)) fun σ2 H2 => b D σ2 H2) : tSeq (tAsg (tLst t) g) b D σ H :=
  o H _ i fun vs H1 hl ho s => ⟨Nat.le_trans (Nat.le_of_eq hl) (Nat.le_trans hn (by decide)), fun l hp => h vs H1 l hl ho s hp⟩
end
end Ow
/-! Comprehensions: each turn leaves the heap related, and an item that says El. -/
namespace Ow
open PySem PySem.Spec PyProof.Rows L2
/-- len of a list, a tuple -/
def rLenS (K : PySem.W.Frag) : List V → Hp → VK → Prop := fun xs H Q => ∃ (p : Addr) (ys : List V), xs = [V.ref p] ∧ (SqL K H p ys ∨ SqT K H p ys) ∧ Q (.int ys.length) H
structure RelD (Rl : Hp → Hp → Prop) (H1 : Hp) (D : Addr) : Prop where
  tr : ∀ {a b c : Hp}, Rl a b → Rl b c → Rl a c
  ats : ∀ {a b : Hp} {l : List V}, Rl a b → a D = some (.lst l) → b D = some (.lst l)
  up : ∀ {b : Hp} {l l' : List V}, Rl H1 b → b D = some (.lst l) → Rl H1 (upd b D (.lst l'))
  st : Rl H1 (upd H1 D (.lst []))
theorem same_at {H1 H : Hp} {D : Addr} {o : HO} (s : Same H1 H) (hD : H1 D = none) : Same H1 (upd H D o) := fun b u e => by
  rw [upd_ne (ne_of_none e hD)]
  exact s _ _ e
theorem rel_same {H1 : Hp} {D : Addr} (hD : H1 D = none) : RelD Same H1 D := ⟨fun a b => a.trans b, fun s e => s _ _ e, fun s _ => same_at s hD, same_at (Same.refl H1) hD⟩
section
variable {J : It} {n : Nat} {G : Hp → Prop} {Y : Nat → Hp → V → Hp → Prop} {g : TG} {te : TE} {vs : List Nat} {σ : L2.St} {H1 : Hp} {D : Addr} {Qd : Hp → Prop} {Rl : Hp → Hp → Prop}
theorem lc_el (w : Walk J n G Y) (rd : RelD Rl H1 D) (hn : n ≤ 100000) (El : Nat → V → Hp → Prop) (hE1 : ∀ j v H H', Rl H H' → El j v H → El j v H') (hE2 : ∀ j v H l l', H D = some (.lst l) → El j v H → El j v (upd H D (.lst l')))
    (hG : ∀ H, Rl H1 H → G H)
    (hs : ∀ i x H H', i < n → Rl H1 H → (∃ acc, H D = some (.lst acc) ∧ acc.length = i ∧ ∀ (j : Nat) v, acc[j]? = some v → El j v H) → Y i H x H' → ∀ R : VK, (∀ y H4, Rl H H4 → El i y H4 → R y H4) → g x (wipe σ vs) H' fun σ2 H2 => wipe σ2 vs = wipe σ vs ∧ te σ2 H2 R)
    (hd : ∀ H acc, Rl H1 H → H D = some (.lst acc) → acc.length = n → (∀ (j : Nat) v, acc[j]? = some v → El j v H) → Qd H) :
    ∃ W : Nat → Nat → Hp → Prop, (∃ m, W 0 m (upd H1 D (.lst []))) ∧ ∀ i m H, W i m H →
      (J.stop i H ∧ Qd H) ∨ (J.go i H ∧ ∃ Nx : Hp → Prop, (∀ H', Nx H' → ∃ m', m' < m ∧ W (i + 1) m' H') ∧ ∀ x H', J.yld i H x H' → g x (wipe σ vs) H' fun σ2 H2 => wipe σ2 vs = wipe σ vs ∧ tYes σ2 H2 fun b H3 =>
        if b = true then te σ2 H3 fun y H4 => ∃ acc, H4 D = some (.lst acc) ∧ acc.length < sizeLine ∧ Nx (upd H4 D (.lst (acc ++ [y]))) else Nx H3) := by
  refine lc_it w (fun i H => Rl H1 H ∧ ∃ acc, H D = some (.lst acc) ∧ acc.length = i ∧ ∀ (j : Nat) v, acc[j]? = some v → El j v H) ⟨rd.st, [], upd_same, rfl, fun j v e => by simp at e⟩ (fun i H _ h => hG H h.1) ?_ ?_
  · intro i x H H' hi h y
    obtain ⟨r1, acc, ha, hl, he⟩ := id h
    have := hs i x H H' hi r1 h.2 y (fun y H4 => ∃ acc, H4 D = some (.lst acc) ∧ acc.length < sizeLine ∧ (Rl H1 (upd H4 D (.lst (acc ++ [y]))) ∧ ∃ acc2, (upd H4 D (.lst (acc ++ [y]))) D = some (.lst acc2) ∧ acc2.length = i + 1 ∧ ∀ (j : Nat) v, acc2[j]? = some v → El j v (upd H4 D (.lst (acc ++ [y])))))
      (fun y H4 r4 e4 => ⟨acc, rd.ats r4 ha, Nat.lt_of_le_of_lt (show acc.length ≤ 100000 by omega) (by decide), rd.up (rd.tr r1 r4) (rd.ats r4 ha), acc ++ [y], upd_same, by rw [List.length_append, hl]; rfl, fun j v ev => by
        rcases Nat.lt_or_ge j acc.length with c | c
        · rw [List.getElem?_append_left c] at ev
          exact hE2 _ _ _ _ _ (rd.ats r4 ha) (hE1 _ _ _ _ r4 (he j v ev))
        · rw [List.getElem?_append_right c] at ev
          have : j - acc.length = 0 := by
            rcases Nat.eq_zero_or_pos (j - acc.length) with z | z
            · exact z
            · rw [List.getElem?_eq_none (by simp; omega)] at ev
              exact nomatch ev
          rw [this] at ev
          have ej : j = i := by omega
          cases ev
          rw [ej]
          exact hE2 _ _ _ _ _ (rd.ats r4 ha) e4⟩)
    exact this
  · rintro H ⟨r, acc, ha, hl, he⟩
    exact hd H acc r ha hl he
/-- the items known ahead -/
theorem lc_vals (w : Walk J n G Y) (rd : RelD Rl H1 D) (vals : List V) (hn : vals.length = n) (hz : n ≤ 100000) (hG : ∀ H, Rl H1 H → G H)
    (hs : ∀ i x H H' v, i < n → vals[i]? = some v → Rl H1 H → (∃ acc, H D = some (.lst acc)) → Y i H x H' → ∀ R : VK, (∀ H4, Rl H H4 → R v H4) → g x (wipe σ vs) H' fun σ2 H2 => wipe σ2 vs = wipe σ vs ∧ te σ2 H2 R)
    (hd : ∀ H, Rl H1 H → H D = some (.lst vals) → Qd H) :
    ∃ W : Nat → Nat → Hp → Prop, (∃ m, W 0 m (upd H1 D (.lst []))) ∧ ∀ i m H, W i m H →
      (J.stop i H ∧ Qd H) ∨ (J.go i H ∧ ∃ Nx : Hp → Prop, (∀ H', Nx H' → ∃ m', m' < m ∧ W (i + 1) m' H') ∧ ∀ x H', J.yld i H x H' → g x (wipe σ vs) H' fun σ2 H2 => wipe σ2 vs = wipe σ vs ∧ tYes σ2 H2 fun b H3 =>
        if b = true then te σ2 H3 fun y H4 => ∃ acc, H4 D = some (.lst acc) ∧ acc.length < sizeLine ∧ Nx (upd H4 D (.lst (acc ++ [y]))) else Nx H3) := by
  refine lc_el w rd hz (fun j v _ => vals[j]? = some v) (fun _ _ _ _ _ e => e) (fun _ _ _ _ _ _ e => e) hG (fun i x H H' hi r ha y R k => ?_) (fun H acc r ha hl he => hd H r ?_)
  · obtain ⟨acc, ha, _⟩ := ha
    have hv : vals[i]? = some vals[i] := List.getElem?_eq_getElem (by omega)
    exact hs i x H H' _ hi hv r ⟨acc, ha⟩ y R fun H4 r4 => k _ H4 r4 hv
  · rw [ha]
    have : acc = vals := by
      apply List.ext_getElem?
      intro j
      rcases Nat.lt_or_ge j n with c | c
      · rw [List.getElem?_eq_getElem (show j < acc.length by omega)]
        exact (he j _ (List.getElem?_eq_getElem (by omega))).symm
      · rw [List.getElem?_eq_none (by omega), List.getElem?_eq_none (by omega)]
    rw [this]
/-- those of the first i that are kept -/
def kept (keep : Nat → Bool) (vals : List V) (i : Nat) : List V := ((List.range i).filter keep).filterMap fun j => vals[j]?
theorem kept_succ (keep : Nat → Bool) (vals : List V) (i : Nat) (v : V) (h : vals[i]? = some v) : kept keep vals (i + 1) = if keep i = true then kept keep vals i ++ [v] else kept keep vals i := by
  unfold kept
  rw [List.range_succ, List.filter_append, List.filterMap_append]
  by_cases c : keep i = true
  · rw [if_pos c, List.filter_cons_of_pos c, List.filter_nil]
    simp [h]
  · rw [if_neg c, List.filter_cons_of_neg c, List.filter_nil]
    simp
theorem kept_len (keep : Nat → Bool) (vals : List V) (i : Nat) (h : i ≤ vals.length) : (kept keep vals i).length = ((List.range i).filter keep).length := by
  induction i with
  | zero => rfl
  | succ i ih =>
    rw [kept_succ keep vals i vals[i] (List.getElem?_eq_getElem (by omega)), List.range_succ, List.filter_append]
    by_cases c : keep i = true
    · rw [if_pos c, List.filter_cons_of_pos c, List.filter_nil, List.length_append, List.length_append, ih (by omega)]
      rfl
    · rw [if_neg c, List.filter_cons_of_neg c, List.filter_nil, List.append_nil, ih (by omega)]
theorem kept_le (keep : Nat → Bool) (vals : List V) (i : Nat) (h : i ≤ vals.length) : (kept keep vals i).length ≤ i := by
  rw [kept_len keep vals i h]
  exact Nat.le_trans (List.length_filter_le ..) (by simp)
/-- with a test: those of the walked that are kept -/
theorem lc_filter {tt : TT} (w : Walk J n G Y) (rd : RelD Rl H1 D) (vals : List V) (keep : Nat → Bool) (hn : vals.length = n) (hz : n ≤ 100000) (hG : ∀ H, Rl H1 H → G H)
    (hs : ∀ i x H H' v, i < n → vals[i]? = some v → Rl H1 H → (∃ acc, H D = some (.lst acc)) → Y i H x H' → ∀ (RR : VK) (SS : Hp → Prop), (keep i = true → ∀ H4, Rl H H4 → RR v H4) → (keep i = false → ∀ H4, Rl H H4 → SS H4) →
      g x (wipe σ vs) H' fun σ2 H2 => wipe σ2 vs = wipe σ vs ∧ tt σ2 H2 fun b H3 => if b = true then te σ2 H3 RR else SS H3)
    (hd : ∀ H, Rl H1 H → H D = some (.lst (kept keep vals n)) → Qd H) :
    ∃ W : Nat → Nat → Hp → Prop, (∃ m, W 0 m (upd H1 D (.lst []))) ∧ ∀ i m H, W i m H →
      (J.stop i H ∧ Qd H) ∨ (J.go i H ∧ ∃ Nx : Hp → Prop, (∀ H', Nx H' → ∃ m', m' < m ∧ W (i + 1) m' H') ∧ ∀ x H', J.yld i H x H' → g x (wipe σ vs) H' fun σ2 H2 => wipe σ2 vs = wipe σ vs ∧ tt σ2 H2 fun b H3 =>
        if b = true then te σ2 H3 fun y H4 => ∃ acc, H4 D = some (.lst acc) ∧ acc.length < sizeLine ∧ Nx (upd H4 D (.lst (acc ++ [y]))) else Nx H3) := by
  refine lc_it w (fun i H => Rl H1 H ∧ H D = some (.lst (kept keep vals i)) ∧ i ≤ n) ⟨rd.st, upd_same, Nat.zero_le _⟩ (fun i H _ h => hG H h.1) ?_ ?_
  · rintro i x H H' hi ⟨r1, ha, _⟩ y
    have hv : vals[i]? = some vals[i] := List.getElem?_eq_getElem (by omega)
    have ks := kept_succ keep vals i _ hv
    refine hs i x H H' _ hi hv r1 ⟨_, ha⟩ y _ _ (fun c H4 r4 => ?_) (fun c H4 r4 => ?_)
    · rw [if_pos c] at ks
      refine ⟨_, rd.ats r4 ha, Nat.lt_of_le_of_lt (show _ ≤ 100000 from Nat.le_trans (kept_le keep vals i (by omega)) (by omega)) (by decide), rd.up (rd.tr r1 r4) (rd.ats r4 ha), ?_, hi⟩
      rw [upd_same, ks]
    · rw [if_neg (by rw [c]; exact Bool.false_ne_true)] at ks
      refine ⟨rd.tr r1 r4, ?_, hi⟩
      rw [ks]
      exact rd.ats r4 ha
  · rintro H ⟨r, ha, _⟩
    exact hd H r ha
end
end Ow
/-! What a text's top leaves behind, as tests of the written part of the heap. -/
namespace Hd
open PySem PySem.Spec PyProof.Rows L2 Ow
abbrev Fr := PySem.W.Frag
abbrev Ask := Fr → Bool
/-- the tests' answers, what stands at each def -/
def look (cs : List Ask) (ds : List He5.DefA) (K : Fr) : He.AlD := (cs.all (fun c => c K) && ds.all (fun d => d.ok K), ds.map (fun d => He5.fnA K (d.at_ K)))
def good (ds : List He5.DefA) : He.AlD := (true, ds.map (fun d => d.val))
def Says (cs : List Ask) (ds : List He5.DefA) (K : Fr) : Prop := look cs ds K = good ds
def lookG (n : Nat) (cs : List Ask) (ds : List He5.DefA) (g : Addr → Option Obj) : He.AlD := look cs ds (He.frG g (He5.asA g n))
def hkOf (n : Nat) (cs : List Ask) (ds : List He5.DefA) : PySem.W.Hook :=
  { α := He.AlD, obs := fun s => lookG n cs ds s.heap.get?, val := fun _ => good ds, says := fun _ h => ∃ K : Fr, K.In h ∧ Says cs ds K,
    of := fun _ _ e => ⟨_, He.frG_in, e⟩, keeps := fun _ _ _ z k => z.elim fun K c => ⟨K, PySem.W.Frag.In.keeps c.1 k, c.2⟩ }
theorem lookG_eq {n : Nat} {cs : List Ask} {ds : List He5.DefA} {g : Addr → Option Obj} {s : Shared} (h : ∀ a, g a = s.heap.get? a) : lookG n cs ds g = (hkOf n cs ds).obs s := by
  rw [show g = s.heap.get? from funext h]
  rfl
theorem Says.ask {cs : List Ask} {ds : List He5.DefA} {K : Fr} (c : Says cs ds K) (i : Nat) {a : Ask} (h : cs[i]? = some a := by rfl) : a K = true := by
  have c1 := congrArg Prod.fst c
  exact List.all_eq_true.mp (He.ba c1).1 a (List.mem_of_getElem? h)
theorem Says.dfn {cs : List Ask} {ds : List He5.DefA} {K : Fr} (c : Says cs ds K) (i : Nat) {d : He5.DefA} (h : ds[i]? = some d := by rfl) : ∃ fd, FunD K d.name d.qual d.params d.body d.scope (d.dvs K) (d.kws K) (d.at_ K) fd := by
  have c1 := List.all_eq_true.mp (He.ba (congrArg Prod.fst c)).2 d (List.mem_of_getElem? h)
  have c2 : (ds.map (fun d => He5.fnA K (d.at_ K)))[i]? = (ds.map (fun d => d.val))[i]? := congrArg (fun z : He.AlD => z.2[i]?) c
  rw [List.getElem?_map, List.getElem?_map, h] at c2
  exact He5.DefA.funD (Option.some.inj c2) c1
/-! ### where things are -/
def pac (cl x : Str) (K : Fr) : Addr := He.ma K (He.ga K cl) x
def getac (cl x : Str) (K : Fr) : Addr := match PySem.W.recIn K (pac cl x K) "property" with
  | some (.ref g :: _) => g
  | _ => 0
def aGlo (x : Str) : Ask := fun K => (He.Fa.glo x).ok K
def aFree (x : Str) : Ask := fun K => (He.Fa.free x).ok K
def aBlt (x : Str) (id : String) : Ask := fun K => He.eqO (PySem.W.nsIn K mainGlobals x) (some (some (.builtin id)))
def vc (cl : Str) : Fr → Value := fun K => .ref (He.ga K cl)
def vb (n : String) : Fr → Value := fun _ => .type n
def aSelf (cl : Str) : Ask := fun K => PySem.W.selfFirst K (He.ga K cl)
def aSub (s t : Fr → Value) (b : Bool) : Ask := fun K => decide (PySem.W.subIn K (s K) (t K) = some b)
def aKit (s t : Fr → Value) (b : Bool) : Ask := fun K => decide (PySem.W.kitOne K (s K) (t K) = some b)
def aNF (cl : Str) (t : Fr → Value) : Ask := fun K => PySem.W.notFirst K (He.ga K cl) (t K)
def aFindB (cl x : Str) (id : String) : Ask := fun K => He.eqO (PySem.W.findIn K (.ref (He.ga K cl)) x) (some (some (.builtin id)))
def aObjG : Ask := fun K => He.eqO (PySem.W.specialIn K (.builtin "object.__class__") "__get__") (some (some (.builtin "getset_descriptor.__get__")))
def aObjT : Ask := fun K => decide (PySem.W.takesIn K (.builtin "object.__class__") = some true)
def aMro (cl : Str) : Ask := fun K => decide (PySem.W.mroIn K (He.ga K cl) (.type "object") = some true)
def aPrp (cl x : Str) : Ask := fun K => He.eqO (PySem.W.findIn K (.ref (He.ga K cl)) x) (some (some (.ref (pac cl x K)))) && (He.eqO (PySem.W.specialIn K (.ref (pac cl x K)) "__get__") (some (some (.builtin "property.__get__"))) &&
  (decide (PySem.W.takesIn K (.ref (pac cl x K)) = some true) && (match PySem.W.recIn K (pac cl x K) "property" with
    | some (.ref _ :: _) => true
    | _ => false)))
def aOp (cl x : Str) : Ask := fun K => He.eqO (PySem.W.findIn K (.ref (He.ga K cl)) x) (some (some (.ref (pac cl x K)))) && PySem.W.isFn K (.ref (pac cl x K))
def aIntS (x : Str) : Ask := fun K => (PySem.W.findIn K (.type "int") x).isSome
def aCls (cl : Str) : Ask := fun K => (He.Fa.cls cl).ok K
def aNoat (cl x : Str) : Ask := fun K => (He.Fa.noat cl x).ok K
def aMkr (cl : Str) : Ask := fun K => (He.Fa.mkr cl).ok K
def aMeth (cl x : Str) : Ask := fun K => (He.Fa.meth cl x).ok K
def aStr (x v : Str) : Ask := fun K => (He.Fa.str x v).ok K
def aInt (x : Str) (v : Int) : Ask := fun K => (He.Fa.int x v).ok K
section
variable {K : Fr}
theorem sub_of {s t : Fr → Value} {b : Bool} (h : aSub s t b K = true) : PySem.W.subIn K (s K) (t K) = some b := of_decide_eq_true h
theorem kit_of' {s t : Fr → Value} {b : Bool} (h : aKit s t b K = true) : PySem.W.kitOne K (s K) (t K) = some b := of_decide_eq_true h
theorem mro_of {cl : Str} (h : aMro cl K = true) : PySem.W.mroIn K (He.ga K cl) (.type "object") = some true := of_decide_eq_true h
theorem num_of {cl : Str} (a : aSelf cl K = true) (b : aSub (vb "int") (vc cl) false K = true) (c : aSub (vc cl) (vb "int") false K = true) : Num K (He.ga K cl) := ⟨a, sub_of b, sub_of c⟩
theorem prp_of {cl x : Str} (c : aPrp cl x K = true) : PropOf K (He.ga K cl) x (pac cl x K) (getac cl x K) := by
  obtain ⟨h1, h⟩ := He.ba c
  obtain ⟨h2, h⟩ := He.ba h
  obtain ⟨h3, h4⟩ := He.ba h
  refine ⟨He.eqO_ok h1, He.eqO_ok h2, of_decide_eq_true h3, ?_⟩
  unfold getac
  split at h4
  · rename_i g r e
    exact ⟨r, by rw [e]⟩
  · exact nomatch h4
theorem op_of {cl x : Str} (c : aOp cl x K = true) : OpOf K (He.ga K cl) x (pac cl x K) := ⟨He.eqO_ok (He.ba c).1, (He.ba c).2⟩
theorem int_of {x : Str} (c : aIntS x K = true) : ∃ v, PySem.W.findIn K (.type "int") x = some v := Option.isSome_iff_exists.mp c
end
theorem kb_plain {K : PySem.W.Frag} {x qual : Str} {pa : Arguments} {bd : List Stmt} {sc : Scope} {kws : List (Str × V)} {f : Addr} {fd : FuncData} {ps : List Str} (F : FunD K x qual pa bd sc [] kws f fd) (n : Nat) (ks : List Str)
    (h : ∀ (kV doc pm : Value) (an : Option Addr) (cdv ct : Value) (us ws : List Value), us.length = n → ws.length = ks.length → bindArgs (PySem.W.fnOf x qual pa bd sc .none kV doc pm an cdv ct) ⟨us, ks.zip ws⟩ = pure (ps.zip (us ++ ws))) :
    KBn K fd ps n ks (fun us ws => us ++ ws) (fun vs zs => vs ++ zs) := by
  obtain ⟨oc, od, dV, kV, doc, pm, an, cdv, ct, osl, rfl, lk, hcd, hD, hK⟩ := F.ex
  rcases hD with ⟨_, rfl⟩ | ⟨e, _⟩
  · exact ⟨fun s us ws _ l1 l2 => .of_eq (h kV doc pm an cdv ct us ws l1 l2), fun a b => a.append b⟩
  · exact absurd rfl e
/-- Ratio(bottom=.., top=..): the parameters' order -/
def mix {α : Type} (us its ws : List α) : List α := match us, ws with
  | [a], [b, c] => [a, c, b]
  | _, _ => []
theorem mix_ok {vs ds zs : List V} {us its ws : List Value} (h1 : Vals vs us) (h2 : Vals ds its) (h3 : Vals zs ws) : Vals (mix vs ds zs) (mix us its ws) := by
  cases h1 with
  | nil => exact .nil
  | cons a r1 => cases r1 with
    | cons _ _ => exact .nil
    | nil => cases h3 with
      | nil => exact .nil
      | cons b r3 => cases r3 with
        | nil => exact .nil
        | cons c r4 => cases r4 with
          | cons _ _ => exact .nil
          | nil => exact .cons a (.cons c (.cons b .nil))
end Hd
namespace Ra
open PySem PySem.Spec PyProof.Rows L2 Ow

/-! ### the text by places -/
def top (i : Nat) : Stmt := PySem.Challenge.pw_anypoints_k12_ratios_compared.main.body.getD i (.Pass ⟨0, 0, 0, 0⟩)
abbrev sIsInt : Stmt := top 11
abbrev sAsRatio : Stmt := top 13
abbrev sInit : Stmt := inClass (top 14) 0
abbrev sTop : Stmt := inClass (top 14) 1
abbrev sBottom : Stmt := inClass (top 14) 2
abbrev sSign : Stmt := inClass (top 14) 3
abbrev sTotal : Stmt := inClass (top 14) 4
abbrev sAdd : Stmt := inClass (top 14) 5
abbrev sRadd : Stmt := inClass (top 14) 6
abbrev sSub : Stmt := inClass (top 14) 7
abbrev sRsub : Stmt := inClass (top 14) 8
abbrev sMul : Stmt := inClass (top 14) 9
abbrev sRmul : Stmt := inClass (top 14) 10
abbrev sNeg : Stmt := inClass (top 14) 11
abbrev sOver : Stmt := inClass (top 14) 12
abbrev sBelow : Stmt := inClass (top 14) 13
abbrev sEq : Stmt := inClass (top 14) 14
abbrev sStr : Stmt := inClass (top 14) 15
abbrev sRepr : Stmt := inClass (top 14) 16
abbrev FnP (K : PySem.W.Frag) (x qual : Str) (st : Stmt) (dvs : List V) (f : Addr) (fd : FuncData) : Prop := FunD K x qual (defArgs st) (defBody st) (defScope st) dvs [] f fd

/-! ### what a ratio looks like -/
theorem bt_ : ¬ (("_bottom" : Str) = "_top") := by decide +kernel
theorem tb_ : ¬ (("_top" : Str) = "_bottom") := by decide +kernel
def rf (n d : Int) : List (Str × V) := putF "_bottom" (.int d) (putF "_top" (.int n) [])
theorem rf_top (n d : Int) : (rf n d).lookup ("_top" : Str) = some (.int n) := by
  unfold rf; rw [lookup_putF, if_neg tb_, lookup_putF, if_pos rfl]
theorem rf_bottom (n d : Int) : (rf n d).lookup ("_bottom" : Str) = some (.int d) := by
  unfold rf; rw [lookup_putF, if_pos rfl]
theorem rf_no (n d : Int) {m : Str} (h1 : ¬ m = "_bottom") (h2 : ¬ m = "_top") : (rf n d).lookup m = none := by
  unfold rf; rw [lookup_putF, if_neg h1, lookup_putF, if_neg h2]; rfl
def RatAt (C : Addr) (H : Hp) (p : Addr) (n d : Int) : Prop := ∃ dx, H p = some (.ins C dx (rf n d))
theorem RatAt.same {C : Addr} {H H' : Hp} {p : Addr} {n d : Int} (h : RatAt C H p n d) (s : Same H H') : RatAt C H' p n d := by
  obtain ⟨dx, e⟩ := h
  exact ⟨dx, s _ _ e⟩

/-! ### what the walk asks of the class -/
structure RT (K : PySem.W.Frag) (mg : Str → Option Value) (C : Addr) : Prop where
  cl : Cls K C
  nT : NoAttr K C "_top"
  nB : NoAttr K C "_bottom"
  mgC : mg "Ratio" = some (.ref C)
  num : Num K C
  ca : PySem.W.findIn K (.ref C) "__class__" = some (some (.builtin "object.__class__"))
  cg : PySem.W.specialIn K (.builtin "object.__class__") "__get__" = some (some (.builtin "getset_descriptor.__get__"))
  ct : PySem.W.takesIn K (.builtin "object.__class__") = some true
  cm : PySem.W.mroIn K C (.type "object") = some true
  kCC : PySem.W.kitOne K (.ref C) (.ref C) = some true
  kIC : PySem.W.kitOne K (.type "int") (.ref C) = some false
  isi : mg "isinstance" = none
  int : mg "int" = none
  bool : mg "bool" = none
  str : mg "str" = none
  gcd : mg "gcd" = some (.builtin "math.gcd")

/-- a def that others call by its name -/
structure Dfn (P : Program) (w : World) (K : PySem.W.Frag) (mg : Str → Option Value) (base : Heap) (k : Nat) (x : Str) (ps : List Str) (sp : Sp) : Prop where
  ex : ∃ f fd, FnOk P w K mg base CX0 k f fd ps sp ∧ mg x = some (.ref f) ∧ PySem.W.keepIn K (.ref f) = true ∧ Binds K fd ps []
theorem pe_use {X : Cx} {k : Nat} {x : Str} {ps : List Str} {sp : Sp} {p pos : Pos} {e : Expr} {es : List Expr} {t : TA} (D : Dfn X.prog X.w X.K X.mg X.base k x ps sp) (hr : Room k X.A) (hg : Gl X x) (ha : PA X (e :: es) t)
    (hdb : (x == ("__debug__" : Str)) = false := by decide) (he : starEach (e :: es) X.env = (false, eval e X.env) :: starEach es X.env := by rfl) (hpl : (backTo pos (starEach es X.env)).any (·.1) = false := by rfl) :
    PE X (.Call (.Name x p) (e :: es) [] pos) (tCall sp [] E0 t) := by
  obtain ⟨f, fd, F, hm, hk, hb⟩ := D.ex
  exact pe_call F hr hg hm hk hb .nil pass0 ha hdb he hpl

section
variable {P : Program} {w : World} {K : PySem.W.Frag} {mg : Str → Option Value} {base : Heap}

/-! ### is_integer -/
def spInt (K : PySem.W.Frag) : Sp := fun vs H Q _ => ∃ (x : V) (t : Value) (a b : Bool), vs = [x] ∧ TyX K H x t ∧ PySem.W.kitOne K t (.type "int") = some a ∧ PySem.W.kitOne K t (.type "bool") = some b ∧ Q (.bl (a && !b)) H
theorem scInt : FnScope ["value"] ["value"] (defScope sIsInt) := ⟨rfl, rfl, rfl, by decide +kernel, rfl, by decide +kernel, by decide +kernel⟩
theorem ok_isint {f C : Addr} {fd : FuncData} (F : FnP K "is_integer" "is_integer" sIsInt [] f fd) (T : RT K mg C) : FnOk P w K mg base CX0 1 f fd ["value"] (spInt K) := by
  refine F.ok scInt (fun vs H Q E h => ?_) (fun cdv A outer s H vs Q E hr h => ?_)
  · obtain ⟨x, t, a, b, rfl, _⟩ := h
    rfl
  · obtain ⟨x, t, a, b, rfl, ty, ha, hb, q⟩ := h
    refine ⟨_, PSs.nox (pss_one (ps_ret (pe_and (pe_callB call_isi (by rfl) T.isi boot_isinstance (pa_cons (pv 0) (pa_cons (pe_bltn (v := .ty "int") rfl T.int PyProof.Rows.boot_int rfl) pa_nil)))
      (pe_one (pe_not (pe_callB call_isi (by rfl) T.isi boot_isinstance (pa_cons (pv 0) (pa_cons (pe_bltn (v := .ty "bool") rfl T.bool PyProof.Rows.boot_bool rfl) pa_nil)))))))), ?_⟩
    refine ⟨_, rfl, x, .ty "int", t, _, a, rfl, .ty _, ty, ha, a, rfl, ?_⟩
    cases a with
    | false => exact q
    | true => exact ⟨_, rfl, x, .ty "bool", t, _, b, rfl, .ty _, ty, hb, b, rfl, q⟩
theorem kII : PySem.W.kitOne K (.type "int") (.type "int") = some true := kit_ty (by decide +kernel)
theorem kIB : PySem.W.kitOne K (.type "int") (.type "bool") = some false := kit_ty (by decide +kernel)
end
end Ra
namespace Ra
open PySem PySem.Spec PyProof.Rows L2 Ow Rm

/-- // by an integer of either sign -/
def CDivZ (_ j : Int) : Prop := j ≠ 0 ∧ j.natAbs.log2 < 9000
section
variable {X : Cx}
theorem op_fdivZ : OpR X (binaryOp .FloorDiv) (rI CDivZ fun i j => .int (i.fdiv j)) := opI fun i j _ _ _ _ _ hc q => floordiv_int hc.1 q (.inl (PyProof.noPylong_of_log2 hc.2))
theorem cdivZ {t b : Int} {k : Nat} (hb : b ≠ 0) (h : Bd k b) (h0 : 0 < k) (h9 : k ≤ 9000) : CDivZ t (byv t b) :=
  ⟨byv_ne hb, Nat.lt_of_lt_of_le (Bd.log2 (h.le (byv_le hb)) h0) h9⟩
theorem cdivZ' {x t b : Int} {k : Nat} (hb : b ≠ 0) (h : Bd k b) (h0 : 0 < k) (h9 : k ≤ 9000) : CDivZ x (byv t b) :=
  ⟨byv_ne hb, Nat.lt_of_lt_of_le (Bd.log2 (h.le (byv_le hb)) h0) h9⟩
end

section
variable {P : Program} {w : World} {K : PySem.W.Frag} {mg : Str → Option Value} {base : Heap}
abbrev DInt (P : Program) (w : World) (K : PySem.W.Frag) (mg : Str → Option Value) (base : Heap) : Prop := Dfn P w K mg base 1 "is_integer" ["value"] (spInt K)

/-! ### Ratio(n, d) -/
def spInit (C : Addr) : Sp := fun vs H Q _ => ∃ (p dx : Addr) (n d : Int), vs = [.ref p, .int n, .int d] ∧ d ≠ 0 ∧ Bd 8000 d ∧ H p = some (.ins C dx []) ∧ Q .non (upd H p (.ins C dx (rf (low n d).1 (low n d).2)))
theorem scInit : FnScope ["self", "top", "bottom", "shared"] ["self", "top", "bottom"] (defScope sInit) := ⟨rfl, rfl, rfl, by decide +kernel, rfl, by decide +kernel, by decide +kernel⟩
theorem ok_init {f C : Addr} {fd : FuncData} (F : FnP K "__init__" "Ratio.__init__" sInit [.int 1] f fd) (T : RT K mg C) (D : DInt P w K mg base) : FnOk P w K mg base CX0 2 f fd ["self", "top", "bottom"] (spInit C) := by
  refine F.ok scInit (fun vs H Q E h => ?_) (fun cdv A outer s H vs Q E hr h => ?_)
  · obtain ⟨p, dx, n, d, rfl, _⟩ := h
    rfl
  · obtain ⟨p, dx, n, d, rfl, hd, hb, hp, q⟩ := h
    have ne0 : decide (V.int d = V.int 0) = false := decide_eq_false fun z => hd (by cases z; rfl)
    refine ⟨_, PSs.nox (pss_cons (ps_if (pt_not (pt_val (pe_use D hr rfl (pa_cons (pv 1) pa_nil)))) pss_never pss_nil)
      (pss_cons (ps_if (PW.pt (pw_or (pt_not (pt_val (pe_use D hr rfl (pa_cons (pv 2) pa_nil)))) (pw_or1 (pt_cmpR op_eq (pv 2) pe_int (nomark _))))) pss_never pss_nil)
      (pss_cons (ps_set (i := 3) scInit.nd rfl (Or.inl rfl) (pe_callBfun cr_gcd rfl T.gcd (pa_cons (pv 1) (pa_cons (pv 2) pa_nil))))
      (pss_cons (ps_if (pt_cmpR op_lt (pv 2) pe_int (nomark _)) (pss_one (ps_set (i := 3) scInit.nd rfl (Or.inl rfl) (pe_un un_neg (pv 3)))) pss_nil)
      (pss_cons (ps_fld (pv 0) (pe_op op_fdivZ (pv 1) (pv 3)) rfl)
      (pss_one (ps_fld (pv 0) (pe_op op_fdivZ (pv 2) (pv 3)) rfl))))))), ?_⟩
    have fin : ∀ g : Int, g = byv n d → (tSeq (sFld K (tVar 0) (tOp (rI CDivZ fun i j => .int (i.fdiv j)) (tVar 1) (tVar 3)) "_top") (sFld K (tVar 0) (tOp (rI CDivZ fun i j => .int (i.fdiv j)) (tVar 2) (tVar 3)) "_bottom"))
        { nx := fun _ H' => Q .non H', rt := Q } [some (.ref p), some (.int n), some (.int d), some (.int g)] H := by
      rintro g rfl
      refine ⟨_, rfl, _, rfl, _, _, rfl, rfl, cdivZ' hd hb (by decide) (by decide), _, rfl, p, C, dx, [], rfl, hp, T.cl, T.nT, (by show 0 < 1000; decide), ?_⟩
      refine ⟨_, rfl, _, rfl, _, _, rfl, rfl, cdivZ' hd hb (by decide) (by decide), _, rfl, p, C, dx, _, rfl, upd_same, T.cl, T.nB, (by show 1 < 1000; decide), ?_⟩
      rw [upd_upd]
      exact q
    refine ⟨_, rfl, ?_⟩
    refine ⟨_, .type "int", true, false, rfl, .base (.int _), kII, kIB, true, rfl, ?_⟩
    refine iteF ?_
    refine ⟨_, rfl, ?_⟩
    refine ⟨_, .type "int", true, false, rfl, .base (.int _), kII, kIB, true, rfl, ?_⟩
    refine iteF ?_
    refine ⟨_, rfl, rfl, _, rfl, ?_⟩
    rw [ne0]
    refine iteF ?_
    refine ⟨_, rfl, _, rfl, n, d, rfl, ?_⟩
    refine ⟨_, rfl, _, _, rfl, rfl, _, rfl, ?_⟩
    have hg := byv_eq (t := n) hd
    refine ite2 (fun c => ?_) (fun c => ?_)
    · have c' : d < 0 := of_decide_eq_true c
      rw [if_pos c'] at hg
      exact ⟨_, rfl, _, rfl, fin _ hg⟩
    · have c' : ¬ d < 0 := fun z => c (decide_eq_true z)
      rw [if_neg c'] at hg
      exact fin _ hg
end
end Ra
namespace Ra
open PySem PySem.Spec PyProof.Rows L2 Ow Rm

/-- a number: a ratio, or an integer -/
def NumAt (C : Addr) (H : Hp) (v : V) (n d : Int) : Prop := (∃ p, v = .ref p ∧ RatAt C H p n d) ∨ (v = .int n ∧ d = 1)
theorem NumAt.same {C : Addr} {H H' : Hp} {v : V} {n d : Int} (h : NumAt C H v n d) (s : Same H H') : NumAt C H' v n d := by
  rcases h with ⟨p, e, r⟩ | ⟨e, r⟩
  · exact .inl ⟨p, e, r.same s⟩
  · exact .inr ⟨e, r⟩
theorem same_upd {H : Hp} {p : Addr} {o : HO} (h : H p = none) : Same H (upd H p o) := fun b u e => by
  rw [upd_ne (ne_of_none e h)]
  exact e

/-- Ratio(..), as others make it -/
structure RMk (P : Program) (w : World) (K : PySem.W.Frag) (mg : Str → Option Value) (base : Heap) (C : Addr) : Prop where
  ex : ∃ f fd, Mk K C f ∧ FnOk P w K mg base CX0 2 f fd ["self", "top", "bottom"] (spInit C) ∧ Binds K fd ["self", "top", "bottom"] [] ∧ (∃ ds, Vals [V.int 1] ds ∧ Binds K fd ["self", "top", "bottom"] ds) ∧
    (∃ g gV, KBn K fd ["self", "top", "bottom"] 1 ["bottom", "top"] g gV ∧ ∀ a b c, gV [a] [b, c] = [a, c, b])
/-- a property, as others read it -/
structure Prp (P : Program) (w : World) (K : PySem.W.Frag) (mg : Str → Option Value) (base : Heap) (C : Addr) (x : Str) (sp : Sp) : Prop where
  ex : ∃ p g fd, PropOf K C x p g ∧ FnOk P w K mg base CX0 1 g fd ["self"] sp ∧ Binds K fd ["self"] []
def spTop (C : Addr) : Sp := fun vs H Q _ => ∃ p n d, vs = [.ref p] ∧ RatAt C H p n d ∧ Q (.int n) H
def spBottom (C : Addr) : Sp := fun vs H Q _ => ∃ p n d, vs = [.ref p] ∧ RatAt C H p n d ∧ Q (.int d) H
def spSign (C : Addr) : Sp := fun vs H Q _ => ∃ p n d, vs = [.ref p] ∧ RatAt C H p n d ∧ Q (.int n.sign) H

section
variable {X : Cx} {C : Addr} {x : Str} {sp : Sp} {p pos : Pos} {e e2 : Expr} {t : TA} {ta tb : TE}
theorem pe_rat2 (M : RMk X.prog X.w X.K X.mg X.base C) (hr : Room 3 X.A) (hg : Gl X "Ratio") (hm : X.mg "Ratio" = some (.ref C)) (ha : PE X e ta) (hb : PE X e2 tb)
    (he : starEach [e, e2] X.env = (false, eval e X.env) :: starEach [e2] X.env := by rfl) (he2 : starEach [e2] X.env = (false, eval e2 X.env) :: starEach [] X.env := by rfl) (hpl : (backTo pos (starEach [e2] X.env)).any (·.1) = false := by rfl) :
    PE X (.Call (.Name "Ratio" p) [e, e2] [] pos) (tMake C (spInit C) [] E0 (tCons ta (tCons tb tNil))) := by
  obtain ⟨f, fd, m, F, b2, _, _⟩ := M.ex
  exact pe_make m F hr hg hm b2 .nil pass0 (pa_cons ha (pa_cons hb pa_nil he2) he) (by decide) he hpl
theorem pe_rat1 (M : RMk X.prog X.w X.K X.mg X.base C) (hr : Room 3 X.A) (hg : Gl X "Ratio") (hm : X.mg "Ratio" = some (.ref C)) (ha : PE X e ta)
    (he : starEach [e] X.env = (false, eval e X.env) :: starEach [] X.env := by rfl) (hpl : (backTo pos (starEach [] X.env)).any (·.1) = false := by rfl) :
    PE X (.Call (.Name "Ratio" p) [e] [] pos) (tMake C (spInit C) [.int 1] E0 (tCons ta tNil)) := by
  obtain ⟨f, fd, m, F, _, ⟨ds, hv, b1⟩, _⟩ := M.ex
  exact pe_make m F hr hg hm b1 hv pass0 (pa_cons ha pa_nil he) (by decide) he hpl
theorem pe_prp (D : Prp X.prog X.w X.K X.mg X.base C x sp) (he : PE X e ta) (c : Cls X.K C) (hr : Room 2 X.A) (hab : attributeBase e x X.env (eval e X.env) = eval e X.env) : PE X (.Attribute e x pos) (tProp C sp [] E0 ta) := by
  obtain ⟨p, g, fd, hp, F, hb⟩ := D.ex
  exact pe_prop he c hp F hr hb .nil pass0 hab
end

/-- a new ratio, as its maker reads it -/
theorem rat_new {C : Addr} {H : Hp} {n d : Int} {Q : Addr → Hp → Prop} (hd : d ≠ 0) (hb : Bd 8000 d) (q : ∀ p H', RatAt C H' p (low n d).1 (low n d).2 → Same H H' → H p = none → Q p H') :
    ∀ x dx, H x = none → H dx = none → dx ≠ x → spInit C [.ref x, .int n, .int d] (upd (upd H dx (.own x)) x (.ins C dx [])) (fun v H2 => v = .non ∧ Q x H2) E0 := by
  intro x dx hx hdx ne
  refine ⟨x, dx, n, d, rfl, hd, hb, upd_same, rfl, ?_⟩
  refine q x _ ⟨dx, upd_same⟩ (fun b o e => ?_) hx
  rw [upd_upd, upd_ne (ne_of_none e hx), upd_ne (ne_of_none e hdx)]
  exact e

section
variable {P : Program} {w : World} {K : PySem.W.Frag} {mg : Str → Option Value} {base : Heap}

/-! ### properties -/
theorem scTop : FnScope ["self"] ["self"] (defScope sTop) := ⟨rfl, rfl, rfl, by decide +kernel, rfl, by decide +kernel, by decide +kernel⟩
theorem scBottom : FnScope ["self"] ["self"] (defScope sBottom) := ⟨rfl, rfl, rfl, by decide +kernel, rfl, by decide +kernel, by decide +kernel⟩
theorem scSign : FnScope ["self"] ["self"] (defScope sSign) := ⟨rfl, rfl, rfl, by decide +kernel, rfl, by decide +kernel, by decide +kernel⟩
theorem ok_top {f C : Addr} {fd : FuncData} (F : FnP K "top" "Ratio.top" sTop [] f fd) (T : RT K mg C) : FnOk P w K mg base CX0 1 f fd ["self"] (spTop C) := by
  refine F.ok scTop (fun vs H Q E h => ?_) (fun cdv A outer s H vs Q E hr h => ?_)
  · obtain ⟨p, n, d, rfl, _⟩ := h
    rfl
  · obtain ⟨p, n, d, rfl, ⟨dx, hp⟩, q⟩ := h
    exact ⟨_, PSs.nox (pss_one (ps_ret (pe_fld (pv 0) rfl))), _, rfl, p, C, dx, _, _, rfl, hp, T.cl, T.nT, rf_top _ _, q⟩
theorem ok_bottom {f C : Addr} {fd : FuncData} (F : FnP K "bottom" "Ratio.bottom" sBottom [] f fd) (T : RT K mg C) : FnOk P w K mg base CX0 1 f fd ["self"] (spBottom C) := by
  refine F.ok scBottom (fun vs H Q E h => ?_) (fun cdv A outer s H vs Q E hr h => ?_)
  · obtain ⟨p, n, d, rfl, _⟩ := h
    rfl
  · obtain ⟨p, n, d, rfl, ⟨dx, hp⟩, q⟩ := h
    exact ⟨_, PSs.nox (pss_one (ps_ret (pe_fld (pv 0) rfl))), _, rfl, p, C, dx, _, _, rfl, hp, T.cl, T.nB, rf_bottom _ _, q⟩
theorem ok_sign {f C : Addr} {fd : FuncData} (F : FnP K "sign" "Ratio.sign" sSign [] f fd) (T : RT K mg C) : FnOk P w K mg base CX0 1 f fd ["self"] (spSign C) := by
  refine F.ok scSign (fun vs H Q E h => ?_) (fun cdv A outer s H vs Q E hr h => ?_)
  · obtain ⟨p, n, d, rfl, _⟩ := h
    rfl
  · obtain ⟨p, n, d, rfl, ⟨dx, hp⟩, q⟩ := h
    refine ⟨_, PSs.nox (pss_cons (ps_if (pt_cmpR op_lt (pe_fld (pv 0) rfl) pe_int (nomark _)) (pss_one (ps_ret (pe_un un_neg pe_int))) pss_nil)
      (pss_cons (ps_if (pt_cmpR op_gt (pe_fld (pv 0) rfl) pe_int (nomark _)) (pss_one (ps_ret pe_int)) pss_nil)
      (pss_one (ps_ret pe_int)))), ?_⟩
    refine ⟨_, rfl, p, C, dx, _, _, rfl, hp, T.cl, T.nT, rf_top _ _, _, _, rfl, rfl, _, rfl, ?_⟩
    refine ite2 (fun c => ?_) (fun c => ?_)
    · have c' : n < 0 := of_decide_eq_true c
      refine ⟨_, rfl, ?_⟩
      rw [Int.sign_eq_neg_one_of_neg c'] at q
      exact q
    · have c' : ¬ n < 0 := fun z => c (decide_eq_true z)
      refine ⟨_, rfl, p, C, dx, _, _, rfl, hp, T.cl, T.nT, rf_top _ _, _, _, rfl, rfl, _, rfl, ?_⟩
      refine ite2 (fun e => ?_) (fun e => ?_)
      · have e' : 0 < n := of_decide_eq_true e
        rw [Int.sign_eq_one_of_pos e'] at q
        exact q
      · have e' : ¬ 0 < n := fun z => e (decide_eq_true z)
        have e0 : n = 0 := by omega
        rw [e0] at q
        exact q

/-! ### as_ratio -/
def spAs (C : Addr) : Sp := fun vs H Q _ => ∃ v n d, vs = [v] ∧ NumAt C H v n d ∧ ∀ q H', RatAt C H' q n d → Same H H' → Q (.ref q) H'
theorem scAs : FnScope ["value"] ["value"] (defScope sAsRatio) := ⟨rfl, rfl, rfl, by decide +kernel, rfl, by decide +kernel, by decide +kernel⟩
theorem ok_as {f C : Addr} {fd : FuncData} (F : FnP K "as_ratio" "as_ratio" sAsRatio [] f fd) (T : RT K mg C) (M : RMk P w K mg base C) : FnOk P w K mg base CX0 4 f fd ["value"] (spAs C) := by
  refine F.ok scAs (fun vs H Q E h => ?_) (fun cdv A outer s H vs Q E hr h => ?_)
  · obtain ⟨v, n, d, rfl, _⟩ := h
    rfl
  · obtain ⟨v, n, d, rfl, hv, q⟩ := h
    refine ⟨_, PSs.nox (pss_cons (ps_if (pt_val (pe_callB call_isi (by rfl) T.isi boot_isinstance (pa_cons (pv 0) (pa_cons (pe_glob (v := .ref C) rfl T.mgC rfl) pa_nil)))) (pss_one (ps_ret (pv 0))) pss_nil)
      (pss_one (ps_ret (pe_rat1 M hr rfl T.mgC (pv 0))))), ?_⟩
    rcases hv with ⟨p, rfl, ⟨dx, hp⟩⟩ | ⟨rfl, rfl⟩
    · refine ⟨_, rfl, _, .ref C, .ref C, _, true, rfl, .own C, .base (.ins hp T.cl T.ca T.cg T.ct T.cm), T.kCC, true, rfl, ?_⟩
      refine iteT ?_
      exact ⟨_, rfl, q p H ⟨dx, hp⟩ (Same.refl H)⟩
    · refine ⟨_, rfl, _, .ref C, .type "int", _, false, rfl, .own C, .base (.int n), T.kIC, false, rfl, ?_⟩
      refine iteF ?_
      refine ⟨_, rfl, ?_⟩
      refine rat_new (by decide) (bd_one (by decide)) fun p H' r sm _ => ?_
      rw [low_int] at r
      exact q p H' r sm
end
end Ra
namespace Ra
open PySem PySem.Spec PyProof.Rows L2 Ow Rm

/-- a number in lowest terms, not too great -/
structure Nm (C : Addr) (H : Hp) (v : V) (n d : Int) : Prop where
  at_ : NumAt C H v n d
  lw : Lw n d
  b1 : Bd 2500 n
  b2 : Bd 2500 d
theorem Nm.same {C : Addr} {H H' : Hp} {v : V} {n d : Int} (h : Nm C H v n d) (s : Same H H') : Nm C H' v n d := ⟨h.at_.same s, h.lw, h.b1, h.b2⟩
theorem Nm.rat {C : Addr} {H : Hp} {p : Addr} {n d : Int} (h : Nm C H (.ref p) n d) : RatAt C H p n d := by
  rcases h.at_ with ⟨q, e, r⟩ | ⟨e, _⟩
  · cases e
    exact r
  · exact nomatch e
theorem cmul {j k : Nat} {x y : Int} (h : Bd j x) (h' : Bd k y) (hj : 0 < j := by decide) (hk : 0 < k := by decide) (l : j + k ≤ 1000000 := by decide) : CMulW x y := by
  have a := h.log2 hj
  have b := h'.log2 hk
  unfold CMulW
  omega
def spBin (op : Int × Int → Int × Int → Int × Int) (C : Addr) : Sp := fun vs H Q _ => ∃ p v n d m e, vs = [.ref p, v] ∧ Nm C H (.ref p) n d ∧ Nm C H v m e ∧
  ∀ q H', RatAt C H' q (op (n, d) (m, e)).1 (op (n, d) (m, e)).2 → Same H H' → Q (.ref q) H'
def spNeg (C : Addr) : Sp := fun vs H Q _ => ∃ p n d, vs = [.ref p] ∧ Nm C H (.ref p) n d ∧ ∀ q H', RatAt C H' q (-n) d → Same H H' → Q (.ref q) H'

section
variable {P : Program} {w : World} {K : PySem.W.Frag} {mg : Str → Option Value} {base : Heap}
abbrev DAs (P : Program) (w : World) (K : PySem.W.Frag) (mg : Str → Option Value) (base : Heap) (C : Addr) : Prop := Dfn P w K mg base 4 "as_ratio" ["value"] (spAs C)
abbrev PT_ (P : Program) (w : World) (K : PySem.W.Frag) (mg : Str → Option Value) (base : Heap) (C : Addr) : Prop := Prp P w K mg base C "top" (spTop C)
abbrev PB_ (P : Program) (w : World) (K : PySem.W.Frag) (mg : Str → Option Value) (base : Heap) (C : Addr) : Prop := Prp P w K mg base C "bottom" (spBottom C)
abbrev PS_ (P : Program) (w : World) (K : PySem.W.Frag) (mg : Str → Option Value) (base : Heap) (C : Addr) : Prop := Prp P w K mg base C "sign" (spSign C)

theorem scAdd : FnScope ["self", "other", "right", "top"] ["self", "other"] (defScope sAdd) := ⟨rfl, rfl, rfl, by decide +kernel, rfl, by decide +kernel, by decide +kernel⟩
theorem ok_add {f C : Addr} {fd : FuncData} (F : FnP K "__add__" "Ratio.__add__" sAdd [] f fd) (T : RT K mg C) (M : RMk P w K mg base C) (D : DAs P w K mg base C) (pT : PT_ P w K mg base C) (pB : PB_ P w K mg base C) :
    FnOk P w K mg base CX0 5 f fd ["self", "other"] (spBin plus C) := by
  refine F.ok scAdd (fun vs H Q E h => ?_) (fun cdv A outer s H vs Q E hr h => ?_)
  · obtain ⟨p, v, n, d, m, e, rfl, _⟩ := h
    rfl
  · obtain ⟨p, v, n, d, m, e, rfl, hp, hv, q⟩ := h
    have hr2 := hr.mono (by decide : 2 ≤ 4)
    have hr3 := hr.mono (by decide : 3 ≤ 4)
    refine ⟨_, PSs.nox (pss_cons (ps_set (i := 2) scAdd.nd rfl (Or.inl rfl) (pe_use D hr rfl (pa_cons (pv 1) pa_nil)))
      (pss_cons (ps_set (i := 3) scAdd.nd rfl (Or.inl rfl) (pe_op op_add (pe_op op_mulW (pe_fld (pv 0) rfl) (pe_prp pB (pv 2) T.cl hr2 rfl)) (pe_op op_mulW (pe_prp pT (pv 2) T.cl hr2 rfl) (pe_fld (pv 0) rfl))))
      (pss_one (ps_ret (pe_rat2 M hr3 rfl T.mgC (pv 3) (pe_op op_mulW (pe_fld (pv 0) rfl) (pe_prp pB (pv 2) T.cl hr2 rfl))))))), ?_⟩
    refine ⟨_, rfl, v, m, e, rfl, hv.at_, fun r H1 hr1 s1 => ?_⟩
    obtain ⟨dx, h1⟩ := (hp.rat.same s1)
    obtain ⟨dy, h2⟩ := id hr1
    refine ⟨_, rfl, p, C, dx, _, _, rfl, h1, T.cl, T.nT, rf_top _ _, _, rfl, r, dy, _, rfl, h2, r, m, e, rfl, hr1, _, _, rfl, rfl, cmul hp.b1 hv.b2, ?_⟩
    refine ⟨_, rfl, r, dy, _, rfl, h2, r, m, e, rfl, hr1, _, rfl, p, C, dx, _, _, rfl, h1, T.cl, T.nB, rf_bottom _ _, _, _, rfl, rfl, cmul hv.b1 hp.b2, _, _, rfl, rfl, ?_⟩
    refine ⟨_, rfl, _, rfl, p, C, dx, _, _, rfl, h1, T.cl, T.nB, rf_bottom _ _, _, rfl, r, dy, _, rfl, h2, r, m, e, rfl, hr1, _, _, rfl, rfl, cmul hp.b2 hv.b2, ?_⟩
    exact rat_new (mul_ne hp.lw.pos hv.lw.pos) ((hp.b2.mul hv.b2).mono (by decide)) fun z H2 hz s2 _ => q z H2 hz (s1.trans s2)

theorem scMul : FnScope ["self", "other", "right"] ["self", "other"] (defScope sMul) := ⟨rfl, rfl, rfl, by decide +kernel, rfl, by decide +kernel, by decide +kernel⟩
theorem ok_mul {f C : Addr} {fd : FuncData} (F : FnP K "__mul__" "Ratio.__mul__" sMul [] f fd) (T : RT K mg C) (M : RMk P w K mg base C) (D : DAs P w K mg base C) (pT : PT_ P w K mg base C) (pB : PB_ P w K mg base C) :
    FnOk P w K mg base CX0 5 f fd ["self", "other"] (spBin times C) := by
  refine F.ok scMul (fun vs H Q E h => ?_) (fun cdv A outer s H vs Q E hr h => ?_)
  · obtain ⟨p, v, n, d, m, e, rfl, _⟩ := h
    rfl
  · obtain ⟨p, v, n, d, m, e, rfl, hp, hv, q⟩ := h
    have hr2 := hr.mono (by decide : 2 ≤ 4)
    have hr3 := hr.mono (by decide : 3 ≤ 4)
    refine ⟨_, PSs.nox (pss_cons (ps_set (i := 2) scMul.nd rfl (Or.inl rfl) (pe_use D hr rfl (pa_cons (pv 1) pa_nil)))
      (pss_one (ps_ret (pe_rat2 M hr3 rfl T.mgC (pe_op op_mulW (pe_fld (pv 0) rfl) (pe_prp pT (pv 2) T.cl hr2 rfl)) (pe_op op_mulW (pe_fld (pv 0) rfl) (pe_prp pB (pv 2) T.cl hr2 rfl)))))), ?_⟩
    refine ⟨_, rfl, v, m, e, rfl, hv.at_, fun r H1 hr1 s1 => ?_⟩
    obtain ⟨dx, h1⟩ := (hp.rat.same s1)
    obtain ⟨dy, h2⟩ := id hr1
    refine ⟨_, rfl, p, C, dx, _, _, rfl, h1, T.cl, T.nT, rf_top _ _, _, rfl, r, dy, _, rfl, h2, r, m, e, rfl, hr1, _, _, rfl, rfl, cmul hp.b1 hv.b1, ?_⟩
    refine ⟨_, rfl, p, C, dx, _, _, rfl, h1, T.cl, T.nB, rf_bottom _ _, _, rfl, r, dy, _, rfl, h2, r, m, e, rfl, hr1, _, _, rfl, rfl, cmul hp.b2 hv.b2, ?_⟩
    exact rat_new (mul_ne hp.lw.pos hv.lw.pos) ((hp.b2.mul hv.b2).mono (by decide)) fun z H2 hz s2 _ => q z H2 hz (s1.trans s2)

theorem scNeg : FnScope ["self"] ["self"] (defScope sNeg) := ⟨rfl, rfl, rfl, by decide +kernel, rfl, by decide +kernel, by decide +kernel⟩
theorem ok_neg {f C : Addr} {fd : FuncData} (F : FnP K "__neg__" "Ratio.__neg__" sNeg [] f fd) (T : RT K mg C) (M : RMk P w K mg base C) : FnOk P w K mg base CX0 4 f fd ["self"] (spNeg C) := by
  refine F.ok scNeg (fun vs H Q E h => ?_) (fun cdv A outer s H vs Q E hr h => ?_)
  · obtain ⟨p, n, d, rfl, _⟩ := h
    rfl
  · obtain ⟨p, n, d, rfl, hp, q⟩ := h
    refine ⟨_, PSs.nox (pss_one (ps_ret (pe_rat2 M hr rfl T.mgC (pe_un un_neg (pe_fld (pv 0) rfl)) (pe_fld (pv 0) rfl)))), ?_⟩
    obtain ⟨dx, h1⟩ := hp.rat
    refine ⟨_, rfl, p, C, dx, _, _, rfl, h1, T.cl, T.nT, rf_top _ _, _, rfl, _, rfl, p, C, dx, _, _, rfl, h1, T.cl, T.nB, rf_bottom _ _, ?_⟩
    refine rat_new (by have := hp.lw.pos; omega) (hp.b2.mono (by decide)) fun z H2 hz s2 _ => ?_
    rw [low_neg hp.lw] at hz
    exact q z H2 hz s2

theorem scOver : FnScope ["self", "other", "right"] ["self", "other"] (defScope sOver) := ⟨rfl, rfl, rfl, by decide +kernel, rfl, by decide +kernel, by decide +kernel⟩
/-- over: by a number that is not 0 -/
def spOver (C : Addr) : Sp := fun vs H Q _ => ∃ p v n d m e, vs = [.ref p, v] ∧ Nm C H (.ref p) n d ∧ Nm C H v m e ∧ m ≠ 0 ∧
  ∀ q H', RatAt C H' q (over (n, d) (m, e)).1 (over (n, d) (m, e)).2 → Same H H' → Q (.ref q) H'
theorem ok_over {f C : Addr} {fd : FuncData} (F : FnP K "over" "Ratio.over" sOver [] f fd) (T : RT K mg C) (M : RMk P w K mg base C) (D : DAs P w K mg base C) (pT : PT_ P w K mg base C) (pB : PB_ P w K mg base C) (pS : PS_ P w K mg base C) :
    FnOk P w K mg base CX0 5 f fd ["self", "other"] (spOver C) := by
  refine F.ok scOver (fun vs H Q E h => ?_) (fun cdv A outer s H vs Q E hr h => ?_)
  · obtain ⟨p, v, n, d, m, e, rfl, _⟩ := h
    rfl
  · obtain ⟨p, v, n, d, m, e, rfl, hp, hv, hm, q⟩ := h
    have hr2 := hr.mono (by decide : 2 ≤ 4)
    have hr3 := hr.mono (by decide : 3 ≤ 4)
    refine ⟨_, PSs.nox (pss_cons (ps_set (i := 2) scOver.nd rfl (Or.inl rfl) (pe_use D hr rfl (pa_cons (pv 1) pa_nil)))
      (pss_cons (ps_if (pt_cmpR op_eq (pe_prp pS (pv 2) T.cl hr2 rfl) pe_int (nomark _)) pss_never pss_nil)
      (pss_one (ps_ret (pe_rat2 M hr3 rfl T.mgC (pe_op op_mulW (pe_fld (pv 0) rfl) (pe_prp pB (pv 2) T.cl hr2 rfl)) (pe_op op_mulW (pe_fld (pv 0) rfl) (pe_prp pT (pv 2) T.cl hr2 rfl))))))), ?_⟩
    refine ⟨_, rfl, v, m, e, rfl, hv.at_, fun r H1 hr1 s1 => ?_⟩
    obtain ⟨dx, h1⟩ := (hp.rat.same s1)
    obtain ⟨dy, h2⟩ := id hr1
    have hs : decide (V.int m.sign = V.int 0) = false := decide_eq_false fun z => hm (Int.sign_eq_zero_iff_zero.mp (V.int.inj z))
    refine ⟨_, rfl, r, dy, _, rfl, h2, r, m, e, rfl, hr1, rfl, _, rfl, ?_⟩
    rw [hs]
    refine iteF ?_
    refine ⟨_, rfl, p, C, dx, _, _, rfl, h1, T.cl, T.nT, rf_top _ _, _, rfl, r, dy, _, rfl, h2, r, m, e, rfl, hr1, _, _, rfl, rfl, cmul hp.b1 hv.b2, ?_⟩
    refine ⟨_, rfl, p, C, dx, _, _, rfl, h1, T.cl, T.nB, rf_bottom _ _, _, rfl, r, dy, _, rfl, h2, r, m, e, rfl, hr1, _, _, rfl, rfl, cmul hp.b2 hv.b1, ?_⟩
    exact rat_new (Int.mul_ne_zero (by have := hp.lw.pos; omega) hm) ((hp.b2.mul hv.b1).mono (by decide)) fun z H2 hz s2 _ => q z H2 hz (s1.trans s2)
end
end Ra
namespace Ra
open PySem PySem.Spec PyProof.Rows L2 Ow Rm

/-- an operator of the class at C, as others use it -/
structure OpX (P : Program) (w : World) (K : PySem.W.Frag) (mg : Str → Option Value) (base : Heap) (C : Addr) (op : Operator) (k : Nat) (sp : Sp) : Prop where
  ex : ∃ f fd, OpOf K C (PySem.dunder op.info.2) f ∧ FnOk P w K mg base CX0 k f fd ["self", "other"] sp ∧ Binds K fd ["self", "other"] []
  rf : ∃ rc, PySem.W.findIn K (.ref C) (dunderR op.info.2) = some rc ∧ (rc = none ∨ ∃ g : Addr, rc = some (.ref g))
  i1 : ∃ fo, PySem.W.findIn K (.type "int") (PySem.dunder op.info.2) = some fo
  i2 : ∃ ro, PySem.W.findIn K (.type "int") (dunderR op.info.2) = some ro
/-- its reflected one -/
structure OpY (P : Program) (w : World) (K : PySem.W.Frag) (mg : Str → Option Value) (base : Heap) (C : Addr) (op : Operator) (k : Nat) (sp : Sp) : Prop where
  at_ : ∃ f, OpOf K C (PySem.dunder op.info.2) f
  ex : ∃ g gd, OpOf K C (dunderR op.info.2) g ∧ FnOk P w K mg base CX0 k g gd ["self", "other"] sp ∧ Binds K gd ["self", "other"] []
structure OpN (P : Program) (w : World) (K : PySem.W.Frag) (mg : Str → Option Value) (base : Heap) (C : Addr) (k : Nat) (sp : Sp) : Prop where
  ex : ∃ f fd, OpOf K C "__neg__" f ∧ FnOk P w K mg base CX0 k f fd ["self"] sp ∧ Binds K fd ["self"] []

/-- ratio op number -/
def rNm (C : Addr) (sp : Sp) : R2 := fun x y H Q => ∃ p n d m e, x = .ref p ∧ RatAt C H p n d ∧ NumAt C H y m e ∧ sp [.ref p, y] H Q E0
section
variable {X : Cx} {C : Addr} {op : Operator} {k : Nat} {sp : Sp}
theorem op_nm (O : OpX X.prog X.w X.K X.mg X.base C op k sp) (n : Num X.K C) (hr : Room k X.A) : OpR X (binaryOp op) (rNm C sp) := by
  obtain ⟨f, fd, o, F, hb⟩ := O.ex
  obtain ⟨rc, h1, h2⟩ := O.rf
  obtain ⟨fo, h3⟩ := O.i1
  obtain ⟨ro, h4⟩ := O.i2
  intro pins s σ H x y u v Q I rx ry hq
  obtain ⟨p, a, b, m, e, rfl, ⟨dx, hp⟩, hy, q⟩ := hq
  rcases hy with ⟨r, rfl, ⟨dy, hr'⟩⟩ | ⟨rfl, _⟩
  · exact op_own n.sf o F hr hb pass0 pins s σ H _ _ u v Q I rx ry ⟨p, dx, _, r, dy, _, rfl, hp, rfl, hr', q⟩
  · exact op_ownI n o F hr hb pass0 h1 h2 h3 h4 pins s σ H _ _ u v Q I rx ry ⟨p, dx, _, m, rfl, hp, rfl, q⟩
theorem op_radd (O : OpY X.prog X.w X.K X.mg X.base C .Add k sp) (n : Num X.K C) (hr : Room k X.A) : OpR X (binaryOp .Add) (rIOwn C sp E0) := by
  obtain ⟨f, o⟩ := O.at_
  obtain ⟨g, gd, og, F, hb⟩ := O.ex
  exact op_Iown n o og F hr hb pass0 PySem.F.fills_int_add PySem.F.slot_int_add decl_add
theorem op_rsub (O : OpY X.prog X.w X.K X.mg X.base C .Sub k sp) (n : Num X.K C) (hr : Room k X.A) : OpR X (binaryOp .Sub) (rIOwn C sp E0) := by
  obtain ⟨f, o⟩ := O.at_
  obtain ⟨g, gd, og, F, hb⟩ := O.ex
  exact op_Iown n o og F hr hb pass0 PySem.F.fills_int_sub PySem.F.slot_int_sub decl_sub
theorem op_rmul (O : OpY X.prog X.w X.K X.mg X.base C .Mult k sp) (n : Num X.K C) (hr : Room k X.A) : OpR X (binaryOp .Mult) (rIOwn C sp E0) := by
  obtain ⟨f, o⟩ := O.at_
  obtain ⟨g, gd, og, F, hb⟩ := O.ex
  exact op_Iown n o og F hr hb pass0 PySem.F.fills_int_mul PySem.F.slot_int_mul decl_mul
theorem un_nm (O : OpN X.prog X.w X.K X.mg X.base C k sp) (hr : Room k X.A) : UnR X (unaryOp .USub) (rNegOwn C sp E0) := by
  obtain ⟨f, fd, o, F, hb⟩ := O.ex
  exact un_own o F hr hb pass0
end

theorem plus_neg (n d m e : Int) : plus (n, d) (-m, e) = minus (n, d) (m, e) := by
  unfold plus minus
  simp only [Int.neg_mul, Int.sub_eq_add_neg]
theorem plus_rsub (n d m : Int) : plus (-n, d) (m, 1) = minus (m, 1) (n, d) := by
  unfold plus minus
  simp only [Int.mul_one, Int.one_mul, Int.sub_eq_add_neg]
  rw [Int.add_comm]
theorem nm_neg {C : Addr} {H : Hp} {q p : Addr} {n d : Int} {v : V} (h : Nm C H v n d) {H' : Hp} (r : RatAt C H' q (-n) d) : Nm C H' (.ref q) (-n) d := ⟨.inl ⟨q, rfl, r⟩, lw_neg h.lw, h.b1.neg, h.b2⟩
theorem nm_rat {C : Addr} {H H' : Hp} {q : Addr} {n d : Int} {v : V} (h : Nm C H v n d) (r : RatAt C H' q n d) : Nm C H' (.ref q) n d := ⟨.inl ⟨q, rfl, r⟩, h.lw, h.b1, h.b2⟩

section
variable {P : Program} {w : World} {K : PySem.W.Frag} {mg : Str → Option Value} {base : Heap}
/-- i op x -/
def spRef (op : Int × Int → Int × Int → Int × Int) (C : Addr) : Sp := fun vs H Q _ => ∃ p n d m, vs = [.ref p, .int m] ∧ Nm C H (.ref p) n d ∧ Bd 2500 m ∧
  ∀ q H', RatAt C H' q (op (n, d) (m, 1)).1 (op (n, d) (m, 1)).2 → Same H H' → Q (.ref q) H'
def spRsub (C : Addr) : Sp := fun vs H Q _ => ∃ p n d m, vs = [.ref p, .int m] ∧ Nm C H (.ref p) n d ∧ Bd 2500 m ∧
  ∀ q H', RatAt C H' q (minus (m, 1) (n, d)).1 (minus (m, 1) (n, d)).2 → Same H H' → Q (.ref q) H'
theorem nm_int {C : Addr} {H : Hp} {m : Int} (h : Bd 2500 m) : Nm C H (.int m) m 1 := ⟨.inr ⟨rfl, rfl⟩, lw_int m, h, bd_one (by decide)⟩

theorem scRadd : FnScope ["self", "other"] ["self", "other"] (defScope sRadd) := ⟨rfl, rfl, rfl, by decide +kernel, rfl, by decide +kernel, by decide +kernel⟩
theorem ok_radd {f C : Addr} {fd : FuncData} (F : FnP K "__radd__" "Ratio.__radd__" sRadd [] f fd) (T : RT K mg C) (O : OpX P w K mg base C .Add 5 (spBin plus C)) : FnOk P w K mg base CX0 6 f fd ["self", "other"] (spRef plus C) := by
  refine F.ok scRadd (fun vs H Q E h => ?_) (fun cdv A outer s H vs Q E hr h => ?_)
  · obtain ⟨p, n, d, m, rfl, _⟩ := h
    rfl
  · obtain ⟨p, n, d, m, rfl, hp, hm, q⟩ := h
    exact ⟨_, PSs.nox (pss_one (ps_ret (pe_op (op_nm O T.num hr) (pv 0) (pv 1)))), _, rfl, _, rfl, p, n, d, m, 1, rfl, hp.rat, .inr ⟨rfl, rfl⟩, p, _, n, d, m, 1, rfl, hp, nm_int hm, q⟩
theorem scRmul : FnScope ["self", "other"] ["self", "other"] (defScope sRmul) := ⟨rfl, rfl, rfl, by decide +kernel, rfl, by decide +kernel, by decide +kernel⟩
theorem ok_rmul {f C : Addr} {fd : FuncData} (F : FnP K "__rmul__" "Ratio.__rmul__" sRmul [] f fd) (T : RT K mg C) (O : OpX P w K mg base C .Mult 5 (spBin times C)) : FnOk P w K mg base CX0 6 f fd ["self", "other"] (spRef times C) := by
  refine F.ok scRmul (fun vs H Q E h => ?_) (fun cdv A outer s H vs Q E hr h => ?_)
  · obtain ⟨p, n, d, m, rfl, _⟩ := h
    rfl
  · obtain ⟨p, n, d, m, rfl, hp, hm, q⟩ := h
    exact ⟨_, PSs.nox (pss_one (ps_ret (pe_op (op_nm O T.num hr) (pv 0) (pv 1)))), _, rfl, _, rfl, p, n, d, m, 1, rfl, hp.rat, .inr ⟨rfl, rfl⟩, p, _, n, d, m, 1, rfl, hp, nm_int hm, q⟩
theorem scSub : FnScope ["self", "other"] ["self", "other"] (defScope sSub) := ⟨rfl, rfl, rfl, by decide +kernel, rfl, by decide +kernel, by decide +kernel⟩
theorem ok_sub {f C : Addr} {fd : FuncData} (F : FnP K "__sub__" "Ratio.__sub__" sSub [] f fd) (T : RT K mg C) (O : OpX P w K mg base C .Add 5 (spBin plus C)) (N : OpN P w K mg base C 4 (spNeg C)) (D : DAs P w K mg base C) :
    FnOk P w K mg base CX0 6 f fd ["self", "other"] (spBin minus C) := by
  refine F.ok scSub (fun vs H Q E h => ?_) (fun cdv A outer s H vs Q E hr h => ?_)
  · obtain ⟨p, v, n, d, m, e, rfl, _⟩ := h
    rfl
  · obtain ⟨p, v, n, d, m, e, rfl, hp, hv, q⟩ := h
    have hr4 := hr.mono (by decide : 4 ≤ 5)
    refine ⟨_, PSs.nox (pss_one (ps_ret (pe_op (op_nm O T.num hr) (pv 0) (pe_un (un_nm N hr4) (pe_use D hr4 rfl (pa_cons (pv 1) pa_nil)))))), ?_⟩
    refine ⟨_, rfl, _, rfl, v, m, e, rfl, hv.at_, fun r H1 h1 s1 => ?_⟩
    obtain ⟨dx, hx⟩ := id h1
    refine ⟨r, dx, _, rfl, hx, r, m, e, rfl, nm_rat hv h1, fun z H2 h2 s2 => ?_⟩
    refine ⟨p, n, d, -m, e, rfl, hp.rat.same (s1.trans s2), .inl ⟨z, rfl, h2⟩, p, _, n, d, -m, e, rfl, hp.same (s1.trans s2), nm_neg (p := p) hv h2, fun y H3 h3 s3 => ?_⟩
    rw [plus_neg] at h3
    exact q y H3 h3 ((s1.trans s2).trans s3)
theorem scRsub : FnScope ["self", "other"] ["self", "other"] (defScope sRsub) := ⟨rfl, rfl, rfl, by decide +kernel, rfl, by decide +kernel, by decide +kernel⟩
theorem ok_rsub {f C : Addr} {fd : FuncData} (F : FnP K "__rsub__" "Ratio.__rsub__" sRsub [] f fd) (T : RT K mg C) (O : OpX P w K mg base C .Add 5 (spBin plus C)) (N : OpN P w K mg base C 4 (spNeg C)) :
    FnOk P w K mg base CX0 6 f fd ["self", "other"] (spRsub C) := by
  refine F.ok scRsub (fun vs H Q E h => ?_) (fun cdv A outer s H vs Q E hr h => ?_)
  · obtain ⟨p, n, d, m, rfl, _⟩ := h
    rfl
  · obtain ⟨p, n, d, m, rfl, hp, hm, q⟩ := h
    have hr4 := hr.mono (by decide : 4 ≤ 5)
    refine ⟨_, PSs.nox (pss_one (ps_ret (pe_op (op_nm O T.num hr) (pe_un (un_nm N hr4) (pv 0)) (pv 1)))), ?_⟩
    obtain ⟨dx, hx⟩ := hp.rat
    refine ⟨_, rfl, p, dx, _, rfl, hx, p, n, d, rfl, hp, fun z H2 h2 s2 => ?_⟩
    refine ⟨_, rfl, z, -n, d, m, 1, rfl, h2, .inr ⟨rfl, rfl⟩, z, _, -n, d, m, 1, rfl, nm_neg (p := p) hp h2, nm_int hm, fun y H3 h3 s3 => ?_⟩
    rw [plus_rsub] at h3
    exact q y H3 h3 (s2.trans s3)

/-! ### texts -/
def it (n : Int) : Str := Str.ofString (toString n)
def txt (n d : Int) : Str := if d = 1 then it n else (it n ++ "/") ++ it d
def shw (n d : Int) : Str := ((("Ratio(" ++ it n) ++ ", ") ++ it d) ++ ")"
def spText (g : Int → Int → Str) (C : Addr) : Sp := fun vs H Q _ => ∃ p n d, vs = [.ref p] ∧ RatAt C H p n d ∧ Bd 1900 n ∧ Bd 1900 d ∧ Q (.str (g n d)) H
theorem it_len {n : Int} (h : Bd 1900 n) : (it n).length ≤ 1901 := by
  have e := int_text_length_le (a := n) (k := 1900) (by decide) (h.log2 (by decide))
  unfold it
  rw [PySem.ofString_length]
  exact e
theorem lt1920 {n : Int} (h : Bd 1900 n) : n.natAbs.log2 < 1920 := Nat.lt_trans (h.log2 (by decide)) (by decide)
theorem len1 : (Str.ofString "/").length = 1 := by decide +kernel
theorem len2 : (Str.ofString ", ").length = 2 := by decide +kernel
theorem len3 : (Str.ofString ")").length = 1 := by decide +kernel
theorem len6 : (Str.ofString "Ratio(").length = 6 := by decide +kernel
theorem line (n : Nat) (h : n ≤ 100000) : n ≤ sizeLine := Nat.le_trans h (by decide)

theorem scStr : FnScope ["self"] ["self"] (defScope sStr) := ⟨rfl, rfl, rfl, by decide +kernel, rfl, by decide +kernel, by decide +kernel⟩
theorem ok_str {f C : Addr} {fd : FuncData} (F : FnP K "__str__" "Ratio.__str__" sStr [] f fd) (T : RT K mg C) : FnOk P w K mg base CX0 1 f fd ["self"] (spText txt C) := by
  refine F.ok scStr (fun vs H Q E h => ?_) (fun cdv A outer s H vs Q E hr h => ?_)
  · obtain ⟨p, n, d, rfl, _⟩ := h
    rfl
  · obtain ⟨p, n, d, rfl, ⟨dx, hp⟩, hn, hd, q⟩ := h
    refine ⟨_, PSs.nox (pss_cons (ps_if (pt_cmpR op_eq (pe_fld (pv 0) rfl) pe_int (nomark _)) (pss_one (ps_ret (pe_callTy call_str_int rfl T.str PyProof.Rows.boot_str (pa_cons (pe_fld (pv 0) rfl) pa_nil)))) pss_nil)
      (pss_one (ps_ret (pe_joined (.cons (pe_fmt (pe_fld (pv 0) rfl)) (.cons pe_str (.cons (pe_fmt (pe_fld (pv 0) rfl)) .nil))))))), ?_⟩
    have h1 := it_len hn
    have h2 := it_len hd
    refine ⟨_, rfl, p, C, dx, _, _, rfl, hp, T.cl, T.nB, rf_bottom _ _, rfl, _, rfl, ?_⟩
    refine ite2 (fun c => ?_) (fun c => ?_)
    · have c' : d = 1 := V.int.inj (of_decide_eq_true c)
      unfold txt at q
      rw [if_pos c'] at q
      exact ⟨_, rfl, p, C, dx, _, _, rfl, hp, T.cl, T.nT, rf_top _ _, n, rfl, lt1920 hn, q⟩
    · have c' : ¬ d = 1 := fun z => c (decide_eq_true (by rw [z]))
      unfold txt at q
      rw [if_neg c'] at q
      refine ⟨_, rfl, p, C, dx, _, _, rfl, hp, T.cl, T.nT, rf_top _ _, .inr ⟨n, rfl, lt1920 hn, _, rfl, ?_, ?_⟩⟩
      · rw [PySem.Str.empty_append]
        exact line _ (Nat.le_trans h1 (by decide))
      refine ⟨_, rfl, ?_, ?_⟩
      · rw [PySem.Str.empty_append, strLen_append, len1]
        exact line _ (Nat.le_trans (Nat.add_le_add_right h1 1) (by decide))
      refine ⟨_, rfl, p, C, dx, _, _, rfl, hp, T.cl, T.nB, rf_bottom _ _, .inr ⟨d, rfl, lt1920 hd, _, rfl, ?_, ?_⟩⟩
      · rw [PySem.Str.empty_append, strLen_append, strLen_append, len1]
        exact line _ (Nat.le_trans (Nat.add_le_add (Nat.add_le_add_right h1 1) h2) (by decide))
      · rw [PySem.Str.empty_append]
        exact q
theorem scRepr : FnScope ["self"] ["self"] (defScope sRepr) := ⟨rfl, rfl, rfl, by decide +kernel, rfl, by decide +kernel, by decide +kernel⟩
theorem ok_repr {f C : Addr} {fd : FuncData} (F : FnP K "__repr__" "Ratio.__repr__" sRepr [] f fd) (T : RT K mg C) : FnOk P w K mg base CX0 1 f fd ["self"] (spText shw C) := by
  refine F.ok scRepr (fun vs H Q E h => ?_) (fun cdv A outer s H vs Q E hr h => ?_)
  · obtain ⟨p, n, d, rfl, _⟩ := h
    rfl
  · obtain ⟨p, n, d, rfl, ⟨dx, hp⟩, hn, hd, q⟩ := h
    refine ⟨_, PSs.nox (pss_one (ps_ret (pe_joined (.cons pe_str (.cons (pe_fmt (pe_fld (pv 0) rfl)) (.cons pe_str (.cons (pe_fmt (pe_fld (pv 0) rfl)) (.cons pe_str .nil)))))))), ?_⟩
    have h1 := it_len hn
    have h2 := it_len hd
    refine ⟨_, rfl, ?_, ?_⟩
    · rw [PySem.Str.empty_append, len6]
      exact line _ (by decide)
    refine ⟨_, rfl, p, C, dx, _, _, rfl, hp, T.cl, T.nT, rf_top _ _, .inr ⟨n, rfl, lt1920 hn, _, rfl, ?_, ?_⟩⟩
    · rw [PySem.Str.empty_append, strLen_append, len6]
      exact line _ (Nat.le_trans (Nat.add_le_add_left h1 6) (by decide))
    refine ⟨_, rfl, ?_, ?_⟩
    · rw [PySem.Str.empty_append, strLen_append, strLen_append, len6, len2]
      exact line _ (Nat.le_trans (Nat.add_le_add_right (Nat.add_le_add_left h1 6) 2) (by decide))
    refine ⟨_, rfl, p, C, dx, _, _, rfl, hp, T.cl, T.nB, rf_bottom _ _, .inr ⟨d, rfl, lt1920 hd, _, rfl, ?_, ?_⟩⟩
    · rw [PySem.Str.empty_append, strLen_append, strLen_append, strLen_append, len6, len2]
      exact line _ (Nat.le_trans (Nat.add_le_add (Nat.add_le_add_right (Nat.add_le_add_left h1 6) 2) h2) (by decide))
    refine ⟨_, rfl, ?_, ?_⟩
    · rw [PySem.Str.empty_append, strLen_append, strLen_append, strLen_append, strLen_append, len6, len2, len3]
      exact line _ (Nat.le_trans (Nat.add_le_add_right (Nat.add_le_add (Nat.add_le_add_right (Nat.add_le_add_left h1 6) 2) h2) 1) (by decide))
    · rw [PySem.Str.empty_append]
      exact q
end
end Ra
namespace Ra
open PySem PySem.Spec PyProof.Rows L2 Ow Rm
abbrev sNumber : Stmt := top 12
/-- what a value is, as far as is asked -/
inductive Knd where
  | int (n : Int) | txt (z : Str) | rat | odd
def abc : Str := "abcdefghijklmnopqrstuvwxyz"
def nameOk (z : Str) : Bool := decide (1 ≤ z.length) && (decide (z.length ≤ 8) && z.cps.toList.all (fun c => decide (c ∈ abc.cps.toList)))
def isI : Knd → Bool
  | .int _ => true
  | _ => false
def isC : Knd → Bool
  | .int n => decide (0 ≤ n)
  | _ => false
def isN : Knd → Bool
  | .int _ => true
  | .rat => true
  | _ => false
def isS : Knd → Bool
  | .txt z => nameOk z
  | _ => false
def Kd (K : PySem.W.Frag) (C : Addr) (H : Hp) (x : V) : Knd → Prop
  | .int n => x = .int n
  | .txt z => x = .str z ∧ z.length ≤ sizeLine
  | .rat => TyX K H x (.ref C)
  | .odd => ∃ t a b, TyX K H x t ∧ PySem.W.kitOne K t (.type "int") = some a ∧ PySem.W.kitOne K t (.type "bool") = some b ∧ (a && !b) = false ∧ PySem.W.kitOne K t (.ref C) = some false ∧ PySem.W.kitOne K t (.type "str") = some false
/-- what is asked of the classes besides -/
structure KT (K : PySem.W.Frag) (mg : Str → Option Value) (C : Addr) : Prop where
  sC : PySem.W.kitOne K (.type "str") (.ref C) = some false
  Ci : PySem.W.kitOne K (.ref C) (.type "int") = some false
  Cb : PySem.W.kitOne K (.ref C) (.type "bool") = some false
  Cs : PySem.W.kitOne K (.ref C) (.type "str") = some false
  len : mg "len" = none
  all : mg "all" = none
section
variable {K : PySem.W.Frag} {mg : Str → Option Value} {C : Addr} {H : Hp} {x : V}
theorem kSI : PySem.W.kitOne K (.type "str") (.type "int") = some false := kit_ty (by decide +kernel)
theorem kSB : PySem.W.kitOne K (.type "str") (.type "bool") = some false := kit_ty (by decide +kernel)
theorem kSS : PySem.W.kitOne K (.type "str") (.type "str") = some true := kit_ty (by decide +kernel)
theorem kIS : PySem.W.kitOne K (.type "int") (.type "str") = some false := kit_ty (by decide +kernel)
theorem kd_int (T : KT K mg C) : ∀ {k : Knd}, Kd K C H x k → ∃ t a b, TyX K H x t ∧ PySem.W.kitOne K t (.type "int") = some a ∧ PySem.W.kitOne K t (.type "bool") = some b ∧ (a && !b) = isI k
  | .int n, h => by cases (show x = .int n from h); exact ⟨_, true, false, .base (.int _), kII, kIB, rfl⟩
  | .txt z, h => by obtain ⟨rfl, _⟩ := h; exact ⟨_, false, false, .base (.str _), kSI, kSB, rfl⟩
  | .rat, h => ⟨_, false, false, h, T.Ci, T.Cb, rfl⟩
  | .odd, h => by obtain ⟨t, a, b, h1, h2, h3, h4, _⟩ := h; exact ⟨t, a, b, h1, h2, h3, h4⟩
theorem kd_rat (T : KT K mg C) (R : RT K mg C) : ∀ {k : Knd}, Kd K C H x k → isI k = false → ∃ t, TyX K H x t ∧ PySem.W.kitOne K t (.ref C) = some (isN k)
  | .int n, h, e => nomatch e
  | .txt z, h, _ => by obtain ⟨rfl, _⟩ := h; exact ⟨_, .base (.str _), T.sC⟩
  | .rat, h, _ => ⟨_, h, R.kCC⟩
  | .odd, h, _ => by obtain ⟨t, a, b, h1, h2, h3, h4, h5, _⟩ := h; exact ⟨t, h1, h5⟩
/-- is it a text -/
def isT : Knd → Bool
  | .txt _ => true
  | _ => false
theorem kd_txt (T : KT K mg C) : ∀ {k : Knd}, Kd K C H x k → ∃ t, TyX K H x t ∧ PySem.W.kitOne K t (.type "str") = some (isT k)
  | .int n, h => by cases (show x = .int n from h); exact ⟨_, .base (.int _), kIS⟩
  | .txt z, h => by obtain ⟨rfl, _⟩ := h; exact ⟨_, .base (.str _), kSS⟩
  | .rat, h => ⟨_, h, T.Cs⟩
  | .odd, h => by obtain ⟨t, a, b, h1, _, _, _, _, h6⟩ := h; exact ⟨t, h1, h6⟩
def spKnd (K : PySem.W.Frag) (C : Addr) (ans : Knd → Bool) : Sp := fun vs H Q _ => ∃ x k, vs = [x] ∧ Kd K C H x k ∧ ∀ H', Same H H' → Q (.bl (ans k)) H'
end

section
variable {P : Program} {w : World} {K : PySem.W.Frag} {mg : Str → Option Value} {base : Heap}
theorem use_int {C : Addr} (T : KT K mg C) {x : V} {k : Knd} {H : Hp} {Q : VK} {E : XK} (h : Kd K C H x k) (q : Q (.bl (isI k)) H) : spInt K [x] H Q E := by
  obtain ⟨t, a, b, h1, h2, h3, h4⟩ := kd_int T h
  rw [← h4] at q
  exact ⟨x, t, a, b, rfl, h1, h2, h3, q⟩
theorem scNumber : FnScope ["value"] ["value"] (defScope sNumber) := ⟨rfl, rfl, rfl, by decide +kernel, rfl, by decide +kernel, by decide +kernel⟩
theorem ok_number {f C : Addr} {fd : FuncData} (F : FnP K "is_number" "is_number" sNumber [] f fd) (T : KT K mg C) (R : RT K mg C) (D : DInt P w K mg base) : FnOk P w K mg base CX0 2 f fd ["value"] (spKnd K C isN) := by
  refine F.ok scNumber (fun vs H Q E h => ?_) (fun cdv A outer s H vs Q E hr h => ?_)
  · obtain ⟨x, k, rfl, _⟩ := h
    rfl
  · obtain ⟨x, k, rfl, hk, q⟩ := h
    refine ⟨_, PSs.nox (pss_one (ps_ret (pe_or (pe_use D hr rfl (pa_cons (pv 0) pa_nil)) (pe_one (pe_callB call_isi (by rfl) R.isi boot_isinstance (pa_cons (pv 0) (pa_cons (pe_glob (v := .ref C) rfl R.mgC rfl) pa_nil))))))), ?_⟩
    obtain ⟨t, a, b, h1, h2, h3, h4⟩ := kd_int T hk
    refine ⟨_, rfl, x, t, a, b, rfl, h1, h2, h3, _, rfl, ?_⟩
    rw [h4]
    by_cases e : isI k = true
    · have n : isN k = true := by cases k <;> first | rfl | exact nomatch e
      rw [e]
      rw [n] at q
      exact iteT (q _ (Same.refl _))
    · have e' : isI k = false := by cases h : isI k with | true => exact absurd h e | false => rfl
      obtain ⟨t, h1, h2⟩ := kd_rat T R hk e'
      rw [e']
      refine iteF ?_
      exact ⟨_, rfl, x, .ref C, t, .ref C, _, rfl, .own C, h1, h2, q _ (Same.refl _)⟩
end
end Ra
namespace Ra
open PySem PySem.Spec PyProof.Rows L2 Ow Rm
theorem tYes_at {σ : L2.St} {H : Hp} {A B : Hp → Prop} (h : A H) : tYes σ H fun b H3 => if b = true then A H3 else B H3 := by
  show (if true = true then A H else B H)
  rw [if_pos rfl]
  exact h
abbrev sMany : Stmt := top 19
abbrev sCheck : Stmt := top 20
abbrev sTInit : Stmt := inClass (top 21) 0
section
variable {P : Program} {w : World} {K : PySem.W.Frag} {mg : Str → Option Value} {base : Heap}
/-! ### is_below -/
def spBelow (C : Addr) : Sp := fun vs H Q _ => ∃ p v n d m e, vs = [.ref p, v] ∧ Nm C H (.ref p) n d ∧ Nm C H v m e ∧ ∀ H', Same H H' → Q (.bl (decide ((minus (n, d) (m, e)).1.sign < 0))) H'
theorem scBelow : FnScope ["self", "other"] ["self", "other"] (defScope sBelow) := ⟨rfl, rfl, rfl, by decide +kernel, rfl, by decide +kernel, by decide +kernel⟩
theorem ok_below {f C : Addr} {fd : FuncData} (F : FnP K "is_below" "Ratio.is_below" sBelow [] f fd) (T : RT K mg C) (O : OpX P w K mg base C .Sub 6 (spBin minus C)) (pS : PS_ P w K mg base C) : FnOk P w K mg base CX0 7 f fd ["self", "other"] (spBelow C) := by
  refine F.ok scBelow (fun vs H Q E h => ?_) (fun cdv A outer s H vs Q E hr h => ?_)
  · obtain ⟨p, v, n, d, m, e, rfl, _⟩ := h
    rfl
  · obtain ⟨p, v, n, d, m, e, rfl, hp, hv, q⟩ := h
    refine ⟨_, PSs.nox (pss_one (ps_ret (pe_cmpR op_lt (pe_prp pS (pe_op (op_nm O T.num hr) (pv 0) (pv 1)) T.cl (hr.mono (by decide)) rfl) pe_int (nomark _)))), ?_⟩
    refine ⟨_, rfl, _, rfl, p, _, _, _, _, rfl, hp.rat, hv.at_, p, _, _, _, _, _, rfl, hp, hv, fun z H1 hz s1 => ?_⟩
    obtain ⟨dz, h1⟩ := id hz
    exact ⟨z, dz, _, rfl, h1, z, _, _, rfl, hz, _, _, rfl, rfl, q _ s1⟩
/-! ### check_many -/
def spMany (K : PySem.W.Frag) : Sp := fun vs H Q _ => ∃ (t : Addr) (xs : List V), vs = [.ref t] ∧ SqT K H t xs ∧ 1 ≤ xs.length ∧ xs.length ≤ 5 ∧ Q .non H
theorem scMany : FnScope ["numbers"] ["numbers"] (defScope sMany) := ⟨rfl, rfl, rfl, by decide +kernel, rfl, by decide +kernel, by decide +kernel⟩
theorem ok_many {f : Addr} {fd : FuncData} (F : FnP K "check_many" "check_many" sMany [] f fd) (hl : mg "len" = none) (hp : ∃ t, mg "PLACES" = some (.int 5 t)) : FnOk P w K mg base CX0 1 f fd ["numbers"] (spMany K) := by
  obtain ⟨tp, hp⟩ := hp
  refine F.ok scMany (fun vs H Q E h => ?_) (fun cdv A outer s H vs Q E hr h => ?_)
  · obtain ⟨t, xs, rfl, _⟩ := h
    rfl
  · obtain ⟨t, xs, rfl, ht, h1, h5, q⟩ := h
    refine ⟨_, PSs.nox (pss_one (ps_if (pt_not (pt_chain op_le op_le pe_int (pe_callB call_len_seq (by rfl) hl PySem.boot_len (pa_cons (pv 0) pa_nil)) (pe_glob (v := .int 5) rfl hp ⟨tp, rfl⟩))) pss_never pss_nil)), ?_⟩
    refine ⟨_, rfl, t, xs, rfl, .inr ht, _, _, rfl, rfl, _, rfl, ?_⟩
    rw [decide_eq_true (show (1 : Int) ≤ (xs.length : Int) by omega)]
    refine iteT ?_
    refine ⟨_, _, rfl, rfl, _, rfl, ?_⟩
    rw [decide_eq_true (show (xs.length : Int) ≤ 5 by omega)]
    refine iteF ?_
    exact q
/-! ### check_points, of integers that go down -/
structure Desc (ns : List Int) : Prop where
  one : 1 ≤ ns.length
  five : ns.length ≤ 5
  pos : ∀ (i : Nat) n, ns[i]? = some n → 0 ≤ n ∧ n < 1000
  first : ∀ n, ns[0]? = some n → n ≠ 0
  down : ∀ (i : Nat) n m, ns[i]? = some n → ns[i + 1]? = some m → m ≤ n
theorem bd1000 {n : Int} (h0 : 0 ≤ n) (h : n < 1000) : Bd 2500 n := by
  refine Bd.mono (j := 10) ?_ (by decide)
  unfold Bd
  have : (2 : Nat) ^ 10 = 1024 := by decide
  omega
theorem minus_int (a b : Int) : (minus (a, 1) (b, 1)).1 = a - b := by
  unfold minus
  simp only [Int.mul_one]
  rw [low_int]
def spCheck (K : PySem.W.Frag) : Sp := fun vs H Q _ => ∃ (t : Addr) (ns : List Int), vs = [.ref t] ∧ SqT K H t (ns.map V.int) ∧ Desc ns ∧ ∀ H', Same H H' → Q .non H'
theorem scCheck : FnScope ["points", "position", "point"] ["points"] (defScope sCheck) := ⟨rfl, rfl, rfl, by decide +kernel, rfl, by decide +kernel, by decide +kernel⟩
theorem same_sqt {H H' : Hp} {a : Addr} {xs : List V} (s : Same H H') (h : SqT K H a xs) : SqT K H' a xs := SqT.ext h s
theorem below_no (C : Addr) : (rf 0 1).lookup ("is_below" : Str) = none := rf_no 0 1 (by decide +kernel) (by decide +kernel)
theorem ok_check {f fb C : Addr} {fd fbd : FuncData} (F : FnP K "check_points" "check_points" sCheck [] f fd) (T : RT K mg C) (he : mg "enumerate" = none) (D : Dfn P w K mg base 1 "check_many" ["numbers"] (spMany K))
    (N : Dfn P w K mg base 2 "is_number" ["value"] (spKnd K C isN)) (A_ : DAs P w K mg base C) (pS : PS_ P w K mg base C) (mt : Meth K C "is_below" fb) (Fb : FnOk P w K mg base CX0 7 fb fbd ["self", "other"] (spBelow C)) (bb : Binds K fbd ["self", "other"] []) :
    FnOk P w K mg base CX0 8 f fd ["points"] (spCheck K) := by
  refine F.ok scCheck (fun vs H Q E h => ?_) (fun cdv A outer s H vs Q E hr h => ?_)
  · obtain ⟨t, ns, rfl, _⟩ := h
    rfl
  · obtain ⟨t, ns, rfl, ht, hd, q⟩ := h
    have hr1 := hr.mono (by decide : 1 ≤ 7)
    have hr2 := hr.mono (by decide : 2 ≤ 7)
    have hr4 := hr.mono (by decide : 4 ≤ 7)
    refine ⟨_, PSs.nox (pss_cons (ps_expr (pe_use D hr1 rfl (pa_cons (pv 0) pa_nil)))
      (pss_one (ps_for PassesOwn.never rfl (pi_enumT rfl he (pa_cons (pv 0) pa_nil)) (pg_tup (by rfl) (pgs_cons (pg_name (i := 1) scCheck.nd rfl (.inl rfl)) (pgs_cons (pg_name (i := 2) scCheck.nd rfl (.inl rfl)) pgs_nil)))
        (pss_cons (ps_if (PW.pt (pw_or (pt_not (pt_val (pe_use N hr2 rfl (pa_cons (pv 2) pa_nil)))) (pw_or1 (pt_cmpR op_lt (pe_prp pS (pe_use A_ hr4 rfl (pa_cons (pv 2) pa_nil)) T.cl hr2 rfl) pe_int (nomark _))))) pss_never pss_nil)
        (pss_cons (ps_if (PW.pt (pw_and (pt_cmpR op_eq (pv 1) pe_int (nomark _)) (pw_and1 (pt_cmpR op_eq (pe_prp pS (pe_use A_ hr4 rfl (pa_cons (pv 2) pa_nil)) T.cl hr2 rfl) pe_int (nomark _))))) pss_never pss_nil)
        (pss_one (ps_if (PW.pt (pw_and (pt_cmpR op_gt (pv 1) pe_int (nomark _)) (pw_and1 (pt_val (pe_meth (pe_use A_ hr4 rfl (pa_cons (pe_ix ix_tup (pv 0) (pe_op op_sub (pv 1) pe_int) (fun _ _ => rfl)) pa_nil)) T.cl mt Fb hr bb .nil pass0 (pa_cons (pv 2) pa_nil)))))) pss_never pss_nil))))))), ?_⟩
    have hl : (ns.map V.int).length = ns.length := List.length_map ..
    refine ⟨_, rfl, t, _, rfl, ht, by rw [hl]; exact hd.one, by rw [hl]; exact hd.five, ?_⟩
    refine ⟨_, rfl, t, _, rfl, ht, ?_⟩
    refine for_it walk_enumT (fun i σ H' => ∃ v1 v2 : Option V, σ = [some (.ref t), v1, v2] ∧ Same H H') ⟨_, _, rfl, Same.refl _⟩ (fun i σ H' _ h => by obtain ⟨_, _, _, s1⟩ := h; exact same_sqt s1 ht) ?_ ?_
    · rintro i x σ H1 H2 hi ⟨v1, v2, rfl, s1⟩ ⟨T1, a, b, rfl, hT, rfl, ha, hb⟩
      have s2 : Same H (upd H1 T1 (.tup [a, b])) := s1.trans (same_upd hT)
      cases ha
      replace hb : (ns.map V.int)[i]? = some b := hb
      have hin : i < ns.length := by rw [hl] at hi; exact hi
      rw [List.getElem?_map, List.getElem?_eq_getElem hin] at hb
      cases hb
      have hn := List.getElem?_eq_getElem hin
      have hp := hd.pos i _ hn
      have sg0 : ¬ (ns[i].sign < 0) := fun z => by
        have := Int.sign_neg_iff.mp z
        omega
      refine ⟨T1, _, rfl, SqT.of upd_same, rfl, _, _, rfl, _, _, rfl, rfl, ?_⟩
      refine ⟨_, rfl, .int ns[i], .int ns[i], rfl, rfl, fun H3 s3 => ⟨_, rfl, ?_⟩⟩
      refine iteF ?_
      refine ⟨_, rfl, .int ns[i], ns[i], 1, rfl, .inr ⟨rfl, rfl⟩, fun r H4 hr4' s4 => ?_⟩
      obtain ⟨dx, h4⟩ := id hr4'
      refine ⟨r, dx, _, rfl, h4, r, _, _, rfl, hr4', _, _, rfl, rfl, _, rfl, ?_⟩
      rw [decide_eq_false sg0]
      refine iteF ?_
      refine ⟨_, rfl, rfl, _, rfl, ?_⟩
      have s24 := (s2.trans s3).trans s4
      rcases i with _ | i
      · refine iteT ?_
        refine ⟨_, rfl, .int ns[0], ns[0], 1, rfl, .inr ⟨rfl, rfl⟩, fun r5 H5 hr5 s5 => ?_⟩
        obtain ⟨dx5, h5⟩ := id hr5
        refine ⟨r5, dx5, _, rfl, h5, r5, _, _, rfl, hr5, rfl, _, rfl, ?_⟩
        rw [decide_eq_false (fun z => hd.first _ hn (Int.sign_eq_zero_iff_zero.mp (V.int.inj z)))]
        refine iteF ?_
        refine ⟨_, rfl, _, _, rfl, rfl, _, rfl, ?_⟩
        refine iteF ?_
        refine iteF ?_
        exact ⟨_, _, rfl, s24.trans s5⟩
      · rw [decide_eq_false (fun z => by have := V.int.inj z; omega)]
        refine iteF ?_
        refine iteF ?_
        refine ⟨_, rfl, _, _, rfl, rfl, _, rfl, ?_⟩
        rw [decide_eq_true (show (0 : Int) < ((i + 1 : Nat) : Int) by omega)]
        refine iteT ?_
        have hin' : i < ns.length := by omega
        have hn' := List.getElem?_eq_getElem hin'
        have hat : atI (ns.map V.int) (((i + 1 : Nat) : Int) - 1) = some (V.int ns[i]) := by
          rw [show ((i + 1 : Nat) : Int) - 1 = ((i : Nat) : Int) by omega]
          exact atI_nat (by rw [List.getElem?_map, hn']; rfl)
        have hp' := hd.pos i _ hn'
        refine ⟨_, rfl, _, rfl, _, _, rfl, rfl, t, _, _, .int ns[i], rfl, rfl, same_sqt s24 ht, hat, .int ns[i], ns[i], 1, rfl, .inr ⟨rfl, rfl⟩, fun r5 H5 hr5 s5 => ?_⟩
        obtain ⟨dx5, h5⟩ := id hr5
        refine ⟨r5, dx5, _, rfl, h5, rf_no _ _ (by decide +kernel) (by decide +kernel), _, rfl, r5, _, ns[i], 1, ns[i + 1], 1, rfl, ⟨.inl ⟨r5, rfl, hr5⟩, lw_int _, bd1000 hp'.1 hp'.2, bd_one (by decide)⟩, nm_int (bd1000 hp.1 hp.2), fun H6 s6 => ⟨_, rfl, ?_⟩⟩
        have hdn := hd.down i _ _ hn' hn
        rw [minus_int, decide_eq_false (fun z => by have := Int.sign_neg_iff.mp z; omega)]
        refine iteF ?_
        exact ⟨_, _, rfl, (s24.trans s5).trans s6⟩
    · rintro σ H1 ⟨v1, v2, rfl, s1⟩
      exact q _ s1
end
end Ra
namespace Ra
open PySem PySem.Spec PyProof.Rows L2 Ow Rm
/-- the class Table -/
structure TT (K : PySem.W.Frag) (mg : Str → Option Value) (D : Addr) : Prop where
  cl : Cls K D
  nP : NoAttr K D "_points"
  mgT : mg "Table" = some (.ref D)
  len : mg "len" = none
  range : mg "range" = none
  places : ∃ t, mg "PLACES" = some (.int 5 t)
section
variable {P : Program} {w : World} {K : PySem.W.Frag} {mg : Str → Option Value} {base : Heap}
def spTab0 (K : PySem.W.Frag) (D : Addr) : Sp := fun vs H Q _ => ∃ (x t dx : Addr) (ns : List Int), vs = [.ref x, .ref t] ∧ H x = some (.ins D dx []) ∧ SqT K H t (ns.map V.int) ∧ Desc ns ∧
  ∀ H' fs, H' x = some (.ins D dx fs) → (∀ b o, b ≠ x → H b = some o → H' b = some o) → Q .non H'
abbrev nTI : List Str := ["self", "points", "told", "point", "_"]
theorem scTI : FnScope nTI ["self", "points"] (defScope sTInit) := ⟨rfl, rfl, rfl, by decide +kernel, rfl, by decide +kernel, by decide +kernel⟩
theorem ok_tinit {f C D : Addr} {fd : FuncData} (F : FnP K "__init__" "Table.__init__" sTInit [] f fd) (T : RT K mg C) (U : TT K mg D) (M : RMk P w K mg base C) (A_ : DAs P w K mg base C) (G : Dfn P w K mg base 8 "check_points" ["points"] (spCheck K)) :
    FnR P w K mg base CX0 9 f (fun vs H Q E => ∃ x dx ns, vs = .ref x :: (ns.map V.int) ∧ H x = some (.ins D dx []) ∧ Desc ns ∧ ∀ H' fs, H' x = some (.ins D dx fs) → (∀ b o, b ≠ x → H b = some o → H' b = some o) → Q .non H') := by
  obtain ⟨oc, od, dV, kV, doc, pm, an, cdv, ct, osl, rfl, lk, hcd, hD, _⟩ := F.ex
  have hdV : dV = .none := by
    rcases hD with ⟨_, e⟩ | ⟨e, _⟩
    · exact e
    · exact absurd rfl e
  subst hdV
  obtain ⟨tp, hpl⟩ := U.places
  have R := StX.fn_star (k := 8) (sp := spTab0 K D) (CX := CX0) (P := P) (w := w) (mg := mg) (base := base) (ps := ["self"]) (pv := "points") lk hcd scTI StX.cxUp_none
    (StX.bind_star1 (B := fun us => bindArgs _ ⟨us, []⟩) (fun a => rfl) (fun a r rs => rfl)) (fun A outer s H vs Q E hr h => ?_)
  · refine R.imp fun vs H Q E h => ?_
    obtain ⟨x, dx, ns, rfl, hx, hd, q⟩ := h
    refine ⟨[.ref x], ns.map V.int, rfl, rfl, ?_, fun p hp => ?_⟩
    · rw [List.length_map]
      exact Nat.le_trans hd.five (by decide)
    · refine ⟨x, p, dx, ns, rfl, (same_upd hp) _ _ hx, SqT.of upd_same, hd, fun H' fs h1 h2 => q H' fs h1 fun b o nb eb => h2 b o nb ((same_upd hp) _ _ eb)⟩
  · obtain ⟨x, t, dx, ns, rfl, hx, ht, hd, q⟩ := h
    have hr3 := hr.mono (by decide : 3 ≤ 8)
    have hr4 := hr.mono (by decide : 4 ≤ 8)
    refine ⟨_, PSs.nox (pss_cons (ps_expr (pe_use G hr rfl (pa_cons (pv 1) pa_nil)))
      (pss_cons (ps_setLc (i := 2) rfl scTI.nd rfl rfl (by rfl) (pi_tup (pv 1)) (blkOk_by (own := [("point", 3)]) (by show blkC nTI (defScope sTInit) _ _ = true; decide +kernel))
        (fun _ _ _ _ _ => pg_name (i := 3) scTI.nd rfl (.inl rfl)) (fun _ _ _ _ _ => pts_nil) (fun _ _ _ _ _ => pe_use A_ hr4 rfl (pa_cons (pv 3) pa_nil)))
      (pss_one (ps_fld (pv 0) (pe_op op_cat (pv 2) (pe_lc rfl scTI.nd (pi_range1 rfl U.range (pa_cons (pe_op op_sub (pe_glob (v := .int 5) rfl hpl ⟨tp, rfl⟩) (pe_callB call_len_seq (by rfl) U.len PySem.boot_len (pa_cons (pv 2) pa_nil))) pa_nil))
        (blkOk_by (own := [("_", 4)]) (by show blkC nTI (defScope sTInit) _ _ = true; decide +kernel))
        (fun _ _ _ _ _ => pg_name (i := 4) scTI.nd rfl (.inl rfl)) (fun _ _ _ _ _ => pts_nil) (fun _ _ _ _ _ => pe_rat1 M hr3 rfl T.mgC pe_int))) rfl)))), ?_⟩
    have hl : (ns.map V.int).length = ns.length := List.length_map ..
    refine ⟨_, rfl, t, ns, rfl, ht, hd, fun H1 s1 => ?_⟩
    refine ⟨_, rfl, t, rfl, ⟨_, same_sqt s1 ht⟩, fun L hL => ?_⟩
    refine lc_it walk_tup (fun i H' => Same H1 H' ∧ ∃ acc, H' L = some (.lst acc) ∧ acc.length = i) ⟨same_upd hL, [], upd_same, rfl⟩ (fun i H' _ h => same_sqt (s1.trans h.1) ht) ?_ ?_
    · rintro i v H2 H3 hi ⟨s2, acc, ha, hlen⟩ ⟨rfl, hv⟩
      have hin : i < ns.length := by rw [hl] at hi; exact hi
      rw [List.getElem?_map, List.getElem?_eq_getElem hin] at hv
      cases hv
      refine ⟨rfl, tYes_at ?_⟩
      refine ⟨_, rfl, .int ns[i], ns[i], 1, rfl, .inr ⟨rfl, rfl⟩, fun q H4 hq s4 => ⟨acc, s4 _ _ ha, ?_, ?_, acc ++ [.ref q], upd_same, ?_⟩⟩
      · have := hd.five
        exact Nat.lt_of_le_of_lt (show acc.length ≤ 1000 by omega) (by decide)
      · intro b o e
        rw [upd_ne (ne_of_none e hL)]
        exact s4 _ _ (s2 _ _ e)
      · rw [List.length_append, hlen]
        rfl
    · rintro H2 ⟨s2, acc, ha, hlen⟩
      rw [hl] at hlen
      have h5 := hd.five
      refine ⟨_, rfl, _, rfl, L, acc, rfl, .inl (SqL.of ha), _, _, rfl, rfl, _, rfl, ?_, ?_, fun Z hZ => ?_⟩
      · omega
      · omega
      refine lc_range (lo := 0) (n := ((5 : Int) - (acc.length : Int)).toNat) (fun i H' => Same H2 H' ∧ ∃ zs, H' Z = some (.lst zs) ∧ zs.length = i) ⟨same_upd hZ, [], upd_same, rfl⟩ ?_ ?_
      · rintro i H3 hi ⟨s3, zs, hz, hzl⟩
        refine ⟨rfl, tYes_at ?_⟩
        refine rat_new (by decide) (bd_one (by decide)) fun p H4 hp s4 _ => ⟨zs, s4 _ _ hz, ?_, ?_, zs ++ [.ref p], upd_same, ?_⟩
        · exact Nat.lt_of_le_of_lt (show zs.length ≤ 1000 by omega) (by decide)
        · intro b o e
          rw [upd_ne (ne_of_none e hZ)]
          exact s4 _ _ (s3 _ _ e)
        · rw [List.length_append, hzl]
          rfl
      · rintro H3 ⟨s3, zs, hz, hzl⟩
        refine ⟨L, Z, acc, zs, rfl, rfl, s3 _ _ ha, hz, ?_, fun p hp => ?_⟩
        · exact Nat.le_trans (show acc.length + zs.length ≤ 1000 by omega) (by decide)
        · have s04 : Same H (upd H3 p (.lst (acc ++ zs))) := ((s1.trans s2).trans s3).trans (same_upd hp)
          refine ⟨_, rfl, x, D, dx, [], rfl, s04 _ _ hx, U.cl, U.nP, (by show 0 < 1000; decide), ?_⟩
          refine q _ _ upd_same fun b o nb eb => ?_
          rw [upd_ne nb]
          exact s04 _ _ eb
end
end Ra
namespace La
open PySem PySem.Spec PyProof.Rows L2 Ow Rm Ra

abbrev sPot : Stmt := top 23
abbrev sDraw : Stmt := top 24
abbrev sPick : Stmt := top 25
abbrev sCommon : Stmt := top 26
abbrev sLow : Stmt := top 27
abbrev sPlus : Stmt := top 28
abbrev sMinus : Stmt := top 29
abbrev sTimes : Stmt := top 30
abbrev sInteger : Stmt := top 31
abbrev sParts : Stmt := top 32
abbrev sBeside : Stmt := top 33
abbrev sMade : Stmt := top 34
abbrev sTwoR : Stmt := top 35
abbrev sWholeR : Stmt := top 36
abbrev sRight : Stmt := top 37
abbrev sLaw : Stmt := top 38

structure LT (mg : Str → Option Value) : Prop where
  len : mg "len" = none
  abs : mg "abs" = none
  max : mg "max" = none
  min : mg "min" = none
  int : mg "int" = none
  dm : mg "divmod" = none
  range : mg "range" = none
  all : mg "all" = none
  zip : mg "zip" = none
  repr : mg "repr" = none
  str : mg "str" = none
  isi : mg "isinstance" = none

/-- a pot: two numbers, the first one from 0 on -/
def Pot (H : Hp) (p : Addr) : Prop := ∃ a b : Int, H p = some (.lst [.int a, .int b]) ∧ 0 ≤ a
/-- all but the pot at p is as it was -/
structure Stp (p : Addr) (H H' : Hp) : Prop where
  keep : ∀ q o, q ≠ p → H q = some o → H' q = some o
  pot : Pot H' p
theorem Stp.trans {p : Addr} {H H1 H2 : Hp} (a : Stp p H H1) (b : Stp p H1 H2) : Stp p H H2 := ⟨fun q o n e => b.keep q o n (a.keep q o n e), b.pot⟩
theorem Stp.refl {p : Addr} {H : Hp} (h : Pot H p) : Stp p H H := ⟨fun _ _ _ e => e, h⟩
theorem Pot.same {H H' : Hp} {p : Addr} (h : Pot H p) (s : Same H H') : Pot H' p := by
  obtain ⟨a, b, e, h0⟩ := h
  exact ⟨a, b, s _ _ e, h0⟩
theorem Stp.of {p : Addr} {H H' : Hp} (s : Same H H') (h : Pot H p) : Stp p H H' := ⟨fun _ _ _ e => s _ _ e, h.same s⟩
theorem Stp.sm {p : Addr} {H H1 H2 : Hp} (a : Stp p H H1) (s : Same H1 H2) : Stp p H H2 := a.trans (Stp.of s a.pot)

section
variable {P : Program} {w : World} {K : PySem.W.Frag} {mg : Str → Option Value} {base : Heap}

/-! ### _law_pot -/
def spPot (K : PySem.W.Frag) : Sp := fun vs H Q _ => ∃ (a : Addr) (ns : List Int) (k : Int), vs = [.ref a, .int k] ∧ SqL K H a (ns.map V.int) ∧ 0 ≤ k ∧ ∀ p x y, 0 ≤ x → H p = none → Q (.ref p) (upd H p (.lst [.int x, .int y]))
theorem scPot : FnScope ["_law_script", "_law_k", "_law_cell"] ["_law_script", "_law_k"] (defScope sPot) := ⟨rfl, rfl, rfl, by decide +kernel, rfl, by decide +kernel, by decide +kernel⟩
theorem ok_pot {f : Addr} {fd : FuncData} (F : FnP K "_law_pot" "_law_pot" sPot [] f fd) (T : LT mg) : FnOk P w K mg base CX0 1 f fd ["_law_script", "_law_k"] (spPot K) := by
  refine F.ok scPot (fun vs H Q E h => ?_) (fun cdv A outer s H vs Q E hr h => ?_)
  · obtain ⟨a, ns, k, rfl, _⟩ := h
    rfl
  · obtain ⟨a, ns, k, rfl, hs, hk, q⟩ := h
    refine ⟨_, PSs.nox (pss_cons (ps_set (i := 2) scPot.nd rfl (Or.inl rfl) (pe_ifExp (pt_cmpR op_lt (pv 1) (pe_callB call_len_seq (by rfl) T.len PySem.boot_len (pa_cons (pv 0) pa_nil)) (nomark _))
        (pe_callB call_abs (by rfl) T.abs PyProof.Rows.boot_abs (pa_cons (pe_ix ix_list (pv 0) (pv 1) (fun _ _ => rfl)) pa_nil))
        (pe_op op_add (pe_op op_mul pe_int (pv 1)) pe_int)))
      (pss_one (ps_ret (pe_lst (pa_cons (pe_callB (call_max2 rfl) (by rfl) T.max PyProof.Rows.boot_max (pa_cons pe_int (pa_cons (pe_op op_sub (pv 2) (pe_op op_pow pe_int pe_int)) pa_nil)))
        (pa_cons (pe_op op_add (pe_op op_mod (pe_callTy call_int1 rfl T.int PyProof.Rows.boot_int (pa_cons
          (pe_op op_add (pe_op op_add (pe_op op_mul (pe_op op_mod (pe_callTy call_int1 rfl T.int PyProof.Rows.boot_int (pa_cons (pv 2) pa_nil)) pe_int) pe_int) (pe_op op_mul pe_int (pv 1))) pe_int) pa_nil)) pe_int) pe_int) pa_nil)))))), ?_⟩
    have fin : ∀ c : Int, (tRet (tLst (tCons (tCB (fun xs H Q => ∃ i j, xs = [V.int i, V.int j] ∧ Q (.int (if j > i then j else i)) H) (tCons (tC (.int 0)) (tCons (tOp (rI0 fun i j => .int (i - j)) (tVar 2) (tOp (rI CPow fun i j => .int (i ^ j.toNat)) (tC (.int 10)) (tC (.int 18)))) tNil)))
        (tCons (tOp (rI0 fun i j => .int (i + j)) (tOp (rI (fun _ j => 0 < j) fun i j => .int (i % j)) (tCB (fun xs H Q => (∃ i, xs = [V.int i] ∧ Q (.int i) H) ∨ ∃ k, xs = [V.bl k] ∧ Q (.int (if k then 1 else 0)) H) (tCons
          (tOp (rI0 fun i j => .int (i + j)) (tOp (rI0 fun i j => .int (i + j)) (tOp (rI CMul fun i j => .int (i * j)) (tOp (rI (fun _ j => 0 < j) fun i j => .int (i % j)) (tCB (fun xs H Q => (∃ i, xs = [V.int i] ∧ Q (.int i) H) ∨ ∃ k, xs = [V.bl k] ∧ Q (.int (if k then 1 else 0)) H) (tCons (tVar 2) tNil)) (tC (.int 2147483563))) (tC (.int 40361))) (tOp (rI CMul fun i j => .int (i * j)) (tC (.int 9103)) (tVar 1))) (tC (.int 71))) tNil)) (tC (.int 2147483497))) (tC (.int 1))) tNil))))
        { nx := fun _ H' => Q .non H', rt := Q } [some (.ref a), some (.int k), some (.int c)] H := by
      intro c
      refine ⟨_, rfl, _, _, rfl, rfl, ⟨by decide, by decide, by decide⟩, _, _, rfl, rfl, _, _, rfl, ?_⟩
      refine ⟨_, rfl, .inl ⟨_, rfl, _, _, rfl, rfl, (by show (0 : Int) < 2147483563; decide), _, _, rfl, rfl, .inr ⟨by decide, by decide⟩, ?_⟩⟩
      refine ⟨_, rfl, _, _, rfl, rfl, .inl ⟨by decide, by decide⟩, _, _, rfl, rfl, _, _, rfl, rfl, .inl ⟨_, rfl, _, _, rfl, rfl, (by show (0 : Int) < 2147483497; decide), _, _, rfl, rfl, (by show 2 ≤ sizeLine; decide), fun p hp => ?_⟩⟩
      refine q p _ _ ?_ hp
      by_cases h : c - 10 ^ (18 : Int).toNat > 0
      · rw [if_pos h]; omega
      · rw [if_neg h]; omega
    refine ⟨_, rfl, _, rfl, a, _, rfl, .inl hs, _, _, rfl, rfl, _, rfl, ?_⟩
    refine ite2 (fun c => ?_) (fun c => ?_)
    · have c' : k < ((ns.map V.int).length : Int) := of_decide_eq_true c
      rw [List.length_map] at c'
      obtain ⟨j, rfl⟩ : ∃ j : Nat, k = (j : Int) := ⟨k.toNat, by omega⟩
      have hj : j < ns.length := by omega
      refine ⟨_, rfl, _, rfl, a, _, _, _, rfl, rfl, hs, atI_nat (v := V.int ns[j]) (by rw [List.getElem?_map, List.getElem?_eq_getElem hj]; rfl), _, rfl, ?_⟩
      exact fin _
    · refine ⟨_, rfl, _, _, rfl, rfl, .inl ⟨by decide, by decide⟩, _, _, rfl, rfl, ?_⟩
      exact fin _

/-! ### _law_draw -/
def spDraw : Sp := fun vs H Q _ => ∃ (p : Addr) (m : Int), vs = [.ref p, .int m] ∧ Pot H p ∧ 0 < m ∧ Bd 8000 m ∧ ∀ r H', 0 ≤ r → r < m → Stp p H H' → Q (.int r) H'
theorem scDraw : FnScope ["_law_pot_here", "_law_many", "_law_digit"] ["_law_pot_here", "_law_many"] (defScope sDraw) := ⟨rfl, rfl, rfl, by decide +kernel, rfl, by decide +kernel, by decide +kernel⟩
theorem stp_set {p : Addr} {H : Hp} {a b : Int} (h : 0 ≤ a) {o : HO} {H1 : Hp} (k : ∀ q u, q ≠ p → H q = some u → H1 q = some u) : Stp p H (upd H1 p (.lst [.int a, .int b])) :=
  ⟨fun q u n e => by rw [upd_ne n]; exact k q u n e, ⟨a, b, upd_same, h⟩⟩
theorem ok_draw {f : Addr} {fd : FuncData} (F : FnP K "_law_draw" "_law_draw" sDraw [] f fd) (T : LT mg) : FnOk P w K mg base CX0 1 f fd ["_law_pot_here", "_law_many"] spDraw := by
  refine F.ok scDraw (fun vs H Q E h => ?_) (fun cdv A outer s H vs Q E hr h => ?_)
  · obtain ⟨p, m, rfl, _⟩ := h
    rfl
  · obtain ⟨p, m, rfl, ⟨a, b, hp, h0⟩, hm, bm, q⟩ := h
    have ix0 : ∀ x y : Int, atI [V.int x, V.int y] 0 = some (.int x) := fun x y => rfl
    have ix1 : ∀ x y : Int, atI [V.int x, V.int y] 1 = some (.int y) := fun x y => rfl
    refine ⟨_, PSs.nox (pss_cons (ps_if (pt_cmpR op_gt (pe_ix ix_list (pv 0) pe_int (fun _ _ => rfl)) pe_int (nomark _))
        (pss_cons (ps_asg (pe_callB call_divmodW (by rfl) T.dm PyProof.Rows.boot_divmod (pa_cons (pe_ix ix_list (pv 0) pe_int (fun _ _ => rfl)) (pa_cons (pv 1) pa_nil)))
          (pg_tup (by rfl) (pgs_cons (pg_sub (pv 0) pe_int set_list) (pgs_cons (pg_name (i := 2) scDraw.nd rfl (.inl rfl)) pgs_nil))))
        (pss_one (ps_ret (pv 2)))) pss_nil)
      (pss_cons (ps_asg (pe_op op_mod (pe_callTy call_int1 rfl T.int PyProof.Rows.boot_int (pa_cons (pe_op op_add (pe_op op_mul (pe_ix ix_list (pv 0) pe_int (fun _ _ => rfl)) pe_int) pe_int) pa_nil)) pe_int) (pg_sub (pv 0) pe_int set_list))
      (pss_one (ps_ret (pe_op op_mod (pe_callTy call_int1 rfl T.int PyProof.Rows.boot_int (pa_cons (pe_op op_fdiv (pe_op op_mod (pe_callTy call_int1 rfl T.int PyProof.Rows.boot_int (pa_cons (pe_op op_mul (pe_ix ix_list (pv 0) pe_int (fun _ _ => rfl)) (pe_ix ix_list (pv 0) pe_int (fun _ _ => rfl))) pa_nil)) pe_int) pe_int) pa_nil)) (pv 1)))))), ?_⟩
    refine ⟨_, rfl, p, _, _, _, rfl, rfl, SqL.of hp, ix0 _ _, _, _, rfl, rfl, _, rfl, ?_⟩
    refine ite2 (fun c => ?_) (fun c => ?_)
    · refine ⟨_, rfl, p, _, _, _, rfl, rfl, SqL.of hp, ix0 _ _, _, rfl, _, _, rfl, ⟨hm, PyProof.noPylong_of_log2 (Nat.lt_trans (bm.log2 (by decide)) (by decide))⟩, fun t ht => ?_⟩
      have ntp : p ≠ t := ne_of_none hp ht
      refine ⟨t, _, rfl, SqT.of upd_same, rfl, _, _, rfl, _, rfl, p, _, _, _, rfl, rfl, (by rw [upd_ne ntp]; exact hp), rfl, _, _, rfl, rfl, ?_⟩
      refine ⟨_, rfl, q _ _ (Int.emod_nonneg _ (by omega)) (Int.emod_lt_of_pos _ hm) ?_⟩
      exact stp_set (o := .lst []) (Int.ediv_nonneg h0 (by omega)) fun z u n e => by rw [upd_ne (ne_of_none e ht)]; exact e
    · refine ⟨_, rfl, p, _, _, _, rfl, rfl, SqL.of hp, ix1 _ _, _, _, rfl, rfl, .inr ⟨by decide, by decide⟩, _, _, rfl, rfl, .inl ⟨_, rfl, _, _, rfl, rfl, (by show (0 : Int) < 2147483549; decide), ?_⟩⟩
      refine ⟨_, rfl, p, _, _, _, rfl, rfl, hp, rfl, ?_⟩
      have e2 : 0 ≤ (b * 46021 + 15013) % 2147483549 := Int.emod_nonneg _ (by decide)
      have e3 : (b * 46021 + 15013) % 2147483549 < 2147483549 := Int.emod_lt_of_pos _ (by decide)
      refine ⟨_, rfl, p, _, _, _, rfl, rfl, SqL.of upd_same, ix1 _ _, _, rfl, p, _, _, _, rfl, rfl, SqL.of upd_same, ix1 _ _, _, _, rfl, rfl, .inl ⟨by omega, by omega⟩, .inl ⟨_, rfl, _, _, rfl, rfl, (by show (0 : Int) < 2147483477; decide), _, _, rfl, rfl, ⟨by decide, by decide⟩, .inl ⟨_, rfl, _, rfl, _, _, rfl, rfl, hm, ?_⟩⟩⟩
      refine q _ _ (Int.emod_nonneg _ (by omega)) (Int.emod_lt_of_pos _ hm) ?_
      exact stp_set (o := .lst []) h0 fun z u n e => e
end
end La
namespace La
open PySem PySem.Spec PyProof.Rows L2 Ow Rm Ra
section
variable {P : Program} {w : World} {K : PySem.W.Frag} {mg : Str → Option Value} {base : Heap}
abbrev DDraw (P : Program) (w : World) (K : PySem.W.Frag) (mg : Str → Option Value) (base : Heap) : Prop := Dfn P w K mg base 1 "_law_draw" ["_law_pot_here", "_law_many"] spDraw

/-! ### _law_pick -/
def spPick : Sp := fun vs H Q _ => ∃ (p l : Addr) (xs : List V), vs = [.ref p, .ref l] ∧ Pot H p ∧ l ≠ p ∧ H l = some (.lst xs) ∧ 0 < xs.length ∧ xs.length ≤ 1000 ∧ ∀ (j : Nat) (x : V) (H' : Hp), xs[j]? = some x → Stp p H H' → Q x H'
theorem scPick : FnScope ["_law_pot_here", "_law_some"] ["_law_pot_here", "_law_some"] (defScope sPick) := ⟨rfl, rfl, rfl, by decide +kernel, rfl, by decide +kernel, by decide +kernel⟩
theorem bd_nat {n k : Nat} (h : n < 2 ^ k) : Bd k (n : Int) := by unfold Bd; rw [Int.natAbs_natCast]; exact h
theorem bd_small {x : Int} {k : Nat} (h0 : 0 ≤ x) (h : x < 2 ^ 60) (hk : 60 ≤ k) : Bd k x := by
  refine Bd.mono (j := 60) ?_ hk
  unfold Bd
  have : (2 : Int) ^ 60 = 1152921504606846976 := by decide
  have : (2 : Nat) ^ 60 = 1152921504606846976 := by decide
  omega
theorem lt60 {n : Nat} (h : n ≤ 1000) : (n : Int) < 2 ^ 60 := by
  have : (2 : Int) ^ 60 = 1152921504606846976 := by decide
  omega
theorem ok_pick {f : Addr} {fd : FuncData} (F : FnP K "_law_pick" "_law_pick" sPick [] f fd) (T : LT mg) (D : DDraw P w K mg base) : FnOk P w K mg base CX0 2 f fd ["_law_pot_here", "_law_some"] spPick := by
  refine F.ok scPick (fun vs H Q E h => ?_) (fun cdv A outer s H vs Q E hr h => ?_)
  · obtain ⟨p, l, xs, rfl, _⟩ := h
    rfl
  · obtain ⟨p, l, xs, rfl, hp, n, hl, h0, h1, q⟩ := h
    refine ⟨_, PSs.nox (pss_one (ps_ret (pe_ix ix_list (pv 1) (pe_use D hr rfl (pa_cons (pv 0) (pa_cons (pe_callB call_len_seq (by rfl) T.len PySem.boot_len (pa_cons (pv 1) pa_nil)) pa_nil))) (fun _ _ => rfl)))), ?_⟩
    refine ⟨_, rfl, _, rfl, _, rfl, l, _, rfl, .inl (SqL.of hl), p, _, rfl, hp, by omega, bd_small (by omega) (lt60 (by omega)) (by decide), fun r H' r0 r1 st => ?_⟩
    obtain ⟨j, rfl⟩ : ∃ j : Nat, r = (j : Int) := ⟨r.toNat, by omega⟩
    have hj : j < xs.length := by omega
    exact ⟨l, xs, _, _, rfl, rfl, SqL.of (st.keep l _ n hl), atI_nat (List.getElem?_eq_getElem hj), q j _ H' (List.getElem?_eq_getElem hj) st⟩

/-! ### _law_common -/
def spCommon : Sp := fun vs H Q _ => ∃ a b : Int, vs = [.int a, .int b] ∧ Q (.int (Int.gcd a b : Nat)) H
theorem scCommon : FnScope ["_law_one", "_law_two"] ["_law_one", "_law_two"] (defScope sCommon) := ⟨rfl, rfl, rfl, by decide +kernel, rfl, by decide +kernel, by decide +kernel⟩
theorem abs_eq (a : Int) : (if a < 0 then -a else a) = (a.natAbs : Int) := by
  by_cases h : a < 0
  · rw [if_pos h]; omega
  · rw [if_neg h]; omega
theorem ok_common {f : Addr} {fd : FuncData} (F : FnP K "_law_common" "_law_common" sCommon [] f fd) (T : LT mg) : FnOk P w K mg base CX0 1 f fd ["_law_one", "_law_two"] spCommon := by
  refine F.ok scCommon (fun vs H Q E h => ?_) (fun cdv A outer s H vs Q E hr h => ?_)
  · obtain ⟨a, b, rfl, _⟩ := h
    rfl
  · obtain ⟨a, b, rfl, q⟩ := h
    refine ⟨_, PSs.nox (pss_cons (ps_par (i := 0) (j := 1) rfl scCommon.nd rfl rfl (by decide) rfl rfl (pa_cons (pe_callB call_abs (by rfl) T.abs PyProof.Rows.boot_abs (pa_cons (pv 0) pa_nil)) (pa_cons (pe_callB call_abs (by rfl) T.abs PyProof.Rows.boot_abs (pa_cons (pv 1) pa_nil)) pa_nil)) rfl)
      (pss_cons (ps_while PassesOwn.never (pt_cmpR op_gt (pv 1) pe_int (nomark _)) (pss_one (ps_par (i := 0) (j := 1) rfl scCommon.nd rfl rfl (by decide) rfl rfl (pa_cons (pv 1) (pa_cons (pe_op op_mod (pe_callTy call_int1 rfl T.int PyProof.Rows.boot_int (pa_cons (pv 0) pa_nil)) (pv 1)) pa_nil)) rfl)))
      (pss_one (ps_ret (pv 0))))), ?_⟩
    refine ⟨_, rfl, a, rfl, _, rfl, b, rfl, _, _, rfl, ?_⟩
    refine while_by (fun σ H' => ∃ m n : Nat, σ = [some (.int m), some (.int n)] ∧ H' = H ∧ Nat.gcd m n = Int.gcd a b) (fun σ _ => match σ with | [_, some (.int n)] => n.toNat | _ => 0) ⟨a.natAbs, b.natAbs, ?_, rfl, rfl⟩ ?_ ?_
    · rw [abs_eq, abs_eq]; rfl
    · rintro σ H' ⟨m, n, rfl, rfl, hg⟩
      refine ⟨_, rfl, _, _, rfl, rfl, _, rfl, ?_⟩
      refine ite2 (fun c => ?_) (fun c => ?_)
      · have c' : 0 < (n : Int) := of_decide_eq_true c
        refine ⟨_, rfl, _, rfl, .inl ⟨_, rfl, _, rfl, _, _, rfl, rfl, c', _, _, rfl, ?_⟩⟩
        have hn : 0 < n := by omega
        refine ⟨⟨n, m % n, ?_, rfl, ?_⟩, ?_⟩
        · show [some (V.int (n : Int)), some (V.int ((m : Int) % (n : Int)))] = _
          rw [Int.natCast_emod]
        · rw [← hg, Nat.gcd_comm n (m % n), ← Nat.gcd_rec, Nat.gcd_comm]
        · show (((m : Int) % (n : Int)).toNat) < ((n : Int).toNat)
          have h1 := Int.emod_lt_of_pos (m : Int) c'
          have h2 := Int.emod_nonneg (m : Int) (show (n : Int) ≠ 0 by omega)
          omega
      · have c' : ¬ 0 < (n : Int) := fun z => c (decide_eq_true z)
        have hn : n = 0 := by omega
        subst hn
        rw [Nat.gcd_zero_right] at hg
        refine ⟨_, rfl, ?_⟩
        rw [hg]
        exact q
    · intro σ H' Q1 Q2 hq h
      obtain ⟨v, hv, i, j, hi, hj, k, hk, q1⟩ := h
      exact ⟨v, hv, i, j, hi, hj, k, hk, hq _ _ q1⟩

/-! ### pairs -/
def PairAt (H : Hp) (p : Addr) (a : Int × Int) : Prop := H p = some (.tup [.int a.1, .int a.2])
theorem PairAt.same {H H' : Hp} {p : Addr} {a : Int × Int} (h : PairAt H p a) (s : Same H H') : PairAt H' p a := s _ _ h
def spLow : Sp := fun vs H Q _ => ∃ u l : Int, vs = [.int u, .int l] ∧ l ≠ 0 ∧ Bd 8000 l ∧ ∀ p H', PairAt H' p (low u l) → Same H H' → H p = none → Q (.ref p) H'
theorem scLow : FnScope ["_law_up", "_law_low_here", "_law_by"] ["_law_up", "_law_low_here"] (defScope sLow) := ⟨rfl, rfl, rfl, by decide +kernel, rfl, by decide +kernel, by decide +kernel⟩
theorem ok_low {f : Addr} {fd : FuncData} (F : FnP K "_law_low" "_law_low" sLow [] f fd) (D : Dfn P w K mg base 1 "_law_common" ["_law_one", "_law_two"] spCommon) : FnOk P w K mg base CX0 2 f fd ["_law_up", "_law_low_here"] spLow := by
  refine F.ok scLow (fun vs H Q E h => ?_) (fun cdv A outer s H vs Q E hr h => ?_)
  · obtain ⟨u, l, rfl, _⟩ := h
    rfl
  · obtain ⟨u, l, rfl, hl, hb, q⟩ := h
    refine ⟨_, PSs.nox (pss_cons (ps_set (i := 2) scLow.nd rfl (Or.inl rfl) (pe_op op_mul (pe_use D hr rfl (pa_cons (pv 0) (pa_cons (pv 1) pa_nil))) (pe_ifExp (pt_cmpR op_gt (pv 1) pe_int (nomark _)) pe_int (pe_un un_neg pe_int))))
      (pss_one (ps_ret (pe_tup (pa_cons (pe_op op_fdivZ (pv 0) (pv 2)) (pa_cons (pe_op op_fdivZ (pv 1) (pv 2)) pa_nil)))))), ?_⟩
    have fin : ∀ g : Int, g = byv u l → tRet (tTup (tCons (tOp (rI CDivZ fun i j => .int (i.fdiv j)) (tVar 0) (tVar 2)) (tCons (tOp (rI CDivZ fun i j => .int (i.fdiv j)) (tVar 1) (tVar 2)) tNil)))
        { nx := fun _ H' => Q .non H', rt := Q } [some (.int u), some (.int l), some (.int g)] H := by
      rintro g rfl
      refine ⟨_, rfl, _, rfl, _, _, rfl, rfl, cdivZ' hl hb (by decide) (by decide), _, rfl, _, rfl, _, _, rfl, rfl, cdivZ' hl hb (by decide) (by decide), (by show 2 ≤ sizeLine; decide), fun p hp => ?_⟩
      exact q p _ upd_same (same_upd hp) hp
    refine ⟨_, rfl, _, rfl, u, l, rfl, ?_⟩
    refine ⟨_, rfl, _, _, rfl, rfl, _, rfl, ?_⟩
    refine ite2 (fun c => ?_) (fun c => ?_)
    · have c' : 0 < l := of_decide_eq_true c
      refine ⟨_, _, rfl, rfl, .inr ⟨by decide, by decide⟩, fin _ ?_⟩
      unfold byv sg
      rw [if_pos c']
    · have c' : ¬ 0 < l := fun z => c (decide_eq_true z)
      refine ⟨_, rfl, _, _, rfl, rfl, .inr ⟨by decide, by decide⟩, fin _ ?_⟩
      unfold byv sg
      rw [if_neg c']
end
end La
namespace La
open PySem PySem.Spec PyProof.Rows L2 Ow Rm Ra
/-- a pair of the law: in lowest terms, not too great -/
structure Pr (H : Hp) (p : Addr) (a : Int × Int) : Prop where
  at_ : PairAt H p a
  lw : Lw a.1 a.2
  b1 : Bd 2500 a.1
  b2 : Bd 2500 a.2
theorem Pr.same {H H' : Hp} {p : Addr} {a : Int × Int} (h : Pr H p a) (s : Same H H') : Pr H' p a := ⟨h.at_.same s, h.lw, h.b1, h.b2⟩
theorem PairAt.st {H H' : Hp} {p q : Addr} {a : Int × Int} (h : PairAt H p a) (hp : Pot H q) (s : Stp q H H') : PairAt H' p a := by
  obtain ⟨x, y, e, _⟩ := hp
  exact s.keep p _ (fun z => by rw [z] at h; exact nomatch (Option.some.inj (h.symm.trans e))) h
theorem Pr.st {H H' : Hp} {p q : Addr} {a : Int × Int} (h : Pr H p a) (hp : Pot H q) (s : Stp q H H') : Pr H' p a := ⟨h.at_.st hp s, h.lw, h.b1, h.b2⟩
theorem RatAt.st {C : Addr} {H H' : Hp} {p q : Addr} {n d : Int} (h : RatAt C H p n d) (hp : Pot H q) (s : Stp q H H') : RatAt C H' p n d := by
  obtain ⟨x, y, e, _⟩ := hp
  obtain ⟨dx, h⟩ := h
  exact ⟨dx, s.keep p _ (fun z => by rw [z] at h; exact nomatch (Option.some.inj (h.symm.trans e))) h⟩
theorem NumAt.st {C : Addr} {H H' : Hp} {v : V} {q : Addr} {n d : Int} (h : NumAt C H v n d) (hp : Pot H q) (s : Stp q H H') : NumAt C H' v n d := by
  rcases h with ⟨p, e, r⟩ | ⟨e, r⟩
  · exact .inl ⟨p, e, RatAt.st r hp s⟩
  · exact .inr ⟨e, r⟩

section
variable {P : Program} {w : World} {K : PySem.W.Frag} {mg : Str → Option Value} {base : Heap}
abbrev DLow (P : Program) (w : World) (K : PySem.W.Frag) (mg : Str → Option Value) (base : Heap) : Prop := Dfn P w K mg base 2 "_law_low" ["_law_up", "_law_low_here"] spLow
abbrev DPick (P : Program) (w : World) (K : PySem.W.Frag) (mg : Str → Option Value) (base : Heap) : Prop := Dfn P w K mg base 2 "_law_pick" ["_law_pot_here", "_law_some"] spPick

def spP2 (op : Int × Int → Int × Int → Int × Int) : Sp := fun vs H Q _ => ∃ (p q : Addr) (a b : Int × Int), vs = [.ref p, .ref q] ∧ Pr H p a ∧ Pr H q b ∧ ∀ r H', PairAt H' r (op a b) → Same H H' → H r = none → Q (.ref r) H'
theorem ix2_0 (a : Int × Int) : atI [V.int a.1, V.int a.2] 0 = some (.int a.1) := rfl
theorem ix2_1 (a : Int × Int) : atI [V.int a.1, V.int a.2] 1 = some (.int a.2) := rfl
theorem scPlus : FnScope ["_law_a", "_law_b"] ["_law_a", "_law_b"] (defScope sPlus) := ⟨rfl, rfl, rfl, by decide +kernel, rfl, by decide +kernel, by decide +kernel⟩
theorem ok_plus {f : Addr} {fd : FuncData} (F : FnP K "_law_plus" "_law_plus" sPlus [] f fd) (D : DLow P w K mg base) : FnOk P w K mg base CX0 3 f fd ["_law_a", "_law_b"] (spP2 plus) := by
  refine F.ok scPlus (fun vs H Q E h => ?_) (fun cdv A outer s H vs Q E hr h => ?_)
  · obtain ⟨p, q, a, b, rfl, _⟩ := h
    rfl
  · obtain ⟨p, q, a, b, rfl, ha, hb, k⟩ := h
    refine ⟨_, PSs.nox (pss_one (ps_ret (pe_use D hr rfl (pa_cons (pe_op op_add (pe_op op_mulW (pe_ix ix_tup (pv 0) pe_int (fun _ _ => rfl)) (pe_ix ix_tup (pv 1) pe_int (fun _ _ => rfl))) (pe_op op_mulW (pe_ix ix_tup (pv 1) pe_int (fun _ _ => rfl)) (pe_ix ix_tup (pv 0) pe_int (fun _ _ => rfl))))
      (pa_cons (pe_op op_mulW (pe_ix ix_tup (pv 0) pe_int (fun _ _ => rfl)) (pe_ix ix_tup (pv 1) pe_int (fun _ _ => rfl))) pa_nil))))), ?_⟩
    have sa : SqT K H p [.int a.1, .int a.2] := SqT.of ha.at_
    have sb : SqT K H q [.int b.1, .int b.2] := SqT.of hb.at_
    refine ⟨_, rfl, p, _, _, _, rfl, rfl, sa, ix2_0 a, _, rfl, q, _, _, _, rfl, rfl, sb, ix2_1 b, _, _, rfl, rfl, cmul ha.b1 hb.b2, _, rfl, q, _, _, _, rfl, rfl, sb, ix2_0 b, _, rfl, p, _, _, _, rfl, rfl, sa, ix2_1 a, _, _, rfl, rfl, cmul hb.b1 ha.b2, _, _, rfl, rfl,
      _, rfl, p, _, _, _, rfl, rfl, sa, ix2_1 a, _, rfl, q, _, _, _, rfl, rfl, sb, ix2_1 b, _, _, rfl, rfl, cmul ha.b2 hb.b2, _, _, rfl, mul_ne ha.lw.pos hb.lw.pos, (ha.b2.mul hb.b2).mono (by decide), k⟩
theorem scMinus : FnScope ["_law_a", "_law_b"] ["_law_a", "_law_b"] (defScope sMinus) := ⟨rfl, rfl, rfl, by decide +kernel, rfl, by decide +kernel, by decide +kernel⟩
theorem ok_minus {f : Addr} {fd : FuncData} (F : FnP K "_law_minus" "_law_minus" sMinus [] f fd) (D : DLow P w K mg base) : FnOk P w K mg base CX0 3 f fd ["_law_a", "_law_b"] (spP2 minus) := by
  refine F.ok scMinus (fun vs H Q E h => ?_) (fun cdv A outer s H vs Q E hr h => ?_)
  · obtain ⟨p, q, a, b, rfl, _⟩ := h
    rfl
  · obtain ⟨p, q, a, b, rfl, ha, hb, k⟩ := h
    refine ⟨_, PSs.nox (pss_one (ps_ret (pe_use D hr rfl (pa_cons (pe_op op_sub (pe_op op_mulW (pe_ix ix_tup (pv 0) pe_int (fun _ _ => rfl)) (pe_ix ix_tup (pv 1) pe_int (fun _ _ => rfl))) (pe_op op_mulW (pe_ix ix_tup (pv 1) pe_int (fun _ _ => rfl)) (pe_ix ix_tup (pv 0) pe_int (fun _ _ => rfl))))
      (pa_cons (pe_op op_mulW (pe_ix ix_tup (pv 0) pe_int (fun _ _ => rfl)) (pe_ix ix_tup (pv 1) pe_int (fun _ _ => rfl))) pa_nil))))), ?_⟩
    have sa : SqT K H p [.int a.1, .int a.2] := SqT.of ha.at_
    have sb : SqT K H q [.int b.1, .int b.2] := SqT.of hb.at_
    refine ⟨_, rfl, p, _, _, _, rfl, rfl, sa, ix2_0 a, _, rfl, q, _, _, _, rfl, rfl, sb, ix2_1 b, _, _, rfl, rfl, cmul ha.b1 hb.b2, _, rfl, q, _, _, _, rfl, rfl, sb, ix2_0 b, _, rfl, p, _, _, _, rfl, rfl, sa, ix2_1 a, _, _, rfl, rfl, cmul hb.b1 ha.b2, _, _, rfl, rfl,
      _, rfl, p, _, _, _, rfl, rfl, sa, ix2_1 a, _, rfl, q, _, _, _, rfl, rfl, sb, ix2_1 b, _, _, rfl, rfl, cmul ha.b2 hb.b2, _, _, rfl, mul_ne ha.lw.pos hb.lw.pos, (ha.b2.mul hb.b2).mono (by decide), k⟩
theorem scTimes : FnScope ["_law_a", "_law_b"] ["_law_a", "_law_b"] (defScope sTimes) := ⟨rfl, rfl, rfl, by decide +kernel, rfl, by decide +kernel, by decide +kernel⟩
theorem ok_times {f : Addr} {fd : FuncData} (F : FnP K "_law_times" "_law_times" sTimes [] f fd) (D : DLow P w K mg base) : FnOk P w K mg base CX0 3 f fd ["_law_a", "_law_b"] (spP2 times) := by
  refine F.ok scTimes (fun vs H Q E h => ?_) (fun cdv A outer s H vs Q E hr h => ?_)
  · obtain ⟨p, q, a, b, rfl, _⟩ := h
    rfl
  · obtain ⟨p, q, a, b, rfl, ha, hb, k⟩ := h
    refine ⟨_, PSs.nox (pss_one (ps_ret (pe_use D hr rfl (pa_cons (pe_op op_mulW (pe_ix ix_tup (pv 0) pe_int (fun _ _ => rfl)) (pe_ix ix_tup (pv 1) pe_int (fun _ _ => rfl)))
      (pa_cons (pe_op op_mulW (pe_ix ix_tup (pv 0) pe_int (fun _ _ => rfl)) (pe_ix ix_tup (pv 1) pe_int (fun _ _ => rfl))) pa_nil))))), ?_⟩
    have sa : SqT K H p [.int a.1, .int a.2] := SqT.of ha.at_
    have sb : SqT K H q [.int b.1, .int b.2] := SqT.of hb.at_
    refine ⟨_, rfl, p, _, _, _, rfl, rfl, sa, ix2_0 a, _, rfl, q, _, _, _, rfl, rfl, sb, ix2_0 b, _, _, rfl, rfl, cmul ha.b1 hb.b1,
      _, rfl, p, _, _, _, rfl, rfl, sa, ix2_1 a, _, rfl, q, _, _, _, rfl, rfl, sb, ix2_1 b, _, _, rfl, rfl, cmul ha.b2 hb.b2, _, _, rfl, mul_ne ha.lw.pos hb.lw.pos, (ha.b2.mul hb.b2).mono (by decide), k⟩

/-! ### integers, parts -/
def spInteger : Sp := fun vs H Q _ => ∃ p : Addr, vs = [.ref p] ∧ Pot H p ∧ ∀ n H', Bd 60 n → Stp p H H' → Q (.int n) H'
theorem scInteger : FnScope ["_law_pot_here", "_law_found"] ["_law_pot_here"] (defScope sInteger) := ⟨rfl, rfl, rfl, by decide +kernel, rfl, by decide +kernel, by decide +kernel⟩
theorem stp_new {p q : Addr} {H : Hp} {o : HO} (h : Pot H p) (hq : H q = none) : Stp p H (upd H q o) := Stp.of (same_upd hq) h
theorem pot_ne {p q : Addr} {H : Hp} (h : Pot H p) (hq : H q = none) : q ≠ p := by
  obtain ⟨a, b, e, _⟩ := h
  exact (ne_of_none e hq).symm
theorem sizes7 (j : Nat) (x : V) (h : ([.int 2, .int 3, .int 6, .int 13, .int 100, .int (10 ^ (6 : Int).toNat), .int (10 ^ (12 : Int).toNat)] : List V)[j]? = some x) : ∃ m : Int, x = .int m ∧ 0 < m ∧ m ≤ 1000000000000 := by
  rcases j with _ | _ | _ | _ | _ | _ | _ | j
  · cases h; exact ⟨_, rfl, by decide, by decide⟩
  · cases h; exact ⟨_, rfl, by decide, by decide⟩
  · cases h; exact ⟨_, rfl, by decide, by decide⟩
  · cases h; exact ⟨_, rfl, by decide, by decide⟩
  · cases h; exact ⟨_, rfl, by decide, by decide⟩
  · cases h; exact ⟨_, rfl, by decide, by decide⟩
  · cases h; exact ⟨_, rfl, by decide, by decide⟩
  · exact nomatch h
theorem e60 : (2 : Int) ^ 60 = 1152921504606846976 := by decide
theorem ok_integer {f : Addr} {fd : FuncData} (F : FnP K "_law_integer" "_law_integer" sInteger [] f fd) (D : DDraw P w K mg base) (G : DPick P w K mg base) : FnOk P w K mg base CX0 3 f fd ["_law_pot_here"] spInteger := by
  refine F.ok scInteger (fun vs H Q E h => ?_) (fun cdv A outer s H vs Q E hr h => ?_)
  · obtain ⟨p, rfl, _⟩ := h
    rfl
  · obtain ⟨p, rfl, hp, q⟩ := h
    have hr1 := hr.mono (by decide : 1 ≤ 2)
    refine ⟨_, PSs.nox (pss_cons (ps_set (i := 1) scInteger.nd rfl (Or.inl rfl) (pe_use D hr1 rfl (pa_cons (pv 0) (pa_cons (pe_use G hr rfl (pa_cons (pv 0) (pa_cons (pe_lst (pa_cons pe_int (pa_cons pe_int (pa_cons pe_int (pa_cons pe_int (pa_cons pe_int (pa_cons (pe_op op_pow pe_int pe_int) (pa_cons (pe_op op_pow pe_int pe_int) pa_nil)))))))) pa_nil))) pa_nil))))
      (pss_one (ps_ret (pe_ifExp (pt_cmpR op_eq (pe_use D hr1 rfl (pa_cons (pv 0) (pa_cons pe_int pa_nil))) pe_int (nomark _)) (pe_un un_neg (pv 1)) (pv 1))))), ?_⟩
    refine ⟨_, rfl, _, rfl, _, _, rfl, rfl, ⟨by decide, by decide, by decide⟩, _, _, rfl, rfl, ⟨by decide, by decide, by decide⟩, (by show 7 ≤ sizeLine; decide), fun l hl => ?_⟩
    have s0 := fun o => stp_new (o := o) hp hl
    refine ⟨p, l, _, rfl, (s0 _).pot, pot_ne hp hl, upd_same, (by show 0 < 7; decide), (by show 7 ≤ 1000; decide), fun j x H1 hx s1 => ?_⟩
    obtain ⟨m, rfl, m0, m1⟩ := sizes7 j x hx
    have e := e60
    refine ⟨p, m, rfl, s1.pot, m0, bd_small (by omega) (by omega) (by decide), fun r H2 r0 r1 s2 => ?_⟩
    have br : Bd 60 r := bd_small r0 (by omega) (by decide)
    refine ⟨_, rfl, p, 2, rfl, s2.pot, (by decide), bd_small (by decide) (by decide) (by decide), fun z H3 z0 z1 s3 => ?_⟩
    have st := (((s0 _).trans s1).trans s2).trans s3
    refine ⟨rfl, _, rfl, ?_⟩
    refine ite2 (fun c => ?_) (fun c => ?_)
    · exact ⟨_, rfl, _, rfl, q _ _ br.neg st⟩
    · exact ⟨_, rfl, q _ _ br st⟩

def spParts : Sp := fun vs H Q _ => ∃ p : Addr, vs = [.ref p] ∧ Pot H p ∧ ∀ (t : Addr) (u l : Int) (H' : Hp), Bd 60 u → Bd 60 l → l ≠ 0 → PairAt H' t (u, l) → Stp p H H' → Q (.ref t) H'
theorem scParts : FnScope ["_law_pot_here", "_law_up", "_law_low_here"] ["_law_pot_here"] (defScope sParts) := ⟨rfl, rfl, rfl, by decide +kernel, rfl, by decide +kernel, by decide +kernel⟩
theorem three (j : Nat) (x : V) (h : ([.int 1, .int (-1), .int 7] : List V)[j]? = some x) : ∃ m : Int, x = .int m ∧ m ≠ 0 ∧ Bd 60 m := by
  rcases j with _ | _ | _ | j
  · cases h; exact ⟨1, rfl, by decide, bd_small (by decide) (by decide) (by decide)⟩
  · cases h; exact ⟨-1, rfl, by decide, (bd_one (k := 60) (by decide)).neg⟩
  · cases h; exact ⟨7, rfl, by decide, bd_small (by decide) (by decide) (by decide)⟩
  · exact nomatch h
theorem ok_parts {f : Addr} {fd : FuncData} (F : FnP K "_law_parts" "_law_parts" sParts [] f fd) (D : Dfn P w K mg base 3 "_law_integer" ["_law_pot_here"] spInteger) (G : DPick P w K mg base) : FnOk P w K mg base CX0 4 f fd ["_law_pot_here"] spParts := by
  refine F.ok scParts (fun vs H Q E h => ?_) (fun cdv A outer s H vs Q E hr h => ?_)
  · obtain ⟨p, rfl, _⟩ := h
    rfl
  · obtain ⟨p, rfl, hp, q⟩ := h
    have hr2 := hr.mono (by decide : 2 ≤ 3)
    refine ⟨_, PSs.nox (pss_cons (ps_par (i := 1) (j := 2) rfl scParts.nd rfl rfl (by decide) rfl rfl (pa_cons (pe_use D hr rfl (pa_cons (pv 0) pa_nil)) (pa_cons (pe_use D hr rfl (pa_cons (pv 0) pa_nil)) pa_nil)) rfl)
      (pss_one (ps_ret (pe_tup (pa_cons (pv 1) (pa_cons (pe_ifExp (pt_cmpR op_ne (pv 2) pe_int (nomark _)) (pv 2) (pe_use G hr2 rfl (pa_cons (pv 0) (pa_cons (pe_lst (pa_cons pe_int (pa_cons (pe_un un_neg pe_int) (pa_cons pe_int pa_nil)))) pa_nil)))) pa_nil)))))), ?_⟩
    refine ⟨_, rfl, p, rfl, hp, fun u H1 bu s1 => ?_⟩
    refine ⟨_, rfl, p, rfl, s1.pot, fun l H2 bl s2 => ⟨_, _, rfl, ?_⟩⟩
    refine ⟨_, rfl, _, rfl, rfl, _, rfl, ?_⟩
    have st := s1.trans s2
    by_cases hl : l = 0
    · have e : (!decide (V.int l = V.int 0)) = false := by rw [hl]; rfl
      rw [e]
      refine iteF ?_
      refine ⟨_, rfl, _, rfl, (by show 3 ≤ sizeLine; decide), fun t ht => ?_⟩
      have s3 := fun o => stp_new (o := o) s2.pot ht
      refine ⟨p, t, _, rfl, (s3 _).pot, pot_ne s2.pot ht, upd_same, (by show 0 < 3; decide), (by show 3 ≤ 1000; decide), fun j x H3 hx s4 => ?_⟩
      obtain ⟨m, rfl, m0, bm⟩ := three j x hx
      refine ⟨by show 2 ≤ sizeLine; decide, fun t2 ht2 => ?_⟩
      exact q t2 u m _ bu bm m0 upd_same (((st.trans (s3 _)).trans s4).trans (stp_new s4.pot ht2))
    · have e : (!decide (V.int l = V.int 0)) = true := by rw [decide_eq_false (fun z => hl (V.int.inj z))]; rfl
      rw [e]
      refine iteT ?_
      refine ⟨_, rfl, (by show 2 ≤ sizeLine; decide), fun t ht => ?_⟩
      exact q t u l _ bu bl hl upd_same (st.trans (stp_new s2.pot ht))
end
end La
namespace Ra
open PySem PySem.Spec PyProof.Rows L2 Ow Rm
section
variable {P : Program} {w : World} {K : PySem.W.Frag} {mg : Str → Option Value} {base : Heap}
/-- ==, of two ratios, of a ratio and whatever is none -/
def spEqv (K : PySem.W.Frag) (C : Addr) : Sp := fun vs H Q _ => ∃ p v n d, vs = [.ref p, v] ∧ RatAt C H p n d ∧
  ((∃ q m e, v = .ref q ∧ RatAt C H q m e ∧ Q (.bl (decide ((n, d) = (m, e)))) H) ∨ ∃ t, TyX K H v t ∧ PySem.W.kitOne K t (.ref C) = some false ∧ Q (.bl false) H)
theorem scEqv : FnScope ["self", "other"] ["self", "other"] (defScope sEq) := ⟨rfl, rfl, rfl, by decide +kernel, rfl, by decide +kernel, by decide +kernel⟩
theorem ok_eqv {f C : Addr} {fd : FuncData} (F : FnP K "__eq__" "Ratio.__eq__" sEq [] f fd) (T : RT K mg C) : FnOk P w K mg base CX0 1 f fd ["self", "other"] (spEqv K C) := by
  refine F.ok scEqv (fun vs H Q E h => ?_) (fun cdv A outer s H vs Q E hr h => ?_)
  · obtain ⟨p, v, n, d, rfl, _⟩ := h
    rfl
  · obtain ⟨p, v, n, d, rfl, ⟨dx, hp⟩, h⟩ := h
    refine ⟨_, PSs.nox (pss_one (ps_ret (pe_and (pe_callB call_isi (by rfl) T.isi boot_isinstance (pa_cons (pv 1) (pa_cons (pe_glob (v := .ref C) rfl T.mgC rfl) pa_nil)))
      (pe_and (pe_cmpR op_eq (pe_fld (pv 0) rfl) (pe_fld (pv 1) rfl) (nomark _)) (pe_one (pe_cmpR op_eq (pe_fld (pv 0) rfl) (pe_fld (pv 1) rfl) (nomark _))))))), ?_⟩
    rcases h with ⟨q, m, e, rfl, ⟨dy, hq⟩, k⟩ | ⟨t, ty, no, k⟩
    · refine ⟨_, rfl, _, .ref C, .ref C, _, true, rfl, .own C, .base (.ins hq T.cl T.ca T.cg T.ct T.cm), T.kCC, true, rfl, ?_⟩
      refine iteT ?_
      refine ⟨_, rfl, p, C, dx, _, _, rfl, hp, T.cl, T.nT, rf_top _ _, _, rfl, q, C, dy, _, _, rfl, hq, T.cl, T.nT, rf_top _ _, rfl, _, rfl, ?_⟩
      by_cases c1 : n = m
      · rw [decide_eq_true (by rw [c1])]
        refine iteT ?_
        refine ⟨_, rfl, p, C, dx, _, _, rfl, hp, T.cl, T.nB, rf_bottom _ _, _, rfl, q, C, dy, _, _, rfl, hq, T.cl, T.nB, rf_bottom _ _, rfl, ?_⟩
        have e1 : decide (V.int d = V.int e) = decide ((n, d) = (m, e)) := by
          rw [c1]
          exact decide_eq_decide.mpr ⟨fun y => by rw [V.int.inj y], fun y => by rw [(Prod.mk.inj y).2]⟩
        rw [e1]
        exact k
      · rw [decide_eq_false (fun y => c1 (V.int.inj y))]
        refine iteF ?_
        rw [decide_eq_false (fun y => c1 (Prod.mk.inj y).1)] at k
        exact k
    · refine ⟨_, rfl, v, .ref C, t, .ref C, false, rfl, .own C, ty, no, false, rfl, ?_⟩
      exact iteF k
end
end Ra
namespace La
open PySem PySem.Spec PyProof.Rows L2 Ow Rm Ra
section
variable {P : Program} {w : World} {K : PySem.W.Frag} {mg : Str → Option Value} {base : Heap}
/-! ### _law_made: the ratio of a pair, of multiples of its integers -/
def spMade (C : Addr) : Sp := fun vs H Q _ => ∃ (p q : Addr) (a : Int × Int), vs = [.ref p, .ref q] ∧ Pot H p ∧ PairAt H q a ∧ Lw a.1 a.2 ∧ Bd 200 a.1 ∧ Bd 200 a.2 ∧ ∀ m H', RatAt C H' m a.1 a.2 → Stp p H H' → Q (.ref m) H'
theorem scMade : FnScope ["_law_pot_here", "_law_a", "_law_by"] ["_law_pot_here", "_law_a"] (defScope sMade) := ⟨rfl, rfl, rfl, by decide +kernel, rfl, by decide +kernel, by decide +kernel⟩
theorem five (j : Nat) (x : V) (h : ([.int 1, .int (-1), .int 2, .int (-3), .int (10 ^ (3 : Int).toNat)] : List V)[j]? = some x) : ∃ m : Int, x = .int m ∧ m ≠ 0 ∧ Bd 60 m := by
  have e : (10 : Int) ^ (3 : Int).toNat = 1000 := by decide
  rw [e] at h
  rcases j with _ | _ | _ | _ | _ | j
  · cases h; exact ⟨1, rfl, by decide, bd_small (by decide) (by decide) (by decide)⟩
  · cases h; exact ⟨-1, rfl, by decide, (bd_one (k := 60) (by decide)).neg⟩
  · cases h; exact ⟨2, rfl, by decide, bd_small (by decide) (by decide) (by decide)⟩
  · cases h; exact ⟨-3, rfl, by decide, (bd_small (x := 3) (by decide) (by decide) (k := 60) (by decide)).neg⟩
  · cases h; exact ⟨1000, rfl, by decide, bd_small (by decide) (by decide) (by decide)⟩
  · exact nomatch h
theorem low_mul {n d m : Int} (h : Lw n d) (hm : m ≠ 0) : low (n * m) (d * m) = (n, d) := by
  have hd : d * m ≠ 0 := Int.mul_ne_zero (by have := h.pos; omega) hm
  have e : byv (n * m) (d * m) = m := by
    unfold byv sg
    rw [Int.gcd_mul_right, h.cop, Nat.one_mul]
    have hp := h.pos
    by_cases c : 0 < m
    · rw [if_pos (Int.mul_pos hp c)]; omega
    · rw [if_neg (by
        have : d * m < 0 := Int.mul_neg_of_pos_of_neg hp (by omega)
        omega)]
      omega
  unfold low
  rw [e, Int.mul_fdiv_cancel _ hm, Int.mul_fdiv_cancel _ hm]
theorem ok_made {f C : Addr} {fd : FuncData} (F : FnP K "_law_made" "_law_made" sMade [] f fd) (T : RT K mg C) (M : RMk P w K mg base C) (G : DPick P w K mg base) : FnOk P w K mg base CX0 4 f fd ["_law_pot_here", "_law_a"] (spMade C) := by
  refine F.ok scMade (fun vs H Q E h => ?_) (fun cdv A outer s H vs Q E hr h => ?_)
  · obtain ⟨p, q, a, rfl, _⟩ := h
    rfl
  · obtain ⟨p, q, a, rfl, hp, hq, lw, b1, b2, k⟩ := h
    have hr2 := hr.mono (by decide : 2 ≤ 3)
    refine ⟨_, PSs.nox (pss_cons (ps_set (i := 2) scMade.nd rfl (Or.inl rfl) (pe_use G hr2 rfl (pa_cons (pv 0) (pa_cons (pe_lst (pa_cons pe_int (pa_cons (pe_un un_neg pe_int) (pa_cons pe_int (pa_cons (pe_un un_neg pe_int) (pa_cons (pe_op op_pow pe_int pe_int) pa_nil)))))) pa_nil))))
      (pss_one (ps_ret (pe_rat2 M hr rfl T.mgC (pe_op op_mulW (pe_ix ix_tup (pv 1) pe_int (fun _ _ => rfl)) (pv 2)) (pe_op op_mulW (pe_ix ix_tup (pv 1) pe_int (fun _ _ => rfl)) (pv 2)))))), ?_⟩
    refine ⟨_, rfl, _, rfl, _, rfl, _, _, rfl, rfl, ⟨by decide, by decide, by decide⟩, (by show 5 ≤ sizeLine; decide), fun l hl => ?_⟩
    have s0 := fun o => stp_new (o := o) hp hl
    refine ⟨p, l, _, rfl, (s0 _).pot, pot_ne hp hl, upd_same, (by show 0 < 5; decide), (by show 5 ≤ 1000; decide), fun j x H1 hx s1 => ?_⟩
    obtain ⟨m, rfl, m0, bm⟩ := five j x hx
    have st := (s0 _).trans s1
    have hq1 := hq.st hp st
    have sq : SqT K H1 q [.int a.1, .int a.2] := SqT.of hq1
    refine ⟨_, rfl, q, _, _, _, rfl, rfl, sq, ix2_0 a, _, rfl, _, _, rfl, rfl, cmul b1 bm, _, rfl, q, _, _, _, rfl, rfl, sq, ix2_1 a, _, rfl, _, _, rfl, rfl, cmul b2 bm, ?_⟩
    refine rat_new (Int.mul_ne_zero (by have := lw.pos; omega) m0) ((b2.mul bm).mono (by decide)) fun z H2 hz s2 _ => ?_
    rw [low_mul lw m0] at hz
    exact k z H2 hz (st.sm s2)
end
end La
namespace La
open PySem PySem.Spec PyProof.Rows L2 Ow Rm Ra
theorem fdiv_le {n d : Int} (hd : 0 < d) : (n.fdiv d).natAbs ≤ n.natAbs := by
  have e : n.fdiv d = n / d := Int.fdiv_eq_ediv_of_nonneg n (by omega)
  rw [e]
  have h1 := Int.mul_ediv_add_emod n d
  have h2 := Int.emod_nonneg n (show d ≠ 0 by omega)
  have h3 := Int.emod_lt_of_pos n hd
  rcases Int.lt_or_le n 0 with c | c
  · have a2 : n / d < 0 := Int.ediv_neg_of_neg_of_pos c hd
    have a1 := Int.mul_le_mul_of_nonpos_right (a := d) (b := 1) (c := n / d + 1) (by omega) (by omega)
    rw [Int.mul_add, Int.mul_one, Int.one_mul] at a1
    omega
  · have a2 : 0 ≤ n / d := Int.ediv_nonneg c (by omega)
    have a1 := Int.mul_le_mul_of_nonneg_right (a := 1) (b := d) (c := n / d) (by omega) a2
    rw [Int.one_mul] at a1
    omega
section
variable {P : Program} {w : World} {K : PySem.W.Frag} {mg : Str → Option Value} {base : Heap}
def spBeside : Sp := fun vs H Q _ => ∃ (p q : Addr) (a : Int × Int), vs = [.ref p, .ref q] ∧ Pot H p ∧ PairAt H q a ∧ Lw a.1 a.2 ∧ Bd 200 a.1 ∧ Bd 200 a.2 ∧
  ∀ r c H', PairAt H' r c → Lw c.1 c.2 → Bd 400 c.1 → Bd 400 c.2 → Stp p H H' → Q (.ref r) H'
theorem scBeside : FnScope ["_law_pot_here", "_law_a", "_law_way", "_law_up", "_law_low_here", "_law_little"] ["_law_pot_here", "_law_a"] (defScope sBeside) := ⟨rfl, rfl, rfl, by decide +kernel, rfl, by decide +kernel, by decide +kernel⟩
theorem ok_beside {f : Addr} {fd : FuncData} (F : FnP K "_law_beside" "_law_beside" sBeside [] f fd) (D : DDraw P w K mg base) (Pa : Dfn P w K mg base 4 "_law_parts" ["_law_pot_here"] spParts) (G : DLow P w K mg base)
    (Pl : Dfn P w K mg base 3 "_law_plus" ["_law_a", "_law_b"] (spP2 plus)) (Mi : Dfn P w K mg base 3 "_law_minus" ["_law_a", "_law_b"] (spP2 minus)) : FnOk P w K mg base CX0 5 f fd ["_law_pot_here", "_law_a"] spBeside := by
  refine F.ok scBeside (fun vs H Q E h => ?_) (fun cdv A outer s H vs Q E hr h => ?_)
  · obtain ⟨p, q, a, rfl, _⟩ := h
    rfl
  · obtain ⟨p, q, a, rfl, hp, hq, lw, b1, b2, k⟩ := h
    have hr1 := hr.mono (by decide : 1 ≤ 4)
    have hr2 := hr.mono (by decide : 2 ≤ 4)
    have hr3 := hr.mono (by decide : 3 ≤ 4)
    refine ⟨_, PSs.nox (pss_cons (ps_set (i := 2) scBeside.nd rfl (Or.inl rfl) (pe_use D hr1 rfl (pa_cons (pv 0) (pa_cons pe_int pa_nil))))
      (pss_cons (ps_if (pt_cmpR op_lt (pv 2) pe_int (nomark _))
        (pss_cons (ps_asg (pe_use Pa hr rfl (pa_cons (pv 0) pa_nil)) (pg_tup (by rfl) (pgs_cons (pg_name (i := 3) scBeside.nd rfl (.inl rfl)) (pgs_cons (pg_name (i := 4) scBeside.nd rfl (.inl rfl)) pgs_nil))))
        (pss_one (ps_ret (pe_use G hr2 rfl (pa_cons (pv 3) (pa_cons (pv 4) pa_nil)))))) pss_nil)
      (pss_cons (ps_if (pt_cmpR op_eq (pv 2) pe_int (nomark _)) (pss_one (ps_ret (pe_tup (pa_cons (pe_un un_neg (pe_ix ix_tup (pv 1) pe_int (fun _ _ => rfl))) (pa_cons (pe_ix ix_tup (pv 1) pe_int (fun _ _ => rfl)) pa_nil))))) pss_nil)
      (pss_cons (ps_if (pt_cmpR op_eq (pv 2) pe_int (nomark _)) (pss_one (ps_ret (pe_tup (pa_cons (pe_op op_fdivZ (pe_ix ix_tup (pv 1) pe_int (fun _ _ => rfl)) (pe_ix ix_tup (pv 1) pe_int (fun _ _ => rfl))) (pa_cons pe_int pa_nil))))) pss_nil)
      (pss_cons (ps_set (i := 5) scBeside.nd rfl (Or.inl rfl) (pe_tup (pa_cons pe_int (pa_cons (pe_op op_add pe_int (pe_use D hr1 rfl (pa_cons (pv 0) (pa_cons (pe_op op_pow pe_int pe_int) pa_nil)))) pa_nil))))
      (pss_one (ps_ret (pe_ifExp (pt_cmpR op_eq (pv 2) pe_int (nomark _)) (pv 1) (pe_ifExp (pt_cmpR op_eq (pv 2) pe_int (nomark _)) (pe_use Pl hr3 rfl (pa_cons (pv 1) (pa_cons (pv 5) pa_nil))) (pe_use Mi hr3 rfl (pa_cons (pv 1) (pa_cons (pv 5) pa_nil)))))))))))), ?_⟩
    refine ⟨_, rfl, p, 7, rfl, hp, (by decide), bd_small (by decide) (by decide) (by decide), fun z H1 z0 z1 s1 => ?_⟩
    have hq1 := hq.st hp s1
    have sq : SqT K H1 q [.int a.1, .int a.2] := SqT.of hq1
    refine ⟨_, rfl, _, _, rfl, rfl, _, rfl, ?_⟩
    refine ite2 (fun _ => ?_) (fun _ => ?_)
    · refine ⟨_, rfl, p, rfl, s1.pot, fun t u l H2 bu bl hl ht s2 => ⟨t, _, rfl, SqT.of ht, rfl, _, _, rfl, _, _, rfl, rfl, ?_⟩⟩
      exact ⟨_, rfl, _, rfl, u, l, rfl, hl, bl.mono (by decide), fun r H3 hr' s3 _ => k r _ H3 hr' (low_lw u hl) (bd_low1 hl (bu.mono (by decide))) (bd_low2 hl (bl.mono (by decide))) ((s1.trans s2).sm s3)⟩
    refine ⟨_, rfl, rfl, _, rfl, ?_⟩
    refine ite2 (fun _ => ?_) (fun _ => ?_)
    · refine ⟨_, rfl, q, _, _, _, rfl, rfl, sq, ix2_0 a, _, rfl, _, rfl, q, _, _, _, rfl, rfl, sq, ix2_1 a, (by show 2 ≤ sizeLine; decide), fun r hr' => ?_⟩
      exact k r (-a.1, a.2) _ upd_same (lw_neg lw) (b1.mono (by decide)).neg (b2.mono (by decide)) (s1.trans (stp_new s1.pot hr'))
    refine ⟨_, rfl, rfl, _, rfl, ?_⟩
    refine ite2 (fun _ => ?_) (fun _ => ?_)
    · refine ⟨_, rfl, q, _, _, _, rfl, rfl, sq, ix2_0 a, _, rfl, q, _, _, _, rfl, rfl, sq, ix2_1 a, _, _, rfl, rfl, ⟨by have := lw.pos; omega, Nat.lt_trans (b2.log2 (by decide)) (by decide)⟩, (by show 2 ≤ sizeLine; decide), fun r hr' => ?_⟩
      exact k r (a.1.fdiv a.2, 1) _ upd_same (lw_int _) ((b1.le (fdiv_le lw.pos)).mono (by decide)) (bd_one (by decide)) (s1.trans (stp_new s1.pot hr'))
    have e9 : (10 : Int) ^ (9 : Int).toNat = 1000000000 := by decide
    have e60' := e60
    refine ⟨_, rfl, _, _, rfl, rfl, ⟨by decide, by decide, by decide⟩, p, _, rfl, s1.pot, (by rw [e9]; decide), bd_small (by rw [e9]; decide) (by rw [e9]; decide) (by decide), fun r H2 r0 r1 s2 => ⟨_, _, rfl, rfl, (by show 2 ≤ sizeLine; decide), fun t ht => ?_⟩⟩
    rw [e9] at r1
    have s3 := (s1.trans s2).trans (stp_new (o := .tup [.int 1, .int (1 + r)]) s2.pot ht)
    have hqt : PairAt (upd H2 t (.tup [.int 1, .int (1 + r)])) q a := hq.st hp s3
    have l1 : Lw 1 (1 + r) := ⟨by omega, by simp⟩
    have c1 : Bd 60 (1 : Int) := bd_one (by decide)
    have c2 : Bd 60 (1 + r) := bd_small (by omega) (by omega) (by decide)
    have pa : Pr (upd H2 t (.tup [.int 1, .int (1 + r)])) q a := ⟨hqt, lw, b1.mono (by decide), b2.mono (by decide)⟩
    have pt : Pr (upd H2 t (.tup [.int 1, .int (1 + r)])) t (1, 1 + r) := ⟨upd_same, l1, c1.mono (by decide), c2.mono (by decide)⟩
    have hd := mul_ne lw.pos l1.pos
    refine ⟨_, rfl, rfl, _, rfl, ?_⟩
    refine ite2 (fun _ => ?_) (fun _ => ?_)
    · exact ⟨_, rfl, k q a _ hqt lw (b1.mono (by decide)) (b2.mono (by decide)) s3⟩
    refine ⟨_, rfl, rfl, _, rfl, ?_⟩
    refine ite2 (fun _ => ?_) (fun _ => ?_)
    · exact ⟨_, rfl, _, rfl, q, t, a, (1, 1 + r), rfl, pa, pt, fun x H4 hx s4 _ => k x _ H4 hx (low_lw _ hd) (bd_low1 hd (((b1.mul c2).add ((c1.mul b2).mono (by decide))).mono (by decide))) (bd_low2 hd ((b2.mul c2).mono (by decide))) (s3.sm s4)⟩
    · exact ⟨_, rfl, _, rfl, q, t, a, (1, 1 + r), rfl, pa, pt, fun x H4 hx s4 _ => k x _ H4 hx (low_lw _ hd) (bd_low1 hd (((b1.mul c2).sub ((c1.mul b2).mono (by decide))).mono (by decide))) (bd_low2 hd ((b2.mul c2).mono (by decide))) (s3.sm s4)⟩
end
end La
namespace La
open PySem PySem.Spec PyProof.Rows L2 Ow Rm Ra
/-! ### lists of truths, shown -/
def bdt (bs : List Bool) : PyData := .list (bs.map PyData.bool)
theorem bl_show : ∀ bs : List Bool, PyData.showableAll (bs.map PyData.bool) = true
  | [] => rfl
  | b :: bs => by
    rw [List.map_cons]
    simp only [PyData.showableAll, PyData.showable, bl_show bs, Bool.and_self]
theorem bl_dict : ∀ bs : List Bool, PyData.hasDictAll (bs.map PyData.bool) = false
  | [] => rfl
  | b :: bs => by
    rw [List.map_cons]
    simp only [PyData.hasDictAll, PyData.hasDict, bl_dict bs, Bool.or_self]
theorem bl_depth : ∀ bs : List Bool, PyData.depthAll (bs.map PyData.bool) ≤ 1
  | [] => by simp [PyData.depthAll]
  | b :: bs => by
    rw [List.map_cons]
    have := bl_depth bs
    simp only [PyData.depthAll, PyData.depth]
    omega
theorem bl_len : ∀ bs : List Bool, ((PyData.shownAll (bs.map PyData.bool)).map fun z => z.length + 2).sum ≤ 10 * bs.length
  | [] => by simp [PyData.shownAll]
  | b :: bs => by
    have h := bl_len bs
    have hb : (PyData.bool b).shown.length ≤ 5 := by cases b <;> decide +kernel
    rw [List.map_cons]
    simp only [PyData.shownAll, List.map_cons, List.sum_cons, List.length_cons]
    omega
theorem bl_dp {K : PySem.W.Frag} {H : Hp} : ∀ bs : List Bool, DpAll K H (bs.map V.bl) (bs.map PyData.bool)
  | [] => .nil
  | b :: bs => .cons (.bl b) (bl_dp bs)
theorem sum_two : ∀ ts : List Str, (ts.map fun z => z.length + 2).sum = (ts.map fun z => z.length).sum + 2 * ts.length
  | [] => rfl
  | t :: ts => by
    rw [List.map_cons, List.sum_cons, sum_two ts, List.map_cons, List.sum_cons, List.length_cons]
    omega
structure Shb (K : PySem.W.Frag) (H : Hp) (a : Addr) (bs : List Bool) : Prop where
  dp : Dp K H (.ref a) (bdt bs)
  sh : (bdt bs).showable = true
  di : (bdt bs).hasDict = false
  de : (bdt bs).depth ≤ 20
  le : (bdt bs).shown.length ≤ sizeLine
theorem shb {K : PySem.W.Frag} {H : Hp} {a : Addr} {bs : List Bool} (h : H a = some (.lst (bs.map V.bl))) (l : bs.length ≤ 50) : Shb K H a bs := by
  refine ⟨.lst (SqL.of h) (bl_dp bs), bl_show bs, bl_dict bs, ?_, ?_⟩
  · have := bl_depth bs
    show PyData.depth (.list (bs.map PyData.bool)) ≤ 20
    simp only [PyData.depth]
    omega
  · show (PyData.shown (.list (bs.map PyData.bool))).length ≤ sizeLine
    simp only [PyData.shown]
    refine Nat.le_trans (listText_len_le _) (Nat.le_trans (show _ ≤ 1000 from ?_) (by decide))
    have e := bl_len bs
    rw [sum_two] at e
    omega
end La
namespace Ra
open PySem PySem.Spec PyProof.Rows L2 Ow Rm
/-- o.m(k = v, ..), a method of an instance of the class at C -/
def tMethK (C : Addr) (m : Str) (n : Nat) (sp : Sp) (gV : List V → List V → List V) (E : XK) (ta : TE) (tk : TA) : TE := fun σ H Q => ta σ H fun x H1 => ∃ a dx fs, x = .ref a ∧ H1 a = some (.ins C dx fs) ∧ fs.lookup m = none ∧
  tk σ H1 fun zs H2 => zs.length = n ∧ sp (gV [x] zs) H2 Q E
section
variable {X : Cx} {CX : CXT} {k : Nat} {C f : Addr} {fd : FuncData} {ps ks : List Str} {sp : Sp} {E : XK} {m : Str} {pos apos : Pos} {o : Expr} {kws : List Keyword} {ta : TE} {tk : TA} {g : List Value → List Value → List Value} {gV : List V → List V → List V}
theorem pe_methK0 {pl : Sem Bool} (he : PE X o ta) (c : Cls X.K C) (hm : Meth X.K C m f) (F : FnOk X.prog X.w X.K X.mg X.base CX k f fd ps sp) (hr : Room k X.A) (hb : KBn X.K fd ps 1 ks g gV) (hx : Passes CX X E) (hkw : PK X kws tk)
    (hall : (backToKw pos (keywordEach kws X.env)).all (·.1.isSome) = true := by rfl) (hks : (backToKw pos (keywordEach kws X.env)).filterMap (·.1) = ks := by rfl)
    (hpl : ((backTo pos (starEach [] X.env)).any (·.1) || (backToKw pos (keywordEach kws X.env)).any (·.1.isNone)) = false := by rfl)
    (ht : eval (.Call (.Attribute o m apos) [] kws pos) X.env = (do
      let ov ← eval o X.env
      standAt apos.atName
      let (f, first) ← holding [ov] (getMethod ov m pl)
      callWith pos f first (backTo pos (starEach [] X.env)) (backToKw pos (keywordEach kws X.env))) := by rfl) :
    PE X (.Call (.Attribute o m apos) [] kws pos) (tMethK C m ks.length sp gV E ta tk) := by
  refine ⟨fun pins s σ H Q I h => PySem.W.methodCall_KW (pl := pl) (thn (he.run pins s σ H _ I h) fun u s1 got => ?_) ht⟩
  obtain ⟨x, H1, I1, rx, a, dx, fs, rfl, ea, l, q⟩ := got
  cases rx
  refine getmeth_ok I1 ea c hm l (PySem.W.callWith_KW0 (h₀ := X.base) (first := [.ref a]) I.ok.mod.kin hm.kp hall (thn (hkw.run pos pins s1 σ H1 _ I1 q) fun ws s2 got => ?_) hpl)
  obtain ⟨zs, H2, I2, rz, hl, q2⟩ := got
  refine ⟨I2.kIn, ?_⟩
  rw [hks]
  exact run_fnN (us := [.ref a]) (vs := [.ref a]) F hr hb hx I2 (.cons rfl .nil) rz rfl hl q2
end
/-- a method of one argument, by position and by its name -/
structure MtX (P : Program) (w : World) (K : PySem.W.Frag) (mg : Str → Option Value) (base : Heap) (C : Addr) (m : Str) (k : Nat) (sp : Sp) : Prop where
  ex : ∃ f fd, Meth K C m f ∧ FnOk P w K mg base CX0 k f fd ["self", "other"] sp ∧ Binds K fd ["self", "other"] [] ∧ KBn K fd ["self", "other"] 1 ["other"] (fun us ws => us ++ ws) (fun vs zs => vs ++ zs)
/-- the own == -/
structure EqX (P : Program) (w : World) (K : PySem.W.Frag) (mg : Str → Option Value) (base : Heap) (C : Addr) : Prop where
  ex : ∃ f fd, OpOf K C "__eq__" f ∧ FnOk P w K mg base CX0 1 f fd ["self", "other"] (spEqv K C) ∧ Binds K fd ["self", "other"] []
  ne : PySem.W.findIn K (.ref C) "__ne__" = some (some (.builtin "object.__ne__"))
  nf : PySem.W.notFirst K C (.ref C) = true
/-- the sign of a difference -/
theorem low_sign (t : Int) {b : Int} (hb : 0 < b) : ((low t b).1.sign < 0) ↔ t < 0 := by
  have e := low_t (t := t) (b := b)
  have hp : 0 < byv t b := by
    have := gcd_pos (t := t) (b := b) (by omega)
    unfold byv sg
    rw [if_pos hb]
    omega
  rw [Int.sign_neg_iff]
  constructor
  · intro h
    rw [← e]
    exact Int.mul_neg_of_neg_of_pos h hp
  · intro h
    rw [← e] at h
    exact Int.not_le.mp fun y => by
      have := Int.mul_nonneg y (Int.le_of_lt hp)
      omega
theorem minus_sign {a b : Int × Int} (la : Lw a.1 a.2) (lb : Lw b.1 b.2) : decide ((minus (a.1, a.2) (b.1, b.2)).1.sign < 0) = decide (a.1 * b.2 < b.1 * a.2) := by
  refine decide_eq_decide.mpr ?_
  show (low (a.1 * b.2 - b.1 * a.2) (a.2 * b.2)).1.sign < 0 ↔ _
  rw [low_sign _ (Int.mul_pos la.pos lb.pos)]
  constructor <;> intro h <;> omega
end Ra
namespace La
open PySem PySem.Spec PyProof.Rows L2 Ow Rm Ra
/-- a ratio and its pair -/
structure En (C : Addr) (H : Hp) (o q : Addr) (a : Int × Int) : Prop where
  r : RatAt C H o a.1 a.2
  p : PairAt H q a
  lw : Lw a.1 a.2
  b1 : Bd 200 a.1
  b2 : Bd 200 a.2
theorem En.same {C : Addr} {H H' : Hp} {o q : Addr} {a : Int × Int} (h : En C H o q a) (s : Same H H') : En C H' o q a := ⟨h.r.same s, h.p.same s, h.lw, h.b1, h.b2⟩
theorem En.nm {C : Addr} {H : Hp} {o q : Addr} {a : Int × Int} (h : En C H o q a) : Nm C H (.ref o) a.1 a.2 := ⟨.inl ⟨o, rfl, h.r⟩, h.lw, h.b1.mono (by decide), h.b2.mono (by decide)⟩
section
variable {P : Program} {w : World} {K : PySem.W.Frag} {mg : Str → Option Value} {base : Heap}
def spTwoR (C : Addr) : Sp := fun vs H Q _ => ∃ (o t qa qb : Addr) (a b : Int × Int), vs = [.ref o, .ref t, .ref qa, .ref qb] ∧ En C H o qa a ∧ En C H t qb b ∧ ∀ H', Same H H' → Q (.bl true) H'
theorem scTwoR : FnScope ["_law_one", "_law_two", "_law_a", "_law_b", "_law_less", "_law_more", "_law_told"] ["_law_one", "_law_two", "_law_a", "_law_b"] (defScope sTwoR) := ⟨rfl, rfl, rfl, by decide +kernel, rfl, by decide +kernel, by decide +kernel⟩
theorem eqv_pair (a b : Int × Int) : PyData.eqv (.tuple [.int a.1, .int a.2]) (.tuple [.int b.1, .int b.2]) = decide ((a.1, a.2) = (b.1, b.2)) := by
  by_cases h1 : a.1 = b.1 <;> by_cases h2 : a.2 = b.2 <;> simp [PyData.eqv, PyData.eqvAll, h1, h2]
theorem dp_pair {H : Hp} {q : Addr} {a : Int × Int} (h : PairAt H q a) : Dp K H (.ref q) (.tuple [.int a.1, .int a.2]) := .tup (SqT.of h) (.cons (.int _) (.cons (.int _) .nil))
theorem ok_twor {f C : Addr} {fd : FuncData} (F : FnP K "_law_two_right" "_law_two_right" sTwoR [] f fd) (T : RT K mg C) (L : LT mg) (B : MtX P w K mg base C "is_below" 7 (spBelow C)) (Q_ : EqX P w K mg base C) :
    FnG P w K mg base CX0 9 f fd ["_law_one", "_law_two", "_law_a", "_law_b"] (spTwoR C) := by
  refine fnG_ok (k := 8) F scTwoR (fun vs H Q E h => ?_) (fun cdv A outer s H vs Q E hr hg h => ?_)
  · obtain ⟨o, t, qa, qb, a, b, rfl, _⟩ := h
    rfl
  · obtain ⟨o, t, qa, qb, a, b, rfl, ha, hb, k⟩ := h
    have hr0 := hr.mono (by decide : 0 ≤ 8)
    have hr1 := hr.mono (by decide : 1 ≤ 8)
    have hr2 := hr.mono (by decide : 2 ≤ 8)
    have hr7 := hr.mono (by decide : 7 ≤ 8)
    have hu : (A.deeper (envOfC "_law_two_right" (defScope sTwoR) s.heap.objs.size f cdv)).units + 64 < cLine := by have := hr0.units; omega
    obtain ⟨fb, fbd, mt, Fb, bb, kb⟩ := B.ex
    obtain ⟨fq, fqd, oq, Fq, bq⟩ := Q_.ex
    refine ⟨_, PSs.nox (pss_cons (ps_par (i := 4) (j := 5) rfl scTwoR.nd rfl rfl (by decide) rfl rfl
        (pa_cons (pe_cmpR op_lt (pe_op op_mulW (pe_ix ix_tup (pv 2) pe_int (fun _ _ => rfl)) (pe_ix ix_tup (pv 3) pe_int (fun _ _ => rfl))) (pe_op op_mulW (pe_ix ix_tup (pv 3) pe_int (fun _ _ => rfl)) (pe_ix ix_tup (pv 2) pe_int (fun _ _ => rfl))) (nomark _))
        (pa_cons (pe_cmpR op_gt (pe_op op_mulW (pe_ix ix_tup (pv 2) pe_int (fun _ _ => rfl)) (pe_ix ix_tup (pv 3) pe_int (fun _ _ => rfl))) (pe_op op_mulW (pe_ix ix_tup (pv 3) pe_int (fun _ _ => rfl)) (pe_ix ix_tup (pv 2) pe_int (fun _ _ => rfl))) (nomark _)) pa_nil)) rfl)
      (pss_cons (ps_set (i := 6) scTwoR.nd rfl (Or.inl rfl) (pe_lst (pa_cons (pe_meth (pv 0) T.cl mt Fb hr7 bb .nil pass0 (pa_cons (pv 1) pa_nil)) (pa_cons (pe_meth (pv 1) T.cl mt Fb hr7 bb .nil pass0 (pa_cons (pv 0) pa_nil))
        (pa_cons (pe_methK0 (pv 0) T.cl mt Fb hr7 kb pass0 (pk_cons (pv 1) pk_nil)) (pa_cons (pe_cmpR (op_eqI oq Fq hr1 bq pass0) (pv 0) (pv 1) (nomark _)) (pa_cons (pe_cmpR (op_neI oq Q_.ne T.cm Fq hr2 bq pass0) (pv 0) (pv 1) (nomark _)) pa_nil)))))))
      (pss_one (ps_ret (pe_cmpR op_eq (pe_callB (call_repr_data hg hr0) (by rfl) L.repr PyProof.Rows.boot_repr (pa_cons (pv 6) pa_nil))
        (pe_callB (call_repr_data hg hr0) (by rfl) L.repr PyProof.Rows.boot_repr (pa_cons (pe_lst (pa_cons (pv 4) (pa_cons (pv 5) (pa_cons (pv 4) (pa_cons (pe_cmpR (op_eqD hu) (pv 2) (pv 3) (nomark _)) (pa_cons (pe_cmpR (op_neD hu) (pv 2) (pv 3) (nomark _)) pa_nil)))))) pa_nil)) (nomark _)))))), ?_⟩
    have sa : SqT K H qa [.int a.1, .int a.2] := SqT.of ha.p
    have sb : SqT K H qb [.int b.1, .int b.2] := SqT.of hb.p
    refine ⟨_, rfl, qa, _, _, _, rfl, rfl, sa, ix2_0 a, _, rfl, qb, _, _, _, rfl, rfl, sb, ix2_1 b, _, _, rfl, rfl, cmul ha.b1 hb.b2, _, rfl, qb, _, _, _, rfl, rfl, sb, ix2_0 b, _, rfl, qa, _, _, _, rfl, rfl, sa, ix2_1 a, _, _, rfl, rfl, cmul hb.b1 ha.b2, _, _, rfl, rfl, ?_⟩
    refine ⟨_, rfl, qa, _, _, _, rfl, rfl, sa, ix2_0 a, _, rfl, qb, _, _, _, rfl, rfl, sb, ix2_1 b, _, _, rfl, rfl, cmul ha.b1 hb.b2, _, rfl, qb, _, _, _, rfl, rfl, sb, ix2_0 b, _, rfl, qa, _, _, _, rfl, rfl, sa, ix2_1 a, _, _, rfl, rfl, cmul hb.b1 ha.b2, _, _, rfl, rfl, _, _, rfl, ?_⟩
    have no : ∀ n d : Int, (rf n d).lookup ("is_below" : Str) = none := fun n d => rf_no n d (by decide +kernel) (by decide +kernel)
    obtain ⟨dx, hx⟩ := id ha.r
    obtain ⟨dy, hy⟩ := id hb.r
    refine ⟨_, rfl, o, dx, _, rfl, hx, no _ _, _, rfl, o, _, a.1, a.2, b.1, b.2, rfl, ha.nm, hb.nm, fun H1 s1 => ?_⟩
    refine ⟨_, rfl, t, dy, _, rfl, s1 _ _ hy, no _ _, _, rfl, t, _, b.1, b.2, a.1, a.2, rfl, (hb.same s1).nm, (ha.same s1).nm, fun H2 s2 => ?_⟩
    have s12 := s1.trans s2
    refine ⟨_, rfl, o, dx, _, rfl, s12 _ _ hx, no _ _, _, rfl, rfl, o, _, a.1, a.2, b.1, b.2, rfl, (ha.same s12).nm, (hb.same s12).nm, fun H3 s3 => ?_⟩
    have s13 := s12.trans s3
    have tyb : TyX K H3 (.ref t) (.ref C) := .base (.ins (s13 _ _ hy) T.cl T.ca T.cg T.ct T.cm)
    refine ⟨_, rfl, _, rfl, o, dx, _, .ref C, rfl, s13 _ _ hx, tyb, Q_.nf, o, .ref t, a.1, a.2, rfl, ⟨dx, s13 _ _ hx⟩, .inl ⟨t, b.1, b.2, rfl, ⟨dy, s13 _ _ hy⟩, ?_⟩⟩
    refine ⟨_, rfl, _, rfl, o, dx, _, .ref C, rfl, s13 _ _ hx, tyb, Q_.nf, o, .ref t, a.1, a.2, rfl, ⟨dx, s13 _ _ hx⟩, .inl ⟨t, b.1, b.2, rfl, ⟨dy, s13 _ _ hy⟩, _, rfl, (by show 5 ≤ sizeLine; decide), fun l hl => ?_⟩⟩
    rw [minus_sign ha.lw hb.lw, minus_sign hb.lw ha.lw]
    obtain ⟨bs, hbs⟩ : ∃ bs : List Bool, bs = [decide (a.1 * b.2 < b.1 * a.2), decide (b.1 * a.2 < a.1 * b.2), decide (a.1 * b.2 < b.1 * a.2), decide ((a.1, a.2) = (b.1, b.2)), !decide ((a.1, a.2) = (b.1, b.2))] := ⟨_, rfl⟩
    have l5 : bs.length ≤ 50 := by rw [hbs]; show 5 ≤ 50; decide
    have SF := shb (K := K) (H := fun _ => some (.lst (bs.map V.bl))) (a := l) (bs := bs) rfl l5
    refine ⟨_, rfl, l, bdt bs, rfl, (shb (by rw [hbs]; exact upd_same) l5).dp, SF.sh, SF.di, SF.de, SF.le, ?_⟩
    have s14 := s13.trans (same_upd (o := .lst (bs.map V.bl)) hl)
    rw [hbs] at s14
    refine ⟨_, rfl, _, rfl, _, rfl, _, rfl, _, rfl, _, _, dp_pair (ha.p.same s14), dp_pair (hb.p.same s14), rfl, rfl, _, rfl, _, rfl, _, _, dp_pair (ha.p.same s14), dp_pair (hb.p.same s14), rfl, rfl, (by show 5 ≤ sizeLine; decide), fun m hm => ?_⟩
    rw [eqv_pair]
    refine ⟨m, bdt bs, rfl, (shb (by rw [hbs]; exact upd_same) l5).dp, SF.sh, SF.di, SF.de, SF.le, rfl, ?_⟩
    rw [decide_eq_true rfl]
    exact k _ (s14.trans (same_upd hm))
end
end La
namespace La
open PySem PySem.Spec PyProof.Rows L2 Ow Rm Ra
/-- what is asked of the classes, for == with things of other kinds -/
structure WO (K : PySem.W.Frag) (C D : Addr) : Prop where
  kl : PySem.W.kitOne K (.type "list") (.ref C) = some false
  kt : PySem.W.kitOne K (.type "tuple") (.ref C) = some false
  kd : PySem.W.kitOne K (.type "dict") (.ref C) = some false
  kn : PySem.W.kitOne K (.type "NoneType") (.ref C) = some false
  kb : PySem.W.kitOne K (.type "bool") (.ref C) = some false
  ks : PySem.W.kitOne K (.type "str") (.ref C) = some false
  kD : PySem.W.kitOne K (.ref D) (.ref C) = some false
  fl : PySem.W.notFirst K C (.type "list") = true
  ft : PySem.W.notFirst K C (.type "tuple") = true
  fd : PySem.W.notFirst K C (.type "dict") = true
  fn : PySem.W.notFirst K C (.type "NoneType") = true
  fb : PySem.W.notFirst K C (.type "bool") = true
  fs : PySem.W.notFirst K C (.type "str") = true
  fi : PySem.W.notFirst K C (.type "int") = true
  fD : PySem.W.notFirst K C (.ref D) = true
  sl : PySem.W.subIn K (.ref C) (.type "list") = some false
  st : PySem.W.subIn K (.ref C) (.type "tuple") = some false
  sd : PySem.W.subIn K (.ref C) (.type "dict") = some false
  sn : PySem.W.subIn K (.ref C) (.type "NoneType") = some false
  sb : PySem.W.subIn K (.ref C) (.type "bool") = some false
  ss : PySem.W.subIn K (.ref C) (.type "str") = some false
  ca : PySem.W.findIn K (.ref D) "__class__" = some (some (.builtin "object.__class__"))
  cm : PySem.W.mroIn K D (.type "object") = some true
  DC : PySem.W.notFirst K D (.ref C) = true
  CD : PySem.W.kitOne K (.ref C) (.ref D) = some false
/-- a thing that is no ratio and no integer -/
def Ot (K : PySem.W.Frag) (C D : Addr) (H : Hp) (v : V) : Prop := (∃ t, TyX K H v t ∧ PySem.W.kitOne K t (.ref C) = some false ∧ PySem.W.notFirst K C t = true) ∧
  (v = .non ∨ (∃ b, v = .bl b) ∨ (∃ z, v = .str z) ∨ (∃ l xs, v = .ref l ∧ H l = some (.tup xs)) ∨ (∃ l xs, v = .ref l ∧ H l = some (.lst xs)) ∨ (∃ l kvs, v = .ref l ∧ H l = some (.dK kvs)) ∨ ∃ l dx fs, v = .ref l ∧ H l = some (.ins D dx fs))
section
variable {K : PySem.W.Frag} {mg : Str → Option Value} {C D : Addr} {H : Hp}
theorem ot_non (W : WO K C D) : Ot K C D H .non := ⟨⟨_, .base .non, W.kn, W.fn⟩, .inl rfl⟩
theorem ot_bl (W : WO K C D) (b : Bool) : Ot K C D H (.bl b) := ⟨⟨_, .base (.bl b), W.kb, W.fb⟩, .inr (.inl ⟨b, rfl⟩)⟩
theorem ot_str (W : WO K C D) (z : Str) : Ot K C D H (.str z) := ⟨⟨_, .base (.str z), W.ks, W.fs⟩, .inr (.inr (.inl ⟨z, rfl⟩))⟩
theorem ot_tup (W : WO K C D) (H : Hp) (a : Addr) (xs : List V) (h : H a = some (.tup xs)) : Ot K C D H (.ref a) := ⟨⟨_, .base (.tup h), W.kt, W.ft⟩, .inr (.inr (.inr (.inl ⟨a, xs, rfl, h⟩)))⟩
theorem ot_lst (W : WO K C D) (H : Hp) (a : Addr) (xs : List V) (h : H a = some (.lst xs)) : Ot K C D H (.ref a) := ⟨⟨_, .base (.lst h), W.kl, W.fl⟩, .inr (.inr (.inr (.inr (.inl ⟨a, xs, rfl, h⟩))))⟩
theorem ot_dict (W : WO K C D) (H : Hp) (a : Addr) (kvs : List (Key × V)) (h : H a = some (.dK kvs)) : Ot K C D H (.ref a) := ⟨⟨_, .base (.dK h), W.kd, W.fd⟩, .inr (.inr (.inr (.inr (.inr (.inl ⟨a, kvs, rfl, h⟩)))))⟩
theorem ot_ins (W : WO K C D) (R : RT K mg C) (U : TT K mg D) {a dx : Addr} {fs : List (Str × V)} (h : H a = some (.ins D dx fs)) : Ot K C D H (.ref a) := ⟨⟨_, .base (.ins h U.cl W.ca R.cg R.ct W.cm), W.kD, W.fD⟩, .inr (.inr (.inr (.inr (.inr (.inr ⟨a, dx, fs, rfl, h⟩)))))⟩
theorem Ot.same {v : V} {H' : Hp} (h : Ot K C D H v) (s : Same H H') : Ot K C D H' v := by
  obtain ⟨⟨ty, h1, h2, h3⟩, h⟩ := h
  refine ⟨⟨ty, ty_ext s h1, h2, h3⟩, ?_⟩
  rcases h with h | h | h | ⟨l, xs, rfl, h⟩ | ⟨l, xs, rfl, h⟩ | ⟨l, xs, rfl, h⟩ | ⟨l, dx, fs, rfl, h⟩
  · exact .inl h
  · exact .inr (.inl h)
  · exact .inr (.inr (.inl h))
  · exact .inr (.inr (.inr (.inl ⟨l, xs, rfl, s _ _ h⟩)))
  · exact .inr (.inr (.inr (.inr (.inl ⟨l, xs, rfl, s _ _ h⟩))))
  · exact .inr (.inr (.inr (.inr (.inr (.inl ⟨l, xs, rfl, s _ _ h⟩)))))
  · exact .inr (.inr (.inr (.inr (.inr (.inr ⟨l, dx, fs, rfl, s _ _ h⟩)))))
end
section
variable {P : Program} {w : World} {K : PySem.W.Frag} {mg : Str → Option Value} {base : Heap}
theorem En.st {C : Addr} {H H' : Hp} {o q p : Addr} {a : Int × Int} (h : En C H o q a) (hp : Pot H p) (s : Stp p H H') : En C H' o q a := ⟨RatAt.st h.r hp s, h.p.st hp s, h.lw, h.b1, h.b2⟩
/-! ### Table.__eq__ beside a thing of another kind -/
abbrev sTEq : Stmt := inClass (top 21) 14
def spTEq (K : PySem.W.Frag) (D : Addr) : Sp := fun vs H Q _ => ∃ x v dx fs t, vs = [.ref x, v] ∧ H x = some (.ins D dx fs) ∧ TyX K H v t ∧ PySem.W.kitOne K t (.ref D) = some false ∧ Q (.bl false) H
theorem scTEq : FnScope ["self", "other"] ["self", "other"] (defScope sTEq) := ⟨rfl, rfl, rfl, by decide +kernel, rfl, by decide +kernel, by decide +kernel⟩
theorem ok_teq {f D C : Addr} {fd : FuncData} (F : FnP K "__eq__" "Table.__eq__" sTEq [] f fd) (R : RT K mg C) (U : TT K mg D) : FnOk P w K mg base CX0 1 f fd ["self", "other"] (spTEq K D) := by
  refine F.ok scTEq (fun vs H Q E h => ?_) (fun cdv A outer s H vs Q E hr h => ?_)
  · obtain ⟨x, v, dx, fs, t, rfl, _⟩ := h
    rfl
  · obtain ⟨x, v, dx, fs, t, rfl, hx, ty, no, k⟩ := h
    refine ⟨_, PSs.nox (pss_one (ps_ret (pe_and (pe_callB call_isi (by rfl) R.isi boot_isinstance (pa_cons (pv 1) (pa_cons (pe_glob (v := .ref D) rfl U.mgT rfl) pa_nil))) (pe_one (pe_cmpR op_eq (pe_fld (pv 0) rfl) (pe_fld (pv 1) rfl) (nomark _)))))), ?_⟩
    refine ⟨_, rfl, v, .ref D, t, .ref D, false, rfl, .own D, ty, no, false, rfl, ?_⟩
    exact iteF k
structure TEq (P : Program) (w : World) (K : PySem.W.Frag) (mg : Str → Option Value) (base : Heap) (D : Addr) : Prop where
  ex : ∃ f fd, OpOf K D "__eq__" f ∧ FnOk P w K mg base CX0 1 f fd ["self", "other"] (spTEq K D) ∧ Binds K fd ["self", "other"] []
/-- a thing of another kind on the left, a ratio on the right: == says False -/
def rOt (K : PySem.W.Frag) (C D : Addr) : R2 := fun v y H Q => ∃ a n d, y = .ref a ∧ RatAt C H a n d ∧ Ot K C D H v ∧ Q (.bl false) H
theorem op_ot {X : Cx} {C D : Addr} (W : WO X.K C D) (R : RT X.K X.mg C) (q : EqX X.prog X.w X.K X.mg X.base C) (e : TEq X.prog X.w X.K X.mg X.base D) (hr : Room 1 X.A) : OpR X (compareOp .Eq) (rOt X.K C D) := by
  obtain ⟨f, fd, o, F, b⟩ := q.ex
  obtain ⟨g, gd, o2, F2, b2⟩ := e.ex
  intro pins s σ H x y u v Q I rx ry h
  obtain ⟨a, n, d, rfl, ⟨dx, ha⟩, ⟨⟨t, ty, no, nf⟩, hv⟩, k⟩ := h
  have sp : spEqv X.K C [.ref a, x] H Q E0 := ⟨a, x, n, d, rfl, ⟨dx, ha⟩, .inr ⟨t, ty, no, k⟩⟩
  rcases hv with rfl | ⟨z, rfl⟩ | ⟨z, rfl⟩ | ⟨l, xs, rfl, hl⟩ | ⟨l, xs, rfl, hl⟩ | ⟨l, xs, rfl, hl⟩ | ⟨l, dl, fs, rfl, hl⟩
  · exact op_eqNr o W.sn F hr b pass0 pins s σ H _ _ _ _ Q I rx ry ⟨a, dx, _, rfl, rfl, ha, sp⟩
  · exact op_eqBr o W.sb F hr b pass0 pins s σ H _ _ _ _ Q I rx ry ⟨a, dx, _, z, rfl, rfl, ha, sp⟩
  · exact op_eqSr o W.ss F hr b pass0 pins s σ H _ _ _ _ Q I rx ry ⟨a, dx, _, z, rfl, rfl, ha, sp⟩
  · exact op_eqTr o W.st F hr b pass0 pins s σ H _ _ _ _ Q I rx ry ⟨a, dx, _, l, xs, rfl, hl, rfl, ha, sp⟩
  · exact op_eqLr o W.sl F hr b pass0 pins s σ H _ _ _ _ Q I rx ry ⟨a, dx, _, l, xs, rfl, hl, rfl, ha, sp⟩
  · exact op_eqDr o W.sd F hr b pass0 pins s σ H _ _ _ _ Q I rx ry ⟨a, dx, _, l, xs, rfl, hl, rfl, ha, sp⟩
  · have tyC : TyX X.K H (.ref a) (.ref C) := .base (.ins ha R.cl R.ca R.cg R.ct R.cm)
    exact op_eqI o2 F2 hr b2 pass0 pins s σ H _ _ _ _ Q I rx ry ⟨l, dl, fs, .ref C, rfl, hl, tyC, W.DC, l, .ref a, dl, fs, .ref C, rfl, hl, tyC, W.CD, k⟩
end
end La
namespace La
open PySem PySem.Spec PyProof.Rows L2 Ow Rm Ra
structure ShX (P : Program) (w : World) (K : PySem.W.Frag) (mg : Str → Option Value) (base : Heap) (C : Addr) (nm : Str) (g : Int → Int → Str) : Prop where
  ex : ∃ f fd, OpOf K C nm f ∧ FnOk P w K mg base CX0 1 f fd ["self"] (spText g C) ∧ Binds K fd ["self"] []
theorem shown_str {X : Cx} {C : Addr} {g : Int → Int → Str} (O : ShX X.prog X.w X.K X.mg X.base C "__str__" g) (hr : Room 3 X.A) : CallR X (.type "str") (rShow C (spText g C) E0) := by
  obtain ⟨f, fd, o, F, hb⟩ := O.ex
  exact call_str_own o F hr hb pass0
theorem shown_repr {X : Cx} {C : Addr} {g : Int → Int → Str} (O : ShX X.prog X.w X.K X.mg X.base C "__repr__" g) (hr : Room 2 X.A) : CallR X (.builtin "repr") (rShow C (spText g C) E0) := by
  obtain ⟨f, fd, o, F, hb⟩ := O.ex
  exact call_repr_own o F hr hb pass0
section
variable {P : Program} {w : World} {K : PySem.W.Frag} {mg : Str → Option Value} {base : Heap}
def spTb (D : Addr) : Sp := fun vs H Q _ => ∃ x dx ns, vs = .ref x :: (ns.map V.int) ∧ H x = some (.ins D dx []) ∧ Desc ns ∧ ∀ H' fs, H' x = some (.ins D dx fs) → (∀ b o, b ≠ x → H b = some o → H' b = some o) → Q .non H'
structure TMk (P : Program) (w : World) (K : PySem.W.Frag) (mg : Str → Option Value) (base : Heap) (D : Addr) : Prop where
  ex : ∃ f, Mk K D f ∧ FnR P w K mg base CX0 9 f (spTb D)
theorem desc1 : Desc [1] := by
  refine ⟨by decide, by decide, fun i n h => ?_, fun n h => ?_, fun i n m h1 h2 => nomatch h2⟩
  · rcases i with _ | i
    · cases h
      decide
    · exact nomatch h
  · cases h
    decide
theorem table_new {D : Addr} (ns : List Int) (hd : Desc ns) {H : Hp} {Q : VK} (h : ∀ x dx fs H', H' x = some (.ins D dx fs) → Same H H' → Q (.ref x) H') :
    ∀ x dx, H x = none → H dx = none → dx ≠ x → spTb D (.ref x :: ns.map V.int) (upd (upd H dx (.own x)) x (.ins D dx [])) (fun v H2 => v = .non ∧ Q (.ref x) H2) E0 := by
  intro x dx hx hdx ne
  refine ⟨x, dx, ns, rfl, upd_same, hd, fun H' fs e k => ⟨rfl, h x dx fs H' e fun b o eb => k b o (ne_of_none eb hx) ?_⟩⟩
  rw [upd_ne (ne_of_none eb hx), upd_ne (ne_of_none eb hdx)]
  exact eb
theorem any_false (n : Nat) : (List.replicate n false).any id = false := by
  rw [List.any_replicate]
  split <;> rfl
def spWhole (C : Addr) : Sp := fun vs H Q _ => ∃ (p o q : Addr) (a : Int × Int), vs = [.ref p, .ref o, .ref q] ∧ Pot H p ∧ En C H o q a ∧ ∀ H', Stp p H H' → Q (.bl true) H'
abbrev d__law_whole_right : Stmt := sWholeR
abbrev n__law_whole_right : List Str := ["_law_pot_here", "_law_one", "_law_a", "_law_down", "_law_n", "_law_told", "_law_due", "_law_odd", "_law_some"]
theorem sc__law_whole_right : FnScope n__law_whole_right ["_law_pot_here", "_law_one", "_law_a"] (defScope d__law_whole_right) := ⟨rfl, rfl, rfl, by decide +kernel, rfl, by decide +kernel, by decide +kernel⟩
def dn (a : Int × Int) : Int := a.1.fdiv a.2
theorem low_less {a : Int × Int} {n : Int} (la : Lw a.1 a.2) : decide ((minus (a.1, a.2) (n, 1)).1.sign < 0) = decide (a.1 < n * a.2) := by
  have h := minus_sign (a := a) (b := (n, 1)) la (lw_int n)
  rw [Int.mul_one] at h
  exact h
theorem low_more {a : Int × Int} {n : Int} (la : Lw a.1 a.2) : decide ((minus (n, 1) (a.1, a.2)).1.sign < 0) = decide (n * a.2 < a.1) := by
  have h := minus_sign (a := (n, 1)) (b := a) (lw_int n) la
  rw [Int.mul_one] at h
  exact h
theorem ok_whole {f C D : Addr} {fd : FuncData} (F : FnP K "_law_whole_right" "_law_whole_right" sWholeR [] f fd) (T : RT K mg C) (L : LT mg) (hany : mg "any" = none) (hlist : mg "list" = none) (U : TT K mg D) (W : WO K C D) (M : RMk P w K mg base C) (N : TMk P w K mg base D)
    (Ig : Dfn P w K mg base 3 "_law_integer" ["_law_pot_here"] spInteger) (B : MtX P w K mg base C "is_below" 7 (spBelow C)) (Q_ : EqX P w K mg base C) (E_ : TEq P w K mg base D)
    (sS : ShX P w K mg base C "__str__" txt) (sR : ShX P w K mg base C "__repr__" shw) : FnG P w K mg base CX0 11 f fd ["_law_pot_here", "_law_one", "_law_a"] (spWhole C) := by
  refine fnG_ok (k := 10) F sc__law_whole_right (fun vs H Q E h => ?_) (fun cdv A outer s H vs Q E hr hg h => ?_)
  · obtain ⟨p, o, q, a, rfl, _⟩ := h
    rfl
  · obtain ⟨p, o, qa, a, rfl, hp, he, k⟩ := h
    have hr0 := hr.mono (by decide : 0 ≤ 10)
    have hr1 := hr.mono (by decide : 1 ≤ 10)
    have hr2 := hr.mono (by decide : 2 ≤ 10)
    have hr3 := hr.mono (by decide : 3 ≤ 10)
    have hr7 := hr.mono (by decide : 7 ≤ 10)
    have hu : (A.deeper (envOfC "_law_whole_right" (defScope sWholeR) s.heap.objs.size f cdv)).units + 64 < cLine := by have := hr0.units; omega
    obtain ⟨fb, fbd, mt, Fb, bb, _⟩ := B.ex
    obtain ⟨fq, fqd, oq, Fq, bq⟩ := id Q_.ex
    obtain ⟨ft, mk, Ft⟩ := N.ex
    refine ⟨_, PSs.nox (pss_cons (ps_set (i := 3) sc__law_whole_right.nd rfl (Or.inl rfl) (pe_op op_fdivZ (pe_ix ix_tup (pv 2) pe_int (fun _ _ => rfl)) (pe_ix ix_tup (pv 2) pe_int (fun _ _ => rfl))))
      (pss_cons (ps_for PassesOwn.never rfl (pi_list (pe_lst (pa_cons (pv 3) (pa_cons (pe_op op_add (pv 3) pe_int) (pa_cons (pe_op op_sub (pv 3) pe_int) (pa_cons pe_int (pa_cons (pe_use Ig hr3 rfl (pa_cons (pv 0) pa_nil)) pa_nil))))))) (pg_name (i := 4) sc__law_whole_right.nd rfl (.inl rfl))
      (pss_cons (ps_set (i := 5) sc__law_whole_right.nd rfl (Or.inl rfl) (pe_lst (pa_cons (pe_meth (pv 1) T.cl mt Fb hr7 bb .nil pass0 (pa_cons (pv 4) pa_nil)) (pa_cons (pe_meth (pe_rat1 M hr3 rfl T.mgC (pv 4)) T.cl mt Fb hr7 bb .nil pass0 (pa_cons (pv 1) pa_nil)) (pa_cons (pe_cmpR (op_eqI oq Fq hr1 bq pass0) (pv 1) (pe_rat1 M hr3 rfl T.mgC (pv 4)) (nomark _)) (pa_cons (pe_cmpR (op_eqI oq Fq hr1 bq pass0) (pv 1) (pv 4) (nomark _)) (pa_cons (pe_cmpR (op_eqIr oq T.num.ci Fq hr1 bq pass0) (pv 4) (pv 1) (nomark _)) (pa_cons (pe_cmpR (op_neI oq Q_.ne T.cm Fq hr2 bq pass0) (pv 1) (pv 4) (nomark _)) pa_nil))))))))
      (pss_cons (ps_set (i := 6) sc__law_whole_right.nd rfl (Or.inl rfl) (pe_lst (pa_cons (pe_cmpR op_lt (pe_ix ix_tup (pv 2) pe_int (fun _ _ => rfl)) (pe_op op_mulW (pv 4) (pe_ix ix_tup (pv 2) pe_int (fun _ _ => rfl))) (nomark _)) (pa_cons (pe_cmpR op_lt (pe_op op_mulW (pv 4) (pe_ix ix_tup (pv 2) pe_int (fun _ _ => rfl))) (pe_ix ix_tup (pv 2) pe_int (fun _ _ => rfl)) (nomark _)) (pa_cons (pe_cmpR (op_eqD hu) (pv 2) (pe_tup (pa_cons (pv 4) (pa_cons pe_int pa_nil))) (nomark _)) (pa_cons pe_bl (pa_cons pe_bl (pa_cons pe_bl pa_nil))))))))
      (pss_one (ps_if (pt_cmpR op_ne (pe_callB (r := rData K) (call_repr_data hg hr0) (by rfl) L.repr PyProof.Rows.boot_repr (pa_cons (pv 5) pa_nil)) (pe_callB (r := rData K) (call_repr_data hg hr0) (by rfl) L.repr PyProof.Rows.boot_repr (pa_cons (pv 6) pa_nil)) (nomark _)) (pss_one (ps_ret pe_bl)) pss_nil)))))
      (pss_cons (ps_set (i := 7) sc__law_whole_right.nd rfl (Or.inl rfl) (pe_lst (pa_cons pe_non (pa_cons pe_bl (pa_cons pe_bl (pa_cons pe_str (pa_cons (pe_callTy (shown_str sS hr3) (by rfl) T.str (by decide +kernel) (pa_cons (pv 1) pa_nil)) (pa_cons (pe_callB (shown_repr sR hr2) (by rfl) L.repr PyProof.Rows.boot_repr (pa_cons (pv 1) pa_nil)) (pa_cons (pv 2) (pa_cons (pe_callTy call_list_of (by rfl) hlist (by decide +kernel) (pa_cons (pv 2) pa_nil)) (pa_cons (pe_lst (pa_cons (pv 1) pa_nil)) (pa_cons (pe_tup (pa_cons (pv 1) pa_nil)) (pa_cons pe_dnewK (pa_cons (StX.pe_makeR mk Ft hr rfl U.mgT pass0 (pa_cons pe_int pa_nil)) pa_nil))))))))))))))
      (pss_one (ps_ret (pe_not (pe_callB (cr_any rfl) (by rfl) hany PyProof.Rows.boot_any (pa_cons (pe_lc rfl sc__law_whole_right.nd (pi_list (pv 7)) (blkOk_by (own := [("_law_some", 8)]) (by show blkC n__law_whole_right (defScope d__law_whole_right) _ _ = true; decide +kernel)) (fun _ _ _ _ _ => pg_name (i := 8) sc__law_whole_right.nd rfl (.inl rfl)) (fun _ _ _ _ _ => pts_nil) (fun _ _ _ _ _ => (pe_or (pe_cmpR (r := rEqI K C (spEqv K C) E0) (op_eqI oq Fq hr1 bq pass0) (pv 1) (pv 8) (nomark _)) (pe_one (pe_cmpR (r := rOt K C D) (op_ot W T Q_ E_ hr1) (pv 8) (pv 1) (nomark _)))))) pa_nil)))))))), ?_⟩
    have sq : SqT K H qa [.int a.1, .int a.2] := SqT.of he.p
    refine ⟨_, rfl, qa, _, _, _, rfl, rfl, sq, ix2_0 a, _, rfl, qa, _, _, _, rfl, rfl, sq, ix2_1 a, _, _, rfl, rfl, ⟨by have := he.lw.pos; omega, Nat.lt_trans (he.b2.log2 (by decide)) (by decide)⟩, ?_⟩
    have bd0 : Bd 200 (dn a) := he.b1.le (fdiv_le he.lw.pos)
    refine ⟨_, rfl, _, rfl, _, _, rfl, rfl, _, rfl, _, _, rfl, rfl, _, rfl, p, rfl, hp, fun z H1 bz s1 => ⟨by show 5 ≤ sizeLine; decide, fun l1 hl1 => ⟨l1, rfl, ⟨_, SqL.of upd_same⟩, ?_⟩⟩⟩
    have nl : l1 ≠ p := pot_ne s1.pot hl1
    have hint : ∀ (i : Nat) x, ([.int (dn a), .int (dn a + 1), .int (dn a - 1), .int 0, .int z] : List V)[i]? = some x → ∃ n, x = .int n ∧ Bd 210 n := by
      intro i x h
      have b1 : Bd 200 (1 : Int) := bd_one (by decide)
      rcases i with _ | _ | _ | _ | _ | i
      · cases h; exact ⟨_, rfl, bd0.mono (by decide)⟩
      · cases h; exact ⟨_, rfl, (bd0.add b1).mono (by decide)⟩
      · cases h; exact ⟨_, rfl, (bd0.sub b1).mono (by decide)⟩
      · cases h; exact ⟨_, rfl, bd_zero⟩
      · cases h; exact ⟨_, rfl, bz.mono (by decide)⟩
      · exact nomatch h
    refine for_it (walk_list (xs := [.int (dn a), .int (dn a + 1), .int (dn a - 1), .int 0, .int z])) (fun i σ H' => ∃ v4 v5 v6 : Option V, σ = [some (.ref p), some (.ref o), some (.ref qa), some (.int (dn a)), v4, v5, v6, none, none] ∧ Stp p H H' ∧ H' l1 = some (.lst [.int (dn a), .int (dn a + 1), .int (dn a - 1), .int 0, .int z]))
      ⟨_, _, _, rfl, s1.trans (stp_new s1.pot hl1), upd_same⟩ (fun i σ H' _ h => by obtain ⟨_, _, _, _, _, h⟩ := h; exact SqL.of h) ?_ ?_
    · rintro i x σ H2 H3 hi ⟨v4, v5, v6, rfl, st, hL⟩ ⟨rfl, hx⟩
      obtain ⟨n, rfl, bn⟩ := hint i x hx
      have en := he.st hp st
      have no : ∀ n d : Int, (rf n d).lookup ("is_below" : Str) = none := fun n d => rf_no n d (by decide +kernel) (by decide +kernel)
      have nmn : ∀ {H : Hp} {q : Addr}, RatAt C H q n 1 → Nm C H (.ref q) n 1 := fun r => ⟨.inl ⟨_, rfl, r⟩, lw_int n, bn.mono (by decide), bd_one (by decide)⟩
      obtain ⟨dx, hx⟩ := id en.r
      refine ⟨_, rfl, o, dx, _, rfl, hx, no _ _, _, rfl, o, _, a.1, a.2, n, 1, rfl, en.nm, nm_int (bn.mono (by decide)), fun H6 s6 => ?_⟩
      refine ⟨_, rfl, rat_new (by decide) (bd_one (by decide)) fun q7 H7 hq7 s7 _ => ?_⟩
      rw [low_int] at hq7
      obtain ⟨dy, hy⟩ := id hq7
      have s67 := s6.trans s7
      refine ⟨q7, dy, _, rfl, hy, no _ _, _, rfl, q7, _, n, 1, a.1, a.2, rfl, nmn hq7, (en.same s67).nm, fun H8 s8 => ?_⟩
      have s68 := s67.trans s8
      refine ⟨_, rfl, _, rfl, rat_new (by decide) (bd_one (by decide)) fun q9 H9 hq9 s9 _ => ?_⟩
      rw [low_int] at hq9
      have s69 := s68.trans s9
      obtain ⟨dz, hz⟩ := id hq9
      have tyz : TyX K H9 (.ref q9) (.ref C) := .base (.ins hz T.cl T.ca T.cg T.ct T.cm)
      have hx9 := s69 _ _ hx
      refine ⟨o, dx, _, .ref C, rfl, hx9, tyz, Q_.nf, o, .ref q9, a.1, a.2, rfl, ⟨dx, hx9⟩, .inl ⟨q9, n, 1, rfl, hq9, ?_⟩⟩
      refine ⟨_, rfl, _, rfl, o, dx, _, .type "int", rfl, hx9, .base (.int n), W.fi, o, .int n, a.1, a.2, rfl, ⟨dx, hx9⟩, .inr ⟨_, .base (.int n), T.kIC, ?_⟩⟩
      refine ⟨_, rfl, _, rfl, o, dx, _, n, rfl, rfl, hx9, o, .int n, a.1, a.2, rfl, ⟨dx, hx9⟩, .inr ⟨_, .base (.int n), T.kIC, ?_⟩⟩
      refine ⟨_, rfl, _, rfl, o, dx, _, .type "int", rfl, hx9, .base (.int n), W.fi, o, .int n, a.1, a.2, rfl, ⟨dx, hx9⟩, .inr ⟨_, .base (.int n), T.kIC, _, rfl, by show 6 ≤ sizeLine; decide, fun l hl => ?_⟩⟩
      rw [low_less en.lw, low_more en.lw]
      have e9 := en.same s69
      have sl := e9.same (same_upd (o := .lst [V.bl (decide (a.1 < n * a.2)), V.bl (decide (n * a.2 < a.1)), V.bl (decide ((a.1, a.2) = (n, 1))), V.bl false, V.bl false, V.bl (!false)]) hl)
      have sqa := SqT.of (K := K) sl.p
      refine ⟨_, rfl, qa, _, _, _, rfl, rfl, sqa, ix2_0 a, _, rfl, _, rfl, qa, _, _, _, rfl, rfl, sqa, ix2_1 a, _, _, rfl, rfl, cmul bn en.b2, _, _, rfl, rfl, ?_⟩
      refine ⟨_, rfl, _, rfl, qa, _, _, _, rfl, rfl, sqa, ix2_1 a, _, _, rfl, rfl, cmul bn en.b2, _, rfl, qa, _, _, _, rfl, rfl, sqa, ix2_0 a, _, _, rfl, rfl, ?_⟩
      refine ⟨_, rfl, _, rfl, by show 2 ≤ sizeLine; decide, fun t ht => ⟨_, _, dp_pair (a := a) (sl.p.same (same_upd ht)), dp_pair (a := (n, 1)) upd_same, rfl, rfl, by show 6 ≤ sizeLine; decide, fun m hm => ?_⟩⟩
      rw [eqv_pair a (n, 1)]
      obtain ⟨bs, hbs⟩ : ∃ bs : List Bool, bs = [decide (a.1 < n * a.2), decide (n * a.2 < a.1), decide ((a.1, a.2) = (n, 1)), false, false, true] := ⟨_, rfl⟩
      have l6 : bs.length ≤ 50 := by rw [hbs]; show 6 ≤ 50; decide
      have sT := (same_upd (o := .tup [.int n, .int 1]) ht).trans (same_upd (o := .lst (bs.map V.bl)) hm)
      have S1 := shb (K := K) (a := l) (sT _ _ (show upd H9 l _ l = some (.lst (bs.map V.bl)) by rw [upd_same, hbs]; rfl)) l6
      rw [hbs] at sT
      refine ⟨_, rfl, l, bdt bs, rfl, by rw [hbs] at S1 ⊢; exact S1.dp, S1.sh, S1.di, S1.de, S1.le, ?_⟩
      have S2 := shb (K := K) (a := m) (H := upd (upd (upd H9 l (.lst [V.bl (decide (a.1 < n * a.2)), V.bl (decide (n * a.2 < a.1)), V.bl (decide ((a.1, a.2) = (n, 1))), V.bl false, V.bl false, V.bl (!false)])) t (.tup [.int n, .int 1])) m (.lst (bs.map V.bl))) upd_same l6
      refine ⟨_, rfl, m, bdt bs, rfl, by rw [hbs] at S2 ⊢; exact S2.dp, S2.sh, S2.di, S2.de, S2.le, rfl, _, rfl, ?_⟩
      rw [decide_eq_true rfl]
      refine iteF ?_
      have sF := (s69.trans (same_upd hl)).trans sT
      have hL9 := sF _ _ hL
      exact ⟨_, _, _, rfl, st.sm sF, hL9⟩
    · rintro σ H2 ⟨v4, v5, v6, rfl, st, hL⟩
      have en := he.st hp st
      have hO : StV (Ot K C D) := fun _ _ _ h s => h.same s
      have hI : StI (fun H' => En C H' o qa a) := fun _ _ h s => h.same s
      have no9 : ∀ {H' : Hp}, En C H' o qa a → ∃ dx, H' o = some (.ins C dx (rf a.1 a.2)) := fun e => e.r
      dsimp only
      refine od_seq (O := Ot K C D) (I := fun H' => En C H' o qa a) (n := 12) (by decide) en ?_ ?_
      · refine od_cons hO hI (od_c fun H _ => ot_non W) (od_cons hO hI (od_c fun H _ => ot_bl W true) (od_cons hO hI (od_c fun H _ => ot_bl W false) (od_cons hO hI (od_c fun H _ => ot_str W "") (od_cons hO hI ?_ (od_cons hO hI ?_
          (od_cons hO hI (od_var (v := .ref qa) rfl fun H h => ot_tup W H qa _ h.p) (od_cons hO hI ?_ (od_cons hO hI (od_lst (qu_v (v := .ref o) rfl) (ot_lst W)) (od_cons hO hI (od_tup (qu_v (v := .ref o) rfl) (ot_tup W)) (od_cons hO hI (od_dict (ot_dict W)) (od_cons hO hI ?_ od_nil)))))))))))
        · intro H Q h kk
          obtain ⟨dx, hx⟩ := no9 h
          exact ⟨_, rfl, o, dx, _, rfl, hx, o, a.1, a.2, rfl, ⟨dx, hx⟩, h.b1.mono (by decide), h.b2.mono (by decide), _, rfl, kk _ _ (ot_str W _) (Same.refl H)⟩
        · intro H Q h kk
          obtain ⟨dx, hx⟩ := no9 h
          exact ⟨_, rfl, o, dx, _, rfl, hx, o, a.1, a.2, rfl, ⟨dx, hx⟩, h.b1.mono (by decide), h.b2.mono (by decide), _, rfl, kk _ _ (ot_str W _) (Same.refl H)⟩
        · intro H Q h kk
          exact ⟨_, rfl, qa, _, rfl, .inr (SqT.of h.p), fun l hl => kk _ _ (ot_lst W _ l _ upd_same) (same_upd hl)⟩
        · intro H Q h kk
          exact table_new [1] desc1 fun x dx fs H' e s => kk _ _ (ot_ins W T U e) s
      intro vs H3 l hlen hodd s3 hl
      have sl := s3.trans (same_upd (o := .lst vs) hl)
      refine ⟨_, rfl, l, rfl, ⟨vs, SqL.of upd_same⟩, fun D0 hD => ?_⟩
      refine lc_it (walk_list (xs := vs)) (fun i H' => Same (upd H3 l (.lst vs)) H' ∧ H' D0 = some (.lst ((List.replicate i false).map V.bl)) ∧ i ≤ vs.length) ⟨same_upd hD, upd_same, Nat.zero_le _⟩ (fun i H' _ h => SqL.of (h.1 _ _ upd_same)) ?_ ?_
      · rintro i v H4 H5 hi ⟨s5, hD5, _⟩ ⟨rfl, hv⟩
        have ov : Ot K C D H5 v := (hodd v (List.mem_of_getElem? hv)).same ((same_upd hl).trans s5)
        have e5 := en.same (sl.trans s5)
        obtain ⟨dx, hx⟩ := id e5.r
        obtain ⟨t, ty, kt, nf⟩ := ov.1
        refine ⟨rfl, tYes_at ?_⟩
        refine ⟨_, rfl, _, rfl, o, dx, _, t, rfl, hx, ty, nf, o, v, a.1, a.2, rfl, ⟨dx, hx⟩, .inr ⟨t, ty, kt, false, rfl, ?_⟩⟩
        refine iteF ?_
        refine ⟨_, rfl, _, rfl, o, a.1, a.2, rfl, ⟨dx, hx⟩, ov, _, hD5, ?_, fun b u e => ?_, ?_, hi⟩
        · rw [List.length_map, List.length_replicate]
          exact Nat.lt_of_le_of_lt (show i ≤ 1000 by omega) (by decide)
        · rw [upd_ne (ne_of_none e hD)]
          exact s5 _ _ e
        · rw [upd_same, List.replicate_succ', List.map_append]
          rfl
      · rintro H4 ⟨s5, hD5, _⟩
        refine ⟨D0, List.replicate vs.length false, rfl, SqL.of hD5, _, rfl, ?_⟩
        rw [any_false]
        exact k _ (st.sm (sl.trans s5))
end
end La
namespace La
open PySem PySem.Spec PyProof.Rows L2 Ow Rm Ra
section
variable {K : PySem.W.Frag} {C p ps md : Addr} {H H' : Hp}
theorem stp_upd {p l : Addr} {H H' : Hp} {o : HO} (s : Stp p H H') (hl : H l = none) (n : l ≠ p) : Stp p H (upd H' l o) := by
  refine ⟨fun x u nx ex => by rw [upd_ne (ne_of_none ex hl)]; exact s.keep x u nx ex, ?_⟩
  obtain ⟨a, b, e, h0⟩ := s.pot
  exact ⟨a, b, by rw [upd_ne n.symm]; exact e, h0⟩
/-- a step that leaves the pot a pot -/
def SP (p : Addr) (a b : Hp) : Prop := Pot a p ∧ Stp p a b
theorem rel_sp {D : Addr} {H1 : Hp} (hp : Pot H1 p) (hD : H1 D = none) : RelD (SP p) H1 D :=
  have n := pot_ne hp hD
  ⟨fun a b => ⟨a.1, a.2.trans b.2⟩, fun s e => s.2.keep _ _ n e, fun s _ => ⟨s.1, stp_upd s.2 hD n⟩, hp, stp_upd (Stp.refl hp) hD n⟩
/-- pairs in a list -/
structure Prs (p : Addr) (H : Hp) (ps : Addr) (qs : List (Addr × (Int × Int))) : Prop where
  hp : H ps = some (.lst (qs.map fun e => V.ref e.1))
  ne : ps ≠ p
  en : ∀ e ∈ qs, PairAt H e.1 e.2 ∧ Lw e.2.1 e.2.2 ∧ Bd 200 e.2.1 ∧ Bd 200 e.2.2
theorem Prs.st {qs : List (Addr × (Int × Int))} (h : Prs p H ps qs) (hp : Pot H p) (s : Stp p H H') : Prs p H' ps qs :=
  ⟨s.keep _ _ h.ne h.hp, h.ne, fun e he => ⟨(h.en e he).1.st hp s, (h.en e he).2⟩⟩
theorem Prs.app {qs : List (Addr × (Int × Int))} {q : Addr} {c : Int × Int} (h : Prs p H ps qs) (hq : PairAt H q c) (lw : Lw c.1 c.2) (b1 : Bd 200 c.1) (b2 : Bd 200 c.2) :
    Prs p (upd H ps (.lst ((qs.map fun e => V.ref e.1) ++ [.ref q]))) ps (qs ++ [(q, c)]) := by
  have nq : ∀ {x : Addr} {a : Int × Int}, PairAt H x a → x ≠ ps := fun hx z => by
    have e := h.hp
    rw [← z, hx] at e
    exact nomatch e
  refine ⟨by rw [upd_same, List.map_append]; rfl, h.ne, fun e he => ?_⟩
  rcases List.mem_append.mp he with i | i
  · exact ⟨by unfold PairAt; rw [upd_ne (nq (h.en e i).1)]; exact (h.en e i).1, (h.en e i).2⟩
  · rw [List.mem_singleton] at i
    subst i
    exact ⟨by unfold PairAt; rw [upd_ne (nq hq)]; exact hq, lw, b1, b2⟩
theorem mk_es : ∀ (acc : List V) (qs : List (Addr × (Int × Int))), acc.length = qs.length → (∀ (j : Nat) v, acc[j]? = some v → ∃ o e, v = .ref o ∧ qs[j]? = some e ∧ RatAt C H o e.2.1 e.2.2) →
    ∃ es : List (Addr × Addr × (Int × Int)), acc = es.map (fun e => V.ref e.1) ∧ qs = es.map (fun e => e.2) ∧ ∀ e ∈ es, RatAt C H e.1 e.2.2.1 e.2.2.2
  | [], [], _, _ => ⟨[], rfl, rfl, fun e he => absurd he List.not_mem_nil⟩
  | v :: acc, q :: qs, hl, h => by
    obtain ⟨o, e, rfl, e1, r⟩ := h 0 v rfl
    cases e1
    obtain ⟨es, h1, h2, h3⟩ := mk_es acc qs (by simpa using hl) (fun j v hv => h (j + 1) v hv)
    refine ⟨(o, q) :: es, by rw [h1]; rfl, by rw [h2]; rfl, fun x hx => ?_⟩
    rcases List.mem_cons.mp hx with rfl | hx
    · exact r
    · exact h3 x hx
/-- the ratios and their pairs -/
structure Two (C p : Addr) (md ps : Addr) (H : Hp) (es : List (Addr × Addr × (Int × Int))) : Prop where
  pot : Pot H p
  hm : H md = some (.lst (es.map fun e => V.ref e.1))
  hp : H ps = some (.lst (es.map fun e => V.ref e.2.1))
  en : ∀ e ∈ es, En C H e.1 e.2.1 e.2.2
  n1 : md ≠ p
  n2 : ps ≠ p
theorem Two.go {es : List (Addr × Addr × (Int × Int))} (h : Two C p md ps H es) (s : Stp p H H') : Two C p md ps H' es :=
  ⟨s.pot, s.keep _ _ h.n1 h.hm, s.keep _ _ h.n2 h.hp, fun e he => (h.en e he).st h.pot s, h.n1, h.n2⟩
theorem Two.sm {es : List (Addr × Addr × (Int × Int))} (h : Two C p md ps H es) (s : Same H H') : Two C p md ps H' es := h.go (Stp.of s h.pot)
theorem Two.at1 {es : List (Addr × Addr × (Int × Int))} {i : Nat} (hi : i < es.length) : (es.map fun e => V.ref e.1)[i]? = some (V.ref es[i].1) := by rw [List.getElem?_map, List.getElem?_eq_getElem hi]; rfl
theorem Two.at2 {es : List (Addr × Addr × (Int × Int))} {i : Nat} (hi : i < es.length) : (es.map fun e => V.ref e.2.1)[i]? = some (V.ref es[i].2.1) := by rw [List.getElem?_map, List.getElem?_eq_getElem hi]; rfl
theorem Two.get {es : List (Addr × Addr × (Int × Int))} (h : Two C p md ps H es) {i : Nat} (hi : i < es.length) : En C H es[i].1 es[i].2.1 es[i].2.2 := h.en _ (List.getElem_mem hi)
theorem Two.prs {es : List (Addr × Addr × (Int × Int))} (h : Two C p md ps H es) : ∀ e ∈ es.map (fun e => e.2), PairAt H e.1 e.2 := fun e he => by
  obtain ⟨x, hx, rfl⟩ := List.mem_map.mp he
  exact (h.en x hx).p
theorem Two.prt {es : List (Addr × Addr × (Int × Int))} (h : Two C p md ps H es) (i : Nat) : ∀ e ∈ (es.take i).map (fun e => e.2), PairAt H e.1 e.2 := fun e he => by
  obtain ⟨x, hx, rfl⟩ := List.mem_map.mp he
  exact (h.en x (List.mem_of_mem_take hx)).p
/-! ### lists of pairs as data -/
def pd (a : Int × Int) : PyData := .tuple [.int a.1, .int a.2]
theorem dp_pairs : ∀ (xs : List (Addr × (Int × Int))), (∀ e ∈ xs, PairAt H e.1 e.2) → DpAll K H (xs.map fun e => V.ref e.1) ((xs.map fun e => e.2).map pd)
  | [], _ => .nil
  | x :: xs, h => .cons (dp_pair (h x List.mem_cons_self)) (dp_pairs xs fun e he => h e (List.mem_cons_of_mem _ he))
theorem lay_pairs : ∀ (xs : List (Int × Int)), PyData.canLayAll0 (xs.map pd) = true ∧ PyData.depthAll (xs.map pd) ≤ 2
  | [] => ⟨rfl, by simp [PyData.depthAll]⟩
  | x :: xs => by
    have h := lay_pairs xs
    rw [List.map_cons]
    simp only [PyData.canLayAll0, PyData.depthAll, h.1, Bool.and_true]
    have e1 : (pd x).canLay0 = true := rfl
    have e2 : (pd x).depth ≤ 2 := by simp [pd, PyData.depth, PyData.depthAll]
    exact ⟨e1, by omega⟩
theorem sh_pairs (xs : List (Int × Int)) : SeqAt.shaped (.list (xs.map pd)) = true := by
  have h := lay_pairs xs
  unfold SeqAt.shaped
  simp only [PyData.canLay0, PyData.depth, h.1, Bool.true_and]
  exact decide_eq_true (by omega)
theorem lay_ints : ∀ (xs : List Int), PyData.canLayAll0 (xs.map PyData.int) = true ∧ PyData.depthAll (xs.map PyData.int) ≤ 2
  | [] => ⟨rfl, by simp [PyData.depthAll]⟩
  | x :: xs => by
    have h := lay_ints xs
    rw [List.map_cons]
    simp only [PyData.canLayAll0, PyData.depthAll, h.1, Bool.and_true]
    have e1 : (PyData.int x).canLay0 = true := rfl
    have e2 : (PyData.int x).depth ≤ 2 := by simp [PyData.depth]
    exact ⟨e1, by omega⟩
theorem sh_ints (xs : List Int) : SeqAt.shaped (.list (xs.map PyData.int)) = true := by
  have h := lay_ints xs
  unfold SeqAt.shaped
  simp only [PyData.canLay0, PyData.depth, h.1, Bool.true_and]
  exact decide_eq_true (by omega)
theorem dp_ints : ∀ (xs : List Int), DpAll K H (xs.map V.int) (xs.map PyData.int)
  | [] => .nil
  | x :: xs => .cons (.int x) (dp_ints xs)
theorem cut_take (xs : List V) {k : Nat} (h : k ≤ xs.length) : cutV xs none (some (k : Int)) = xs.take k := by
  unfold cutV
  rw [HT.sIx_none, HT.sIx_nat, List.drop_zero, Nat.sub_zero, Nat.min_eq_left h]
theorem first_of {P : Nat → Prop} [DecidablePred P] (k : Nat) (h : P k) : ∃ j, j ≤ k ∧ P j ∧ ∀ m, m < j → ¬ P m := by
  induction k using Nat.strongRecOn with
  | ind k ih =>
    by_cases c : ∃ m, m < k ∧ P m
    · obtain ⟨m, hm, pm⟩ := c
      obtain ⟨j, h1, h2, h3⟩ := ih m hm pm
      exact ⟨j, by omega, h2, h3⟩
    · exact ⟨k, Nat.le_refl _, h, fun m hm pm => c ⟨m, hm, pm⟩⟩
/-- == of ratios, as lists ask it -/
def DR (C : Addr) : EqD := fun x y b H => ∃ (a c : Addr) (n d m e : Int), x = .ref a ∧ y = .ref c ∧ RatAt C H a n d ∧ RatAt C H c m e ∧ b = decide ((n, d) = (m, e))
theorem monR (C : Addr) : MonB (DR C) := fun x y b H H' e d => by
  obtain ⟨a, c, n, d, m, f, h1, h2, h3, h4, h5⟩ := d
  exact ⟨a, c, n, d, m, f, h1, h2, h3.same e, h4.same e, h5⟩
theorem ownR {mg : Str → Option Value} (T : RT K mg C) (nf : PySem.W.notFirst K C (.ref C) = true) : OwnB K C (spEqv K C) E0 (DR C) := ⟨fun x y b H d => by
  obtain ⟨a, c, n, d, m, e, rfl, rfl, ⟨dx, ha⟩, ⟨dy, hc⟩, rfl⟩ := d
  refine ⟨a, c, dx, _, .ref C, rfl, rfl, ha, .base (.ins hc T.cl T.ca T.cg T.ct T.cm), nf, fun z => ?_, fun Q q => ⟨a, .ref c, n, d, rfl, ⟨dx, ha⟩, .inl ⟨c, m, e, rfl, ⟨dy, hc⟩, q H Ext.rfl'⟩⟩⟩
  subst z
  rw [ha] at hc
  have h1 := rf_top n d
  have h2 := rf_bottom n d
  injection hc with hc
  injection hc with _ _ hc
  rw [hc, rf_top] at h1
  rw [hc, rf_bottom] at h2
  cases h1
  cases h2
  exact decide_eq_true rfl⟩
end
end La
namespace La
open PySem PySem.Spec PyProof.Rows L2 Ow Rm Ra
structure DfnG (P : Program) (w : World) (K : PySem.W.Frag) (mg : Str → Option Value) (base : Heap) (k : Nat) (x : Str) (ps : List Str) (sp : Sp) : Prop where
  ex : ∃ f fd, FnG P w K mg base CX0 k f fd ps sp ∧ mg x = some (.ref f) ∧ PySem.W.keepIn K (.ref f) = true ∧ Binds K fd ps []
theorem pe_useG {X : Cx} {k : Nat} {x : Str} {ps : List Str} {sp : Sp} {p pos : Pos} {e : Expr} {es : List Expr} {t : TA} (D : DfnG X.prog X.w X.K X.mg X.base k x ps sp) (hr : Room k X.A) (hgu : X.A.guards = some []) (hg : Gl X x) (ha : PA X (e :: es) t)
    (hdb : (x == ("__debug__" : Str)) = false := by decide) (he : starEach (e :: es) X.env = (false, eval e X.env) :: starEach es X.env := by rfl) (hpl : (backTo pos (starEach es X.env)).any (·.1) = false := by rfl) :
    PE X (.Call (.Name x p) (e :: es) [] pos) (tCall sp [] E0 t) := by
  obtain ⟨f, fd, F, hm, hk, hb⟩ := D.ex
  exact pe_callG F hr hgu hg hm hk hb pass0 ha hdb he hpl
theorem all_true (n : Nat) : (List.replicate n true).all id = true := by
  rw [List.all_replicate]
  split <;> rfl
theorem max_lt {a b : Int} {m : Int} (h : (if b > a then b else a) < m) : a < m ∧ b < m := by
  split at h <;> omega
theorem bd26 {x : Int} (h : (x.natAbs : Int) < 10 ^ (26 : Int).toNat) : Bd 200 x := by
  have e : (10 : Int) ^ (26 : Int).toNat = 100000000000000000000000000 := by decide
  rw [e] at h
  refine Bd.mono (j := 87) ?_ (by decide)
  unfold Bd
  have e2 : (2 : Nat) ^ 87 = 154742504910672534362390528 := by decide
  omega
section
variable {P : Program} {w : World} {K : PySem.W.Frag} {mg : Str → Option Value} {base : Heap}
def spRi : Sp := fun vs H Q _ => ∃ (p : Addr), vs = [.ref p] ∧ Pot H p ∧ ∀ H', Stp p H H' → Q (.bl true) H'
abbrev d__law_right : Stmt := sRight
abbrev n__law_right : List Str := ["_law_pot_here", "_law_pairs", "_law_turn", "_law_near", "_law_a", "_law_made_here", "_law_one", "_law_k", "_law_told", "_law_two", "_law_b"]
theorem sc__law_right : FnScope n__law_right ["_law_pot_here"] (defScope d__law_right) := ⟨rfl, rfl, rfl, by decide +kernel, rfl, by decide +kernel, by decide +kernel⟩
theorem low54 : low 5 4 = (5, 4) := low_id ⟨by decide, by decide⟩
theorem lw7 {i : Nat} (h : i < 6) : Lw (1 + (0 + (i : Int))) 7 ∧ Bd 200 (1 + (0 + (i : Int))) ∧ Bd 200 (7 : Int) := by
  refine ⟨⟨by decide, ?_⟩, bd_small (by omega) (by omega) (by decide), bd_small (by decide) (by decide) (by decide)⟩
  rcases i with _ | _ | _ | _ | _ | _ | i <;> first | decide | omega
/-- which pair stands at i -/
def af (es : List (Addr × Addr × (Int × Int))) (i : Nat) : Int × Int := (es.map fun e => e.2.2).getD i (0, 1)
theorem af_at {es : List (Addr × Addr × (Int × Int))} {i : Nat} (h : i < es.length) : af es i = es[i].2.2 := by
  unfold af
  rw [List.getD_eq_getElem?_getD, List.getElem?_map, List.getElem?_eq_getElem h]
  rfl
theorem any_at : ∀ (l : List (Int × Int)) (f : Int × Int → Bool), (List.range l.length).any (fun i => f (l.getD i (0, 1))) = l.any f
  | [], f => rfl
  | x :: l, f => by
    rw [List.length_cons, List.range_succ_eq_map, List.any_cons, List.any_map, List.any_cons, ← any_at l f]
    rfl
theorem any_eq (es : List (Addr × Addr × (Int × Int))) (a : Int × Int) {i : Nat} (h : i ≤ es.length) : (((es.take i).map fun e => e.2.2).map pd).any (fun z => PyData.eqv z (pd a)) = (List.range i).any fun j => decide (af es j = a) := by
  rw [Bool.eq_iff_iff, List.any_eq_true, List.any_eq_true]
  constructor
  · rintro ⟨z, hz, e⟩
    obtain ⟨b, hb, rfl⟩ := List.mem_map.mp hz
    obtain ⟨x, hx, rfl⟩ := List.mem_map.mp hb
    obtain ⟨j, hj, e1⟩ := List.mem_iff_getElem.mp hx
    rw [List.length_take] at hj
    rw [List.getElem_take] at e1
    refine ⟨j, List.mem_range.mpr (by omega), ?_⟩
    rw [af_at (by omega), e1]
    have := eqv_pair x.2.2 a
    rw [show PyData.eqv (pd x.2.2) (pd a) = decide ((x.2.2.1, x.2.2.2) = (a.1, a.2)) from this] at e
    exact e
  · rintro ⟨j, hj, e⟩
    have hj' := List.mem_range.mp hj
    rw [af_at (by omega)] at e
    refine ⟨pd es[j].2.2, List.mem_map_of_mem (List.mem_map_of_mem (List.mem_iff_getElem.mpr ⟨j, by rw [List.length_take]; omega, by rw [List.getElem_take]⟩)), ?_⟩
    have := eqv_pair es[j].2.2 a
    rw [show PyData.eqv (pd es[j].2.2) (pd a) = decide ((es[j].2.2.1, es[j].2.2.2) = (a.1, a.2)) from this]
    exact e
def lessB (es : List (Addr × Addr × (Int × Int))) (i j : Nat) : Bool := decide ((af es j).1 * (af es i).2 < (af es i).1 * (af es j).2)
def cnt (es : List (Addr × Addr × (Int × Int))) (i : Nat) : Int := (((List.range es.length).filter (lessB es i)).length : Nat)
theorem shown_two (b : Bool) (j : Nat) (h : j < 7) : (PyData.list [.bool b, .int (j : Int)]).shown.length ≤ sizeLine := by
  refine Nat.le_trans (m := 100) ?_ (by decide)
  rcases j with _ | _ | _ | _ | _ | _ | _ | j
  all_goals first | (cases b <;> decide +kernel) | omega
theorem two_ok (b : Bool) (j : Nat) (h : j < 7) : (PyData.list [.bool b, .int (j : Int)]).showable = true ∧ (PyData.list [.bool b, .int (j : Int)]).hasDict = false ∧ (PyData.list [.bool b, .int (j : Int)]).depth ≤ 20 := by
  refine ⟨?_, ?_, ?_⟩ <;> simp [PyData.showable, PyData.showableAll, PyData.hasDict, PyData.hasDictAll, PyData.depth, PyData.depthAll]
  rcases j with _ | _ | _ | _ | _ | _ | _ | j
  all_goals first | decide | omega
theorem ok_right {f C : Addr} {fd : FuncData} (F : FnP K "_law_right" "_law_right" sRight [] f fd) (T : RT K mg C) (L : LT mg) (henum : mg "enumerate" = none) (G : DLow P w K mg base)
    (Bs : Dfn P w K mg base 5 "_law_beside" ["_law_pot_here", "_law_a"] spBeside) (Md : Dfn P w K mg base 4 "_law_made" ["_law_pot_here", "_law_a"] (spMade C))
    (Tw : DfnG P w K mg base 9 "_law_two_right" ["_law_one", "_law_two", "_law_a", "_law_b"] (spTwoR C)) (Wh : DfnG P w K mg base 11 "_law_whole_right" ["_law_pot_here", "_law_one", "_law_a"] (spWhole C))
    (B : MtX P w K mg base C "is_below" 7 (spBelow C)) (Q_ : EqX P w K mg base C) : FnG P w K mg base CX0 12 f fd ["_law_pot_here"] spRi := by
  refine fnG_ok (k := 11) F sc__law_right (fun vs H Q E h => ?_) (fun cdv A outer s H vs Q E hr hg h => ?_)
  · obtain ⟨p, rfl, _⟩ := h
    rfl
  · obtain ⟨p, rfl, hp, k⟩ := h
    have hr0 := hr.mono (by decide : 0 ≤ 11)
    have hr2 := hr.mono (by decide : 2 ≤ 11)
    have hr4 := hr.mono (by decide : 4 ≤ 11)
    have hr5 := hr.mono (by decide : 5 ≤ 11)
    have hr7 := hr.mono (by decide : 7 ≤ 11)
    have hr9 := hr.mono (by decide : 9 ≤ 11)
    have hu : (A.deeper (envOfC "_law_right" (defScope sRight) s.heap.objs.size f cdv)).units + 64 < cLine := by have := hr0.units; omega
    have hu1 : (A.deeper (envOfC "_law_right" (defScope sRight) s.heap.objs.size f cdv)).units + 65 < cLine := by have := hr.un; omega
    obtain ⟨fb, fbd, mt, Fb, bb, _⟩ := B.ex
    obtain ⟨fq, fqd, oq, Fq, bq⟩ := id Q_.ex
    have eqR : EqB (cxOf CX0 P w K mg base n__law_right "_law_right" (defScope sRight) f cdv A outer s H E).nox 1 (DR C) := eqB_own (ownR T Q_.nf) oq Fq bq pass0
    refine ⟨_, PSs.nox (pss_cons (ps_set (i := 1) sc__law_right.nd rfl (Or.inr rfl) (pe_lst (pa_cons (pe_use G hr2 rfl (pa_cons pe_int (pa_cons pe_int pa_nil))) pa_nil)))
      (pss_cons (ps_for PassesOwn.never rfl (pi_range1 rfl L.range (pa_cons pe_int pa_nil)) (pg_name (i := 2) sc__law_right.nd rfl (.inl rfl))
      (pss_cons (ps_set (i := 3) sc__law_right.nd rfl (Or.inl rfl) (pe_use Bs hr5 rfl (pa_cons (pv 0) (pa_cons (pe_ix ix_list (pv 1) (pe_un un_neg pe_int) (fun _ _ => rfl)) pa_nil))))
      (pss_one (ps_expr (pe_bm PySem.F.plainAttrs_list PySem.F.slot_list_append PySem.F.type_list_append mt_append (pv 1) (pa_cons (pe_ifExp (pt_cmpR op_lt (pe_callB (call_max2 rfl) (by rfl) L.max PyProof.Rows.boot_max (pa_cons (pe_callB call_abs (by rfl) L.abs PyProof.Rows.boot_abs (pa_cons (pe_ix ix_tup (pv 3) pe_int (fun _ _ => rfl)) pa_nil)) (pa_cons (pe_ix ix_tup (pv 3) pe_int (fun _ _ => rfl)) pa_nil))) (pe_op op_pow pe_int pe_int) (nomark _)) (pv 3) (pe_tup (pa_cons (pe_op op_add pe_int (pv 2)) (pa_cons pe_int pa_nil)))) pa_nil))))))
      (pss_cons (ps_set (i := 5) sc__law_right.nd rfl (Or.inr rfl) (pe_lc rfl sc__law_right.nd (pi_list (pv 1)) (blkOk_by (own := [("_law_a", 4)]) (by show blkC n__law_right (defScope d__law_right) _ _ = true; decide +kernel)) (fun _ _ _ _ _ => pg_name (i := 4) sc__law_right.nd rfl (.inl rfl)) (fun _ _ _ _ _ => pts_nil) (fun _ _ _ _ _ => (pe_use Md hr4 rfl (pa_cons (pv 0) (pa_cons (pv 4) pa_nil))))))
      (pss_cons (ps_for PassesOwn.never rfl (pi_zip rfl L.zip (pa_cons (pv 5) (pa_cons (pv 1) pa_nil))) (pg_tup (by rfl) (pgs_cons (pg_name (i := 6) sc__law_right.nd rfl (.inr rfl)) (pgs_cons (pg_name (i := 4) sc__law_right.nd rfl (.inr rfl)) pgs_nil)))
      (pss_cons (ps_if (pt_not (pt_val (pe_useG Wh hr hg rfl (pa_cons (pv 0) (pa_cons (pv 6) (pa_cons (pv 4) pa_nil)))))) (pss_one (ps_ret pe_bl)) pss_nil)
      (pss_one (ps_if (pt_not (pt_val (pe_callB (cr_all rfl) (by rfl) L.all PyProof.Rows.boot_all (pa_cons (pe_lc (g := (gTup K 2 (gCons (gName 9) (gCons (gName 10) gNil)))) rfl sc__law_right.nd (pi_zip rfl L.zip (pa_cons (pv 5) (pa_cons (pv 1) pa_nil))) (blkOk_by (own := [("_law_two", 9), ("_law_b", 10)]) (by show blkC n__law_right (defScope d__law_right) _ _ = true; decide +kernel)) (fun _ _ _ _ _ => pg_tup (by rfl) (pgs_cons (pg_name (i := 9) sc__law_right.nd rfl (.inl rfl)) (pgs_cons (pg_name (i := 10) sc__law_right.nd rfl (.inl rfl)) pgs_nil))) (fun _ _ _ _ _ => pts_nil) (fun _ _ _ _ _ => (pe_useG Tw hr9 hg rfl (pa_cons (pv 6) (pa_cons (pv 9) (pa_cons (pv 4) (pa_cons (pv 10) pa_nil))))))) pa_nil)))) (pss_one (ps_ret pe_bl)) pss_nil))))
      (pss_cons (ps_for PassesOwn.never rfl (pi_enum rfl henum (pa_cons (pv 5) pa_nil)) (pg_tup (by rfl) (pgs_cons (pg_name (i := 7) sc__law_right.nd rfl (.inl rfl)) (pgs_cons (pg_name (i := 6) sc__law_right.nd rfl (.inr rfl)) pgs_nil)))
      (pss_one (ps_if (pt_cmpR op_ne (pe_callB (r := rData K) (call_repr_data hg hr0) (by rfl) L.repr PyProof.Rows.boot_repr (pa_cons (pe_lst (pa_cons (pe_cmpR (op_inB (monR C) eqR hr2) (pv 6) (pe_slice sl_list (pv 5) po_none (po_some (pv 7))) (by rfl)) (pa_cons (pe_bm PySem.F.plainAttrs_list PySem.F.slot_list_index PySem.F.type_list_index (mt_indexB (monR C) eqR hr2) (pv 5) (pa_cons (pv 6) pa_nil)) pa_nil))) pa_nil)) (pe_callB (r := rData K) (call_repr_data hg hr0) (by rfl) L.repr PyProof.Rows.boot_repr (pa_cons (pe_lst (pa_cons (pe_cmpR (op_inD hu1) (pe_ix ix_list (pv 1) (pv 7) (fun _ _ => rfl)) (pe_slice sl_list (pv 1) po_none (po_some (pv 7))) (by rfl)) (pa_cons (pe_bm PySem.F.plainAttrs_list PySem.F.slot_list_index PySem.F.type_list_index (mt_indexD hu1) (pv 1) (pa_cons (pe_ix ix_list (pv 1) (pv 7) (fun _ _ => rfl)) pa_nil)) pa_nil))) pa_nil)) (nomark _)) (pss_one (ps_ret pe_bl)) pss_nil)))
      (pss_cons (ps_setLc (i := 8) rfl sc__law_right.nd rfl rfl (by rfl) (pi_list (pv 5)) (blkOk_by (own := [("_law_one", 6)]) (by show blkC n__law_right (defScope d__law_right) _ _ = true; decide +kernel)) (fun _ _ _ _ _ => pg_name (i := 6) sc__law_right.nd rfl (.inr rfl)) (fun _ _ _ _ _ => pts_nil) (fun _ _ _ _ _ => (pe_callB (r := rLenS K) call_len_seq (by rfl) L.len PySem.boot_len (pa_cons (pe_lc (wi := iList K (tVar 5)) rfl sc__law_right.nd (pi_list (pv 5)) (blkOk_by (own := [("_law_two", 9)]) (by show blkC n__law_right { kind := ScopeKind.function, names := [(".0", NameKind.local), ("_law_one", NameKind.cell), ("len", NameKind.globalImplicit), ("_law_made_here", NameKind.cell)], isGenerator := false, isCoroutine := false } _ _ = true; decide +kernel)) (fun _ _ _ _ _ => pg_name (i := 9) sc__law_right.nd rfl (.inl rfl)) (fun _ _ _ _ _ => (pts_one (pt_val (pe_meth (pv 9) T.cl mt Fb hr7 bb .nil pass0 (pa_cons (pv 6) pa_nil))))) (fun _ _ _ _ _ => (pv 9))) pa_nil))))
      (pss_one (ps_ret (pe_cmpR (op_eqD hu) (pv 8) (pe_lc rfl sc__law_right.nd (pi_list (pv 1)) (blkOk_by (own := [("_law_a", 4)]) (by show blkC n__law_right (defScope d__law_right) _ _ = true; decide +kernel)) (fun _ _ _ _ _ => pg_name (i := 4) sc__law_right.nd rfl (.inr rfl)) (fun _ _ _ _ _ => pts_nil) (fun _ _ _ _ _ => (pe_callB (r := rLenS K) call_len_seq (by rfl) L.len PySem.boot_len (pa_cons (pe_lc (wi := iList K (tVar 1)) rfl sc__law_right.nd (pi_list (pv 1)) (blkOk_by (own := [("_law_b", 10)]) (by show blkC n__law_right { kind := ScopeKind.function, names := [(".0", NameKind.local), ("_law_a", NameKind.cell), ("len", NameKind.globalImplicit), ("_law_pairs", NameKind.cell)], isGenerator := false, isCoroutine := false } _ _ = true; decide +kernel)) (fun _ _ _ _ _ => pg_name (i := 10) sc__law_right.nd rfl (.inl rfl)) (fun _ _ _ _ _ => (pts_one (pt_cmpR op_lt (pe_op op_mulW (pe_ix (r := rIxT K) ix_tup (pv 10) pe_int (fun _ _ => rfl)) (pe_ix (r := rIxT K) ix_tup (pv 4) pe_int (fun _ _ => rfl))) (pe_op op_mulW (pe_ix (r := rIxT K) ix_tup (pv 4) pe_int (fun _ _ => rfl)) (pe_ix (r := rIxT K) ix_tup (pv 10) pe_int (fun _ _ => rfl))) (nomark _)))) (fun _ _ _ _ _ => (pv 10))) pa_nil)))) (nomark _)))))))))), ?_⟩
    refine ⟨5, 4, rfl, by decide, bd_small (by decide) (by decide) (by decide), fun q0 H1 hq0 s1 _ => ⟨by show 1 ≤ sizeLine; decide, fun ps hps => ?_⟩⟩
    rw [low54] at hq0
    have hp1 := hp.same s1
    have n2 : ps ≠ p := pot_ne hp1 hps
    have np : H ps = none := by
      cases e : H ps with
      | none => rfl
      | some o => rw [s1 _ _ e] at hps; exact nomatch hps
    have P0 : Prs p (upd H1 ps (.lst [.ref q0])) ps [(q0, (5, 4))] := ⟨upd_same, n2, fun e he => by
      rw [List.mem_singleton] at he
      subst he
      exact (show _ ∧ Lw 5 4 ∧ Bd 200 5 ∧ Bd 200 4 from ⟨PairAt.same hq0 (same_upd hps), ⟨by decide, by decide⟩, bd_small (by decide) (by decide) (by decide), bd_small (by decide) (by decide) (by decide)⟩)⟩
    refine ⟨6, rfl, by decide, by decide, ?_⟩
    refine for_range (lo := 0) (n := 6) (fun i σ H' => ∃ (qs : List (Addr × (Int × Int))) (v2 v3 : Option V), σ = [some (.ref p), some (.ref ps), v2, v3, none, none, none, none, none, none, none] ∧ Stp p H H' ∧ Prs p H' ps qs ∧ qs.length = i + 1)
      ⟨_, _, _, rfl, stp_upd (Stp.of s1 hp) np n2, P0, rfl⟩ ?_ ?_
    · rintro i σ H2 hi ⟨qs, v2, v3, rfl, st, hP, hl⟩
      have ne0 : qs ≠ [] := fun z => by rw [z] at hl; cases hl
      obtain ⟨qs0, e, rfl⟩ : ∃ qs0 e, qs = qs0 ++ [e] := ⟨qs.dropLast, qs.getLast ne0, (List.dropLast_concat_getLast ne0).symm⟩
      have hat : atI ((qs0 ++ [e]).map fun e => V.ref e.1) (-1) = some (V.ref e.1) := by
        rw [List.map_append]
        exact atI_last _ _
      obtain ⟨he, lw, b1, b2⟩ := hP.en e (List.mem_append_right _ List.mem_cons_self)
      refine ⟨_, rfl, _, rfl, _, rfl, ps, _, _, _, rfl, rfl, SqL.of hP.hp, hat, p, e.1, e.2, rfl, st.pot, he, lw, b1, b2, fun r c H3 hr' lw' b1' b2' s3 => ?_⟩
      have P3 := hP.st st.pot s3
      have st3 := st.trans s3
      have sr := SqT.of (K := K) hr'
      have len : ∀ n : Nat, n ≤ 1000 → n < sizeLine := fun n h => Nat.lt_of_le_of_lt h (by decide)
      have hll : ((qs0 ++ [e]).map fun e => V.ref e.1).length = i + 1 := by rw [List.length_map]; exact hl
      refine ⟨_, rfl, .inl ⟨rfl, _, SqL.of P3.hp⟩, _, rfl, r, _, _, _, rfl, rfl, sr, ix2_0 c, c.1, rfl, _, rfl, r, _, _, _, rfl, rfl, sr, ix2_1 c, _, _, rfl, _, _, rfl, rfl, ⟨by decide, by decide, by decide⟩, _, _, rfl, rfl, _, rfl, ?_⟩
      refine ite2 (fun cc => ?_) (fun cc => ?_)
      · have c' := max_lt (of_decide_eq_true cc)
        rw [abs_eq] at c'
        have hp2 := lw'.pos
        refine ⟨_, rfl, ps, _, _, rfl, rfl, P3.hp, len _ (by rw [hll]; omega), _, _, _, rfl, stp_upd st3 np n2, P3.app hr' lw' (bd26 c'.1) (bd26 ?_), by rw [List.length_append, hl]; rfl⟩
        have e : (c.2.natAbs : Int) = c.2 := by omega
        rw [e]
        exact c'.2
      · refine ⟨_, rfl, _, _, rfl, rfl, by show 2 ≤ sizeLine; decide, fun t ht => ?_⟩
        have P4 := P3.st st3.pot (stp_new (o := .tup [.int (1 + (0 + (i : Int))), .int 7]) st3.pot ht)
        obtain ⟨l7, c1, c2⟩ := lw7 hi
        exact ⟨ps, _, _, rfl, rfl, P4.hp, len _ (by rw [hll]; omega), _, _, _, rfl, stp_upd (st3.trans (stp_new st3.pot ht)) np n2, P4.app (c := (1 + (0 + (i : Int)), 7)) upd_same l7 c1 c2, by rw [List.length_append, hl]; rfl⟩
    rintro σ H2 ⟨qs, v2, v3, rfl, st, hP, hl⟩
    refine ⟨_, rfl, ps, rfl, ⟨_, SqL.of hP.hp⟩, fun md hmd => ?_⟩
    have n1 : md ≠ p := pot_ne st.pot hmd
    refine lc_el (walk_list (xs := qs.map fun e => V.ref e.1)) (rel_sp st.pot hmd) (by rw [List.length_map]; omega) (fun j v H' => ∃ o e, v = .ref o ∧ qs[j]? = some e ∧ RatAt C H' o e.2.1 e.2.2)
      (fun j v a b s h => by obtain ⟨o, e, h1, h2, h3⟩ := h; exact ⟨o, e, h1, h2, RatAt.st h3 s.1 s.2⟩) (fun j v a l l' hD h => by
        obtain ⟨o, e, h1, h2, dx, h3⟩ := h
        exact ⟨o, e, h1, h2, dx, by rw [upd_ne (fun z => by rw [z, hD] at h3; exact nomatch h3)]; exact h3⟩) (fun H' h => SqL.of (hP.st h.1 h.2).hp) ?_ ?_
    · rintro i x H3 H4 hi r3 _ ⟨rfl, hx⟩ R hR
      have hi' : i < qs.length := by rw [List.length_map] at hi; exact hi
      rw [List.getElem?_map, List.getElem?_eq_getElem hi'] at hx
      cases hx
      obtain ⟨he, lw, b1, b2⟩ := (hP.st r3.1 r3.2).en _ (List.getElem_mem hi')
      refine ⟨rfl, _, rfl, _, rfl, p, qs[i].1, qs[i].2, rfl, r3.2.pot, he, lw, b1, b2, fun m H5 hm s5 => hR _ H5 ⟨r3.2.pot, s5⟩ ⟨m, qs[i], rfl, List.getElem?_eq_getElem hi', hm⟩⟩
    rintro H3 acc r3 hacc hal hae
    rw [List.length_map] at hal
    obtain ⟨es, rfl, rfl, hes⟩ := mk_es acc qs hal hae
    rw [List.length_map] at hl
    have P3 := hP.st r3.1 r3.2
    have st3 := st.trans r3.2
    have TW : Two C p md ps H3 es := ⟨r3.2.pot, hacc, by have := P3.hp; rw [List.map_map] at this; exact this, fun e he => by
      obtain ⟨h1, h2, h3, h4⟩ := P3.en e.2 (List.mem_map_of_mem he)
      exact ⟨hes e he, h1, h2, h3, h4⟩, n1, n2⟩
    have l1 : (es.map fun e => V.ref e.1).length = es.length := List.length_map ..
    have l2 : (es.map fun e => V.ref e.2.1).length = es.length := List.length_map ..
    refine ⟨_, rfl, _, rfl, md, ps, _, _, rfl, SqL.of TW.hm, SqL.of TW.hp, ?_⟩
    have nil4 : ∀ n, n = min (es.map fun e => V.ref e.1).length (es.map fun e => V.ref e.2.1).length ↔ n = es.length := fun n => by rw [l1, l2, Nat.min_self]
    have no : ∀ n d : Int, (rf n d).lookup ("is_below" : Str) = none := fun n d => rf_no n d (by decide +kernel) (by decide +kernel)
    refine for_it (walk_zip (xs := es.map fun e => V.ref e.1) (ys := es.map fun e => V.ref e.2.1) ((nil4 es.length).mpr rfl)) (fun i σ H' => ∃ v4 v6 : Option V, σ = [some (.ref p), some (.ref ps), v2, v3, v4, some (.ref md), v6, none, none, none, none] ∧ Two C p md ps H' es ∧ Stp p H H')
      ⟨_, _, rfl, TW, st3⟩ (fun i σ H' _ h => by obtain ⟨_, _, _, h, _⟩ := h; exact ⟨SqL.of h.hm, SqL.of h.hp⟩) ?_ ?_
    · rintro i x σ H4 H5 hi ⟨v4, v6, rfl, T4, st4⟩ ⟨Tp, x, y, rfl, hTp, rfl, hx, hy⟩
      replace hx : (es.map fun e => V.ref e.1)[i]? = some x := hx
      replace hy : (es.map fun e => V.ref e.2.1)[i]? = some y := hy
      rw [Two.at1 hi] at hx
      rw [Two.at2 hi] at hy
      cases hx
      cases hy
      have s6 : Same H4 (upd H4 Tp (.tup [.ref es[i].1, .ref es[i].2.1])) := same_upd hTp
      have T5 := T4.sm s6
      refine ⟨Tp, _, rfl, SqT.of upd_same, rfl, _, _, rfl, _, _, rfl, rfl, ?_⟩
      refine ⟨_, rfl, _, rfl, _, rfl, p, es[i].1, es[i].2.1, es[i].2.2, rfl, T5.pot, T5.get hi, fun H7 s7 => ⟨true, rfl, ?_⟩⟩
      refine iteF ?_
      have T7 := T5.go s7
      refine ⟨_, rfl, _, rfl, md, ps, _, _, rfl, SqL.of T7.hm, SqL.of T7.hp, fun D0 hD => ?_⟩
      refine lc_vals (walk_zip (xs := es.map fun e => V.ref e.1) (ys := es.map fun e => V.ref e.2.1) ((nil4 es.length).mpr rfl)) (rel_same hD) ((List.replicate es.length true).map V.bl) (by simp) (by omega) (fun H' h => ⟨SqL.of (T7.sm h).hm, SqL.of (T7.sm h).hp⟩) ?_ ?_
      · rintro j v' H8 H9 v hj hv s8 _ ⟨Tq, x, y, rfl, hTq, rfl, hx, hy⟩ R hR
        replace hx : (es.map fun e => V.ref e.1)[j]? = some x := hx
        replace hy : (es.map fun e => V.ref e.2.1)[j]? = some y := hy
        rw [Two.at1 hj] at hx
        rw [Two.at2 hj] at hy
        cases hx
        cases hy
        rw [List.getElem?_map, List.getElem?_replicate, if_pos hj] at hv
        cases hv
        have s9 : Same H8 (upd H8 Tq (.tup [.ref es[j].1, .ref es[j].2.1])) := same_upd hTq
        have T9 := (T7.sm s8).sm s9
        refine ⟨Tq, _, rfl, SqT.of upd_same, rfl, _, _, rfl, _, _, rfl, rfl, rfl, ?_⟩
        exact ⟨_, rfl, _, rfl, _, rfl, _, rfl, es[i].1, es[j].1, es[i].2.1, es[j].2.1, es[i].2.2, es[j].2.2, rfl, T9.get hi, T9.get hj, fun H10 s10 => hR H10 (s9.trans s10)⟩
      · rintro H8 s8 hD8
        refine ⟨D0, List.replicate es.length true, rfl, SqL.of hD8, ?_⟩
        rw [all_true]
        refine ⟨true, rfl, ?_⟩
        refine iteF ?_
        exact ⟨_, _, rfl, T7.sm s8, ((st4.sm s6).trans s7).sm s8⟩
    rintro σ H4 ⟨v4, v6, rfl, T4, st4⟩
    refine ⟨_, rfl, md, _, rfl, SqL.of T4.hm, ?_⟩
    refine for_it (walk_enum (xs := es.map fun e => V.ref e.1)) (fun i σ H' => ∃ v6 v7 : Option V, σ = [some (.ref p), some (.ref ps), v2, v3, v4, some (.ref md), v6, v7, none, none, none] ∧ Two C p md ps H' es ∧ Stp p H H')
      ⟨_, _, rfl, T4, st4⟩ (fun i σ H' _ h => by obtain ⟨_, _, _, h, _⟩ := h; exact SqL.of h.hm) ?_ ?_
    · rintro i x σ H5 H6 hi0 ⟨v6, v7, rfl, T5, st5⟩ ⟨Tp, x, y, rfl, hTp, rfl, hx, hy⟩
      have hi : i < es.length := by rw [l1] at hi0; exact hi0
      cases hx
      replace hy : (es.map fun e => V.ref e.1)[i]? = some y := hy
      rw [Two.at1 hi] at hy
      cases hy
      have s6 : Same H5 (upd H5 Tp (.tup [.int (i : Nat), .ref es[i].1])) := same_upd hTp
      have T6 := T5.sm s6
      refine ⟨Tp, _, rfl, SqT.of upd_same, rfl, _, _, rfl, _, _, rfl, rfl, ?_⟩
      refine ⟨_, rfl, _, rfl, _, rfl, _, rfl, md, _, rfl, SqL.of T6.hm, fun L1 hL1 => ?_⟩
      rw [cut_take _ (by rw [l1]; omega)]
      have T7 := T6.sm (same_upd (o := .lst ((es.map fun e => V.ref e.1).take i)) hL1)
      have lt : ((es.map fun e => V.ref e.1).take i).length = i := by rw [List.length_take, l1]; omega
      refine ⟨L1, _, fun j => decide (af es j = af es i), rfl, upd_same, fun j z hz => ?_, fun H8 e8 => ?_⟩
      · have hj : j < i := by
          have := (List.getElem?_eq_some_iff.mp hz).1
          omega
        rw [List.getElem?_take_of_lt hj, Two.at1 (by omega)] at hz
        cases hz
        exact ⟨_, _, _, _, _, _, rfl, rfl, (T7.get (show j < es.length by omega)).r, (T7.get hi).r, by show decide (af es j = af es i) = _; rw [af_at hi, af_at (show j < es.length by omega)]⟩
      rw [lt]
      have T8 := T7.sm (show Same _ H8 from fun b u e => e8 b u e)
      obtain ⟨j0, hj0, hit, hno⟩ := first_of (P := fun j => af es j = af es i) i rfl
      have hj7 : j0 < es.length := by omega
      refine ⟨_, rfl, .inl ⟨rfl, _, SqL.of T8.hm⟩, _, rfl, md, _, _, fun j => decide (af es j = af es i), j0, rfl, rfl, T8.hm, fun j z hz => ?_, by rw [l1]; omega, decide_eq_true hit, fun m hm => decide_eq_false (hno m hm), fun H9 e9 => ?_⟩
      · have hj : j < es.length := by
          have := (List.getElem?_eq_some_iff.mp hz).1
          rw [l1] at this
          exact this
        rw [Two.at1 hj] at hz
        cases hz
        exact ⟨_, _, _, _, _, _, rfl, rfl, (T8.get hj).r, (T8.get hi).r, by show decide (af es j = af es i) = _; rw [af_at hi, af_at hj]⟩
      have T9 := T8.sm (show Same _ H9 from fun b u e => e9 b u e)
      obtain ⟨b1, hb1⟩ : ∃ b1, b1 = (List.range i).any fun j => decide (af es j = af es i) := ⟨_, rfl⟩
      rw [← hb1]
      have j7 : j0 < 7 := by omega
      have sh2 := shown_two b1 j0 j7
      have tk := two_ok b1 j0 j7
      refine ⟨by show 2 ≤ sizeLine; decide, fun l hl => ⟨l, .list [.bool b1, .int (j0 : Nat)], rfl, .lst (SqL.of upd_same) (.cons (.bl _) (.cons (.int _) .nil)), tk.1, tk.2.1, tk.2.2, sh2, ?_⟩⟩
      have T10 := T9.sm (same_upd (o := .lst [.bl b1, .int (j0 : Nat)]) hl)
      refine ⟨_, rfl, _, rfl, ps, _, _, _, rfl, rfl, SqL.of T10.hp, atI_nat (Two.at2 hi), _, rfl, _, rfl, _, rfl, ps, _, rfl, SqL.of T10.hp, fun L2 hL2 => ?_⟩
      rw [cut_take _ (by rw [l2]; omega)]
      have T11 := T10.sm (same_upd (o := .lst ((es.map fun e => V.ref e.2.1).take i)) hL2)
      have eT : (es.map fun e => V.ref e.2.1).take i = (((es.take i).map fun e => e.2).map fun e => V.ref e.1) := by rw [List.map_map, ← List.map_take]; rfl
      have eA : (es.map fun e => V.ref e.2.1) = ((es.map fun e => e.2).map fun e => V.ref e.1) := by rw [List.map_map]; rfl
      have dpt : ∀ {H'}, Two C p md ps H' es → DpAll K H' ((es.map fun e => V.ref e.2.1).take i) ((((es.take i).map fun e => e.2).map fun e => e.2).map pd) := fun T => by rw [eT]; exact dp_pairs _ (T.prt i)
      have dpa : ∀ {H'}, Two C p md ps H' es → DpAll K H' (es.map fun e => V.ref e.2.1) (((es.map fun e => e.2).map fun e => e.2).map pd) := fun T => by rw [eA]; exact dp_pairs _ T.prs
      have dpi : ∀ {H'}, Two C p md ps H' es → Dp K H' (.ref es[i].2.1) (pd (af es i)) := fun T => by rw [af_at hi]; exact dp_pair (T.get hi).p
      refine ⟨pd (af es i), _, dpi T11, .lst (SqL.of upd_same) (dpt T11), rfl, sh_pairs _, ?_⟩
      rw [show ((es.take i).map fun e => e.2).map (fun e => e.2) = (es.take i).map fun e => e.2.2 by rw [List.map_map]; rfl, any_eq es (af es i) (by omega), ← hb1]
      have T12 := T11
      have hz : (((es.map fun e => e.2).map fun e => e.2).map pd)[j0]? = some (pd (af es j0)) := by
        rw [List.getElem?_map, List.getElem?_map, List.getElem?_map, List.getElem?_eq_getElem hj7, af_at hj7]
        rfl
      refine ⟨_, rfl, .inl ⟨rfl, _, SqL.of T12.hp⟩, _, rfl, _, rfl, ps, _, _, _, rfl, rfl, SqL.of T12.hp, atI_nat (Two.at2 hi), ps, _, pd (af es i), _, j0, _, rfl, rfl, .lst (SqL.of T12.hp) (dpa T12), dpi T12, sh_pairs _, rfl, hz, ?_, fun m z' hm hz' => ?_, by show 2 ≤ sizeLine; decide, fun l2 hl2 => ?_⟩
      · rw [show PyData.eqv (pd (af es j0)) (pd (af es i)) = decide (((af es j0).1, (af es j0).2) = ((af es i).1, (af es i).2)) from eqv_pair _ _]
        exact decide_eq_true hit
      · have hm7 : m < es.length := by omega
        rw [List.getElem?_map, List.getElem?_map, List.getElem?_map, List.getElem?_eq_getElem hm7] at hz'
        cases hz'
        rw [show PyData.eqv (pd es[m].2.2) (pd (af es i)) = decide ((es[m].2.2.1, es[m].2.2.2) = ((af es i).1, (af es i).2)) from eqv_pair _ _]
        refine decide_eq_false fun z => hno m hm ?_
        rw [af_at hm7]
        exact z
      refine ⟨l2, .list [.bool b1, .int (j0 : Nat)], rfl, .lst (SqL.of upd_same) (.cons (.bl _) (.cons (.int _) .nil)), tk.1, tk.2.1, tk.2.2, sh2, rfl, _, rfl, ?_⟩
      rw [decide_eq_true rfl]
      refine iteF ?_
      have e1 := same_upd (o := .lst ((es.map fun e => V.ref e.1).take i)) hL1
      exact ⟨_, _, rfl, T12.sm (same_upd hl2), (((((((st5.sm s6).sm e1).sm (fun b u e => e8 b u e)).sm (fun b u e => e9 b u e)).sm (same_upd hl)).sm (same_upd hL2)).sm (same_upd hl2))⟩
    rintro σ H5 ⟨v6, v7, rfl, T5, st5⟩
    have vlen : ((List.range es.length).map fun i => V.int (cnt es i)).length = es.length := by rw [List.length_map, List.length_range]
    have vat : ∀ {i : Nat} {v : V}, i < es.length → ((List.range es.length).map fun i => V.int (cnt es i))[i]? = some v → v = .int (cnt es i) := fun hi h => by
      rw [List.getElem?_map, List.getElem?_range hi] at h
      exact (Option.some.inj h).symm
    have kl : ∀ (vals : List V) (i : Nat), vals.length = es.length → ((kept (lessB es i) vals es.length).length : Int) = cnt es i := fun vals i h => by rw [kept_len _ _ _ (by omega)]; rfl
    have vi : ((List.range es.length).map fun i => V.int (cnt es i)) = ((List.range es.length).map (cnt es)).map V.int := by rw [List.map_map]; rfl
    refine ⟨_, rfl, md, rfl, ⟨_, SqL.of T5.hm⟩, fun D0 hD0 => ?_⟩
    refine lc_vals (walk_list (xs := es.map fun e => V.ref e.1)) (rel_same hD0) ((List.range es.length).map fun i => V.int (cnt es i)) (by rw [l1]; exact vlen) (by omega) (fun H' h => SqL.of (T5.sm h).hm) ?_ ?_
    · rintro i x H6 H7 v hi0 hv s6 _ ⟨rfl, hx⟩ R hR
      have hi : i < es.length := by rw [l1] at hi0; exact hi0
      rw [Two.at1 hi] at hx
      cases hx
      rw [vat hi hv] at hR
      have T7 := T5.sm s6
      refine ⟨rfl, ?_⟩
      refine ⟨_, rfl, md, rfl, ⟨_, SqL.of T7.hm⟩, fun D1 hD1 => ?_⟩
      refine lc_filter (walk_list (xs := es.map fun e => V.ref e.1)) (rel_same hD1) (es.map fun e => V.ref e.1) (lessB es i) rfl (by rw [l1]; omega) (fun H' h => SqL.of (T7.sm h).hm) ?_ ?_
      · rintro j x H8 H9 w hj0 hw s8 _ ⟨rfl, hx⟩ RR SS hRR hSS
        have hj : j < es.length := by rw [l1] at hj0; exact hj0
        rw [Two.at1 hj] at hx hw
        cases hx
        cases hw
        have T9 := T7.sm s8
        have ei := T9.get hi
        have ej := T9.get hj
        obtain ⟨dx, hdx⟩ := id ej.r
        refine ⟨rfl, ?_⟩
        refine ⟨_, rfl, es[j].1, dx, _, rfl, hdx, no _ _, _, rfl, es[j].1, _, es[j].2.2.1, es[j].2.2.2, es[i].2.2.1, es[i].2.2.2, rfl, ej.nm, ei.nm, fun H10 s10 => ⟨_, rfl, ?_⟩⟩
        rw [minus_sign ej.lw ei.lw]
        have e1 : decide (es[j].2.2.1 * es[i].2.2.2 < es[i].2.2.1 * es[j].2.2.2) = lessB es i j := by unfold lessB; rw [af_at hi, af_at hj]
        rw [e1]
        cases c : lessB es i j with
        | true => exact iteT ⟨_, rfl, hRR c H10 s10⟩
        | false => exact iteF (hSS c H10 s10)
      · rintro H8 s8 hD8
        rw [l1] at hD8
        refine ⟨D1, _, rfl, .inl (SqL.of hD8), ?_⟩
        rw [kl _ i l1]
        exact hR H8 s8
    rintro H6 s6 hD6
    have T6 := T5.sm s6
    refine ⟨_, rfl, _, rfl, ps, rfl, ⟨_, SqL.of T6.hp⟩, fun D2 hD2 => ?_⟩
    refine lc_vals (walk_list (xs := es.map fun e => V.ref e.2.1)) (rel_same hD2) ((List.range es.length).map fun i => V.int (cnt es i)) (by rw [l2]; exact vlen) (by omega) (fun H' h => SqL.of (T6.sm h).hp) ?_ ?_
    · rintro i x H7 H8 v hi0 hv s7 _ ⟨rfl, hx⟩ R hR
      have hi : i < es.length := by rw [l2] at hi0; exact hi0
      rw [Two.at2 hi] at hx
      cases hx
      rw [vat hi hv] at hR
      have T7 := T6.sm s7
      refine ⟨rfl, ?_⟩
      refine ⟨_, rfl, ps, rfl, ⟨_, SqL.of T7.hp⟩, fun D1 hD1 => ?_⟩
      refine lc_filter (walk_list (xs := es.map fun e => V.ref e.2.1)) (rel_same hD1) (es.map fun e => V.ref e.2.1) (lessB es i) rfl (by rw [l2]; omega) (fun H' h => SqL.of (T7.sm h).hp) ?_ ?_
      · rintro j x H8 H9 w hj0 hw s8 _ ⟨rfl, hx⟩ RR SS hRR hSS
        have hj : j < es.length := by rw [l2] at hj0; exact hj0
        rw [Two.at2 hj] at hx hw
        cases hx
        cases hw
        have T9 := T7.sm s8
        have ei := T9.get hi
        have ej := T9.get hj
        have sj : SqT K _ es[j].2.1 [.int es[j].2.2.1, .int es[j].2.2.2] := SqT.of ej.p
        have si : SqT K _ es[i].2.1 [.int es[i].2.2.1, .int es[i].2.2.2] := SqT.of ei.p
        refine ⟨rfl, ?_⟩
        refine ⟨_, rfl, es[j].2.1, _, _, _, rfl, rfl, sj, ix2_0 _, _, rfl, es[i].2.1, _, _, _, rfl, rfl, si, ix2_1 _, _, _, rfl, rfl, cmul ej.b1 ei.b2, _, rfl, es[i].2.1, _, _, _, rfl, rfl, si, ix2_0 _, _, rfl, es[j].2.1, _, _, _, rfl, rfl, sj, ix2_1 _, _, _, rfl, rfl, cmul ei.b1 ej.b2, _, _, rfl, rfl, _, rfl, ?_⟩
        have e1 : decide (es[j].2.2.1 * es[i].2.2.2 < es[i].2.2.1 * es[j].2.2.2) = lessB es i j := by unfold lessB; rw [af_at hi, af_at hj]
        rw [e1]
        cases c : lessB es i j with
        | true => exact iteT ⟨_, rfl, hRR c _ (Same.refl _)⟩
        | false => exact iteF (hSS c _ (Same.refl _))
      · rintro H8 s8 hD8
        rw [l2] at hD8
        refine ⟨D1, _, rfl, .inl (SqL.of hD8), ?_⟩
        rw [kl _ i l2]
        exact hR H8 s8
    rintro H7 s7 hD7
    have hD6' := s7 _ _ hD6
    rw [vi] at hD7 hD6'
    refine ⟨_, _, .lst (SqL.of hD6') (dp_ints _), .lst (SqL.of hD7) (dp_ints _), sh_ints _, sh_ints _, ?_⟩
    rw [SeqAt.eqv_refl _ (SeqAt.canLay_of_shaped (sh_ints _))]
    exact k H7 ((st5.sm s6).sm s7)
end
end La
namespace La
open PySem PySem.Spec PyProof.Rows L2 Ow Rm Ra
section
variable {P : Program} {w : World} {K : PySem.W.Frag} {mg : Str → Option Value} {base : Heap}
abbrev nLaw : List Str := ["_law_script", "_law_k"]
theorem scLaw : FnScope nLaw ["_law_script"] (defScope sLaw) := ⟨rfl, rfl, rfl, by decide +kernel, rfl, by decide +kernel, by decide +kernel⟩
def spLaw (K : PySem.W.Frag) : Sp := fun vs H Q _ => ∃ (a : Addr) (ns : List Int), vs = [.ref a] ∧ ns.length ≤ 63 ∧ SqL K H a (ns.map V.int) ∧ ∀ H', Q (.bl true) H'
theorem ok_law {f : Addr} {fd : FuncData} (F : FnP K "law" "law" sLaw [] f fd) (L : LT mg)
    (D : Dfn P w K mg base 1 "_law_pot" ["_law_script", "_law_k"] (spPot K)) (R : DfnG P w K mg base 12 "_law_right" ["_law_pot_here"] spRi) :
    FnG P w K mg base CX0 13 f fd ["_law_script"] (spLaw K) := by
  refine fnG_ok (k := 12) F scLaw (fun vs H Q E h => ?_) (fun cdv A outer s H vs Q E hr hg h => ?_)
  · obtain ⟨a, ns, rfl, _⟩ := h
    rfl
  · obtain ⟨a, ns, rfl, hn, hs, q⟩ := h
    have hr1 := hr.mono (by decide : 1 ≤ 12)
    refine ⟨_, PSs.nox (pss_one (ps_ret (pe_callB (cr_all rfl) (by rfl) L.all PyProof.Rows.boot_all (pa_cons (pe_lc rfl scLaw.nd
        (pi_range1 rfl L.range (pa_cons (pe_callB (call_max2 rfl) (by rfl) L.max PyProof.Rows.boot_max (pa_cons pe_int (pa_cons (pe_callB (call_min2 rfl) (by rfl) L.min PyProof.Rows.boot_min (pa_cons (pe_callB call_len_seq (by rfl) L.len PySem.boot_len (pa_cons (pv 0) pa_nil)) (pa_cons pe_int pa_nil))) pa_nil))) pa_nil))
          (blkOk_by (own := [("_law_k", 1)]) (by show blkC nLaw (defScope sLaw) _ _ = true; decide +kernel))
          (fun _ _ _ _ _ => pg_name (i := 1) scLaw.nd rfl (.inl rfl))
          (fun _ _ _ _ _ => pts_nil)
          (fun _ _ _ _ _ => pe_useG R hr hg rfl (pa_cons (pe_use D hr1 rfl (pa_cons (pv 0) (pa_cons (pv 1) pa_nil))) pa_nil))) pa_nil)))), ?_⟩
    refine ⟨_, rfl, a, _, rfl, .inl hs, _, _, rfl, _, _, rfl, ?_⟩
    generalize hN : (ns.map V.int).length = n
    have hb : ∀ r : Int, r = (if (if (4 : Int) < (n : Int) then (4 : Int) else (n : Int)) > 1 then (if (4 : Int) < (n : Int) then (4 : Int) else (n : Int)) else 1) → 0 ≤ r ∧ r ≤ 4 := by
      intro r e
      subst e
      split <;> split <;> omega
    obtain ⟨r0, r3⟩ := hb _ rfl
    generalize (if (if (4 : Int) < (n : Int) then (4 : Int) else (n : Int)) > 1 then (if (4 : Int) < (n : Int) then (4 : Int) else (n : Int)) else 1) = r at r0 r3 ⊢
    refine ⟨r, rfl, Int.le_trans (by decide) r0, Int.lt_of_le_of_lt r3 (by decide), fun D0 hD => ?_⟩
    refine lc_range (lo := 0) (n := r.toNat) (fun i H' => Same H H' ∧ H' D0 = some (.lst ((List.replicate i true).map V.bl))) ⟨same_upd hD, upd_same⟩ ?_ ?_
    · rintro i H5 hi ⟨s5, hD5⟩
      refine ⟨rfl, tYes_at ?_⟩
      refine ⟨_, rfl, _, rfl, a, ns, _, rfl, SqL.ext hs s5, by omega, fun p x y hx hp => ?_⟩
      refine ⟨p, rfl, ⟨x, y, upd_same, hx⟩, fun H7 s7 => ?_⟩
      have nDp : D0 ≠ p := ne_of_none hD5 hp
      have hD7 := s7.keep D0 _ nDp (by rw [upd_ne nDp]; exact hD5)
      refine ⟨_, hD7, ?_, fun b o e => ?_, ?_⟩
      · rw [List.length_map, List.length_replicate]
        exact Nat.lt_of_le_of_lt (show i ≤ 1000 by omega) (by decide)
      · have e5 := s5 _ _ e
        have n1 : b ≠ p := ne_of_none e5 hp
        have n2 : b ≠ D0 := ne_of_none e hD
        rw [upd_ne n2]
        exact s7.keep b o n1 (by rw [upd_ne n1]; exact e5)
      · rw [upd_same, List.replicate_succ', List.map_append]
        rfl
    · rintro H' ⟨s5, hD5⟩
      refine ⟨D0, List.replicate r.toNat true, rfl, SqL.of hD5, ?_⟩
      rw [all_true]
      exact q _
end
end La
namespace Hd
open PySem PySem.Spec PyProof.Rows L2 Ow Rm Ra La
def ds : List He5.DefA := ([
  ⟨fun K => He.ga K "is_integer", "is_integer", "is_integer", defArgs sIsInt, defBody sIsInt, defScope sIsInt, [], []⟩,
  ⟨fun K => He.ga K "is_number", "is_number", "is_number", defArgs sNumber, defBody sNumber, defScope sNumber, [], []⟩,
  ⟨fun K => He.ga K "as_ratio", "as_ratio", "as_ratio", defArgs sAsRatio, defBody sAsRatio, defScope sAsRatio, [], []⟩,
  ⟨pac "Ratio" "__init__", "__init__", "Ratio.__init__", defArgs sInit, defBody sInit, defScope sInit, [.int 1], []⟩,
  ⟨getac "Ratio" "top", "top", "Ratio.top", defArgs sTop, defBody sTop, defScope sTop, [], []⟩,
  ⟨getac "Ratio" "bottom", "bottom", "Ratio.bottom", defArgs sBottom, defBody sBottom, defScope sBottom, [], []⟩,
  ⟨getac "Ratio" "sign", "sign", "Ratio.sign", defArgs sSign, defBody sSign, defScope sSign, [], []⟩,
  ⟨pac "Ratio" "__add__", "__add__", "Ratio.__add__", defArgs sAdd, defBody sAdd, defScope sAdd, [], []⟩,
  ⟨pac "Ratio" "__sub__", "__sub__", "Ratio.__sub__", defArgs sSub, defBody sSub, defScope sSub, [], []⟩,
  ⟨pac "Ratio" "__neg__", "__neg__", "Ratio.__neg__", defArgs sNeg, defBody sNeg, defScope sNeg, [], []⟩,
  ⟨pac "Ratio" "is_below", "is_below", "Ratio.is_below", defArgs sBelow, defBody sBelow, defScope sBelow, [], []⟩,
  ⟨pac "Ratio" "__eq__", "__eq__", "Ratio.__eq__", defArgs sEq, defBody sEq, defScope sEq, [], []⟩,
  ⟨pac "Ratio" "__str__", "__str__", "Ratio.__str__", defArgs sStr, defBody sStr, defScope sStr, [], []⟩,
  ⟨pac "Ratio" "__repr__", "__repr__", "Ratio.__repr__", defArgs sRepr, defBody sRepr, defScope sRepr, [], []⟩,
  ⟨fun K => He.ga K "check_many", "check_many", "check_many", defArgs sMany, defBody sMany, defScope sMany, [], []⟩,
  ⟨fun K => He.ga K "check_points", "check_points", "check_points", defArgs sCheck, defBody sCheck, defScope sCheck, [], []⟩,
  ⟨pac "Table" "__init__", "__init__", "Table.__init__", defArgs sTInit, defBody sTInit, defScope sTInit, [], []⟩,
  ⟨pac "Table" "__eq__", "__eq__", "Table.__eq__", defArgs sTEq, defBody sTEq, defScope sTEq, [], []⟩,
  ⟨fun K => He.ga K "_law_pot", "_law_pot", "_law_pot", defArgs sPot, defBody sPot, defScope sPot, [], []⟩,
  ⟨fun K => He.ga K "_law_draw", "_law_draw", "_law_draw", defArgs sDraw, defBody sDraw, defScope sDraw, [], []⟩,
  ⟨fun K => He.ga K "_law_pick", "_law_pick", "_law_pick", defArgs sPick, defBody sPick, defScope sPick, [], []⟩,
  ⟨fun K => He.ga K "_law_common", "_law_common", "_law_common", defArgs sCommon, defBody sCommon, defScope sCommon, [], []⟩,
  ⟨fun K => He.ga K "_law_low", "_law_low", "_law_low", defArgs sLow, defBody sLow, defScope sLow, [], []⟩,
  ⟨fun K => He.ga K "_law_plus", "_law_plus", "_law_plus", defArgs sPlus, defBody sPlus, defScope sPlus, [], []⟩] : List He5.DefA) ++ ([
  ⟨fun K => He.ga K "_law_minus", "_law_minus", "_law_minus", defArgs sMinus, defBody sMinus, defScope sMinus, [], []⟩,
  ⟨fun K => He.ga K "_law_integer", "_law_integer", "_law_integer", defArgs sInteger, defBody sInteger, defScope sInteger, [], []⟩,
  ⟨fun K => He.ga K "_law_parts", "_law_parts", "_law_parts", defArgs sParts, defBody sParts, defScope sParts, [], []⟩,
  ⟨fun K => He.ga K "_law_beside", "_law_beside", "_law_beside", defArgs sBeside, defBody sBeside, defScope sBeside, [], []⟩,
  ⟨fun K => He.ga K "_law_made", "_law_made", "_law_made", defArgs sMade, defBody sMade, defScope sMade, [], []⟩,
  ⟨fun K => He.ga K "_law_two_right", "_law_two_right", "_law_two_right", defArgs sTwoR, defBody sTwoR, defScope sTwoR, [], []⟩,
  ⟨fun K => He.ga K "_law_whole_right", "_law_whole_right", "_law_whole_right", defArgs sWholeR, defBody sWholeR, defScope sWholeR, [], []⟩,
  ⟨fun K => He.ga K "_law_right", "_law_right", "_law_right", defArgs sRight, defBody sRight, defScope sRight, [], []⟩,
  ⟨fun K => He.ga K "law", "law", "law", defArgs sLaw, defBody sLaw, defScope sLaw, [], []⟩] : List He5.DefA)
def cs : List Ask := ([
  aCls "Ratio",
  aNoat "Ratio" "_top",
  aNoat "Ratio" "_bottom",
  aGlo "Ratio",
  aSelf "Ratio",
  aSub (vb "int") (vc "Ratio") false,
  aSub (vc "Ratio") (vb "int") false,
  aFindB "Ratio" "__class__" "object.__class__",
  aObjG,
  aObjT,
  aMro "Ratio",
  aKit (vc "Ratio") (vc "Ratio") true,
  aKit (vb "int") (vc "Ratio") false,
  aFree "isinstance",
  aFree "int",
  aFree "bool",
  aFree "str",
  aBlt "gcd" "math.gcd",
  aFree "len",
  aFree "abs",
  aFree "max",
  aFree "min",
  aFree "divmod",
  aFree "range"] : List Ask) ++ ([
  aFree "all",
  aFree "zip",
  aFree "repr",
  aKit (vb "str") (vc "Ratio") false,
  aKit (vc "Ratio") (vb "int") false,
  aKit (vc "Ratio") (vb "bool") false,
  aKit (vc "Ratio") (vb "str") false,
  aCls "Table",
  aNoat "Table" "_points",
  aGlo "Table",
  aInt "PLACES" 5,
  aKit (vb "list") (vc "Ratio") false,
  aKit (vb "tuple") (vc "Ratio") false,
  aKit (vb "dict") (vc "Ratio") false,
  aKit (vb "NoneType") (vc "Ratio") false,
  aKit (vb "bool") (vc "Ratio") false,
  aKit (vc "Table") (vc "Ratio") false,
  aNF "Ratio" (vb "list"),
  aNF "Ratio" (vb "tuple"),
  aNF "Ratio" (vb "dict"),
  aNF "Ratio" (vb "NoneType"),
  aNF "Ratio" (vb "bool"),
  aNF "Ratio" (vb "str"),
  aNF "Ratio" (vb "int")] : List Ask) ++ ([
  aNF "Ratio" (vc "Table"),
  aSub (vc "Ratio") (vb "list") false,
  aSub (vc "Ratio") (vb "tuple") false,
  aSub (vc "Ratio") (vb "dict") false,
  aSub (vc "Ratio") (vb "NoneType") false,
  aSub (vc "Ratio") (vb "bool") false,
  aSub (vc "Ratio") (vb "str") false,
  aFindB "Table" "__class__" "object.__class__",
  aMro "Table",
  aNF "Table" (vc "Ratio"),
  aKit (vc "Ratio") (vc "Table") false,
  aGlo "is_integer",
  aMkr "Ratio",
  aGlo "as_ratio",
  aPrp "Ratio" "top",
  aPrp "Ratio" "bottom",
  aPrp "Ratio" "sign",
  aOp "Ratio" "__add__",
  aOp "Ratio" "__radd__",
  aIntS "__add__",
  aIntS "__radd__",
  aOp "Ratio" "__neg__",
  aOp "Ratio" "__sub__",
  aOp "Ratio" "__rsub__"] : List Ask) ++ ([
  aIntS "__sub__",
  aIntS "__rsub__",
  aOp "Ratio" "__str__",
  aOp "Ratio" "__repr__",
  aGlo "is_number",
  aMeth "Ratio" "is_below",
  aOp "Ratio" "__eq__",
  aFindB "Ratio" "__ne__" "object.__ne__",
  aNF "Ratio" (vc "Ratio"),
  aOp "Table" "__eq__",
  aGlo "check_many",
  aFree "enumerate",
  aGlo "check_points",
  aMkr "Table",
  aGlo "_law_pot",
  aGlo "_law_draw",
  aGlo "_law_pick",
  aGlo "_law_common",
  aGlo "_law_low",
  aGlo "_law_plus",
  aGlo "_law_minus",
  aGlo "_law_integer",
  aGlo "_law_parts",
  aGlo "_law_beside"] : List Ask) ++ ([
  aGlo "_law_made",
  aGlo "_law_two_right",
  aFree "any",
  aFree "list",
  aGlo "_law_whole_right",
  aGlo "_law_right",
  aGlo "law"] : List Ask)
end Hd
namespace Hd
open PySem PySem.Spec PyProof.Rows L2 Ow Rm Ra La
section
variable {P : Program} {w : World} {K : Fr} {h : Heap} {mg : Str → Option Value} {f : Addr}
theorem facts (X : K.In h) (G : h.Ns mainGlobals mg) (hfa : mg ("law" : Str) = some (.ref f)) (c : Says cs ds K) :
    ∃ fd : FuncData, (∀ (s : Shared) (v : Value), BindsTo s fd ⟨[v], []⟩ [("_law_script", v)]) ∧ ∀ base : Heap, K.In base → base.Ns mainGlobals mg → FnG P w K mg base CX0 13 f fd ["_law_script"] (spLaw K) := by
  obtain ⟨fd0, F0⟩ := c.dfn 0 rfl
  have F0 : FnP K "is_integer" "is_integer" sIsInt [] (He.ga K "is_integer") fd0 := F0
  obtain ⟨fd1, F1⟩ := c.dfn 1 rfl
  have F1 : FnP K "is_number" "is_number" sNumber [] (He.ga K "is_number") fd1 := F1
  obtain ⟨fd2, F2⟩ := c.dfn 2 rfl
  have F2 : FnP K "as_ratio" "as_ratio" sAsRatio [] (He.ga K "as_ratio") fd2 := F2
  obtain ⟨fd3, F3⟩ := c.dfn 3 rfl
  have F3 : FnP K "__init__" "Ratio.__init__" sInit [.int 1] (pac "Ratio" "__init__" K) fd3 := F3
  obtain ⟨fd4, F4⟩ := c.dfn 4 rfl
  have F4 : FnP K "top" "Ratio.top" sTop [] (getac "Ratio" "top" K) fd4 := F4
  obtain ⟨fd5, F5⟩ := c.dfn 5 rfl
  have F5 : FnP K "bottom" "Ratio.bottom" sBottom [] (getac "Ratio" "bottom" K) fd5 := F5
  obtain ⟨fd6, F6⟩ := c.dfn 6 rfl
  have F6 : FnP K "sign" "Ratio.sign" sSign [] (getac "Ratio" "sign" K) fd6 := F6
  obtain ⟨fd7, F7⟩ := c.dfn 7 rfl
  have F7 : FnP K "__add__" "Ratio.__add__" sAdd [] (pac "Ratio" "__add__" K) fd7 := F7
  obtain ⟨fd8, F8⟩ := c.dfn 8 rfl
  have F8 : FnP K "__sub__" "Ratio.__sub__" sSub [] (pac "Ratio" "__sub__" K) fd8 := F8
  obtain ⟨fd9, F9⟩ := c.dfn 9 rfl
  have F9 : FnP K "__neg__" "Ratio.__neg__" sNeg [] (pac "Ratio" "__neg__" K) fd9 := F9
  obtain ⟨fd10, F10⟩ := c.dfn 10 rfl
  have F10 : FnP K "is_below" "Ratio.is_below" sBelow [] (pac "Ratio" "is_below" K) fd10 := F10
  obtain ⟨fd11, F11⟩ := c.dfn 11 rfl
  have F11 : FnP K "__eq__" "Ratio.__eq__" sEq [] (pac "Ratio" "__eq__" K) fd11 := F11
  obtain ⟨fd12, F12⟩ := c.dfn 12 rfl
  have F12 : FnP K "__str__" "Ratio.__str__" sStr [] (pac "Ratio" "__str__" K) fd12 := F12
  obtain ⟨fd13, F13⟩ := c.dfn 13 rfl
  have F13 : FnP K "__repr__" "Ratio.__repr__" sRepr [] (pac "Ratio" "__repr__" K) fd13 := F13
  obtain ⟨fd14, F14⟩ := c.dfn 14 rfl
  have F14 : FnP K "check_many" "check_many" sMany [] (He.ga K "check_many") fd14 := F14
  obtain ⟨fd15, F15⟩ := c.dfn 15 rfl
  have F15 : FnP K "check_points" "check_points" sCheck [] (He.ga K "check_points") fd15 := F15
  obtain ⟨fd16, F16⟩ := c.dfn 16 rfl
  have F16 : FnP K "__init__" "Table.__init__" sTInit [] (pac "Table" "__init__" K) fd16 := F16
  obtain ⟨fd17, F17⟩ := c.dfn 17 rfl
  have F17 : FnP K "__eq__" "Table.__eq__" sTEq [] (pac "Table" "__eq__" K) fd17 := F17
  obtain ⟨fd18, F18⟩ := c.dfn 18 rfl
  have F18 : FnP K "_law_pot" "_law_pot" sPot [] (He.ga K "_law_pot") fd18 := F18
  obtain ⟨fd19, F19⟩ := c.dfn 19 rfl
  have F19 : FnP K "_law_draw" "_law_draw" sDraw [] (He.ga K "_law_draw") fd19 := F19
  obtain ⟨fd20, F20⟩ := c.dfn 20 rfl
  have F20 : FnP K "_law_pick" "_law_pick" sPick [] (He.ga K "_law_pick") fd20 := F20
  obtain ⟨fd21, F21⟩ := c.dfn 21 rfl
  have F21 : FnP K "_law_common" "_law_common" sCommon [] (He.ga K "_law_common") fd21 := F21
  obtain ⟨fd22, F22⟩ := c.dfn 22 rfl
  have F22 : FnP K "_law_low" "_law_low" sLow [] (He.ga K "_law_low") fd22 := F22
  obtain ⟨fd23, F23⟩ := c.dfn 23 rfl
  have F23 : FnP K "_law_plus" "_law_plus" sPlus [] (He.ga K "_law_plus") fd23 := F23
  obtain ⟨fd24, F24⟩ := c.dfn 24 rfl
  have F24 : FnP K "_law_minus" "_law_minus" sMinus [] (He.ga K "_law_minus") fd24 := F24
  obtain ⟨fd25, F25⟩ := c.dfn 25 rfl
  have F25 : FnP K "_law_integer" "_law_integer" sInteger [] (He.ga K "_law_integer") fd25 := F25
  obtain ⟨fd26, F26⟩ := c.dfn 26 rfl
  have F26 : FnP K "_law_parts" "_law_parts" sParts [] (He.ga K "_law_parts") fd26 := F26
  obtain ⟨fd27, F27⟩ := c.dfn 27 rfl
  have F27 : FnP K "_law_beside" "_law_beside" sBeside [] (He.ga K "_law_beside") fd27 := F27
  obtain ⟨fd28, F28⟩ := c.dfn 28 rfl
  have F28 : FnP K "_law_made" "_law_made" sMade [] (He.ga K "_law_made") fd28 := F28
  obtain ⟨fd29, F29⟩ := c.dfn 29 rfl
  have F29 : FnP K "_law_two_right" "_law_two_right" sTwoR [] (He.ga K "_law_two_right") fd29 := F29
  obtain ⟨fd30, F30⟩ := c.dfn 30 rfl
  have F30 : FnP K "_law_whole_right" "_law_whole_right" sWholeR [] (He.ga K "_law_whole_right") fd30 := F30
  obtain ⟨fd31, F31⟩ := c.dfn 31 rfl
  have F31 : FnP K "_law_right" "_law_right" sRight [] (He.ga K "_law_right") fd31 := F31
  obtain ⟨fd32, F32⟩ := c.dfn 32 rfl
  have F32 : FnP K "law" "law" sLaw [] (He.ga K "law") fd32 := F32
  have gl : ∀ x : Str, aGlo x K = true → mg x = some (.ref (He.ga K x)) := fun x e => He.glo_ok X G e
  have fr : ∀ x : Str, aFree x K = true → mg x = none := fun x e => He.free_ok X G e
  have e := hfa.symm.trans (gl "law" (c.ask 102 rfl))
  cases e
  have b0 : Binds K fd0 ["value"] [] := F0.bindsN fun _ _ _ _ _ _ us hl => match us, hl with | [_], _ => rfl
  have b1 : Binds K fd1 ["value"] [] := F1.bindsN fun _ _ _ _ _ _ us hl => match us, hl with | [_], _ => rfl
  have b2 : Binds K fd2 ["value"] [] := F2.bindsN fun _ _ _ _ _ _ us hl => match us, hl with | [_], _ => rfl
  have b4 : Binds K fd4 ["self"] [] := F4.bindsN fun _ _ _ _ _ _ us hl => match us, hl with | [_], _ => rfl
  have b5 : Binds K fd5 ["self"] [] := F5.bindsN fun _ _ _ _ _ _ us hl => match us, hl with | [_], _ => rfl
  have b6 : Binds K fd6 ["self"] [] := F6.bindsN fun _ _ _ _ _ _ us hl => match us, hl with | [_], _ => rfl
  have b7 : Binds K fd7 ["self", "other"] [] := F7.bindsN fun _ _ _ _ _ _ us hl => match us, hl with | [_, _], _ => rfl
  have b8 : Binds K fd8 ["self", "other"] [] := F8.bindsN fun _ _ _ _ _ _ us hl => match us, hl with | [_, _], _ => rfl
  have b9 : Binds K fd9 ["self"] [] := F9.bindsN fun _ _ _ _ _ _ us hl => match us, hl with | [_], _ => rfl
  have b10 : Binds K fd10 ["self", "other"] [] := F10.bindsN fun _ _ _ _ _ _ us hl => match us, hl with | [_, _], _ => rfl
  have b11 : Binds K fd11 ["self", "other"] [] := F11.bindsN fun _ _ _ _ _ _ us hl => match us, hl with | [_, _], _ => rfl
  have b12 : Binds K fd12 ["self"] [] := F12.bindsN fun _ _ _ _ _ _ us hl => match us, hl with | [_], _ => rfl
  have b13 : Binds K fd13 ["self"] [] := F13.bindsN fun _ _ _ _ _ _ us hl => match us, hl with | [_], _ => rfl
  have b14 : Binds K fd14 ["numbers"] [] := F14.bindsN fun _ _ _ _ _ _ us hl => match us, hl with | [_], _ => rfl
  have b15 : Binds K fd15 ["points"] [] := F15.bindsN fun _ _ _ _ _ _ us hl => match us, hl with | [_], _ => rfl
  have b17 : Binds K fd17 ["self", "other"] [] := F17.bindsN fun _ _ _ _ _ _ us hl => match us, hl with | [_, _], _ => rfl
  have b18 : Binds K fd18 ["_law_script", "_law_k"] [] := F18.bindsN fun _ _ _ _ _ _ us hl => match us, hl with | [_, _], _ => rfl
  have b19 : Binds K fd19 ["_law_pot_here", "_law_many"] [] := F19.bindsN fun _ _ _ _ _ _ us hl => match us, hl with | [_, _], _ => rfl
  have b20 : Binds K fd20 ["_law_pot_here", "_law_some"] [] := F20.bindsN fun _ _ _ _ _ _ us hl => match us, hl with | [_, _], _ => rfl
  have b21 : Binds K fd21 ["_law_one", "_law_two"] [] := F21.bindsN fun _ _ _ _ _ _ us hl => match us, hl with | [_, _], _ => rfl
  have b22 : Binds K fd22 ["_law_up", "_law_low_here"] [] := F22.bindsN fun _ _ _ _ _ _ us hl => match us, hl with | [_, _], _ => rfl
  have b23 : Binds K fd23 ["_law_a", "_law_b"] [] := F23.bindsN fun _ _ _ _ _ _ us hl => match us, hl with | [_, _], _ => rfl
  have b24 : Binds K fd24 ["_law_a", "_law_b"] [] := F24.bindsN fun _ _ _ _ _ _ us hl => match us, hl with | [_, _], _ => rfl
  have b25 : Binds K fd25 ["_law_pot_here"] [] := F25.bindsN fun _ _ _ _ _ _ us hl => match us, hl with | [_], _ => rfl
  have b26 : Binds K fd26 ["_law_pot_here"] [] := F26.bindsN fun _ _ _ _ _ _ us hl => match us, hl with | [_], _ => rfl
  have b27 : Binds K fd27 ["_law_pot_here", "_law_a"] [] := F27.bindsN fun _ _ _ _ _ _ us hl => match us, hl with | [_, _], _ => rfl
  have b28 : Binds K fd28 ["_law_pot_here", "_law_a"] [] := F28.bindsN fun _ _ _ _ _ _ us hl => match us, hl with | [_, _], _ => rfl
  have b29 : Binds K fd29 ["_law_one", "_law_two", "_law_a", "_law_b"] [] := F29.bindsN fun _ _ _ _ _ _ us hl => match us, hl with | [_, _, _, _], _ => rfl
  have b30 : Binds K fd30 ["_law_pot_here", "_law_one", "_law_a"] [] := F30.bindsN fun _ _ _ _ _ _ us hl => match us, hl with | [_, _, _], _ => rfl
  have b31 : Binds K fd31 ["_law_pot_here"] [] := F31.bindsN fun _ _ _ _ _ _ us hl => match us, hl with | [_], _ => rfl
  have bL := FunD.bindsA (ps := ["_law_script"]) F32 fun _ _ _ _ _ _ us hl => match us, hl with | [_], _ => rfl
  refine ⟨fd32, fun s v => bL s [v] rfl, fun base _ _ => ?_⟩

  have T : RT K mg (He.ga K "Ratio") := ⟨He.cls_ok (c.ask 0 rfl), He.noat_ok (c.ask 1 rfl), He.noat_ok (c.ask 2 rfl), (gl "Ratio" (c.ask 3 rfl)), num_of (c.ask 4 rfl) (c.ask 5 rfl) (c.ask 6 rfl), He.eqO_ok (c.ask 7 rfl), He.eqO_ok (c.ask 8 rfl), of_decide_eq_true (c.ask 9 rfl),
    mro_of (c.ask 10 rfl), (kit_of' (c.ask 11 rfl)), (kit_of' (c.ask 12 rfl)), (fr "isinstance" (c.ask 13 rfl)), (fr "int" (c.ask 14 rfl)), (fr "bool" (c.ask 15 rfl)), (fr "str" (c.ask 16 rfl)), PySem.W.mg_of X G (He.eqO_ok (c.ask 17 rfl))⟩
  have L : LT mg := ⟨(fr "len" (c.ask 18 rfl)), (fr "abs" (c.ask 19 rfl)), (fr "max" (c.ask 20 rfl)), (fr "min" (c.ask 21 rfl)), (fr "int" (c.ask 14 rfl)), (fr "divmod" (c.ask 22 rfl)), (fr "range" (c.ask 23 rfl)), (fr "all" (c.ask 24 rfl)), (fr "zip" (c.ask 25 rfl)), (fr "repr" (c.ask 26 rfl)), (fr "str" (c.ask 16 rfl)), (fr "isinstance" (c.ask 13 rfl))⟩
  have KT1 : Ra.KT K mg (He.ga K "Ratio") := ⟨(kit_of' (c.ask 27 rfl)), (kit_of' (c.ask 28 rfl)), (kit_of' (c.ask 29 rfl)), (kit_of' (c.ask 30 rfl)), (fr "len" (c.ask 18 rfl)), (fr "all" (c.ask 24 rfl))⟩
  have U : TT K mg (He.ga K "Table") := ⟨He.cls_ok (c.ask 31 rfl), He.noat_ok (c.ask 32 rfl), (gl "Table" (c.ask 33 rfl)), (fr "len" (c.ask 18 rfl)), (fr "range" (c.ask 23 rfl)), He.int_ok X G (c.ask 34 rfl)⟩
  have W : La.WO K (He.ga K "Ratio") (He.ga K "Table") := ⟨(kit_of' (c.ask 35 rfl)), (kit_of' (c.ask 36 rfl)), (kit_of' (c.ask 37 rfl)), (kit_of' (c.ask 38 rfl)), (kit_of' (c.ask 39 rfl)), (kit_of' (c.ask 27 rfl)), (kit_of' (c.ask 40 rfl)),
    (c.ask 41 rfl), (c.ask 42 rfl), (c.ask 43 rfl), (c.ask 44 rfl), (c.ask 45 rfl), (c.ask 46 rfl), (c.ask 47 rfl), (c.ask 48 rfl),
    (sub_of (c.ask 49 rfl)), (sub_of (c.ask 50 rfl)), (sub_of (c.ask 51 rfl)), (sub_of (c.ask 52 rfl)), (sub_of (c.ask 53 rfl)), (sub_of (c.ask 54 rfl)),
    He.eqO_ok (c.ask 55 rfl), mro_of (c.ask 56 rfl), (c.ask 57 rfl), (kit_of' (c.ask 58 rfl))⟩
  have dInt : Dfn P w K mg base 1 "is_integer" ["value"] (spInt K) := ⟨⟨_, fd0, ok_isint F0 T, (gl "is_integer" (c.ask 59 rfl)), F0.kp, b0⟩⟩
  have iN : FnOk P w K mg base CX0 2 (pac "Ratio" "__init__" K) fd3 ["self", "top", "bottom"] (spInit (He.ga K "Ratio")) := ok_init F3 T dInt
  have M : RMk P w K mg base (He.ga K "Ratio") := by
    obtain ⟨ds2, hv2, hb2⟩ := F3.binds1 (ps := ["self", "top", "bottom"]) 3 1 (by simp) rfl fun T kV doc pm an cdv ct us its h1 h2 => match us, h1, its, h2 with | [_, _, _], _, [_], _ => ⟨_, rfl, rfl⟩
    cases hv2
    obtain ⟨ds1, hv1, hb1⟩ := F3.binds1 (ps := ["self", "top", "bottom"]) 2 0 (by simp) rfl fun T kV doc pm an cdv ct us its h1 h2 => match us, h1, its, h2 with | [_, _], _, [_], _ => ⟨_, rfl, rfl⟩
    obtain ⟨its2, kb2⟩ := F3.kbindsD (ps := ["self", "top", "bottom"]) 1 ["bottom", "top"] mix (by simp) mix_ok fun T kV doc pm an cdv ct us its ws h1 h2 h3 => match us, h1, its, h2, ws, h3 with | [_], _, [_], _, [_, _], _ => ⟨_, rfl, rfl⟩
    exact ⟨⟨(pac "Ratio" "__init__" K), fd3, He.mkr_ok (c.ask 60 rfl), iN, hb2, ⟨ds1, hv1, hb1⟩, _, _, kb2, fun _ _ _ => rfl⟩⟩
  have dAs : Dfn P w K mg base 4 "as_ratio" ["value"] (spAs (He.ga K "Ratio")) := ⟨⟨_, fd2, ok_as F2 T M, (gl "as_ratio" (c.ask 61 rfl)), F2.kp, b2⟩⟩
  have pT : Prp P w K mg base (He.ga K "Ratio") "top" (spTop (He.ga K "Ratio")) := ⟨⟨_, _, fd4, prp_of (c.ask 62 rfl), ok_top F4 T, b4⟩⟩
  have pB : Prp P w K mg base (He.ga K "Ratio") "bottom" (spBottom (He.ga K "Ratio")) := ⟨⟨_, _, fd5, prp_of (c.ask 63 rfl), ok_bottom F5 T, b5⟩⟩
  have pS : Prp P w K mg base (He.ga K "Ratio") "sign" (spSign (He.ga K "Ratio")) := ⟨⟨_, _, fd6, prp_of (c.ask 64 rfl), ok_sign F6 T, b6⟩⟩
  have oA : OpX P w K mg base (He.ga K "Ratio") .Add 5 (spBin plus (He.ga K "Ratio")) := ⟨⟨_, fd7, op_of (c.ask 65 rfl), ok_add F7 T M dAs pT pB, b7⟩, ⟨_, (op_of (x := "__radd__") (c.ask 66 rfl)).at_, .inr ⟨_, rfl⟩⟩, int_of (x := "__add__") (c.ask 67 rfl), int_of (x := "__radd__") (c.ask 68 rfl)⟩
  have oN : OpN P w K mg base (He.ga K "Ratio") 4 (spNeg (He.ga K "Ratio")) := ⟨⟨_, fd9, op_of (c.ask 69 rfl), ok_neg F9 T M, b9⟩⟩
  have oS : OpX P w K mg base (He.ga K "Ratio") .Sub 6 (spBin minus (He.ga K "Ratio")) := ⟨⟨_, fd8, op_of (c.ask 70 rfl), ok_sub F8 T oA oN dAs, b8⟩, ⟨_, (op_of (x := "__rsub__") (c.ask 71 rfl)).at_, .inr ⟨_, rfl⟩⟩, int_of (x := "__sub__") (c.ask 72 rfl), int_of (x := "__rsub__") (c.ask 73 rfl)⟩
  have sS : La.ShX P w K mg base (He.ga K "Ratio") "__str__" txt := ⟨⟨_, fd12, op_of (c.ask 74 rfl), ok_str F12 T, b12⟩⟩
  have sR : La.ShX P w K mg base (He.ga K "Ratio") "__repr__" shw := ⟨⟨_, fd13, op_of (c.ask 75 rfl), ok_repr F13 T, b13⟩⟩
  have dNum : Dfn P w K mg base 2 "is_number" ["value"] (spKnd K (He.ga K "Ratio") isN) := ⟨⟨_, fd1, ok_number F1 KT1 T dInt, (gl "is_number" (c.ask 76 rfl)), F1.kp, b1⟩⟩
  have fB := ok_below (P := P) (w := w) (base := base) F10 T oS pS
  have kBl := kb_plain (ps := ["self", "other"]) F10 1 ["other"] fun kV doc pm an cdv ct us ws h1 h2 => match us, h1, ws, h2 with | [_], _, [_], _ => rfl
  have mB : MtX P w K mg base (He.ga K "Ratio") "is_below" 7 (spBelow (He.ga K "Ratio")) := ⟨⟨_, _, He.meth_ok (c.ask 77 rfl), fB, b10, kBl⟩⟩
  have Q_ : EqX P w K mg base (He.ga K "Ratio") := ⟨⟨_, _, op_of (c.ask 78 rfl), ok_eqv F11 T, b11⟩, He.eqO_ok (c.ask 79 rfl), (c.ask 80 rfl)⟩
  have E_ : La.TEq P w K mg base (He.ga K "Table") := ⟨⟨_, _, op_of (c.ask 81 rfl), La.ok_teq F17 T U, b17⟩⟩
  have dMany : Dfn P w K mg base 1 "check_many" ["numbers"] (spMany K) := ⟨⟨_, fd14, ok_many F14 U.len U.places, (gl "check_many" (c.ask 82 rfl)), F14.kp, b14⟩⟩
  have dCheck : Dfn P w K mg base 8 "check_points" ["points"] (spCheck K) := ⟨⟨_, fd15, ok_check F15 T (fr "enumerate" (c.ask 83 rfl)) dMany dNum dAs pS (He.meth_ok (c.ask 77 rfl)) fB b10, (gl "check_points" (c.ask 84 rfl)), F15.kp, b15⟩⟩
  have tM : La.TMk P w K mg base (He.ga K "Table") := ⟨⟨_, He.mkr_ok (c.ask 85 rfl), ok_tinit F16 T U M dAs dCheck⟩⟩
  have dPot : Dfn P w K mg base 1 "_law_pot" ["_law_script", "_law_k"] (spPot K) := ⟨⟨_, fd18, ok_pot F18 L, (gl "_law_pot" (c.ask 86 rfl)), F18.kp, b18⟩⟩
  have dDraw : Dfn P w K mg base 1 "_law_draw" ["_law_pot_here", "_law_many"] spDraw := ⟨⟨_, fd19, ok_draw F19 L, (gl "_law_draw" (c.ask 87 rfl)), F19.kp, b19⟩⟩
  have dPick : Dfn P w K mg base 2 "_law_pick" ["_law_pot_here", "_law_some"] spPick := ⟨⟨_, fd20, ok_pick F20 L dDraw, (gl "_law_pick" (c.ask 88 rfl)), F20.kp, b20⟩⟩
  have dCom : Dfn P w K mg base 1 "_law_common" ["_law_one", "_law_two"] spCommon := ⟨⟨_, fd21, ok_common F21 L, (gl "_law_common" (c.ask 89 rfl)), F21.kp, b21⟩⟩
  have dLow : Dfn P w K mg base 2 "_law_low" ["_law_up", "_law_low_here"] spLow := ⟨⟨_, fd22, ok_low F22 dCom, (gl "_law_low" (c.ask 90 rfl)), F22.kp, b22⟩⟩
  have dPlus : Dfn P w K mg base 3 "_law_plus" ["_law_a", "_law_b"] (spP2 plus) := ⟨⟨_, fd23, ok_plus F23 dLow, (gl "_law_plus" (c.ask 91 rfl)), F23.kp, b23⟩⟩
  have dMinus : Dfn P w K mg base 3 "_law_minus" ["_law_a", "_law_b"] (spP2 minus) := ⟨⟨_, fd24, ok_minus F24 dLow, (gl "_law_minus" (c.ask 92 rfl)), F24.kp, b24⟩⟩
  have dIg : Dfn P w K mg base 3 "_law_integer" ["_law_pot_here"] spInteger := ⟨⟨_, fd25, ok_integer F25 dDraw dPick, (gl "_law_integer" (c.ask 93 rfl)), F25.kp, b25⟩⟩
  have dPa : Dfn P w K mg base 4 "_law_parts" ["_law_pot_here"] spParts := ⟨⟨_, fd26, ok_parts F26 dIg dPick, (gl "_law_parts" (c.ask 94 rfl)), F26.kp, b26⟩⟩
  have dBs : Dfn P w K mg base 5 "_law_beside" ["_law_pot_here", "_law_a"] spBeside := ⟨⟨_, fd27, ok_beside F27 dDraw dPa dLow dPlus dMinus, (gl "_law_beside" (c.ask 95 rfl)), F27.kp, b27⟩⟩
  have dMd : Dfn P w K mg base 4 "_law_made" ["_law_pot_here", "_law_a"] (spMade (He.ga K "Ratio")) := ⟨⟨_, fd28, ok_made F28 T M dPick, (gl "_law_made" (c.ask 96 rfl)), F28.kp, b28⟩⟩
  have dTw : La.DfnG P w K mg base 9 "_law_two_right" ["_law_one", "_law_two", "_law_a", "_law_b"] (spTwoR (He.ga K "Ratio")) := ⟨⟨_, fd29, ok_twor F29 T L mB Q_, (gl "_law_two_right" (c.ask 97 rfl)), F29.kp, b29⟩⟩
  have dWh : La.DfnG P w K mg base 11 "_law_whole_right" ["_law_pot_here", "_law_one", "_law_a"] (spWhole (He.ga K "Ratio")) := ⟨⟨_, fd30, ok_whole F30 T L (fr "any" (c.ask 98 rfl)) (fr "list" (c.ask 99 rfl)) U W M tM dIg mB Q_ E_ sS sR, (gl "_law_whole_right" (c.ask 100 rfl)), F30.kp, b30⟩⟩
  have dRi : La.DfnG P w K mg base 12 "_law_right" ["_law_pot_here"] spRi := ⟨⟨_, fd31, ok_right F31 T L (fr "enumerate" (c.ask 83 rfl)) dLow dBs dMd dTw dWh mB Q_, (gl "_law_right" (c.ask 101 rfl)), F31.kp, b31⟩⟩
  exact ok_law F32 L dPot dRi
end
end Hd
namespace Hd
open PySem PySem.Spec PyProof.Rows L2
abbrev ORow : PySem.W.OpenRow := PySem.W.OpenLaw.row PySem.Challenge.rw_anypoints_k12_ratios_compared
abbrev hk : PySem.W.Hook := hkOf 5 cs ds
def ob (s : PySem.W.SharedT) : He.AlD := lookG 5 cs ds (HandSHeadRun.getT s)
theorem ob_eq (s : PySem.W.SharedT) : ob s = hk.obs s.abs := lookG_eq (HandSHeadRun.getT_eq s)
def loose : List Str := (["_wall", "__name__", "PointsError", "InvalidNumber", "InvalidPoints", "InvalidPlace", "InvalidTable", "StateError", "DividedByZero", "is_integer", "is_number", "as_ratio", "Ratio", "PLACES", "is_place", "check_table"] : List Str) ++ (["check_many", "check_points", "Table", "_law_pot", "_law_draw", "_law_pick", "_law_common", "_law_low", "_law_plus", "_law_minus", "_law_times", "_law_integer", "_law_parts", "_law_beside", "_law_made", "_law_two_right"] : List Str) ++ (["_law_whole_right", "_law_right"] : List Str)
end Hd
namespace Hd
open PySem PySem.Spec PyProof.Rows L2
abbrev qv : Program := PySem.W.view ORow.prog [0, 38]
theorem run (w : World) : HandSHeadRun.RunEqI ORow qv hk ob 30000 loose w := by
  unfold HandSHeadRun.RunEqI
  kernel_rfl
end Hd
open PySem PySem.W PySem.Calls PyProof.Rows
theorem PySem.Challenge.cw_anypoints_k12_ratios_compared_holds : PySem.Challenge.rw_anypoints_k12_ratios_compared.Holds := by
  w_on; o_law
  refine HandSHeadRun.head_imp (r := Hd.ORow) (q := Hd.qv) (H := Hd.hk) (ob := Hd.ob) (M := 30000) (loose := Hd.loose) (d := HandSHeadRun.topDef Hd.ORow.prog 38) (kwd := []) Hd.ob_eq Hd.run
    (by kernel_rfl) (by kernel_rfl) (by kernel_rfl) (by rfl) (by first | assumption | decide +kernel) (by decide +kernel) ⟨rfl, rfl, rfl, rfl, rfl, by decide +kernel⟩ ?hw ?hc
  case hw => w_witness2
  case hc =>
    refine Ow.walk_ofG (l := PySem.Challenge.rw_anypoints_k12_ratios_compared) (n := 63) (k := 13) (x := "_law_script") (CX := L2.CX0) rfl (by decide) (by kernel_rfl) ⟨rfl, by decide, by decide⟩ ?F (fun _ _ _ _ z => z)
    intro w mg fa h Y G hmg0
    obtain ⟨K, KX, c⟩ := Y
    have hmg : mg ("law" : PySem.Str) = some (.ref fa) := by
      have e : (HandSHeadRun.topDef Hd.ORow.prog 38).name = ("law" : PySem.Str) := by kernel_rfl
      rw [← e]
      exact hmg0
    obtain ⟨fd, hb, hF⟩ := Hd.facts (P := (PySem.Challenge.rw_anypoints_k12_ratios_compared).prog) (w := w) KX G hmg c
    exact ⟨K, fd, La.spLaw K, KX, hb, fun H a ns hl _ hS => ⟨a, ns, rfl, hl, hS, fun _ => rfl⟩, hF⟩
